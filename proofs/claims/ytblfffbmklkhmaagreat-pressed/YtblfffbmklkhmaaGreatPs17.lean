/- Own work. -/
import Derived.Test.YtblfffbmklkhmaaGreatPs16
import Derived.Test.YtblfffbmklkhmaaGreatPs14
import Derived.Test.YtblfffbmklkhmaaGreatPs10
import Derived.Test.YtblfffbmklkhmaaGreatPs7
import Derived.Deep.RegionHeld3
namespace Go.Proofs.YtblfffbmklkhmaaGreat
open Go.RowKit
/-- A node of a grove. -/
structure GN where
  b : Nat
  num : Nat
  par : Int
  kind : ByteArray
  name : ByteArray
  c0 : Bool
  c1 : Bool
  c2 : Bool
  c3 : Bool
  kids : List Nat
  ks : Value
def GN.blk (n : GN) : Obj := .cells #[.int .i64 n.num, .int .i64 n.par, .string n.kind, .string n.name, .bool n.c0, .bool n.c1, .bool n.c2, .bool n.c3, n.ks] 42 (0, 0)
abbrev GN.ptr (n : GN) : Value := .pointer (some ⟨n.b, 0, none⟩)
/-- The grove in memory. -/
structure GR (w : World) (g : Nat) (px vl : Value) (made : Nat) (by' : Int) (ns : List GN) : Prop where
  blk : w.heap[g]? = some (.cells #[px, vl, .int .i64 made, .int .i64 by'] 36 (0, 0))
  row : w.ownsRow 0 43 1 vl ns.length (ns.map GN.ptr)
  nd : ∀ n ∈ ns, w.heap[n.b]? = some n.blk
  kid : ∀ n ∈ ns, w.ownsRow 0 3 1 n.ks n.kids.length (ints n.kids)
/-- What the nodes stand for. -/
structure GT (ns : List GN) (T : Tree) (made : Nat) : Prop where
  tree : T = ns.map fun n => (n.num, n.kids)
  tw : TW T made
  par : ∀ n ∈ ns, n.par = tPar T n.num
  few : ns.length ≤ 24
section
variable {w w' : World} {g : Nat} {px vl : Value} {made : Nat} {by' : Int} {ns : List GN} {T : Tree}
theorem GR.below (h : GR w g px vl made by' ns) (hB : Below w.heap.size w w') : GR w' g px vl made by' ns :=
  ⟨(hB.block g (Array.getElem?_eq_some_iff.1 h.blk).1).trans h.blk, own_below h.row hB, fun n hn => (hB.block n.b (Array.getElem?_eq_some_iff.1 (h.nd n hn)).1).trans (h.nd n hn), fun n hn => own_below (h.kid n hn) hB⟩
theorem GR.c1 (h : GR w g px vl made by' ns) : w.cell? ⟨g, 1, none⟩ = some vl := cell_of_blk h.blk rfl
theorem GR.c2 (h : GR w g px vl made by' ns) : w.cell? ⟨g, 2, none⟩ = some (.int .i64 made) := cell_of_blk h.blk rfl
theorem GR.c3 (h : GR w g px vl made by' ns) : w.cell? ⟨g, 3, none⟩ = some (.int .i64 by') := cell_of_blk h.blk rfl
theorem GR.lt (h : GR w g px vl made by' ns) : g < w.heap.size := (Array.getElem?_eq_some_iff.1 h.blk).1
theorem GR.at' {a : Option Addr} {c : Nat} (h : GR w g px (.slice a ns.length c) made by' ns) {i : Nat} (hi : i < ns.length) : ∃ r, a = some ⟨r, 0, none⟩ ∧ r < w.heap.size ∧ w.cell? ⟨r, i, none⟩ = some ns[i].ptr ∧ ns[i].b < w.heap.size ∧ w.heap[ns[i].b]? = some ns[i].blk := by
  obtain ⟨r, hr, hrl, hc⟩ := own_cells h.row (by omega)
  refine ⟨r, hr, hrl, hc i _ (by simp [hi]), (Array.getElem?_eq_some_iff.1 (h.nd _ (List.getElem_mem hi))).1, h.nd _ (List.getElem_mem hi)⟩
theorem GT.nums (h : GT ns T made) : (ns.map GN.num).Nodup := by
  have := h.tw.nums
  rw [h.tree, List.map_map] at this
  exact this
theorem gn_inj (h : (ns.map GN.num).Nodup) {x y : GN} (hx : x ∈ ns) (hy : y ∈ ns) (hn : x.num = y.num) : x = y := by
  induction ns with
  | nil => cases hx
  | cons z l ih =>
    rw [List.map_cons, List.nodup_cons] at h
    rcases List.mem_cons.1 hx with h1 | h1 <;> rcases List.mem_cons.1 hy with h2 | h2
    · rw [h1, h2]
    · rw [h1] at hn
      exact absurd (List.mem_map.2 ⟨y, h2, hn.symm⟩) h.1
    · rw [h2] at hn
      exact absurd (List.mem_map.2 ⟨x, h1, hn⟩) h.1
    · exact ih h.2 h1 h2
/-- The node of a number. -/
def findG (ns : List GN) (n : Int) : Option GN := ns.find? fun x => decide ((x.num : Int) = n)
theorem findG_at {n : Int} {i : Nat} (hi : i < ns.length) (hno : ∀ j (_ : j < ns.length), j < i → ¬ (ns[j].num : Int) = n) (h : (ns[i].num : Int) = n) : findG ns n = some ns[i] := by
  unfold findG
  rw [List.find?_eq_some_iff_getElem]
  refine ⟨by simpa using h, i, hi, rfl, fun j hj => ?_⟩
  have := hno j (by omega) hj
  simpa using this
theorem findG_no {n : Int} (hno : ∀ j (_ : j < ns.length), ¬ (ns[j].num : Int) = n) : findG ns n = none := by
  unfold findG
  rw [List.find?_eq_none]
  intro x hx
  obtain ⟨j, hj, rfl⟩ := List.getElem_of_mem hx
  simpa using hno j hj
theorem findG_some {n : Int} {x : GN} (h : findG ns n = some x) : x ∈ ns ∧ (x.num : Int) = n := ⟨List.mem_of_find?_eq_some h, by simpa using List.find?_some h⟩
theorem findG_mem (h : (ns.map GN.num).Nodup) {x : GN} (hx : x ∈ ns) : findG ns x.num = some x := by
  cases hf : findG ns x.num with
  | none =>
    unfold findG at hf
    rw [List.find?_eq_none] at hf
    exact absurd (by simp) (hf x hx)
  | some y =>
    obtain ⟨hy, he⟩ := findG_some hf
    rw [gn_inj h hy hx (by omega)]
end
section
set_option maxRecDepth 100000
set_option maxHeartbeats 1500000
variable (w : World) (g : Nat) (px vl : Value) (made : Nat) (by' : Int) (ns : List GN)
theorem kfind_any (n : Int) (h : GR w g px vl made by' ns) (hl : ns.length ≤ 24) (h0 : 0 < ns.length) : Calls Tryz.prog 26 #[.pointer (some ⟨g, 0, none⟩), .int .i64 n] w fun e w' => e = .returned ((findG ns n).getD ns[0]).ptr ∧ w' = w := by
  obtain ⟨a, c, hv⟩ := own_shape h.row
  subst hv
  have HG : Hid (GR w g px (.slice a ns.length c) made by' ns) := h
  have q1 := h.c1
  clear h
  go_enter Tryz.func26, Tryz.ntmps26
  go_wp2_with fail
  go_loopg [5] ns.length (fun gk iv wr => ∃ i : Nat, iv = .int .i64 i ∧ i ≤ ns.length ∧ ns.length - i ≤ gk ∧ wr = w ∧ Hid (∀ j (_ : j < ns.length), j < i → ¬ (ns[j].num : Int) = n))
  case atStart => exact ⟨0, rfl, Nat.zero_le _, by omega, rfl, fun j _ h => by omega⟩
  case round =>
    obtain ⟨i, rfl, hi, hgk, rfl, HN⟩ := hrel
    by_cases hlt : i < ns.length
    · have hd : decide ((i : Int) < (ns.length : Int)) = true := by simp; omega
      obtain ⟨r, hr, hrl, q2, hbl, hblk⟩ := HG.out.at' hlt
      subst hr
      have q3 : wr.cell? ⟨ns[i].b, 0, none⟩ = some (.int .i64 ns[i].num) := cell_of_blk hblk rfl
      have HF : Hid ((ns[i].num : Int) = n → findG ns n = some ns[i]) := fun h => findG_at hlt HN.out h
      have HNX : Hid (¬ (ns[i].num : Int) = n → ∀ j (_ : j < ns.length), j < i + 1 → ¬ (ns[j].num : Int) = n) := fun hm j hj h1 => by
        by_cases e : j = i
        · subst e; exact hm
        · exact HN.out j hj (by omega)
      clear hblk
      generalize ns[i] = x at q2 q3 hbl HF HNX
      by_cases hx : (x.num : Int) = n
      · have gx : ((x.num : Int) == n) = true := by simp [hx]
        have HR : Hid (Ending.returned x.ptr = .returned ((findG ns n).getD ns[0]).ptr) := by unfold Hid; rw [HF.out hx]; rfl
        clear hx HF HNX
        go_wp2
        go_ret
        exact ⟨HR.out, rfl⟩
      · have gx : ((x.num : Int) == n) = false := by simp [hx]
        have HN2 : Hid (∀ j (_ : j < ns.length), j < i + 1 → ¬ (ns[j].num : Int) = n) := HNX.out hx
        clear hx HF HNX
        go_wp2
        go_roundg (ns.length - (i + 1))
        case measure => omega
        case rel => exact ⟨i + 1, by go_num, by omega, Nat.le_refl _, rfl, HN2⟩
    · have hd : decide ((i : Int) < (ns.length : Int)) = false := by simp; omega
      obtain ⟨r, hr, hrl, q2, hbl, hblk⟩ := HG.out.at' h0
      subst hr
      obtain ⟨x, hx⟩ : ∃ x, ns[0] = x := ⟨_, rfl⟩
      have HR : Hid (Ending.returned x.ptr = .returned ((findG ns n).getD ns[0]).ptr) := by unfold Hid; rw [findG_no (fun j hj => HN.out j hj (by omega)), ← hx]; rfl
      have h0' : (0 : Int) < (ns.length : Int) := by omega
      rw [hx] at q2 hbl
      clear hblk hx
      go_wp2
      go_ret
      exact ⟨HR.out, rfl⟩
theorem kunder_any {T : Tree} (a : Nat) (x0 : GN) (hx0 : x0 ∈ ns) (h : GR w g px vl made by' ns) (ht : GT ns T made) : Calls Tryz.prog 117 #[.pointer (some ⟨g, 0, none⟩), .int .i64 a, x0.ptr] w fun e w' => e = .returned (.bool (tUnderB T a x0.num)) ∧ w' = w := by
  have HG : Hid (GR w g px vl made by' ns) := h
  have HT : Hid (GT ns T made) := ht
  have hl := ht.few
  have h0 : 0 < ns.length := List.length_pos_of_mem hx0
  obtain ⟨rk, hrk⟩ := ht.tw.rank
  have HRK : Hid (∀ e ∈ T, ∀ k ∈ e.2, rk e.1 < rk k) := hrk
  clear h ht hrk
  go_enter Tryz.func117, Tryz.ntmps117
  go_wp2_with fail
  go_loopg [2] (rk x0.num) (fun gk nv wr => ∃ x : GN, nv = x.ptr ∧ wr = w ∧ rk x.num ≤ gk ∧ Hid (x ∈ ns ∧ tUnderB T a x0.num = tUnderB T a x.num))
  case atStart => exact ⟨x0, rfl, rfl, Nat.le_refl _, hx0, rfl⟩
  case round =>
    obtain ⟨x, rfl, rfl, hgk, HN⟩ := hrel
    have hblk := HG.out.nd x HN.out.1
    have hbl : x.b < wr.heap.size := (Array.getElem?_eq_some_iff.1 hblk).1
    have q0 : wr.cell? ⟨x.b, 0, none⟩ = some (.int .i64 x.num) := cell_of_blk hblk rfl
    have q1 : wr.cell? ⟨x.b, 1, none⟩ = some (.int .i64 x.par) := cell_of_blk hblk rfl
    have HP : Hid (x.par = tPar T x.num) := HT.out.par x HN.out.1
    have HM : Hid ((x.num, x.kids) ∈ T) := by unfold Hid; rw [HT.out.tree]; exact List.mem_map.2 ⟨x, HN.out.1, rfl⟩
    clear hblk
    by_cases hxa : x.num = a
    · have gx : ((x.num : Int) != (a : Int)) = false := by simp [hxa]
      have HR : Hid (Ending.returned (.bool true) = .returned (.bool (tUnderB T a x0.num))) := by
        have : tUnderB T a x0.num = true := by rw [HN.out.2, tUnderB_iff, hxa]; exact under_self T a
        unfold Hid
        rw [this]
      clear hxa
      go_wp2
      go_ret
      exact ⟨HR.out, rfl⟩
    · have gx : ((x.num : Int) != (a : Int)) = true := by simp; omega
      by_cases hp : x.par < 0
      · have gp : decide (x.par < 0) = true := by simpa using hp
        have HR : Hid (Ending.returned (.bool false) = .returned (.bool (tUnderB T a x0.num))) := by
          have : ¬ tUnder T a x.num := by
            rintro ⟨_, k, hk⟩
            cases k with
            | zero => have : (x.num : Int) = a := hk; omega
            | succ k =>
              have hk' : tUp T k (tPar T x.num) = a := hk
              have := tUp_neg T (n := tPar T x.num) (by rw [← HP.out]; exact hp) k
              omega
          have h2 : tUnderB T a x0.num = false := by
            rw [HN.out.2]
            cases hb : tUnderB T a x.num with
            | false => rfl
            | true => exact absurd (tUnderB_iff.1 hb) this
          unfold Hid
          rw [h2]
        clear hp hxa
        go_wp2
        go_ret
        exact ⟨HR.out, rfl⟩
      · have gp : decide (x.par < 0) = false := by simpa using hp
        obtain ⟨y, hy⟩ : ∃ y, Hid (y ∈ ns ∧ (y.num : Int) = x.par ∧ rk y.num < rk x.num ∧ tUnderB T a x.num = tUnderB T a y.num) := by
          rcases tPar_cases T x.num with ⟨h1, _⟩ | ⟨e, he, h1, h2⟩
          · rw [HP.out, h1] at hp
            exact absurd (by decide) hp
          · rw [HT.out.tree] at he
            obtain ⟨y, hy, hye⟩ := List.mem_map.1 he
            have he' : e ∈ T := by rw [HT.out.tree]; exact he
            have hk : x.num ∈ e.2 := tHas_nat.1 h1
            refine ⟨y, hy, by rw [HP.out, h2, ← hye], ?_, ?_⟩
            · have := HRK.out e he' x.num hk
              rw [← hye] at this
              exact this
            · have h3 := HT.out.tw.under_kid he' hk a
              have h4 : tUnder T a x.num ↔ tUnder T a y.num := by
                rw [h3, ← hye]
                exact ⟨fun h => h.resolve_left hxa, Or.inr⟩
              rw [Bool.eq_iff_iff, tUnderB_iff, tUnderB_iff]
              exact h4
        have HF : Hid ((findG ns x.par).getD ns[0] = y) := by
          unfold Hid
          rw [← hy.out.2.1, findG_mem HT.out.nums hy.out.1]
          rfl
        have hrky := hy.out.2.2.1
        have HN2 : Hid (y ∈ ns ∧ tUnderB T a x0.num = tUnderB T a y.num) := ⟨hy.out.1, by rw [HN.out.2, hy.out.2.2.2]⟩
        clear hp hxa hy
        go_wp2_with fail
        refine (kfind_any wr g px vl made by' ns x.par HG.out hl h0).mono ?_
        rw [HF.out]
        rintro e w1 ⟨rfl, rfl⟩
        go_wp2
        go_roundg (rk y.num)
        case measure => omega
        case rel => exact ⟨y, rfl, rfl, Nat.le_refl _, HN2⟩
end
end Go.Proofs.YtblfffbmklkhmaaGreat

namespace Go.Proofs.YtblfffbmklkhmaaGreat
open Go.RowKit
def qryErr (T : Tree) (n : Int) (s : ByteArray) : Int := match tFind T n with | none => 5 | some _ => match propP s with | none => 4 | some _ => 0
/-- What Query tells. -/
def qryVal (T : Tree) (M : Nat → Mk) (rs : List PRu) (n : Int) (s : ByteArray) : Int := if qryErr T n s = 0 then (styleV (viewT T M) rs n).getD ((propP s).getD 0) 0 else 0
/-- The program's document: a predicate that its calls keep. -/
structure DocOK (DS : World → Value → Tree → Nat → (Nat → Mk) → List PRu → (Nat → Prop) → Prop) : Prop where
  ptr : ∀ {w px T made M rs F}, DS w px T made M rs F → ∃ a, px = .pointer (some a)
  tw : ∀ {w px T made M rs F}, DS w px T made M rs F → TW T made
  mark : ∀ {w px T made M M' rs F}, DS w px T made M rs F → (∀ k l, (k, l) ∈ T → M k = M' k) → DS w px T made M' rs F
  keep : ∀ {w w' px T made M rs F}, DS w px T made M rs F → (∀ k, F k → k < w.heap.size → w'.heap[k]? = w.heap[k]?) → w.heap.size ≤ w'.heap.size → DS w' px T made M rs F
  here : ∀ {w px T made M rs F}, DS w px T made M rs F → DS w px T made M rs (fun k => F k ∧ k < w.heap.size)
  new : ∀ (w : World) (s root : ByteArray), s.size ≤ maxLen → Calls Tryz.prog 24 #[.string s, .string root] w fun e w' =>
    Below w.heap.size w w' ∧ ((newErr s root ≠ 0 ∧ e = .returned (.tuple #[.pointer none, .int .i64 (newErr s root)])) ∨ (newErr s root = 0 ∧ ∃ px, e = .returned (.tuple #[px, .int .i64 0]) ∧ DS w' px [(0, [])] 1 (fun _ => newMk root) (sheetOf s) (fun k => w.heap.size ≤ k)))
  ins : ∀ (w : World) (px : Value) (T : Tree) (made : Nat) (M : Nat → Mk) (rs : List PRu) (F : Nat → Prop) (par at' : Int) (kind : ByteArray), DS w px T made M rs F → made ≤ 4611686018427387904 → Calls Tryz.prog 36 #[px, .int .i64 par, .int .i64 at', .string kind] w fun e w' =>
    ∃ y T' made' n, e = .returned (.tuple #[.int .i64 n, .int .i64 y]) ∧ TIns T made par at' kind y T' made' n ∧ DS w' px T' made' (if y = 0 then setM M made (newMk kind) else M) rs (More F w) ∧ Fr w w' F
  rem : ∀ (w : World) (px : Value) (T : Tree) (made : Nat) (M : Nat → Mk) (rs : List PRu) (F : Nat → Prop) (n : Int), DS w px T made M rs F → Calls Tryz.prog 116 #[px, .int .i64 n] w fun e w' =>
    ∃ y T', e = .returned (.int .i64 y) ∧ TRem T n y T' ∧ DS w' px T' made M rs (More F w) ∧ Fr w w' F
  mov : ∀ (w : World) (px : Value) (T : Tree) (made : Nat) (M : Nat → Mk) (rs : List PRu) (F : Nat → Prop) (n m at' : Int), DS w px T made M rs F → Calls Tryz.prog 119 #[px, .int .i64 n, .int .i64 m, .int .i64 at'] w fun e w' =>
    ∃ y T', e = .returned (.int .i64 y) ∧ TMov T n m at' y T' ∧ DS w' px T' made M rs (More F w) ∧ Fr w w' F
  cls : ∀ (w : World) (px : Value) (T : Tree) (made : Nat) (M : Nat → Mk) (rs : List PRu) (F : Nat → Prop) (n : Int) (s : ByteArray) (on : Bool), DS w px T made M rs F → Calls Tryz.prog 46 #[px, .int .i64 n, .string s, .bool on] w fun e w' =>
    ∃ y, e = .returned (.int .i64 y) ∧ y = clsErr T n s ∧ DS w' px T made (if y = 0 then setM M n.toNat (clsMk (M n.toNat) s on) else M) rs (More F w) ∧ Fr w w' F
  nam : ∀ (w : World) (px : Value) (T : Tree) (made : Nat) (M : Nat → Mk) (rs : List PRu) (F : Nat → Prop) (n : Int) (s : ByteArray), DS w px T made M rs F → Calls Tryz.prog 21 #[px, .int .i64 n, .string s] w fun e w' =>
    ∃ y, e = .returned (.int .i64 y) ∧ y = namErr T n s ∧ DS w' px T made (if y = 0 then setM M n.toNat (namMk (M n.toNat) s) else M) rs (More F w) ∧ Fr w w' F
  sht : ∀ (w : World) (px : Value) (T : Tree) (made : Nat) (M : Nat → Mk) (rs : List PRu) (F : Nat → Prop) (s : ByteArray), s.size ≤ maxLen → DS w px T made M rs F → Calls Tryz.prog 28 #[px, .string s] w fun e w' =>
    ∃ y, e = .returned (.int .i64 y) ∧ y = (chk s).1 ∧ DS w' px T made M (if y = 0 then sheetOf s else rs) (More F w) ∧ Fr w w' F
  qry : ∀ (w : World) (px : Value) (T : Tree) (made : Nat) (M : Nat → Mk) (rs : List PRu) (F : Nat → Prop) (n : Int) (s : ByteArray), DS w px T made M rs F → Calls Tryz.prog 37 #[px, .int .i64 n, .string s] w fun e w' =>
    e = .returned (.tuple #[.int .i64 (qryVal T M rs n s), .int .i64 (qryErr T n s)]) ∧ DS w' px T made M rs (More F w) ∧ Fr w w' F
structure PNd where
  num : Nat
  par : Int
  kind : ByteArray
  name : ByteArray
  c0 : Bool
  c1 : Bool
  c2 : Bool
  c3 : Bool
  kids : List Nat
def GN.pl (n : GN) : PNd := ⟨n.num, n.par, n.kind, n.name, n.c0, n.c1, n.c2, n.c3, n.kids⟩
def treeS (S : List PNd) : Tree := S.map fun x => (x.num, x.kids)
def clS (b : Nat) (x : PNd) (i : Nat) : Bool := (decide (i = b % 26) && x.c0) || (decide (i = (1 + b) % 26) && x.c1) || (decide (i = (2 + b) % 26) && x.c2) || (decide (i = (3 + b) % 26) && x.c3)
def mkS (b : Nat) (x : PNd) : Mk := ⟨bt x.kind 0, clS b x, if x.name.size = 0 then 0 else bt x.name 0⟩
def mOf (b : Nat) (S : List PNd) (k : Nat) : Mk := match S.find? fun x => decide (x.num = k) with | some x => mkS b x | none => ⟨0, fun _ => false, 0⟩
structure PW (S : List PNd) (made : Nat) : Prop where
  tw : TW (treeS S) made
  par : ∀ x ∈ S, x.par = tPar (treeS S) x.num
  few : S.length ≤ 24
theorem mem_treeS {S : List PNd} {x : PNd} (h : x ∈ S) : (x.num, x.kids) ∈ treeS S := List.mem_map.2 ⟨x, h, rfl⟩
theorem of_treeS {S : List PNd} {k : Nat} {l : List Nat} (h : (k, l) ∈ treeS S) : ∃ x ∈ S, x.num = k ∧ x.kids = l := by
  obtain ⟨x, hx, he⟩ := List.mem_map.1 h
  injection he with h1 h2
  exact ⟨x, hx, h1, h2⟩
section
variable {S : List PNd} {made : Nat} {b : Nat}
theorem PW.nums (h : PW S made) : (S.map PNd.num).Nodup := by
  have := h.tw.nums
  unfold treeS at this
  rw [List.map_map] at this
  exact this
theorem pnd_find (hn : (S.map PNd.num).Nodup) {x : PNd} (hx : x ∈ S) : (S.find? fun y => decide (y.num = x.num)) = some x := by
  induction S with
  | nil => cases hx
  | cons z l ih =>
    rw [List.map_cons, List.nodup_cons] at hn
    rw [List.find?_cons]
    rcases List.mem_cons.1 hx with rfl | h1
    · simp
    · have : ¬ z.num = x.num := fun e => hn.1 (List.mem_map.2 ⟨x, h1, e.symm⟩)
      simp only [this, decide_false]
      exact ih hn.2 h1
theorem mOf_at (hn : (S.map PNd.num).Nodup) {x : PNd} (hx : x ∈ S) : mOf b S x.num = mkS b x := by
  unfold mOf
  rw [pnd_find hn hx]
theorem treeS_len : (treeS S).length = S.length := by unfold treeS; simp
theorem treeS_find (h : PW S made) {x : PNd} (hx : x ∈ S) : tFind (treeS S) x.num = some x.kids := tFind_mem h.tw.nums (mem_treeS hx)
/-- One node is turned, its number stays. -/
def updS (S : List PNd) (k : Nat) (f : PNd → PNd) : List PNd := S.map fun x => if x.num = k then f x else x
theorem updS_len (k : Nat) (f : PNd → PNd) : (updS S k f).length = S.length := by unfold updS; simp
theorem mem_updS {k : Nat} {f : PNd → PNd} {y : PNd} : y ∈ updS S k f ↔ ∃ x ∈ S, y = if x.num = k then f x else x := by
  unfold updS
  rw [List.mem_map]
  exact ⟨fun ⟨x, hx, he⟩ => ⟨x, hx, he.symm⟩, fun ⟨x, hx, he⟩ => ⟨x, hx, he.symm⟩⟩
def insS (S : List PNd) (made : Nat) (p at' : Nat) (kind : ByteArray) : List PNd := updS S p (fun x => { x with kids := insL x.kids at' made }) ++ [⟨made, p, kind, ⟨#[]⟩, false, false, false, false, []⟩]
theorem insS_tree (p at' : Nat) (kind : ByteArray) : treeS (insS S made p at' kind) = tIns (treeS S) p at' made := by
  unfold treeS insS tIns tSet updS
  rw [List.map_append, List.map_map, List.map_map]
  congr 1
  apply List.map_congr_left
  intro x _
  show ((if x.num = p then { x with kids := insL x.kids at' made } else x).num, (if x.num = p then { x with kids := insL x.kids at' made } else x).kids) = if x.num = p then (x.num, insL x.kids at' made) else (x.num, x.kids)
  split <;> rfl
theorem PW.ins (h : PW S made) {p : PNd} (hp : p ∈ S) (at' : Nat) (kind : ByteArray) (hfew : S.length < 24) : PW (insS S made p.num at' kind) (made + 1) := by
  have htw : TW (treeS (insS S made p.num at' kind)) (made + 1) := by rw [insS_tree]; exact h.tw.ins ⟨p.kids, mem_treeS hp⟩
  refine ⟨htw, fun y hy => ?_, by unfold insS; rw [List.length_append, updS_len]; simp; omega⟩
  have key : ∀ (q : PNd), q ∈ S → ∀ k ∈ q.kids, tPar (treeS (insS S made p.num at' kind)) k = q.num := fun q hq k hk => by
    have hm : (q.num, if q.num = p.num then insL q.kids at' made else q.kids) ∈ treeS (insS S made p.num at' kind) := by
      rw [insS_tree]
      exact mem_tIns.2 (Or.inl ⟨(q.num, q.kids), mem_treeS hq, rfl, rfl⟩)
    refine htw.parent hm ?_
    show k ∈ if q.num = p.num then insL q.kids at' made else q.kids
    split
    · exact mem_insL.2 (Or.inr hk)
    · exact hk
  unfold insS at hy
  rw [List.mem_append, mem_updS, List.mem_singleton] at hy
  rcases hy with ⟨x, hx, rfl⟩ | rfl
  · have e1 : (if x.num = p.num then { x with kids := insL x.kids at' made } else x).num = x.num := by split <;> rfl
    have e2 : (if x.num = p.num then { x with kids := insL x.kids at' made } else x).par = x.par := by split <;> rfl
    rw [e1, e2, h.par x hx]
    by_cases h0 : x.num = 0
    · rw [h0]
      exact (show tPar (treeS S) 0 = tPar (treeS (insS S made p.num at' kind)) 0 from h.tw.root_par.trans htw.root_par.symm)
    · obtain ⟨q, hq, hm, hpq⟩ := h.tw.up (mem_treeS hx) h0
      obtain ⟨z, hz, h1, h2⟩ := of_treeS (k := q.1) (l := q.2) hq
      rw [hpq, ← h1]
      exact (key z hz x.num (by rw [h2]; exact hm)).symm
  · show (p.num : Int) = tPar _ made
    have hm : (p.num, insL p.kids at' made) ∈ treeS (insS S made p.num at' kind) := by
      rw [insS_tree]
      exact mem_tIns.2 (Or.inl ⟨(p.num, p.kids), mem_treeS hp, rfl, by simp⟩)
    exact (htw.parent hm (mem_insL.2 (Or.inl rfl))).symm
theorem insS_marks (h : PW S made) {p : PNd} (hp : p ∈ S) (at' : Nat) (kind : ByteArray) (hfew : S.length < 24) : ∀ k l, (k, l) ∈ treeS (insS S made p.num at' kind) → setM (mOf b S) made (newMk kind) k = mOf b (insS S made p.num at' kind) k := by
  intro k l hkl
  have hP := h.ins hp at' kind hfew
  obtain ⟨y, hy, rfl, _⟩ := of_treeS hkl
  rw [mOf_at hP.nums hy]
  unfold insS at hy
  rw [List.mem_append, mem_updS, List.mem_singleton] at hy
  rcases hy with ⟨x, hx, rfl⟩ | rfl
  · have e1 : (if x.num = p.num then { x with kids := insL x.kids at' made } else x).num = x.num := by split <;> rfl
    have e2 : mkS b (if x.num = p.num then { x with kids := insL x.kids at' made } else x) = mkS b x := by split <;> rfl
    have hlt := h.tw.lt _ (mem_treeS hx)
    rw [e1, e2]
    unfold setM
    rw [if_neg (by show ¬ x.num = made; have : x.num < made := hlt; omega), mOf_at h.nums hx]
  · unfold setM
    rw [if_pos rfl]
    unfold newMk mkS
    congr 1
    funext i
    simp [clS]
theorem marks_same {S' : List PNd} (hn : (S.map PNd.num).Nodup) (hn' : (S'.map PNd.num).Nodup) (h : ∀ y ∈ S', ∃ x ∈ S, x.num = y.num ∧ mkS b y = mkS b x) : ∀ k l, (k, l) ∈ treeS S' → mOf b S k = mOf b S' k := by
  intro k l hkl
  obtain ⟨y, hy, rfl, _⟩ := of_treeS hkl
  obtain ⟨x, hx, h1, h2⟩ := h y hy
  rw [mOf_at hn' hy, h2, ← h1, mOf_at hn hx]
noncomputable def remS (S : List PNd) (a : Nat) : List PNd := updS (S.filter fun x => !tUnderB (treeS S) a x.num) (tPar (treeS S) a).toNat (fun x => { x with kids := noneOf a x.kids })
theorem upd_tree (k : Nat) (f : List Nat → List Nat) : treeS (updS S k fun x => { x with kids := f x.kids }) = tSet k f (treeS S) := by
  unfold treeS updS tSet
  rw [List.map_map, List.map_map]
  apply List.map_congr_left
  intro x _
  show ((if x.num = k then { x with kids := f x.kids } else x).num, (if x.num = k then { x with kids := f x.kids } else x).kids) = if x.num = k then (x.num, f x.kids) else (x.num, x.kids)
  split <;> rfl
theorem remS_tree (a : Nat) : treeS (remS S a) = tRem (treeS S) a := by
  unfold remS tRem
  rw [upd_tree]
  congr 1
  unfold treeS
  rw [List.filter_map]
  rfl
theorem mem_remS {a : Nat} {y : PNd} (hy : y ∈ remS S a) : ∃ x ∈ S, ¬ tUnder (treeS S) a x.num ∧ y.num = x.num ∧ y.par = x.par ∧ (∀ b, mkS b y = mkS b x) ∧ (∀ k, k ∈ x.kids → k ≠ a → k ∈ y.kids) := by
  unfold remS at hy
  rw [mem_updS] at hy
  obtain ⟨x, hx, rfl⟩ := hy
  rw [List.mem_filter] at hx
  have hu : ¬ tUnder (treeS S) a x.num := fun h => by
    have := tUnderB_iff.2 h
    rw [this] at hx
    exact absurd hx.2 (by simp)
  refine ⟨x, hx.1, hu, ?_, ?_, fun b => ?_, fun k hk hka => ?_⟩
  · split <;> rfl
  · split <;> rfl
  · split <;> rfl
  · split
    · exact mem_noneOf.2 ⟨hk, hka⟩
    · exact hk
theorem remS_mem {a : Nat} {x : PNd} (hx : x ∈ S) (hu : ¬ tUnder (treeS S) a x.num) : ∃ y ∈ remS S a, y.num = x.num ∧ ∀ k, k ∈ x.kids → k ≠ a → k ∈ y.kids := by
  refine ⟨if x.num = (tPar (treeS S) a).toNat then { x with kids := noneOf a x.kids } else x, ?_, by split <;> rfl, fun k hk hka => ?_⟩
  · unfold remS
    rw [mem_updS]
    refine ⟨x, List.mem_filter.2 ⟨hx, ?_⟩, rfl⟩
    cases hb : tUnderB (treeS S) a x.num with
    | false => rfl
    | true => exact absurd (tUnderB_iff.1 hb) hu
  · split
    · exact mem_noneOf.2 ⟨hk, hka⟩
    · exact hk
theorem PW.rem (h : PW S made) {a : PNd} (ha : a ∈ S) (h0 : a.num ≠ 0) : PW (remS S a.num) made := by
  have htw : TW (treeS (remS S a.num)) made := by rw [remS_tree]; exact h.tw.rem (mem_treeS ha) h0
  refine ⟨htw, fun y hy => ?_, ?_⟩
  · obtain ⟨x, hx, hu, h1, h2, _, _⟩ := mem_remS hy
    rw [h1, h2, h.par x hx]
    by_cases hx0 : x.num = 0
    · rw [hx0]
      exact (show tPar (treeS S) 0 = tPar (treeS (remS S a.num)) 0 from h.tw.root_par.trans htw.root_par.symm)
    · obtain ⟨q, hq, hm, hpq⟩ := h.tw.up (mem_treeS hx) hx0
      obtain ⟨z, hz, e1, e2⟩ := of_treeS (k := q.1) (l := q.2) hq
      have hzu : ¬ tUnder (treeS S) a.num z.num := fun hzu => hu ((h.tw.under_kid hq hm a.num).2 (Or.inr (by rw [← e1]; exact hzu)))
      have hxa : x.num ≠ a.num := fun e => hu (by rw [e]; exact under_self _ _)
      obtain ⟨y2, hy2, f1, f2⟩ := remS_mem hz hzu
      have := htw.parent (mem_treeS hy2) (f2 x.num (by rw [e2]; exact hm) hxa)
      rw [hpq, ← e1, this, f1]
  · unfold remS
    rw [updS_len]
    exact Nat.le_trans (List.length_filter_le _ _) h.few
theorem remS_marks (h : PW S made) {a : PNd} (ha : a ∈ S) (h0 : a.num ≠ 0) : ∀ k l, (k, l) ∈ treeS (remS S a.num) → mOf b S k = mOf b (remS S a.num) k :=
  marks_same h.nums (h.rem ha h0).nums (fun y hy => by
    obtain ⟨x, hx, _, h1, _, h3, _⟩ := mem_remS hy
    exact ⟨x, hx, h1.symm, h3 b⟩)
def movS (S : List PNd) (a p at' : Nat) : List PNd := updS (updS (updS S (tPar (treeS S) a).toNat (fun x => { x with kids := noneOf a x.kids })) p (fun x => { x with kids := insL (noneOf a x.kids) at' a })) a (fun x => { x with par := p })
theorem par_tree (k : Nat) (p : Int) : treeS (updS S k fun x => { x with par := p }) = treeS S := by
  unfold treeS updS
  rw [List.map_map]
  apply List.map_congr_left
  intro x _
  show ((if x.num = k then { x with par := p } else x).num, (if x.num = k then { x with par := p } else x).kids) = (x.num, x.kids)
  split <;> rfl
theorem movS_tree (a p at' : Nat) : treeS (movS S a p at') = tMov (treeS S) a p at' := by
  unfold movS tMov
  rw [par_tree, upd_tree p (fun l => insL (noneOf a l) at' a), upd_tree _ (noneOf a)]
theorem mem_movS {a p at' : Nat} {y : PNd} (hy : y ∈ movS S a p at') : ∃ x ∈ S, y.num = x.num ∧ (x.num ≠ a → y.par = x.par) ∧ (x.num = a → y.par = p) ∧ (∀ b, mkS b y = mkS b x) := by
  unfold movS at hy
  rw [mem_updS] at hy
  obtain ⟨x1, hx1, rfl⟩ := hy
  rw [mem_updS] at hx1
  obtain ⟨x2, hx2, rfl⟩ := hx1
  rw [mem_updS] at hx2
  obtain ⟨x, hx, rfl⟩ := hx2
  refine ⟨x, hx, ?_, ?_, ?_, fun b => ?_⟩
  · (repeat' split) <;> rfl
  · intro hne
    (repeat' split) <;> first | rfl | (exfalso; rename_i h1; apply hne; revert h1; (repeat' split) <;> exact id) | (rename_i h1 _; exfalso; exact hne h1) | (rename_i h1 _ _; exfalso; exact hne h1)
  · intro he
    (repeat' split) <;> first | rfl | (exfalso; rename_i h1; apply h1; (repeat' split) <;> exact he) | (rename_i h1 _; exact absurd he h1) | (rename_i h1 _ _; exact absurd he h1)
  · (repeat' split) <;> rfl
theorem PW.mov (h : PW S made) {a p : PNd} (ha : a ∈ S) (h0 : a.num ≠ 0) (hp : p ∈ S) (hnu : ¬ tUnder (treeS S) a.num p.num) (at' : Nat) : PW (movS S a.num p.num at') made := by
  have htw : TW (treeS (movS S a.num p.num at')) made := by rw [movS_tree]; exact h.tw.mov (mem_treeS ha) h0 (mem_treeS hp) hnu
  obtain ⟨q, hq, hqm, hqp⟩ := h.tw.up (mem_treeS ha) h0
  have key : ∀ (z : Nat × List Nat), z ∈ treeS S → ∀ k ∈ z.2, k ≠ a.num → tPar (treeS (movS S a.num p.num at')) k = z.1 := fun z hz k hk hka => by
    have hm : (z.1, if z.1 = p.num then insL (noneOf a.num (if z.1 = q.1 then noneOf a.num z.2 else z.2)) at' a.num else if z.1 = q.1 then noneOf a.num z.2 else z.2) ∈ treeS (movS S a.num p.num at') := by
      rw [movS_tree]
      exact (mem_tMov hqp).2 ⟨z, hz, rfl, rfl⟩
    refine htw.parent hm ?_
    show k ∈ (if z.1 = p.num then insL (noneOf a.num (if z.1 = q.1 then noneOf a.num z.2 else z.2)) at' a.num else if z.1 = q.1 then noneOf a.num z.2 else z.2)
    have h1 : k ∈ (if z.1 = q.1 then noneOf a.num z.2 else z.2) := by
      split
      · exact mem_noneOf.2 ⟨hk, hka⟩
      · exact hk
    split
    · exact mem_insL.2 (Or.inr (mem_noneOf.2 ⟨h1, hka⟩))
    · exact h1
  refine ⟨htw, fun y hy => ?_, by unfold movS; rw [updS_len, updS_len, updS_len]; exact h.few⟩
  obtain ⟨x, hx, h1, h2, h3, _⟩ := mem_movS hy
  rw [h1]
  by_cases hxa : x.num = a.num
  · rw [h3 hxa, hxa]
    have hm : (p.num, insL (noneOf a.num (if p.num = q.1 then noneOf a.num p.kids else p.kids)) at' a.num) ∈ treeS (movS S a.num p.num at') := by
      rw [movS_tree]
      exact (mem_tMov hqp).2 ⟨(p.num, p.kids), mem_treeS hp, rfl, by simp⟩
    exact (htw.parent hm (mem_insL.2 (Or.inl rfl))).symm
  · rw [h2 hxa, h.par x hx]
    by_cases hx0 : x.num = 0
    · rw [hx0]
      exact (show tPar (treeS S) 0 = tPar (treeS (movS S a.num p.num at')) 0 from h.tw.root_par.trans htw.root_par.symm)
    · obtain ⟨z, hz, hm, hpz⟩ := h.tw.up (mem_treeS hx) hx0
      rw [hpz]
      exact (key z hz x.num hm hxa).symm
theorem movS_marks (h : PW S made) {a p : PNd} (ha : a ∈ S) (h0 : a.num ≠ 0) (hp : p ∈ S) (hnu : ¬ tUnder (treeS S) a.num p.num) (at' : Nat) : ∀ k l, (k, l) ∈ treeS (movS S a.num p.num at') → mOf b S k = mOf b (movS S a.num p.num at') k :=
  marks_same h.nums (h.mov ha h0 hp hnu at').nums (fun y hy => by
    obtain ⟨x, hx, h1, _, _, h3⟩ := mem_movS hy
    exact ⟨x, hx, h1.symm, h3 b⟩)
end
end Go.Proofs.YtblfffbmklkhmaaGreat

namespace Go.Proofs.YtblfffbmklkhmaaGreat
open Go.RowKit
theorem Fr.comp {a w w1 : World} {G S : Nat → Prop} (h : Fr a w G) (k : Fr w w1 S) (hs : ∀ j, S j → G j ∨ a.heap.size ≤ j) : Fr a w1 G :=
  ⟨k.os.trans h.os, k.tape.trans h.tape, k.output.trans h.output, Nat.le_trans h.size k.size, fun i hi hn => (k.block i (Nat.lt_of_lt_of_le hi h.size) (fun x => (hs i x).elim hn (fun y => by omega))).trans (h.block i hi hn)⟩
section
variable {PS : World → Value → Tree → Nat → (Nat → Prop) → Prop} {w0 : World} {G : Nat → Prop} {w : World} {b : Nat} {Tx : Tree} {mx : Nat} {Ty : Tree} {my : Nat} {px : Value} {d : Nat} {vm vy vs : Value} {cnt : Int} {held : Bool} {lm ly : List Nat}
end
end Go.Proofs.YtblfffbmklkhmaaGreat
