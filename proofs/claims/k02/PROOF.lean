import PyProof.Rows.All
import Wide.All
import OpenK.AllK
import Wide.FinOn
import HandS.ForMost
import HandS.Walk
import HandS.ForExc
import HandS.Conv
import HandS.Style
import HandS.Ends
import HandS.Lambda
import HandS.NestedK
import HandS.Codes
import KE.KLam
import PyProof.ReprRoads
import HandS.RaiseMore
import HandS.IsInst
import KE.OsArith
import KE.GoesMore
import HandS.OwnEq
import HandS.ExcInit
import HandS.ExcField
import HandS.ExcIs
import HandS.ExcOwn
import HandS.ExcValue
import KE.KExcInit
import HandS.WordsExc
import HandS.Deep
import HandS.TupAny
import HandS.TupLe
import HandS.SortInts
import HandS.Star
import HandS.Sort
import HandS.SetFor
import HandS.Strs
import HandS.TupSets
import PyProof.ReprLen
import HandS.SortKw
import KE.SortKeyHeap
import KE.SortData
import HandS.FStr
import HandS.Text
import KE.KDflt
import HandS.TupMul
import PySem.Challenge.RW_behindbeside_k02_what_orders_tell
set_option Elab.async false
set_option linter.all false
set_option maxRecDepth 100000
set_option maxHeartbeats 4000000
namespace Rd
open PySem L2
section
variable {K : PySem.W.Frag} {σ : St} {H : Hp} {Q : VK} {D : Ends}
theorem var {i : Nat} {v : V} (h : σ[i]? = some (some v)) (q : Q v H) : tVar i σ H Q := ⟨v, h, q⟩
theorem c {v : V} (q : Q v H) : tC v σ H Q := q
theorem op {r : R2} {ta tb : TE} (q : ta σ H fun x H1 => tb σ H1 fun y H2 => r x y H2 Q) : tOp r ta tb σ H Q := q
theorem un {r : V → Hp → VK → Prop} {ta : TE} (q : ta σ H fun x H1 => r x H1 Q) : tUn r ta σ H Q := q
theorem rI_ {C : Int → Int → Prop} {g : Int → Int → V} {i j : Int} (hc : C i j) (q : Q (g i j) H) : rI C g (.int i) (.int j) H Q := ⟨i, j, rfl, rfl, hc, q⟩
theorem rI0_ {g : Int → Int → V} {i j : Int} (q : Q (g i j) H) : rI0 g (.int i) (.int j) H Q := ⟨i, j, rfl, rfl, q⟩
theorem rU_ {g : Int → V} {i : Int} (q : Q (g i) H) : rU g (.int i) H Q := ⟨i, rfl, q⟩
theorem cb {r : List V → Hp → VK → Prop} {t : TA} (q : t σ H fun vs H1 => r vs H1 Q) : tCB r t σ H Q := q
theorem nil {Q : List V → Hp → Prop} (q : Q [] H) : tNil σ H Q := q
theorem cons {ta : TE} {tr : TA} {Q : List V → Hp → Prop} (q : ta σ H fun x H1 => tr σ H1 fun xs H2 => Q (x :: xs) H2) : tCons ta tr σ H Q := q
def rInt1 : List V → Hp → VK → Prop := fun xs H Q => ∃ i, xs = [.int i] ∧ Q (.int i) H
theorem call_intI {X : Cx} : CallR X (.type "int") rInt1 := fun pins s σ H xs us Q I r h => call_int1 pins s σ H xs us Q I r (.inl h)
theorem int1 {i : Int} (q : Q (.int i) H) : rInt1 [.int i] H Q := ⟨i, rfl, q⟩
theorem lst {t : TA} (q : t σ H fun xs H1 => xs.length ≤ sizeLine ∧ ∀ p, H1 p = none → Q (.ref p) (upd H1 p (.lst xs))) : tLst t σ H Q := q
theorem tup {t : TA} (q : t σ H fun xs H1 => xs.length ≤ sizeLine ∧ ∀ p, H1 p = none → Q (.ref p) (upd H1 p (.tup xs))) : tTup t σ H Q := q
def rTest (Q : Bool → Hp → Prop) (x : V) (H : Hp) : Prop := ∃ k, x = .bl k ∧ Q k H
theorem test {t : TE} {Q : Bool → Hp → Prop} (q : t σ H fun x H' => rTest Q x H') : tTest t σ H Q := q
theorem tb {t : TE} {Q : Bool → Hp → Prop} (q : t σ H fun x H' => rTest Q x H') : tB t σ H Q := q
theorem bl {k : Bool} {Q : Bool → Hp → Prop} (q : Q k H) : rTest Q (.bl k) H := ⟨k, rfl, q⟩
theorem ifN {b : Bool} {A B : Prop} (h1 : b = false → A) (h2 : b = true → B) : if (!b) = true then A else B := by
  cases b with
  | true => rw [if_neg (by decide)]; exact h2 rfl
  | false => rw [if_pos (by decide)]; exact h1 rfl
theorem ifB {b : Bool} {A B : Prop} (h1 : b = true → A) (h2 : b = false → B) : if b = true then A else B := by
  cases b with
  | true => rw [if_pos rfl]; exact h1 rfl
  | false => rw [if_neg (by decide)]; exact h2 rfl
theorem ifD {p : Prop} [Decidable p] {A B : Prop} (h1 : p → A) (h2 : ¬ p → B) : if decide p = true then A else B := by
  by_cases h : p
  · rw [if_pos (decide_eq_true h)]; exact h1 h
  · rw [if_neg (by rw [decide_eq_false h]; decide)]; exact h2 h
theorem ifE {t : TT} {ta tb : TE} (q : t σ H fun c H1 => if c = true then ta σ H1 Q else tb σ H1 Q) : tIf t ta tb σ H Q := q
theorem asg {te : TE} {g : TG} (q : te σ H fun x H1 => g x σ H1 D.nx) : tAsg te g D σ H := q
theorem name {i : Nat} {v : V} {Q : St → Hp → Prop} (q : Q (σ.set i (some v)) H) : gName i v σ H Q := q
theorem gsub {to ti : TE} {t : TSet} {v : V} {Q : St → Hp → Prop} (q : to σ H fun o H1 => ti σ H1 fun i H2 => t o i v H2 fun H3 => Q σ H3) : gSub to ti t v σ H Q := q
theorem seq {t u : TS} (q : t { D with nx := u D } σ H) : tSeq t u D σ H := q
theorem nxt (q : D.nx σ H) : tNext D σ H := q
theorem ret {te : TE} (q : te σ H D.rt) : tRet te D σ H := q
theorem drop {te : TE} (q : te σ H fun _ H1 => D.nx σ H1) : tDrop te D σ H := q
theorem ifs {c : TT} {t u : TS} (q : c σ H fun b H1 => if b = true then t D σ H1 else u D σ H1) : tIfS c t u D σ H := q
def rDGet : R2 := fun x y H Q => ∃ a v, x = .ref a ∧ DGet H a y (some v) ∧ Q v H
def rDPut (x y v : V) (H : Hp) (P : Hp → Prop) : Prop := ∃ a H4, x = .ref a ∧ DPut H a y v H4 ∧ P H4
theorem dget {td ty : TE} (q : td σ H fun x H1 => ty σ H1 fun y H2 => rDGet x y H2 Q) : tDGet td ty σ H Q := q
theorem dput {td ty tv : TE} (q : tv σ H fun v H1 => td σ H1 fun x H2 => ty σ H2 fun y H3 => rDPut x y v H3 (D.nx σ)) : sDPut td ty tv D σ H := q
theorem dgS {a : Addr} {kvs : List (Key × V)} {k : Str} {v : V} (h : H a = some (.dK kvs)) (hk : valV kvs (Sum.inr k) = some v) (q : Q v H) : rDGet (.ref a) (.str k) H Q :=
  ⟨a, v, rfl, by rw [← hk]; exact DGet.k (k := Sum.inr k) h, q⟩
theorem dpS {a : Addr} {kvs : List (Key × V)} {k : Str} {v : V} {P : Hp → Prop} (h : H a = some (.dK kvs)) (hl : kvs.length < 1000) (q : P (upd H a (.dK (putK kvs (Sum.inr k) v)))) : rDPut (.ref a) (.str k) v H P :=
  ⟨a, _, rfl, DPut.k (k := Sum.inr k) h (small1000 (Nat.le_of_lt hl)), q⟩
theorem call {sp : Sp} {dvs : List V} {E : XK} {t : TA} (q : t σ H fun vs H1 => sp (vs ++ dvs) H1 Q E) : tCall sp dvs E t σ H Q := q
theorem tnot {t : TT} {Q : Bool → Hp → Prop} (q : t σ H fun c H1 => Q (!c) H1) : tNot t σ H Q := q
theorem tand {t u : TT} {Q : Bool → Hp → Prop} (q : t σ H fun c H1 => if c = true then u σ H1 Q else Q false H1) : tAnd t u σ H Q := q
theorem tor {t u : TT} {Q : Bool → Hp → Prop} (q : t σ H fun c H1 => if c = true then Q true H1 else u σ H1 Q) : tOr t u σ H Q := q
theorem disp {trs : List (TE × TE)} (q : ∀ p, H p = none → tPairs trs σ (upd H p (.dK [])) fun ps H2 => H2 p = some (.dK []) ∧ ∃ kvs : List (Key × V), ps = kvs.map (fun kv => (kV kv.1, kv.2)) ∧ kvs.length ≤ 15 ∧ Q (.ref p) (upd H2 p (.dK (mergeK [] kvs)))) : tDisp trs σ H Q := q
theorem pnil {Q : List (V × V) → Hp → Prop} (q : Q [] H) : tPairs [] σ H Q := q
theorem pcons {tk tv : TE} {r : List (TE × TE)} {Q : List (V × V) → Hp → Prop} (q : tk σ H fun x H1 => tv σ H1 fun y H2 => tPairs r σ H2 fun ps H3 => Q ((x, y) :: ps) H3) : tPairs ((tk, tv) :: r) σ H Q := q
end
end Rd

namespace Rd
open PySem L2
/-- a for's loop over J -/
def forW (J : It) (g : TG) (tb : TS) (D : Ends) (σ : St) (H1 : Hp) : Prop := ∃ W : Nat → Nat → St → Hp → Prop, (∃ m, W 0 m σ H1) ∧ ∀ i m σ H, W i m σ H →
  (J.stop i H ∧ D.nx σ H) ∨ (J.go i H ∧ ∃ N : St → Hp → Prop, (∀ σ' H', N σ' H' → ∃ m', m' < m ∧ W (i + 1) m' σ' H') ∧ ∀ x H', J.yld i H x H' → g x σ H' fun σ2 H2 => tb { D with nx := N, ct := N, bk := D.nx } σ2 H2)
/-- a comprehension's -/
def lcW (J : It) (g : TG) (tt : TT) (te : TE) (vs : List Nat) (σ : St) (H1 : Hp) (Q : VK) : Prop := ∀ D, H1 D = none → ∃ W : Nat → Nat → Hp → Prop, (∃ m, W 0 m (upd H1 D (.lst []))) ∧ ∀ i m H, W i m H →
  (J.stop i H ∧ Q (.ref D) H) ∨ (J.go i H ∧ ∃ Nx : Hp → Prop, (∀ H', Nx H' → ∃ m', m' < m ∧ W (i + 1) m' H') ∧ ∀ x H', J.yld i H x H' → g x (wipe σ vs) H' fun σ2 H2 => wipe σ2 vs = wipe σ vs ∧ tt σ2 H2 fun b H3 =>
    if b = true then te σ2 H3 fun y H4 => ∃ acc, H4 D = some (.lst acc) ∧ acc.length < sizeLine ∧ Nx (upd H4 D (.lst (acc ++ [y]))) else Nx H3)
/-- what a comprehension's item wants at its end -/
def itemEnd (D : Addr) (P : Hp → Prop) (y : V) (H : Hp) : Prop := ∃ acc, H D = some (.lst acc) ∧ acc.length < sizeLine ∧ P (upd H D (.lst (acc ++ [y])))
section
variable {K : PySem.W.Frag} {σ : St} {H : Hp} {Q : VK} {D : Ends} {wi : TI} {g : TG} {tb : TS} {tt : TT} {te : TE} {vs : List Nat} {ta : TA} {tl : TE} {a b : Addr} {xs ys : List V}
theorem tfor (q : wi σ H fun J H1 => forW J g tb D σ H1) : tFor wi g tb D σ H := q
theorem tlc (q : wi σ H fun J H1 => lcW J g tt te vs σ H1 Q) : tLc wi g tt te vs σ H Q := q
theorem ilist {R : It → Hp → Prop} (q : tl σ H fun x H1 => ∃ a, x = .ref a ∧ (∃ xs, SqL K H1 a xs) ∧ R (Itl K a) H1) : iList K tl σ H R := q
theorem itup {R : It → Hp → Prop} (q : tl σ H fun x H1 => ∃ a, x = .ref a ∧ (∃ xs, SqT K H1 a xs) ∧ R (Itt K a) H1) : iTup K tl σ H R := q
theorem irng1 {R : It → Hp → Prop} (q : ta σ H fun vs H1 => ∃ j : Int, vs = [.int j] ∧ -(2 ^ 62) ≤ j ∧ j < 2 ^ 62 ∧ R (Itr 0 j.toNat) H1) : iRng1 ta σ H R := q
theorem irng2 {R : It → Hp → Prop} (q : ta σ H fun vs H1 => ∃ i j : Int, vs = [.int i, .int j] ∧ (-(2 ^ 62) ≤ i ∧ i < 2 ^ 62 ∧ -(2 ^ 62) ≤ j ∧ j < 2 ^ 62) ∧ R (Itr i (j - i).toNat) H1) : iRng2 ta σ H R := q
theorem ienum {R : It → Hp → Prop} (q : ta σ H fun vs H1 => ∃ a xs, vs = [.ref a] ∧ SqL K H1 a xs ∧ R (Ite K a) H1) : iEnum K ta σ H R := q
theorem izip {R : It → Hp → Prop} (q : ta σ H fun vs H1 => ∃ a b xs ys, vs = [.ref a, .ref b] ∧ SqL K H1 a xs ∧ SqL K H1 b ys ∧ R (Itz K a b) H1) : iZip K ta σ H R := q
/-! loops: by an invariant over the turn, the slots and the heap -/
theorem forList (hS : SqL K H a xs) (Pv : Nat → St → Hp → Prop) (h0 : Pv 0 σ H) (hG : ∀ i σ H, i ≤ xs.length → Pv i σ H → SqL K H a xs)
    (hs : ∀ i x σ H, i < xs.length → xs[i]? = some x → Pv i σ H → g x σ H fun σ2 H2 => tb { D with nx := Pv (i + 1), ct := Pv (i + 1), bk := D.nx } σ2 H2) (hd : ∀ σ H, Pv xs.length σ H → D.nx σ H) :
    ∃ a', V.ref a = .ref a' ∧ (∃ xs, SqL K H a' xs) ∧ forW (Itl K a') g tb D σ H :=
  ⟨a, rfl, ⟨xs, hS⟩, for_it walk_list Pv h0 hG (fun i x σ H H' hi p y => by obtain ⟨rfl, e⟩ := y; exact hs i x σ H' hi e p) hd⟩
theorem forTup (hS : SqT K H a xs) (Pv : Nat → St → Hp → Prop) (h0 : Pv 0 σ H) (hG : ∀ i σ H, i ≤ xs.length → Pv i σ H → SqT K H a xs)
    (hs : ∀ i x σ H, i < xs.length → xs[i]? = some x → Pv i σ H → g x σ H fun σ2 H2 => tb { D with nx := Pv (i + 1), ct := Pv (i + 1), bk := D.nx } σ2 H2) (hd : ∀ σ H, Pv xs.length σ H → D.nx σ H) :
    ∃ a', V.ref a = .ref a' ∧ (∃ xs, SqT K H a' xs) ∧ forW (Itt K a') g tb D σ H :=
  ⟨a, rfl, ⟨xs, hS⟩, for_it walk_tup Pv h0 hG (fun i x σ H H' hi p y => by obtain ⟨rfl, e⟩ := y; exact hs i x σ H' hi e p) hd⟩
theorem forRng1 {j : Int} (n : Nat) (hj : j = (n : Int)) (hn : n < 4611686018427387904) (Pv : Nat → St → Hp → Prop) (h0 : Pv 0 σ H)
    (hs : ∀ i σ H, i < n → Pv i σ H → g (.int (i : Int)) σ H fun σ2 H2 => tb { D with nx := Pv (i + 1), ct := Pv (i + 1), bk := D.nx } σ2 H2) (hd : ∀ σ H, Pv n σ H → D.nx σ H) :
    ∃ j' : Int, ([V.int j] : List V) = [.int j'] ∧ -(2 ^ 62) ≤ j' ∧ j' < 2 ^ 62 ∧ forW (Itr 0 j'.toNat) g tb D σ H :=
  ⟨j, rfl, by omega, by omega, by
    subst hj
    rw [Int.toNat_natCast]
    exact for_it walk_range Pv h0 (fun _ _ _ _ _ => trivial) (fun i x σ H H' hi p y => by obtain ⟨rfl, e⟩ := y; (have e' : x = V.int (i : Int) := by rw [e]; show V.int (0 + (i : Int)) = _; rw [Int.zero_add]); subst e'; exact hs i σ H' hi p) hd⟩
theorem forRng2 {l j : Int} (n : Nat) (hj : (j - l).toNat = n) (hl : -(2 ^ 62) ≤ l ∧ l < 2 ^ 62 ∧ -(2 ^ 62) ≤ j ∧ j < 2 ^ 62) (Pv : Nat → St → Hp → Prop) (h0 : Pv 0 σ H)
    (hs : ∀ i σ H, i < n → Pv i σ H → g (.int (l + (i : Int))) σ H fun σ2 H2 => tb { D with nx := Pv (i + 1), ct := Pv (i + 1), bk := D.nx } σ2 H2) (hd : ∀ σ H, Pv n σ H → D.nx σ H) :
    ∃ i' j' : Int, ([V.int l, V.int j] : List V) = [.int i', .int j'] ∧ (-(2 ^ 62) ≤ i' ∧ i' < 2 ^ 62 ∧ -(2 ^ 62) ≤ j' ∧ j' < 2 ^ 62) ∧ forW (Itr i' (j' - i').toNat) g tb D σ H :=
  ⟨l, j, rfl, hl, by
    rw [hj]
    exact for_it walk_range Pv h0 (fun _ _ _ _ _ => trivial) (fun i x σ H H' hi p y => by obtain ⟨rfl, rfl⟩ := y; exact hs i σ H' hi p) hd⟩
theorem forEnum (hS : SqL K H a xs) (Pv : Nat → St → Hp → Prop) (h0 : Pv 0 σ H) (hG : ∀ i σ H, i ≤ xs.length → Pv i σ H → SqL K H a xs)
    (hs : ∀ i x σ H T, i < xs.length → xs[i]? = some x → Pv i σ H → H T = none → g (.ref T) σ (upd H T (.tup [.int (i : Int), x])) fun σ2 H2 => tb { D with nx := Pv (i + 1), ct := Pv (i + 1), bk := D.nx } σ2 H2) (hd : ∀ σ H, Pv xs.length σ H → D.nx σ H) :
    ∃ a' xs', ([V.ref a] : List V) = [.ref a'] ∧ SqL K H a' xs' ∧ forW (Ite K a') g tb D σ H :=
  ⟨a, xs, rfl, hS, for_it walk_enum Pv h0 hG (fun i x σ H H' hi p y => by obtain ⟨T, x', y', rfl, hT, rfl, e1, e2⟩ := y; cases e1; exact hs i y' σ H T hi e2 p hT) hd⟩
theorem forZip (hS : SqL K H a xs) (hS2 : SqL K H b ys) (n : Nat) (hn : n = min xs.length ys.length) (Pv : Nat → St → Hp → Prop) (h0 : Pv 0 σ H) (hG : ∀ i σ H, i ≤ n → Pv i σ H → SqL K H a xs ∧ SqL K H b ys)
    (hs : ∀ i x y σ H T, i < n → xs[i]? = some x → ys[i]? = some y → Pv i σ H → H T = none → g (.ref T) σ (upd H T (.tup [x, y])) fun σ2 H2 => tb { D with nx := Pv (i + 1), ct := Pv (i + 1), bk := D.nx } σ2 H2) (hd : ∀ σ H, Pv n σ H → D.nx σ H) :
    ∃ a' b' xs' ys', ([V.ref a, V.ref b] : List V) = [.ref a', .ref b'] ∧ SqL K H a' xs' ∧ SqL K H b' ys' ∧ forW (Itz K a' b') g tb D σ H :=
  ⟨a, b, xs, ys, rfl, hS, hS2, for_it (walk_zip hn) Pv h0 hG (fun i x σ H H' hi p y => by obtain ⟨T, x', y', rfl, hT, rfl, e1, e2⟩ := y; exact hs i x' y' σ H T hi e1 e2 p hT) hd⟩
/-- a target a, b of a pair at T -/
theorem pair2 {i j n : Nat} {T : Addr} {x y : V} {Q : St → Hp → Prop} (hn : 2 = n) (h : SqT K H T [x, y]) (q : Q ((σ.set i (some x)).set j (some y)) H) : gTup K n (gCons (gName i) (gCons (gName j) gNil)) (.ref T) σ H Q :=
  ⟨T, [x, y], rfl, h, hn, x, [y], rfl, y, [], rfl, rfl, q⟩
theorem pair2n {i j n : Nat} {T : Addr} {x y : V} {Q : St → Hp → Prop} (hn : 2 = n) (q : Q ((σ.set i (some x)).set j (some y)) (upd H T (.tup [x, y]))) : gTup K n (gCons (gName i) (gCons (gName j) gNil)) (.ref T) σ (upd H T (.tup [x, y])) Q :=
  pair2 hn (SqT.of upd_same) q
/-! comprehensions: the invariant over the turn and the heap, the new list at D -/
theorem lcList (hS : SqL K H a xs) (q : ∀ D, H D = none → ∃ Pv : Nat → Hp → Prop, Pv 0 (upd H D (.lst [])) ∧ (∀ i H, i ≤ xs.length → Pv i H → SqL K H a xs) ∧
      (∀ i x H, i < xs.length → xs[i]? = some x → Pv i H → g x (wipe σ vs) H fun σ2 H2 => wipe σ2 vs = wipe σ vs ∧ tt σ2 H2 fun b H3 => if b = true then te σ2 H3 (itemEnd D (Pv (i + 1))) else Pv (i + 1) H3) ∧ ∀ H, Pv xs.length H → Q (.ref D) H) :
    ∃ a', V.ref a = .ref a' ∧ (∃ xs, SqL K H a' xs) ∧ lcW (Itl K a') g tt te vs σ H Q :=
  ⟨a, rfl, ⟨xs, hS⟩, fun D hD => by
    obtain ⟨Pv, h0, hG, hs, hd⟩ := q D hD
    exact lc_it walk_list Pv h0 hG (fun i x H H' hi p y => by obtain ⟨rfl, e⟩ := y; exact hs i x H' hi e p) hd⟩
theorem lcTup (hS : SqT K H a xs) (q : ∀ D, H D = none → ∃ Pv : Nat → Hp → Prop, Pv 0 (upd H D (.lst [])) ∧ (∀ i H, i ≤ xs.length → Pv i H → SqT K H a xs) ∧
      (∀ i x H, i < xs.length → xs[i]? = some x → Pv i H → g x (wipe σ vs) H fun σ2 H2 => wipe σ2 vs = wipe σ vs ∧ tt σ2 H2 fun b H3 => if b = true then te σ2 H3 (itemEnd D (Pv (i + 1))) else Pv (i + 1) H3) ∧ ∀ H, Pv xs.length H → Q (.ref D) H) :
    ∃ a', V.ref a = .ref a' ∧ (∃ xs, SqT K H a' xs) ∧ lcW (Itt K a') g tt te vs σ H Q :=
  ⟨a, rfl, ⟨xs, hS⟩, fun D hD => by
    obtain ⟨Pv, h0, hG, hs, hd⟩ := q D hD
    exact lc_it walk_tup Pv h0 hG (fun i x H H' hi p y => by obtain ⟨rfl, e⟩ := y; exact hs i x H' hi e p) hd⟩
theorem lcRng1 {j : Int} (n : Nat) (hj : j = (n : Int)) (hn : n < 4611686018427387904) (q : ∀ D, H D = none → ∃ Pv : Nat → Hp → Prop, Pv 0 (upd H D (.lst [])) ∧
      (∀ i H, i < n → Pv i H → g (.int (i : Int)) (wipe σ vs) H fun σ2 H2 => wipe σ2 vs = wipe σ vs ∧ tt σ2 H2 fun b H3 => if b = true then te σ2 H3 (itemEnd D (Pv (i + 1))) else Pv (i + 1) H3) ∧ ∀ H, Pv n H → Q (.ref D) H) :
    ∃ j' : Int, ([V.int j] : List V) = [.int j'] ∧ -(2 ^ 62) ≤ j' ∧ j' < 2 ^ 62 ∧ lcW (Itr 0 j'.toNat) g tt te vs σ H Q :=
  ⟨j, rfl, by omega, by omega, fun D hD => by
    obtain ⟨Pv, h0, hs, hd⟩ := q D hD
    subst hj
    rw [Int.toNat_natCast]
    exact lc_it walk_range Pv h0 (fun _ _ _ _ => trivial) (fun i x H H' hi p y => by obtain ⟨rfl, e⟩ := y; (have e' : x = V.int (i : Int) := by rw [e]; show V.int (0 + (i : Int)) = _; rw [Int.zero_add]); subst e'; exact hs i H' hi p) hd⟩
theorem lcEnum (hS : SqL K H a xs) (q : ∀ D, H D = none → ∃ Pv : Nat → Hp → Prop, Pv 0 (upd H D (.lst [])) ∧ (∀ i H, i ≤ xs.length → Pv i H → SqL K H a xs) ∧
      (∀ i x H T, i < xs.length → xs[i]? = some x → Pv i H → H T = none → g (.ref T) (wipe σ vs) (upd H T (.tup [.int (i : Int), x])) fun σ2 H2 => wipe σ2 vs = wipe σ vs ∧ tt σ2 H2 fun b H3 => if b = true then te σ2 H3 (itemEnd D (Pv (i + 1))) else Pv (i + 1) H3) ∧ ∀ H, Pv xs.length H → Q (.ref D) H) :
    ∃ a' xs', ([V.ref a] : List V) = [.ref a'] ∧ SqL K H a' xs' ∧ lcW (Ite K a') g tt te vs σ H Q :=
  ⟨a, xs, rfl, hS, fun D hD => by
    obtain ⟨Pv, h0, hG, hs, hd⟩ := q D hD
    exact lc_it walk_enum Pv h0 hG (fun i x H H' hi p y => by obtain ⟨T, x', y', rfl, hT, rfl, e1, e2⟩ := y; cases e1; exact hs i y' H T hi e2 p hT) hd⟩
theorem item {D : Addr} {P : Hp → Prop} {y : V} {acc : List V} (h : H D = some (.lst acc)) (hl : acc.length < sizeLine) (q : P (upd H D (.lst (acc ++ [y])))) : itemEnd D P y H := ⟨acc, h, hl, q⟩
/-- a comprehension's item where nothing but the list at D is changed -/
theorem itemP {D : Addr} {H1 : Hp} {f : Nat → V} {i : Nat} {y : V} {P : Hp → Prop} (hy : y = f i) (hl : i < 1000000) (q : P (upd H1 D (.lst ((List.range (i + 1)).map f)))) : itemEnd D P y (upd H1 D (.lst ((List.range i).map f))) := by
  refine ⟨_, upd_same, ?_, ?_⟩
  · rw [List.length_map, List.length_range, sizeLine_eq]
    omega
  · rw [upd_upd, hy, show (List.range i).map f ++ [f i] = (List.range (i + 1)).map f by rw [List.range_succ, List.map_append]; rfl]
    exact q
theorem yes {Q : Bool → Hp → Prop} (q : Q true H) : tYes σ H Q := q
theorem ift {A B : Prop} (h : A) : if true = true then A else B := by rw [if_pos rfl]; exact h
theorem iff_ {A B : Prop} (h : B) : if false = true then A else B := by rw [if_neg Bool.false_ne_true]; exact h
theorem ifNT {A B : Prop} (h : B) : if (!true) = true then A else B := by rw [if_neg (by decide)]; exact h
theorem ifNF {A B : Prop} (h : A) : if (!false) = true then A else B := by rw [if_pos (by decide)]; exact h
def rChain (r' : R2) (tc : TE) (y : V) (σ : St) (Q : VK) : VK := fun z H3 => ∃ k, z = .bl k ∧ if k = true then tc σ H3 fun w' H4 => r' y w' H4 Q else Q (.bl false) H3
theorem chain {r r' : R2} {ta tb tc : TE} (q : ta σ H fun x H1 => tb σ H1 fun y H2 => r x y H2 (rChain r' tc y σ Q)) : tChain r r' ta tb tc σ H Q := q
theorem chainE {r' : R2} {tc : TE} {y : V} {k : Bool} (q : if k = true then tc σ H fun w' H4 => r' y w' H4 Q else Q (.bl false) H) : rChain r' tc y σ Q (.bl k) H := ⟨k, rfl, q⟩
def rAndV (tb : TE) (σ : St) (Q : VK) : VK := fun x H1 => ∃ c, x = .bl c ∧ if c = true then tb σ H1 Q else Q (.bl false) H1
theorem andV {ta tb : TE} (q : ta σ H fun x H1 => rAndV tb σ Q x H1) : tAndV ta tb σ H Q := q
theorem andVE {tb : TE} {c : Bool} (q : if c = true then tb σ H Q else Q (.bl false) H) : rAndV tb σ Q (.bl c) H := ⟨c, rfl, q⟩
theorem listRg {te : St → Hp → (Int → Int → Hp → Prop) → Prop} (q : te σ H fun a b H1 => RgOk a b ∧ ∀ q, H1 q = none → Q (.ref q) (upd H1 q (.lst (rgV a b)))) : tLstRg te σ H Q := q
def rRg1 (Q : Int → Int → Hp → Prop) : VK := fun x H1 => ∃ n, x = .int n ∧ Q 0 n H1
theorem rg1 {ta : TE} {Q : Int → Int → Hp → Prop} (q : ta σ H fun x H1 => rRg1 Q x H1) : tRg1 ta σ H Q := q
theorem rg1E {n : Int} {Q : Int → Int → Hp → Prop} (q : Q 0 n H) : rRg1 Q (.int n) H := ⟨n, rfl, q⟩
theorem rep {l : Addr} {v : V} {n : Nat} (h : H l = some (.lst [v])) (hn : n ≤ 1000) (q : ∀ p, H p = none → Q (.ref p) (upd H p (.lst (List.replicate n v)))) : rRep (.ref l) (.int n) H Q :=
  ⟨l, n, [v], rfl, rfl, h, by omega, by omega, by rw [sizeLine_eq]; show 1 * ((n : Int)).toNat ≤ _; omega, fun p hp => by
    rw [Int.toNat_natCast, show (List.replicate n [v]).flatten = List.replicate n v by simp]
    exact q p hp⟩
theorem paired_get {α β : Type} {R : α → β → Prop} {xs : List α} {ys : List β} (h : Paired R xs ys) : ∀ {i : Nat} {x : α}, xs[i]? = some x → ∃ y, ys[i]? = some y ∧ R x y := by
  induction h with
  | nil => intro i x e; simp at e
  | cons r _ ih =>
    intro i x e
    cases i with
    | zero => cases e; exact ⟨_, rfl, r⟩
    | succ i => exact ih (i := i) e
def rFld (K : PySem.W.Frag) (f : Str) : VK → V → Hp → Prop := fun Q x H1 => ∃ a C dx fs v, x = .ref a ∧ H1 a = some (.ins C dx fs) ∧ Cls K C ∧ NoAttr K C f ∧ fs.lookup f = some v ∧ Q v H1
theorem fld {ta : TE} {f : Str} (q : ta σ H fun x H1 => rFld K f Q x H1) : tFld K ta f σ H Q := q
theorem fldE {a C dx : Addr} {fs : List (Str × V)} {f : Str} {v : V} (h : H a = some (.ins C dx fs)) (cl : Cls K C) (na : NoAttr K C f) (l : fs.lookup f = some v) (q : Q v H) : rFld K f Q (.ref a) H := ⟨a, C, dx, fs, v, rfl, h, cl, na, l, q⟩
def rSetF (K : PySem.W.Frag) (f : Str) (x y : V) (H2 : Hp) (P : Hp → Prop) : Prop := ∃ a C dx fs, x = .ref a ∧ H2 a = some (.ins C dx fs) ∧ Cls K C ∧ NoAttr K C f ∧ fs.length < 1000 ∧ P (upd H2 a (.ins C dx (putF f y fs)))
theorem setF {ta tv : TE} {f : Str} (q : tv σ H fun y H1 => ta σ H1 fun x H2 => rSetF K f x y H2 (D.nx σ)) : sFld K ta tv f D σ H := q
theorem setFE {a C dx : Addr} {fs : List (Str × V)} {f : Str} {y : V} {P : Hp → Prop} (h : H a = some (.ins C dx fs)) (cl : Cls K C) (na : NoAttr K C f) (l : fs.length < 1000) (q : P (upd H a (.ins C dx (putF f y fs)))) : rSetF K f (.ref a) y H P := ⟨a, C, dx, fs, rfl, h, cl, na, l, q⟩
def rMake (C : Addr) (sp : Sp) (vs : List V) (H1 : Hp) (Q : VK) : Prop := ∀ x dx, H1 x = none → H1 dx = none → dx ≠ x → sp (.ref x :: (vs ++ [])) (upd (upd H1 dx (.own x)) x (.ins C dx [])) (fun v H2 => v = .non ∧ Q (.ref x) H2) E0
theorem make {C : Addr} {sp : Sp} {t : TA} (q : t σ H fun vs H1 => rMake C sp vs H1 Q) : tMake C sp [] E0 t σ H Q := q
theorem tupOf {p : Addr} {ys : List V} (h : SqL K H p ys) (q : ∀ l, H l = none → Q (.ref l) (upd H l (.tup ys))) : ∃ p' ys', ([V.ref p] : List V) = [.ref p'] ∧ ((SqL K H p' ys' ∧ ∀ l, H l = none → Q (.ref l) (upd H l (.tup ys'))) ∨ (SqT K H p' ys' ∧ Q (.ref p') H)) := ⟨p, ys, rfl, .inl ⟨h, q⟩⟩
theorem ixL {p : Addr} {xs : List V} {i : Int} {v : V} (hS : SqL K H p xs) (ha : atI xs i = some v) (q : Q v H) : rIxL K (.ref p) (.int i) H Q := ⟨p, xs, i, v, rfl, rfl, hS, ha, q⟩
theorem ixT {p : Addr} {xs : List V} {i : Int} {v : V} (hS : SqT K H p xs) (ha : atI xs i = some v) (q : Q v H) : rIxT K (.ref p) (.int i) H Q := ⟨p, xs, i, v, rfl, rfl, hS, ha, q⟩
theorem setL {p : Addr} {xs : List V} {k : Int} {v : V} {Q : Hp → Prop} (j : Nat) (hp : H p = some (.lst xs)) (hj : ixN xs.length k = some j) (q : Q (upd H p (.lst (xs.set j v)))) : rSetL (.ref p) (.int k) v H Q := ⟨p, xs, k, j, rfl, rfl, hp, hj, q⟩
theorem eqI {i j : Int} (q : Q (.bl (decide (i = j))) H) : rEq (.int i) (.int j) H Q := ⟨rfl, by rw [show decide (V.int i = V.int j) = decide (i = j) by simp]; exact q⟩
theorem neI {i j : Int} (q : Q (.bl (!decide (i = j))) H) : rNe (.int i) (.int j) H Q := ⟨rfl, by rw [show decide (V.int i = V.int j) = decide (i = j) by simp]; exact q⟩
theorem eqS {i j : Str} (q : Q (.bl (decide (i = j))) H) : rEq (.str i) (.str j) H Q := ⟨rfl, by rw [show decide (V.str i = V.str j) = decide (i = j) by simp]; exact q⟩
theorem neS {i j : Str} (q : Q (.bl (!decide (i = j))) H) : rNe (.str i) (.str j) H Q := ⟨rfl, by rw [show decide (V.str i = V.str j) = decide (i = j) by simp]; exact q⟩
theorem eqB {i j : Bool} (q : Q (.bl (i == j)) H) : rEq (.bl i) (.bl j) H Q := ⟨rfl, by rw [show decide (V.bl i = V.bl j) = (i == j) by cases i <;> cases j <;> rfl]; exact q⟩
theorem neB {i j : Bool} (q : Q (.bl (!(i == j))) H) : rNe (.bl i) (.bl j) H Q := ⟨rfl, by rw [show decide (V.bl i = V.bl j) = (i == j) by cases i <;> cases j <;> rfl]; exact q⟩
theorem cat {l b : Addr} (h1 : H l = some (.lst xs)) (h2 : H b = some (.lst ys)) (hl : xs.length + ys.length ≤ 1000) (q : ∀ p, H p = none → Q (.ref p) (upd H p (.lst (xs ++ ys)))) : rCat (.ref l) (.ref b) H Q :=
  ⟨l, b, xs, ys, rfl, rfl, h1, h2, Nat.le_trans hl (by decide), q⟩
theorem eqD {x y : V} {d e : PyData} (hd : Dp K H x d) (he : Dp K H y e) (sd : SeqAt.shaped d = true) (se : SeqAt.shaped e = true) (q : Q (.bl (PyData.eqv d e)) H) : rEqD K x y H Q := ⟨d, e, hd, he, sd, se, q⟩
theorem neD {x y : V} {d e : PyData} (hd : Dp K H x d) (he : Dp K H y e) (sd : SeqAt.shaped d = true) (se : SeqAt.shaped e = true) (q : Q (.bl (!PyData.eqv d e)) H) : rNeD K x y H Q := ⟨d, e, hd, he, sd, se, q⟩
/-! the heap -/
theorem get_up {H : Hp} {q c : Addr} {o u : HO} (h : H q = some o) (hc : H c = none) : upd H c u q = some o := (upd_ne (ne_of_none h hc)).trans h
theorem get_ne {H : Hp} {q d : Addr} {o u : HO} (hn : q ≠ d) (h : H q = some o) : upd H d u q = some o := (upd_ne hn).trans h
theorem sameN {H H' : Hp} {p : Addr} {o : HO} (h : Same H H') (hp : H' p = none) : Same H (upd H' p o) := fun b u e => get_up (h b u e) hp
theorem free_up {H : Hp} {p c : Addr} {u : HO} (h : upd H c u p = none) : H p = none ∧ p ≠ c := by
  by_cases e : p = c
  · rw [e, upd_same] at h
    cases h
  · rw [upd_ne e] at h
    exact ⟨h, e⟩
end
end Rd

namespace Rd
open PySem L2
/-- a comprehension's inner for -/
def lcI (J1 : It) (g1 : TG) (tt1 : TT) (te : TE) (vs1 : List Nat) (σ2 : St) (D : Addr) (Nx : Hp → Prop) (H4 : Hp) : Prop := ∃ W1 : Nat → Nat → Hp → Prop, (∃ m, W1 0 m H4) ∧ ∀ j k H, W1 j k H →
  (J1.stop j H ∧ Nx H) ∨ (J1.go j H ∧ ∃ Nx1 : Hp → Prop, (∀ H', Nx1 H' → ∃ k', k' < k ∧ W1 (j + 1) k' H') ∧ ∀ x H', J1.yld j H x H' → g1 x (wipe σ2 vs1) H' fun σ3 H5 => wipe σ3 vs1 = wipe σ2 vs1 ∧ tt1 σ3 H5 fun b H6 =>
    if b = true then te σ3 H6 fun y H7 => ∃ acc, H7 D = some (.lst acc) ∧ acc.length < sizeLine ∧ Nx1 (upd H7 D (.lst (acc ++ [y]))) else Nx1 H6)
def lcW2 (J : It) (g : TG) (tt : TT) (wi1 : TI) (g1 : TG) (tt1 : TT) (te : TE) (vs vs1 : List Nat) (σ : St) (H1 : Hp) (Q : VK) : Prop := ∀ D, H1 D = none → ∃ W : Nat → Nat → Hp → Prop, (∃ m, W 0 m (upd H1 D (.lst []))) ∧ ∀ i m H, W i m H →
  (J.stop i H ∧ Q (.ref D) H) ∨ (J.go i H ∧ ∃ Nx : Hp → Prop, (∀ H', Nx H' → ∃ m', m' < m ∧ W (i + 1) m' H') ∧ ∀ x H', J.yld i H x H' → g x (wipe σ vs) H' fun σ2 H2 => wipe σ2 vs = wipe σ vs ∧ tt σ2 H2 fun b H3 =>
    if b = true then wi1 σ2 H3 (fun J1 H4 => lcI J1 g1 tt1 te vs1 σ2 D Nx H4) else Nx H3)
section
variable {K : PySem.W.Frag} {σ : St} {H : Hp} {Q : VK} {wi wi1 : TI} {g g1 : TG} {tt tt1 : TT} {te : TE} {vs vs1 : List Nat} {a : Addr} {xs : List V}
theorem tlc2 (q : wi σ H fun J H1 => lcW2 J g tt wi1 g1 tt1 te vs vs1 σ H1 Q) : tLc2 wi g tt wi1 g1 tt1 te vs vs1 σ H Q := q
theorem lcList2 (hS : SqL K H a xs) (q : ∀ D, H D = none → ∃ Pv : Nat → Hp → Prop, Pv 0 (upd H D (.lst [])) ∧ (∀ i H, i ≤ xs.length → Pv i H → SqL K H a xs) ∧
      (∀ i x H, i < xs.length → xs[i]? = some x → Pv i H → g x (wipe σ vs) H fun σ2 H2 => wipe σ2 vs = wipe σ vs ∧ tt σ2 H2 fun b H3 => if b = true then wi1 σ2 H3 (fun J1 H4 => lcI J1 g1 tt1 te vs1 σ2 D (Pv (i + 1)) H4) else Pv (i + 1) H3) ∧ ∀ H, Pv xs.length H → Q (.ref D) H) :
    ∃ a', V.ref a = .ref a' ∧ (∃ xs, SqL K H a' xs) ∧ lcW2 (Itl K a') g tt wi1 g1 tt1 te vs vs1 σ H Q :=
  ⟨a, rfl, ⟨xs, hS⟩, fun D hD => by
    obtain ⟨Pv, h0, hG, hs, hd⟩ := q D hD
    have w := walk_list (K := K) (a := a) (xs := xs)
    refine ⟨fun i m H => m = xs.length - i ∧ i ≤ xs.length ∧ Pv i H, ⟨xs.length, by simp, Nat.zero_le _, h0⟩, ?_⟩
    rintro i m H ⟨rfl, hi, p⟩
    by_cases hlt : i < xs.length
    · exact .inr ⟨w.goes i H hlt (hG i H hi p), Pv (i + 1), fun H' p' => ⟨xs.length - (i + 1), by omega, rfl, hlt, p'⟩, fun x H' y => by
        obtain ⟨rfl, e⟩ := w.yields i H x H' hlt (hG i H hi p) y
        exact hs i x H' hlt e p⟩
    · have e : i = xs.length := by omega
      subst e
      exact .inl ⟨w.stops H (hG _ H hi p), hd H p⟩⟩
theorem lcIList {D : Addr} {Nx : Hp → Prop} (hS : SqL K H a xs) (Pv : Nat → Hp → Prop) (h0 : Pv 0 H) (hG : ∀ i H, i ≤ xs.length → Pv i H → SqL K H a xs)
    (hs : ∀ i x H, i < xs.length → xs[i]? = some x → Pv i H → g1 x (wipe σ vs1) H fun σ3 H5 => wipe σ3 vs1 = wipe σ vs1 ∧ tt1 σ3 H5 fun b H6 => if b = true then te σ3 H6 (itemEnd D (Pv (i + 1))) else Pv (i + 1) H6) (hd : ∀ H, Pv xs.length H → Nx H) :
    ∃ a', V.ref a = .ref a' ∧ (∃ xs, SqL K H a' xs) ∧ lcI (Itl K a') g1 tt1 te vs1 σ D Nx H :=
  ⟨a, rfl, ⟨xs, hS⟩, by
    have w := walk_list (K := K) (a := a) (xs := xs)
    refine ⟨fun i m H => m = xs.length - i ∧ i ≤ xs.length ∧ Pv i H, ⟨xs.length, by simp, Nat.zero_le _, h0⟩, ?_⟩
    rintro i m H ⟨rfl, hi, p⟩
    by_cases hlt : i < xs.length
    · exact .inr ⟨w.goes i H hlt (hG i H hi p), Pv (i + 1), fun H' p' => ⟨xs.length - (i + 1), by omega, rfl, hlt, p'⟩, fun x H' y => by
        obtain ⟨rfl, e⟩ := w.yields i H x H' hlt (hG i H hi p) y
        exact hs i x H' hlt e p⟩
    · have e : i = xs.length := by omega
      subst e
      exact .inl ⟨w.stops H (hG _ H hi p), hd H p⟩⟩
end
end Rd
/-! ## Callees by name; defs that are entered with no guard around (repr of containers); repr, len. -/
namespace Rd
open PySem L2 PySem.Spec PyProof.Rows
theorem hu64 {k : Nat} {A : Around} (hr : Room k A) : A.units + 64 < cLine := by have := hr.un; omega
/-- a def of the top by its name, and what it promises -/
def Callee (P : Program) (w : World) (K : PySem.W.Frag) (mg : Str → Option Value) (base : Heap) (CX : CXT) (k : Nat) (x : Str) (ps : List Str) (sp : Sp) : Prop :=
  ∃ (f : Addr) (fd : FuncData), mg x = some (.ref f) ∧ PySem.W.keepIn K (.ref f) = true ∧ Binds K fd ps [] ∧ FnOk P w K mg base CX k f fd ps sp
/-- the same where no guard is around -/
structure FnOkG (P : Program) (w : World) (K : PySem.W.Frag) (mg : Str → Option Value) (base : Heap) (CX : CXT) (k : Nat) (f : Addr) (fd : FuncData) (ps : List Str) (sp : Sp) : Prop where
  len : ∀ vs H Q E, sp vs H Q E → vs.length = ps.length
  run : ∀ (A : Around) (outer : List Env) (s : Shared) (H : Hp) (args : Args) (us : List Value) (vs : List V) (Q : VK) (E : XK), A.guards = some [] → Room k A → Env0 P w K mg base A outer s H → BindsTo s fd args (ps.zip us) → Vals vs us → sp vs H Q E →
    codeAny (model P w) A (.call (.ref f) args) (CR CX outer P w H s Q E) s
def CalleeG (P : Program) (w : World) (K : PySem.W.Frag) (mg : Str → Option Value) (base : Heap) (CX : CXT) (k : Nat) (x : Str) (ps : List Str) (sp : Sp) : Prop :=
  ∃ (f : Addr) (fd : FuncData), mg x = some (.ref f) ∧ PySem.W.keepIn K (.ref f) = true ∧ Binds K fd ps [] ∧ FnOkG P w K mg base CX k f fd ps sp
section
variable {X : Cx} {k : Nat} {x : Str} {ps : List Str} {sp : Sp} {p pos : Pos} {e : Expr} {es : List Expr} {t : TA}
theorem pe_callC (C : Callee X.prog X.w X.K X.mg X.base CX0 k x ps sp) (hr : Room k X.A) (ha : PA X (e :: es) t) (hg : Gl X x := by rfl) (hdb : (x == ("__debug__" : Str)) = false := by decide)
    (he : starEach (e :: es) X.env = (false, eval e X.env) :: starEach es X.env := by rfl) (hpl : (backTo pos (starEach es X.env)).any (·.1) = false := by rfl) : PE X (.Call (.Name x p) (e :: es) [] pos) (tCall sp [] E0 t) := by
  obtain ⟨f, fd, hm, kp, b, F⟩ := C
  exact pe_call F hr hg hm kp b .nil pass0 ha hdb he hpl
theorem pe_callC0 (C : Callee X.prog X.w X.K X.mg X.base CX0 k x ps sp) (hr : Room k X.A) (hg : Gl X x := by rfl) (hdb : (x == ("__debug__" : Str)) = false := by decide) : PE X (.Call (.Name x p) [] [] pos) (tCall sp [] E0 tNil) := by
  obtain ⟨f, fd, hm, kp, b, F⟩ := C
  exact pe_call0 F hr hg hm kp b .nil pass0 hdb
theorem pe_callG (C : CalleeG X.prog X.w X.K X.mg X.base CX0 k x ps sp) (hG : X.A.guards = some []) (hr : Room k X.A) (ha : PA X (e :: es) t) (hg : Gl X x := by rfl) (hdb : (x == ("__debug__" : Str)) = false := by decide)
    (he : starEach (e :: es) X.env = (false, eval e X.env) :: starEach es X.env := by rfl) (hpl : (backTo pos (starEach es X.env)).any (·.1) = false := by rfl) : PE X (.Call (.Name x p) (e :: es) [] pos) (tCall sp [] E0 t) := by
  obtain ⟨f, fd, hm, kp, b, F⟩ := C
  refine ⟨fun pins s σ H Q I h => wpAny_Call_Name_kw (ld_glob I hg hm (PySem.W.callWith_K (h₀ := X.base) I.ok.mod.kin kp (thn (ha.run pos pins s σ H _ I h) fun us s1 ⟨vs, H1, I1, r, q⟩ => ⟨I1.kIn, ?_⟩) he hpl) hdb)⟩
  have q : sp vs H1 Q E0 := by
    have q0 : sp (vs ++ []) H1 Q E0 := q
    rwa [List.append_nil] at q0
  have hb := b s1 us I1.kIn (by rw [List.append_nil]; exact r.length.symm.trans (F.len _ _ _ _ q))
  rw [List.append_nil] at hb
  refine wpAny_call (codeAny_mono (F.run X.A X.stack s1 H1 ⟨us, []⟩ us vs Q E0 hG hr I1.env0 hb r q) fun r s' hq => ?_)
  match r, hq with
  | .error _, z => exact z.elim
  | .ok (.ret u), z => exact I1.after z
  | .ok .next, z => exact z.elim
  | .ok .brk, z => exact z.elim
  | .ok .cont, z => exact z.elim
end
/-- a def that is entered with no guard around: its body as a term, and the term's reading -/
theorem okG {P : Program} {w : World} {K : PySem.W.Frag} {mg : Str → Option Value} {base : Heap} {nm qual : Str} {st : Stmt} {f : Addr} {fd : FuncData} {N ps : List Str} {k : Nat} {sp : Sp} (F : Fun K nm qual st f fd) (S : FnScope N ps (defScope st))
    (len : ∀ vs H Q E, sp vs H Q E → vs.length = ps.length)
    (body : ∀ (cdv : Value) (A : Around) (outer : List Env) (s : Shared) (H : Hp) (vs : List V) (Q : VK) (E : XK), A.guards = some [] → Room k (A.deeper (envOfC qual (defScope st) s.heap.objs.size f cdv)) → sp vs H Q E →
      ∃ t, PSs (cxOf CX0 P w K mg base N qual (defScope st) f cdv A outer s H E).nox (defBody st) t ∧ t { nx := fun _ H' => Q .non H', rt := Q } (start N vs) H) : FnOkG P w K mg base CX0 (k + 1) f fd ps sp := by
  obtain ⟨oc, od, kV, doc, pm, an, cdv, ct, osl, rfl, lk, hcd⟩ := F.ex
  refine ⟨len, fun A outer s H args us vs Q E hG hr e0 hb r hsp => ?_⟩
  have KX : K.In s.heap := e0.mod.kin.keeps fun b o e => (e0.bs b o e).1
  have places : ∀ y ∈ ps.zip us, (defScope st).names.lookup y.1 = some .local ∨ ((defScope st).names.lookup y.1 = some .cell ∧ ((cellsFrom (s.heap.objs.size + 1) (defScope st).names []).lookup y.1).isSome = true) := fun y hy =>
    (S.par y.1 (List.of_mem_zip hy).1).imp id fun q => ⟨q, PySem.W.cellsFrom_some _ _ _ (.inl q)⟩
  refine codeAny_call_function hr.depth (KX _ _ lk) rfl S.co S.gen rfl (PySem.W.codeRec_of KX hcd) (hb _ _ _ _ (wpAny_newFunctionEnv_cells S.kind places fun env he s1 x => ?_))
  subst he
  refine ⟨(e0.mod.nolimit.keeps fun b o e => (e0.bs b o e).1).keeps x.toInCall.keep, codeAny_func ?_⟩
  obtain ⟨t, ht, hq⟩ := body cdv A outer s H vs Q E hG (hr.deeper _) hsp
  refine wpAny_mono (ht.nox.run [] s1 (start N vs) H _ (inv_start S hr.hd e0 (len _ _ _ _ hsp) r x) hq) (fun fl s' hs => ?_) fun e s' hs => hs
  match fl, hs with
  | .ret u, ⟨v, σ', H', J, rv, q⟩ => exact ⟨v, H', J.os, J.bare, J.base, J.hok, rv, q⟩
  | .next, ⟨σ', H', J, q⟩ => exact ⟨.non, H', J.os, J.bare, J.base, J.hok, rfl, q⟩
  | .brk, ⟨_, _, _, q⟩ => exact q.elim
  | .cont, ⟨_, _, _, q⟩ => exact q.elim
theorem guards_deeper {A : Around} {env : Env} (h : A.guards = some []) : (A.deeper env).guards = some [] := h
/-- a class of the top as a value -/
theorem pe_cls {X : Cx} {x : Str} {C : Addr} {pos : Pos} (hm : X.mg x = some (.ref C)) (hg : Gl X x := by rfl) (hd : (x == ("__debug__" : Str)) = false := by decide) : PE X (.Name x pos) (tC (.ref C)) := pe_glob hg hm rfl hd
/-! ### len, repr -/
def rLen (K : PySem.W.Frag) : List V → Hp → VK → Prop := fun xs H Q => ∃ p ys, xs = [.ref p] ∧ (SqL K H p ys ∨ SqT K H p ys) ∧ Q (.int ys.length) H
theorem call_lenS {X : Cx} : CallR X (.builtin "len") (rLen X.K) := fun pins s σ H xs us Q I r h => call_len_seq pins s σ H xs us Q I r h
/-- what repr shows -/
structure Shows (d : PyData) : Prop where
  ok : d.showable = true
  nod : d.hasDict = false
  deep : d.depth ≤ 40
  len : d.shown.length ≤ sizeLine
/-- the empty dict, beside all other data -/
inductive Dr (K : PySem.W.Frag) (H : Hp) : V → PyData → Prop
  | dat {v : V} {d : PyData} (h : Dp K H v d) (s : Shows d) : Dr K H v d
  | dict {a : Addr} (h : H a = some (.dK [])) : Dr K H (.ref a) (.dict [])
def rRepr (K : PySem.W.Frag) : List V → Hp → VK → Prop := fun xs H Q => ∃ x d, xs = [x] ∧ Dr K H x d ∧ Q (.str d.shown) H
theorem call_reprD {X : Cx} {k : Nat} (hr : Room k X.A) (hG : X.A.guards = some []) : CallR X (.builtin "repr") (rRepr X.K) := by
  intro pins s σ H xs us Q I r h
  obtain ⟨x, d, rfl, hd, q⟩ := h
  obtain ⟨u, rfl, ru⟩ := vals1 r
  have hu := hr.un
  cases hd with
  | dat hd S =>
    obtain ⟨as, rd⟩ := Dp.reads I d x u hd ru
    cases rd with
    | none => exact PySem.P.repr_of_none ⟨.str _, H, I.tok _, ⟨_, rfl⟩, q⟩
    | bool b => exact PySem.P.repr_of_bool ⟨.str _, H, I.tok _, ⟨_, rfl⟩, q⟩
    | int i t => exact PySem.P.repr_of_int (of_decide_eq_true S.ok) ⟨.str _, H, I.tok _, ⟨_, rfl⟩, q⟩
    | str z t => exact PySem.P.repr_of_str (h := ⟨.str _, H, I.tok _, ⟨_, rfl⟩, q⟩) S.len
    | list h1 h2 h3 h4 =>
      exact repr_of_reads' (.list h1 h2 h3 h4) S.ok (fun z => by rw [S.nod] at z; cases z) hG (by have := S.deep; omega) (fun _ _ z => z) (fun h' u tk kp => ⟨.str _, H, I.kept kp, ⟨_, rfl⟩, q⟩) S.len
    | tuple h1 h2 h3 h4 =>
      exact repr_of_reads' (.tuple h1 h2 h3 h4) S.ok (fun z => by rw [S.nod] at z; cases z) hG (by have := S.deep; omega) (fun _ _ z => z) (fun h' u tk kp => ⟨.str _, H, I.kept kp, ⟨_, rfl⟩, q⟩) S.len
    | dict => cases hd
  | @dict a h =>
    cases ru
    obtain ⟨_, hns, vs, kv, o, es, ep, h1, h2, h3, h4⟩ := (show ObjOk X.prog X.w H s.heap a (.dK []) from I.hok a _ h)
    cases kv
    have e0 : es.toList = [] := by
      have z := h4.2.1
      cases hl : es.toList with
      | nil => rfl
      | cons y ys => rw [hl] at z; cases z
    have rd : Reads s.heap (.ref a) (.dict []) (a :: [] ++ []) := .dict h1 h2.1 h3 (by rw [e0]; exact .nil) (by rw [e0]; exact .nil)
    exact repr_of_reads' rd rfl (fun _ z => by
      have e1 : sysModules = a := by simpa using z
      rw [e1, beq_self_eq_true] at hns
      cases hns) hG (show X.A.units + (1 + 1) < cLine by omega) (fun _ _ z => z) (fun h' u tk kp => ⟨.str _, H, I.kept kp, ⟨_, rfl⟩, q⟩) (by decide +kernel)
theorem repr_ {K : PySem.W.Frag} {H : Hp} {Q : VK} {x : V} {d : PyData} (h : Dr K H x d) (q : Q (.str d.shown) H) : rRepr K [x] H Q := ⟨x, d, rfl, h, q⟩
theorem lenL {K : PySem.W.Frag} {H : Hp} {Q : VK} {p : Addr} {ys : List V} (h : SqL K H p ys) (q : Q (.int ys.length) H) : rLen K [.ref p] H Q := ⟨p, ys, rfl, .inl h, q⟩
theorem lenT {K : PySem.W.Frag} {H : Hp} {Q : VK} {p : Addr} {ys : List V} (h : SqT K H p ys) (q : Q (.int ys.length) H) : rLen K [.ref p] H Q := ⟨p, ys, rfl, .inr h, q⟩
theorem isi {K : PySem.W.Frag} {H : Hp} {Q : VK} {x c : V} {t u : Value} {b : Bool} (hc : ClsV c u) (ty : TyX K H x t) (hk : PySem.W.kitOne K t u = some b) (q : Q (.bl b) H) : rIsi K [x, c] H Q := ⟨x, c, t, u, b, rfl, hc, ty, hk, q⟩
theorem isiT {K : PySem.W.Frag} {H : Hp} {Q : VK} {x : V} {tp : Addr} {cs : List V} {t : Value} {us : List Value} {b : Bool} (hT : H tp = some (.tup cs)) (hc : Paired ClsV cs us) (ty : TyX K H x t) (hk : PySem.W.kitAny K t us = some b) (q : Q (.bl b) H) : rIsiT K [x, .ref tp] H Q := ⟨x, tp, cs, t, us, b, rfl, hT, hc, ty, hk, q⟩
def rTup (K : PySem.W.Frag) : List V → Hp → VK → Prop := fun xs H Q => ∃ p ys, xs = [.ref p] ∧ SqL K H p ys ∧ ∀ l, H l = none → Q (.ref l) (upd H l (.tup ys))
theorem call_tupleL {X : Cx} : CallR X (.type "tuple") (rTup X.K) := fun pins s σ H xs us Q I r h => call_tuple_of pins s σ H xs us Q I r (by
  obtain ⟨p, ys, rfl, hs, q⟩ := h
  exact ⟨p, ys, rfl, .inl ⟨hs, q⟩⟩)
theorem tupE {K : PySem.W.Frag} {H : Hp} {Q : VK} {p : Addr} {ys : List V} (h : SqL K H p ys) (q : ∀ l, H l = none → Q (.ref l) (upd H l (.tup ys))) : rTup K [.ref p] H Q := ⟨p, ys, rfl, h, q⟩
/-! ### data: lists of bools, of ints -/
section
variable {K : PySem.W.Frag} {H : Hp} {a : Addr}
theorem dpBlsAll : ∀ ns : List Bool, DpAll K H (ns.map V.bl) (ns.map PyData.bool)
  | [] => .nil
  | n :: ns => .cons (.bl n) (dpBlsAll ns)
theorem dpBls {ns : List Bool} (h : SqL K H a (ns.map V.bl)) : Dp K H (.ref a) (.list (ns.map PyData.bool)) := .lst h (dpBlsAll ns)
theorem layBls : ∀ ns : List Bool, PyData.canLayAll0 (ns.map PyData.bool) = true
  | [] => by simp [PyData.canLayAll0]
  | n :: ns => by simp [PyData.canLayAll0, PyData.canLay0, layBls ns]
theorem deepBls : ∀ ns : List Bool, PyData.depthAll (ns.map PyData.bool) = 0
  | [] => by simp [PyData.depthAll]
  | n :: ns => by simp [PyData.depthAll, PyData.depth, deepBls ns]
theorem shBls (ns : List Bool) : SeqAt.shaped (.list (ns.map PyData.bool)) = true := by
  simp [SeqAt.shaped, PyData.canLay0, layBls, PyData.depth, deepBls]
theorem eqvBls : ∀ ns : List Bool, PyData.eqvAll (ns.map PyData.bool) (ns.map PyData.bool) = true
  | [] => by simp [PyData.eqvAll]
  | n :: ns => by simp [PyData.eqvAll, PyData.eqv, eqvBls ns]
end

section
variable {K : PySem.W.Frag} {H : Hp} {a : Addr}
theorem dpIntsAll : ∀ ns : List Int, DpAll K H (ns.map V.int) (ns.map PyData.int)
  | [] => .nil
  | n :: ns => .cons (.int n) (dpIntsAll ns)
theorem dpInts {ns : List Int} (h : SqL K H a (ns.map V.int)) : Dp K H (.ref a) (.list (ns.map PyData.int)) := .lst h (dpIntsAll ns)
theorem layInts : ∀ ns : List Int, PyData.canLayAll0 (ns.map PyData.int) = true
  | [] => by simp [PyData.canLayAll0]
  | n :: ns => by simp [PyData.canLayAll0, PyData.canLay0, layInts ns]
theorem deepInts : ∀ ns : List Int, PyData.depthAll (ns.map PyData.int) = 0
  | [] => by simp [PyData.depthAll]
  | n :: ns => by simp [PyData.depthAll, PyData.depth, deepInts ns]
theorem shInts (ns : List Int) : SeqAt.shaped (.list (ns.map PyData.int)) = true := by
  simp [SeqAt.shaped, PyData.canLay0, layInts, PyData.depth, deepInts]
theorem eqvNil (ns : List Int) : PyData.eqv (.list (ns.map PyData.int)) (.list []) = ns.isEmpty := by
  cases ns <;> simp [PyData.eqv, PyData.eqvAll]
end
end Rd
/-! ## repr of tuples and lists that hold empty dicts -/
namespace Rd
open PySem L2 PySem.Spec PyProof.Rows
/-- a text or an empty dict -/
inductive De (K : PySem.W.Frag) (H : Hp) : V → PyData → Prop
  | str (z : Str) : De K H (.str z) (.str z)
  | dict {a : Addr} (h : H a = some (.dK [])) : De K H (.ref a) (.dict [])
theorem De.reads {X : Cx} {pins : List (Addr × Obj)} {σ : L2.St} {H : Hp} {s : Shared} (I : Inv X pins σ H s) {v : V} {d : PyData} {u : Value} (h : De X.K H v d) (r : RelV v u) : ∃ as, Reads s.heap u d as ∧ sysModules ∉ as := by
  cases h with
  | str z => obtain ⟨t, rfl⟩ := r; exact ⟨[], .str z t, by simp⟩
  | @dict a h =>
    cases r
    obtain ⟨_, hns, vs, kv, o, es, ep, h1, h2, h3, h4⟩ := (show ObjOk X.prog X.w H s.heap a (.dK []) from I.hok a _ h)
    cases kv
    have e0 : es.toList = [] := by
      have z := h4.2.1
      cases hl : es.toList with
      | nil => rfl
      | cons y ys => rw [hl] at z; cases z
    refine ⟨a :: [] ++ [], .dict h1 h2.1 h3 (by rw [e0]; exact .nil) (by rw [e0]; exact .nil), fun z => ?_⟩
    have e1 : sysModules = a := by simpa using z
    rw [e1, beq_self_eq_true] at hns
    cases hns
theorem De.all {X : Cx} {pins : List (Addr × Obj)} {σ : L2.St} {H : Hp} {s : Shared} (I : Inv X pins σ H s) : ∀ {vs : List V} {ds : List PyData} {us : List Value}, Paired (De X.K H) vs ds → Vals vs us → ∃ as, ReadsAll s.heap us ds as ∧ sysModules ∉ as
  | _, _, _, .nil, .nil => ⟨[], .nil, by simp⟩
  | _, _, _, .cons h hs, .cons r rs => by
    obtain ⟨as, q, n⟩ := h.reads I r
    obtain ⟨bs, qs, ns⟩ := De.all I hs rs
    exact ⟨as ++ bs, .cons q qs, fun z => (List.mem_append.mp z).elim n ns⟩
/-- what repr shows, {} within a tuple or a list too -/
inductive DrE (K : PySem.W.Frag) (H : Hp) : V → PyData → Prop
  | dr {v : V} {d : PyData} (h : Dr K H v d) : DrE K H v d
  | tup {a : Addr} {xs : List V} {ds : List PyData} (h : H a = some (.tup xs)) (hs : Paired (De K H) xs ds) (ok : (PyData.tuple ds).showable = true) (dp : (PyData.tuple ds).depth ≤ 40) (ln : (PyData.tuple ds).shown.length ≤ sizeLine) : DrE K H (.ref a) (.tuple ds)
  | lst {a : Addr} {xs : List V} {ds : List PyData} (h : H a = some (.lst xs)) (hs : Paired (De K H) xs ds) (ne : xs ≠ []) (ok : (PyData.list ds).showable = true) (dp : (PyData.list ds).depth ≤ 40) (ln : (PyData.list ds).shown.length ≤ sizeLine) : DrE K H (.ref a) (.list ds)
def rReprE (K : PySem.W.Frag) : List V → Hp → VK → Prop := fun xs H Q => ∃ x d, xs = [x] ∧ DrE K H x d ∧ Q (.str d.shown) H
theorem call_reprE {X : Cx} {k : Nat} (hr : Room k X.A) (hG : X.A.guards = some []) : CallR X (.builtin "repr") (rReprE X.K) := by
  intro pins s σ H xs us Q I r h
  obtain ⟨x, d, rfl, hd, q⟩ := h
  have hu := hr.un
  cases hd with
  | dr hd => exact call_reprD hr hG pins s σ H _ us Q I r ⟨x, d, rfl, hd, q⟩
  | tup h hs ok dp ln =>
    obtain ⟨u, rfl, ru⟩ := vals1 r
    cases ru
    obtain ⟨_, its, rv, o, ho, hc, n, ht⟩ := (show ObjOk X.prog X.w H s.heap _ (.tup _) from I.hok _ _ h)
    obtain ⟨as, rd, no⟩ := De.all I hs rv
    exact repr_of_reads' (.tuple ho hc ht rd) ok (fun _ => no) hG (by omega) (fun _ _ z => z) (fun h' u tk kp => ⟨.str _, H, I.kept kp, ⟨_, rfl⟩, q⟩) ln
  | lst h hs ne ok dp ln =>
    obtain ⟨u, rfl, ru⟩ := vals1 r
    cases ru
    obtain ⟨_, its, n, rv, ho⟩ := (show ObjOk X.prog X.w H s.heap _ (.lst _) from I.hok _ _ h)
    obtain ⟨as, rd, no⟩ := De.all I hs rv
    rename_i a xs ds
    simp only [PyData.shown] at q ln
    simp only [PyData.depth] at dp
    obtain ⟨bs, hb, kk⟩ := ReprAllK.of_readsAll (prog := X.prog) (w := X.w) rd (by simpa [PyData.showable] using ok) (fun _ => no) (fun t ht => Nat.le_trans (listText_mem_le ht) ln)
    have out := not_mem_of_deeper (Reads.list ho rfl rfl rd) (by simp only [PyData.depth]; omega) hb
    cases its with
    | nil => cases rv; exact absurd rfl ne
    | cons y ys =>
      refine call_repr_slot (T := "list") (by omega) ⟨_, ho, rfl⟩ F.slot_list_repr.toG (call_list_reprK (A := X.A.in1) ho rfl rfl out (by simpa using kk.length_eq) (fun i y e => kk.item i y (by simpa using e)) hG (fun b _ => Clear.nil b) (by show X.A.units + 1 + _ < cLine; omega) (fun _ _ z => z) (fun h' u tk kp => ⟨_, _, rfl, .str _, H, I.kept kp, ⟨_, rfl⟩, q⟩) ln)
theorem reprE_ {K : PySem.W.Frag} {H : Hp} {Q : VK} {x : V} {d : PyData} (h : DrE K H x d) (q : Q (.str d.shown) H) : rReprE K [x] H Q := ⟨x, d, rfl, h, q⟩
end Rd
/-! ## The end of a law whose def is entered with no guard around -/
namespace Rd
open PySem L2 PySem.Spec PyProof.Rows
section
variable {P : Program} {w : World} {K : PySem.W.Frag} {mg mb : Str → Option Value} {k : Nat} {fa a : Addr} {fd : FuncData} {x : Str} {sp : Sp} {s : Shared} {vs : List Value} {ns : List Int}
/-- entered over an abstract heap that tracks the script at most -/
theorem enterG {H : Hp} (KX : K.In s.heap) (hns : s.heap.Ns mainGlobals mg) (hb : s.heap.Ns builtinsNs mb) (hbb : ∀ y : Str, y ≠ "__name__" → mb y = bootBuiltins y) (hlim : s.heap.NoLimit) (hg : s.gens = #[])
    (ha : ∃ o : Obj, s.heap.get? a = some o ∧ ∀ es ep, o.data ≠ .dict es ep) (hr : Room k callerA) (F : ∀ base : Heap, K.In base → base.Ns mainGlobals mg → FnOkG P w K mg base CX0 k fa fd [x] sp) (hbind : ∀ (s : Shared) (u : Value), BindsTo s fd ⟨[u], []⟩ [(x, u)])
    (only : Only H) (at_ : ∀ b, H b ≠ none → b = a ∧ K.lookup a = none) (hok : HOk P w H s.heap) (hsp : sp [.ref a] H (fun v _ => v = .bl true) fun _ _ _ => False) :
    codeAny (model P w) callerA (.call (.ref fa) ⟨[.ref a], []⟩) (fun r s' => r = .ok (.ret (.bool true)) ∧ OldK s.heap s'.heap ∧ s'.os = s.os ∧ AllBare s'.gens) s := by
  obtain ⟨oa, hoa, hnd⟩ := ha
  have clear_of : ∀ {b : Addr} {o : Obj} {es : Array DictEntry} {ep : Nat}, s.heap.get? b = some o → o.data = .dict es ep → H b = none := fun {b o es ep} e1 e2 => by
    cases q : H b with
    | none => rfl
    | some u =>
      obtain ⟨rfl, _⟩ := at_ b (by rw [q]; exact fun z => nomatch z)
      rw [hoa] at e1
      cases e1
      exact absurd e2 (hnd es ep)
  have ns_of : ∀ {b : Addr} {m : Str → Option Value}, s.heap.Ns b m → (hidT s.heap H).Ns b m := fun ⟨o, es, ep, e, d, r⟩ => ⟨o, es, ep, hidT_get e (clear_of e d), d, r⟩
  have kin : K.In (hidT s.heap H) := fun b o e => hidT_get (KX b o e) (by
    cases q : H b with
    | none => rfl
    | some u =>
      obtain ⟨rfl, z⟩ := at_ b (by rw [q]; exact fun z => nomatch z)
      rw [z] at e
      cases e)
  have lim : (hidT s.heap H).NoLimit := let ⟨mc, h1, h2⟩ := hlim; ⟨mc, ns_of h1, h2⟩
  have env : Env0 P w K mg (hidT s.heap H) callerA [] s H :=
    { frames := rfl
      mod := ⟨kin, ns_of hns, ⟨mb, ns_of hb, hbb⟩, lim⟩
      bs := fun b o e => of_hidT e
      bsz := Nat.le_of_eq (hidT_size _ _)
      funs := trivial
      frf := fun b z => nomatch z
      hok := hok
      bare := AllBare.of_eq hg }
  refine codeAny_mono ((F _ kin (ns_of hns)).run callerA [] s H ⟨[.ref a], []⟩ [.ref a] [.ref a] _ _ rfl hr env (hbind s (.ref a)) (.cons rfl .nil) hsp) fun r s' h => ?_
  match r, h with
  | .error _, h => exact h.elim
  | .ok .next, h => exact h.elim
  | .ok .brk, h => exact h.elim
  | .ok .cont, h => exact h.elim
  | .ok (.ret u), h =>
    obtain ⟨v, H', os, bare, un, hok', r', q⟩ := h
    have ev : v = .bl true := q
    subst ev
    cases (show u = Value.bool true from r')
    refine ⟨rfl, OldK.of_keep fun b o e => ?_, os, bare⟩
    rcases only b with z | ⟨ob, xs, z⟩
    · exact un.keep b o e z (fun z => nomatch z) (fun z => nomatch z)
    · have e1 := (hok b _ z).1
      have e2 := (hok' b _ (un.frzs b ob _ z)).1
      rw [e] at e1
      cases e1
      exact e2
theorem callG (KX : K.In s.heap) (hns : s.heap.Ns mainGlobals mg) (hb : s.heap.Ns builtinsNs mb) (hbb : ∀ y : Str, y ≠ "__name__" → mb y = bootBuiltins y) (hlim : s.heap.NoLimit) (hg : s.gens = #[])
    (ha : s.heap.get? a = some { cls := .type "list", data := .seq vs.toArray }) (hi : IntsAre vs ns) (hl : ns.length ≤ sizeLine) (hr : Room k callerA)
    (F : ∀ base : Heap, K.In base → base.Ns mainGlobals mg → FnOkG P w K mg base CX0 k fa fd [x] sp) (hbind : ∀ (s : Shared) (u : Value), BindsTo s fd ⟨[u], []⟩ [(x, u)])
    (hsp : ∀ H : Hp, Only H → SqL K H a (ns.map V.int) → sp [.ref a] H (fun v _ => v = .bl true) fun _ _ _ => False) :
    codeAny (model P w) callerA (.call (.ref fa) ⟨[.ref a], []⟩) (fun r s' => r = .ok (.ret (.bool true)) ∧ OldK s.heap s'.heap ∧ s'.os = s.os ∧ AllBare s'.gens) s := by
  have rv := vals_ints hi
  have len := hi.length
  have plain : ∃ o : Obj, s.heap.get? a = some o ∧ ∀ es ep, o.data ≠ .dict es ep := ⟨_, ha, fun _ _ z => nomatch z⟩
  cases hk : K.lookup a with
  | some o =>
    have e := KX a o hk
    rw [ha] at e
    cases e
    have h0 : Only fun _ => none := fun _ => .inl rfl
    exact enterG KX hns hb hbb hlim hg plain hr F hbind h0 (fun b z => absurd rfl z) (fun b u z => nomatch z) (hsp _ h0 (.inr ⟨_, vs.toArray, _, hk, rfl, rfl, rfl, by rw [List.size_toArray, len]; exact hl, by simpa using rv⟩))
  | none =>
    let scr : HO := .frz { cls := .type "list", data := .seq vs.toArray } (.lst (ns.map V.int))
    let H : Hp := fun b => if b = a then some scr else none
    have yes : H a = some scr := if_pos rfl
    have no : ∀ {b}, b ≠ a → H b = none := fun h => if_neg h
    have h0 : Only H := fun b => if e : b = a then .inr ⟨_, _, e ▸ yes⟩ else .inl (no e)
    refine enterG KX hns hb hbb hlim hg plain hr F hbind h0 (fun b z => ⟨?_, hk⟩) (fun b u z => ?_) (hsp H h0 (.inl (.inr ⟨_, yes⟩)))
    · by_cases e : b = a
      · exact e
      · exact absurd (no e) z
    · by_cases e : b = a
      · subst e
        rw [yes] at z
        cases z
        exact ⟨ha, by rw [List.length_map]; exact hl, vs, _, rv, ha⟩
      · rw [no e] at z
        cases z
end
theorem walkG {l : PySem.W.OpenLaw} {n k : Nat} {q : Program} {loose : List Str} {XP : (Str → Option Value) → Heap → Prop} {YP : World → Heap → Prop} {d : DefRec} {K : Params → PySem.W.Frag} {sp : PySem.W.Frag → Sp} {x : Str} (hn : l.most = some n) (hn2 : n ≤ sizeLine) (hdf : d.params.defaults = [])
    (hr : Room k callerA) (hY : ∀ (w : World) (h : Heap), YP w h → (K w.params).In h)
    (F : ∀ (w : World) (mg : Str → Option Value) (fa : Addr) (h : Heap), (K w.params).In h → h.Ns mainGlobals mg → mg d.name = some (.ref fa) →
      ∃ fd : FuncData, (∀ (s : Shared) (u : Value), BindsTo s fd ⟨[u], []⟩ [(x, u)]) ∧ ∀ base : Heap, (K w.params).In base → base.Ns mainGlobals mg → FnOkG l.prog w (K w.params) mg base CX0 k fa fd [x] (sp (K w.params)))
    (hsp : ∀ (K : PySem.W.Frag) (H : Hp) (a : Addr) (ns : List Int), ns.length ≤ n → SqL K H a (ns.map V.int) → sp K [.ref a] H (fun v _ => v = .bl true) fun _ _ _ => False) :
    PySem.W.WalkO q loose XP YP l.row.toRowW d [] (fun f vs => PySem.call f vs) :=
  Att.attach_call hn hdf fun w s₀ s₁ mg mb fa o pm cd doc a vs ns G Y ho hd hcd hmg hobj hints hlen hg => by
    obtain ⟨fd, hb, hF⟩ := F w mg fa _ (hY w _ Y) G.T.g hmg
    exact callG (hY w _ Y) G.T.g G.T.b G.T.builtins G.T.nolimit hg hobj hints (Nat.le_trans hlen hn2) hr hF hb fun H _ hS => hsp _ H a ns hlen hS
end Rd
/-! ## enumerate over a tuple; over a list or a tuple -/
namespace PySem
open AutoSeq1 (wpAny_loadPart')
/-- the heap behind a new walk with numbers over the tuple at l -/
def enumHp (h : Heap) (l : Addr) : Heap :=
  (h.push { cls := .type "tuple_iterator", data := .fields #[.ref l, .int 0 0] }).push { cls := .type "enumerate", data := .fields #[.none, .bool false, .ref h.objs.size, rawInt 0, .none, .none] }
theorem meets_enumT (l : Addr) (items : Array Value) (ol : Obj) (hc : ol.cls = .type "tuple") (n : Nat) (hd : ol.data = .seq items n) :
    Meets (Builtin.«enumerate.__new__» ⟨[.type "enumerate", .ref l], []⟩) (fun _ R s => s.heap.get? l = some ol ∧
      R (.ok (.ret (.ref (s.heap.push { cls := .type "tuple_iterator", data := .fields #[.ref l, .int 0 0] }).objs.size))) { s with heap := enumHp s.heap l }) :=
  .of_wp fun prog w A R s h => by
    obtain ⟨h0, g, d, tk, os⟩ := s
    obtain ⟨hl, q⟩ := h
    have sb := sub_enumerate
    have hT : Heap.IsTuple (Shared.heap ⟨h0, g, d, tk, os⟩) l items := ⟨_, hl, hc, n, hd⟩
    wp_walk using wpAny_loadPart' hl
    refine wpAny_stack_any fun st => wpAny_pure ?_
    split
    · rename_i c _ _ _ _ _
      cases (c == Value.type "enumerate") <;> (wp_walk using wpAny_loadPart' hl, wpAny_pyIter_tuple hT; exact ⟨_, rfl, q⟩)
    · wp_walk using wpAny_loadPart' hl, wpAny_pyIter_tuple hT
      exact ⟨_, rfl, q⟩
theorem call_enumT {prog : Program} {w : World} {A : Around} {E : Value → Shared → Prop} {s : Shared} {l : Addr} {items : Array Value} {Q : Value → Shared → Prop} (hT : s.heap.IsTuple l items)
    (q : ∀ h1, IsEnum h1 (s.heap.objs.size + 1) s.heap.objs.size 0 .none → h1.IsTupleIter s.heap.objs.size l 0 → (∀ b o, s.heap.get? b = some o → h1.get? b = some o) → Q (.ref (s.heap.objs.size + 1)) { s with heap := h1 }) :
    wpAny (model prog w) A (call (.type "enumerate") [.ref l]) Q E s := by
  obtain ⟨ol, hl, hc, n, hd⟩ := hT
  refine callType_new F.called_enumerate (by decide) (F.typeCall_enumerate_1 _) (F.newCall_enumerate_1 _) (fun obj => F.args_object_init_2 obj _) F.entry_enumerate_new (meets_enumT l items ol hc n hd) ⟨hl, ?_⟩
  have z : (s.heap.push { cls := .type "tuple_iterator", data := .fields #[.ref l, .int 0 0] }).objs.size = s.heap.objs.size + 1 := Heap.size_push ..
  show _ ∧ _
  rw [z]
  have he : IsEnum (enumHp s.heap l) (s.heap.objs.size + 1) s.heap.objs.size 0 .none := by
    have y := Heap.get?_push_size (s.heap.push { cls := .type "tuple_iterator", data := .fields #[.ref l, .int 0 0] }) (o := { cls := .type "enumerate", data := .fields #[.none, .bool false, .ref s.heap.objs.size, rawInt 0, .none, .none] }) rfl
    rw [z] at y
    exact y
  exact ⟨⟨_, he, rfl⟩, q _ he ⟨_, Heap.get?_push_of_some _ (Heap.get?_push_size _ rfl), rfl, rfl⟩ fun b o x => Heap.get?_push_of_some _ (Heap.get?_push_of_some _ x)⟩
theorem enumT_end {prog : Program} {w : World} {A : Around} {E : Value → Shared → Prop} {s : Shared} {e it l : Addr} {i : Nat} {items : Array Value} {old : Value} {Q : Option Value → Shared → Prop} (hh : A.handled = none)
    (he : IsEnum s.heap e it i old) (hit : s.heap.IsTupleIter it l i) (hl : s.heap.IsTuple l items) (hx : items[i]? = none) (hQ : ∀ h', Heap.ExtBut it s.heap h' → Q none { s with heap := h' }) : wpAny (model prog w) A (pyNext (.ref e)) Q E s := by
  have hT : s.TypeIs (.ref e) "enumerate" := ⟨_, he, rfl⟩
  unfold pyNext
  refine wpAny_bind (wpAny_attempt (wpAny_callSpecial?_slot (name := Str.ofString "__next__") hT F.slot_enumerate_next (wpAny_call_entry F.slot_enumerate_next hT F.entry_enumerate_next ?_ (F.args_enumerate_next_1 _))))
  show wpAny _ _ (field (.ref e) 2 >>= _) _ _ _
  refine wpAny_bind (wpAny_field he rfl (x := .ref it) rfl (wpAny_bind (wpAny_nextOf_tuple_end hh hit hl hx fun h' x he' hx' => ?_)))
  obtain ⟨o, ho, hc⟩ := hx'
  exact wpAny_bind (wpAny_isInstance (T := "StopIteration") (b := true) ⟨o, ho, hc⟩ isSubtype_stop (wpAny_pure (hQ _ he')))
end PySem
namespace Rd
open PySem L2 PySem.Spec PyProof.Rows
/-- the tuple at a, each item in a new pair with its number -/
def IteT (K : PySem.W.Frag) (a : Addr) : It :=
  ⟨fun i H => ∃ (xs : List V) (x : V), SqT K H a xs ∧ xs[i]? = some x, fun i H v H' => ∃ T x, v = .ref T ∧ H T = none ∧ H' = upd H T (.tup [.int (i : Nat), x]) ∧ ∀ xs, SqT K H a xs → xs[i]? = some x, fun i H => ∃ xs : List V, SqT K H a xs ∧ xs.length ≤ i⟩
theorem turn_enumT {P : Program} {w : World} {K : PySem.W.Frag} {elts : List Expr} {kk : Nat} {tpos : Pos} (a e it : Addr) :
    Turn P w K (.Tuple elts kk tpos) (IteT K a) [e, it] e (fun i h => (∃ old, IsEnum h e it ((i : Nat) : Int) old) ∧ h.IsTupleIter it a i ∧ e ≠ it ∧ e ≠ a ∧ a ≠ it) where
  mem := by simp
  obj := fun i h st b hb => by
    obtain ⟨⟨old, he⟩, ⟨o, ho, hc, hd⟩, _, _, _⟩ := st
    rcases (by simpa using hb : b = e ∨ b = it) with z | z
    · rw [z]
      exact ⟨_, he, fun v q => nomatch q⟩
    · rw [z]
      exact ⟨o, ho, fun v q => by rw [hd] at q; cases q⟩
  keep := fun i h h' st k => by
    obtain ⟨⟨old, he⟩, hi, n1, n2, n3⟩ := st
    exact ⟨⟨old, k e (by simp) _ he⟩, hi.at (fun o q => k it (by simp) o q), n1, n2, n3⟩
  item := by
    intro X hP hw hK hc i pins s σ H E I hf st hg
    subst hP hw hK
    obtain ⟨⟨old, he⟩, hit, hne, hea, hai⟩ := st
    obtain ⟨xs, x, hq, hx⟩ := hg
    obtain ⟨its, rv, p, hz⟩ := I.tuple hq
    obtain ⟨u, hu, ru⟩ := rv.get hx
    have pT : s.heap.IsTuple a its.toArray := p
    have hel : e < s.heap.objs.size := Heap.lt_size he
    have hil : it < s.heap.objs.size := by
      obtain ⟨_, q, _⟩ := hit
      exact Heap.lt_size q
    have hlt : i < its.toArray.size := by
      rw [List.size_toArray]
      exact (List.getElem?_eq_some_iff.mp hu).1
    refine wpAny_pyNext_enum_itemD (Draws.tuple (A := X.A.in1) (I.ok.hd hc) it a hai its.toArray) he ⟨hit, pT⟩ hlt hne (by simp [hne, hea]) fun y h' tk hy ho st' hT hsz hk => ?_
    have ey : y = u := by
      have e1 : its.toArray[i]? = some y := hy
      rw [List.getElem?_toArray, hu] at e1
      exact (Option.some.inj e1).symm
    subst ey
    refine ⟨_, rfl, wpAny_letOwnedTupleGo_enum (s := { s with heap := h', toks := tk + 1 }) ho fun h2 he2 sb => ?_⟩
    have hT2 : h2.get? s.heap.objs.size = some { cls := .type "tuple", data := .seq #[.int i tk, y] } := (sb.2 _ (Nat.ne_of_gt hel)).trans hT
    have new : ObjOk X.prog X.w (upd H s.heap.objs.size (.tup [.int (i : Nat), x])) h2 s.heap.objs.size (.tup [.int (i : Nat), x]) :=
      ⟨by show 2 ≤ sizeLine; decide, [.int i tk, y], .cons ⟨_, rfl⟩ (.cons ru .nil), ⟨_, hT2, rfl, _, rfl⟩⟩
    have I1 : Inv X pins σ (upd H s.heap.objs.size (.tup [.int (i : Nat), x])) { s with heap := h2, toks := tk + 1 } :=
      I.turnedNew (ch := [e, it]) (fun b ob hb q => (sb.2 b fun z => hb (by simp [z])).trans (hk b ob (fun z => hb (by simp [z])) (fun z => hb (by simp [z])) q)) hf (Nat.le_refl _) new
    refine ⟨.ref s.heap.objs.size, _, I1, rfl, ⟨_, x, rfl, I.hok.fresh (Nat.le_refl _), rfl, fun ys hy => by rw [I.tuple_inj hy hq]; exact hx⟩, ⟨⟨y, ?_⟩, st'.1.at fun o q => (sb.2 it (Ne.symm hne)).trans q, hne, hea, hai⟩, fun b hb => ?_⟩
    · rw [show ((i + 1 : Nat) : Int) = (i : Int) + 1 by omega]
      exact he2
    · have hb2 : b < s.heap.objs.size := by
        rcases (by simpa using hb : b = e ∨ b = it) with z | z
        · rw [z]; exact hel
        · rw [z]; exact hil
      rw [upd_ne (Nat.ne_of_lt hb2)]
      exact (hf b hb).1
  done := by
    intro X hP hw hK hc i pins s σ H E I hf st hg
    subst hP hw hK
    obtain ⟨⟨old, he⟩, hit, hne, hea, hai⟩ := st
    obtain ⟨xs, hq, hx⟩ := hg
    obtain ⟨its, rv, p, hz⟩ := I.tuple hq
    have pT : s.heap.IsTuple a its.toArray := p
    obtain ⟨f0, f1, f2, f3, f4, f5⟩ := hf it (by simp)
    have hl := rv.length
    refine enumT_end (I.ok.hd hc) he hit pT (by simp; omega) fun h' eb => ⟨rfl, I.turned (t' := s.toks) (fun b o hb q => eb b o hb q) f0 f1 f3 f4 f5⟩
  self := fun A i s Q E st h => let ⟨⟨_, he⟩, _⟩ := st; wpAny_pyIter_enum he h
/-- enumerate(e), e a list or a tuple -/
def iEnA (K : PySem.W.Frag) (ta : TA) : L2.St → Hp → (It → Hp → Prop) → Prop := fun σ H R => ta σ H fun vs H1 => ∃ a, vs = [.ref a] ∧ ((∃ xs, SqL K H1 a xs ∧ R (Ite K a) H1) ∨ ∃ xs, SqT K H1 a xs ∧ R (IteT K a) H1)
theorem pi_enumA {X : Cx} {e : Expr} {ta : TA} {p pos tpos : Pos} {elts : List Expr} {kk : Nat} (hg : Gl X "enumerate") (hm : X.mg "enumerate" = none) (ha : PA X [e] ta) (hs : starEach [e] X.env = [(false, eval e X.env)] := by rfl) :
    PI X (.Tuple elts kk tpos) (.Call (.Name "enumerate" p) [e] [] pos) (iEnA X.K ta) := by
  refine ⟨fun pins s σ H R I h => Call_ (ld_blt I hg hm boot_enumerate (PyProof.Rows.callWith_type1 (thn (ha.run pos pins s σ H _ I h) fun us s1 ⟨vs, H1, I1, r1, a, ex, q1⟩ => ?_) hs rfl))⟩
  subst ex
  obtain ⟨u, rfl, ru⟩ := vals1 r1
  cases ru
  have fp : ∀ b ∈ [s1.heap.objs.size + 1, s1.heap.objs.size], FpOk X pins H1 b := fun b hb => by
    have hle : s1.heap.objs.size ≤ b := by
      rcases (by simpa using hb : b = s1.heap.objs.size + 1 ∨ b = s1.heap.objs.size) with z | z <;> omega
    exact I1.fpOk hle (I1.hok.fresh hle)
  rcases q1 with ⟨xs, hq, q⟩ | ⟨xs, hq, q⟩
  · obtain ⟨its, rv, p1, hz⟩ := I1.list hq
    exact call_enumerate_list p1.isList fun h' he hit hsz hk => wpAny_pyIter_enum he ⟨s1.heap.objs.size + 1, [s1.heap.objs.size + 1, s1.heap.objs.size], _, _, H1, rfl, I1.kept (t' := s1.toks) hk, turn_enum a _ _, ⟨⟨.none, he⟩, hit, Nat.succ_ne_self _⟩, fp, q⟩
  · obtain ⟨its, rv, p1, hz⟩ := I1.tuple hq
    have pT : s1.heap.IsTuple a its.toArray := p1
    have la : a < s1.heap.objs.size := by
      obtain ⟨_, y, _⟩ := pT
      exact Heap.lt_size y
    exact call_enumT pT fun h' he hit hk => wpAny_pyIter_enum he ⟨s1.heap.objs.size + 1, [s1.heap.objs.size + 1, s1.heap.objs.size], _, _, H1, rfl, I1.kept (t' := s1.toks) hk, turn_enumT a _ _, ⟨⟨.none, he⟩, hit, Nat.succ_ne_self _, Nat.ne_of_gt (Nat.lt_succ_of_lt la), Nat.ne_of_lt la⟩, fp, q⟩
/-- a list or a tuple -/
def SqA (K : PySem.W.Frag) (H : Hp) (a : Addr) (xs : List V) : Prop := SqL K H a xs ∨ SqT K H a xs
theorem SqA.same {K : PySem.W.Frag} {H H' : Hp} {a : Addr} {xs : List V} (h : SqA K H a xs) (s : Same H H') : SqA K H' a xs := h.imp (fun q => s.seq q) fun q => SqT.ext q s
theorem ienA {K : PySem.W.Frag} {ta : TA} {σ : L2.St} {H : Hp} {R : It → Hp → Prop} (q : ta σ H fun vs H1 => ∃ a, vs = [.ref a] ∧ ((∃ xs, SqL K H1 a xs ∧ R (Ite K a) H1) ∨ ∃ xs, SqT K H1 a xs ∧ R (IteT K a) H1)) : iEnA K ta σ H R := q
theorem walk_enumT {K : PySem.W.Frag} {a : Addr} {xs : List V} : Walk (IteT K a) xs.length (fun H => SqT K H a xs) (YPair (fun i => some (.int (i : Nat))) (fun i => xs[i]?)) := by
  refine ⟨fun i _ hi q => ⟨xs, xs[i], q, by simp [hi]⟩, fun _ q => ⟨xs, q, Nat.le_refl _⟩, fun i H v H' _ q y => ?_⟩
  obtain ⟨T, x, h1, h2, h3, h4⟩ := y
  exact ⟨T, _, x, h1, h2, h3, rfl, h4 xs q⟩
theorem forEnumA {K : PySem.W.Frag} {a : Addr} {xs : List V} {g : TG} {tb : TS} {D : Ends} {σ : L2.St} {H0 H : Hp} (hS : SqA K H0 a xs) (sH : Same H0 H) (Pv : Nat → L2.St → Hp → Prop) (h0 : Pv 0 σ H)
    (hk : ∀ i σ H1, i ≤ xs.length → Pv i σ H1 → Same H0 H1)
    (hs : ∀ i x σ H T, i < xs.length → xs[i]? = some x → Pv i σ H → H T = none → g (.ref T) σ (upd H T (.tup [.int (i : Int), x])) fun σ2 H2 => tb { D with nx := Pv (i + 1), ct := Pv (i + 1), bk := D.nx } σ2 H2) (hd : ∀ σ H, Pv xs.length σ H → D.nx σ H) :
    ∃ a', ([V.ref a] : List V) = [.ref a'] ∧ ((∃ ys, SqL K H a' ys ∧ forW (Ite K a') g tb D σ H) ∨ ∃ ys, SqT K H a' ys ∧ forW (IteT K a') g tb D σ H) := by
  refine ⟨a, rfl, ?_⟩
  rcases hS with q | q
  · exact .inl ⟨xs, sH.seq q, for_it walk_enum Pv h0 (fun i σ H1 hi p => (hk i σ H1 hi p).seq q) (fun i x σ H H' hi p y => by obtain ⟨T, x', y', rfl, hT, rfl, e1, e2⟩ := y; cases e1; exact hs i y' σ H T hi e2 p hT) hd⟩
  · exact .inr ⟨xs, SqT.ext q sH, for_it walk_enumT Pv h0 (fun i σ H1 hi p => SqT.ext q (hk i σ H1 hi p)) (fun i x σ H H' hi p y => by obtain ⟨T, x', y', rfl, hT, rfl, e1, e2⟩ := y; cases e1; exact hs i y' σ H T hi e2 p hT) hd⟩
end Rd
/-! ## == and != of an instance with an own == and of anything else -/
namespace Cmq
open PySem PySem.W
section
variable {prog : Program} {w : World} {A : Around} {E : Value → Shared → Prop} {s : Shared} {K : Frag} {x C f : Addr} {ox : Obj} {od : Option Obj} {u : Value} {T id : String}
/-- a built-in's own == declines -/
def Declines (prog : Program) (w : World) (K : Frag) (C x : Addr) (ox : Obj) (od : Option Obj) (u : Value) (id : String) : Prop := ∀ (A : Around) (E : Value → Shared → Prop) (s : Shared) (Q : Value → Shared → Prop), K.In s.heap → InstAt s.heap x ox C od →
  Q .notImplemented s → wpAny (model prog w) A (call (.builtin id) [u, .ref x]) Q E s
theorem eq_right {Q : Value → Shared → Prop} (hu : A.units < cLine) (X : K.In s.heap) (I : InstAt s.heap x ox C od) (hT : ∀ s' : Shared, s'.heap = s.heap → s'.TypeIs u T) (hsub : subIn K (.ref C) (.type T) = some false) (h1 : Slot T (cmpInfo .Eq).2.1 id)
    (hd : ∀ (A : Around) (E : Value → Shared → Prop) (Q : Value → Shared → Prop), Q .notImplemented s → wpAny (model prog w) A (call (.builtin id) [u, .ref x]) Q E s) (hone : oneThing? .Eq u (.ref x) = none) (hs : findIn K (.ref C) "__eq__" = some (some (.ref f))) (hf : isFn K (.ref f) = true)
    (h : wpAny (model prog w) A (call (.ref f) [.ref x, u]) (CmpBack Q) E s) : wpAny (model prog w) A (richCompare .Eq u (.ref x)) Q E s := by
  unfold richCompare
  simp only [hone]
  refine wpAny_holding (wpAny_bind (wpAny_cRoomFor hu ?_))
  refine wpAny_bind (wpAny_typeOf (hT s rfl) (wpAny_bind (I.type.here ?_)))
  rw [show (Value.type T != Value.ref C) = true from rfl]
  simp only [if_true]
  refine wpAny_bind ((looks_subIn X hsub).here ?_)
  simp only [Bool.false_eq_true, if_false, Bool.not_false, if_true]
  refine wpAny_bind (wpAny_tryCompare_declines (hT s rfl) h1 (hd _ _ _ ⟨rfl, ?_⟩))
  have one : wpAny (model prog w) A (tryCompare (.ref x) (cmpInfo .Eq).2.2 u) (fun r s' => ∃ v, r = some v ∧ Q v s') E s := by
    unfold tryCompare
    refine wpAny_bind (ifBound_K X I hs hf (wpAny_mono h (fun v s' hv => ?_) fun _ _ e => e))
    cases v <;> first | exact hv.elim | exact wpAny_pure ⟨_, rfl, hv⟩
  refine wpAny_bind (wpAny_mono one (fun r s' z => ?_) fun _ _ e => e)
  obtain ⟨v, rfl, hq⟩ := z
  exact wpAny_pure hq
theorem none_declines : Declines prog w K C x ox od .none "NoneType.__eq__" := fun A E s Q X I q => by
  obtain ⟨hp, g, d, t, os⟩ := s
  refine GQ.call_here F.slot_NoneType_eq (typeIs_none _) F.entry_NoneType_eq (F.args_NoneType_eq_2 _ _) ?_
  wp_walk
  exact q
theorem int_declines {i : Int} {tk : Tok} {dx : Addr} : Declines prog w K C x (instObj C dx) od (.int i tk) "int.__eq__" := fun A E s Q X I q => by
  obtain ⟨hp, g, d, t, os⟩ := s
  have hx := I.at_
  refine GQ.call_here F.slot_int_eq (typeIs_int _ _ _) F.entry_int_eq (F.args_int_eq_2 _ _) ?_
  repeat (first | with_reducible refine wpAny_loadPart_at hx ?_ | wp_step)
  exact q
theorem str_declines {z : Str} {tk : Tok} {dx : Addr} : Declines prog w K C x (instObj C dx) od (.str z tk) "str.__eq__" := fun A E s Q X I q => by
  obtain ⟨hp, g, d, t, os⟩ := s
  have hx := I.at_
  refine GQ.call_here F.slot_str_eq (typeIs_str _ _ _) F.entry_str_eq (F.args_str_eq_2 _ _) ?_
  repeat (first | with_reducible refine wpAny_loadPart_at hx ?_ | wp_step)
  exact q
/-- a list, tuple or dict at a -/
def DeclinesAt (prog : Program) (w : World) (K : Frag) (C x : Addr) (ox : Obj) (od : Option Obj) (a : Addr) (T id : String) : Prop := ∀ (A : Around) (E : Value → Shared → Prop) (s : Shared) (Q : Value → Shared → Prop), K.In s.heap → InstAt s.heap x ox C od →
  s.TypeIs (.ref a) T → Q .notImplemented s → wpAny (model prog w) A (call (.builtin id) [.ref a, .ref x]) Q E s
theorem listAt {a : Addr} (hsub : subIn K (.ref C) (.type "list") = some false) : DeclinesAt prog w K C x ox od a "list" "list.__eq__" := fun A E s Q X I hT q => by
  have L : Looks (model prog w) s.heap (isInstance (.ref x) (.type "list")) false := I.type.andThen (looks_subIn X hsub)
  obtain ⟨hp, g, d, t, os⟩ := s
  refine GQ.call_here F.slot_list_eq hT F.entry_list_eq (F.args_list_eq_2 _ _) ?_
  unfold Builtin.«list.__eq__»
  refine wpAny_bind (wpAny_of_eq (a := ((Value.ref a : Value), [Value.ref x])) (by first | rfl | (simp only [slotArgs]; rfl)) ?_)
  refine wpAny_bind (L.at ?_)
  wp_walk
  exact q
theorem tupAt {a : Addr} (hsub : subIn K (.ref C) (.type "tuple") = some false) : DeclinesAt prog w K C x ox od a "tuple" "tuple.__eq__" := fun A E s Q X I hT q => by
  have L : Looks (model prog w) s.heap (isInstance (.ref x) (.type "tuple")) false := I.type.andThen (looks_subIn X hsub)
  obtain ⟨hp, g, d, t, os⟩ := s
  refine GQ.call_here F.slot_tuple_eq hT F.entry_tuple_eq (F.args_tuple_eq_2 _ _) ?_
  unfold Builtin.«tuple.__eq__»
  refine wpAny_bind (wpAny_of_eq (a := ((Value.ref a : Value), [Value.ref x])) (by first | rfl | (simp only [slotArgs]; rfl)) ?_)
  refine wpAny_bind (L.at ?_)
  wp_walk
  exact q
theorem dictAt {a : Addr} (hsub : subIn K (.ref C) (.type "dict") = some false) : DeclinesAt prog w K C x ox od a "dict" "dict.__eq__" := fun A E s Q X I hT q => by
  have L : Looks (model prog w) s.heap (isInstance (.ref x) (.type "dict")) false := I.type.andThen (looks_subIn X hsub)
  obtain ⟨hp, g, d, t, os⟩ := s
  refine GQ.call_here F.slot_dict_eq hT F.entry_dict_eq (F.args_dict_eq_2 _ _) ?_
  unfold Builtin.«dict.__eq__»
  refine wpAny_bind (wpAny_of_eq (a := ((Value.ref a : Value), (Value.ref x : Value))) (by first | rfl | (simp only [Builtin.dictSlotArgs, slotArgs]; rfl)) ?_)
  refine wpAny_bind (L.at ?_)
  wp_walk
  exact q
theorem boundB {M : Model} {name : Str} {args : List Value} {Q : Option Value → Shared → Prop} (X : K.In s.heap) (I : InstAt s.heap x ox C od) (hs : findIn K (.ref C) name = some (some (.builtin id))) (hbd : ∀ self, bindSpecial (.builtin id) self = pure (.builtin id, [self]))
    (h : wpAny M A (call (.builtin id) (.ref x :: args)) (fun v => Q (some v)) E s) : wpAny M A (callSpecialIfBound? (.ref x) name args) Q E s := by
  have fin : wpAny M A (call (.builtin id) ([.ref x] ++ args) >>= fun v => pure (some v)) Q E s := wpAny_bind (wpAny_mono h (fun v s' z => wpAny_pure z) fun _ _ z => z)
  simp only [callSpecialIfBound?, bindSpecialIfBound?]
  refine wpAny_holding (wpAny_bind (wpAny_bind (wpAny_bind (I.type.here ((looks_findIn X hs).here (wpAny_bind (wpAny_askSetting (wpAny_ite ?_))))))))
  split
  · exact wpAny_bind (wpAny_of_eq (hbd _) (wpAny_pure (by exact fin)))
  · exact wpAny_tryCatch (wpAny_bind (wpAny_of_eq (hbd _) (wpAny_pure (by exact fin))))
theorem ne_left {tb : Value} {Q : Value → Shared → Prop} (hu : A.units + 1 < cLine) (X : K.In s.heap) (I : InstAt s.heap x ox C od) (hb : Looks (model prog w) s.heap (typeOf u) tb) (hn : notFirst K C tb = true) (hne : findIn K (.ref C) "__ne__" = some (some (.builtin "object.__ne__")))
    (hob : subIn K (.ref C) (.type "object") = some true) (hs : findIn K (.ref C) "__eq__" = some (some (.ref f))) (hf : isFn K (.ref f) = true)
    (h : wpAny (model prog w) A.in1 (call (.ref f) [.ref x, u]) (fun v s' => ∃ b, v = .bool b ∧ Q (.bool (!b)) s') E s) : wpAny (model prog w) A (richCompare .NotEq (.ref x) u) Q E s := by
  have sub : Looks (model prog w) s.heap (isInstance (.ref x) (.type "object")) true := I.type.andThen (looks_subIn X hob)
  have hu1 : A.in1.units < cLine := hu
  have body : wpAny (model prog w) A.in1 (Builtin.«object.__ne__» ⟨[.ref x, u], []⟩) (GQ.FinOf prog w A (wants (fun v s' => ∃ b, v = .bool (!b) ∧ Q (.bool (!b)) s') E)) (fun e s' => wants (fun v s' => ∃ b, v = .bool (!b) ∧ Q (.bool (!b)) s') E (.error e) s') s := by
    obtain ⟨hp, g, d, t, os⟩ := s
    unfold Builtin.«object.__ne__»
    repeat (first
      | with_reducible refine wpAny_cRoomFor hu1 ?_
      | (refine wpAny_bind (m := callSpecialIfBound? (.ref x) (Str.ofString "__eq__") [u]) (ifBound_K X I hs hf (wpAny_mono h (fun r s' hr => ?_) fun _ _ e => e)))
      | wp_step)
    obtain ⟨b, rfl, hq⟩ := hr
    repeat (first | exact ⟨b, rfl, hq⟩ | exact wpAny_pure ⟨b, rfl, hq⟩ | (refine wpAny_bind (m := truthy (.bool _)) (wpAny_truthy_bool ?_)) | wp_step)
  have one : wpAny (model prog w) A (tryCompare (.ref x) (cmpInfo .NotEq).2.1 u) (fun r s' => ∃ v, r = some v ∧ Q v s') E s := by
    unfold tryCompare
    refine wpAny_bind (boundB X I hne F.slot_object_ne.bind (wpAny_mono (Q := fun v s' => ∃ b, v = .bool (!b) ∧ Q (.bool (!b)) s') ?_ (fun v s' z => ?_) fun _ _ e => e))
    · exact wpAny_call (codeAny_call_builtin F.slot_object_ne.plain F.cmpEntry_ne (@check_slot (model prog w) _ _ s "object.__ne__" "object" "__ne__" (.ref x) [u] [] _ F.cmpKind_ne F.cmpSplit_ne sub (F.cmpArgs_ne _ _) body))
    · obtain ⟨b, rfl, hq⟩ := z
      exact wpAny_pure ⟨_, rfl, hq⟩
  unfold richCompare
  simp only [oneThing_ref]
  refine wpAny_holding (wpAny_bind (wpAny_cRoomFor (Nat.lt_of_succ_lt hu) ?_))
  refine wpAny_bind (I.type.here (wpAny_bind (hb.here ?_)))
  split
  · rename_i q
    have e : subIn K tb (.ref C) = some false := by
      rcases Bool.or_eq_true_iff.mp hn with e | e
      · rw [beq_iff_eq.mp e] at q; simp at q
      · exact beq_iff_eq.mp e
    refine wpAny_bind ((looks_subIn X e).here ?_)
    simp only [Bool.false_eq_true, if_false]
    refine wpAny_bind (wpAny_mono one (fun r s' z => ?_) fun _ _ e => e)
    obtain ⟨v, rfl, hq⟩ := z
    exact wpAny_pure hq
  · refine wpAny_bind (wpAny_pure ?_)
    simp only [Bool.false_eq_true, if_false]
    refine wpAny_bind (wpAny_mono one (fun r s' z => ?_) fun _ _ e => e)
    obtain ⟨v, rfl, hq⟩ := z
    exact wpAny_pure hq
end
end Cmq
namespace Cmq
open PySem L2 PySem.Spec PyProof.Rows
/-- what the written part says of a class with an own __eq__ at f, that answers True or False -/
structure OwnE (K : PySem.W.Frag) (C f : Addr) : Prop where
  eq : PySem.W.findIn K (.ref C) "__eq__" = some (some (.ref f))
  ne : PySem.W.findIn K (.ref C) "__ne__" = some (some (.builtin "object.__ne__"))
  fn : PySem.W.isFn K (.ref f) = true
  ob : PySem.W.subIn K (.ref C) (.type "object") = some true
  nl : PySem.W.subIn K (.ref C) (.type "list") = some false
  nt : PySem.W.subIn K (.ref C) (.type "tuple") = some false
  nd : PySem.W.subIn K (.ref C) (.type "dict") = some false
  nn : PySem.W.subIn K (.ref C) (.type "NoneType") = some false
  ni : PySem.W.subIn K (.ref C) (.type "int") = some false
  ns : PySem.W.subIn K (.ref C) (.type "str") = some false
/-- the own == of the class: a def of the text -/
def Eqr (P : Program) (w : World) (K : PySem.W.Frag) (mg : Str → Option Value) (base : Heap) (k : Nat) (C : Addr) (ps : List Str) (sp : Sp) : Prop :=
  ∃ (f : Addr) (fd : FuncData), OwnE K C f ∧ Binds K fd ps [] ∧ FnOk P w K mg base CX0 k f fd ps sp
/-- the answer of the own == -/
def rOwn (K : PySem.W.Frag) (C : Addr) (sp : Sp) (neg : Bool) (x y : V) (H : Hp) (Q : VK) : Prop := ∃ (a dx : Addr) (fs : List (Str × V)) (t : Value), x = .ref a ∧ H a = some (.ins C dx fs) ∧ TyX K H y t ∧ PySem.W.notFirst K C t = true ∧
  sp [x, y] H (fun v H' => ∃ b, v = .bl b ∧ Q (.bl (if neg then !b else b)) H') E0
/-- what stands on the left: None, an int, a text, a list, a tuple, a dict -/
inductive LeftT (H : Hp) : V → Prop where
  | non : LeftT H .non
  | int (i : Int) : LeftT H (.int i)
  | str (z : Str) : LeftT H (.str z)
  | lst {a : Addr} {xs : List V} (e : H a = some (.lst xs)) : LeftT H (.ref a)
  | tup {a : Addr} {xs : List V} (e : H a = some (.tup xs)) : LeftT H (.ref a)
  | dict {a : Addr} {kvs : List (Key × V)} (e : H a = some (.dK kvs)) : LeftT H (.ref a)
/-- x == o: the own == is asked from the right -/
def rOwnR (C : Addr) (sp : Sp) (x y : V) (H : Hp) (Q : VK) : Prop := ∃ (a dx : Addr) (fs : List (Str × V)), y = .ref a ∧ H a = some (.ins C dx fs) ∧ LeftT H x ∧ sp [y, x] H (fun v H' => ∃ b, v = .bl b ∧ Q (.bl b) H') E0
section
variable {X : Cx} {k : Nat} {C : Addr} {ps : List Str} {sp : Sp}
theorem runIn1 {f : Addr} {fd : FuncData} {pins : List (Addr × Obj)} {σ : L2.St} {H : Hp} {s : Shared} {Q : VK} {us : List Value} {vs : List V} (F : FnOk X.prog X.w X.K X.mg X.base CX0 k f fd ps sp) (hr : Room (k + 1) X.A) (hb : Binds X.K fd ps []) (I : Inv X pins σ H s) (r : Vals vs us) (h : sp vs H Q E0) :
    wpAny (model X.prog X.w) X.A.in1 (call (.ref f) us) (EP X pins σ Q) X.xe s := by
  have b := hb s us I.kIn (by rw [List.append_nil]; exact r.length.symm.trans (F.len _ _ _ _ h))
  rw [List.append_nil] at b
  refine wpAny_call (codeAny_mono (F.run X.A.in1 X.stack s H ⟨us, []⟩ us vs Q E0 hr.in1 I.env0.in1 b r h) fun r s' hq => ?_)
  match r, hq with
  | .error _, z => exact z.elim
  | .ok (.ret u), z => exact I.after z
  | .ok .next, z => exact z.elim
  | .ok .brk, z => exact z.elim
  | .ok .cont, z => exact z.elim
theorem two {a : Addr} {y : V} {v : Value} (ry : RelV y v) : Vals [V.ref a, y] [Value.ref a, v] := .cons (show RelV (.ref a) (.ref a) from rfl) (.cons ry .nil)
theorem opEq (F : Eqr X.prog X.w X.K X.mg X.base k C ps sp) (hr : Room k X.A) : OpR X (compareOp .Eq) (rOwn X.K C sp false) := by
  intro pins s σ H x y u v Q I rx ry h
  obtain ⟨f, fd, T, hb, F⟩ := F
  obtain ⟨a, dx, fs, t, rfl, ha, ty, hn, q⟩ := h
  cases rx
  obtain ⟨mA, J, _⟩ := ins_get I.hok ha
  obtain ⟨od, J, _⟩ := J.look
  obtain ⟨m, hF⟩ := I.fr
  obtain ⟨Pp, Z, pz, _⟩ := kit_of I ry ty
  refine PySem.W.cmp_ofEq (PySem.W.cmp_K (op := .Eq) hr.units0 hF I.ok.mod.kin J (Z.ty _ _ I.kIn pz) hn T.eq T.fn (wpAny_mono (run_fn F hr hb .nil pass0 I (two ry) q) (fun w s' z => ?_) fun _ _ e => e))
  obtain ⟨vv, H', I', rv, b, rfl, z⟩ := z
  cases rv
  exact ⟨.bl b, H', I', rfl, z⟩
theorem opNe (F : Eqr X.prog X.w X.K X.mg X.base k C ps sp) (hr : Room (k + 1) X.A) : OpR X (compareOp .NotEq) (rOwn X.K C sp true) := by
  intro pins s σ H x y u v Q I rx ry h
  obtain ⟨f, fd, T, hb, F⟩ := F
  obtain ⟨a, dx, fs, t, rfl, ha, ty, hn, q⟩ := h
  cases rx
  obtain ⟨mA, J, _⟩ := ins_get I.hok ha
  obtain ⟨od, J, _⟩ := J.look
  obtain ⟨Pp, Z, pz, _⟩ := kit_of I ry ty
  refine PySem.W.cmp_ofNotEq (ne_left (by have := hr.un; omega) I.kIn J (Z.ty _ _ I.kIn pz) hn T.ne T.ob T.eq T.fn (wpAny_mono (runIn1 F hr hb I (two ry) q) (fun w s' z => ?_) fun _ _ e => e))
  obtain ⟨vv, H', I', rv, b, rfl, z⟩ := z
  cases rv
  exact ⟨b, rfl, .bl (!b), H', I', rfl, z⟩
theorem opEqR (G : Eqr X.prog X.w X.K X.mg X.base k C ps sp) (hr : Room k X.A) : OpR X (compareOp .Eq) (rOwnR C sp) := by
  intro pins s σ H x y u v Q I rx ry h
  obtain ⟨f, fd, T, hb, G⟩ := G
  obtain ⟨a, dx, fs, rfl, ha, ty, q⟩ := h
  cases ry
  obtain ⟨mA, J, _⟩ := ins_get I.hok ha
  obtain ⟨od, J, _⟩ := J.look
  have back : wpAny (model X.prog X.w) X.A (call (.ref f) [.ref a, u]) (PySem.W.CmpBack (EP X pins σ Q)) X.xe s := wpAny_mono (run_fn G hr hb .nil pass0 I (two rx) q) (fun w s' z => by
    obtain ⟨vv, H', I', rv, b, rfl, z⟩ := z
    cases rv
    exact ⟨.bl b, H', I', rfl, z⟩) fun _ _ e => e
  have hu : X.A.units < cLine := hr.units0
  refine PySem.W.cmp_ofEq ?_
  cases ty with
  | non => cases rx; exact eq_right hu I.kIn J (fun s' _ => typeIs_none s') T.nn F.slot_NoneType_eq (fun A E Q q => none_declines A E s Q I.kIn J q) rfl T.eq T.fn back
  | int i => obtain ⟨t, rfl⟩ := rx; exact eq_right hu I.kIn J (fun s' _ => typeIs_int s' _ _) T.ni F.slot_int_eq (fun A E Q q => int_declines A E s Q I.kIn J q) rfl T.eq T.fn back
  | str z => obtain ⟨t, rfl⟩ := rx; exact eq_right hu I.kIn J (fun s' _ => typeIs_str s' _ _) T.ns F.slot_str_eq (fun A E Q q => str_declines A E s Q I.kIn J q) rfl T.eq T.fn back
  | @lst b xs e =>
    cases rx
    obtain ⟨_, _, _, _, h1⟩ := (show ObjOk X.prog X.w H s.heap b (.lst xs) from I.hok b _ e)
    exact eq_right hu I.kIn J (fun s' z => ⟨_, by rw [z]; exact h1, rfl⟩) T.nl F.slot_list_eq (fun A E Q q => listAt T.nl A E s Q I.kIn J ⟨_, h1, rfl⟩ q) (PySem.oneThing_ref ..) T.eq T.fn back
  | @tup b xs e =>
    cases rx
    obtain ⟨_, _, _, o, h1, h2, _⟩ := (show ObjOk X.prog X.w H s.heap b (.tup xs) from I.hok b _ e)
    exact eq_right hu I.kIn J (fun s' z => ⟨_, by rw [z]; exact h1, h2⟩) T.nt F.slot_tuple_eq (fun A E Q q => tupAt T.nt A E s Q I.kIn J ⟨_, h1, h2⟩ q) (PySem.oneThing_ref ..) T.eq T.fn back
  | @dict b kvs e =>
    cases rx
    obtain ⟨_, _, _, _, o, _, _, h1, h2, _⟩ := (show ObjOk X.prog X.w H s.heap b (.dK kvs) from I.hok b _ e)
    exact eq_right hu I.kIn J (fun s' z => ⟨_, by rw [z]; exact h1, h2.1⟩) T.nd F.slot_dict_eq (fun A E Q q => dictAt T.nd A E s Q I.kIn J ⟨_, h1, h2.1⟩ q) (PySem.oneThing_ref ..) T.eq T.fn back
end
end Cmq
/-! ## Exceptions of own classes as VALUES: made by a call, a field read, isinstance. Over the layer's exo, exd (an exception and its dict). -/
namespace Exv
open PySem PySem.W PyProof.Rows
/-- the built-in class under an own error class -/
structure BaseE (B newId initId : String) (bmB : List Value) : Prop where
  ex : ExcBaseFacts B newId initId bmB
  st : StoreFacts B bmB "object.__setattr__" "object"
abbrev veMro : List Value := [.type "ValueError", .type "Exception", .type "BaseException", .type "object"]
abbrev oeMro : List Value := [.type "OverflowError", .type "ArithmeticError", .type "Exception", .type "BaseException", .type "object"]
theorem baseVE : BaseE "ValueError" "ValueError.__new__" "ValueError.__init__" veMro := ⟨F.excBase_ValueError, F.store_ValueError⟩
theorem baseOE : BaseE "OverflowError" "OverflowError.__new__" "OverflowError.__init__" oeMro := ⟨F.excBase_OverflowError, F.store_OverflowError⟩
/-- the first field of an exception: its dict is made; all else is kept -/
theorem firstField {prog : Program} {w : World} {A : Around} {R : Result → Shared → Prop} {s : Shared} {B newId initId : String} {bmB : List Value} (T : BaseE B newId initId bmB) {K : Frag} {name : Str} {tk : Tok} {v : Value} {x C t1 : Addr} (X : K.In s.heap)
    (hx : s.heap.get? x = some (excObj C t1 none .none)) (hov : excOver K C bmB = true) (hdC : hasDictIn K C = true) (htk : takerIn K C name = some none)
    (hq : ∀ h' tk' dx, (∀ b o, b ≠ x → s.heap.get? b = some o → h'.get? b = some o) → s.heap.objs.size ≤ dx → dx ≠ x → h'.get? x = some (excObj C t1 (some dx) .none) →
      h'.Ns1 dx (fun y => if y = name then some v else none) → R (.ok (.ret .none)) { s with heap := h', toks := tk' }) :
    codeAny (model prog w) A (.call (.builtin "object.__setattr__") ⟨[.ref x, .str name tk, v], []⟩) R s := by
  have hxl : x < s.heap.objs.size := Heap.lt_size hx
  refine osa_openX (od := none) T.st X ⟨hx, rfl, rfl, trivial⟩ hov htk fun _ => ?_
  obtain ⟨cd, hc, hd⟩ := any_some hdC
  refine wpAny_bind (wpAny_pure (wpAny_bind (instanceDict_exc hx (looks_clsIn X hc) hd ?_)))
  have e1 : ∀ b o, b ≠ x → s.heap.get? b = some o → ((s.heap.push (dictOf [] 0)).update x fun o => { o with dict := some s.heap.objs.size }).get? b = some o := fun b o hb ho =>
    (Heap.get?_update_ne _ _ _ _ hb).trans (Heap.get?_push_of_some _ ho)
  have e2 : ((s.heap.push (dictOf [] 0)).update x fun o => { o with dict := some s.heap.objs.size }).get? x = some (excObj C t1 (some s.heap.objs.size) .none) :=
    Heap.get?_update_self _ (Heap.get?_push_of_some _ hx) rfl
  have e3 : ((s.heap.push (dictOf [] 0)).update x fun o => { o with dict := some s.heap.objs.size }).Ns s.heap.objs.size fun _ => none :=
    ⟨_, #[], 0, (Heap.get?_update_ne _ _ _ _ (Nat.ne_of_gt hxl)).trans (Heap.get?_push_at rfl rfl), rfl, fun e he => absurd he (by simp), fun _ => rfl⟩
  exact HandSPX.store_in_new e3 fun h' tk' n1 sb => hq h' tk' _ (fun b o hb ho => (sb.2 b (Nat.ne_of_lt (Heap.lt_size ho))).trans (e1 b o hb ho)) (Nat.le_refl _) (Nat.ne_of_gt hxl)
    ((sb.2 x (Nat.ne_of_lt hxl)).trans e2) n1
end Exv

namespace Exv
open PySem L2 PySem.Spec PyProof.Rows
/-- what the written part says of the error class at C -/
structure EC (K : PySem.W.Frag) (C : Addr) (B newId initId : String) (bmB : List Value) : Prop where
  base : BaseE B newId initId bmB
  ini : PySem.W.excInitIn K C bmB newId = true
  ov : PySem.W.excOver K C bmB = true
  sa : PySem.W.findIn K (.ref C) "__setattr__" = some (some (.builtin "object.__setattr__"))
  kC : PySem.W.keepIn K (.ref C) = true
  is : L2.ExcC K C
section
variable {X : Cx} {pins : List (Addr × Obj)} {σ : L2.St} {H : Hp} {s : Shared} {a C dx : Addr} {f : Str} {y : V} {u : Value} {fs : List (Str × V)} {Q : Unit → Shared → Prop} {E : Value → Shared → Prop} {A : Around}
  {B newId initId : String} {bmB : List Value}
theorem exo_only {H : Hp} {o : HO} {b : Addr} {d : Option Addr} (e : H a = some (exo a C d)) (q : H b = some o) (h : ∀ φ, o ≠ .ext φ) : b ≠ a := fun z => by
  rw [z, e] at q
  exact h _ (Option.some.inj q).symm
/-- self.f = y, the first one -/
theorem set_first (T : EC X.K C B newId initId bmB) (I : Inv X pins σ H s) (e : H a = some (exo a C none)) (htk : PySem.W.takerIn X.K C f = some none) (ry : RelV y u)
    (h : ∀ dx s', H dx = none → dx ≠ a → Inv X pins σ (upd (upd H dx (exd dx [(f, y)])) a (exo a C (some dx))) s' → Q () s') : wpAny (model X.prog X.w) A (setAttr (.ref a) f u) Q E s := by
  obtain ⟨t1, ho⟩ := exo_at I.hok e
  refine PySem.W.set_plain I.kIn (ox := PySem.W.excObj C t1 none .none) (od := none) ⟨ho, rfl, rfl, trivial⟩ T.sa ?_
  refine firstField T.base I.kIn ho T.ov T.is.hd htk fun h' tk' dx k dn dne hx hn => ?_
  have hnd : H dx = none := I.hok.fresh dn
  have notdx : ∀ {b : Addr} {o : Obj}, s.heap.get? b = some o → b ≠ dx := fun q => Nat.ne_of_lt (Nat.lt_of_lt_of_le (Heap.lt_size q) dn)
  have nota : ∀ {b : Addr}, H b = none → b ≠ a := fun n z => by rw [z, e] at n; cases n
  have old : ∀ {b : Addr} {o : HO}, (∀ φ, o ≠ .ext φ) → H b = some o → upd (upd H dx (exd dx [(f, y)])) a (exo a C (some dx)) b = some o := fun n q =>
    (upd_ne (exo_only e q n)).trans ((upd_ne (ne_of_none q hnd)).trans q)
  refine h dx _ hnd dne (I.un (t' := tk') ⟨fun b o q n _ _ => k b o (nota n) q, fun b o q n _ _ => ⟨o.slots, k b o (nota n) q⟩, fun b o q n _ => (upd_ne (nota n)).trans ((upd_ne (notdx q)).trans n), fun b o q _ => ?_,
    fun b xs q => old (fun _ z => by cases z) q, fun b o v q => old (fun _ z => by cases z) q, fun b ps q => ⟨#[], by rw [old (fun _ z => by cases z) q]; simp⟩⟩ fun b o q => ?_)
  · by_cases hb : b = a
    · exact ⟨_, hb ▸ hx⟩
    · exact ⟨o, k b o hb q⟩
  · by_cases hb : b = a
    · subst hb
      rw [upd_same] at q
      cases q
      exact exo_ok hx
    rw [upd_ne hb] at q
    by_cases hd : b = dx
    · subst hd
      rw [upd_same] at q
      cases q
      exact exd_ok hn (relO_put (fs := []) ry fun _ => True.intro)
    rw [upd_ne hd] at q
    refine (I.hok b o q).stay (fun c v hc z => k c v ?_ z) (fun c hc => old (fun _ z => by cases z) hc) fun c xs hc => old (fun _ z => by cases z) hc
    rcases hc with rfl | hc
    · exact hb
    · exact exo_only e hc fun _ z => by cases z
/-- the base's __init__: nothing of it is told -/
theorem base_init {us : List Value} {Q : Value → Shared → Prop} (T : EC X.K C B newId initId bmB) (I : Inv X pins σ H s) (e : H a = some (exo a C none)) (hl : us.length ≤ sizeLine) (h : ∀ s', Inv X pins σ H s' → Q .none s') :
    wpAny (model X.prog X.w) A (call (.builtin initId) (.ref a :: us)) Q E s := by
  obtain ⟨_, _, _, _, _, _, _, _, _, _, _, _, _, _, _, _, hC, hT⟩ := PySem.W.excInit_of I.kIn T.ini
  obtain ⟨t1, ho⟩ := exo_at I.hok e
  refine wpAny_call (PySem.HandSPX.init_base T.base.ex hT hC ho hl fun h' t2 k hx => h _ ?_)
  have J := I.write (t' := s.toks) (x := a) (e := a) (o := exo a C none) (by rw [e]; exact True.intro) (.inl rfl) k ⟨_, hx⟩ (exo_ok hx)
  rwa [show upd H a (exo a C none) = H from funext fun b => by
    by_cases hb : b = a
    · rw [hb, upd_same, e]
    · exact upd_ne hb] at J
end
/-! ### readings and rules -/
/-- Base.__init__(self, ..) -/
def tXI (K : PySem.W.Frag) (B newId initId : String) (bmB : List Value) (ta : TA) : TE := fun σ H Q => ta σ H fun vs H1 => ∃ (a C : Addr) (ws : List V), vs = .ref a :: ws ∧ ws.length ≤ 1000 ∧ EC K C B newId initId bmB ∧ H1 a = some (exo a C none) ∧ Q .non H1
/-- self.f = e -/
def tXS (K : PySem.W.Frag) (B newId initId : String) (bmB : List Value) (f : Str) (to te : TE) : TS := fun D σ H => te σ H fun y H1 => to σ H1 fun x H2 => ∃ a C : Addr, x = .ref a ∧ EC K C B newId initId bmB ∧ PySem.W.takerIn K C f = some none ∧
  H2 a = some (exo a C none) ∧ ∀ dx, H2 dx = none → dx ≠ a → D.nx σ (upd (upd H2 dx (exd dx [(f, y)])) a (exo a C (some dx)))
/-- C(e, ..) as a value, C's own __init__ keeping sp -/
def tXM (C : Addr) (sp : Sp) (ta : TA) : TE := fun σ H Q => ta σ H fun vs H1 => vs.length ≤ 1000 ∧ ∀ a, H1 a = none → sp (.ref a :: vs) (upd H1 a (exo a C none)) (fun v H2 => v = .non ∧ Q (.ref a) H2) fun _ _ _ => False
/-- C() of a class without an own __init__ -/
def tX0 (C : Addr) : TE := fun _ H Q => ∀ a, H a = none → Q (.ref a) (upd H a (exo a C none))
/-- e.f of an exception that has its dict -/
def tXF (K : PySem.W.Frag) (f : Str) (te : TE) : TE := fun σ H Q => te σ H fun x H1 => ∃ (a C dd : Addr) (fs : List (Str × V)) (v : V), x = .ref a ∧ L2.ExcC K C ∧ PySem.W.findIn K (.ref C) f = some none ∧
  H1 a = some (exo a C (some dd)) ∧ H1 dd = some (exd dd fs) ∧ fs.lookup f = some v ∧ Q v H1
/-- an exception value at a: of the class at C, its fields -/
def ExAt (H : Hp) (a C : Addr) (fs : List (Str × V)) : Prop := (fs = [] ∧ H a = some (exo a C none)) ∨ ∃ dd, H a = some (exo a C (some dd)) ∧ H dd = some (exd dd fs)
/-- isinstance(e, c) of such -/
def rIsX (K : PySem.W.Frag) : List V → Hp → VK → Prop := fun xs H Q => ∃ (a C : Addr) (fs : List (Str × V)) (c : V) (u : Value) (b : Bool), xs = [.ref a, c] ∧ ClsV c u ∧ ExAt H a C fs ∧ L2.ExcC K C ∧ PySem.W.kitOne K (.ref C) u = some b ∧ Q (.bl b) H
section
variable {X : Cx} {o e : Expr} {es : List Expr} {to te : TE} {ta : TA} {f : Str} {p p' p1 p2 pos : Pos} {B newId initId : String} {bmB : List Value}
theorem init_args {us : List Value} {s : Shared} {pins : List (Addr × Obj)} {σ : L2.St} {H : Hp} {Q : VK} (I : Inv X pins σ H s) {vs : List V} (r : Vals vs us) (h : ∃ (a C : Addr) (ws : List V), vs = .ref a :: ws ∧ ws.length ≤ 1000 ∧ EC X.K C B newId initId bmB ∧ H a = some (exo a C none) ∧ Q .non H) :
    wpAny (model X.prog X.w) X.A (call (.builtin initId) ([] ++ us)) (EP X pins σ Q) X.xe s := by
  obtain ⟨a, C, ws, rfl, hl, T, ea, q⟩ := h
  cases r with
  | cons ra rw' =>
    cases ra
    exact base_init T I ea (by rw [← Paired.length rw', sizeLine_eq]; omega) fun s' J => ⟨.non, H, J, rfl, q⟩
/-- TaskError.__init__(self, ..), an own class without an __init__ of its own -/
theorem pe_xinit {pl : Sem Bool} {x : Str} {CT : Addr} (hg : Gl X x) (hm : X.mg x = some (.ref CT)) (hs : PySem.W.specialIn X.K (.ref CT) "__getattribute__" = some (some (.builtin "type.__getattribute__"))) (hr : PySem.W.readsIn X.K CT (.type "type") = true)
    (vV : PySem.W.findCls X.K (.ref CT) (.type "type") "__init__" = some (.val (.builtin initId))) (ha : PA X (e :: es) ta) (hh : PySem.W.handedIn (.builtin initId) = true := by decide +kernel) (hdb : (x == ("__debug__" : Str)) = false := by decide)
    (hc : eval (.Call (.Attribute (.Name x p1) "__init__" p2) (e :: es) [] pos) X.env = (do
      let ov ← eval (.Name x p1) X.env
      standAt p2.atName
      let (f, first) ← holding [ov] (getMethod ov "__init__" pl)
      callWith pos f first (backTo pos (starEach (e :: es) X.env)) (backToKw pos (keywordEach [] X.env))) := by rfl)
    (he : starEach (e :: es) X.env = (false, eval e X.env) :: starEach es X.env := by rfl) (hpl : (backTo pos (starEach es X.env)).any (·.1) = false := by rfl) :
    PE X (.Call (.Attribute (.Name x p1) "__init__" p2) (e :: es) [] pos) (tXI X.K B newId initId bmB ta) :=
  ⟨fun pins s σ H Q I h => PySem.W.methodCall_KW (ld_glob I hg hm (PySem.W.method_cls I.kIn hs (PySem.W.cls_value I.kIn hr vV hh
    (callWith_method1 (thn (ha.run pos pins _ σ H _ (I.tok _) h) fun us s1 ⟨vs, H1, I1, r1, q⟩ => init_args I1 r1 q) he hpl))) hdb) hc⟩
theorem typ_OE : typeOf (.type "OverflowError") = pure (.type "type") := by kernel_rfl
/-- OverflowError.__init__(self, ..) -/
theorem pe_oeinit {pl : Sem Bool} (hg : Gl X "OverflowError") (hm : X.mg "OverflowError" = none) (vV : PySem.W.findCls X.K (.type "OverflowError") (.type "type") "__init__" = some (.val (.builtin "OverflowError.__init__"))) (ha : PA X (e :: es) ta)
    (hc : eval (.Call (.Attribute (.Name "OverflowError" p1) "__init__" p2) (e :: es) [] pos) X.env = (do
      let ov ← eval (.Name "OverflowError" p1) X.env
      standAt p2.atName
      let (f, first) ← holding [ov] (getMethod ov "__init__" pl)
      callWith pos f first (backTo pos (starEach (e :: es) X.env)) (backToKw pos (keywordEach [] X.env))) := by rfl)
    (he : starEach (e :: es) X.env = (false, eval e X.env) :: starEach es X.env := by rfl) (hpl : (backTo pos (starEach es X.env)).any (·.1) = false := by rfl) :
    PE X (.Call (.Attribute (.Name "OverflowError" p1) "__init__" p2) (e :: es) [] pos) (tXI X.K "OverflowError" newId "OverflowError.__init__" bmB ta) :=
  ⟨fun pins s σ H Q I h => PySem.W.methodCall_KW (ld_blt I hg hm PyProof.Rows.Boot.«OverflowError» (by
    obtain ⟨m, fr⟩ := I.fr
    exact PySem.W.method_type fr I.ok.mod.kin typ_OE (by decide +kernel) vV (by decide +kernel) (callWith_method1 (thn (ha.run pos pins _ σ H _ (I.tok _) h) fun us s1 ⟨vs, H1, I1, r1, q⟩ => init_args I1 r1 q) he hpl)) (by decide) (by decide)) hc⟩
theorem ps_xset (ho : PE X o to) (he : PE X e te) (hs : swapsWith e (some (.Attribute o f p')) pos.line X.env = pure false := by rfl) : PS X (.Assign [.Attribute o f p'] e pos) (tXS X.K B newId initId bmB f to te) :=
  ⟨fun pins s σ H D I h => plainObj_wpAny_Assign_Attribute (thn (he.run pins s σ H _ I h) fun v s1 ⟨y, H1, I1, r1, q1⟩ => thn (ho.run pins s1 σ H1 _ I1 q1) fun u s2 ⟨x, H2, I2, r2, a, C, ex, T, hno, ea, q⟩ => by
    subst ex
    cases r2
    exact set_first T I2 ea hno r1 fun dx s' n ne J => ⟨σ, _, J, q dx n ne⟩) hs⟩
theorem pe_xfld (he : PE X e te) (hb : attributeBase e f X.env (eval e X.env) = eval e X.env := by rfl) : PE X (.Attribute e f pos) (tXF X.K f te) :=
  ⟨fun pins s σ H Q I h => attr_of hb (thn (he.run pins s σ H _ I h) fun u s1 ⟨x, H1, I1, rx, a, C, dd, fs, v, ex, T, hno, ha, ea, l, q⟩ => by
    subst ex
    cases rx
    obtain ⟨t1, hoe⟩ := exo_at I1.hok ha
    obtain ⟨mA, hns, hr⟩ := exd_at I1.hok ea
    obtain ⟨od, ho, hl⟩ := lookIn_ns hns
    obtain ⟨u, hu, ru⟩ := RelO.some_of (v := v) (o := mA f) (by rw [← l]; exact hr f)
    exact HandSPX.exc_get I1.kIn (⟨hoe, rfl, rfl, ho⟩ : PySem.W.InstAt s1.heap a _ C (some od)) T.hg T.hk T.hs (PySem.W.findObj_own T.hd hno rfl (by rw [hl, hu])) (handed_of ru) ⟨v, H1, I1.tok _, ru, q⟩)⟩
/-- C(e, ..): a new exception, then C's own __init__ -/
theorem pe_xmake {x : Str} {C fI : Addr} {k : Nat} {fd : FuncData} {ps : List Str} {sp : Sp} (T : EC X.K C B newId initId bmB) (iC : PySem.W.findIn X.K (.ref C) "__init__" = some (some (.ref fI))) (tI : PySem.W.typeIn X.K (.ref fI) = some (.type "function"))
    (F1 : FnOk X.prog X.w X.K X.mg X.base CX0 k fI fd ps sp) (hr : Room (k + 1) X.A) (hb : Binds X.K fd ps []) (hg : Gl X x) (hm : X.mg x = some (.ref C)) (ha : PA X (e :: es) ta)
    (hdb : (x == ("__debug__" : Str)) = false := by decide) (he : starEach (e :: es) X.env = (false, eval e X.env) :: starEach es X.env := by rfl) (hpl : (backTo pos (starEach es X.env)).any (·.1) = false := by rfl) :
    PE X (.Call (.Name x p) (e :: es) [] pos) (tXM C sp ta) := by
  refine ⟨fun pins s σ H Q I h => wpAny_Call_Name_kw (ld_glob I hg hm (PySem.W.callWith_K (h₀ := X.base) I.ok.mod.kin T.kC (thn (ha.run pos pins s σ H _ I h) fun us s1 ⟨vs, H1, I1, r1, hz, q1⟩ => ⟨I1.kIn, ?_⟩) he hpl) hdb)⟩
  obtain ⟨_, _, _, _, _, _, _, _, _, _, _, _, _, _, _, _, hC, hT⟩ := PySem.W.excInit_of I1.kIn T.ini
  have hsz : s1.heap.objs.size ≤ s1.heap.objs.size + 1 := Nat.le_succ _
  have hq := q1 (s1.heap.objs.size + 1) (I1.hok.fresh hsz)
  have hget : ((s1.heap.push (PySem.W.kdv_tup us)).push (PySem.HandSPX.excO C s1.heap.objs.size)).get? (s1.heap.objs.size + 1) = some (PySem.HandSPX.excO C s1.heap.objs.size) := by
    obtain ⟨hp, g, dr, tk, os⟩ := s1
    heap_get
  have I2 := I1.laid (t' := s1.toks) (o := exo (s1.heap.objs.size + 1) C none) (fun b o e => Heap.get?_push_of_some _ (Heap.get?_push_of_some _ e)) hsz (exo_ok hget)
  have r2 : Vals (V.ref (s1.heap.objs.size + 1) :: vs) (Value.ref (s1.heap.objs.size + 1) :: us) := .cons rfl r1
  have hl : (Value.ref (s1.heap.objs.size + 1) :: us).length = ps.length := r2.length.symm.trans (F1.len _ _ _ _ hq)
  have hbb := hb { s1 with heap := (s1.heap.push (PySem.W.kdv_tup us)).push (PySem.HandSPX.excO C s1.heap.objs.size) } (Value.ref (s1.heap.objs.size + 1) :: us) I2.kIn (by rw [List.append_nil]; exact hl)
  rw [List.append_nil] at hbb
  refine wpAny_call (PySem.HandSPX.call_own T.base.ex hT hC (PySem.W.looks_findIn I1.kIn iC) (fun self => PySem.W.bind_fn I1.kIn self tI) (show us.length ≤ sizeLine by rw [← Paired.length r1, sizeLine_eq]; omega)
    (codeAny_mono (F1.run _ X.stack _ _ ⟨Value.ref (s1.heap.objs.size + 1) :: us, []⟩ _ _ _ _ (hr.make C us []) (I2.env0.make C us []) hbb r2 hq) fun r s' hq' => ?_))
  match r, hq' with
  | .error _, z => exact z.elim
  | .ok .next, z => exact z.elim
  | .ok .brk, z => exact z.elim
  | .ok .cont, z => exact z.elim
  | .ok (.ret u), z =>
    obtain ⟨v, H', I3, rv, ev, q3⟩ := I2.after z
    subst ev
    exact ⟨rv, ⟨V.ref (s1.heap.objs.size + 1), H', I3, rfl, q3⟩⟩
/-- C(), an own exception class without an __init__ of its own -/
theorem pe_xmake0 {C : Addr} {x : Str} (F : ExcBaseFacts B newId initId bmB) (q : PySem.W.excIn X.K C bmB newId = true) (gC : X.mg x = some (.ref C)) (kC : PySem.W.keepIn X.K (.ref C) = true) (hg : Gl X x)
    (hdb : (x == ("__debug__" : Str)) = false := by decide) : PE X (.Call (.Name x p) [] [] pos) (tX0 C) := by
  refine ⟨fun pins s σ H Q I h => wpAny_Call_Name_kw (ld_glob I hg gC (PySem.W.callWith_K0 I.kIn kC ?_) hdb)⟩
  obtain ⟨_, _, _, _, _, _, _, _, _, _, _, _, _, _, _, _, _, hC, hN, hni, T⟩ := exc_obj I.kIn q
  refine wpAny_call_exc_subT F T hC hN hni (fun h' a hm => ?_) (Nat.zero_le _)
  obtain ⟨t, ht, _, _⟩ := hm.there
  exact ⟨.ref a, _, I.laidN hm.keeps hm.new (I.hok.gone hm.new) (exo_ok (d := none) ht), rfl, h a (I.hok.gone hm.new)⟩
end
end Exv
namespace Exv
open PySem PySem.W PySem.Calls PyProof.Rows PySem.Spec
section
variable {prog : Program} {w : World} {A : Around} {E : Value → Shared → Prop} {s : Shared} {K : Frag} {x D : Addr} {ox : Obj} {od : Option Obj}
theorem findObj_any {C : Addr} {name : Str} {a g : Value} (hc : (clsIn K C).isSome = true) (ha : findIn K (.ref C) name = some (some a)) (hg : specialIn K a "__get__" = some (some g)) (ht : takesIn K a = some true) : findObj K C od name = some (.bind g a) := by
  obtain ⟨cd, hc⟩ := Option.isSome_iff_exists.mp hc
  unfold findObj
  rw [hc, Option.bind_some, ha, Option.bind_some]
  simp [hg, ht]
theorem kin_classX {Q : Option Value → Shared → Prop} (hga : findIn K (.ref D) "__getattribute__" = some (some (.builtin "BaseException.__getattribute__"))) (hgt : findIn K (.ref D) "__getattr__" = some none) (hsub : subIn K (.ref D) (.type "BaseException") = some true)
    (hdct : hasDictIn K D = true) (ha : findIn K (.ref D) "__class__" = some (some (.builtin "object.__class__")))
    (hn : specialIn K (.builtin "object.__class__") "__get__" = some (some (.builtin "getset_descriptor.__get__"))) (htk : takesIn K (.builtin "object.__class__") = some true) (hm : mroIn K D (.type "object") = some true)
    (X : K.In s.heap) (I : InstAt s.heap x ox D od) (h : Q (some (.ref D)) { s with toks := s.toks + 1 }) : wpAny (model prog w) A (getAttr? (.ref x) "__class__") Q E s := by
  have hf : findObj K D od "__class__" = some (.bind (.builtin "getset_descriptor.__get__") (.builtin "object.__class__")) := findObj_any (by obtain ⟨cd, hc, _⟩ := any_some hdct; rw [hc]; rfl) ha hn htk
  obtain ⟨hp, g, d, t, os⟩ := s
  have L0 := I.type (M := model prog w)
  have L1 := looks_findIn (M := model prog w) X hga
  have L2 := looks_findIn (M := model prog w) X hgt
  have L3 := looks_find (M := model prog w) X I hf
  have sub : Looks (model prog w) hp (isInstance (.ref x) (.type "BaseException")) true := L0.andThen (looks_subIn X hsub)
  have hx0 : (false && onTheHeap (Value.builtin "BaseException.__getattribute__")) = false := rfl
  have hx2 : (Value.builtin "BaseException.__getattribute__" == Value.builtin "object.__getattribute__") = false := by decide +kernel
  have hx1 : (onTheHeap (Value.ref D) && Value.builtin "BaseException.__getattribute__" == Value.builtin "object.__getattribute__") = false := by rw [hx2]; rfl
  unfold getAttr? getAttrBy? getAttrBy
  refine wpAny_bind (wpAny_mkText (wpAny_bind (wpAny_attempt (wpAny_holding (wpAny_bind (L0.at (wpAny_bind (L1.at ?_))))))))
  show wpAny _ _ (if (onTheHeap (Value.ref D) && Value.builtin "BaseException.__getattribute__" == Value.builtin "object.__getattribute__") = true then _ else _) _ _ _
  rw [hx1, if_neg Bool.false_ne_true]
  unfold getAttrByItsOwn hookBefore
  refine wpAny_bind ?_
  rw [if_pos (show onTheHeap (Value.ref D) = true from rfl)]
  refine L2.at ?_
  refine wpAny_bind (wpAny_attempt (wpAny_holding ?_))
  unfold callGetattribute
  rw [hx0, if_neg Bool.false_ne_true]
  unfold boundAndCalled
  rw [PySem.F.excAttr_ValueError.ga.bind (.ref x)]
  refine wpAny_bind (wpAny_pure ?_)
  show wpAny _ _ (call (.builtin "BaseException.__getattribute__") [.ref x, .str "__class__" t]) _ _ _
  refine wpAny_call (codeAny_call_builtin PySem.F.excAttr_ValueError.ga.plain PySem.F.entry_bexc_ga ?_)
  refine @check_slot (model prog w) _ _ ⟨hp, g, d, t + 1, os⟩ "BaseException.__getattribute__" "BaseException" "__getattribute__" (.ref x) [.str "__class__" t] [] _ (by decide +kernel) (by decide +kernel) sub (PySem.F.args_bexc_ga (.ref x) (.str "__class__" t)) ?_
  unfold Builtin.«object.__getattribute__»
  refine wpAny_bind (wpAny_of_eq (a := ((Value.ref x : Value), [Value.str "__class__" t])) (by first | rfl | (simp only [slotArgs]; rfl)) ?_)
  refine wpAny_bind (wpAny_pure (wpAny_bind (L0.at (wpAny_bind (L3.at ?_)))))
  show wpAny _ _ (holding [Value.builtin "object.__class__"] (call (.builtin "getset_descriptor.__get__") [.builtin "object.__class__", .ref x, .ref D]) >>= ret) _ _ _
  refine wpAny_bind (wpAny_holding (wpAny_call (class_get (s := ⟨hp, g, d, t + 1, os⟩) (ox := ox) (od := od) X I hm ?_)))
  refine wpAny_pure ?_
  show wpAny _ _ (handedOut (.ref D)) _ _ _
  rw [handedOut_of (v := .ref D) rfl]
  first
    | exact wpAny_pure (wpAny_pure h)
    | exact wpAny_pure h
    | exact wpAny_pure (wpAny_bind (wpAny_pure (wpAny_pure h)))
theorem kitx_exc (hga : findIn K (.ref D) "__getattribute__" = some (some (.builtin "BaseException.__getattribute__"))) (hgt : findIn K (.ref D) "__getattr__" = some none) (hsub : subIn K (.ref D) (.type "BaseException") = some true) (hdct : hasDictIn K D = true) (ha : findIn K (.ref D) "__class__" = some (some (.builtin "object.__class__")))
    (hn : specialIn K (.builtin "object.__class__") "__get__" = some (some (.builtin "getset_descriptor.__get__"))) (htk : takesIn K (.builtin "object.__class__") = some true) (hm : mroIn K D (.type "object") = some true) :
    KitX K (.ref x) (.ref D) (fun h => InstAt h x ox D od) where
  ty := fun _ _ _ I => I.type
  it := fun _ _ X _ => by
    obtain ⟨cdD, hcD, _⟩ := any_some hdct
    unfold clsIn at hcD
    split at hcD
    · rename_i c' d' cd' sl' ho
      intro A' Q' E' s' k q
      unfold isType loadHead
      exact wpAny_bind (wpAny_loadPart (k _ _ (X _ _ ho)) (wpAny_pure q))
    · cases hcD
  ne := fun h tp dd its n sl X htp => by
    obtain ⟨cdD, hcD, _⟩ := any_some hdct
    refine Bool.eq_false_iff.mpr fun q => ?_
    have e : D = tp := Value.ref.inj (beq_iff_eq.mp q)
    subst e
    unfold clsIn at hcD
    split at hcD
    · rename_i c' d' cd' sl' ho
      have z := (X _ _ ho).symm.trans htp
      cases z
    · cases hcD
  ca := fun X I k => kin_classX hga hgt hsub hdct ha hn htk hm X I k
end
end Exv
namespace Exv
open PySem L2 PySem.Spec PyProof.Rows
section
variable {X : Cx}
theorem call_isX : CallR X (.builtin "isinstance") (rIsX X.K) := by
  intro pins s σ H xs us Q I r h
  obtain ⟨a, C, fs, c, u, b, rfl, k, ex, T, e, q⟩ := h
  obtain ⟨u1, u2, rfl, r1, r2⟩ := vals2 r
  have e2 := k.eq r2
  subst e2
  cases (show u1 = Value.ref a from r1)
  rcases ex with ⟨rfl, ha⟩ | ⟨dd, ha, hd⟩
  · obtain ⟨t1, ho⟩ := exo_at I.hok ha
    have J : PySem.W.InstAt s.heap a _ C none := ⟨ho, rfl, rfl, trivial⟩
    exact PySem.W.kia_one (kitx_exc T.hg T.hk T.hs T.hd T.ha T.hn T.ht T.hm) I.kIn J e (fun z => nomatch z) fun tk => ⟨.bl b, H, I.tok tk, rfl, q⟩
  · obtain ⟨t1, ho⟩ := exo_at I.hok ha
    obtain ⟨mA, hns, hr⟩ := exd_at I.hok hd
    obtain ⟨od, hod, hl⟩ := lookIn_ns hns
    have J : PySem.W.InstAt s.heap a _ C (some od) := ⟨ho, rfl, rfl, hod⟩
    exact PySem.W.kia_one (kitx_exc T.hg T.hk T.hs T.hd T.ha T.hn T.ht T.hm) I.kIn J e (fun z => nomatch z) fun tk => ⟨.bl b, H, I.tok tk, rfl, q⟩
end
end Exv
/-! ## An own exception class called with keywords -/
namespace Exv
open PySem PySem.W PySem.HandSPX Builtin Builtin.ObjectAttr
section
variable {prog : Program} {w : World} {A : Around} {E : Value → Shared → Prop} {R : Result → Shared → Prop} {h : Heap} {g : Array GenState} {d : Drawn} {t : Nat} {os : OsState}
variable {nm q : Str} {C N : Addr} {bs bm bmB : List Value} {hdct : Bool} {sn : List Str} {sub : List Value} {ab : Bool} {col : Option Bool} {dd : Option Addr} {k0 k1 k2 k3 k5 : Option Value} {B newId initId : String}
theorem kw_check_new (F : ExcBaseFacts B newId initId bmB) (hT : ∀ X : String, bm.contains (.type X) = bmB.contains (.type X)) {kw : List (Str × Value)} {Q : Unit → Shared → Prop}
    (hC : h.get? C = some (excClassObj nm q C N bs bm hdct sn sub ab col dd k0 k1 k2 k3 k5 newId)) (hq : Q () ⟨h, g, d, t, os⟩) : wpAny (model prog w) A (checkBuiltinCall newId ⟨[.ref C], kw⟩) Q E ⟨h, g, d, t, os⟩ := by
  have inB : (Value.ref C :: bm).contains (.type B) = true := by rw [List.contains_cons, hT, F.hasB, Bool.or_true]
  have := F.noStar
  simp only [checkBuiltinCall, F.newKind, F.newSplit, F.newRow]
  repeat (first | refine wpAny_loadPart_at hC ?_ | (refine wpAny_isSubtype_exc hC ?_; rw [inB]) | refine wpAny_staticBase_exc hC ?_ | refine wpAny_madeBy_exc hC ?_ | simp only [bne_self_eq_false, Bool.false_eq_true, if_false] | wp_step)
  exact hq
theorem kw_new (F : ExcBaseFacts B newId initId bmB) (hT : ∀ X : String, bm.contains (.type X) = bmB.contains (.type X)) {kw : List (Str × Value)}
    (hC : h.get? C = some (excClassObj nm q C N bs bm hdct sn sub ab col dd k0 k1 k2 k3 k5 newId))
    (hq : R (.ok (.ret (.ref (h.objs.size + 1)))) ⟨(h.push (kdv_tup [])).push (excO C h.objs.size), g, d, t, os⟩) :
    codeAny (model prog w) A (.builtin newId ⟨[.ref C], kw⟩) R ⟨h, g, d, t, os⟩ := by
  have := F.ends
  have inB : (Value.ref C :: bm).contains (.type B) = true := by rw [List.contains_cons, hT, F.hasB, Bool.or_true]
  have noA : (Value.ref C :: bm).contains (.type "AttributeError") = false := by rw [List.contains_cons, hT, F.noAttr]; rfl
  have noN : (Value.ref C :: bm).contains (.type "NameError") = false := by rw [List.contains_cons, hT, F.noName]; rfl
  refine codeAny_builtinAt F.entry ?_
  unfold Builtin.«BaseException.__new__»
  refine wpAt_bind (wpAt_bind (wpAt_stack fun p below => wpAt_of_wpAny ?_))
  wp_walk
  refine wpAt_of_wpAny ?_
  rw [F.owner]
  repeat (first | with_reducible refine wpAny_madeHere_exc F.canon hC ?_ | with_reducible refine wpAny_loadPart_at hC ?_ | (with_reducible refine wpAny_isSubtype_exc hC ?_; first | rw [inB] | rw [noA] | rw [noN]) | wp_step)
  show R _ _
  rw [Heap.size_push]
  exact hq
theorem kw_tree (F : ExcBaseFacts B newId initId bmB) (hT : ∀ X : String, bm.contains (.type X) = bmB.contains (.type X)) {kw : List (Str × Value)} {fI : Addr} {Q : Fin → Shared → Prop}
    (hC : h.get? C = some (excClassObj nm q C N bs bm hdct sn sub ab col dd k0 k1 k2 k3 k5 newId))
    (hi : Looks (model prog w) h (typeLookup (.ref C) "__init__") (some (.ref fI))) (hb : ∀ self, Looks (model prog w) h (bindSpecial (.ref fI) self) (.ref fI, [self]))
    (hq : codeAny (model prog w) A (.call (.ref fI) ⟨[.ref (h.objs.size + 1)], kw⟩)
      (fun r s' => match r with | .ok (.ret v) => v = .none ∧ Q (.done (.ret (.ref (h.objs.size + 1)))) s' | .ok _ => False | .error e => E e s') ⟨(h.push (kdv_tup [])).push (excO C h.objs.size), g, d, t, os⟩) :
    wpAny (model prog w) A (Builtin.«type.__call__» ⟨[.ref C], kw⟩) Q E ⟨h, g, d, t, os⟩ := by
  repeat (first | with_reducible refine wpAny_loadPart_at hC ?_ | with_reducible refine wpAny_madeBy_exc hC ?_ | wp_step)
  refine codeAny_call_builtin_code (Code.quiet_builtin _ F.quiet) (kw_check_new F hT hC (kw_new F hT hC ?_))
  show wpAny _ _ _ _ _ _
  have old : ∀ b o, h.get? b = some o → ((h.push (kdv_tup [])).push (excO C h.objs.size)).get? b = some o := fun b o e => Heap.get?_push_of_some _ (Heap.get?_push_of_some _ e)
  have newC := old _ _ hC
  have made : ((h.push (kdv_tup [])).push (excO C h.objs.size)).get? (h.objs.size + 1) = some (excO C h.objs.size) := by heap_get
  have own : (Value.ref C :: bm).contains (.ref C) = true := by simp
  unfold isInstance
  repeat (first | with_reducible refine wpAny_loadPart_at made ?_ | (with_reducible refine wpAny_isSubtype_exc newC ?_; rw [own]) | wp_step)
  refine (hi.keeps old).at (wpAny_holding (wpAny_bind (((hb (.ref (h.objs.size + 1))).keeps old).at (wpAny_bind (wpAny_call (codeAny_mono hq fun r s' z => ?_))))))
  match r, z with
  | .error _, z => exact z
  | .ok .next, z => exact z.elim
  | .ok .brk, z => exact z.elim
  | .ok .cont, z => exact z.elim
  | .ok (.ret v), z =>
    obtain ⟨e, z⟩ := z
    subst e
    first
      | exact wpAny_pure (wpAny_pure z)
      | (wp_walk; exact z)
theorem kw_call (F : ExcBaseFacts B newId initId bmB) (hT : ∀ X : String, bm.contains (.type X) = bmB.contains (.type X)) {kw : List (Str × Value)} {fI : Addr}
    (hC : h.get? C = some (excClassObj nm q C N bs bm hdct sn sub ab col dd k0 k1 k2 k3 k5 newId))
    (hi : Looks (model prog w) h (typeLookup (.ref C) "__init__") (some (.ref fI))) (hb : ∀ self, Looks (model prog w) h (bindSpecial (.ref fI) self) (.ref fI, [self]))
    (hq : codeAny (model prog w) (A.under (.builtin "type.__call__" ⟨[.ref C], kw⟩)) (.call (.ref fI) ⟨[.ref (h.objs.size + 1)], kw⟩) (InitBack (h.objs.size + 1) R) ⟨(h.push (kdv_tup [])).push (excO C h.objs.size), g, d, t, os⟩) :
    codeAny (model prog w) A (.call (.ref C) ⟨[], kw⟩) R ⟨h, g, d, t, os⟩ := by
  have := tc_lookup
  have := tc_bind (.ref C)
  have isT : (⟨h, g, d, t, os⟩ : Shared).TypeIs (.ref C) "type" := ⟨_, hC, rfl⟩
  refine codeAny_of_tree ?_
  show wpAny _ _ (callAny (.ref C) _) _ _ _
  repeat (any_goals (first | assumption | with_reducible refine wpAny_loadPart_at hC ?_ | wp_step))
  refine ⟨rfl, codeAny_call_builtin_at (Code.quiet_builtin _ (by decide +kernel)) entry_typeCall (wpAny_check_type_call_sub hC (kw_tree F hT hC hi hb (codeAny_mono hq fun r s' z => ?_)))⟩
  match r, z with
  | .error _, z => exact z
  | .ok .next, z => exact z
  | .ok .brk, z => exact z
  | .ok .cont, z => exact z
  | .ok (.ret v), z => exact z
end
end Exv
namespace Exv
open PySem L2 PySem.Spec PyProof.Rows
/-- how one keyword goes to the parameters of an __init__(self, nm) -/
def KwOne (K : PySem.W.Frag) (fd : FuncData) (ps : List Str) (nm : Str) : Prop := ∀ (s : Shared) (a : Value) (v : Value), BindsTo s fd ⟨[a], [(nm, v)]⟩ (ps.zip [a, v])
/-- C(nm = e): a new exception, then C's own __init__ -/
theorem pe_xmakeK {X : Cx} {e : Expr} {te : TE} {p pos kpos : Pos} {B newId initId : String} {bmB : List Value} {x nm : Str} {C fI : Addr} {k : Nat} {fd : FuncData} {ps : List Str} {sp : Sp} (T : EC X.K C B newId initId bmB) (iC : PySem.W.findIn X.K (.ref C) "__init__" = some (some (.ref fI))) (tI : PySem.W.typeIn X.K (.ref fI) = some (.type "function"))
    (F1 : FnOk X.prog X.w X.K X.mg X.base CX0 k fI fd ps sp) (hr : Room (k + 1) X.A) (hb : KwOne X.K fd ps nm) (hg : Gl X x) (hm : X.mg x = some (.ref C)) (he : PE X e te)
    (hdb : (x == ("__debug__" : Str)) = false := by decide) (hall : (backToKw pos (keywordEach [⟨some nm, e, kpos⟩] X.env)).all (·.1.isSome) = true := by rfl) (hks : (backToKw pos (keywordEach [⟨some nm, e, kpos⟩] X.env)).filterMap (·.1) = [nm] := by rfl)
    (hpl : ((backTo pos (starEach [] X.env)).any (·.1) || (backToKw pos (keywordEach [⟨some nm, e, kpos⟩] X.env)).any (·.1.isNone)) = false := by rfl) (hps : ps.length = 2 := by rfl) :
    PE X (.Call (.Name x p) [] [⟨some nm, e, kpos⟩] pos) (tXM C sp (tCons te tNil)) := by
  refine ⟨fun pins s σ H Q I h => wpAny_Call_Name_kw (ld_glob I hg hm ?_ hdb)⟩
  refine PySem.W.callWith_KW0 (h₀ := X.base) I.ok.mod.kin T.kC hall (thn ((pk_cons he pk_nil).run pos pins s σ H _ I h) fun ws s1 ⟨zs, H1, I1, rz, hz, q1⟩ => ⟨I1.kIn, ?_⟩) hpl
  rw [hks]
  show wpAny _ _ (call (.ref C) [] _) _ _ _
  obtain ⟨_, _, _, _, _, _, _, _, _, _, _, _, _, _, _, _, hC, hT⟩ := PySem.W.excInit_of I1.kIn T.ini
  have hsz : s1.heap.objs.size ≤ s1.heap.objs.size + 1 := Nat.le_succ _
  have hq := q1 (s1.heap.objs.size + 1) (I1.hok.fresh hsz)
  have hl : zs.length = 1 := by
    have z := F1.len _ _ _ _ hq
    rw [hps, List.length_cons] at z
    omega
  obtain ⟨z, rfl⟩ : ∃ z, zs = [z] := List.length_eq_one_iff.mp hl
  cases rz with
  | @cons _ u _ _ ru rr =>
    cases rr
    have hget : ((s1.heap.push (PySem.W.kdv_tup [])).push (PySem.HandSPX.excO C s1.heap.objs.size)).get? (s1.heap.objs.size + 1) = some (PySem.HandSPX.excO C s1.heap.objs.size) := by
      obtain ⟨hp, g, dr, tk, os⟩ := s1
      heap_get
    have I2 := I1.laid (t' := s1.toks) (o := exo (s1.heap.objs.size + 1) C none) (fun b o e => Heap.get?_push_of_some _ (Heap.get?_push_of_some _ e)) hsz (exo_ok hget)
    refine wpAny_call (kw_call T.base.ex hT hC (PySem.W.looks_findIn I1.kIn iC) (fun self => PySem.W.bind_fn I1.kIn self tI)
      (codeAny_mono (F1.run _ X.stack _ _ ⟨[Value.ref (s1.heap.objs.size + 1)], [(nm, u)]⟩ [Value.ref (s1.heap.objs.size + 1), u] [V.ref (s1.heap.objs.size + 1), z] _ _ (hr.make C [] _) (I2.env0.make C [] _) (hb _ _ _) (.cons rfl (.cons ru .nil)) hq) fun r s' hq' => ?_))
    match r, hq' with
    | .error _, z => exact z.elim
    | .ok .next, z => exact z.elim
    | .ok .brk, z => exact z.elim
    | .ok .cont, z => exact z.elim
    | .ok (.ret u), z =>
      obtain ⟨v, H', I3, rv, ev, q3⟩ := I2.after z
      subst ev
      exact ⟨rv, ⟨V.ref (s1.heap.objs.size + 1), H', I3, rfl, q3⟩⟩
end Exv
namespace Exv
open PySem L2 PySem.Spec PyProof.Rows
/-- an exception value at a with one field -/
def ExV (H : Hp) (a C : Addr) (f : Str) (v : V) : Prop := ∃ dx, H a = some (exo a C (some dx)) ∧ H dx = some (exd dx [(f, v)])
theorem ExV.same {H H' : Hp} {a C : Addr} {f : Str} {v : V} (e : ExV H a C f v) (s : Same H H') : ExV H' a C f v := e.imp fun _ h => ⟨s _ _ h.1, s _ _ h.2⟩
theorem ExV.at_ {H : Hp} {a C : Addr} {f : Str} {v : V} (e : ExV H a C f v) : ExAt H a C [(f, v)] := .inr e
theorem ExAt.same {H H' : Hp} {a C : Addr} {fs : List (Str × V)} (e : ExAt H a C fs) (s : Same H H') : ExAt H' a C fs :=
  e.imp (fun h => ⟨h.1, s _ _ h.2⟩) fun h => h.imp fun _ h => ⟨s _ _ h.1, s _ _ h.2⟩
/-- what the __init__ of such a class promises -/
def spXI (C : Addr) (f : Str) : Sp := fun vs H Q _ => ∃ (a : Addr) (v : V), vs = [.ref a, v] ∧ H a = some (exo a C none) ∧ ∀ dx, H dx = none → dx ≠ a → Q .non (upd (upd H dx (exd dx [(f, v)])) a (exo a C (some dx)))
/-- an own error class with one field -/
def Maker (P : Program) (w : World) (K : PySem.W.Frag) (mg : Str → Option Value) (base : Heap) (x f : Str) (C : Addr) : Prop :=
  mg x = some (.ref C) ∧ PySem.W.findIn K (.ref C) f = some none ∧ ∃ (B newId initId : String) (bmB : List Value) (fI : Addr) (fd : FuncData) (ps : List Str), EC K C B newId initId bmB ∧ PySem.W.findIn K (.ref C) "__init__" = some (some (.ref fI)) ∧ PySem.W.typeIn K (.ref fI) = some (.type "function") ∧
    FnOk P w K mg base CX0 1 fI fd ps (spXI C f) ∧ Binds K fd ps [] ∧ KwOne K fd ps f ∧ ps.length = 2
theorem Maker.is {P : Program} {w : World} {K : PySem.W.Frag} {mg : Str → Option Value} {base : Heap} {x f : Str} {C : Addr} (M : Maker P w K mg base x f C) : L2.ExcC K C := by
  obtain ⟨_, _, _, _, _, _, _, _, _, T, _⟩ := M
  exact T.is
def rXM (C : Addr) (f : Str) (vs : List V) (H1 : Hp) (Q : VK) : Prop := vs.length ≤ 1000 ∧ ∀ a, H1 a = none → spXI C f (.ref a :: vs) (upd H1 a (exo a C none)) (fun v H2 => v = .non ∧ Q (.ref a) H2) fun _ _ _ => False
def tMk (C : Addr) (f : Str) (ta : TA) : TE := fun σ H Q => ta σ H fun vs H1 => rXM C f vs H1 Q
def rXF (K : PySem.W.Frag) (f : Str) (x : V) (H1 : Hp) (Q : VK) : Prop := ∃ (a C dd : Addr) (fs : List (Str × V)) (v : V), x = .ref a ∧ L2.ExcC K C ∧ PySem.W.findIn K (.ref C) f = some none ∧ H1 a = some (exo a C (some dd)) ∧ H1 dd = some (exd dd fs) ∧ fs.lookup f = some v ∧ Q v H1
section
variable {X : Cx} {e : Expr} {te : TE} {x f : Str} {C : Addr} {p pos kpos : Pos}
theorem pe_mk {ta : TA} (M : Maker X.prog X.w X.K X.mg X.base x f C) (hr : Room 2 X.A) (ha : PA X (e :: []) ta) (hg : Gl X x := by rfl) (hdb : (x == ("__debug__" : Str)) = false := by decide) (hs : starEach (e :: []) X.env = (false, eval e X.env) :: starEach [] X.env := by rfl) (hpl : (backTo pos (starEach [] X.env)).any (·.1) = false := by rfl) :
    PE X (.Call (.Name x p) (e :: []) [] pos) (tMk C f ta) := by
  obtain ⟨hm, _, B, newId, initId, bmB, fI, fd, ps, T, iC, tI, F, b, kb, hl⟩ := M
  exact pe_xmake T iC tI F hr b hg hm ha hdb hs hpl
theorem pe_mkK (M : Maker X.prog X.w X.K X.mg X.base x f C) (hr : Room 2 X.A) (he : PE X e te) (hg : Gl X x := by rfl) (hdb : (x == ("__debug__" : Str)) = false := by decide)
    (hall : (backToKw pos (keywordEach [⟨some f, e, kpos⟩] X.env)).all (·.1.isSome) = true := by rfl) (hks : (backToKw pos (keywordEach [⟨some f, e, kpos⟩] X.env)).filterMap (·.1) = [f] := by rfl)
    (hpl : ((backTo pos (starEach [] X.env)).any (·.1) || (backToKw pos (keywordEach [⟨some f, e, kpos⟩] X.env)).any (·.1.isNone)) = false := by rfl) :
    PE X (.Call (.Name x p) [] [⟨some f, e, kpos⟩] pos) (tMk C f (tCons te tNil)) := by
  obtain ⟨hm, _, B, newId, initId, bmB, fI, fd, ps, T, iC, tI, F, b, kb, hl⟩ := M
  exact pe_xmakeK T iC tI F hr kb hg hm he hdb hall hks hpl hl
end
section
variable {K : PySem.W.Frag} {σ : L2.St} {H : Hp} {Q : VK} {C a : Addr} {f : Str} {v : V}
theorem mk {ta : TA} (q : ta σ H fun vs H1 => rXM C f vs H1 Q) : tMk C f ta σ H Q := q
theorem mkE (q : ∀ a H', Same H H' → H a = none → ExV H' a C f v → Q (.ref a) H') : rXM C f [v] H Q :=
  ⟨(by decide : 1 ≤ 1000), fun a ha => ⟨a, v, rfl, upd_same, fun dx hd hne => ⟨rfl, q a _ (fun b o hb => by
    have n1 : b ≠ a := ne_of_none hb ha
    have h1 : upd H a (exo a C none) b = some o := (upd_ne n1).trans hb
    exact (upd_ne n1).trans ((upd_ne (ne_of_none h1 hd)).trans h1)) ha ⟨dx, upd_same, (upd_ne hne).trans upd_same⟩⟩⟩⟩
theorem mk0 (q : ∀ a H', Same H H' → H a = none → ExAt H' a C [] → Q (.ref a) H') : tX0 C σ H Q := fun a ha => q a _ (fun b o hb => (upd_ne (ne_of_none hb ha)).trans hb) ha (.inl ⟨rfl, upd_same⟩)
theorem fld {te : TE} (q : te σ H fun x H1 => rXF K f x H1 Q) : tXF K f te σ H Q := q
theorem fldE (T : L2.ExcC K C) (hn : PySem.W.findIn K (.ref C) f = some none) (e : ExV H a C f v) (q : Q v H) : rXF K f (.ref a) H Q := by
  obtain ⟨dx, h1, h2⟩ := e
  exact ⟨a, C, dx, _, v, rfl, T, hn, h1, h2, by simp [List.lookup], q⟩
theorem isE {fs : List (Str × V)} {c : V} {u : Value} {b : Bool} (hc : ClsV c u) (e : ExAt H a C fs) (T : L2.ExcC K C) (hk : PySem.W.kitOne K (.ref C) u = some b) (q : Q (.bl b) H) : rIsX K [.ref a, c] H Q :=
  ⟨a, C, fs, c, u, b, rfl, hc, e, T, hk, q⟩
end
end Exv
namespace Exv
open PySem L2 PySem.Spec PyProof.Rows
/-- an own error class without fields -/
def Maker0 (K : PySem.W.Frag) (mg : Str → Option Value) (x : Str) (C : Addr) : Prop :=
  mg x = some (.ref C) ∧ PySem.W.keepIn K (.ref C) = true ∧ L2.ExcC K C ∧ ∃ (B newId initId : String) (bmB : List Value), ExcBaseFacts B newId initId bmB ∧ PySem.W.excIn K C bmB newId = true
theorem pe_mk0 {X : Cx} {x : Str} {C : Addr} {p pos : Pos} (M : Maker0 X.K X.mg x C) (hg : Gl X x := by rfl) (hdb : (x == ("__debug__" : Str)) = false := by decide) : PE X (.Call (.Name x p) [] [] pos) (tX0 C) := by
  obtain ⟨hm, kC, _, B, newId, initId, bmB, F, q⟩ := M
  exact pe_xmake0 F q hm kC hg hdb
end Exv
/-! ## Exceptions that were raised and caught, held on as values -/
namespace Exz
open PySem L2 PySem.Spec PyProof.Rows Exv
/-- an exception of the class at C, whatever its fields; its dict at d -/
abbrev exr (a C : Addr) (d : Option Addr) : HO := .ext fun h => ∃ (o : Obj) (fs : Array Value), h.get? a = some o ∧ o.cls = .ref C ∧ o.dict = d ∧ o.data = .fields fs
theorem exr_at {P : Program} {w : World} {H : Hp} {h : Heap} {a C : Addr} {d : Option Addr} (ok : HOk P w H h) (e : H a = some (exr a C d)) : ∃ (o : Obj) (fs : Array Value), h.get? a = some o ∧ o.cls = .ref C ∧ o.dict = d ∧ o.data = .fields fs := (ok a _ e).1
theorem exr_ok {P : Program} {w : World} {H : Hp} {h : Heap} {a C : Addr} {d : Option Addr} {o : Obj} {fs : Array Value} (e : h.get? a = some o) (z : Zc (.ref C) d o) (hd : o.data = .fields fs) : ObjOk P w H h a (exr a C d) :=
  ⟨⟨o, fs, e, z.1, z.2, hd⟩, ⟨o, e⟩, fun _ _ ⟨o', fs', q, r⟩ k => ⟨o', fs', k _ q, r⟩⟩
/-- the caught exception at a: of the class at C, with one field -/
def ExF (H : Hp) (a C : Addr) (f : Str) (v : V) : Prop := ∃ dd, H a = some (exr a C (some dd)) ∧ H dd = some (.xd [(f, v)])
theorem ExF.same {H H' : Hp} {a C : Addr} {f : Str} {v : V} (e : ExF H a C f v) (s : Same H H') : ExF H' a C f v := e.imp fun _ h => ⟨s _ _ h.1, s _ _ h.2⟩
/-- isinstance(e, c) of such -/
def rIsZ (K : PySem.W.Frag) : List V → Hp → VK → Prop := fun xs H Q => ∃ (a C : Addr) (f : Str) (v c : V) (u : Value) (b : Bool), xs = [.ref a, c] ∧ ClsV c u ∧ ExF H a C f v ∧ L2.ExcC K C ∧ PySem.W.kitOne K (.ref C) u = some b ∧ Q (.bl b) H
/-- e.f of such -/
def tZF (K : PySem.W.Frag) (f : Str) (te : TE) : TE := fun σ H Q => te σ H fun x H1 => ∃ (a C : Addr) (v : V), x = .ref a ∧ L2.ExcC K C ∧ PySem.W.findIn K (.ref C) f = some none ∧ ExF H1 a C f v ∧ Q v H1
section
variable {X : Cx} {o e : Expr} {to te : TE} {f : Str} {pos : Pos}
theorem inst_at {pins : List (Addr × Obj)} {s : Shared} {σ : L2.St} {H : Hp} {a C : Addr} {v : V} (I : Inv X pins σ H s) (h : ExF H a C f v) : ∃ (od : Obj) (ox : Obj), PySem.W.InstAt s.heap a ox C (some od) ∧ ∃ u : Value, PySem.W.lookIn f od = some (some u) ∧ L2.RelV v u := by
  obtain ⟨dd, h1, h2⟩ := h
  obtain ⟨o, fs, e1, e2, e3, e4⟩ := exr_at I.hok h1
  obtain ⟨mA, hns, hr⟩ := (show ObjOk X.prog X.w H s.heap dd (.xd [(f, v)]) from I.hok dd _ h2)
  obtain ⟨od, hod, hl⟩ := lookIn_ns hns
  refine ⟨od, o, ⟨e1, e2, by unfold PySem.W.notCls; rw [e4], by rw [e3]; exact hod⟩, ?_⟩
  have q := hr f
  simp only [List.lookup, beq_self_eq_true] at q
  obtain ⟨u, hu, ru⟩ := RelO.some_of (v := v) (o := mA f) q
  exact ⟨u, by rw [hl, hu], ru⟩
theorem call_isZ : CallR X (.builtin "isinstance") (rIsZ X.K) := fun pins s σ H xs us Q I r ⟨a, C, f, v, c, u, b, ex, k, hx, T, e, q⟩ => by
  subst ex
  obtain ⟨u1, u2, rfl, r1, r2⟩ := vals2 r
  have e2 := k.eq r2
  subst e2
  cases (show u1 = Value.ref a from r1)
  obtain ⟨od, ox, J, _⟩ := inst_at I hx
  exact PySem.W.kia_one (kitx_exc T.hg T.hk T.hs T.hd T.ha T.hn T.ht T.hm) I.kIn J e (fun z => nomatch z) fun tk => ⟨.bl b, H, I.tok tk, rfl, q⟩
theorem pe_zfld (he : PE X e te) (hb : attributeBase e f X.env (eval e X.env) = eval e X.env := by rfl) : PE X (.Attribute e f pos) (tZF X.K f te) :=
  ⟨fun pins s σ H Q I h => attr_of hb (thn (he.run pins s σ H _ I h) fun u s1 ⟨x, H1, I1, rx, a, C, v, ex, T, hno, hx, q⟩ => by
    subst ex
    cases rx
    obtain ⟨od, ox, J, u, hu, ru⟩ := inst_at I1 hx
    exact HandSPX.exc_get I1.kIn J T.hg T.hk T.hs (PySem.W.findObj_own T.hd hno rfl hu) (handed_of ru) ⟨v, H1, I1.tok _, ru, q⟩)⟩
end
end Exz
/-! ## try: body / except (A, B) as n: y = n -- what was caught is held on -/
namespace Exs
open PySem L2 PySem.Spec PyProof.Rows Exv Exz
section
variable {X : Cx} {pins : List (Addr × Obj)} {σ : L2.St} {H : Hp} {s : Shared}
/-- an object made since the frame began, held by nothing so far, is held from now on -/
theorem trackO {a : Addr} {O : HO} {oe : Obj} (J : Inv X pins σ H s) (ha : s.heap.get? a = some oe) (hd : ∀ v, oe.data ≠ .cell v) (na : H a = none)
    (nL : a ≠ X.env.locals) (new : X.s_0.heap.get? a = none) (np : ∀ p ∈ X.pn ++ pins, p.1 ≠ a) (hO : ObjOk X.prog X.w (upd H a O) s.heap a O) : Inv X pins σ (upd H a O) s := by
  have ne : ∀ {b : Addr} {o : HO}, H b = some o → b ≠ a := fun {b o} e z => by rw [z, na] at e; cases e
  have up : ∀ {b : Addr} {o : HO}, H b = some o → upd H a O b = some o := fun {b o} e => (upd_ne (ne e)).trans e
  exact
    { ok := J.ok, os := J.os, bare := J.bare, loc := J.loc, cell := J.cell, len := J.len
      base := ⟨J.base.keep, J.base.slot, fun b o e n hx => (upd_ne fun z => by rw [z, new] at e; cases e).trans (J.base.free b o e n hx), J.base.there, fun b xs e => up (J.base.tups b xs e), fun b o u e => up (J.base.frzs b o u e), fun b ps e => (J.base.tbls b ps e).imp fun _ q => up q⟩
      free := (upd_ne (Ne.symm nL)).trans J.free
      freeC := fun x c e => (upd_ne fun z => by
        obtain ⟨v, o, ho, hc⟩ := J.cell x c e
        rw [z, ha] at ho
        cases ho
        exact hd _ hc).trans (J.freeC x c e)
      pin := fun p hp => by
        obtain ⟨q1, q2, q3⟩ := J.pin p hp
        exact ⟨q1, (upd_ne (np p hp)).trans q2, q3⟩
      hok := fun b o e => by
        by_cases hb : b = a
        · subst hb
          rw [upd_same] at e
          cases e
          exact hO
        · rw [upd_ne hb] at e
          exact (J.hok b o e).stay (fun c v _ q => q) (fun c q => up q) fun c xs q => up q }
theorem track {a C : Addr} {d : Option Addr} {oe : Obj} {fs : Array Value} (J : Inv X pins σ H s) (ha : s.heap.get? a = some oe) (hz : Zc (.ref C) d oe) (hd : oe.data = .fields fs) (na : H a = none)
    (nL : a ≠ X.env.locals) (new : X.s_0.heap.get? a = none) (np : ∀ p ∈ X.pn ++ pins, p.1 ≠ a) : Inv X pins σ (upd H a (exr a C d)) s := trackO J ha (fun v z => by rw [hd] at z; cases z) na nL new np (exr_ok ha hz hd)
end
/-- in flight over a heap that has more -/
theorem fly_more {B h h' : Heap} {l : List Env} {a : Addr} {Z : Obj → Prop} (x : HandSPX.FlyingZ B l a Z h) (k : ∀ b o, h.get? b = some o → h'.get? b = some o) : HandSPX.FlyingZ B l a Z h' := by
  obtain ⟨q1, q2, q3, oe, vs, T, oT, ts, e1, e2, e3, e4, e5, e6, e7, e8, e9⟩ := x
  exact ⟨fun b o e => k b o (q1 b o e), q2, q3.of_keeps fun b o e _ => ⟨o, k b o e, rfl⟩, oe, vs, T, oT, ts, k _ _ e1, e2, e3, e4, e5, e6, k _ _ e7, e8, e9⟩
/-- what such a try wishes of an exception of its body -/
def wStore (K : PySem.W.Frag) (m : Nat) (cs : List Value) (i j : Nat) (Wout : WX) (D : Ends) : WX := fun cls d σ H =>
  ∃ b, PySem.W.exmAny K cls cs = some b ∧ (b = true → ∃ C, cls = .ref C ∧ ∀ a, H a = none → σ.length = m → D.nx (((σ.set i (some (.ref a))).set j (some (.ref a))).set i none) (upd H a (exr a C d))) ∧ (b = false → Wout cls d σ H)
section
variable {X : Cx} {y1 y2 n y : Str} {c1 c2 : Value} {i j kt : Nat} {body : List Stmt} {p1 p2 pt py pn' sp pos pos' : Pos} {tb : WX → TS} {Wout : WX}
theorem ld_names {E : Value → Shared → Prop} {pins : List (Addr × Obj)} {σ : L2.St} {H : Hp} {s : Shared} {x : Str} {c : Value} {p : Pos} {Q : Value → Shared → Prop} (I : Inv X pins σ H s) (hc : Names X x c) (q : Q c s) : wpAny (model X.prog X.w) X.A (eval (.Name x p) X.env) Q E s := by
  obtain ⟨hg, hdb, hm | ⟨hm, hv, hn⟩⟩ := hc
  · exact ld_glob I hg hm q hdb
  · exact ld_blt I hg hm hv q hn hdb
theorem ps_try_store (hs : X.stack = X.env :: X.outer) (hf : X.env.frame = some X.env.locals) (hex : X.ex = []) (hN : X.N.Nodup) (hi : X.N[i]? = some n) (hln : X.env.kindOf n = some .local) (hj : X.N[j]? = some y) (hly : X.env.kindOf y = some .local)
    (h1 : Names X y1 c1) (h2 : Names X y2 c2) (tk : Takes X Wout)
    (hb : ∀ (W : WX) (pl : List (Addr × Obj)) (xe : Value → Shared → Prop), Takes (X.tr pl xe) W → PassesOwn (model X.prog X.w) X.A X.env xe → PSs (X.tr pl xe) body (tb W))
    (hsw : ∀ (a : Addr) (pl : List (Addr × Obj)), PS (X.suite a pl) (.Assign [.Name y py] (.Name n pn') sp) (tAsg (tVar i) (gName j))) :
    PS X (.Try body [.ExceptHandler (some (.Tuple [.Name y1 p1, .Name y2 p2] kt pt)) (some n) [.Assign [.Name y py] (.Name n pn') sp] pos'] [] [] pos) (fun D σ H => tb (wStore X.K X.N.length [c1, c2] i j Wout D) D σ H) := by
  refine ⟨fun pins s σ H D I h => wpAny_Try_except ?_⟩
  have ok := I.ok
  have frm : X.A.frames = some (X.env :: X.outer) := ok.frames.trans (by rw [hs])
  have body' := hb (wStore X.K X.N.length [c1, c2] i j Wout D) (X.pn ++ pins) (fun e s₁ => wpAny (model X.prog X.w) X.A (noteFrame e X.env) (fun _ s₂ => wpAny (model X.prog X.w) X.A (setFlight e none) (fun _ s₃ =>
    wpAny (model X.prog X.w) X.A (handleBy e X.env [.ExceptHandler (some (.Tuple [.Name y1 p1, .Name y2 p2] kt pt)) (some n) [.Assign [.Name y py] (.Name n pn') sp] pos']) (SP X pins D) X.xe s₃) X.xe s₂) X.xe s₁) (fun u s' flying => ?_) PassesOwn.looking
  · refine wpAny_mono (body'.run [] s σ H D (I.toTry _) h) (fun f s1 q => ?_) fun e s1 q => q
    match f, q with
    | .next, ⟨σ', H', J, q⟩ => exact wpAny_execs_nil ⟨σ', H', J.ofTry ok, q⟩
    | .brk, ⟨σ', H', J, q⟩ => exact ⟨σ', H', J.ofTry ok, q⟩
    | .cont, ⟨σ', H', J, q⟩ => exact ⟨σ', H', J.ofTry ok, q⟩
    | .ret u, ⟨v, σ', H', J, r, q⟩ => exact ⟨v, σ', H', J.ofTry ok, r, q⟩
  obtain ⟨a, B, sI, pinsI, σI, HI, cls, d, rfl, Jt, ground, up, sky, na, os, ag, b, hb1, hyes, hno⟩ := flying
  have J : Inv X pins σI HI sI := Jt.ofTry ok
  refine Sky.land Zc.steady frm hf (by rw [← hs]; exact sky) fun h3 fl3 up3 => ?_
  have J3 : Inv X pins σI HI { s' with heap := h3 } := J.landed ground fl3.1 (up.trans up3) os ag
  obtain ⟨oe, fs, he, hz, hd⟩ := fl3.there
  have out : a ∉ frs (X.env :: X.outer) := fun hm => by
    obtain ⟨_, o', e', hnf⟩ := fl3.2.2.1.mem hm
    rw [he] at e'
    cases e'
    exact hnf _ hd
  have nL : a ≠ X.env.locals := fun z => out (List.mem_filterMap.mpr ⟨X.env, List.mem_cons_self, by rw [hf, z]⟩)
  have nF : a ∉ X.fs := fun hm => by
    obtain ⟨e, he, q⟩ := List.mem_filterMap.mp hm
    exact out (List.mem_filterMap.mpr ⟨e, List.mem_cons_of_mem _ he, q⟩)
  have newI : sI.heap.get? a = none := by
    cases q : sI.heap.get? a with
    | none => rfl
    | some o =>
      have := ground a o q (by rw [hs]; exact out)
      rw [fl3.2.1] at this
      cases this
  have new0 : X.s_0.heap.get? a = none := by
    cases q : X.s_0.heap.get? a with
    | none => rfl
    | some o =>
      obtain ⟨o', q'⟩ := J.base.there a o q (by rw [hex]; simp)
      rw [newI] at q'
      cases q'
  have np : ∀ p ∈ X.pn ++ pins, p.1 ≠ a := fun p hp z => by
    have := (J.pin p hp).1
    rw [z, newI] at this
    cases this
  refine wpAny_handleBy_cons (codeAny_handlers_test ?_) (by intro q; cases q)
  have S3 := J3.suite he hd na nL nF
  refine wpAny_Tuple (wpAny_items_cons (ld_names (X := X.suite a ((a, oe) :: (X.pn ++ pins))) S3 h1 (wpAny_items_cons (ld_names (X := X.suite a ((a, oe) :: (X.pn ++ pins))) S3 h2 (wpAny_items_nil ⟨by size_fits, ?_⟩)))))
  have kp : ∀ q o, h3.get? q = some o → (h3.push { cls := .type "tuple", data := .seq [c1, c2].toArray }).get? q = some o := fun _ _ z => Heap.get?_push_of_some _ z
  have LT : PySem.W.Looks (model X.prog X.w) h3 (typeOf (.ref a)) cls := fun A Q E s k q => wpAny_typeOf_ref (k _ _ he) (by rw [hz.1]; exact q)
  refine (PySem.W.exm_tup2 (J3.kIn.keeps kp) (LT.keeps kp) (Heap.get?_push_size h3 rfl) hb1).here ?_
  have fl5 := fly_more fl3 kp
  have up5 : h3.UpToSlots (h3.push { cls := .type "tuple", data := .seq [c1, c2].toArray }) := Heap.UpToSlots.of_keeps kp
  cases b with
  | true =>
    obtain ⟨C, rfl, hy⟩ := hyes rfl
    refine codeAny_handlers_suite_as (HandSPX.lands_againZ fl5 fun h4 fl4 up4 => ?_)
    have J4 : Inv X pins σI HI { s' with heap := h4 } := J.landed ground fl4.1 ((up.trans up3).trans (up5.trans up4)) os ag
    obtain ⟨oe4, fs4, he4, hz4, hd4⟩ := fl4.there
    refine store_ok (X := X.suite a ((a, oe4) :: (X.pn ++ pins))) (v := .ref a) (J4.suite he4 hd4 na nL nF) hN hi (.inl hln) rfl (fun s5 S5 => ?_) (.inr hln)
    have lt : i < σI.length := by rw [J.len]; exact (List.getElem?_eq_some_iff.mp hi).1
    have run := (pss_one (hsw a ((a, oe4) :: (X.pn ++ pins)))).run [] s5 _ HI { nx := fun σ' H' => σ' = (σI.set i (some (.ref a))).set j (some (.ref a)) ∧ H' = HI, rt := fun _ _ => False, bk := fun _ _ => False, ct := fun _ _ => False } S5 ⟨.ref a, List.getElem?_set_self lt, rfl, rfl⟩
    refine wpAny_mono run (fun f s6 q => ?_) fun _ _ z => False.elim z
    match f, q with
    | .next, ⟨σ6, H6, S6, e1, e2⟩ =>
      subst e1 e2
      refine gone_ok (X := X.suite a ((a, oe4) :: (X.pn ++ pins))) S6 hN hi hln fun s7 S7 => ?_
      have at7 := (S7.pin (a, oe4) (by simp)).1
      exact ⟨_, _, track (S7.unsuite ok) at7 hz4 hd4 na nL new0 np, hy a na J.len⟩
    | .brk, ⟨_, _, _, z⟩ => exact z.elim
    | .cont, ⟨_, _, _, z⟩ => exact z.elim
    | .ret u, ⟨_, _, _, _, _, z⟩ => exact z.elim
  | false =>
    show wpAny _ X.A (handleBy (.ref a) X.env []) _ _ _
    refine wpAny_handleBy_nil ?_
    obtain ⟨k1, k2, k3, oe5, vs, T, oT, ts', e5, z5, d5, v5, r5⟩ := id fl5
    unfold PySem.passOn
    refine wpAny_bind (wpAny_field e5 d5 v5 ?_)
    rw [if_neg (show ¬ ((Value.ref T == Value.none) = true) by simp)]
    have fin : wpAny (model X.prog X.w) X.A (setFlight (.ref a) X.env.frame) (fun _ s4 => wpAny (model X.prog X.w) X.A (throw (.ref a) : Sem Flow) (SP X pins D) X.xe s4) X.xe { s' with heap := h3.push { cls := .type "tuple", data := .seq [c1, c2].toArray } } := by
      rw [hf]
      exact HandSPX.setFlight_upZ fl5 fun h4 hh4 up4 => wpAny_throw (tk _ _ ⟨a, B, sI, pins, σI, HI, cls, d, rfl, J, ground, (up.trans up3).trans (up5.trans up4), .inr (.inr (by rw [hs]; exact hh4)), na, os, ag, hno rfl⟩)
    first
      | exact wpAny_bind (wpAny_pure (wpAny_bind fin))
      | exact wpAny_bind fin
end
end Exs
/-! ## raise C(e), C an own class with one field -/
namespace Exs
open PySem L2 PySem.Spec PyProof.Rows Exv Exz
/-- what the making of such an exception leaves: its dict, with its one field -/
def tMkX (C : Addr) (f : Str) (ta : TA) : L2.St → Hp → XK → Prop := fun σ H Q => ta σ H fun vs H1 => ∃ v, vs = [v] ∧ ∀ d, H1 d = none → Q (.ref C) (some d) (upd H1 d (.xd [(f, v)]))
section
variable {X : Cx} {e : Expr} {ta : TA} {x f : Str} {C : Addr} {p pos : Pos}
theorem pmk_x (M : Maker X.prog X.w X.K X.mg X.base x f C) (ty : PySem.W.typeIn X.K (.ref C) = some (.type "type")) (hr : Room 2 X.A) (ha : PA X [e] ta) (hg : Gl X x := by rfl) (hdb : (x == ("__debug__" : Str)) = false := by decide)
    (hst : starEach [e] X.env = (false, eval e X.env) :: starEach [] X.env := by rfl) (hpl : (backTo pos (starEach [] X.env)).any (·.1) = false := by rfl) : PMk X (.Call (.Name x p) [e] [] pos) (tMkX C f ta) := by
  have is := M.is
  obtain ⟨hm, _, B, newId, initId, bmB, fI, fd, ps, T, iC, tI, F1, hb, _, hps⟩ := M
  refine fun pins s σ H Q I h => wpAny_Call_Name_kw (ld_glob I hg hm (PySem.W.callWith_K (h₀ := X.base) I.ok.mod.kin T.kC (thn (ha.run pos pins s σ H _ I h) fun us s1 ⟨vs, H1, I1, r1, v, ev, q1⟩ => ⟨I1.kIn, ?_⟩) hst hpl) hdb)
  subst ev
  obtain ⟨_, _, _, _, _, _, _, _, _, _, _, _, _, _, _, _, hC, hT⟩ := PySem.W.excInit_of I1.kIn T.ini
  obtain ⟨hp, g, dr, tk, os⟩ := s1
  have big : hp.objs.size ≤ hp.objs.size + 1 := Nat.le_succ _
  have hn : H1 (hp.objs.size + 1) = none := I1.hok.fresh big
  have more : ∀ b o, hp.get? b = some o → ((hp.push (PySem.W.kdv_tup us)).push (PySem.HandSPX.excO C hp.objs.size)).get? b = some o := fun b o z => Heap.get?_push_of_some _ (Heap.get?_push_of_some _ z)
  have here : ((hp.push (PySem.W.kdv_tup us)).push (PySem.HandSPX.excO C hp.objs.size)).get? (hp.objs.size + 1) = some (PySem.HandSPX.excO C hp.objs.size) := by heap_get
  have I2 := I1.laid (t' := tk) (o := exo (hp.objs.size + 1) C none) more big (exo_ok here)
  have r2 : Vals [V.ref (hp.objs.size + 1), v] (Value.ref (hp.objs.size + 1) :: us) := .cons rfl r1
  have hl : us.length = 1 := r1.length.symm
  have bnd := hb ⟨(hp.push (PySem.W.kdv_tup us)).push (PySem.HandSPX.excO C hp.objs.size), g, dr, tk, os⟩ (Value.ref (hp.objs.size + 1) :: us) I2.kIn (by rw [List.append_nil, List.length_cons, hl, hps])
  rw [List.append_nil] at bnd
  have hq : spXI C f [V.ref (hp.objs.size + 1), v] (upd H1 (hp.objs.size + 1) (exo (hp.objs.size + 1) C none))
      (fun w H2 => w = .non ∧ ∃ d, H2 (hp.objs.size + 1) = some (exo (hp.objs.size + 1) C (some d)) ∧ H2 d = some (exd d [(f, v)]) ∧ H1 d = none ∧ Q (.ref C) (some d) (upd (del H2 (hp.objs.size + 1)) d (.xd [(f, v)]))) E0 := by
    refine ⟨_, v, rfl, upd_same, fun dx hdx hne => ⟨rfl, dx, upd_same, (upd_ne hne).trans upd_same, by rwa [upd_ne hne] at hdx, ?_⟩⟩
    have hd1 : H1 dx = none := by rwa [upd_ne hne] at hdx
    have eq : upd (del (upd (upd (upd H1 (hp.objs.size + 1) (exo (hp.objs.size + 1) C none)) dx (exd dx [(f, v)])) (hp.objs.size + 1) (exo (hp.objs.size + 1) C (some dx))) (hp.objs.size + 1)) dx (.xd [(f, v)]) = upd H1 dx (.xd [(f, v)]) := by
      funext b
      by_cases hb1 : b = dx
      · rw [hb1, upd_same, upd_same]
      · rw [upd_ne hb1, upd_ne hb1]
        by_cases hb2 : b = hp.objs.size + 1
        · rw [hb2, del_same, hn]
        · rw [del_ne hb2, upd_ne hb2, upd_ne hb1, upd_ne hb2]
    rw [eq]
    exact q1 dx hd1
  refine wpAny_call (PySem.HandSPX.call_own T.base.ex hT hC (PySem.W.looks_findIn I1.kIn iC) (fun self => PySem.W.bind_fn I1.kIn self tI) (show us.length ≤ sizeLine by rw [hl]; decide)
    (codeAny_mono (F1.run _ X.stack _ _ ⟨Value.ref (hp.objs.size + 1) :: us, []⟩ _ _ _ _ (hr.make C us []) (I2.env0.make C us []) bnd r2 hq) fun r s' out => ?_))
  match r, out with
  | .error _, z => exact z.elim
  | .ok .next, z => exact z.elim
  | .ok .brk, z => exact z.elim
  | .ok .cont, z => exact z.elim
  | .ok (.ret u), z =>
    obtain ⟨w, H2, os2, bare2, un2, hok2, rv, ew, d, ea, ed, hd1, q2⟩ := z
    subst ew
    obtain ⟨h2, g2, d2, t2, os'⟩ := s'
    exact ⟨rv, mk_end (raises_own is.hs ty) I1 big more un2 hok2 os2 bare2 ea ed hd1 q2⟩
end
end Exs
/-! ## Pd: defs over plain data. Data, how it lies in the heap, what a step may change. -/
namespace Pd
open PySem L2
/-- data: what a value is, without the heap -/
inductive D where
  | non | bl (b : Bool) | int (i : Int) | str (x : Str) | lst (xs : List D) | tup (xs : List D) | ins (c : Str) (fs : List (Str × D)) | exc (c : Str) (fs : List (Str × D)) | fn (f : Addr) | mt | drw
/-- where the draws' state lies: its dict, its list of great cells, its cells -/
structure Dr where
  d : Addr
  g : Addr
  c : Addr
  /-- the tables of code objects of the defs that make lambdas, with the lambdas' names -/
  T : List (Addr × Str)
mutual
/-- the value v is the data r, in the heap H -/
inductive Dv (K : PySem.W.Frag) (mg : Str → Option Value) (w : Dr) (H : Hp) : V → D → Prop
  | non : Dv K mg w H .non .non
  | bl (b : Bool) : Dv K mg w H (.bl b) (.bl b)
  | int (i : Int) : Dv K mg w H (.int i) (.int i)
  | str (x : Str) : Dv K mg w H (.str x) (.str x)
  | lst {a : Addr} {xs : List V} {ds : List D} : H a = some (.lst xs) → DvA K mg w H xs ds → Dv K mg w H (.ref a) (.lst ds)
  | tup {a : Addr} {xs : List V} {ds : List D} : H a = some (.tup xs) → DvA K mg w H xs ds → Dv K mg w H (.ref a) (.tup ds)
  | ins {a C dx : Addr} {c : Str} {fs : List (Str × V)} {gs : List (Str × D)} : H a = some (.ins C dx fs) → mg c = some (.ref C) → DvF K mg w H fs gs → Dv K mg w H (.ref a) (.ins c gs)
  | exc {a C dx : Addr} {c : Str} {fs : List (Str × V)} {gs : List (Str × D)} : H a = some (Exz.exr a C (some dx)) → H dx = some (.xd fs) → mg c = some (.ref C) → DvF K mg w H fs gs → Dv K mg w H (.ref a) (.exc c gs)
  | exc0 {a C : Addr} {c : Str} : H a = some (Exz.exr a C none) → mg c = some (.ref C) → Dv K mg w H (.ref a) (.exc c [])
  | fn {f : Addr} {o : HO} : H f = some o → Dv K mg w H (.ref f) (.fn f)
  | mt {a : Addr} : H a = some (.dK []) → Dv K mg w H (.ref a) .mt
  | drw : Dv K mg w H (.ref w.d) .drw
inductive DvA (K : PySem.W.Frag) (mg : Str → Option Value) (w : Dr) (H : Hp) : List V → List D → Prop
  | nil : DvA K mg w H [] []
  | cons {v : V} {vs : List V} {r : D} {rs : List D} : Dv K mg w H v r → DvA K mg w H vs rs → DvA K mg w H (v :: vs) (r :: rs)
inductive DvF (K : PySem.W.Frag) (mg : Str → Option Value) (w : Dr) (H : Hp) : List (Str × V) → List (Str × D) → Prop
  | nil : DvF K mg w H [] []
  | cons {f : Str} {v : V} {vs : List (Str × V)} {r : D} {rs : List (Str × D)} : Dv K mg w H v r → DvF K mg w H vs rs → DvF K mg w H ((f, v) :: vs) ((f, r) :: rs)
end
theorem SqT.same {K : PySem.W.Frag} {H H' : Hp} {a : Addr} {xs : List V} (h : SqT K H a xs) (e : Same H H') : SqT K H' a xs := by
  rcases h with (h | ⟨o, h⟩) | h
  · exact .inl (.inl (e _ _ h))
  · exact .inl (.inr ⟨o, e _ _ h⟩)
  · exact .inr h
section
variable {K : PySem.W.Frag} {mg : Str → Option Value} {w : Dr} {H H' : Hp}
mutual
theorem Dv.same (e : Same H H') : ∀ (r : D) (v : V), Dv K mg w H v r → Dv K mg w H' v r
  | .non, _, h => by cases h; exact .non
  | .bl _, _, h => by cases h; exact .bl _
  | .int _, _, h => by cases h; exact .int _
  | .str _, _, h => by cases h; exact .str _
  | .lst ds, _, h => by
    cases h with
    | lst h1 h2 => exact .lst (e _ _ h1) (DvA.same e ds _ h2)
  | .tup ds, _, h => by
    cases h with
    | tup h1 h2 => exact .tup (e _ _ h1) (DvA.same e ds _ h2)
  | .ins c gs, _, h => by
    cases h with
    | ins h1 h2 h3 => exact .ins (e _ _ h1) h2 (DvF.same e gs _ h3)
  | .exc c gs, _, h => by
    cases h with
    | exc h1 h2 h3 h4 => exact .exc (e _ _ h1) (e _ _ h2) h3 (DvF.same e gs _ h4)
    | exc0 h1 h2 => exact .exc0 (e _ _ h1) h2
  | .fn f, _, h => by
    cases h with
    | fn h1 => exact .fn (e _ _ h1)
  | .mt, _, h => by
    cases h with
    | mt h => exact .mt (e _ _ h)
  | .drw, _, h => by cases h; exact .drw
theorem DvA.same (e : Same H H') : ∀ (ds : List D) (vs : List V), DvA K mg w H vs ds → DvA K mg w H' vs ds
  | [], _, h => by cases h; exact .nil
  | r :: rs, _, h => by
    cases h with
    | cons h1 h2 => exact .cons (Dv.same e r _ h1) (DvA.same e rs _ h2)
theorem DvF.same (e : Same H H') : ∀ (gs : List (Str × D)) (vs : List (Str × V)), DvF K mg w H vs gs → DvF K mg w H' vs gs
  | [], _, h => by cases h; exact .nil
  | (f, r) :: rs, _, h => by
    cases h with
    | cons h1 h2 => exact .cons (Dv.same e r _ h1) (DvF.same e rs _ h2)
end
theorem DvA.len : ∀ {vs : List V} {ds : List D}, DvA K mg w H vs ds → vs.length = ds.length
  | _, _, .nil => rfl
  | _, _, .cons _ t => congrArg Nat.succ (DvA.len t)
theorem DvA.get : ∀ {vs : List V} {ds : List D} {i : Nat} {r : D}, DvA K mg w H vs ds → ds[i]? = some r → ∃ v, vs[i]? = some v ∧ Dv K mg w H v r
  | _, _, _, _, .nil, e => by simp at e
  | _, _, 0, _, .cons h _, e => by simp at e; subst e; exact ⟨_, rfl, h⟩
  | _, _, i + 1, r, .cons _ t, e => DvA.get (i := i) (r := r) t (by simpa using e)
theorem DvA.getV : ∀ {vs : List V} {ds : List D} {i : Nat} {v : V}, DvA K mg w H vs ds → vs[i]? = some v → ∃ r, ds[i]? = some r ∧ Dv K mg w H v r
  | _, _, _, _, .nil, e => by simp at e
  | _, _, 0, _, .cons h _, e => by simp at e; subst e; exact ⟨_, rfl, h⟩
  | _, _, i + 1, r, .cons _ t, e => DvA.getV (i := i) t (by simpa using e)
theorem DvA.app : ∀ {vs : List V} {ds : List D} {us : List V} {es : List D}, DvA K mg w H vs ds → DvA K mg w H us es → DvA K mg w H (vs ++ us) (ds ++ es)
  | _, _, _, _, .nil, h => h
  | _, _, _, _, .cons a t, h => .cons a (DvA.app t h)
theorem DvA.take : ∀ {vs : List V} {ds : List D} (n : Nat), DvA K mg w H vs ds → DvA K mg w H (vs.take n) (ds.take n)
  | _, _, 0, _ => .nil
  | _, _, _ + 1, .nil => .nil
  | _, _, n + 1, .cons a t => .cons a (DvA.take n t)
theorem DvA.drop : ∀ {vs : List V} {ds : List D} (n : Nat), DvA K mg w H vs ds → DvA K mg w H (vs.drop n) (ds.drop n)
  | _, _, 0, h => h
  | _, _, _ + 1, .nil => .nil
  | _, _, n + 1, .cons _ t => DvA.drop n t
theorem DvA.set {v : V} {r : D} (h : Dv K mg w H v r) : ∀ {vs : List V} {ds : List D} (i : Nat), DvA K mg w H vs ds → DvA K mg w H (vs.set i v) (ds.set i r)
  | _, _, _, .nil => .nil
  | _, _, 0, .cons _ t => .cons h t
  | _, _, i + 1, .cons a t => .cons a (DvA.set h i t)
theorem DvA.rev {vs : List V} {ds : List D} (h : DvA K mg w H vs ds) : DvA K mg w H vs.reverse ds.reverse := by
  induction vs generalizing ds with
  | nil => cases h; exact .nil
  | cons v vs ih =>
    cases h with
    | cons h1 h2 =>
      rw [List.reverse_cons, List.reverse_cons]
      exact (ih h2).app (.cons h1 .nil)
theorem DvA.erase : ∀ {vs : List V} {ds : List D} (i : Nat), DvA K mg w H vs ds → DvA K mg w H (vs.eraseIdx i) (ds.eraseIdx i)
  | _, _, _, .nil => .nil
  | _, _, 0, .cons _ t => t
  | _, _, i + 1, .cons a t => .cons a (DvA.erase i t)
theorem DvA.ints : ∀ ns : List Int, DvA K mg w H (ns.map V.int) (ns.map D.int)
  | [] => .nil
  | n :: ns => .cons (.int n) (DvA.ints ns)
end

/-! ### the draws' state -/
def Cells (cs : List Int) : Prop := cs.length = 64 ∧ ∀ c ∈ cs, 0 ≤ c ∧ c < 2147483647
/-- the dict of the draws -/
def mD (x y z : V) : List (Key × V) := [(Sum.inr ("cells" : Str), x), (Sum.inr ("great" : Str), y), (Sum.inr ("spot" : Str), z)]
/-- the draws' state stands, N draws at most so far -/
def Ms0 (w : Dr) (H : Hp) (N : Nat) : Prop := ∃ (cs gs : List Int) (n : Nat), H w.d = some (.dK (mD (.ref w.c) (.ref w.g) (.int n))) ∧ H w.c = some (.lst (cs.map V.int)) ∧ H w.g = some (.lst (gs.map V.int)) ∧ Cells cs ∧ n ≤ N ∧
  w.d ≠ w.g ∧ w.d ≠ w.c ∧ w.g ≠ w.c ∧ gs.length ≤ 63
/-- the tables stand -/
def TabsAt (w : Dr) (H : Hp) : Prop := LamX.Tabs w.T H ∧ ∀ p ∈ w.T, p.1 ≠ w.d ∧ p.1 ≠ w.g ∧ p.1 ≠ w.c
/-- no table is shared -/
def OutT (w : Dr) (Hs : Hp) : Prop := Hs w.g = none ∧ ∀ b ps, Hs b ≠ Option.some (HO.tbl ps)
def Ms (w : Dr) (H : Hp) (N : Nat) : Prop := Ms0 w H N ∧ TabsAt w H
theorem TabsAt.tbl {w : Dr} {H : Hp} (t : TabsAt w H) {p : Addr × Str} (hp : p ∈ w.T) : ∃ ps, H p.1 = some (.tbl ps) := by
  obtain ⟨ps, h, _⟩ := t.1 p hp
  exact ⟨ps, h⟩
theorem TabsAt.up {w : Dr} {H : Hp} {a : Addr} {o : HO} {vs : List V} (t : TabsAt w H) (ha : H a = some (.lst vs)) : TabsAt w (upd H a o) := by
  refine ⟨fun p hp => ?_, t.2⟩
  obtain ⟨ps, h1, h2, h3⟩ := t.1 p hp
  have n1 : p.1 ≠ a := fun z => by rw [z, ha] at h1; cases h1
  refine ⟨ps, (upd_ne n1).trans h1, h2, fun pos cv hc => ?_⟩
  obtain ⟨c, e1, e2⟩ := h3 pos cv hc
  have n2 : c ≠ a := fun z => by rw [z, ha] at e2; unfold LamX.CodeO at e2; cases e2
  exact ⟨c, e1, (upd_ne n2).trans e2⟩
theorem Ms.same {w : Dr} {H H' : Hp} {N : Nat} (m : Ms w H N) (s : Same H H') : Ms w H' N := by
  obtain ⟨⟨cs, gs, n, h1, h2, h3, h4⟩, t⟩ := m
  exact ⟨⟨cs, gs, n, s _ _ h1, s _ _ h2, s _ _ h3, h4⟩, t.1.ext s, t.2⟩
theorem Ms.mono {w : Dr} {H : Hp} {N M : Nat} (m : Ms w H N) (h : N ≤ M) : Ms w H M := by
  obtain ⟨⟨cs, gs, n, h1, h2, h3, h4, h5, h6⟩, t⟩ := m
  exact ⟨⟨cs, gs, n, h1, h2, h3, h4, Nat.le_trans h5 h, h6⟩, t⟩
theorem Ms.some {w : Dr} {H : Hp} {N : Nat} (m : Ms w H N) : H w.d ≠ none ∧ H w.g ≠ none ∧ H w.c ≠ none := by
  obtain ⟨⟨cs, gs, n, h1, h2, h3, _⟩, _⟩ := m
  exact ⟨by rw [h1]; exact fun z => (by cases z), by rw [h3]; exact fun z => (by cases z), by rw [h2]; exact fun z => (by cases z)⟩
theorem Ms.up {w : Dr} {H : Hp} {N : Nat} {a : Addr} {o : HO} {vs : List V} (m : Ms w H N) (h1 : a ≠ w.d) (h2 : a ≠ w.g) (h3 : a ≠ w.c) (ha : H a = Option.some (HO.lst vs)) : Ms w (upd H a o) N := by
  obtain ⟨⟨cs, gs, n, q1, q2, q3, q4⟩, t⟩ := m
  exact ⟨⟨cs, gs, n, (upd_ne h1.symm).trans q1, (upd_ne h3.symm).trans q2, (upd_ne h2.symm).trans q3, q4⟩, t.up ha⟩
/-- from heap H (its shared part Hs) to H' (Hs') -/
structure Go (w : Dr) (H Hs H' Hs' : Hp) : Prop where
  keep : ∀ b o, b ≠ w.d → b ≠ w.g → (∀ ps, o ≠ .tbl ps) → H b = some o → H' b = some o
  there : ∀ b, H b ≠ none → H' b ≠ none
  sh : Same Hs Hs'
  sub : Same Hs' H'
  new : ∀ b, H b ≠ none → Hs b = none → Hs' b = none
  nt : ∀ b ps, Hs' b = some (.tbl ps) → Hs b = some (.tbl ps)
theorem Go.refl {w : Dr} {H Hs : Hp} (s : Same Hs H) : Go w H Hs H Hs := ⟨fun _ _ _ _ _ h => h, fun _ h => h, Same.refl _, s, fun _ _ h => h, fun _ _ h => h⟩
theorem Go.trans {w : Dr} {H Hs H1 Hs1 H2 Hs2 : Hp} (a : Go w H Hs H1 Hs1) (b : Go w H1 Hs1 H2 Hs2) : Go w H Hs H2 Hs2 :=
  ⟨fun c o h1 h2 n h => b.keep c o h1 h2 n (a.keep c o h1 h2 n h), fun c h => b.there c (a.there c h), a.sh.trans b.sh, b.sub, fun c h1 h2 => b.new c (a.there c h1) (a.new c h1 h2), fun c ps h => a.nt c ps (b.nt c ps h)⟩
theorem ne_free {H : Hp} {p b : Addr} (hp : H p = none) (hb : H b ≠ none) : b ≠ p := fun z => hb (z ▸ hp)
theorem none_of_same {H H' : Hp} (s : Same H H') {p : Addr} (h : H' p = none) : H p = none := s.free h
theorem same_up2 {H H' : Hp} (s : Same H H') {p : Addr} {o : HO} (hp : H' p = none) : Same (upd H p o) (upd H' p o) := fun b u h => by
  by_cases e : b = p
  · subst e
    rw [upd_same] at h ⊢
    exact h
  · rw [upd_ne e] at h ⊢
    exact s _ _ h
/-- a new shared object -/
theorem Go.new1 {w : Dr} {H Hs : Hp} {p : Addr} {o : HO} (s : Same Hs H) (hp : H p = none) (ht : ∀ ps, o ≠ .tbl ps := by intro _ z; cases z) : Go w H Hs (upd H p o) (upd Hs p o) :=
  ⟨fun b u _ _ _ h => Rd.get_up h hp, fun b h => by rw [upd_ne (ne_free hp h)]; exact h, fun b u h => Rd.get_up h (s.free hp), same_up2 s hp, fun b h1 h2 => by rw [upd_ne (ne_free hp h1)]; exact h2, fun b ps h => by
    by_cases e : b = p
    · rw [e, upd_same] at h; exact absurd (Option.some.inj h) (ht ps)
    · rwa [upd_ne e] at h⟩
/-- a new object of one's own -/
theorem Go.own1 {w : Dr} {H Hs : Hp} {p : Addr} {o : HO} (s : Same Hs H) (hp : H p = none) : Go w H Hs (upd H p o) Hs :=
  ⟨fun b u _ _ _ h => Rd.get_up h hp, fun b h => by rw [upd_ne (ne_free hp h)]; exact h, Same.refl _, fun b u h => Rd.get_up (s _ _ h) hp, fun b _ h => h, fun _ _ h => h⟩
/-- nothing but new objects -/
theorem Go.ofSame {w : Dr} {H Hs H' : Hp} (s : Same Hs H) (t : Same H H') : Go w H Hs H' Hs :=
  ⟨fun b o _ _ _ h => t _ _ h, fun b h => by
    cases q : H b with
    | none => exact absurd q h
    | some o => rw [t _ _ q]; exact fun z => (by cases z), Same.refl _, s.trans t, fun _ _ h => h, fun _ _ h => h⟩
/-- a list of one's own at a -/
structure Own (w : Dr) (H Hs : Hp) (a : Addr) (vs : List V) : Prop where
  at_ : H a = some (.lst vs)
  out : Hs a = none
  nd : a ≠ w.d
  ng : a ≠ w.g
  nc : a ≠ w.c
theorem Own.go {w : Dr} {H Hs H' Hs' : Hp} {a : Addr} {vs : List V} (o : Own w H Hs a vs) (g : Go w H Hs H' Hs') : Own w H' Hs' a vs :=
  ⟨g.keep _ _ o.nd o.ng (fun _ z => by cases z) o.at_, g.new _ (by rw [o.at_]; exact fun z => (by cases z)) o.out, o.nd, o.ng, o.nc⟩
theorem Own.mk_new {w : Dr} {H Hs : Hp} {N : Nat} {p : Addr} {vs : List V} (m : Ms w H N) (s : Same Hs H) (hp : H p = none) : Own w (upd H p (.lst vs)) Hs p vs :=
  ⟨upd_same, s.free hp, fun z => m.some.1 (z ▸ hp), fun z => m.some.2.1 (z ▸ hp), fun z => m.some.2.2 (z ▸ hp)⟩
theorem OutT.go {w : Dr} {H Hs H' Hs' : Hp} {N : Nat} (h : OutT w Hs) (m : Ms w H N) (g : Go w H Hs H' Hs') : OutT w Hs' :=
  ⟨g.new _ m.some.2.1 h.1, fun b ps e => h.2 b ps (g.nt b ps e)⟩
theorem OutT.up {w : Dr} {Hs : Hp} {a : Addr} {vs : List V} (h : OutT w Hs) (hn : a ≠ w.g) : OutT w (upd Hs a (.lst vs)) :=
  ⟨(upd_ne hn.symm).trans h.1, fun b ps e => by
    by_cases z : b = a
    · rw [z, upd_same] at e; cases e
    · rw [upd_ne z] at e; exact h.2 b ps e⟩
theorem Ms.new {w : Dr} {H : Hp} {N : Nat} {p : Addr} {o : HO} (m : Ms w H N) (hp : H p = none) : Ms w (upd H p o) N := m.same fun b u h => Rd.get_up h hp
/-- all else stands: the tables do -/
theorem Ms.kept {w : Dr} {H H' : Hp} {N : Nat} (m : Ms w H N) (kp : ∀ b o, b ≠ w.d → b ≠ w.g → H b = Option.some o → H' b = Option.some o) : TabsAt w H' := by
  obtain ⟨⟨cs, gs, n, h1, h2, h3, _⟩, t⟩ := m
  refine ⟨fun p hp => ?_, t.2⟩
  obtain ⟨ps, q1, q2, q3⟩ := t.1 p hp
  refine ⟨ps, kp _ _ (t.2 p hp).1 (t.2 p hp).2.1 q1, q2, fun pos cv hc => ?_⟩
  obtain ⟨c, e1, e2⟩ := q3 pos cv hc
  exact ⟨c, e1, kp _ _ (fun z => by rw [z, h1] at e2; unfold LamX.CodeO at e2; cases e2) (fun z => by rw [z, h3] at e2; unfold LamX.CodeO at e2; cases e2) e2⟩
end Pd
/-! ## Pd: a def's names, what they hold; readings over data -/
namespace Pd
open PySem L2
/-- what a name holds: nothing; data; a list of its own, that may be changed; an object of its own -/
inductive Sl where
  | no | sh (r : D) | ow (xs : List D) | ob (c : Str) (fs : List (Str × D))
abbrev PEnv := List Sl
/-- what stays fixed in a def: the draws' places, the heap at its start, the shared part there -/
structure Cn where
  w : Dr
  H0 : Hp
  HB : Hp
  /-- where the object is that is made -/
  x : Addr
def OwnedAt (env : PEnv) (i : Nat) : Prop := (∃ xs, env[i]? = some (Sl.ow xs)) ∨ ∃ c fs, env[i]? = some (Sl.ob c fs)
structure Rep (K : PySem.W.Frag) (mg : Str → Option Value) (C : Cn) (env : PEnv) (σ : St) (H Hs : Hp) (N : Nat) : Prop where
  m : Ms C.w H N
  hd : Hs C.w.d = none
  hg : OutT C.w Hs
  go : Go C.w C.H0 C.HB H Hs
  len : env.length = σ.length
  sh : ∀ (i : Nat) (r : D), env[i]? = some (Sl.sh r) → ∃ v : V, σ[i]? = some (some v) ∧ Dv K mg C.w Hs v r
  ow : ∀ (i : Nat) (xs : List D), env[i]? = some (Sl.ow xs) → ∃ a vs, σ[i]? = some (some (V.ref a)) ∧ Own C.w H Hs a vs ∧ C.H0 a = none ∧ DvA K mg C.w Hs vs xs
  ob : ∀ (i : Nat) (c : Str) (fs : List (Str × D)), env[i]? = some (Sl.ob c fs) → ∃ a C' dx vs, σ[i]? = some (some (V.ref a)) ∧ H a = some (.ins C' dx vs) ∧ Hs a = none ∧ mg c = some (.ref C') ∧ DvF K mg C.w Hs vs fs ∧ a ≠ C.w.d ∧ a ≠ C.w.g ∧ a ≠ C.w.c ∧ a = C.x ∧ C.H0 a = none
  sep : ∀ (i j : Nat) (a : Addr), i ≠ j → OwnedAt env i → OwnedAt env j → σ[i]? = some (some (V.ref a)) → σ[j]? ≠ some (some (V.ref a))
section
variable {K : PySem.W.Frag} {mg : Str → Option Value} {C : Cn} {env : PEnv} {σ : St} {H Hs H' Hs' : Hp} {N N' : Nat}
theorem Rep.s (r : Rep K mg C env σ H Hs N) : Same Hs H := r.go.sub
theorem Rep.move (r : Rep K mg C env σ H Hs N) (g : Go C.w H Hs H' Hs') (m : Ms C.w H' N') : Rep K mg C env σ H' Hs' N' where
  m := m
  hd := g.new _ r.m.some.1 r.hd
  hg := r.hg.go r.m g
  go := r.go.trans g
  len := r.len
  sh := fun i x e => by
    obtain ⟨v, h1, h2⟩ := r.sh i x e
    exact ⟨v, h1, Dv.same g.sh _ _ h2⟩
  ow := fun i xs e => by
    obtain ⟨a, vs, h1, h2, h3, h4⟩ := r.ow i xs e
    exact ⟨a, vs, h1, h2.go g, h3, DvA.same g.sh _ _ h4⟩
  ob := fun i c fs e => by
    obtain ⟨a, C', dx, vs, h1, h2, h3, h4, h5, h6, h7, h8⟩ := r.ob i c fs e
    exact ⟨a, C', dx, vs, h1, g.keep _ _ h6 h7 (fun _ z => by cases z) h2, g.new _ (by rw [h2]; exact fun z => (by cases z)) h3, h4, DvF.same g.sh _ _ h5, h6, h7, h8⟩
  sep := r.sep
/-- a name is set to data -/
theorem Rep.set (r : Rep K mg C env σ H Hs N) (i : Nat) {v : V} {x : D} (hi : i < env.length) (h : Dv K mg C.w Hs v x) : Rep K mg C (env.set i (.sh x)) (σ.set i (some v)) H Hs N where
  m := r.m
  hd := r.hd
  hg := r.hg
  go := r.go
  len := by rw [List.length_set, List.length_set]; exact r.len
  sh := fun j y e => by
    by_cases q : i = j
    · subst q
      rw [List.getElem?_set_self hi] at e
      cases e
      exact ⟨v, by rw [List.getElem?_set_self (by rw [← r.len]; exact hi)], h⟩
    · rw [List.getElem?_set_ne q] at e ⊢
      exact r.sh j y e
  ow := fun j y e => by
    by_cases q : i = j
    · subst q
      rw [List.getElem?_set_self hi] at e
      cases e
    · rw [List.getElem?_set_ne q] at e ⊢
      exact r.ow j y e
  ob := fun j c y e => by
    by_cases q : i = j
    · subst q
      rw [List.getElem?_set_self hi] at e
      cases e
    · rw [List.getElem?_set_ne q] at e ⊢
      exact r.ob j c y e
  sep := fun j k a n h1 h2 e => by
    have nj : i ≠ j := fun q => by
      subst q
      rcases h1 with ⟨_, z⟩ | ⟨_, _, z⟩ <;> (rw [List.getElem?_set_self hi] at z; cases z)
    have nk : i ≠ k := fun q => by
      subst q
      rcases h2 with ⟨_, z⟩ | ⟨_, _, z⟩ <;> (rw [List.getElem?_set_self hi] at z; cases z)
    rw [List.getElem?_set_ne nj] at e
    rw [List.getElem?_set_ne nk]
    refine r.sep j k a n ?_ ?_ e
    · rcases h1 with ⟨_, z⟩ | ⟨_, _, z⟩ <;> rw [List.getElem?_set_ne nj] at z
      · exact .inl ⟨_, z⟩
      · exact .inr ⟨_, _, z⟩
    · rcases h2 with ⟨_, z⟩ | ⟨_, _, z⟩ <;> rw [List.getElem?_set_ne nk] at z
      · exact .inl ⟨_, z⟩
      · exact .inr ⟨_, _, z⟩
theorem Rep.owned (r : Rep K mg C env σ H Hs N) {i : Nat} (h : OwnedAt env i) : ∃ a, σ[i]? = some (some (V.ref a)) ∧ Hs a = none ∧ H a ≠ none := by
  rcases h with ⟨_, z⟩ | ⟨_, _, z⟩
  · obtain ⟨a, vs, h1, h2, _⟩ := r.ow _ _ z
    exact ⟨a, h1, h2.out, by rw [h2.at_]; exact fun z => (by cases z)⟩
  · obtain ⟨a, C', dx, vs, h1, h2, h3, _⟩ := r.ob _ _ _ z
    exact ⟨a, h1, h3, by rw [h2]; exact fun z => (by cases z)⟩
/-- a name is set to a new list of its own -/
theorem Rep.setO (r : Rep K mg C env σ H Hs N) (i : Nat) {a : Addr} {vs : List V} {xs : List D} (hi : i < env.length) (o : Own C.w H Hs a vs) (h0 : C.H0 a = none) (h : DvA K mg C.w Hs vs xs)
    (fr : ∀ j, OwnedAt env j → j ≠ i → σ[j]? ≠ some (some (V.ref a))) : Rep K mg C (env.set i (.ow xs)) (σ.set i (some (.ref a))) H Hs N where
  m := r.m
  hd := r.hd
  hg := r.hg
  go := r.go
  len := by rw [List.length_set, List.length_set]; exact r.len
  sh := fun j y e => by
    by_cases q : i = j
    · subst q
      rw [List.getElem?_set_self hi] at e
      cases e
    · rw [List.getElem?_set_ne q] at e ⊢
      exact r.sh j y e
  ow := fun j y e => by
    by_cases q : i = j
    · subst q
      rw [List.getElem?_set_self hi] at e
      cases e
      exact ⟨a, vs, by rw [List.getElem?_set_self (by rw [← r.len]; exact hi)], o, h0, h⟩
    · rw [List.getElem?_set_ne q] at e ⊢
      exact r.ow j y e
  ob := fun j c y e => by
    by_cases q : i = j
    · subst q
      rw [List.getElem?_set_self hi] at e
      cases e
    · rw [List.getElem?_set_ne q] at e ⊢
      exact r.ob j c y e
  sep := fun j k b n h1 h2 e => by
    have old : ∀ {l}, i ≠ l → OwnedAt (env.set i (.ow xs)) l → OwnedAt env l := fun {l} nl h => by
      rcases h with ⟨_, z⟩ | ⟨_, _, z⟩ <;> rw [List.getElem?_set_ne nl] at z
      · exact .inl ⟨_, z⟩
      · exact .inr ⟨_, _, z⟩
    by_cases qj : i = j
    · subst qj
      rw [List.getElem?_set_self (by rw [← r.len]; exact hi)] at e
      cases e
      rw [List.getElem?_set_ne n]
      exact fr k (old n h2) (fun z => n z.symm)
    · rw [List.getElem?_set_ne qj] at e
      by_cases qk : i = k
      · subst qk
        rw [List.getElem?_set_self (by rw [← r.len]; exact hi)]
        intro z
        cases z
        exact fr j (old qj h1) (fun z => qj z.symm) e
      · rw [List.getElem?_set_ne qk]
        exact r.sep j k b n (old qj h1) (old qk h2) e
/-- a new list of one's own is none of the others -/
theorem Rep.fresh (r : Rep K mg C env σ H Hs N) {a : Addr} (ha : H a = none) : ∀ j, OwnedAt env j → σ[j]? ≠ some (some (V.ref a)) := fun j h e => by
  obtain ⟨b, h1, h2, h3⟩ := r.owned h
  rw [h1] at e
  cases e
  exact h3 ha
/-- an own list is changed -/
theorem Rep.chg (r : Rep K mg C env σ H Hs N) {i : Nat} {a : Addr} {vs' : List V} {xs xs' : List D} (hi : env[i]? = some (Sl.ow xs)) (hσ : σ[i]? = some (some (V.ref a))) (h : DvA K mg C.w Hs vs' xs') :
    Rep K mg C (env.set i (.ow xs')) σ (upd H a (.lst vs')) Hs N := by
  obtain ⟨b, vs, h1, o, h0, h4⟩ := r.ow i xs hi
  rw [hσ] at h1
  cases h1
  have hl : i < env.length := (List.getElem?_eq_some_iff.mp hi).1
  have ne : ∀ {b : Addr} {u : HO}, Hs b = some u → b ≠ a := fun {b u} e z => by subst z; rw [o.out] at e; cases e
  have go' : Go C.w C.H0 C.HB (upd H a (.lst vs')) Hs :=
    ⟨fun b u h1 h2 hn e => by
      have nb : b ≠ a := fun z => by subst z; rw [h0] at e; cases e
      exact (upd_ne nb).trans (r.go.keep b u h1 h2 hn e),
    fun b e => by
      have nb : b ≠ a := fun z => by subst z; exact e h0
      rw [upd_ne nb]
      exact r.go.there b e, r.go.sh, fun b u e => (upd_ne (ne e)).trans (r.s _ _ e), r.go.new, r.go.nt⟩
  have m' : Ms C.w (upd H a (.lst vs')) N := r.m.up o.nd o.ng o.nc o.at_
  have i_a : ∀ j, j ≠ i → OwnedAt env j → σ[j]? ≠ some (some (V.ref a)) := fun j n oj => r.sep i j a (fun z => n z.symm) (.inl ⟨xs, hi⟩) oj hσ
  have old : ∀ {l}, OwnedAt (env.set i (.ow xs')) l → OwnedAt env l := fun {l} h => by
    by_cases q : i = l
    · subst q; exact .inl ⟨xs, hi⟩
    · rcases h with ⟨_, z⟩ | ⟨_, _, z⟩ <;> rw [List.getElem?_set_ne q] at z
      · exact .inl ⟨_, z⟩
      · exact .inr ⟨_, _, z⟩
  refine ⟨m', r.hd, r.hg, go', by rw [List.length_set]; exact r.len, fun j y e => ?_, fun j y e => ?_, fun j c y e => ?_, fun j k b n h1 h2 e => r.sep j k b n (old h1) (old h2) e⟩
  · by_cases q : i = j
    · subst q
      rw [List.getElem?_set_self hl] at e
      cases e
    · rw [List.getElem?_set_ne q] at e
      exact r.sh j y e
  · by_cases q : i = j
    · subst q
      rw [List.getElem?_set_self hl] at e
      cases e
      exact ⟨a, vs', hσ, ⟨upd_same, o.out, o.nd, o.ng, o.nc⟩, h0, h⟩
    · rw [List.getElem?_set_ne q] at e
      obtain ⟨b, ws, h1, h2, h3, h4⟩ := r.ow j y e
      have nb : b ≠ a := fun z => by subst z; exact i_a j (fun z => q z.symm) (.inl ⟨y, e⟩) h1
      exact ⟨b, ws, h1, ⟨(upd_ne nb).trans h2.at_, h2.out, h2.nd, h2.ng, h2.nc⟩, h3, h4⟩
  · by_cases q : i = j
    · subst q
      rw [List.getElem?_set_self hl] at e
      cases e
    · rw [List.getElem?_set_ne q] at e
      obtain ⟨b, C', dx, ws, h1, h2, h3⟩ := r.ob j c y e
      have nb : b ≠ a := fun z => by subst z; exact i_a j (fun z => q z.symm) (.inr ⟨c, y, e⟩) h1
      exact ⟨b, C', dx, ws, h1, (upd_ne nb).trans h2, h3⟩
theorem own_freeze {w : Dr} {H Hs H' Hs' : Hp} {p : Addr} {vs : List V} (g : Go w H Hs H' Hs') (o : Own w H' Hs' p vs) (hp : H p = none) : Go w H Hs H' (upd Hs' p (.lst vs)) :=
  ⟨g.keep, g.there, fun b u e => Rd.get_up (g.sh _ _ e) o.out, fun b u e => by
    by_cases q : b = p
    · subst q
      rw [upd_same] at e
      cases e
      exact o.at_
    · rw [upd_ne q] at e
      exact g.sub _ _ e, fun b h1 h2 => by rw [upd_ne (ne_free hp h1)]; exact g.new b h1 h2, fun b ps h => by
    by_cases e : b = p
    · rw [e, upd_same] at h; cases h
    · rw [upd_ne e] at h; exact g.nt b ps h⟩
theorem dv_freeze {w : Dr} {Hs' : Hp} {p : Addr} {vs : List V} {xs : List D} (hp : Hs' p = none) (h : DvA K mg w Hs' vs xs) : Dv K mg w (upd Hs' p (.lst vs)) (.ref p) (.lst xs) :=
  .lst upd_same (DvA.same (fun b u e => Rd.get_up e hp) _ _ h)
/-- an own list becomes shared data -/
theorem Rep.frz (r : Rep K mg C env σ H Hs N) {i : Nat} {xs : List D} (hi : env[i]? = some (Sl.ow xs)) : ∃ Hs', Same Hs Hs' ∧ Rep K mg C (env.set i (.sh (.lst xs))) σ H Hs' N := by
  obtain ⟨a, vs, h1, o, h0, h4⟩ := r.ow i xs hi
  have hl : i < env.length := (List.getElem?_eq_some_iff.mp hi).1
  have g := own_freeze r.go o h0
  have s1 : Same Hs (upd Hs a (.lst vs)) := fun b u e => Rd.get_up e o.out
  have old : ∀ {l}, OwnedAt (env.set i (.sh (.lst xs))) l → i ≠ l ∧ OwnedAt env l := fun {l} h => by
    have q : i ≠ l := fun q => by
      subst q
      rcases h with ⟨_, z⟩ | ⟨_, _, z⟩ <;> (rw [List.getElem?_set_self hl] at z; cases z)
    refine ⟨q, ?_⟩
    rcases h with ⟨_, z⟩ | ⟨_, _, z⟩ <;> rw [List.getElem?_set_ne q] at z
    · exact .inl ⟨_, z⟩
    · exact .inr ⟨_, _, z⟩
  refine ⟨_, s1, ⟨r.m, by rw [upd_ne o.nd.symm]; exact r.hd, r.hg.up o.ng, g, by rw [List.length_set]; exact r.len, fun j y e => ?_, fun j y e => ?_, fun j c y e => ?_, fun j k b n h1 h2 e => r.sep j k b n (old h1).2 (old h2).2 e⟩⟩
  · by_cases q : i = j
    · subst q
      rw [List.getElem?_set_self hl] at e
      cases e
      exact ⟨_, h1, dv_freeze o.out h4⟩
    · rw [List.getElem?_set_ne q] at e
      obtain ⟨v, q1, q2⟩ := r.sh j y e
      exact ⟨v, q1, Dv.same s1 _ _ q2⟩
  · have q := (old (.inl ⟨_, e⟩)).1
    rw [List.getElem?_set_ne q] at e
    obtain ⟨b, ws, q1, q2, q3, q4⟩ := r.ow j y e
    have nb : b ≠ a := fun z => by subst z; exact r.sep i j b q (.inl ⟨xs, hi⟩) (.inl ⟨y, e⟩) h1 q1
    exact ⟨b, ws, q1, ⟨q2.at_, (upd_ne nb).trans q2.out, q2.nd, q2.ng, q2.nc⟩, q3, DvA.same s1 _ _ q4⟩
  · have q := (old (.inr ⟨_, _, e⟩)).1
    rw [List.getElem?_set_ne q] at e
    obtain ⟨b, C', dx, ws, q1, q2, q3, q4, q5, q6⟩ := r.ob j c y e
    have nb : b ≠ a := fun z => by subst z; exact r.sep i j b q (.inl ⟨xs, hi⟩) (.inr ⟨c, y, e⟩) h1 q1
    exact ⟨b, C', dx, ws, q1, q2, (upd_ne nb).trans q3, q4, DvF.same s1 _ _ q5, q6⟩
/-- names are forgotten -/
def wipeE (env : PEnv) : List Nat → PEnv
  | [] => env
  | v :: vs => (wipeE env vs).set v .no
theorem Rep.clr (r : Rep K mg C env σ H Hs N) (i : Nat) : Rep K mg C (env.set i .no) (σ.set i none) H Hs N := by
  have old : ∀ {l s}, (env.set i .no)[l]? = some s → s ≠ .no → i ≠ l ∧ env[l]? = some s := fun {l s} e n => by
    by_cases q : i = l
    · subst q
      by_cases hl : i < env.length
      · rw [List.getElem?_set_self hl] at e
        cases e
        exact absurd rfl n
      · rw [List.getElem?_eq_none (by rw [List.length_set]; omega)] at e
        cases e
    · exact ⟨q, by rw [List.getElem?_set_ne q] at e; exact e⟩
  refine ⟨r.m, r.hd, r.hg, r.go, by rw [List.length_set, List.length_set]; exact r.len, fun j y e => ?_, fun j y e => ?_, fun j c y e => ?_, fun j k a n h1 h2 e => ?_⟩
  · obtain ⟨q, e⟩ := old e (fun z => by cases z)
    rw [List.getElem?_set_ne q]
    exact r.sh j y e
  · obtain ⟨q, e⟩ := old e (fun z => by cases z)
    rw [List.getElem?_set_ne q]
    exact r.ow j y e
  · obtain ⟨q, e⟩ := old e (fun z => by cases z)
    rw [List.getElem?_set_ne q]
    exact r.ob j c y e
  · have o1 : i ≠ j ∧ OwnedAt env j := by
      rcases h1 with ⟨x, z⟩ | ⟨x, y, z⟩
      · obtain ⟨q, z⟩ := old z (fun z => by cases z)
        exact ⟨q, .inl ⟨_, z⟩⟩
      · obtain ⟨q, z⟩ := old z (fun z => by cases z)
        exact ⟨q, .inr ⟨_, _, z⟩⟩
    have o2 : i ≠ k ∧ OwnedAt env k := by
      rcases h2 with ⟨x, z⟩ | ⟨x, y, z⟩
      · obtain ⟨q, z⟩ := old z (fun z => by cases z)
        exact ⟨q, .inl ⟨_, z⟩⟩
      · obtain ⟨q, z⟩ := old z (fun z => by cases z)
        exact ⟨q, .inr ⟨_, _, z⟩⟩
    rw [List.getElem?_set_ne o1.1] at e
    rw [List.getElem?_set_ne o2.1]
    exact r.sep j k a n o1.2 o2.2 e
theorem Rep.wipe (r : Rep K mg C env σ H Hs N) : ∀ vs : List Nat, Rep K mg C (wipeE env vs) (L2.wipe σ vs) H Hs N
  | [] => r
  | v :: vs => (Rep.wipe r vs).clr v
/-- at a def's start -/
theorem Rep.start {w : Dr} {H Hs : Hp} {N : Nat} {x : Addr} {vs : List V} {ds : List D} {Ns : List Str} (s : Same Hs H) (m : Ms w H N) (hd : Hs w.d = none) (hg : OutT w Hs) (h : DvA K mg w Hs vs ds) :
    Rep K mg ⟨w, H, Hs, x⟩ (ds.map Sl.sh ++ List.replicate (Ns.length - ds.length) .no) (L2.start Ns vs) H Hs N := by
  have hl := h.len
  have key : ∀ (i : Nat) (s : Sl), (ds.map Sl.sh ++ List.replicate (Ns.length - ds.length) Sl.no)[i]? = some s → s = Sl.no ∨ ∃ r, s = Sl.sh r ∧ ds[i]? = some r := fun i s e => by
    by_cases q : i < ds.length
    · rw [List.getElem?_append_left (by rw [List.length_map]; exact q), List.getElem?_map] at e
      cases z : ds[i]? with
      | none => rw [z] at e; cases e
      | some r => rw [z] at e; cases e; exact .inr ⟨r, rfl, rfl⟩
    · rw [List.getElem?_append_right (by rw [List.length_map]; omega), List.getElem?_replicate] at e
      split at e
      · cases e; exact .inl rfl
      · cases e
  refine ⟨m, hd, hg, Go.refl s, ?_, fun i r e => ?_, fun i xs e => ?_, fun i c fs e => ?_, fun i j a n h1 _ _ => ?_⟩
  · unfold L2.start
    rw [List.length_append, List.length_append, List.length_map, List.length_map, List.length_replicate, List.length_replicate, hl]
  · rcases key i _ e with z | ⟨r', z, e'⟩
    · cases z
    · cases z
      obtain ⟨v, h1, h2⟩ := h.get e'
      refine ⟨v, ?_, h2⟩
      unfold L2.start
      rw [List.getElem?_append_left (by rw [List.length_map]; exact (List.getElem?_eq_some_iff.mp h1).1), List.getElem?_map, h1]
      rfl
  · rcases key i _ e with z | ⟨r', z, e'⟩ <;> cases z
  · rcases key i _ e with z | ⟨r', z, e'⟩ <;> cases z
  · rcases h1 with ⟨_, z⟩ | ⟨_, _, z⟩ <;> (rcases key i _ z with z | ⟨r', z, e'⟩ <;> cases z)
end

/-! ### readings -/
abbrev ED := PEnv → Nat → (D → Nat → Prop) → Prop
abbrev AD := PEnv → Nat → (List D → Nat → Prop) → Prop
abbrev TD := PEnv → Nat → (Bool → Nat → Prop) → Prop
/-- data that is shared, or a list of the def's own -/
def Bv (K : PySem.W.Frag) (mg : Str → Option Value) (w : Dr) (H Hs : Hp) (v : V) (r : D) : Prop := Dv K mg w Hs v r ∨ ∃ a vs xs, v = .ref a ∧ r = .lst xs ∧ Own w H Hs a vs ∧ DvA K mg w Hs vs xs
inductive BvA (K : PySem.W.Frag) (mg : Str → Option Value) (w : Dr) (H Hs : Hp) : List V → List D → Prop
  | nil : BvA K mg w H Hs [] []
  | cons {v : V} {vs : List V} {r : D} {rs : List D} : Bv K mg w H Hs v r → BvA K mg w H Hs vs rs → BvA K mg w H Hs (v :: vs) (r :: rs)
section
variable {K : PySem.W.Frag} {mg : Str → Option Value} {w : Dr} {H Hs H' Hs' : Hp}
theorem Bv.go {v : V} {r : D} (h : Bv K mg w H Hs v r) (g : Go w H Hs H' Hs') : Bv K mg w H' Hs' v r := by
  rcases h with h | ⟨a, vs, xs, e1, e2, o, h⟩
  · exact .inl (Dv.same g.sh _ _ h)
  · exact .inr ⟨a, vs, xs, e1, e2, o.go g, DvA.same g.sh _ _ h⟩
theorem BvA.go {vs : List V} {rs : List D} (h : BvA K mg w H Hs vs rs) (g : Go w H Hs H' Hs') : BvA K mg w H' Hs' vs rs := by
  induction h with
  | nil => exact .nil
  | cons h _ ih => exact .cons (h.go g) ih
theorem DvA.bv {vs : List V} {rs : List D} (h : DvA K mg w Hs vs rs) : BvA K mg w H Hs vs rs := by
  induction vs generalizing rs with
  | nil => cases h; exact .nil
  | cons v vs ih =>
    cases h with
    | cons h1 h2 => exact .cons (.inl h1) (ih h2)
theorem Bv.list {v : V} {rs : List D} (s : Same Hs H) (h : Bv K mg w H Hs v (.lst rs)) : ∃ a vs, v = .ref a ∧ H a = some (.lst vs) ∧ DvA K mg w Hs vs rs := by
  rcases h with h | ⟨a, vs, xs, e1, e2, o, h⟩
  · cases h with
    | lst h1 h2 => exact ⟨_, _, rfl, s _ _ h1, h2⟩
  · cases e2
    exact ⟨a, vs, e1, o.at_, h⟩
theorem Bv.tup {v : V} {rs : List D} (s : Same Hs H) (h : Bv K mg w H Hs v (.tup rs)) : ∃ a vs, v = .ref a ∧ H a = some (.tup vs) ∧ Hs a = some (.tup vs) ∧ DvA K mg w Hs vs rs := by
  rcases h with h | ⟨a, vs, xs, e1, e2, o, h⟩
  · cases h with
    | tup h1 h2 => exact ⟨_, _, rfl, s _ _ h1, h1, h2⟩
  · cases e2
theorem Bv.dv {v : V} {r : D} (n : ∀ xs, r ≠ .lst xs) (h : Bv K mg w H Hs v r) : Dv K mg w Hs v r := by
  rcases h with h | ⟨a, vs, xs, e1, e2, o, h⟩
  · exact h
  · exact absurd e2 (n _)
theorem Bv.int {v : V} {i : Int} (h : Bv K mg w H Hs v (.int i)) : v = .int i := by
  cases h.dv (fun _ z => by cases z)
  rfl
theorem Bv.bl {v : V} {i : Bool} (h : Bv K mg w H Hs v (.bl i)) : v = .bl i := by
  cases h.dv (fun _ z => by cases z)
  rfl
theorem Bv.str {v : V} {i : Str} (h : Bv K mg w H Hs v (.str i)) : v = .str i := by
  cases h.dv (fun _ z => by cases z)
  rfl
theorem Bv.non {v : V} (h : Bv K mg w H Hs v .non) : v = .non := by
  cases h.dv (fun _ z => by cases z)
  rfl
theorem BvA.one {vs : List V} {r : D} (h : BvA K mg w H Hs vs [r]) : ∃ v, vs = [v] ∧ Bv K mg w H Hs v r := by
  cases h with
  | cons a t => cases t; exact ⟨_, rfl, a⟩
theorem BvA.two {vs : List V} {r q : D} (h : BvA K mg w H Hs vs [r, q]) : ∃ v u, vs = [v, u] ∧ Bv K mg w H Hs v r ∧ Bv K mg w H Hs u q := by
  cases h with
  | cons a t =>
    obtain ⟨u, rfl, b⟩ := t.one
    exact ⟨_, _, rfl, a, b⟩
end
def TEd (K : PySem.W.Frag) (mg : Str → Option Value) (C : Cn) (f : ED) : TE := fun σ H Q => ∃ env Hs N R, Rep K mg C env σ H Hs N ∧ f env N R ∧ ∀ r N', R r N' → ∀ v H' Hs', Go C.w H Hs H' Hs' → Ms C.w H' N' → Dv K mg C.w Hs' v r → Q v H'
def TEb (K : PySem.W.Frag) (mg : Str → Option Value) (C : Cn) (f : ED) : TE := fun σ H Q => ∃ env Hs N R, Rep K mg C env σ H Hs N ∧ f env N R ∧ ∀ r N', R r N' → ∀ v H' Hs', Go C.w H Hs H' Hs' → Ms C.w H' N' → Bv K mg C.w H' Hs' v r → Q v H'
def TEf (K : PySem.W.Frag) (mg : Str → Option Value) (C : Cn) (f : AD) : TE := fun σ H Q => ∃ env Hs N R, Rep K mg C env σ H Hs N ∧ f env N R ∧ ∀ xs N', R xs N' → ∀ p vs H' Hs', Go C.w H Hs H' Hs' → Ms C.w H' N' → Own C.w H' Hs' p vs → H p = none → DvA K mg C.w Hs' vs xs → Q (.ref p) H'
def TAd (K : PySem.W.Frag) (mg : Str → Option Value) (C : Cn) (f : AD) : TA := fun σ H Q => ∃ env Hs N R, Rep K mg C env σ H Hs N ∧ f env N R ∧ ∀ rs N', R rs N' → ∀ vs H' Hs', Go C.w H Hs H' Hs' → Ms C.w H' N' → DvA K mg C.w Hs' vs rs → Q vs H'
def TAb (K : PySem.W.Frag) (mg : Str → Option Value) (C : Cn) (f : AD) : TA := fun σ H Q => ∃ env Hs N R, Rep K mg C env σ H Hs N ∧ f env N R ∧ ∀ rs N', R rs N' → ∀ vs H' Hs', Go C.w H Hs H' Hs' → Ms C.w H' N' → BvA K mg C.w H' Hs' vs rs → Q vs H'
def TTd (K : PySem.W.Frag) (mg : Str → Option Value) (C : Cn) (f : TD) : TT := fun σ H Q => ∃ env Hs N R, Rep K mg C env σ H Hs N ∧ f env N R ∧ ∀ b N', R b N' → ∀ H' Hs', Go C.w H Hs H' Hs' → Ms C.w H' N' → Q b H'
structure PEd (X : Cx) (C : Cn) (e : Expr) (f : ED) : Prop where
  pe : PE X e (TEd X.K X.mg C f)
structure PEb (X : Cx) (C : Cn) (e : Expr) (f : ED) : Prop where
  pe : PE X e (TEb X.K X.mg C f)
structure PEf (X : Cx) (C : Cn) (e : Expr) (f : AD) : Prop where
  pe : PE X e (TEf X.K X.mg C f)
structure PAd (X : Cx) (C : Cn) (es : List Expr) (f : AD) : Prop where
  pa : PA X es (TAd X.K X.mg C f)
structure PAb (X : Cx) (C : Cn) (es : List Expr) (f : AD) : Prop where
  pa : PA X es (TAb X.K X.mg C f)
structure PTd (X : Cx) (C : Cn) (e : Expr) (f : TD) : Prop where
  pt : PT X e (TTd X.K X.mg C f)
structure PWd (X : Cx) (C : Cn) (e : Expr) (f : TD) : Prop where
  pw : PW X e (TTd X.K X.mg C f)
theorem PE.imp {X : Cx} {e : Expr} {t t' : TE} (h : PE X e t) (i : ∀ σ H Q, t' σ H Q → t σ H Q) : PE X e t' := ⟨fun pins s σ H Q I q => h.run pins s σ H Q I (i σ H Q q)⟩
theorem PT.imp {X : Cx} {e : Expr} {t t' : TT} (h : PT X e t) (i : ∀ σ H Q, t' σ H Q → t σ H Q) : PT X e t' := ⟨fun pins s σ H Q I q => h.run pins s σ H Q I (i σ H Q q)⟩
theorem PW.imp {X : Cx} {e : Expr} {t t' : TT} (h : PW X e t) (i : ∀ σ H Q, t' σ H Q → t σ H Q) : PW X e t' := ⟨fun wh pins s σ H Q I q => h.run wh pins s σ H Q I (i σ H Q q)⟩
theorem PA.imp {X : Cx} {e : List Expr} {t t' : TA} (h : PA X e t) (i : ∀ σ H Q, t' σ H Q → t σ H Q) : PA X e t' := ⟨fun pos pins s σ H Q I q => h.run pos pins s σ H Q I (i σ H Q q)⟩
theorem PS.imp {X : Cx} {e : Stmt} {t t' : TS} (h : PS X e t) (i : ∀ D σ H, t' D σ H → t D σ H) : PS X e t' := ⟨fun pins s σ H Q I q => h.run pins s σ H Q I (i Q σ H q)⟩
theorem PSs.imp {X : Cx} {e : List Stmt} {t t' : TS} (h : PSs X e t) (i : ∀ D σ H, t' D σ H → t D σ H) : PSs X e t' := ⟨fun pins s σ H Q I q => h.run pins s σ H Q I (i Q σ H q)⟩
section
variable {X : Cx} {C : Cn} {e a b : Expr} {es : List Expr} {pos : Pos} {f fa fb : ED}
theorem PEd.pb (h : PEd X C e f) : PEb X C e f := ⟨PE.imp h.pe fun σ H Q ⟨env, Hs, N, R, r, hf, k⟩ => ⟨env, Hs, N, R, r, hf, fun x N' hr v H' Hs' g m d => k x N' hr v H' Hs' g m (.inl d)⟩⟩
/-- a new list, kept as data -/
def eFrz (f : AD) : ED := fun env N Q => f env N fun xs N' => Q (.lst xs) N'
theorem PEf.pd {f : AD} (h : PEf X C e f) : PEd X C e (eFrz f) := ⟨PE.imp h.pe fun σ H Q ⟨env, Hs, N, R, r, hf, k⟩ =>
  ⟨env, Hs, N, fun xs N' => R (.lst xs) N', r, hf, fun xs N' hr p vs H' Hs' g m o hp d => k _ N' hr _ H' _ (own_freeze g o hp) m (dv_freeze o.out d)⟩⟩
theorem PEf.pb {f : AD} (h : PEf X C e f) : PEb X C e (eFrz f) := h.pd.pb
/-! names, constants -/
def eVar (i : Nat) : ED := fun env N Q => match env[i]? with | some (Sl.sh r) => Q r N | _ => False
def eVarB (i : Nat) : ED := fun env N Q => match env[i]? with | some (Sl.sh r) => Q r N | some (Sl.ow xs) => Q (.lst xs) N | _ => False
def eC (r : D) : ED := fun _ N Q => Q r N
theorem pd_var (i : Nat) {x : Str} {pos : Pos} (hN : X.N[i]? = some x := by rfl) (hv : Vis X.env.scope x := by first | exact Or.inl rfl | exact Or.inr (Or.inl rfl) | exact Or.inr (Or.inr rfl)) (hd : (x == ("__debug__" : Str)) = false := by decide)
    (hcd : (x == ("__classdict__" : Str)) = false := by decide) : PEd X C (.Name x pos) (eVar i) := ⟨PE.imp (pe_var hN hv hd hcd) fun σ H Q ⟨env, Hs, N, R, r, hf, k⟩ => by
  unfold eVar at hf
  split at hf
  · rename_i x hx
    obtain ⟨v, h1, h2⟩ := r.sh _ _ hx
    exact ⟨v, h1, k _ _ hf v H Hs (Go.refl r.s) r.m h2⟩
  · exact hf.elim⟩
theorem pd_varB (i : Nat) {x : Str} {pos : Pos} (hN : X.N[i]? = some x := by rfl) (hv : Vis X.env.scope x := by first | exact Or.inl rfl | exact Or.inr (Or.inl rfl) | exact Or.inr (Or.inr rfl)) (hd : (x == ("__debug__" : Str)) = false := by decide)
    (hcd : (x == ("__classdict__" : Str)) = false := by decide) : PEb X C (.Name x pos) (eVarB i) := ⟨PE.imp (pe_var hN hv hd hcd) fun σ H Q ⟨env, Hs, N, R, r, hf, k⟩ => by
  unfold eVarB at hf
  split at hf
  · rename_i x hx
    obtain ⟨v, h1, h2⟩ := r.sh _ _ hx
    exact ⟨v, h1, k _ _ hf v H Hs (Go.refl r.s) r.m (.inl h2)⟩
  · rename_i x hx
    obtain ⟨a, vs, h1, h2, h3, h4⟩ := r.ow _ _ hx
    exact ⟨_, h1, k _ _ hf _ H Hs (Go.refl r.s) r.m (.inr ⟨a, vs, x, rfl, rfl, h2, h4⟩)⟩
  · exact hf.elim⟩
theorem pd_cst {v : V} {x : D} (h : PE X e (tC v)) (hd : ∀ H, Dv X.K X.mg C.w H v x) : PEd X C e (eC x) := ⟨PE.imp h fun σ H Q ⟨env, Hs, N, R, r, hf, k⟩ => k _ _ hf v H Hs (Go.refl r.s) r.m (hd _)⟩
theorem pd_int {i : Int} {j : Nat} : PEd X C (.Constant (.int i) j pos) (eC (.int i)) := pd_cst pe_int fun _ => .int _
theorem pd_bl {i : Bool} {j : Nat} : PEd X C (.Constant (.bool i) j pos) (eC (.bl i)) := pd_cst pe_bl fun _ => .bl _
theorem pd_non {j : Nat} : PEd X C (.Constant .none j pos) (eC .non) := pd_cst pe_non fun _ => .non
theorem pd_str {x : Str} {j : Nat} : PEd X C (.Constant (.str x) j pos) (eC (.str x)) := pd_cst pe_str fun _ => .str _
theorem pd_globI {x : Str} {i : Int} {t : Tok} (hm : X.mg x = some (.int i t)) (hg : Gl X x := by rfl) (hd : (x == ("__debug__" : Str)) = false := by decide) : PEd X C (.Name x pos) (eC (.int i)) := pd_cst (pe_glob (v := .int i) hg hm ⟨_, rfl⟩ hd) fun _ => .int _
theorem pd_globS {x i : Str} {t : Tok} (hm : X.mg x = some (.str i t)) (hg : Gl X x := by rfl) (hd : (x == ("__debug__" : Str)) = false := by decide) : PEd X C (.Name x pos) (eC (.str i)) := pd_cst (pe_glob (v := .str i) hg hm ⟨_, rfl⟩ hd) fun _ => .str _
/-! arguments -/
def aNil : AD := fun _ N Q => Q [] N
def aCons (f : ED) (g : AD) : AD := fun env N Q => f env N fun r N1 => g env N1 fun rs N2 => Q (r :: rs) N2
theorem pad_nil : PAd X C [] aNil := ⟨PA.imp pa_nil fun σ H Q ⟨env, Hs, N, R, r, hf, k⟩ => k _ _ hf [] H Hs (Go.refl r.s) r.m .nil⟩
theorem pad_cons {f : ED} {g : AD} (h : PEd X C e f) (t : PAd X C es g) (hs : starEach (e :: es) X.env = (false, eval e X.env) :: starEach es X.env := by rfl) : PAd X C (e :: es) (aCons f g) := ⟨PA.imp (pa_cons h.pe t.pa hs) fun σ H Q ⟨env, Hs, N, R, r, hf, k⟩ =>
  ⟨env, Hs, N, _, r, hf, fun x N1 h1 v H1 Hs1 g1 m1 d1 => ⟨env, Hs1, N1, _, r.move g1 m1, h1, fun xs N2 h2 vs H2 Hs2 g2 m2 d2 => k _ _ h2 _ H2 Hs2 (g1.trans g2) m2 (.cons (Dv.same g2.sh _ _ d1) d2)⟩⟩⟩
theorem pab_nil : PAb X C [] aNil := ⟨PA.imp pa_nil fun σ H Q ⟨env, Hs, N, R, r, hf, k⟩ => k _ _ hf [] H Hs (Go.refl r.s) r.m .nil⟩
theorem pab_cons {f : ED} {g : AD} (h : PEb X C e f) (t : PAb X C es g) (hs : starEach (e :: es) X.env = (false, eval e X.env) :: starEach es X.env := by rfl) : PAb X C (e :: es) (aCons f g) := ⟨PA.imp (pa_cons h.pe t.pa hs) fun σ H Q ⟨env, Hs, N, R, r, hf, k⟩ =>
  ⟨env, Hs, N, _, r, hf, fun x N1 h1 v H1 Hs1 g1 m1 d1 => ⟨env, Hs1, N1, _, r.move g1 m1, h1, fun xs N2 h2 vs H2 Hs2 g2 m2 d2 => k _ _ h2 _ H2 Hs2 (g1.trans g2) m2 (.cons (d1.go g2) d2)⟩⟩⟩
/-! operators, calls of built-ins: what they make of data -/
abbrev O2 := D → D → (D → Prop) → Prop
abbrev O1 := D → (D → Prop) → Prop
abbrev OL := List D → (D → Prop) → Prop
abbrev OF := List D → (List D → Prop) → Prop
def Out (K : PySem.W.Frag) (mg : Str → Option Value) (w : Dr) (H Hs : Hp) (P : D → Prop) (Q : VK) : Prop := ∀ r, P r → ∀ v H' Hs', Go w H Hs H' Hs' → (∀ N, Ms w H N → Ms w H' N) → Dv K mg w Hs' v r → Q v H'
def OutF (K : PySem.W.Frag) (mg : Str → Option Value) (w : Dr) (H Hs : Hp) (P : List D → Prop) (Q : VK) : Prop := ∀ xs, P xs → ∀ p vs H' Hs', Go w H Hs H' Hs' → (∀ N, Ms w H N → Ms w H' N) → Own w H' Hs' p vs → H p = none → DvA K mg w Hs' vs xs → Q (.ref p) H'
def OpD (X : Cx) (w : Dr) (f : Value → Value → Sem Value) (o : O2) : Prop := OpR X f fun x y H Q => ∃ Hs N rx ry P, Same Hs H ∧ Ms w H N ∧ Bv X.K X.mg w H Hs x rx ∧ Bv X.K X.mg w H Hs y ry ∧ o rx ry P ∧ Out X.K X.mg w H Hs P Q
def UnD (X : Cx) (w : Dr) (f : Value → Sem Value) (o : O1) : Prop := UnR X f fun x H Q => ∃ Hs N rx P, Same Hs H ∧ Ms w H N ∧ Bv X.K X.mg w H Hs x rx ∧ o rx P ∧ Out X.K X.mg w H Hs P Q
def CallD (X : Cx) (w : Dr) (f : Value) (o : OL) : Prop := CallR X f fun xs H Q => ∃ Hs N rs P, Same Hs H ∧ Ms w H N ∧ BvA X.K X.mg w H Hs xs rs ∧ o rs P ∧ Out X.K X.mg w H Hs P Q
def CallF (X : Cx) (w : Dr) (f : Value) (o : OF) : Prop := CallR X f fun xs H Q => ∃ Hs N rs P, Same Hs H ∧ Ms w H N ∧ BvA X.K X.mg w H Hs xs rs ∧ o rs P ∧ OutF X.K X.mg w H Hs P Q
def eOp (o : O2) (fa fb : ED) : ED := fun env N Q => fa env N fun x N1 => fb env N1 fun y N2 => o x y fun z => Q z N2
def eUn (o : O1) (fa : ED) : ED := fun env N Q => fa env N fun x N1 => o x fun z => Q z N1
def eCall (o : OL) (fa : AD) : ED := fun env N Q => fa env N fun xs N1 => o xs fun z => Q z N1
def eCallF (o : OF) (fa : AD) : AD := fun env N Q => fa env N fun xs N1 => o xs fun z => Q z N1
theorem tOp_of {K : PySem.W.Frag} {mg : Str → Option Value} {o : O2} {r2 : R2} (ho : ∀ x y H Q, (∃ Hs N rx ry P, Same Hs H ∧ Ms C.w H N ∧ Bv K mg C.w H Hs x rx ∧ Bv K mg C.w H Hs y ry ∧ o rx ry P ∧ Out K mg C.w H Hs P Q) → r2 x y H Q) {σ : St} {H : Hp} {Q : VK}
    (h : TEd K mg C (eOp o fa fb) σ H Q) : tOp r2 (TEb K mg C fa) (TEb K mg C fb) σ H Q := by
  obtain ⟨env, Hs, N, R, r, hf, k⟩ := h
  refine ⟨env, Hs, N, _, r, hf, fun x N1 h1 v H1 Hs1 g1 m1 d1 => ⟨env, Hs1, N1, _, r.move g1 m1, h1, fun y N2 h2 u H2 Hs2 g2 m2 d2 => ho _ _ _ _ ⟨Hs2, N2, x, y, _, g2.sub, m2, d1.go g2, d2, h2, fun z hz v' H' Hs' g' m' d' => ?_⟩⟩⟩
  exact k _ _ hz _ _ _ ((g1.trans g2).trans g') (m' _ m2) d'
theorem pd_op {op : Operator} {o : O2} (ho : OpD X C.w (binaryOp op) o) (ha : PEb X C a fa) (hb : PEb X C b fb) : PEd X C (.BinOp a op b pos) (eOp o fa fb) := ⟨PE.imp (pe_op ho ha.pe hb.pe) fun _ _ _ h => tOp_of (fun _ _ _ _ h => h) h⟩
theorem pd_cmp {op : CmpOp} {o : O2} (ho : OpD X C.w (compareOp op) o) (ha : PEb X C a fa) (hb : PEb X C b fb) (hm : behindInMarks op b = false) : PEd X C (.Compare a [op] [b] pos) (eOp o fa fb) := ⟨PE.imp (pe_cmpR ho ha.pe hb.pe hm) fun _ _ _ h => tOp_of (fun _ _ _ _ h => h) h⟩
theorem pd_un {op : UnaryOp} {o : O1} (ho : UnD X C.w (unaryOp op) o) (ha : PEb X C a fa) : PEd X C (.UnaryOp op a pos) (eUn o fa) := ⟨PE.imp (pe_un ho ha.pe) fun σ H Q ⟨env, Hs, N, R, r, hf, k⟩ =>
  ⟨env, Hs, N, _, r, hf, fun x N1 h1 v H1 Hs1 g1 m1 d1 => ⟨Hs1, N1, x, _, g1.sub, m1, d1, h1, fun z hz v' H' Hs' g' m' d' => k _ _ hz _ _ _ (g1.trans g') (m' _ m1) d'⟩⟩⟩
theorem cb_of {K : PySem.W.Frag} {mg : Str → Option Value} {o : OL} {r2 : List V → Hp → VK → Prop} {fs : AD} (ho : ∀ xs H Q, (∃ Hs N rs P, Same Hs H ∧ Ms C.w H N ∧ BvA K mg C.w H Hs xs rs ∧ o rs P ∧ Out K mg C.w H Hs P Q) → r2 xs H Q) {σ : St} {H : Hp} {Q : VK}
    (h : TEd K mg C (eCall o fs) σ H Q) : tCB r2 (TAb K mg C fs) σ H Q := by
  obtain ⟨env, Hs, N, R, r, hf, k⟩ := h
  exact ⟨env, Hs, N, _, r, hf, fun xs N1 h1 vs H1 Hs1 g1 m1 d1 => ho _ _ _ ⟨Hs1, N1, xs, _, g1.sub, m1, d1, h1, fun z hz v' H' Hs' g' m' d' => k _ _ hz _ _ _ (g1.trans g') (m' _ m1) d'⟩⟩
theorem cbf_of {K : PySem.W.Frag} {mg : Str → Option Value} {o : OF} {r2 : List V → Hp → VK → Prop} {fs : AD} (ho : ∀ xs H Q, (∃ Hs N rs P, Same Hs H ∧ Ms C.w H N ∧ BvA K mg C.w H Hs xs rs ∧ o rs P ∧ OutF K mg C.w H Hs P Q) → r2 xs H Q) {σ : St} {H : Hp} {Q : VK}
    (h : TEf K mg C (eCallF o fs) σ H Q) : tCB r2 (TAb K mg C fs) σ H Q := by
  obtain ⟨env, Hs, N, R, r, hf, k⟩ := h
  refine ⟨env, Hs, N, _, r, hf, fun xs N1 h1 vs H1 Hs1 g1 m1 d1 => ho _ _ _ ⟨Hs1, N1, xs, _, g1.sub, m1, d1, h1, fun z hz p ws H' Hs' g' m' o' hp d' => k _ _ hz _ _ _ _ (g1.trans g') (m' _ m1) o' ?_ d'⟩⟩
  cases q : H p with
  | none => rfl
  | some u => exact absurd hp (g1.there p (by rw [q]; exact fun z => by cases z))
end
end Pd
/-! ## Pd: operators, comparisons, truth, subscripts, slices, built-ins over data -/
namespace Pd
open PySem L2
/-! data as the library's data -/
mutual
def D.py : D → PyData
  | .bl b => .bool b
  | .int i => .int i
  | .str x => .str x
  | .lst xs => .list (D.pyA xs)
  | .tup xs => .tuple (D.pyA xs)
  | .non | .ins _ _ | .exc _ _ | .fn _ | .mt | .drw => .none
def D.pyA : List D → List PyData
  | [] => []
  | x :: xs => D.py x :: D.pyA xs
end
mutual
def D.plain : D → Bool
  | .non | .bl _ | .int _ | .str _ => true
  | .lst xs => D.plainA xs
  | .tup xs => D.plainA xs
  | .ins _ _ | .exc _ _ | .fn _ | .mt | .drw => false
def D.plainA : List D → Bool
  | [] => true
  | x :: xs => D.plain x && D.plainA xs
end
/-- comparable as data -/
def D.eqOk (x : D) : Bool := x.plain && SeqAt.shaped x.py
theorem pyA_map : ∀ xs : List D, D.pyA xs = xs.map D.py
  | [] => by simp [D.pyA]
  | x :: xs => by simp [D.pyA, pyA_map xs]
section
variable {K : PySem.W.Frag} {mg : Str → Option Value} {w : Dr} {H Hs : Hp}
mutual
theorem Dv.dp (s : Same Hs H) : ∀ (r : D) (v : V), r.plain = true → Dv K mg w Hs v r → Dp K H v r.py
  | .non, _, _, h => by cases h; simp only [D.py]; exact .non
  | .bl _, _, _, h => by cases h; simp only [D.py]; exact .bl _
  | .int _, _, _, h => by cases h; simp only [D.py]; exact .int _
  | .str _, _, _, h => by cases h; simp only [D.py]; exact .str _
  | .lst ds, _, p, h => by
    cases h with
    | lst h1 h2 =>
      simp only [D.py]
      exact .lst (SqL.of (s _ _ h1)) (DvA.dp s ds _ (by simpa [D.plain] using p) h2)
  | .tup ds, _, p, h => by
    cases h with
    | tup h1 h2 =>
      simp only [D.py]
      exact .tup (SqT.of (s _ _ h1)) (DvA.dp s ds _ (by simpa [D.plain] using p) h2)
  | .ins c gs, _, p, h => by simp [D.plain] at p
  | .exc c gs, _, p, h => by simp [D.plain] at p
  | .fn c, _, p, h => by simp [D.plain] at p
  | .mt, _, p, h => by simp [D.plain] at p
  | .drw, _, p, h => by simp [D.plain] at p
theorem DvA.dp (s : Same Hs H) : ∀ (ds : List D) (vs : List V), D.plainA ds = true → DvA K mg w Hs vs ds → DpAll K H vs (D.pyA ds)
  | [], _, _, h => by cases h; simp only [D.pyA]; exact .nil
  | r :: rs, _, p, h => by
    cases h with
    | cons h1 h2 =>
      simp only [D.plainA, Bool.and_eq_true] at p
      simp only [D.pyA]
      exact .cons (Dv.dp s r _ p.1 h1) (DvA.dp s rs _ p.2 h2)
end
theorem Bv.dp {v : V} {r : D} (s : Same Hs H) (p : r.plain = true) (h : Bv K mg w H Hs v r) : Dp K H v r.py := by
  rcases h with h | ⟨a, vs, xs, rfl, rfl, o, h⟩
  · exact Dv.dp s _ _ p h
  · simp only [D.py]
    exact .lst (SqL.of o.at_) (DvA.dp s xs _ (by simpa [D.plain] using p) h)
end
/-! results -/
section
variable {K : PySem.W.Frag} {mg : Str → Option Value} {w : Dr} {H Hs : Hp} {P : D → Prop} {Q : VK}
theorem Out.now (o : Out K mg w H Hs P Q) (s : Same Hs H) {r : D} {v : V} (p : P r) (h : Dv K mg w Hs v r) : Q v H := o r p v H Hs (Go.refl s) (fun _ m => m) h
theorem Out.lst (o : Out K mg w H Hs P Q) (s : Same Hs H) {rs : List D} {vs : List V} (p : P (.lst rs)) (h : DvA K mg w Hs vs rs) {a : Addr} (ha : H a = none) : Q (.ref a) (upd H a (.lst vs)) :=
  o _ p _ _ _ (Go.new1 s ha) (fun _ m => m.new ha) (.lst upd_same (DvA.same (fun b u e => Rd.get_up e (s.free ha)) _ _ h))
theorem Out.tup (o : Out K mg w H Hs P Q) (s : Same Hs H) {rs : List D} {vs : List V} (p : P (.tup rs)) (h : DvA K mg w Hs vs rs) {a : Addr} (ha : H a = none) : Q (.ref a) (upd H a (.tup vs)) :=
  o _ p _ _ _ (Go.new1 s ha) (fun _ m => m.new ha) (.tup upd_same (DvA.same (fun b u e => Rd.get_up e (s.free ha)) _ _ h))
theorem OutF.mk {P : List D → Prop} (o : OutF K mg w H Hs P Q) (s : Same Hs H) {N : Nat} (m : Ms w H N) {rs : List D} {vs : List V} (p : P rs) (h : DvA K mg w Hs vs rs) {a : Addr} (ha : H a = none) : Q (.ref a) (upd H a (.lst vs)) :=
  o _ p _ _ _ _ (Go.own1 s ha) (fun _ m => m.new ha) (Own.mk_new m s ha) ha h
end
/-! ### binary operators -/
def oInt (C : Int → Int → Prop) (g : Int → Int → Int) : O2
  | .int i, .int j, P => C i j ∧ P (.int (g i j))
  | _, _, _ => False
def oAdd : O2
  | .int i, .int j, P => P (.int (i + j))
  | .str x, .str y, P => x.length + y.length ≤ sizeLine ∧ P (.str (x ++ y))
  | .lst xs, .lst ys, P => xs.length + ys.length ≤ 1000000 ∧ P (.lst (xs ++ ys))
  | .tup xs, .tup ys, P => xs.length + ys.length ≤ 1000000 ∧ P (.tup (xs ++ ys))
  | _, _, _ => False
def oMul : O2
  | .int i, .int j, P => CMul i j ∧ P (.int (i * j))
  | .lst xs, .int k, P => (-1000000 ≤ k ∧ k ≤ 1000000 ∧ xs.length * k.toNat ≤ 1000000) ∧ P (.lst (List.replicate k.toNat xs).flatten)
  | _, _, _ => False
abbrev oSub : O2 := oInt (fun _ _ => True) (fun i j => i - j)
abbrev oMod : O2 := oInt (fun _ j => 0 < j) (fun i j => i % j)
abbrev oFdiv : O2 := oInt CDiv (fun i j => i / j)
abbrev oShl : O2 := oInt CPow (fun i j => i * 2 ^ j.toNat)
abbrev oShr : O2 := oInt (fun _ j => 0 ≤ j) (fun i j => i / 2 ^ j.toNat)
abbrev oAnd : O2 := oInt (fun _ _ => True) (fun i j => Builtin.bitAnd i j)
abbrev oOr : O2 := oInt (fun _ _ => True) (fun i j => Builtin.bitOr i j)
abbrev oXor : O2 := oInt (fun _ _ => True) (fun i j => Builtin.bitXor i j)
section
variable {X : Cx} {w : Dr}
theorem od_int {f : Value → Value → Sem Value} {C : Int → Int → Prop} {g : Int → Int → Int} (h : OpR X f (rI C fun i j => .int (g i j))) : OpD X w f (oInt C g) := by
  intro pins s σ H x y v u Q I rx ry ⟨Hs, N, a, b, P, s0, m, ha, hb, ho, out⟩
  match a, b, ho with
  | .int i, .int j, ⟨hc, hp⟩ =>
    have e1 := ha.int
    have e2 := hb.int
    subst e1 e2
    exact h pins s σ H _ _ v u Q I rx ry ⟨i, j, rfl, rfl, hc, out.now s0 hp (.int _)⟩
theorem od_int0 {f : Value → Value → Sem Value} {g : Int → Int → Int} (h : OpR X f (rI0 fun i j => .int (g i j))) : OpD X w f (oInt (fun _ _ => True) g) :=
  od_int (C := fun _ _ => True) fun pins s σ H x y v u Q I rx ry ⟨i, j, e1, e2, _, q⟩ => h pins s σ H x y v u Q I rx ry ⟨i, j, e1, e2, q⟩
theorem od_add : OpD X w (binaryOp .Add) oAdd := by
  intro pins s σ H x y v u Q I rx ry ⟨Hs, N, a, b, P, s0, m, ha, hb, ho, out⟩
  match a, b, ho with
  | .int i, .int j, hp =>
    have e1 := ha.int
    have e2 := hb.int
    subst e1 e2
    exact op_add pins s σ H _ _ v u Q I rx ry ⟨i, j, rfl, rfl, out.now s0 hp (.int _)⟩
  | .str i, .str j, ⟨hc, hp⟩ =>
    have e1 := ha.str
    have e2 := hb.str
    subst e1 e2
    exact op_add_str pins s σ H _ _ v u Q I rx ry ⟨i, j, rfl, rfl, hc, out.now s0 hp (.str _)⟩
  | .lst xs, .lst ys, ⟨hc, hp⟩ =>
    obtain ⟨p, vs, rfl, h1, d1⟩ := ha.list s0
    obtain ⟨q, us, rfl, h2, d2⟩ := hb.list s0
    exact op_cat pins s σ H _ _ v u Q I rx ry ⟨p, q, vs, us, rfl, rfl, h1, h2, by rw [d1.len, d2.len]; exact Nat.le_trans hc (by decide), fun l hl => out.lst s0 hp (d1.app d2) hl⟩
  | .tup xs, .tup ys, ⟨hc, hp⟩ =>
    obtain ⟨p, vs, rfl, h1, h1s, d1⟩ := ha.tup s0
    obtain ⟨q, us, rfl, h2, h2s, d2⟩ := hb.tup s0
    refine op_catA pins s σ H _ _ v u Q I rx ry ⟨p, q, vs, us, rfl, rfl, SqT.of h1, SqT.of h2, by rw [d1.len, d2.len]; exact Nat.le_trans hc (by decide), fun e => ?_, fun _ e => ?_, fun _ _ l hl => out.tup s0 hp (d1.app d2) hl⟩
    · subst e
      cases d1
      exact out.now s0 hp (.tup h2s d2)
    · subst e
      cases d2
      rw [List.append_nil] at hp
      exact out.now s0 hp (.tup h1s d1)
theorem od_mul : OpD X w (binaryOp .Mult) oMul := by
  intro pins s σ H x y v u Q I rx ry ⟨Hs, N, a, b, P, s0, m, ha, hb, ho, out⟩
  match a, b, ho with
  | .int i, .int j, ⟨hc, hp⟩ =>
    have e1 := ha.int
    have e2 := hb.int
    subst e1 e2
    exact op_mul pins s σ H _ _ v u Q I rx ry ⟨i, j, rfl, rfl, hc, out.now s0 hp (.int _)⟩
  | .lst xs, .int k, ⟨⟨k1, k2, hc⟩, hp⟩ =>
    obtain ⟨p, vs, rfl, h1, d1⟩ := ha.list s0
    have e2 := hb.int
    subst e2
    refine op_rep pins s σ H _ _ v u Q I rx ry ⟨p, k, vs, rfl, rfl, h1, by omega, by omega, by rw [d1.len]; exact Nat.le_trans hc (by decide), fun l hl => out.lst s0 hp ?_ hl⟩
    clear hc hp k1 k2
    induction k.toNat with
    | zero => exact .nil
    | succ n ih =>
      rw [List.replicate_succ, List.replicate_succ, List.flatten_cons, List.flatten_cons]
      exact d1.app ih
theorem od_sub : OpD X w (binaryOp .Sub) oSub := od_int0 op_sub
theorem od_mod : OpD X w (binaryOp .Mod) oMod := od_int op_mod
theorem od_fdiv : OpD X w (binaryOp .FloorDiv) oFdiv := od_int op_fdiv
theorem od_shl : OpD X w (binaryOp .LShift) oShl := od_int op_shl
theorem od_shr : OpD X w (binaryOp .RShift) oShr := od_int op_shr
theorem od_and : OpD X w (binaryOp .BitAnd) oAnd := od_int0 op_and
theorem od_or : OpD X w (binaryOp .BitOr) oOr := od_int0 op_or
theorem od_xor : OpD X w (binaryOp .BitXor) oXor := od_int0 op_xor
end
/-! ### comparisons -/
def oEq (neg : Bool) : O2 := fun x y P => x.eqOk = true ∧ y.eqOk = true ∧ P (.bl (PyData.eqv x.py y.py != neg))
def oCmp (g : Int → Int → Bool) : O2
  | .int i, .int j, P => P (.bl (g i j))
  | _, _, _ => False
abbrev oLt : O2 := oCmp fun i j => decide (i < j)
abbrev oLe : O2 := oCmp fun i j => decide (i ≤ j)
abbrev oGt : O2 := oCmp fun i j => decide (j < i)
abbrev oGe : O2 := oCmp fun i j => decide (j ≤ i)
/-- x is None, x is True .. -/
def D.isNon : D → Bool
  | .non => true
  | _ => false
def oIs (neg : Bool) : O2 := fun x y P => match y with
  | .non => P (.bl (x.isNon != neg))
  | .bl b => (match x with | .bl a => P (.bl ((a == b) != neg)) | _ => False)
  | _ => False
def oIn (neg : Bool) : O2 := fun x y P => match y with
  | .lst ys => x.eqOk = true ∧ (D.lst ys).eqOk = true ∧ P (.bl ((ys.any fun z => PyData.eqv z.py x.py) != neg))
  | .tup ys => x.eqOk = true ∧ (D.tup ys).eqOk = true ∧ P (.bl ((ys.any fun z => PyData.eqv z.py x.py) != neg))
  | _ => False
section
variable {X : Cx} {w : Dr}
theorem eqOk_of {x : D} (h : x.eqOk = true) : x.plain = true ∧ SeqAt.shaped x.py = true := by
  unfold D.eqOk at h
  rw [Bool.and_eq_true] at h
  exact h
theorem any_py (ys : List D) (x : PyData) : (D.pyA ys).any (fun z => PyData.eqv z x) = ys.any fun z => PyData.eqv z.py x := by
  rw [pyA_map, List.any_map]
  rfl
theorem od_eq (hu : X.A.units + 64 < cLine) : OpD X w (compareOp .Eq) (oEq false) := by
  intro pins s σ H x y v u Q I rx ry ⟨Hs, N, a, b, P, s0, m, ha, hb, ⟨k1, k2, hp⟩, out⟩
  obtain ⟨p1, q1⟩ := eqOk_of k1
  obtain ⟨p2, q2⟩ := eqOk_of k2
  exact op_eqD hu pins s σ H _ _ v u Q I rx ry ⟨_, _, ha.dp s0 p1, hb.dp s0 p2, q1, q2, out.now s0 (by rw [Bool.bne_false] at hp; exact hp) (.bl _)⟩
theorem od_ne (hu : X.A.units + 64 < cLine) : OpD X w (compareOp .NotEq) (oEq true) := by
  intro pins s σ H x y v u Q I rx ry ⟨Hs, N, a, b, P, s0, m, ha, hb, ⟨k1, k2, hp⟩, out⟩
  obtain ⟨p1, q1⟩ := eqOk_of k1
  obtain ⟨p2, q2⟩ := eqOk_of k2
  exact op_neD hu pins s σ H _ _ v u Q I rx ry ⟨_, _, ha.dp s0 p1, hb.dp s0 p2, q1, q2, out.now s0 (by rw [Bool.bne_true] at hp; exact hp) (.bl _)⟩
theorem od_cmp {f : Value → Value → Sem Value} {g : Int → Int → Bool} (h : OpR X f (rI0 fun i j => .bl (g i j))) : OpD X w f (oCmp g) := by
  intro pins s σ H x y v u Q I rx ry ⟨Hs, N, a, b, P, s0, m, ha, hb, ho, out⟩
  match a, b, ho with
  | .int i, .int j, hp =>
    have e1 := ha.int
    have e2 := hb.int
    subst e1 e2
    exact h pins s σ H _ _ v u Q I rx ry ⟨i, j, rfl, rfl, out.now s0 hp (.bl _)⟩
theorem od_lt : OpD X w (compareOp .Lt) oLt := od_cmp op_lt
theorem od_le : OpD X w (compareOp .LtE) oLe := od_cmp op_le
theorem od_gt : OpD X w (compareOp .Gt) oGt := od_cmp op_gt
theorem od_ge : OpD X w (compareOp .GtE) oGe := od_cmp op_ge
theorem non_iff {H Hs : Hp} {v : V} {r : D} (h : Bv X.K X.mg w H Hs v r) : decide (v = .non) = r.isNon := by
  rcases h with h | ⟨a, vs, xs, rfl, rfl, o, h⟩
  · cases h <;> rfl
  · rfl
theorem od_is : OpD X w (compareOp .Is) (oIs false) := by
  intro pins s σ H x y v u Q I rx ry ⟨Hs, N, a, b, P, s0, m, ha, hb, ho, out⟩
  match b, ho with
  | .non, hp =>
    have e2 := hb.non
    subst e2
    refine op_isN pins s σ H _ _ v u Q I rx ry ⟨rfl, out.now s0 ?_ (.bl _)⟩
    rw [non_iff ha]
    rw [← Bool.bne_false (b := a.isNon)]
    exact hp
  | .bl b, hp =>
    match a, hp with
    | .bl a, hp => 
    have e1 := ha.bl
    have e2 := hb.bl
    subst e1 e2
    refine op_is_bl pins s σ H _ _ v u Q I rx ry ⟨a, b, rfl, rfl, out.now s0 ?_ (.bl _)⟩
    have hp : P (.bl ((a == b) != false)) := hp
    rw [Bool.bne_false] at hp
    rw [show decide (a = b) = (a == b) by cases a <;> cases b <;> rfl]
    exact hp
theorem od_isnot : OpD X w (compareOp .IsNot) (oIs true) := by
  intro pins s σ H x y v u Q I rx ry ⟨Hs, N, a, b, P, s0, m, ha, hb, ho, out⟩
  match b, ho with
  | .non, hp =>
    have e2 := hb.non
    subst e2
    refine op_notN pins s σ H _ _ v u Q I rx ry ⟨rfl, out.now s0 ?_ (.bl _)⟩
    rw [non_iff ha]
    rw [← Bool.bne_true (b := a.isNon)]
    exact hp
  | .bl b, hp =>
    match a, hp with
    | .bl a, hp => 
    have e1 := ha.bl
    have e2 := hb.bl
    subst e1 e2
    refine op_isnot_bl pins s σ H _ _ v u Q I rx ry ⟨a, b, rfl, rfl, out.now s0 ?_ (.bl _)⟩
    have hp : P (.bl ((a == b) != true)) := hp
    rw [Bool.bne_true] at hp
    rw [show (!decide (a = b)) = !(a == b) by cases a <;> cases b <;> rfl]
    exact hp
theorem od_in (hu : X.A.units + 65 < cLine) : OpD X w (compareOp .In) (oIn false) := by
  intro pins s σ H x y v u Q I rx ry ⟨Hs, N, a, b, P, s0, m, ha, hb, ho, out⟩
  match b, ho with
  | .lst ys, ⟨k1, k2, hp⟩ =>
    obtain ⟨p1, q1⟩ := eqOk_of k1
    obtain ⟨p2, q2⟩ := eqOk_of k2
    have hd := hb.dp s0 p2
    simp only [D.py] at hd q2
    refine op_inD hu pins s σ H _ _ v u Q I rx ry ⟨_, _, ha.dp s0 p1, hd, q1, q2, out.now s0 ?_ (.bl _)⟩
    rw [any_py, ← Bool.bne_false (b := ys.any _)]
    exact hp
  | .tup ys, ⟨k1, k2, hp⟩ =>
    obtain ⟨p1, q1⟩ := eqOk_of k1
    obtain ⟨p2, q2⟩ := eqOk_of k2
    have hd := hb.dp s0 p2
    simp only [D.py] at hd q2
    obtain ⟨as, r1⟩ := Dp.reads I _ x v (ha.dp s0 p1) rx
    obtain ⟨bs, r2⟩ := Dp.reads I _ y u hd ry
    refine SeqAt.in_tuple_reads r2 r1 (SeqAt.canLay_of_shaped q2) (SeqAt.canLay_of_shaped q1) (PyProof.Rows.room_in_shaped q1 hu) ⟨.bl _, H, I, rfl, out.now s0 ?_ (.bl _)⟩
    rw [any_py, ← Bool.bne_false (b := ys.any _)]
    exact hp
theorem od_notin (hu : X.A.units + 65 < cLine) : OpD X w (compareOp .NotIn) (oIn true) := by
  intro pins s σ H x y v u Q I rx ry ⟨Hs, N, a, b, P, s0, m, ha, hb, ho, out⟩
  match b, ho with
  | .lst ys, ⟨k1, k2, hp⟩ =>
    obtain ⟨p1, q1⟩ := eqOk_of k1
    obtain ⟨p2, q2⟩ := eqOk_of k2
    have hd := hb.dp s0 p2
    simp only [D.py] at hd q2
    refine op_notInD hu pins s σ H _ _ v u Q I rx ry ⟨_, _, ha.dp s0 p1, hd, q1, q2, out.now s0 ?_ (.bl _)⟩
    rw [any_py, ← Bool.bne_true]
    exact hp
  | .tup ys, ⟨k1, k2, hp⟩ =>
    obtain ⟨p1, q1⟩ := eqOk_of k1
    obtain ⟨p2, q2⟩ := eqOk_of k2
    have hd := hb.dp s0 p2
    simp only [D.py] at hd q2
    obtain ⟨as, r1⟩ := Dp.reads I _ x v (ha.dp s0 p1) rx
    obtain ⟨bs, r2⟩ := Dp.reads I _ y u hd ry
    refine SeqAt.notIn_tuple_reads r2 r1 (SeqAt.canLay_of_shaped q2) (SeqAt.canLay_of_shaped q1) (PyProof.Rows.room_in_shaped q1 hu) ⟨.bl _, H, I, rfl, out.now s0 ?_ (.bl _)⟩
    rw [any_py, ← Bool.bne_true]
    exact hp
end
def oNeg : O1
  | .int i, P => P (.int (-i))
  | _, _ => False
theorem ud_neg {X : Cx} {w : Dr} : UnD X w (unaryOp .USub) oNeg := by
  intro pins s σ H x v Q I rx ⟨Hs, N, a, P, s0, m, ha, ho, out⟩
  match a, ho with
  | .int i, hp =>
    have e := ha.int
    subst e
    exact un_neg pins s σ H _ v Q I rx ⟨i, rfl, out.now s0 hp (.int _)⟩
end Pd
/-! ## Pd: tests, truth, displays, subscripts, slices, fields, built-ins, calls -/
namespace Pd
open PySem L2
section
variable {X : Cx} {C : Cn} {e a b c : Expr} {es rest : List Expr} {pos : Pos} {f fa fb fc : ED} {ft ta tb : TD}
/-! ### tests -/
def tVal (f : ED) : TD := fun env N Q => f env N fun r N1 => match r with | .bl k => Q k N1 | _ => False
theorem ptd_val (h : PEd X C e f) (he : ∀ whole, isTrue e X.env whole = (do let v ← whole; standAt e.pos; holding [v] (truthy v)) := by intro _; rfl) : PTd X C e (tVal f) := ⟨PT.imp (pt_val h.pe he) fun σ H Q ⟨env, Hs, N, R, r, hf, k⟩ =>
  ⟨env, Hs, N, _, r, hf, fun x N1 h1 v H1 Hs1 g1 m1 d1 => by
    match x, h1 with
    | .bl b, h1 =>
      cases d1
      exact ⟨b, rfl, k _ _ h1 _ _ g1 m1⟩⟩⟩
theorem ptd_cmp {op : CmpOp} {o : O2} (ho : OpD X C.w (compareOp op) o) (ha : PEb X C a fa) (hb : PEb X C b fb) (hm : behindInMarks op b = false) : PTd X C (.Compare a [op] [b] pos) (tVal (eOp o fa fb)) := ⟨PT.imp (pt_cmpR ho ha.pe hb.pe hm) fun σ H Q ⟨env, Hs, N, R, r, hf, k⟩ =>
  tOp_of (fun _ _ _ _ h => h) ⟨env, Hs, N, _, r, hf, fun x N1 h1 v H1 Hs1 g1 m1 d1 => by
    match x, h1 with
    | .bl b, h1 =>
      cases d1
      exact ⟨b, rfl, k _ _ h1 _ _ g1 m1⟩⟩⟩
def tAndD (f g : TD) : TD := fun env N Q => f env N fun k N1 => if k = true then g env N1 Q else Q false N1
def tOrD (f g : TD) : TD := fun env N Q => f env N fun k N1 => if k = true then Q true N1 else g env N1 Q
def tNotD (f : TD) : TD := fun env N Q => f env N fun k N1 => Q (!k) N1
theorem PWd.ptd (h : PWd X C e ft) : PTd X C e ft := ⟨h.pw.pt⟩
theorem pwd_and1 (h : PTd X C a ft) : PWd X C (.BoolOp .And [a] pos) ft := ⟨pw_and1 h.pt⟩
theorem pwd_or1 (h : PTd X C a ft) : PWd X C (.BoolOp .Or [a] pos) ft := ⟨pw_or1 h.pt⟩
theorem pwd_and (ha : PTd X C a ta) (hb : PWd X C (.BoolOp .And (b :: rest) pos) tb) : PWd X C (.BoolOp .And (a :: b :: rest) pos) (tAndD ta tb) := ⟨PW.imp (pw_and ha.pt hb.pw) fun σ H Q ⟨env, Hs, N, R, r, hf, k⟩ =>
  ⟨env, Hs, N, _, r, hf, fun x N1 h1 H1 Hs1 g1 m1 => by
    cases x with
    | true => exact iteT ⟨env, Hs1, N1, R, r.move g1 m1, by rw [if_pos rfl] at h1; exact h1, fun y N2 h2 H2 Hs2 g2 m2 => k _ _ h2 _ _ (g1.trans g2) m2⟩
    | false => exact iteF (k _ _ (by rw [if_neg (by decide)] at h1; exact h1) _ _ g1 m1)⟩⟩
theorem pwd_or (ha : PTd X C a ta) (hb : PWd X C (.BoolOp .Or (b :: rest) pos) tb) : PWd X C (.BoolOp .Or (a :: b :: rest) pos) (tOrD ta tb) := ⟨PW.imp (pw_or ha.pt hb.pw) fun σ H Q ⟨env, Hs, N, R, r, hf, k⟩ =>
  ⟨env, Hs, N, _, r, hf, fun x N1 h1 H1 Hs1 g1 m1 => by
    cases x with
    | false => exact iteF ⟨env, Hs1, N1, R, r.move g1 m1, by rw [if_neg (by decide)] at h1; exact h1, fun y N2 h2 H2 Hs2 g2 m2 => k _ _ h2 _ _ (g1.trans g2) m2⟩
    | true => exact iteT (k _ _ (by rw [if_pos rfl] at h1; exact h1) _ _ g1 m1)⟩⟩
theorem ptd_not (ha : PTd X C a ta) : PTd X C (.UnaryOp .Not a pos) (tNotD ta) := ⟨PT.imp (pt_not ha.pt) fun σ H Q ⟨env, Hs, N, R, r, hf, k⟩ =>
  ⟨env, Hs, N, _, r, hf, fun x N1 h1 H1 Hs1 g1 m1 => k _ _ h1 _ _ g1 m1⟩⟩
/-! truth of a value -/
def D.tru : D → (Bool → Prop) → Prop
  | .non, P => P false
  | .bl k, P => P k
  | .int i, P => P (i != 0)
  | .str x, P => x.length ≤ sizeLine ∧ P ((x.length : Int) != 0)
  | .lst xs, P => P (!xs.isEmpty)
  | .tup xs, P => P (!xs.isEmpty)
  | _, _ => False
def tTru (f : ED) : TD := fun env N Q => f env N fun r N1 => r.tru fun k => Q k N1
theorem empty_dva {K : PySem.W.Frag} {mg : Str → Option Value} {w : Dr} {H : Hp} {vs : List V} {rs : List D} (h : DvA K mg w H vs rs) : vs.isEmpty = rs.isEmpty := by cases h <;> rfl
theorem ptd_tru (h : PEb X C a f) (he : ∀ whole, isTrue a X.env whole = (do let v ← whole; standAt a.pos; holding [v] (truthy v)) := by intro _; rfl) : PTd X C a (tTru f) := ⟨PT.imp (pt_truth h.pe he) fun σ H Q ⟨env, Hs, N, R, r, hf, k⟩ =>
  ⟨env, Hs, N, _, r, hf, fun x N1 h1 v H1 Hs1 g1 m1 d1 => by
    match x, h1 with
    | .non, h1 =>
      have := d1.non
      subst this
      exact ⟨false, rfl, k _ _ h1 _ _ g1 m1⟩
    | .bl b, h1 =>
      have := d1.bl
      subst this
      exact ⟨b, rfl, k _ _ h1 _ _ g1 m1⟩
    | .int i, h1 =>
      have := d1.int
      subst this
      exact ⟨_, rfl, k _ _ h1 _ _ g1 m1⟩
    | .str i, ⟨hl, h1⟩ =>
      have := d1.str
      subst this
      exact ⟨_, ⟨hl, rfl⟩, k _ _ h1 _ _ g1 m1⟩
    | .lst rs, h1 =>
      obtain ⟨p, vs, rfl, e1, e2⟩ := d1.list g1.sub
      exact ⟨_, .inl ⟨vs, SqL.of e1, rfl⟩, by rw [empty_dva e2]; exact k _ _ h1 _ _ g1 m1⟩
    | .tup rs, h1 =>
      obtain ⟨p, vs, rfl, e1, _, e2⟩ := d1.tup g1.sub
      exact ⟨_, .inr (.inl ⟨vs, SqT.of e1, rfl⟩), by rw [empty_dva e2]; exact k _ _ h1 _ _ g1 m1⟩⟩⟩
/-! and, or, not as values (all True or False) -/
def eAndV (fa fb : ED) : ED := fun env N Q => fa env N fun r N1 => match r with | .bl k => (if k = true then fb env N1 Q else Q (.bl false) N1) | _ => False
def eOrV (fa fb : ED) : ED := fun env N Q => fa env N fun r N1 => match r with | .bl k => (if k = true then Q (.bl true) N1 else fb env N1 Q) | _ => False
def eNotV (fa : ED) : ED := fun env N Q => fa env N fun r N1 => match r with | .bl k => Q (.bl (!k)) N1 | _ => False
theorem pd_one {op : BoolOp} (h : PEd X C a f) : PEd X C (.BoolOp op [a] pos) f := ⟨pe_one h.pe⟩
theorem pd_and (ha : PEd X C a fa) (hb : PEd X C (.BoolOp .And (b :: rest) pos) fb) : PEd X C (.BoolOp .And (a :: b :: rest) pos) (eAndV fa fb) := ⟨PE.imp (pe_and ha.pe hb.pe) fun σ H Q ⟨env, Hs, N, R, r, hf, k⟩ =>
  ⟨env, Hs, N, _, r, hf, fun x N1 h1 v H1 Hs1 g1 m1 d1 => by
    match x, h1 with
    | .bl true, h1 =>
      cases d1
      exact ⟨true, rfl, iteT ⟨env, Hs1, N1, R, r.move g1 m1, h1, fun y N2 h2 u H2 Hs2 g2 m2 d2 => k _ _ h2 _ _ _ (g1.trans g2) m2 d2⟩⟩
    | .bl false, h1 =>
      cases d1
      exact ⟨false, rfl, iteF (k _ _ h1 _ _ _ g1 m1 (.bl _))⟩⟩⟩
theorem pd_or (ha : PEd X C a fa) (hb : PEd X C (.BoolOp .Or (b :: rest) pos) fb) : PEd X C (.BoolOp .Or (a :: b :: rest) pos) (eOrV fa fb) := ⟨PE.imp (pe_or ha.pe hb.pe) fun σ H Q ⟨env, Hs, N, R, r, hf, k⟩ =>
  ⟨env, Hs, N, _, r, hf, fun x N1 h1 v H1 Hs1 g1 m1 d1 => by
    match x, h1 with
    | .bl false, h1 =>
      cases d1
      exact ⟨false, rfl, iteF ⟨env, Hs1, N1, R, r.move g1 m1, h1, fun y N2 h2 u H2 Hs2 g2 m2 d2 => k _ _ h2 _ _ _ (g1.trans g2) m2 d2⟩⟩
    | .bl true, h1 =>
      cases d1
      exact ⟨true, rfl, iteT (k _ _ h1 _ _ _ g1 m1 (.bl _))⟩⟩⟩
theorem pd_not (ha : PEd X C a fa) : PEd X C (.UnaryOp .Not a pos) (eNotV fa) := ⟨PE.imp (pe_not ha.pe) fun σ H Q ⟨env, Hs, N, R, r, hf, k⟩ =>
  ⟨env, Hs, N, _, r, hf, fun x N1 h1 v H1 Hs1 g1 m1 d1 => by
    match x, h1 with
    | .bl b, h1 =>
      cases d1
      exact ⟨b, rfl, k _ _ h1 _ _ _ g1 m1 (.bl _)⟩⟩⟩
def eIf (t : TD) (fa fb : ED) : ED := fun env N Q => t env N fun k N1 => if k = true then fa env N1 Q else fb env N1 Q
theorem pd_ifExp (hc : PTd X C c ft) (ha : PEd X C a fa) (hb : PEd X C b fb) : PEd X C (.IfExp c a b pos) (eIf ft fa fb) := ⟨PE.imp (pe_ifExp hc.pt ha.pe hb.pe) fun σ H Q ⟨env, Hs, N, R, r, hf, k⟩ =>
  ⟨env, Hs, N, _, r, hf, fun x N1 h1 H1 Hs1 g1 m1 => by
    cases x with
    | true => exact iteT ⟨env, Hs1, N1, R, r.move g1 m1, by rw [if_pos rfl] at h1; exact h1, fun y N2 h2 u H2 Hs2 g2 m2 d2 => k _ _ h2 _ _ _ (g1.trans g2) m2 d2⟩
    | false => exact iteF ⟨env, Hs1, N1, R, r.move g1 m1, by rw [if_neg (by decide)] at h1; exact h1, fun y N2 h2 u H2 Hs2 g2 m2 d2 => k _ _ h2 _ _ _ (g1.trans g2) m2 d2⟩⟩⟩
/-- borrowed: x if t else y over lists of one's own -/
theorem pb_ifExp (hc : PTd X C c ft) (ha : PEb X C a fa) (hb : PEb X C b fb) : PEb X C (.IfExp c a b pos) (eIf ft fa fb) := ⟨PE.imp (pe_ifExp hc.pt ha.pe hb.pe) fun σ H Q ⟨env, Hs, N, R, r, hf, k⟩ =>
  ⟨env, Hs, N, _, r, hf, fun x N1 h1 H1 Hs1 g1 m1 => by
    cases x with
    | true => exact iteT ⟨env, Hs1, N1, R, r.move g1 m1, by rw [if_pos rfl] at h1; exact h1, fun y N2 h2 u H2 Hs2 g2 m2 d2 => k _ _ h2 _ _ _ (g1.trans g2) m2 d2⟩
    | false => exact iteF ⟨env, Hs1, N1, R, r.move g1 m1, by rw [if_neg (by decide)] at h1; exact h1, fun y N2 h2 u H2 Hs2 g2 m2 d2 => k _ _ h2 _ _ _ (g1.trans g2) m2 d2⟩⟩⟩
/-- a op1 b op2 c -/
def eChain (o o' : O2) (fa fb fc : ED) : ED := fun env N Q => fa env N fun x N1 => fb env N1 fun y N2 => o x y fun z => match z with | .bl k => (if k = true then fc env N2 fun u N3 => o' y u fun z => Q z N3 else Q (.bl false) N2) | _ => False
theorem pd_chain {op op' : CmpOp} {o o' : O2} (ho : OpD X C.w (compareOp op) o) (ho' : OpD X C.w (compareOp op') o') (ha : PEb X C a fa) (hb : PEb X C b fb) (hc : PEb X C c fc) (hm : lastMarks [op, op'] [b, c] = false := by with_unfolding_all rfl) :
    PEd X C (.Compare a [op, op'] [b, c] pos) (eChain o o' fa fb fc) := ⟨PE.imp (pe_chain ho ho' ha.pe hb.pe hc.pe hm) fun σ H Q ⟨env, Hs, N, R, r, hf, k⟩ =>
  ⟨env, Hs, N, _, r, hf, fun x N1 h1 v H1 Hs1 g1 m1 d1 => ⟨env, Hs1, N1, _, r.move g1 m1, h1, fun y N2 h2 u H2 Hs2 g2 m2 d2 => ⟨Hs2, N2, x, y, _, g2.sub, m2, d1.go g2, d2, h2, fun z hz v' H' Hs' g' m' d' => by
    match z, hz with
    | .bl true, hz =>
      cases d'
      exact ⟨true, rfl, iteT ⟨env, Hs', N2, _, (r.move (g1.trans g2) m2).move g' (m' _ m2), hz, fun u' N3 h3 v3 H3 Hs3 g3 m3 d3 => ⟨Hs3, N3, y, u', _, g3.sub, m3, (d2.go g').go g3, d3, h3, fun z4 hz4 v4 H4 Hs4 g4 m4 d4 =>
        k _ _ hz4 _ _ _ ((((g1.trans g2).trans g').trans g3).trans g4) (m4 _ m3) d4⟩⟩⟩
    | .bl false, hz =>
      cases d'
      exact ⟨false, rfl, iteF (k _ _ hz _ _ _ ((g1.trans g2).trans g') (m' _ m2) (.bl _))⟩⟩⟩⟩⟩
/-! ### displays -/
def eTup (f : AD) : ED := fun env N Q => f env N fun xs N1 => xs.length ≤ 1000000 ∧ Q (.tup xs) N1
def eLst (f : AD) : AD := fun env N Q => f env N fun xs N1 => xs.length ≤ 1000000 ∧ Q xs N1
theorem pd_tup {k : Nat} {f : AD} (h : PAd X C es f) : PEd X C (.Tuple es k pos) (eTup f) := ⟨PE.imp (pe_tup h.pa) fun σ H Q ⟨env, Hs, N, R, r, hf, k⟩ =>
  ⟨env, Hs, N, _, r, hf, fun xs N1 ⟨hl, h1⟩ vs H1 Hs1 g1 m1 d1 => ⟨by rw [d1.len]; exact Nat.le_trans hl (by decide), fun p hp => k _ _ h1 _ _ _ (g1.trans (Go.new1 g1.sub hp)) (m1.new hp) (.tup upd_same (DvA.same (fun b u e => Rd.get_up e (g1.sub.free hp)) _ _ d1))⟩⟩⟩
theorem pf_lst {f : AD} (h : PAd X C es f) : PEf X C (.List es pos) (eLst f) := ⟨PE.imp (pe_lst h.pa) fun σ H Q ⟨env, Hs, N, R, r, hf, k⟩ =>
  ⟨env, Hs, N, _, r, hf, fun xs N1 ⟨hl, h1⟩ vs H1 Hs1 g1 m1 d1 => ⟨by rw [d1.len]; exact Nat.le_trans hl (by decide), fun p hp => k _ _ h1 _ _ _ _ (g1.trans (Go.own1 g1.sub hp)) (m1.new hp) (Own.mk_new m1 g1.sub hp) (by
    cases q : H p with
    | none => rfl
    | some u => exact absurd hp (g1.there p (by rw [q]; exact fun z => by cases z))) d1⟩⟩⟩
/-- *x in a display -/
def aStar (f : ED) (g : AD) : AD := fun env N Q => f env N fun r N1 => match r with | .lst xs => (g env N1 fun rs N2 => Q (xs ++ rs) N2) | .tup xs => (g env N1 fun rs N2 => Q (xs ++ rs) N2) | _ => False
theorem pad_star {p : Pos} {g : AD} (h : PEb X C e f) (t : PAd X C es g) (hs : starEach (.Starred e p :: es) X.env = (true, eval e X.env) :: starEach es X.env := by rfl) : PAd X C (.Starred e p :: es) (aStar f g) := ⟨PA.imp (StX.pa_star h.pe t.pa hs) fun σ H Q ⟨env, Hs, N, R, r, hf, k⟩ =>
  ⟨env, Hs, N, _, r, hf, fun x N1 h1 v H1 Hs1 g1 m1 d1 => by
    match x, h1 with
    | .lst xs, h1 =>
      obtain ⟨p, vs, rfl, e1, e2⟩ := d1.list g1.sub
      exact ⟨p, vs, rfl, .inr (SqL.of e1), env, Hs1, N1, _, r.move g1 m1, h1, fun rs N2 h2 ws H2 Hs2 g2 m2 d2 => k _ _ h2 _ _ _ (g1.trans g2) m2 ((DvA.same g2.sh _ _ e2).app d2)⟩
    | .tup xs, h1 =>
      obtain ⟨p, vs, rfl, e1, _, e2⟩ := d1.tup g1.sub
      exact ⟨p, vs, rfl, .inl (SqT.of e1), env, Hs1, N1, _, r.move g1 m1, h1, fun rs N2 h2 ws H2 Hs2 g2 m2 d2 => k _ _ h2 _ _ _ (g1.trans g2) m2 ((DvA.same g2.sh _ _ e2).app d2)⟩⟩⟩
/-! ### subscripts -/
def oIx : O2
  | .lst xs, .int i, P => (match atI xs i with | some r => P r | none => False)
  | .tup xs, .int i, P => (match atI xs i with | some r => P r | none => False)
  | _, _, _ => False
theorem atI_get {K : PySem.W.Frag} {mg : Str → Option Value} {w : Dr} {H : Hp} {vs : List V} {rs : List D} {i : Int} {r : D} (h : DvA K mg w H vs rs) (e : atI rs i = some r) : ∃ v, atI vs i = some v ∧ Dv K mg w H v r := by
  unfold atI at e ⊢
  rw [h.len]
  cases q : ixN rs.length i with
  | none => rw [q] at e; cases e
  | some j =>
    rw [q] at e
    exact h.get e
theorem pd_ix (ha : PEb X C a fa) (hb : PEb X C b fb) (hs : PlainIx b := by exact fun _ _ => rfl) : PEd X C (.Subscript a b pos) (eOp oIx fa fb) := ⟨PE.imp (pe_ix (ix_list.or ix_tup) ha.pe hb.pe hs) fun σ H Q h => tOp_of (fun x y H Q ⟨Hs, N, rx, ry, P, s0, m, dx, dy, ho, out⟩ => by
  match rx, ry, ho with
  | .lst xs, .int i, ho =>
    obtain ⟨p, vs, rfl, e1, e2⟩ := dx.list s0
    have := dy.int
    subst this
    cases q : atI xs i with
    | none => simp only [oIx, q] at ho
    | some r =>
      simp only [oIx, q] at ho
      obtain ⟨v, h1, h2⟩ := atI_get e2 q
      exact .inl ⟨p, vs, i, v, rfl, rfl, SqL.of e1, h1, out.now s0 ho h2⟩
  | .tup xs, .int i, ho =>
    obtain ⟨p, vs, rfl, e1, _, e2⟩ := dx.tup s0
    have := dy.int
    subst this
    cases q : atI xs i with
    | none => simp only [oIx, q] at ho
    | some r =>
      simp only [oIx, q] at ho
      obtain ⟨v, h1, h2⟩ := atI_get e2 q
      exact .inr ⟨p, vs, i, v, rfl, rfl, SqT.of e1, h1, out.now s0 ho h2⟩) h⟩
/-! ### slices -/
def cutL {α : Type} (xs : List α) (lo hi : Option Int) : List α := (xs.drop (HT.sIx xs.length 0 lo)).take (HT.sIx xs.length xs.length hi - HT.sIx xs.length 0 lo)
abbrev PD := PEnv → Nat → (Option Int → Nat → Prop) → Prop
def pNo : PD := fun _ N Q => Q none N
def pAt (f : ED) : PD := fun env N Q => f env N fun r N1 => match r with | .int i => Q (some i) N1 | _ => False
def TPd (K : PySem.W.Frag) (mg : Str → Option Value) (C : Cn) (f : PD) : TO := fun σ H Q => ∃ env Hs N R, Rep K mg C env σ H Hs N ∧ f env N R ∧ ∀ o N', R o N' → ∀ H' Hs', Go C.w H Hs H' Hs' → Ms C.w H' N' → Q o H'
structure POd (X : Cx) (C : Cn) (e : Option Expr) (f : PD) : Prop where
  po : PO X e (TPd X.K X.mg C f)
theorem PO.imp {X : Cx} {e : Option Expr} {t t' : TO} (h : PO X e t) (i : ∀ σ H Q, t' σ H Q → t σ H Q) : PO X e t' := ⟨fun pins s σ H Q I q => h.run pins s σ H Q I (i σ H Q q)⟩
theorem pod_none : POd X C none pNo := ⟨PO.imp po_none fun σ H Q ⟨env, Hs, N, R, r, hf, k⟩ => k _ _ hf _ _ (Go.refl r.s) r.m⟩
theorem pod_some (h : PEd X C e f) : POd X C (some e) (pAt f) := ⟨PO.imp (po_some h.pe) fun σ H Q ⟨env, Hs, N, R, r, hf, k⟩ =>
  ⟨env, Hs, N, _, r, hf, fun x N1 h1 v H1 Hs1 g1 m1 d1 => by
    match x, h1 with
    | .int i, h1 =>
      cases d1
      exact ⟨i, rfl, k _ _ h1 _ _ g1 m1⟩⟩⟩
def oSl (lo hi : Option Int) : O1
  | .lst xs, P => P (.lst (cutL xs lo hi))
  | .tup xs, P => P (.tup (cutL xs lo hi))
  | _, _ => False
def eSl (fa : ED) (fl fh : PD) : ED := fun env N Q => fa env N fun x N1 => fl env N1 fun l N2 => fh env N2 fun h N3 => oSl l h x fun z => Q z N3
theorem cut_dva {K : PySem.W.Frag} {mg : Str → Option Value} {w : Dr} {H : Hp} {vs : List V} {rs : List D} (h : DvA K mg w H vs rs) (lo hi : Option Int) : DvA K mg w H (cutV vs lo hi) (cutL rs lo hi) := by
  unfold cutV cutL
  rw [h.len]
  exact (h.drop _).take _
theorem pd_slice {lo hi : Option Expr} {p2 : Pos} {fl fh : PD} (he : PEb X C e f) (hl : POd X C lo fl) (hu : POd X C hi fh) : PEd X C (.Subscript e (.Slice lo hi none p2) pos) (eSl f fl fh) := ⟨PE.imp (pe_slice (sl_list.or sl_tupA) he.pe hl.po hu.po) fun σ H Q ⟨env, Hs, N, R, r, hf, k⟩ =>
  ⟨env, Hs, N, _, r, hf, fun x N1 h1 v H1 Hs1 g1 m1 d1 => ⟨env, Hs1, N1, _, r.move g1 m1, h1, fun l N2 h2 H2 Hs2 g2 m2 => ⟨env, Hs2, N2, _, (r.move g1 m1).move g2 m2, h2, fun u N3 h3 H3 Hs3 g3 m3 => by
    have g := (g1.trans g2).trans g3
    have d3 := (d1.go g2).go g3
    match x, h3 with
    | .lst xs, h3 =>
      obtain ⟨p, vs, rfl, e1, e2⟩ := d3.list g3.sub
      exact .inl ⟨p, vs, rfl, SqL.of e1, fun q hq => k _ _ h3 _ _ _ (g.trans (Go.new1 g3.sub hq)) (m3.new hq) (.lst upd_same (DvA.same (fun b u e => Rd.get_up e (g3.sub.free hq)) _ _ (cut_dva e2 l u)))⟩
    | .tup xs, h3 =>
      obtain ⟨p, vs, rfl, e1, e1s, e2⟩ := d3.tup g3.sub
      refine .inr ⟨p, vs, rfl, SqT.of e1, fun hc => ?_, fun _ q hq => k _ _ h3 _ _ _ (g.trans (Go.new1 g3.sub hq)) (m3.new hq) (.tup upd_same (DvA.same (fun b u e => Rd.get_up e (g3.sub.free hq)) _ _ (cut_dva e2 l u)))⟩
      refine k _ _ h3 _ _ _ g m3 (.tup e1s ?_)
      have z : cutL xs l u = xs := by
        unfold cutL
        rw [← e2.len, hc.1, hc.2, e2.len]
        simp
      rw [z]
      exact e2⟩⟩⟩⟩
/-- a new list of one's own: xs[a:b] -/
def eSlF (fa : ED) (fl fh : PD) : AD := fun env N Q => fa env N fun x N1 => fl env N1 fun l N2 => fh env N2 fun h N3 => match x with | .lst xs => Q (cutL xs l h) N3 | _ => False
theorem pf_slice {lo hi : Option Expr} {p2 : Pos} {fl fh : PD} (he : PEb X C e f) (hl : POd X C lo fl) (hu : POd X C hi fh) : PEf X C (.Subscript e (.Slice lo hi none p2) pos) (eSlF f fl fh) := ⟨PE.imp (pe_slice sl_list he.pe hl.po hu.po) fun σ H Q ⟨env, Hs, N, R, r, hf, k⟩ =>
  ⟨env, Hs, N, _, r, hf, fun x N1 h1 v H1 Hs1 g1 m1 d1 => ⟨env, Hs1, N1, _, r.move g1 m1, h1, fun l N2 h2 H2 Hs2 g2 m2 => ⟨env, Hs2, N2, _, (r.move g1 m1).move g2 m2, h2, fun u N3 h3 H3 Hs3 g3 m3 => by
    have g := (g1.trans g2).trans g3
    have d3 := (d1.go g2).go g3
    match x, h3 with
    | .lst xs, h3 =>
      obtain ⟨p, vs, rfl, e1, e2⟩ := d3.list g3.sub
      exact ⟨p, vs, rfl, SqL.of e1, fun q hq => k _ _ h3 _ _ _ _ (g.trans (Go.own1 g3.sub hq)) (m3.new hq) (Own.mk_new m3 g3.sub hq) (by
        cases z : H q with
        | none => rfl
        | some u => exact absurd hq (g.there q (by rw [z]; exact fun z => by cases z))) (cut_dva e2 l u)⟩⟩⟩⟩⟩
def oRevL : O1
  | .lst xs, P => P (.lst xs.reverse)
  | _, _ => False
theorem pd_rev {k : Nat} {p1 p2 p3 : Pos} (he : PEb X C e f) : PEd X C (.Subscript e (.Slice none none (some (.UnaryOp .USub (.Constant (.int 1) k p1) p2)) p3) pos) (eUn oRevL f) := ⟨PE.imp (pe_revL he.pe) fun σ H Q ⟨env, Hs, N, R, r, hf, k⟩ =>
  ⟨env, Hs, N, _, r, hf, fun x N1 h1 v H1 Hs1 g1 m1 d1 => by
    match x, h1 with
    | .lst xs, h1 =>
      obtain ⟨p, vs, rfl, e1, e2⟩ := d1.list g1.sub
      exact ⟨p, vs, rfl, SqL.of e1, fun q hq => k _ _ h1 _ _ _ (g1.trans (Go.new1 g1.sub hq)) (m1.new hq) (.lst upd_same (DvA.same (fun b u e => Rd.get_up e (g1.sub.free hq)) _ _ e2.rev))⟩⟩⟩
/-- xs + ys, a new list of one's own -/
def eCatF (fa fb : ED) : AD := fun env N Q => fa env N fun x N1 => fb env N1 fun y N2 => match x, y with | .lst xs, .lst ys => xs.length + ys.length ≤ 1000000 ∧ Q (xs ++ ys) N2 | _, _ => False
theorem pf_cat (ha : PEb X C a fa) (hb : PEb X C b fb) : PEf X C (.BinOp a .Add b pos) (eCatF fa fb) := ⟨PE.imp (pe_op op_cat ha.pe hb.pe) fun σ H Q ⟨env, Hs, N, R, r, hf, k⟩ =>
  ⟨env, Hs, N, _, r, hf, fun x N1 h1 v H1 Hs1 g1 m1 d1 => ⟨env, Hs1, N1, _, r.move g1 m1, h1, fun y N2 h2 u H2 Hs2 g2 m2 d2 => by
    have g := g1.trans g2
    have d3 := d1.go g2
    match x, y, h2 with
    | .lst xs, .lst ys, ⟨hl, h2⟩ =>
      obtain ⟨p, vs, rfl, e1, e2⟩ := d3.list g2.sub
      obtain ⟨p', vs', rfl, e1', e2'⟩ := d2.list g2.sub
      exact ⟨p, p', vs, vs', rfl, rfl, e1, e1', by rw [e2.len, e2'.len]; exact Nat.le_trans hl (by decide), fun q hq => k _ _ h2 _ _ _ _ (g.trans (Go.own1 g2.sub hq)) (m2.new hq) (Own.mk_new m2 g2.sub hq) (by
        cases z : H q with
        | none => rfl
        | some u => exact absurd hq (g.there q (by rw [z]; exact fun z => by cases z))) (e2.app e2')⟩⟩⟩⟩
/-- x if t else y of new lists -/
def eIfF (t : TD) (fa fb : AD) : AD := fun env N Q => t env N fun k N1 => if k = true then fa env N1 Q else fb env N1 Q
theorem pf_ifExp {ga gb : AD} (hc : PTd X C c ft) (ha : PEf X C a ga) (hb : PEf X C b gb) : PEf X C (.IfExp c a b pos) (eIfF ft ga gb) := ⟨PE.imp (pe_ifExp hc.pt ha.pe hb.pe) fun σ H Q ⟨env, Hs, N, R, r, hf, k⟩ =>
  ⟨env, Hs, N, _, r, hf, fun x N1 h1 H1 Hs1 g1 m1 => by
    have old : ∀ {p : Addr}, H1 p = none → H p = none := fun {p} hp => by
      cases z : H p with
      | none => rfl
      | some u => exact absurd hp (g1.there p (by rw [z]; exact fun z => by cases z))
    cases x with
    | true => exact iteT ⟨env, Hs1, N1, R, r.move g1 m1, by rw [if_pos rfl] at h1; exact h1, fun y N2 h2 p u H2 Hs2 g2 m2 o2 hp d2 => k _ _ h2 _ _ _ _ (g1.trans g2) m2 o2 (old hp) d2⟩
    | false => exact iteF ⟨env, Hs1, N1, R, r.move g1 m1, by rw [if_neg (by decide)] at h1; exact h1, fun y N2 h2 p u H2 Hs2 g2 m2 o2 hp d2 => k _ _ h2 _ _ _ _ (g1.trans g2) m2 o2 (old hp) d2⟩⟩⟩
/-! ### fields -/
/-- the class c has f for a field of its instances -/
def FldOk (K : PySem.W.Frag) (mg : Str → Option Value) (c f : Str) : Prop := ∀ C, mg c = some (.ref C) → Cls K C ∧ NoAttr K C f
def eFld (c fn : Str) (f : ED) : ED := fun env N Q => f env N fun r N1 => match r with | .ins c' fs => c' = c ∧ (match fs.lookup fn with | some q => Q q N1 | none => False) | _ => False
theorem dvf_lookup {K : PySem.W.Frag} {mg : Str → Option Value} {w : Dr} {H : Hp} : ∀ {vs : List (Str × V)} {gs : List (Str × D)} {f : Str} {r : D}, DvF K mg w H vs gs → gs.lookup f = some r → ∃ v, vs.lookup f = some v ∧ Dv K mg w H v r
  | _, _, f, r, .nil, e => by cases e
  | _, _, f, r, .cons (f := g) h t, e => by
    rw [List.lookup_cons] at e ⊢
    cases q : f == g with
    | true => rw [q] at e; cases e; exact ⟨_, rfl, h⟩
    | false => rw [q] at e; exact dvf_lookup t e
theorem pd_fld {c' fn : Str} (ok : FldOk X.K X.mg c' fn) (h : PEd X C e f) (hb : attributeBase e fn X.env (eval e X.env) = eval e X.env := by rfl) : PEd X C (.Attribute e fn pos) (eFld c' fn f) := ⟨PE.imp (pe_fld h.pe hb) fun σ H Q ⟨env, Hs, N, R, r, hf, k⟩ =>
  ⟨env, Hs, N, _, r, hf, fun x N1 h1 v H1 Hs1 g1 m1 d1 => by
    match x, h1 with
    | .ins c1 fs, ⟨ec, hq⟩ =>
      subst ec
      cases d1 with
      | @ins a C' dx _ vs _ q1 q2 q3 =>
        cases z : fs.lookup fn with
        | none => simp only [z] at hq
        | some y =>
          simp only [z] at hq
          obtain ⟨u, w1, w2⟩ := dvf_lookup q3 z
          obtain ⟨cl, na⟩ := ok _ q2
          exact ⟨a, C', dx, vs, u, rfl, g1.sub _ _ q1, cl, na, w1, k _ _ hq _ _ _ g1 m1 w2⟩⟩⟩
end
end Pd
/-! ## Pd: targets, what is walked, comprehensions, statements, defs and their calls -/
namespace Pd
open PySem L2
/-! ### targets: names, tuples of names -/
abbrev GD := D → PEnv → (PEnv → Prop) → Prop
abbrev GsD := List D → PEnv → (PEnv → Prop) → Prop
/-- what is one's own stays where it was -/
def KeepO (env : PEnv) (σ : St) (env' : PEnv) (σ' : St) : Prop := ∀ j, OwnedAt env' j → OwnedAt env j ∧ σ'[j]? = σ[j]?
theorem KeepO.refl {env : PEnv} {σ : St} : KeepO env σ env σ := fun _ h => ⟨h, rfl⟩
theorem KeepO.trans {e e1 e2 : PEnv} {s s1 s2 : St} (a : KeepO e s e1 s1) (b : KeepO e1 s1 e2 s2) : KeepO e s e2 s2 := fun j h => ⟨(a j (b j h).1).1, (b j h).2.trans (a j (b j h).1).2⟩
theorem KeepO.set {env : PEnv} {σ : St} {i : Nat} {x : Sl} {y : Option V} (hx : x = .no ∨ ∃ r, x = .sh r) : KeepO env σ (env.set i x) (σ.set i y) := fun j h => by
  have nj : i ≠ j := fun q => by
    subst q
    rcases h with ⟨_, z⟩ | ⟨_, _, z⟩
    · by_cases hl : i < env.length
      · rw [List.getElem?_set_self hl] at z
        rcases hx with e | ⟨_, e⟩ <;> (subst e; cases z)
      · rw [List.getElem?_eq_none (by rw [List.length_set]; omega)] at z
        cases z
    · by_cases hl : i < env.length
      · rw [List.getElem?_set_self hl] at z
        rcases hx with e | ⟨_, e⟩ <;> (subst e; cases z)
      · rw [List.getElem?_eq_none (by rw [List.length_set]; omega)] at z
        cases z
  refine ⟨?_, by rw [List.getElem?_set_ne nj]⟩
  rcases h with ⟨_, z⟩ | ⟨_, _, z⟩ <;> rw [List.getElem?_set_ne nj] at z
  · exact .inl ⟨_, z⟩
  · exact .inr ⟨_, _, z⟩
theorem KeepO.wipe {env : PEnv} {σ : St} : ∀ ws : List Nat, KeepO env σ (wipeE env ws) (L2.wipe σ ws)
  | [] => KeepO.refl
  | w :: ws => (KeepO.wipe ws).trans (KeepO.set (.inl rfl))
def TGd (K : PySem.W.Frag) (mg : Str → Option Value) (C : Cn) (ws : List Nat) (f : GD) : TG := fun v σ H Q => ∃ env Hs N r R, Rep K mg C env σ H Hs N ∧ Dv K mg C.w Hs v r ∧ f r env R ∧
  ∀ env', R env' → ∀ σ', Rep K mg C env' σ' H Hs N → L2.wipe σ' ws = L2.wipe σ ws → KeepO env σ env' σ' → Q σ' H
def TGsd (K : PySem.W.Frag) (mg : Str → Option Value) (C : Cn) (ws : List Nat) (f : GsD) : TGs := fun vs σ H Q => ∃ env Hs N rs R, Rep K mg C env σ H Hs N ∧ DvA K mg C.w Hs vs rs ∧ f rs env R ∧
  ∀ env', R env' → ∀ σ', Rep K mg C env' σ' H Hs N → L2.wipe σ' ws = L2.wipe σ ws → KeepO env σ env' σ' → Q σ' H
structure PGd (X : Cx) (C : Cn) (tg : Expr) (ws : List Nat) (f : GD) : Prop where
  pg : PG X tg (TGd X.K X.mg C ws f)
structure PGsd (X : Cx) (C : Cn) (tgs : List Expr) (ws : List Nat) (f : GsD) : Prop where
  pg : PGs X tgs (TGsd X.K X.mg C ws f)
theorem wipe_set {σ : St} {i : Nat} {x : Option V} : ∀ {vs : List Nat}, i ∈ vs → L2.wipe (σ.set i x) vs = L2.wipe σ vs
  | v :: vs, h => by
    unfold L2.wipe
    by_cases hi : i ∈ vs
    · rw [wipe_set hi]
    · have e : i = v := by
        rcases List.mem_cons.mp h with e | e
        · exact e
        · exact absurd e hi
      subst e
      have key : ∀ ws : List Nat, i ∉ ws → L2.wipe (σ.set i x) ws = (L2.wipe σ ws).set i x := by
        intro ws
        induction ws with
        | nil => intro _; rfl
        | cons a as ih =>
          intro h
          unfold L2.wipe
          rw [ih (fun z => h (List.mem_cons_of_mem _ z)), List.set_comm]
          intro z
          subst z
          exact h List.mem_cons_self
      rw [key vs hi, List.set_set]
def gdName (i : Nat) : GD := fun r env Q => Q (env.set i (.sh r))
def gdNil : GsD := fun rs env Q => rs = [] ∧ Q env
def gdCons (g : GD) (h : GsD) : GsD := fun rs env Q => match rs with | r :: rs => g r env fun env1 => h rs env1 Q | [] => False
def gdTup (n : Nat) (h : GsD) : GD := fun r env Q => match r with | .tup rs => rs.length = n ∧ h rs env Q | _ => False
section
variable {X : Cx} {C : Cn} {pos : Pos} {ws : List Nat}
theorem pgd_name (i : Nat) {x : Str} (hN : X.N.Nodup) (hi : X.N[i]? = some x) (hx : Loc X.env.scope x) (hw : i ∈ ws) (hf : X.fn x = true ∨ X.env.scope.names.lookup x = some .local := by first | exact .inl rfl | exact .inr rfl | assumption) : PGd X C (.Name x pos) ws (gdName i) :=
  ⟨⟨fun pins s σ H v u Q I rv ⟨env, Hs, N, r, R, rp, d, hf', k⟩ => (pg_name hN hi hx hf).run pins s σ H v u Q I rv
    (k _ hf' _ (rp.set i (by rw [rp.len, I.len]; exact (List.getElem?_eq_some_iff.mp hi).1) d) (wipe_set hw) (KeepO.set (.inr ⟨_, rfl⟩)))⟩⟩
theorem pgsd_nil : PGsd X C [] ws gdNil := ⟨⟨fun pins s σ H vs us Q I rv ⟨env, Hs, N, rs, R, rp, d, ⟨e, hf'⟩, k⟩ => pgs_nil.run pins s σ H vs us Q I rv (by
  subst e
  cases d
  exact ⟨rfl, k _ hf' _ rp rfl KeepO.refl⟩)⟩⟩
theorem pgsd_cons {e : Expr} {es : List Expr} {g : GD} {h : GsD} (h1 : PGd X C e ws g) (h2 : PGsd X C es ws h) (hs : (assignEach (e :: es) X.env).map (·.2) = assign e X.env :: (assignEach es X.env).map (·.2) := by rfl) : PGsd X C (e :: es) ws (gdCons g h) :=
  ⟨⟨fun pins s σ H vs us Q I rv ⟨env, Hs, N, rs, R, rp, d, hf', k⟩ => (pgs_cons h1.pg h2.pg hs).run pins s σ H vs us Q I rv (by
    match rs, vs, d, hf' with
    | r :: rs, v :: vs, .cons d1 d2, hf' =>
      exact ⟨v, vs, rfl, env, Hs, N, r, _, rp, d1, hf', fun env1 h1 σ1 rp1 w1 k1 => ⟨env1, Hs, N, rs, R, rp1, d2, h1, fun env2 h2 σ2 rp2 w2 k2 => k _ h2 _ rp2 (w2.trans w1) (k1.trans k2)⟩⟩)⟩⟩
theorem pgd_tup {es : List Expr} {kk : Nat} {h : GsD} {n : Nat} (hc : X.calm = true) (h1 : PGsd X C es ws h) (hn : (assignEach es X.env).length = n := by rfl) (hst : (assignEach es X.env).findIdx? (·.1) = none := by rfl) : PGd X C (.Tuple es kk pos) ws (gdTup n h) :=
  ⟨⟨fun pins s σ H v u Q I rv ⟨env, Hs, N, r, R, rp, d, hf', k⟩ => (pg_tup hc h1.pg hn hst).run pins s σ H v u Q I rv (by
    match r, hf' with
    | .tup rs, ⟨hl, hf'⟩ =>
      cases d with
      | @tup a xs _ q1 q2 => exact ⟨a, xs, rfl, SqT.of (rp.s _ _ q1), by rw [q2.len]; exact hl, env, Hs, N, rs, R, rp, q2, hf', k⟩)⟩⟩
end
/-! ### what is walked -/
structure IterS (K : PySem.W.Frag) (mg : Str → Option Value) (w : Dr) (J : It) (items : List D) (G : Hp → Hp → Prop) : Prop where
  goes : ∀ i H Hs, Same Hs H → G H Hs → i < items.length → J.go i H
  stops : ∀ H Hs, Same Hs H → G H Hs → J.stop items.length H
  yields : ∀ i H Hs x H', Same Hs H → G H Hs → i < items.length → J.yld i H x H' → ∃ Hs' r, items[i]? = some r ∧ Go w H Hs H' Hs' ∧ (∀ N, Ms w H N → Ms w H' N) ∧ Dv K mg w Hs' x r
/-- the walk stands while the shared part stands -/
def GS (L : Hp) : Hp → Hp → Prop := fun _ Hs => Same L Hs
/-- the walk stands though a new list grows -/
def StX (G : Hp → Hp → Prop) (a : Addr) : Prop := ∀ H Hs vs, G H Hs → G (upd H a (.lst vs)) Hs
def StG (w : Dr) (G : Hp → Hp → Prop) : Prop := ∀ H Hs H' Hs', G H Hs → Go w H Hs H' Hs' → G H' Hs'
theorem GS.st {w : Dr} {L : Hp} : StG w (GS L) := fun _ _ _ _ h g => h.trans g.sh
def TId (K : PySem.W.Frag) (mg : Str → Option Value) (C : Cn) (f : AD) : TI := fun σ H R => ∃ env Hs N R0, Rep K mg C env σ H Hs N ∧ f env N R0 ∧ ∀ items N', R0 items N' → ∀ J H' Hs', Go C.w H Hs H' Hs' → Ms C.w H' N' → IterS K mg C.w J items (GS Hs') → R J H'
def TIb (K : PySem.W.Frag) (mg : Str → Option Value) (C : Cn) (f : AD) : TI := fun σ H R => ∃ env Hs N R0, Rep K mg C env σ H Hs N ∧ f env N R0 ∧ ∀ items N', R0 items N' → ∀ J H' Hs' G, Go C.w H Hs H' Hs' → Ms C.w H' N' → StG C.w G → (∀ a, H' a = none → StX G a) → G H' Hs' → IterS K mg C.w J items G → R J H'
structure PId (X : Cx) (C : Cn) (tg e : Expr) (f : AD) : Prop where
  pi : PI X tg e (TId X.K X.mg C f)
structure PIb (X : Cx) (C : Cn) (tg e : Expr) (f : AD) : Prop where
  pi : PI X tg e (TIb X.K X.mg C f)
theorem PI.imp {X : Cx} {tg e : Expr} {t t' : TI} (h : PI X tg e t) (i : ∀ σ H Q, t' σ H Q → t σ H Q) : PI X tg e t' := ⟨fun pins s σ H Q I q => h.run pins s σ H Q I (i σ H Q q)⟩
theorem PI.or {X : Cx} {tg e : Expr} {t t' : TI} (h : PI X tg e t) (h' : PI X tg e t') : PI X tg e (fun σ H R => t σ H R ∨ t' σ H R) := ⟨fun pins s σ H Q I q => q.elim (h.run pins s σ H Q I) (h'.run pins s σ H Q I)⟩
def iSeq (f : ED) : AD := fun env N Q => f env N fun r N1 => match r with | .lst xs => Q xs N1 | .tup xs => Q xs N1 | _ => False
def iRange1 (f : ED) : AD := fun env N Q => f env N fun r N1 => match r with | .int n => n ≤ 1000000 ∧ -1000000 ≤ n ∧ Q ((List.range n.toNat).map fun i => .int (i : Nat)) N1 | _ => False
def iRange2 (f g : ED) : AD := fun env N Q => f env N fun r N1 => g env N1 fun q N2 => match r, q with | .int l, .int n => (l ≤ 1000000 ∧ -1000000 ≤ l ∧ n ≤ 1000000 ∧ -1000000 ≤ n) ∧ Q ((List.range (n - l).toNat).map fun i => .int (l + (i : Nat))) N2 | _, _ => False
def enumL (xs : List D) : List D := xs.zipIdx.map fun p => .tup [.int (p.2 : Nat), p.1]
def zipL (xs ys : List D) : List D := (xs.zip ys).map fun p => .tup [p.1, p.2]
def iEnumD (f : ED) : AD := fun env N Q => f env N fun r N1 => match r with | .lst xs => Q (enumL xs) N1 | .tup xs => Q (enumL xs) N1 | _ => False
def iZipD (f g : ED) : AD := fun env N Q => f env N fun r N1 => g env N1 fun q N2 => match r, q with | .lst xs, .lst ys => Q (zipL xs ys) N2 | _, _ => False
section
variable {K : PySem.W.Frag} {mg : Str → Option Value} {w : Dr}
theorem iter_at {J : It} {vs : List V} {rs : List D} {Gw : Hp → Prop} {G : Hp → Hp → Prop} (wk : Walk J vs.length Gw (YAt vs)) (hG : ∀ H Hs, Same Hs H → G H Hs → Gw H) (hd : ∀ H Hs, Same Hs H → G H Hs → DvA K mg w Hs vs rs) (hl : vs.length = rs.length) : IterS K mg w J rs G :=
  ⟨fun i H Hs s g hi => wk.goes i H (by rw [hl]; exact hi) (hG H Hs s g), fun H Hs s g => by rw [← hl]; exact wk.stops H (hG H Hs s g), fun i H Hs x H' s g hi y => by
    obtain ⟨e1, e2⟩ := wk.yields i H x H' (by rw [hl]; exact hi) (hG H Hs s g) y
    subst e1
    obtain ⟨r, h1, h2⟩ := (hd H' Hs s g).getV e2
    exact ⟨Hs, r, h1, Go.refl s, fun _ m => m, h2⟩⟩
theorem iter_fn {J : It} {n : Nat} {f : Nat → V} {g : Nat → D} {G : Hp → Hp → Prop} (wk : Walk J n (fun _ => True) (YFn f)) (hd : ∀ Hs i, Dv K mg w Hs (f i) (g i)) : IterS K mg w J ((List.range n).map g) G :=
  ⟨fun i H Hs s _ hi => wk.goes i H (by simpa using hi) trivial, fun H Hs s _ => by simpa using wk.stops H trivial, fun i H Hs x H' s _ hi y => by
    obtain ⟨e1, e2⟩ := wk.yields i H x H' (by simpa using hi) trivial y
    subst e1 e2
    exact ⟨Hs, g i, by rw [List.getElem?_map, List.getElem?_range (by simpa using hi)]; rfl, Go.refl s, fun _ m => m, hd _ _⟩⟩
theorem iter_pair {J : It} {n : Nat} {xs ys : Nat → Option V} {rs : List D} {Gw : Hp → Prop} {G : Hp → Hp → Prop} (wk : Walk J n Gw (YPair xs ys)) (hl : n = rs.length) (hG : ∀ H Hs, Same Hs H → G H Hs → Gw H)
    (hd : ∀ H Hs i x y, Same Hs H → G H Hs → xs i = some x → ys i = some y → ∃ r q, rs[i]? = some (.tup [r, q]) ∧ Dv K mg w Hs x r ∧ Dv K mg w Hs y q) : IterS K mg w J rs G :=
  ⟨fun i H Hs s g hi => wk.goes i H (by rw [hl]; exact hi) (hG H Hs s g), fun H Hs s g => by rw [← hl]; exact wk.stops H (hG H Hs s g), fun i H Hs v H' s g hi yv => by
    obtain ⟨T, x, y, rfl, hT, rfl, e1, e2⟩ := wk.yields i H v H' (by rw [hl]; exact hi) (hG H Hs s g) yv
    obtain ⟨r, q, h1, h2, h3⟩ := hd H Hs i x y s g e1 e2
    have sm : Same Hs (upd Hs T (.tup [x, y])) := fun b u e => Rd.get_up e (s.free hT)
    exact ⟨_, _, h1, Go.new1 s hT, fun _ m => m.new hT, .tup upd_same (.cons (Dv.same sm _ _ h2) (.cons (Dv.same sm _ _ h3) .nil))⟩⟩
end
/-- what is walked is a list or a tuple, as it comes -/
def iSeqA (K : PySem.W.Frag) (tl : TE) : TI := fun σ H R => tl σ H fun x H1 => ∃ a, x = .ref a ∧ (((∃ xs, SqL K H1 a xs) ∧ R (Itl K a) H1) ∨ ((∃ xs, SqT K H1 a xs) ∧ R (Itt K a) H1))
theorem pi_seqA {X : Cx} {tg l : Expr} {tl : TE} (hl : PE X l tl) : PI X tg l (iSeqA X.K tl) := ⟨fun pins s σ H R I hw => by
  refine thn (hl.run pins s σ H _ I hw) fun u st ⟨y, Hy, Iy, ry, ⟨a, ea, q⟩⟩ => ?_
  cases ea
  cases ry
  rcases q with ⟨⟨xs, hx⟩, q⟩ | ⟨⟨xs, hx⟩, q⟩
  · obtain ⟨its, _, pl, _⟩ := Iy.list hx
    refine wpAny_pyIter_list pl.isList ⟨_, [_], _, _, Hy, rfl, Iy.kept (t' := st.toks) fun _ _ z => Heap.get?_push_of_some _ z, turn_list a _, ⟨_, Heap.get?_push_size _ rfl, rfl, rfl⟩, fun b hb => ?_, q⟩
    cases (List.mem_singleton.mp hb)
    exact Iy.fpOk (Nat.le_refl _) (Iy.hok.fresh (Nat.le_refl _))
  · obtain ⟨its, _, pl, _⟩ := Iy.tuple hx
    refine wpAny_pyIter_tuple (items := its.toArray) pl ⟨_, [_], _, _, Hy, rfl, Iy.kept (t' := st.toks) fun _ _ z => Heap.get?_push_of_some _ z, turn_tuple a _, ⟨_, Heap.get?_push_size _ rfl, rfl, rfl⟩, fun b hb => ?_, q⟩
    cases (List.mem_singleton.mp hb)
    exact Iy.fpOk (Nat.le_refl _) (Iy.hok.fresh (Nat.le_refl _))⟩
section
variable {X : Cx} {C : Cn} {tg e a b : Expr} {f fa fb : ED} {pos p : Pos}
theorem pid_seq (h : PEd X C e f) : PId X C tg e (iSeq f) := ⟨PI.imp (pi_seqA h.pe) fun σ H R ⟨env, Hs, N, R0, r, hf, k⟩ =>
  ⟨env, Hs, N, _, r, hf, fun x N1 h1 v H1 Hs1 g1 m1 d1 => by
    match x, h1 with
    | .lst rs, h1 =>
      cases d1 with
      | @lst a vs _ q1 q2 => exact ⟨a, rfl, .inl ⟨⟨vs, SqL.of (g1.sub _ _ q1)⟩, k _ _ h1 _ _ _ g1 m1 (iter_at (vs := vs) walk_list (fun H Hs s g => SqL.of (s _ _ (g _ _ q1))) (fun H Hs s g => DvA.same g _ _ q2) q2.len)⟩⟩
    | .tup rs, h1 =>
      cases d1 with
      | @tup a vs _ q1 q2 => exact ⟨a, rfl, .inr ⟨⟨vs, SqT.of (g1.sub _ _ q1)⟩, k _ _ h1 _ _ _ g1 m1 (iter_at (vs := vs) walk_tup (fun H Hs s g => SqT.of (s _ _ (g _ _ q1))) (fun H Hs s g => DvA.same g _ _ q2) q2.len)⟩⟩⟩⟩
/-- a list as it stands, shared or of one's own -/
theorem bv_walk {w : Dr} {H Hs : Hp} {v : V} {rs : List D} (s : Same Hs H) (h : Bv X.K X.mg w H Hs v (.lst rs)) : ∃ a vs, v = .ref a ∧ vs.length = rs.length ∧ ∃ G, StG w G ∧ (∀ a, H a = none → StX G a) ∧ G H Hs ∧ (∀ H Hs, Same Hs H → G H Hs → H a = some (.lst vs)) ∧ ∀ H Hs, Same Hs H → G H Hs → DvA X.K X.mg w Hs vs rs := by
  rcases h with h | ⟨a, vs, xs, rfl, e2, o, d⟩
  · cases h with
    | @lst a vs _ q1 q2 => exact ⟨a, vs, rfl, q2.len, GS Hs, GS.st, fun _ _ _ _ _ g => g, Same.refl _, fun H Hs s g => s _ _ (g _ _ q1), fun H Hs s g => DvA.same g _ _ q2⟩
  · cases e2
    exact ⟨a, vs, rfl, d.len, fun H Hs => Own w H Hs a vs ∧ DvA X.K X.mg w Hs vs rs, fun H Hs H' Hs' h g => ⟨h.1.go g, DvA.same g.sh _ _ h.2⟩, fun b hb H1 Hs1 us g => ⟨⟨(upd_ne fun z => by subst z; rw [o.at_] at hb; cases hb).trans g.1.at_, g.1.out, g.1.nd, g.1.ng, g.1.nc⟩, g.2⟩, ⟨o, d⟩, fun H Hs s g => g.1.at_, fun H Hs s g => g.2⟩
theorem pib_seq (h : PEb X C e f) : PIb X C tg e (iSeq f) := ⟨PI.imp (pi_seqA h.pe) fun σ H R ⟨env, Hs, N, R0, r, hf, k⟩ =>
  ⟨env, Hs, N, _, r, hf, fun x N1 h1 v H1 Hs1 g1 m1 d1 => by
    match x, h1 with
    | .lst rs, h1 =>
      obtain ⟨a, vs, rfl, hl, G, sG, xG, hG, hg1, hg2⟩ := bv_walk g1.sub d1
      exact ⟨a, rfl, .inl ⟨⟨vs, SqL.of (hg1 _ _ g1.sub hG)⟩, k _ _ h1 _ _ _ _ g1 m1 sG xG hG (iter_at (vs := vs) walk_list (fun H Hs s g => SqL.of (hg1 _ _ s g)) hg2 hl)⟩⟩
    | .tup rs, h1 =>
      obtain ⟨a, vs, rfl, q1, q1s, q2⟩ := d1.tup g1.sub
      exact ⟨a, rfl, .inr ⟨⟨vs, SqT.of q1⟩, k _ _ h1 _ _ _ _ g1 m1 GS.st (fun _ _ _ _ _ g => g) (Same.refl _) (iter_at (vs := vs) walk_tup (fun H Hs s g => SqT.of (s _ _ (g _ _ q1s))) (fun H Hs s g => DvA.same g _ _ q2) q2.len)⟩⟩⟩⟩
def aOne (f : ED) : AD := fun env N Q => f env N fun r N1 => Q [r] N1
theorem ta_one {K : PySem.W.Frag} {mg : Str → Option Value} {σ : St} {H : Hp} {Q : List V → Hp → Prop} (h : TEb K mg C f σ H fun v H' => Q [v] H') : tCons (TEb K mg C f) tNil σ H Q := h
theorem pid_range1 (hg : Gl X "range") (hm : X.mg "range" = none) (ha : PEb X C a fa) (hs : starEach [a] X.env = [(false, eval a X.env)] := by rfl) : PId X C tg (.Call (.Name "range" p) [a] [] pos) (iRange1 fa) :=
  ⟨PI.imp (pi_range1 hg hm (pa_cons ha.pe pa_nil hs) hs) fun σ H R ⟨env, Hs, N, R0, r, hf, k⟩ => ⟨env, Hs, N, _, r, hf, fun x N1 h1 v H1 Hs1 g1 m1 d1 => by
    match x, h1 with
    | .int n, ⟨n1, n2, h1⟩ =>
      have := d1.int
      subst this
      exact ⟨n, rfl, by omega, by omega, k _ _ h1 _ _ _ g1 m1 (iter_fn (f := fun i => .int (0 + (i : Nat))) walk_range fun Hs i => by rw [Int.zero_add]; exact .int _)⟩⟩⟩
theorem pid_range2 (hg : Gl X "range") (hm : X.mg "range" = none) (ha : PEb X C a fa) (hb : PEb X C b fb) (hs : starEach [a, b] X.env = [(false, eval a X.env), (false, eval b X.env)] := by rfl) (hs2 : starEach [b] X.env = [(false, eval b X.env)] := by rfl) :
    PId X C tg (.Call (.Name "range" p) [a, b] [] pos) (iRange2 fa fb) :=
  ⟨PI.imp (pi_range2 hg hm (pa_cons ha.pe (pa_cons hb.pe pa_nil hs2) (by rw [hs, hs2])) hs hs2) fun σ H R ⟨env, Hs, N, R0, r, hf, k⟩ => ⟨env, Hs, N, _, r, hf, fun x N1 h1 v H1 Hs1 g1 m1 d1 => ⟨env, Hs1, N1, _, r.move g1 m1, h1, fun y N2 h2 u H2 Hs2 g2 m2 d2 => by
    match x, y, h2 with
    | .int l, .int n, ⟨⟨b1, b2, b3, b4⟩, h2⟩ =>
      have := d1.int
      subst this
      have := d2.int
      subst this
      exact ⟨l, n, rfl, ⟨by omega, by omega, by omega, by omega⟩, k _ _ h2 _ _ _ (g1.trans g2) m2 (iter_fn walk_range fun Hs i => .int _)⟩⟩⟩⟩
theorem enumL_len (xs : List D) : (enumL xs).length = xs.length := by unfold enumL; simp
theorem enumL_get {xs : List D} {i : Nat} {r : D} (h : xs[i]? = some r) : (enumL xs)[i]? = some (.tup [.int (i : Nat), r]) := by
  unfold enumL
  rw [List.getElem?_map, List.getElem?_zipIdx, h]
  simp
theorem zipL_len (xs ys : List D) : (zipL xs ys).length = min xs.length ys.length := by unfold zipL; simp
theorem zipL_get {xs ys : List D} {i : Nat} {r q : D} (h : xs[i]? = some r) (h' : ys[i]? = some q) : (zipL xs ys)[i]? = some (.tup [r, q]) := by
  unfold zipL
  rw [List.getElem?_map, (List.getElem?_zip_eq_some (z := (r, q))).mpr ⟨h, h'⟩]
  rfl
variable {elts : List Expr} {kk : Nat} {tpos : Pos}
theorem pid_enum (hg : Gl X "enumerate") (hm : X.mg "enumerate" = none) (ha : PEd X C e f) (hs : starEach [e] X.env = [(false, eval e X.env)] := by rfl) : PId X C (.Tuple elts kk tpos) (.Call (.Name "enumerate" p) [e] [] pos) (iEnumD f) :=
  ⟨PI.imp (Rd.pi_enumA hg hm (pa_cons ha.pe pa_nil hs) hs) fun σ H R ⟨env, Hs, N, R0, r, hf, k⟩ => ⟨env, Hs, N, _, r, hf, fun x N1 h1 v H1 Hs1 g1 m1 d1 => by
    match x, h1 with
    | .lst rs, h1 =>
      cases d1 with
      | @lst a vs _ q1 q2 => exact ⟨a, rfl, .inl ⟨vs, SqL.of (g1.sub _ _ q1), k _ _ h1 _ _ _ g1 m1 (iter_pair (walk_enum (xs := vs)) (by rw [enumL_len]; exact q2.len) (fun H Hs s g => SqL.of (s _ _ (g _ _ q1))) fun H Hs i x y s g e1 e2 => by
        cases e1
        obtain ⟨r, h1, h2⟩ := q2.getV e2
        exact ⟨_, r, enumL_get h1, .int _, Dv.same g _ _ h2⟩)⟩⟩
    | .tup rs, h1 =>
      cases d1 with
      | @tup a vs _ q1 q2 => exact ⟨a, rfl, .inr ⟨vs, SqT.of (g1.sub _ _ q1), k _ _ h1 _ _ _ g1 m1 (iter_pair (Rd.walk_enumT (xs := vs)) (by rw [enumL_len]; exact q2.len) (fun H Hs s g => SqT.of (s _ _ (g _ _ q1))) fun H Hs i x y s g e1 e2 => by
        cases e1
        obtain ⟨r, h1, h2⟩ := q2.getV e2
        exact ⟨_, r, enumL_get h1, .int _, Dv.same g _ _ h2⟩)⟩⟩⟩⟩
theorem pib_zip (hg : Gl X "zip") (hm : X.mg "zip" = none) (ha : PEb X C a fa) (hb : PEb X C b fb) (hs : starEach [a, b] X.env = (false, eval a X.env) :: starEach [b] X.env := by rfl) (hpl : (backTo pos (starEach [b] X.env)).any (·.1) = false := by rfl)
    (hs2 : starEach [b] X.env = [(false, eval b X.env)] := by rfl) : PIb X C (.Tuple elts kk tpos) (.Call (.Name "zip" p) [a, b] [] pos) (iZipD fa fb) :=
  ⟨PI.imp (pi_zip hg hm (pa_cons ha.pe (pa_cons hb.pe pa_nil hs2) hs) hs hpl) fun σ H R ⟨env, Hs, N, R0, r, hf, k⟩ => ⟨env, Hs, N, _, r, hf, fun x N1 h1 v H1 Hs1 g1 m1 d1 => ⟨env, Hs1, N1, _, r.move g1 m1, h1, fun y N2 h2 u H2 Hs2 g2 m2 d2 => by
    match x, y, h2 with
    | .lst xs, .lst ys, h2 =>
      obtain ⟨a, vs, rfl, hl, G, sG, xG, hG, hg1, hg2⟩ := bv_walk g2.sub (d1.go g2)
      obtain ⟨b, us, rfl, hl', G', sG', xG', hG', hg1', hg2'⟩ := bv_walk g2.sub d2
      exact ⟨a, b, vs, us, rfl, SqL.of (hg1 _ _ g2.sub hG), SqL.of (hg1' _ _ g2.sub hG'), k _ _ h2 _ _ _ (fun H Hs => G H Hs ∧ G' H Hs) (g1.trans g2) m2 (fun H Hs H' Hs' h g => ⟨sG _ _ _ _ h.1 g, sG' _ _ _ _ h.2 g⟩) (fun c hc H1 Hs1 us g => ⟨xG c hc _ _ _ g.1, xG' c hc _ _ _ g.2⟩) ⟨hG, hG'⟩
        (iter_pair (walk_zip (xs := vs) (ys := us) rfl) (by rw [zipL_len, hl, hl']) (fun H Hs s g => ⟨SqL.of (hg1 _ _ s g.1), SqL.of (hg1' _ _ s g.2)⟩) fun H Hs i x y s g e1 e2 => by
          obtain ⟨r, h1, h3⟩ := (hg2 _ _ s g.1).getV e1
          obtain ⟨q, h4, h5⟩ := (hg2' _ _ s g.2).getV e2
          exact ⟨r, q, zipL_get h1 h4, h3, h5⟩)⟩⟩⟩⟩
theorem PId.pib {f : AD} (h : PId X C tg e f) : PIb X C tg e f := ⟨PI.imp h.pi fun σ H R ⟨env, Hs, N, R0, r, hf, k⟩ => ⟨env, Hs, N, R0, r, hf, fun items N' h1 J H' Hs' g1 m1 it => k _ _ h1 J H' Hs' (GS Hs') g1 m1 GS.st (fun _ _ _ _ _ g => g) (Same.refl _) it⟩⟩
end
end Pd
/-! ## Pd: comprehensions, statements, defs and their calls -/
namespace Pd
open PySem L2
/-! ### conditions of a comprehension -/
structure PTsd (X : Cx) (C : Cn) (es : List Expr) (f : TD) : Prop where
  pt : PTs X es (TTd X.K X.mg C f)
theorem PTs.imp {X : Cx} {e : List Expr} {t t' : TT} (h : PTs X e t) (i : ∀ σ H Q, t' σ H Q → t σ H Q) : PTs X e t' := ⟨fun pins s σ H Q I q => h.run pins s σ H Q I (i σ H Q q)⟩
def tYesD : TD := fun _ N Q => Q true N
section
variable {X : Cx} {C : Cn}
theorem ptsd_nil : PTsd X C [] tYesD := ⟨PTs.imp pts_nil fun σ H Q ⟨env, Hs, N, R, r, hf, k⟩ => k _ _ hf _ _ (Go.refl r.s) r.m⟩
theorem ptsd_one {c : Expr} {f : TD} (h : PTd X C c f) : PTsd X C [c] f := ⟨pts_one h.pt⟩
end
/-! ### comprehensions -/
def lcD (g : GD) (tt : TD) (fe : ED) (ws : List Nat) (env : PEnv) : List D → List D → Nat → (List D → Nat → Prop) → Prop
  | [], acc, N, Q => Q acc N
  | x :: xs, acc, N, Q => g x (wipeE env ws) fun env2 => tt env2 N fun b N3 => if b = true then fe env2 N3 (fun y N4 => acc.length < 1000000 ∧ lcD g tt fe ws env xs (acc ++ [y]) N4 Q) else lcD g tt fe ws env xs acc N3 Q
def eLc (fi : AD) (g : GD) (tt : TD) (fe : ED) (ws : List Nat) : AD := fun env N Q => fi env N fun items N1 => lcD g tt fe ws env items [] N1 Q
/-- a list of one's own at a place that no name holds is changed -/
theorem Rep.updX {K : PySem.W.Frag} {mg : Str → Option Value} {C : Cn} {env : PEnv} {σ : St} {H Hs : Hp} {N : Nat} (r : Rep K mg C env σ H Hs N) {a : Addr} {vs vs' : List V} (o : Own C.w H Hs a vs) (h0 : C.H0 a = none)
    (fr : ∀ j, OwnedAt env j → σ[j]? ≠ some (some (V.ref a))) : Rep K mg C env σ (upd H a (.lst vs')) Hs N := by
  have ne : ∀ {b : Addr} {u : HO}, Hs b = some u → b ≠ a := fun {b u} e z => by subst z; rw [o.out] at e; cases e
  refine ⟨r.m.up o.nd o.ng o.nc o.at_, r.hd, r.hg, ⟨fun b u h1 h2 hn e => ?_, fun b e => ?_, r.go.sh, fun b u e => (upd_ne (ne e)).trans (r.s _ _ e), r.go.new, r.go.nt⟩, r.len, r.sh, fun j y e => ?_, fun j c y e => ?_, r.sep⟩
  · have nb : b ≠ a := fun z => by subst z; rw [h0] at e; cases e
    exact (upd_ne nb).trans (r.go.keep b u h1 h2 hn e)
  · have nb : b ≠ a := fun z => by subst z; exact e h0
    rw [upd_ne nb]
    exact r.go.there b e
  · obtain ⟨b, ws, h1, h2, h3, h4⟩ := r.ow j y e
    have nb : b ≠ a := fun z => by subst z; exact fr j (.inl ⟨y, e⟩) h1
    exact ⟨b, ws, h1, ⟨(upd_ne nb).trans h2.at_, h2.out, h2.nd, h2.ng, h2.nc⟩, h3, h4⟩
  · obtain ⟨b, C', dx, ws, h1, h2, h3⟩ := r.ob j c y e
    have nb : b ≠ a := fun z => by subst z; exact fr j (.inr ⟨c, y, e⟩) h1
    exact ⟨b, C', dx, ws, h1, (upd_ne nb).trans h2, h3⟩
theorem Go.updX {w : Dr} {H Hs H' Hs' : Hp} {a : Addr} {vs vs' : List V} (g : Go w H Hs H' Hs') (o : Own w H' Hs' a vs) (h0 : H a = none) : Go w H Hs (upd H' a (.lst vs')) Hs' := by
  have ne : ∀ {b : Addr} {u : HO}, Hs' b = some u → b ≠ a := fun {b u} e z => by subst z; rw [o.out] at e; cases e
  refine ⟨fun b u h1 h2 hn e => ?_, fun b e => ?_, g.sh, fun b u e => (upd_ne (ne e)).trans (g.sub _ _ e), g.new, g.nt⟩
  · have nb : b ≠ a := fun z => by subst z; rw [h0] at e; cases e
    exact (upd_ne nb).trans (g.keep b u h1 h2 hn e)
  · have nb : b ≠ a := fun z => by subst z; exact e h0
    rw [upd_ne nb]
    exact g.there b e
theorem lc_sound {K : PySem.W.Frag} {mg : Str → Option Value} {C : Cn} {J : It} {items : List D} {G : Hp → Hp → Prop} {g : GD} {tt : TD} {fe : ED} {ws : List Nat} {env : PEnv} {σ : St} {H Hs : Hp} {N : Nat} {R : List D → Nat → Prop} {Q : VK}
    (r : Rep K mg C env σ H Hs N) (it : IterS K mg C.w J items G) (sG : StG C.w G) (hG : G H Hs) (hf : lcD g tt fe ws env items [] N R)
    (grow : ∀ a, H a = none → StX G a)
    (k : ∀ xs N', R xs N' → ∀ p vs H' Hs', Go C.w H Hs H' Hs' → Ms C.w H' N' → Own C.w H' Hs' p vs → H p = none → DvA K mg C.w Hs' vs xs → Q (.ref p) H') :
    ∀ D, H D = none → ∃ W : Nat → Nat → Hp → Prop, (∃ m, W 0 m (upd H D (.lst []))) ∧ ∀ i m H, W i m H →
      (J.stop i H ∧ Q (.ref D) H) ∨ (J.go i H ∧ ∃ Nx : Hp → Prop, (∀ H', Nx H' → ∃ m', m' < m ∧ W (i + 1) m' H') ∧ ∀ x H', J.yld i H x H' → TGd K mg C ws g x (L2.wipe σ ws) H' fun σ2 H2 => L2.wipe σ2 ws = L2.wipe σ ws ∧ TTd K mg C tt σ2 H2 fun b H3 =>
        if b = true then TEd K mg C fe σ2 H3 fun y H4 => ∃ acc, H4 D = some (.lst acc) ∧ acc.length < sizeLine ∧ Nx (upd H4 D (.lst (acc ++ [y]))) else Nx H3) := by
  intro D hD
  have h0 : C.H0 D = none := by
    cases z : C.H0 D with
    | none => rfl
    | some u => exact absurd hD (r.go.there D (by rw [z]; exact fun z => by cases z))
  have fr := r.fresh hD
  have gr := grow D hD
  -- what holds at turn i
  let I : Nat → Hp → Prop := fun i H' => ∃ Hs' N' acc accV, Rep K mg C env σ H' Hs' N' ∧ Go C.w H Hs H' Hs' ∧ Own C.w H' Hs' D accV ∧ DvA K mg C.w Hs' accV acc ∧ G H' Hs' ∧ lcD g tt fe ws env (items.drop i) acc N' R
  refine ⟨fun i m H' => m = items.length - i ∧ i ≤ items.length ∧ I i H', ⟨items.length, by simp, Nat.zero_le _, Hs, N, [], [], ?_⟩, ?_⟩
  · have o := Own.mk_new (vs := []) r.m r.s hD
    have g0 := Go.own1 (w := C.w) (o := .lst []) r.s hD
    exact ⟨r.move g0 (r.m.new hD), g0, o, .nil, gr _ _ _ hG, hf⟩
  · rintro i m H1 ⟨rfl, hi, Hs1, N1, acc, accV, r1, g1, o1, d1, hG1, hf1⟩
    by_cases hlt : i < items.length
    · have ei : items.drop i = items[i] :: items.drop (i + 1) := List.drop_eq_getElem_cons hlt
      rw [ei] at hf1
      refine .inr ⟨it.goes i H1 Hs1 r1.s hG1 hlt, I (i + 1), fun H' p' => ⟨items.length - (i + 1), by omega, rfl, hlt, p'⟩, fun x H2 y => ?_⟩
      obtain ⟨Hs2, q, e1, g2, m2, dq⟩ := it.yields i H1 Hs1 x H2 r1.s hG1 hlt y
      rw [List.getElem?_eq_getElem hlt] at e1
      cases e1
      have r2 := r1.move g2 (m2 _ r1.m)
      refine ⟨_, Hs2, N1, _, _, r2.wipe ws, dq, hf1, fun env3 h3 σ3 r3 w3 _ => ⟨?_, env3, Hs2, N1, _, r3, h3, fun b N3 h4 H3 Hs3 g3 m3 => ?_⟩⟩
      · have wi : ∀ σ : St, ∀ vs : List Nat, L2.wipe (L2.wipe σ vs) ws = L2.wipe (L2.wipe σ vs) ws := fun _ _ => rfl
        have idem : L2.wipe (L2.wipe σ ws) ws = L2.wipe σ ws := by
          have key : ∀ us : List Nat, (∀ u ∈ us, u ∈ ws) → L2.wipe (L2.wipe σ us) ws = L2.wipe σ ws := by
            intro us
            induction us with
            | nil => intro _; rfl
            | cons u us ih =>
              intro hu
              show L2.wipe ((L2.wipe σ us).set u none) ws = _
              rw [wipe_set (hu u List.mem_cons_self), ih fun v hv => hu v (List.mem_cons_of_mem _ hv)]
          exact key ws fun _ h => h
        rw [w3, idem]
      · have g12 := g2.trans g3
        have rr := r1.move g12 m3
        have oo := o1.go g12
        have dd := DvA.same g12.sh _ _ d1
        have GG := sG _ _ _ _ hG1 g12
        cases b with
        | false => exact iteF ⟨Hs3, N3, acc, accV, rr, g1.trans g12, oo, dd, GG, by rw [if_neg (by decide)] at h4; exact h4⟩
        | true =>
          rw [if_pos rfl] at h4
          refine iteT ⟨env3, Hs3, N3, _, r3.move g3 m3, h4, fun y4 N4 ⟨hl, h5⟩ v4 H4 Hs4 g4 m4 d4 => ?_⟩
          have o4 := oo.go g4
          have r4 := rr.move g4 m4
          have ol : accV.length = acc.length := d1.len
          refine ⟨accV, o4.at_, by rw [ol]; exact Nat.lt_trans hl (by decide), Hs4, N4, acc ++ [y4], accV ++ [v4], r4.updX o4 h0 fr, ((g1.trans g12).trans g4).updX o4 hD, ⟨upd_same, o4.out, o4.nd, o4.ng, o4.nc⟩, (DvA.same g4.sh _ _ dd).app (.cons d4 .nil), gr _ _ _ (sG _ _ _ _ GG g4), h5⟩
    · have ei : i = items.length := by omega
      subst ei
      rw [List.drop_length] at hf1
      exact .inl ⟨it.stops H1 Hs1 r1.s hG1, k _ _ hf1 _ _ _ _ g1 r1.m o1 hD d1⟩
theorem wipe_idem {σ : St} {ws : List Nat} : L2.wipe (L2.wipe σ ws) ws = L2.wipe σ ws := by
  have key : ∀ us : List Nat, (∀ u ∈ us, u ∈ ws) → L2.wipe (L2.wipe σ us) ws = L2.wipe σ ws := by
    intro us
    induction us with
    | nil => intro _; rfl
    | cons u us ih =>
      intro hu
      show L2.wipe ((L2.wipe σ us).set u none) ws = _
      rw [wipe_set (hu u List.mem_cons_self), ih fun v hv => hu v (List.mem_cons_of_mem _ hv)]
  exact key ws fun _ h => h
/-- the inner walk of a comprehension with two -/
def lcI2 (g : GD) (tt : TD) (fe : ED) (ws : List Nat) (env : PEnv) : List D → List D → Nat → (List D → Nat → Prop) → Prop
  | [], acc, N, Q => Q acc N
  | x :: xs, acc, N, Q => g x (wipeE env ws) fun env2 => tt env2 N fun b N3 => if b = true then fe env2 N3 (fun y N4 => acc.length < 1000000 ∧ lcI2 g tt fe ws env xs (acc ++ [y]) N4 Q) else lcI2 g tt fe ws env xs acc N3 Q
def lcD2 (g : GD) (tt : TD) (fi1 : AD) (g1 : GD) (tt1 : TD) (fe : ED) (ws ws1 : List Nat) (env : PEnv) : List D → List D → Nat → (List D → Nat → Prop) → Prop
  | [], acc, N, Q => Q acc N
  | x :: xs, acc, N, Q => g x (wipeE env ws) fun env2 => tt env2 N fun b N3 => if b = true then fi1 env2 N3 (fun items1 N4 => lcI2 g1 tt1 fe ws1 env2 items1 acc N4 fun acc5 N5 => lcD2 g tt fi1 g1 tt1 fe ws ws1 env xs acc5 N5 Q) else lcD2 g tt fi1 g1 tt1 fe ws ws1 env xs acc N3 Q
def eLc2 (fi : AD) (g : GD) (tt : TD) (fi1 : AD) (g1 : GD) (tt1 : TD) (fe : ED) (ws ws1 : List Nat) : AD := fun env N Q => fi env N fun items N1 => lcD2 g tt fi1 g1 tt1 fe ws ws1 env items [] N1 Q
theorem lcI2_sound {K : PySem.W.Frag} {mg : Str → Option Value} {C : Cn} {J : It} {items : List D} {G G0 : Hp → Hp → Prop} {g : GD} {tt : TD} {fe : ED} {ws : List Nat} {env env0 : PEnv} {σ σ0 : St} {Hb Hsb H Hs : Hp} {N : Nat} {R : List D → Nat → Prop} {A : Addr} {acc0 : List D} {accV0 : List V} {Nx : Hp → Prop}
    (r : Rep K mg C env σ H Hs N) (rO : Rep K mg C env0 σ0 H Hs N) (it : IterS K mg C.w J items G) (sG : StG C.w G) (hG : G H Hs) (sG0 : StG C.w G0) (hG0 : G0 H Hs) (hf : lcI2 g tt fe ws env items acc0 N R) (gr : StX G A) (gr0 : StX G0 A) (hA : Hb A = none) (h0 : C.H0 A = none)
    (fr : ∀ j, OwnedAt env j → σ[j]? ≠ some (some (V.ref A))) (fr0 : ∀ j, OwnedAt env0 j → σ0[j]? ≠ some (some (V.ref A))) (g0 : Go C.w Hb Hsb H Hs) (o0 : Own C.w H Hs A accV0) (d0 : DvA K mg C.w Hs accV0 acc0)
    (k : ∀ acc N' accV H' Hs', R acc N' → Go C.w Hb Hsb H' Hs' → Own C.w H' Hs' A accV → DvA K mg C.w Hs' accV acc → G0 H' Hs' → Rep K mg C env0 σ0 H' Hs' N' → Nx H') :
    ∃ W1 : Nat → Nat → Hp → Prop, (∃ m, W1 0 m H) ∧ ∀ j k H, W1 j k H →
      (J.stop j H ∧ Nx H) ∨ (J.go j H ∧ ∃ Nx1 : Hp → Prop, (∀ H', Nx1 H' → ∃ k', k' < k ∧ W1 (j + 1) k' H') ∧ ∀ x H', J.yld j H x H' → TGd K mg C ws g x (L2.wipe σ ws) H' fun σ3 H5 => L2.wipe σ3 ws = L2.wipe σ ws ∧ TTd K mg C tt σ3 H5 fun b H6 =>
        if b = true then TEd K mg C fe σ3 H6 fun y H7 => ∃ acc, H7 A = some (.lst acc) ∧ acc.length < sizeLine ∧ Nx1 (upd H7 A (.lst (acc ++ [y]))) else Nx1 H6) := by
  let I : Nat → Hp → Prop := fun i H' => ∃ Hs' N' acc accV, Rep K mg C env σ H' Hs' N' ∧ Rep K mg C env0 σ0 H' Hs' N' ∧ Go C.w Hb Hsb H' Hs' ∧ Own C.w H' Hs' A accV ∧ DvA K mg C.w Hs' accV acc ∧ G H' Hs' ∧ G0 H' Hs' ∧ lcI2 g tt fe ws env (items.drop i) acc N' R
  refine ⟨fun i m H' => m = items.length - i ∧ i ≤ items.length ∧ I i H', ⟨items.length, by simp, Nat.zero_le _, Hs, N, acc0, accV0, r, rO, g0, o0, d0, hG, hG0, hf⟩, ?_⟩
  rintro i m H1 ⟨rfl, hi, Hs1, N1, acc, accV, r1, rO1, g1, o1, d1, hG1, hG01, hf1⟩
  by_cases hlt : i < items.length
  · have ei : items.drop i = items[i] :: items.drop (i + 1) := List.drop_eq_getElem_cons hlt
    rw [ei] at hf1
    refine .inr ⟨it.goes i H1 Hs1 r1.s hG1 hlt, I (i + 1), fun H' p' => ⟨items.length - (i + 1), by omega, rfl, hlt, p'⟩, fun x H2 y => ?_⟩
    obtain ⟨Hs2, q, e1, g2, m2, dq⟩ := it.yields i H1 Hs1 x H2 r1.s hG1 hlt y
    rw [List.getElem?_eq_getElem hlt] at e1
    cases e1
    have r2 := r1.move g2 (m2 _ r1.m)
    refine ⟨_, Hs2, N1, _, _, r2.wipe ws, dq, hf1, fun env3 h3 σ3 r3 w3 k3 => ⟨w3.trans wipe_idem, env3, Hs2, N1, _, r3, h3, fun b N3 h4 H3 Hs3 g3 m3 => ?_⟩⟩
    have g12 := g2.trans g3
    have rr := r1.move g12 m3
    have rrO := rO1.move g12 m3
    have oo := o1.go g12
    have dd := DvA.same g12.sh _ _ d1
    have GG := sG _ _ _ _ hG1 g12
    have GG0 := sG0 _ _ _ _ hG01 g12
    cases b with
    | false => exact iteF ⟨Hs3, N3, acc, accV, rr, rrO, g1.trans g12, oo, dd, GG, GG0, by rw [if_neg (by decide)] at h4; exact h4⟩
    | true =>
      rw [if_pos rfl] at h4
      refine iteT ⟨env3, Hs3, N3, _, r3.move g3 m3, h4, fun y4 N4 ⟨hl, h5⟩ v4 H4 Hs4 g4 m4 d4 => ?_⟩
      have o4 := oo.go g4
      have ol : accV.length = acc.length := d1.len
      exact ⟨accV, o4.at_, by rw [ol]; exact Nat.lt_trans hl (by decide), Hs4, N4, acc ++ [y4], accV ++ [v4], (rr.move g4 m4).updX o4 h0 fr, (rrO.move g4 m4).updX o4 h0 fr0, ((g1.trans g12).trans g4).updX o4 hA, ⟨upd_same, o4.out, o4.nd, o4.ng, o4.nc⟩,
        (DvA.same g4.sh _ _ dd).app (.cons d4 .nil), gr _ _ _ (sG _ _ _ _ GG g4), gr0 _ _ _ (sG0 _ _ _ _ GG0 g4), h5⟩
  · have ei : i = items.length := by omega
    subst ei
    rw [List.drop_length] at hf1
    exact .inl ⟨it.stops H1 Hs1 r1.s hG1, k _ _ _ _ _ hf1 g1 o1 d1 hG01 rO1⟩
section
variable {X : Cx} {C : Cn} {elt tg iter : Expr} {ifs : List Expr} {scope : Scope} {own : List (Str × Nat)} {pos : Pos} {fi : AD} {g : GD} {tt : TD} {fe : ED}
theorem pf_lc (hc : X.calm = true) (hN : X.N.Nodup) (hi : PIb X C tg iter fi) (ok : BlkOk X.N X.env.scope scope own)
    (hg : ∀ (s : Shared) (H : Hp) (L : Addr) (cl : List (Str × Addr)) (fp : List Addr), PGd (X.blk s H scope (compEnvC scope cl L X.env) fp) C tg (own.map (·.2)) g)
    (ht : ∀ (s : Shared) (H : Hp) (L : Addr) (cl : List (Str × Addr)) (fp : List Addr), PTsd (X.blk s H scope (compEnvC scope cl L X.env) fp) C ifs tt)
    (he : ∀ (s : Shared) (H : Hp) (L : Addr) (cl : List (Str × Addr)) (fp : List Addr), PEd (X.blk s H scope (compEnvC scope cl L X.env) fp) C elt fe) (hs : ∀ x, foldedSetIterable iter X.env x = pure x := by intro _; rfl) :
    PEf X C (.ListComp elt [⟨tg, iter, ifs, 0⟩] scope pos) (eLc fi g tt fe (own.map (·.2))) :=
  ⟨PE.imp (pe_lc hc hN hi.pi ok (fun s H L cl fp => (hg s H L cl fp).pg) (fun s H L cl fp => (ht s H L cl fp).pt) (fun s H L cl fp => (he s H L cl fp).pe) hs) fun σ H Q ⟨env, Hs, N, R, r, hf, k⟩ =>
    ⟨env, Hs, N, _, r, hf, fun items N1 h1 J H1 Hs1 G g1 m1 sG xG hG it => lc_sound (r.move g1 m1) it sG hG h1 xG fun xs N' hr p vs H' Hs' g' m' o' hp d' => k _ _ hr _ _ _ _ (g1.trans g') m' o' (by
      cases z : H p with
      | none => rfl
      | some u => exact absurd hp (g1.there p (by rw [z]; exact fun z => by cases z))) d'⟩⟩
variable {tg1 iter1 : Expr} {ifs1 : List Expr} {ws1 : List Nat} {fi1 : AD} {g1 : GD} {tt1 : TD}
theorem pf_lc2 (hc : X.calm = true) (hN : X.N.Nodup) (hi : PIb X C tg iter fi) (ok : BlkOk X.N X.env.scope scope own) (hv : ∀ i ∈ ws1, i ∈ own.map (·.2))
    (hg : ∀ (s : Shared) (H : Hp) (L : Addr) (cl : List (Str × Addr)) (fp : List Addr), PGd (X.blk s H scope (compEnvC scope cl L X.env) fp) C tg (own.map (·.2)) g)
    (ht : ∀ (s : Shared) (H : Hp) (L : Addr) (cl : List (Str × Addr)) (fp : List Addr), PTsd (X.blk s H scope (compEnvC scope cl L X.env) fp) C ifs tt)
    (hi1 : ∀ (s : Shared) (H : Hp) (L : Addr) (cl : List (Str × Addr)) (fp : List Addr), PId (X.blk s H scope (compEnvC scope cl L X.env) fp) C tg1 iter1 fi1)
    (hg1 : ∀ (s : Shared) (H : Hp) (L : Addr) (cl : List (Str × Addr)) (fp : List Addr), PGd (X.blk s H scope (compEnvC scope cl L X.env) fp) C tg1 ws1 g1)
    (ht1 : ∀ (s : Shared) (H : Hp) (L : Addr) (cl : List (Str × Addr)) (fp : List Addr), PTsd (X.blk s H scope (compEnvC scope cl L X.env) fp) C ifs1 tt1)
    (he : ∀ (s : Shared) (H : Hp) (L : Addr) (cl : List (Str × Addr)) (fp : List Addr), PEd (X.blk s H scope (compEnvC scope cl L X.env) fp) C elt fe) (hs : ∀ x, foldedSetIterable iter X.env x = pure x := by intro _; rfl) (hs1 : ∀ env x, foldedSetIterable iter1 env x = pure x := by intro _ _; rfl) :
    PEf X C (.ListComp elt [⟨tg, iter, ifs, 0⟩, ⟨tg1, iter1, ifs1, 0⟩] scope pos) (eLc2 fi g tt fi1 g1 tt1 fe (own.map (·.2)) ws1) :=
  ⟨PE.imp (pe_lc2 (wi := TIb X.K X.mg C fi) (g := TGd X.K X.mg C (own.map (·.2)) g) (tt := TTd X.K X.mg C tt) (wi1 := TId X.K X.mg C fi1) (g1 := TGd X.K X.mg C ws1 g1) (tt1 := TTd X.K X.mg C tt1) (te := TEd X.K X.mg C fe) hc hN hi.pi ok hv (fun s H L cl fp => (hg s H L cl fp).pg) (fun s H L cl fp => (ht s H L cl fp).pt) (fun s H L cl fp => (hi1 s H L cl fp).pi) (fun s H L cl fp => (hg1 s H L cl fp).pg) (fun s H L cl fp => (ht1 s H L cl fp).pt) (fun s H L cl fp => (he s H L cl fp).pe) hs hs1)
    fun σ H Q ⟨env, Hs, N, R, r, hf, k⟩ => ⟨env, Hs, N, _, r, hf, fun items N1 h1 J H1 Hs1 G gg m1 sG xG hG it A hA => by
      have r := r.move gg m1
      have h0 : C.H0 A = none := by
        cases z : C.H0 A with
        | none => rfl
        | some u => exact absurd hA (r.go.there A (by rw [z]; exact fun z => by cases z))
      have fr := r.fresh hA
      have gr := xG A hA
      let I : Nat → Hp → Prop := fun i H' => ∃ Hs' N' acc accV, Rep X.K X.mg C env σ H' Hs' N' ∧ Go C.w H1 Hs1 H' Hs' ∧ Own C.w H' Hs' A accV ∧ DvA X.K X.mg C.w Hs' accV acc ∧ G H' Hs' ∧ lcD2 g tt fi1 g1 tt1 fe (own.map (·.2)) ws1 env (items.drop i) acc N' R
      refine ⟨fun i m H' => m = items.length - i ∧ i ≤ items.length ∧ I i H', ⟨items.length, by simp, Nat.zero_le _, Hs1, N1, [], [], ?_⟩, ?_⟩
      · have o := Own.mk_new (vs := []) r.m r.s hA
        have g0 := Go.own1 (w := C.w) (o := .lst []) r.s hA
        exact ⟨r.move g0 (r.m.new hA), g0, o, .nil, gr _ _ _ hG, h1⟩
      · rintro i m H2 ⟨rfl, hi, Hs2, N2, acc, accV, r2, g2, o2, d2, hG2, hf2⟩
        by_cases hlt : i < items.length
        · have ei : items.drop i = items[i] :: items.drop (i + 1) := List.drop_eq_getElem_cons hlt
          rw [ei] at hf2
          refine .inr ⟨it.goes i H2 Hs2 r2.s hG2 hlt, I (i + 1), fun H' p' => ⟨items.length - (i + 1), by omega, rfl, hlt, p'⟩, fun x H3 y => ?_⟩
          obtain ⟨Hs3, q, e1, g3, m3, dq⟩ := it.yields i H2 Hs2 x H3 r2.s hG2 hlt y
          rw [List.getElem?_eq_getElem hlt] at e1
          cases e1
          have r3 := r2.move g3 (m3 _ r2.m)
          refine ⟨_, Hs3, N2, _, _, r3.wipe _, dq, hf2, fun env4 h4 σ4 r4 w4 k4 => ⟨w4.trans wipe_idem, env4, Hs3, N2, _, r4, h4, fun b N5 h5 H5 Hs5 g5 m5 => ?_⟩⟩
          have g35 := g3.trans g5
          have rr := r2.move g35 m5
          have oo := o2.go g35
          have dd := DvA.same g35.sh _ _ d2
          have GG := sG _ _ _ _ hG2 g35
          cases b with
          | false => exact iteF ⟨Hs5, N5, acc, accV, rr, g2.trans g35, oo, dd, GG, by rw [if_neg (by decide)] at h5; exact h5⟩
          | true =>
            rw [if_pos rfl] at h5
            refine iteT ⟨env4, Hs5, N5, _, r4.move g5 m5, h5, fun items1 N6 h6 J1 H6 Hs6 g6 m6 it1 => ?_⟩
            have frq : ∀ j, OwnedAt env4 j → σ4[j]? ≠ some (some (V.ref A)) := fun j oj e => by
              obtain ⟨p1, p2⟩ := ((KeepO.wipe (env := env) (σ := σ) (own.map (·.2))).trans k4) j oj
              exact fr j p1 (p2.symm.trans e)
            refine lcI2_sound (G0 := G) (Hb := H1) (Hsb := Hs1) ((r4.move g5 m5).move g6 m6) (rr.move g6 m6) it1 GS.st (Same.refl _) sG (sG _ _ _ _ GG g6) h6 (fun _ _ _ g => g) gr hA h0 frq fr ((g2.trans g35).trans g6) (oo.go g6) (DvA.same g6.sh _ _ dd) ?_
            exact fun acc' N' accV' H' Hs' hq gq oq dq GQ rq => ⟨Hs', N', acc', accV', rq, gq, oq, dq, GQ, hq⟩
        · have ei : i = items.length := by omega
          subst ei
          rw [List.drop_length] at hf2
          exact .inl ⟨it.stops H2 Hs2 r2.s hG2, k _ _ hf2 _ _ _ _ (gg.trans g2) r2.m o2 (by
            cases z : H A with
            | none => rfl
            | some u => exact absurd hA (gg.there A (by rw [z]; exact fun z => by cases z))) d2⟩⟩⟩
end
end Pd
/-! ## Pd: statements, defs and their calls -/
namespace Pd
open PySem L2
/-- what is wanted behind a statement -/
structure PEnds where
  nx : PEnv → Nat → Prop
  rt : D → Nat → Prop
  bk : PEnv → Nat → Prop := fun _ _ => False
  ct : PEnv → Nat → Prop := fun _ _ => False
abbrev SD := PEnv → Nat → PEnds → Prop
structure Fits (K : PySem.W.Frag) (mg : Str → Option Value) (C : Cn) (L : Hp) (R : PEnds) (E : Ends) : Prop where
  nx : ∀ env N σ H Hs, Rep K mg C env σ H Hs N → Same L Hs → R.nx env N → E.nx σ H
  rt : ∀ r N v H Hs, Go C.w C.H0 C.HB H Hs → Ms C.w H N → Dv K mg C.w Hs v r → R.rt r N → E.rt v H
  bk : ∀ env N σ H Hs, Rep K mg C env σ H Hs N → Same L Hs → R.bk env N → E.bk σ H
  ct : ∀ env N σ H Hs, Rep K mg C env σ H Hs N → Same L Hs → R.ct env N → E.ct σ H
theorem Fits.up {K : PySem.W.Frag} {mg : Str → Option Value} {C : Cn} {L L' : Hp} {R : PEnds} {E : Ends} (f : Fits K mg C L R E) (s : Same L L') : Fits K mg C L' R E :=
  ⟨fun env N σ H Hs r t => f.nx env N σ H Hs r (s.trans t), f.rt, fun env N σ H Hs r t => f.bk env N σ H Hs r (s.trans t), fun env N σ H Hs r t => f.ct env N σ H Hs r (s.trans t)⟩
def TSd (K : PySem.W.Frag) (mg : Str → Option Value) (C : Cn) (f : SD) : TS := fun E σ H => ∃ env Hs N R L, Rep K mg C env σ H Hs N ∧ Same L Hs ∧ f env N R ∧ Fits K mg C L R E
structure PSd (X : Cx) (C : Cn) (st : Stmt) (f : SD) : Prop where
  ps : PS X st (TSd X.K X.mg C f)
structure PSsd (X : Cx) (C : Cn) (st : List Stmt) (f : SD) : Prop where
  ps : PSs X st (TSd X.K X.mg C f)
def fNil : SD := fun env N R => R.nx env N
def fSeq (f g : SD) : SD := fun env N R => f env N { R with nx := fun env1 N1 => g env1 N1 R }
section
variable {X : Cx} {C : Cn} {st : Stmt} {rest : List Stmt} {f g : SD} {pos : Pos} {e : Expr} {fe : ED}
theorem pssd_nil : PSsd X C [] fNil := ⟨PSs.imp pss_nil fun E σ H ⟨env, Hs, N, R, L, r, s, hf, k⟩ => k.nx _ _ _ _ _ r s hf⟩
theorem pssd_cons (h1 : PSd X C st f) (h2 : PSsd X C rest g) : PSsd X C (st :: rest) (fSeq f g) := ⟨PSs.imp (pss_cons h1.ps h2.ps) fun E σ H ⟨env, Hs, N, R, L, r, s, hf, k⟩ =>
  ⟨env, Hs, N, _, L, r, s, hf, ⟨fun env1 N1 σ1 H1 Hs1 r1 s1 h1 => ⟨env1, Hs1, N1, R, L, r1, s1, h1, k⟩, k.rt, k.bk, k.ct⟩⟩⟩
theorem pssd_one (h1 : PSd X C st f) : PSsd X C [st] f := ⟨pss_one h1.ps⟩
/-- a list of one's own becomes data -/
def fFrz (i : Nat) (f : SD) : SD := fun env N R => match env[i]? with | some (.ow xs) => f (env.set i (.sh (.lst xs))) N R | _ => False
theorem pssd_frz (i : Nat) (h : PSsd X C rest f) : PSsd X C rest (fFrz i f) := ⟨PSs.imp h.ps fun E σ H ⟨env, Hs, N, R, L, r, s, hf, k⟩ => by
  unfold fFrz at hf
  split at hf
  · rename_i xs hx
    obtain ⟨Hs', s', r'⟩ := r.frz hx
    exact ⟨_, Hs', N, R, L, r', s.trans s', hf, k⟩
  · exact hf.elim⟩
theorem psd_pass : PSd X C (.Pass pos) fNil := ⟨PS.imp ps_pass fun E σ H ⟨env, Hs, N, R, L, r, s, hf, k⟩ => k.nx _ _ _ _ _ r s hf⟩
def fBrk : SD := fun env N R => R.bk env N
def fCont : SD := fun env N R => R.ct env N
theorem psd_brk : PSd X C (.Break pos) fBrk := ⟨PS.imp ps_break fun E σ H ⟨env, Hs, N, R, L, r, s, hf, k⟩ => k.bk _ _ _ _ _ r s hf⟩
theorem psd_cont : PSd X C (.Continue pos) fCont := ⟨PS.imp ps_continue fun E σ H ⟨env, Hs, N, R, L, r, s, hf, k⟩ => k.ct _ _ _ _ _ r s hf⟩
theorem psd_doc {x : Str} {j : Nat} {p2 : Pos} : PSd X C (.Expr (.Constant (.str x) j pos) p2) fNil := ⟨PS.imp ps_doc fun E σ H ⟨env, Hs, N, R, L, r, s, hf, k⟩ => k.nx _ _ _ _ _ r s hf⟩
def fDrop (fe : ED) : SD := fun env N R => fe env N fun _ N1 => R.nx env N1
theorem psd_expr (h : PEd X C e fe) (hs : swapsWith e none pos.line X.env = pure false := by rfl) : PSd X C (.Expr e pos) (fDrop fe) := ⟨PS.imp (ps_expr h.pe hs) fun E σ H ⟨env, Hs, N, R, L, r, s, hf, k⟩ =>
  ⟨env, Hs, N, _, r, hf, fun x N1 h1 v H1 Hs1 g1 m1 d1 => k.nx _ _ _ _ _ (r.move g1 m1) (s.trans g1.sh) h1⟩⟩
def fRet (fe : ED) : SD := fun env N R => fe env N fun r N1 => R.rt r N1
theorem psd_ret (h : PEd X C e fe) : PSd X C (.Return (some e) pos) (fRet fe) := ⟨PS.imp (ps_ret h.pe) fun E σ H ⟨env, Hs, N, R, L, r, s, hf, k⟩ =>
  ⟨env, Hs, N, _, r, hf, fun x N1 h1 v H1 Hs1 g1 m1 d1 => k.rt _ _ _ _ _ (r.go.trans g1) m1 d1 h1⟩⟩
/-- return of a name: a list of one's own too -/
def fRetV (i : Nat) : SD := fun env N R => match env[i]? with | some (.sh r) => R.rt r N | some (.ow xs) => R.rt (.lst xs) N | _ => False
theorem psd_retV (i : Nat) {x : Str} {p : Pos} (hN : X.N[i]? = some x := by rfl) (hv : Vis X.env.scope x := by first | exact Or.inl rfl | exact Or.inr (Or.inl rfl) | exact Or.inr (Or.inr rfl)) (hd : (x == ("__debug__" : Str)) = false := by decide)
    (hcd : (x == ("__classdict__" : Str)) = false := by decide) : PSd X C (.Return (some (.Name x p)) pos) (fRetV i) := ⟨PS.imp (ps_ret (pe_var hN hv hd hcd)) fun E σ H ⟨env, Hs, N, R, L, r, s, hf, k⟩ => by
  unfold fRetV at hf
  split at hf
  · rename_i x hx
    obtain ⟨v, h1, h2⟩ := r.sh _ _ hx
    exact ⟨v, h1, k.rt _ _ _ _ _ r.go r.m h2 hf⟩
  · rename_i xs hx
    obtain ⟨a, vs, h1, o, h0, h4⟩ := r.ow _ _ hx
    exact ⟨_, h1, k.rt _ _ _ _ _ (own_freeze r.go o h0) r.m (dv_freeze o.out h4) hf⟩
  · exact hf.elim⟩
def fRetN : SD := fun _ N R => R.rt .non N
theorem psd_retN : PSd X C (.Return none pos) fRetN := ⟨PS.imp ps_retN fun E σ H ⟨env, Hs, N, R, L, r, s, hf, k⟩ => k.rt _ _ _ _ _ r.go r.m .non hf⟩
def fNever : SD := fun _ _ _ => False
theorem psd_never : PSd X C st fNever := ⟨PS.imp ps_never fun E σ H ⟨env, Hs, N, R, L, r, s, hf, k⟩ => hf⟩
def fIf (t : TD) (f g : SD) : SD := fun env N R => t env N fun b N1 => if b = true then f env N1 R else g env N1 R
theorem psd_if {c : Expr} {a b : List Stmt} {t : TD} (hc : PTd X C c t) (ha : PSsd X C a f) (hb : PSsd X C b g) : PSd X C (.If c a b pos) (fIf t f g) := ⟨PS.imp (ps_if hc.pt ha.ps hb.ps) fun E σ H ⟨env, Hs, N, R, L, r, s, hf, k⟩ =>
  ⟨env, Hs, N, _, r, hf, fun x N1 h1 H1 Hs1 g1 m1 => by
    cases x with
    | true => exact iteT ⟨env, Hs1, N1, R, L, r.move g1 m1, s.trans g1.sh, by rw [if_pos rfl] at h1; exact h1, k⟩
    | false => exact iteF ⟨env, Hs1, N1, R, L, r.move g1 m1, s.trans g1.sh, by rw [if_neg (by decide)] at h1; exact h1, k⟩⟩⟩
/-! x = e -/
def fSet (i : Nat) (fe : ED) : SD := fun env N R => fe env N fun r N1 => R.nx (env.set i (.sh r)) N1
theorem psd_set {i : Nat} {x : Str} {p : Pos} (hN : X.N.Nodup) (hi : X.N[i]? = some x) (hx : Loc X.env.scope x) (h : PEd X C e fe) (hf : X.fn x = true ∨ X.env.scope.names.lookup x = some .local := by first | exact .inl rfl | exact .inr rfl)
    (hs : swapsWith e (some (.Name x p)) pos.line X.env = pure false := by rfl) : PSd X C (.Assign [.Name x p] e pos) (fSet i fe) :=
  ⟨⟨fun pins s σ H E I ⟨env, Hs, N, R, L, r, sl, hf', k⟩ => (ps_asg h.pe (pg_name hN hi hx hf) hs).run pins s σ H E I
    ⟨env, Hs, N, _, r, hf', fun x N1 h1 v H1 Hs1 g1 m1 d1 => k.nx _ _ _ _ _ ((r.move g1 m1).set i (by rw [r.len, I.len]; exact (List.getElem?_eq_some_iff.mp hi).1) d1) (sl.trans g1.sh) h1⟩⟩⟩
/-- x = a new list, x's own -/
def fSetO (i : Nat) (fe : AD) : SD := fun env N R => fe env N fun xs N1 => R.nx (env.set i (.ow xs)) N1
theorem setO_of {K : PySem.W.Frag} {mg : Str → Option Value} {env : PEnv} {σ : St} {H Hs H1 Hs1 : Hp} {N N1 : Nat} {i : Nat} {p : Addr} {vs : List V} {xs : List D} (r : Rep K mg C env σ H Hs N) (g1 : Go C.w H Hs H1 Hs1) (m1 : Ms C.w H1 N1) (o : Own C.w H1 Hs1 p vs) (hp : H p = none)
    (d : DvA K mg C.w Hs1 vs xs) (hi : i < env.length) : Rep K mg C (env.set i (.ow xs)) (σ.set i (some (.ref p))) H1 Hs1 N1 :=
  (r.move g1 m1).setO i hi o (by
    cases z : C.H0 p with
    | none => rfl
    | some u => exact absurd hp (r.go.there p (by rw [z]; exact fun z => by cases z))) d fun j oj _ => r.fresh hp j oj
theorem psd_setO {i : Nat} {x : Str} {p : Pos} {fe : AD} (hN : X.N.Nodup) (hi : X.N[i]? = some x) (hx : Loc X.env.scope x) (h : PEf X C e fe) (hf : X.fn x = true ∨ X.env.scope.names.lookup x = some .local := by first | exact .inl rfl | exact .inr rfl)
    (hs : swapsWith e (some (.Name x p)) pos.line X.env = pure false := by rfl) : PSd X C (.Assign [.Name x p] e pos) (fSetO i fe) :=
  ⟨⟨fun pins s σ H E I ⟨env, Hs, N, R, L, r, sl, hf', k⟩ => (ps_asg h.pe (pg_name hN hi hx hf) hs).run pins s σ H E I
    ⟨env, Hs, N, _, r, hf', fun xs N1 h1 p vs H1 Hs1 g1 m1 o hp d1 => k.nx _ _ _ _ _ (setO_of r g1 m1 o hp d1 (by rw [r.len, I.len]; exact (List.getElem?_eq_some_iff.mp hi).1)) (sl.trans g1.sh) h1⟩⟩⟩
/-- a, b = e -/
def fAsg (fe : ED) (g : GD) : SD := fun env N R => fe env N fun r N1 => g r env fun env1 => R.nx env1 N1
theorem psd_asg {tg : Expr} {gd : GD} {ws : List Nat} (h : PEd X C e fe) (hg : PGd X C tg ws gd) (hs : swapsWith e (some tg) pos.line X.env = pure false := by rfl) (hw : swappedStores [tg] e X.env = pure none := by rfl) (h1 : (assignEach [tg] X.env).map (·.2) = [assign tg X.env] := by rfl) : PSd X C (.Assign [tg] e pos) (fAsg fe gd) :=
  ⟨PS.imp (ps_asg h.pe hg.pg (hw := hw) (h1 := h1) (hs := hs)) fun E σ H ⟨env, Hs, N, R, L, r, sl, hf', k⟩ => ⟨env, Hs, N, _, r, hf', fun x N1 h1 v H1 Hs1 g1 m1 d1 => ⟨env, Hs1, N1, x, _, r.move g1 m1, d1, h1, fun env2 h2 σ2 r2 _ _ => k.nx _ _ _ _ _ r2 (sl.trans g1.sh) h2⟩⟩⟩
/-! for -/
def loopD (g : GD) (fb : SD) : List D → SD
  | [], env, N, R => R.nx env N
  | x :: xs, env, N, R => g x env fun env1 => fb env1 N { R with nx := fun e n => loopD g fb xs e n R, ct := fun e n => loopD g fb xs e n R, bk := R.nx }
def fFor (fi : AD) (g : GD) (fb : SD) : SD := fun env N R => fi env N fun items N1 => loopD g fb items env N1 R
theorem psd_for {tg iter : Expr} {body : List Stmt} {fi : AD} {gd : GD} {fb : SD} {ws : List Nat} (hp : PassesOwn (model X.prog X.w) X.A X.env X.xe) (hc : X.calm = true) (hi : PId X C tg iter fi) (hg : PGd X C tg ws gd) (hb : PSsd X C body fb)
    (hs : ∀ x, foldedSetIterable iter X.env x = pure x := by intro _; rfl) : PSd X C (.For tg iter body [] pos) (fFor fi gd fb) :=
  ⟨PS.imp (ps_for hp hc hi.pi hg.pg hb.ps hs) fun E σ H ⟨env, Hs, N, R, L, r, sl, hf, k⟩ => ⟨env, Hs, N, _, r, hf, fun items N1 h1 J H1 Hs1 g1 m1 it => by
    let I : Nat → St → Hp → Prop := fun i σ' H' => ∃ env' Hs' N', Rep X.K X.mg C env' σ' H' Hs' N' ∧ Same Hs1 Hs' ∧ loopD gd fb (items.drop i) env' N' R
    refine ⟨fun i m σ' H' => m = items.length - i ∧ i ≤ items.length ∧ I i σ' H', ⟨items.length, by simp, Nat.zero_le _, env, Hs1, N1, r.move g1 m1, Same.refl _, h1⟩, ?_⟩
    rintro i m σ2 H2 ⟨rfl, hi, env2, Hs2, N2, r2, s2, h2⟩
    by_cases hlt : i < items.length
    · have ei : items.drop i = items[i] :: items.drop (i + 1) := List.drop_eq_getElem_cons hlt
      rw [ei] at h2
      refine .inr ⟨it.goes i H2 Hs2 r2.s s2 hlt, I (i + 1), fun σ' H' p' => ⟨items.length - (i + 1), by omega, rfl, hlt, p'⟩, fun x H3 y => ?_⟩
      obtain ⟨Hs3, q, e1, g3, m3, dq⟩ := it.yields i H2 Hs2 x H3 r2.s s2 hlt y
      rw [List.getElem?_eq_getElem hlt] at e1
      cases e1
      refine ⟨env2, Hs3, N2, _, _, r2.move g3 (m3 _ r2.m), dq, h2, fun env4 h4 σ4 r4 _ _ => ⟨env4, Hs3, N2, _, Hs1, r4, s2.trans g3.sh, h4, ?_⟩⟩
      have kk := k.up (L' := Hs1) (sl.trans g1.sh)
      exact ⟨fun e5 N5 σ5 H5 Hs5 r5 s5 h5 => ⟨e5, Hs5, N5, r5, s5, h5⟩, kk.rt, fun e5 N5 σ5 H5 Hs5 r5 s5 h5 => kk.nx _ _ _ _ _ r5 s5 h5, fun e5 N5 σ5 H5 Hs5 r5 s5 h5 => ⟨e5, Hs5, N5, r5, s5, h5⟩⟩
    · have ei : i = items.length := by omega
      subst ei
      rw [List.drop_length] at h2
      exact .inl ⟨it.stops H2 Hs2 r2.s s2, k.nx _ _ _ _ _ r2 ((sl.trans g1.sh).trans s2) h2⟩⟩⟩
/-! while -/
def fWhile (t : TD) (fb : SD) : SD := fun env N R => ∃ W : Nat → PEnv → Nat → Prop, (∃ m, W m env N) ∧ ∀ m env N, W m env N → t env N fun b N1 => if b = true then fb env N1 { R with nx := fun e n => ∃ m', m' < m ∧ W m' e n, ct := fun e n => ∃ m', m' < m ∧ W m' e n, bk := R.nx } else R.nx env N1
theorem psd_while {c : Expr} {body : List Stmt} {t : TD} {fb : SD} (hp : PassesOwn (model X.prog X.w) X.A X.env X.xe) (hc : PTd X C c t) (hb : PSsd X C body fb) : PSd X C (.While c body [] pos) (fWhile t fb) :=
  ⟨PS.imp (ps_while hp hc.pt hb.ps) fun E σ H ⟨env, Hs, N, R, L, r, sl, ⟨W, ⟨m0, w0⟩, turn⟩, k⟩ => by
    refine ⟨fun m σ' H' => ∃ env' Hs' N', Rep X.K X.mg C env' σ' H' Hs' N' ∧ Same L Hs' ∧ W m env' N', ⟨m0, env, Hs, N, r, sl, w0⟩, ?_⟩
    rintro m σ2 H2 ⟨env2, Hs2, N2, r2, s2, w2⟩
    refine ⟨env2, Hs2, N2, _, r2, turn m env2 N2 w2, fun b N3 h3 H3 Hs3 g3 m3 => ?_⟩
    cases b with
    | false => exact iteF (k.nx _ _ _ _ _ (r2.move g3 m3) (s2.trans g3.sh) (by rw [if_neg (by decide)] at h3; exact h3))
    | true =>
      rw [if_pos rfl] at h3
      refine iteT ⟨fun σ' H' => ∃ m' env' Hs' N', m' < m ∧ Rep X.K X.mg C env' σ' H' Hs' N' ∧ Same L Hs' ∧ W m' env' N', fun σ' H' ⟨m', env', Hs', N', hm, a, b, c⟩ => ⟨m', hm, env', Hs', N', a, b, c⟩, env2, Hs3, N3, _, L, r2.move g3 m3, s2.trans g3.sh, h3, ?_⟩
      exact ⟨fun e5 N5 σ5 H5 Hs5 r5 s5 ⟨m', hm, w⟩ => ⟨m', e5, Hs5, N5, hm, r5, s5, w⟩, k.rt, fun e5 N5 σ5 H5 Hs5 r5 s5 h5 => k.nx _ _ _ _ _ r5 s5 h5, fun e5 N5 σ5 H5 Hs5 r5 s5 ⟨m', hm, w⟩ => ⟨m', e5, Hs5, N5, hm, r5, s5, w⟩⟩⟩
end
end Pd
/-! ## Pd: lists of one's own changed; several names at once -/
namespace PySem
open AutoSeq1
set_option maxRecDepth 8000 in
/-- xs.extend(a tuple), whatever else its object holds -/
theorem meets_extTup (l b : Addr) (items items2 : Array Value) (n n2 : Nat) (dd : Option Addr) (sl : Array (Option Value)) (h0 : ¬(!items.isEmpty && Builtin.List.listTooLong (items.size + items2.size)) = true) (h1 : items.size ≤ sizeLine) (h2 : items.size + items2.size ≤ sizeLine + 1) :
    Meets (Builtin.«list.extend» ⟨[.ref l, .ref b], []⟩) (fun _ R s => s.heap.get? l = some ⟨.type "list", none, .seq items n, #[]⟩ ∧ s.heap.get? b = some ⟨.type "tuple", dd, .seq items2 n2, sl⟩ ∧ R (.ok (.ret Value.none)) { s with heap := s.heap.update l (Obj.mapSeq fun x => x ++ items2), toks := s.toks }) :=
  .of_wp fun prog w A R s h => by
    obtain ⟨h3, g, d, tk, os⟩ := s
    obtain ⟨hl, hb, h⟩ := h
    have f1 := idx_int
    have f2 := sub_tuple_tuple
    have f3 := sub_list_list
    have f4 := sub_tuple_list
    have f5 := sub_list_tuple
    have hs : (items ++ items2).size ≤ sizeLine + 1 := by rw [Array.size_append]; exact h2
    wp_walk using (wpAny_updateSeq hl rfl (hz := h1) (_hz' := hs)), wpAny_loadPart' hl, wpAny_loadPart' hb
    exact ⟨_, rfl, h⟩
end PySem
namespace Pd
open PySem L2
def rExtA : V → List V → Hp → VK → Prop := fun x vs H Q => ∃ l b xs zs, x = .ref l ∧ vs = [.ref b] ∧ H l = some (.lst xs) ∧ (H b = some (.lst zs) ∨ H b = some (.tup zs)) ∧ xs.length + zs.length ≤ sizeLine ∧ Q .non (upd H l (.lst (xs ++ zs)))
theorem mt_extA {X : Cx} : MtR X "list.extend" rExtA := fun pins s σ H x vs v us Q I rx rv ⟨l, b, xs, zs, e1, e2, hl, hb, hz, q⟩ => by
  rcases hb with hb | hb
  · exact mt_extend pins s σ H x vs v us Q I rx rv ⟨l, b, xs, zs, e1, e2, hl, hb, hz, q⟩
  · subst e1
    subst e2
    cases rx
    obtain ⟨u', rfl, ru⟩ := rv.one
    cases ru
    obtain ⟨z1, its, n, r, len1, e⟩ := I.lstM hl
    obtain ⟨its2, r2, hT, z2⟩ := I.tuple (SqT.of hb)
    obtain ⟨⟨cc, dd, dt, sl⟩, ho2, hc2, n2, hd2⟩ := hT
    cases hc2
    cases hd2
    have both : its.toArray.size + its2.toArray.size ≤ sizeLine := by
      have := r2.length
      rw [List.size_toArray, List.size_toArray]
      omega
    have few : ¬ (!its.toArray.isEmpty && Builtin.List.listTooLong (its.toArray.size + its2.toArray.size)) = true := by
      intro z
      rw [notLongL both, Bool.and_false] at z
      cases z
    have sz : its.toArray.size ≤ sizeLine := by rw [List.size_toArray]; omega
    refine call_meets F.slot_list_extend ⟨_, e, rfl⟩ F.entry_list_extend (F.args_list_extend_2 _ _) (meets_extTup l b its.toArray its2.toArray n n2 dd sl few sz (by omega)) ⟨e, ho2, ?_⟩
    refine ⟨.non, _, I.lset (its' := its ++ its2) hl e (by simp) (r.append r2) ?_, rfl, q⟩
    rw [List.length_append]
    omega
section
variable {X : Cx} {C : Cn} {e : Expr} {es : List Expr} {fe : ED} {pos p apos cpos : Pos} {x : Str}
/-! ### xs.append(e), xs.extend(e), xs[k] = e -/
def fApp (i : Nat) (fe : ED) : SD := fun env N R => match env[i]? with | some (.ow xs) => fe env N (fun r N1 => xs.length < 1000000 ∧ R.nx (env.set i (.ow (xs ++ [r]))) N1) | _ => False
theorem psd_app (i : Nat) (h : PEd X C e fe) (hN : X.N[i]? = some x := by rfl) (hv : Vis X.env.scope x := by first | exact Or.inl rfl | exact Or.inr (Or.inl rfl) | exact Or.inr (Or.inr rfl)) (hd : (x == ("__debug__" : Str)) = false := by decide) (hcd : (x == ("__classdict__" : Str)) = false := by decide)
    (hb : attributeBase (.Name x p) "append" X.env (eval (.Name x p) X.env) = eval (.Name x p) X.env := by rfl)
    (hfew : ((backTo cpos (starEach [e] X.env)).all (fun x => !x.1) && (backToKw cpos (keywordEach [] X.env)).all (fun x => x.1.isSome) && decide ([e].length + ([] : List Keyword).length + (if ([] : List Keyword).isEmpty then 0 else 1) < 30)) = true := by rfl)
    (hline : (apos.endLine == cpos.line) = true := by rfl) (hs : starEach [e] X.env = (false, eval e X.env) :: starEach [] X.env := by rfl) (hsw : swapsWith (.Call (.Attribute (.Name x p) "append" apos) [e] [] cpos) none pos.line X.env = pure false := by rfl) :
    PSd X C (.Expr (.Call (.Attribute (.Name x p) "append" apos) [e] [] cpos) pos) (fApp i fe) :=
  ⟨PS.imp (ps_expr (pe_bm PySem.F.plainAttrs_list PySem.F.slot_list_append PySem.F.type_list_append mt_append (pe_var hN hv hd hcd) (pa_cons h.pe pa_nil hs) hb hfew hline hs rfl) hsw) fun E σ H ⟨env, Hs, N, R, L, r, sl, hf, k⟩ => by
    unfold fApp at hf
    split at hf
    · rename_i xs hx
      obtain ⟨a, vs, h1, o, h0, d⟩ := r.ow _ _ hx
      refine ⟨.ref a, h1, .inl ⟨rfl, vs, SqL.of o.at_⟩, env, Hs, N, _, r, hf, fun y N1 ⟨hl, h2⟩ v H1 Hs1 g1 m1 d1 => ?_⟩
      have o1 := o.go g1
      refine ⟨a, vs, v, rfl, rfl, o1.at_, by rw [d.len]; exact Nat.lt_trans hl (by decide), k.nx _ _ _ _ _ ((r.move g1 m1).chg hx h1 ((DvA.same g1.sh _ _ d).app (.cons d1 .nil))) (sl.trans g1.sh) h2⟩
    · exact hf.elim⟩
def fExt (i : Nat) (fe : ED) : SD := fun env N R => match env[i]? with | some (.ow xs) => fe env N (fun r N1 => match r with | .lst ys => xs.length + ys.length ≤ 1000000 ∧ R.nx (env.set i (.ow (xs ++ ys))) N1 | .tup ys => xs.length + ys.length ≤ 1000000 ∧ R.nx (env.set i (.ow (xs ++ ys))) N1 | _ => False) | _ => False
theorem psd_ext (i : Nat) (h : PEd X C e fe) (hN : X.N[i]? = some x := by rfl) (hv : Vis X.env.scope x := by first | exact Or.inl rfl | exact Or.inr (Or.inl rfl) | exact Or.inr (Or.inr rfl)) (hd : (x == ("__debug__" : Str)) = false := by decide) (hcd : (x == ("__classdict__" : Str)) = false := by decide)
    (hb : attributeBase (.Name x p) "extend" X.env (eval (.Name x p) X.env) = eval (.Name x p) X.env := by rfl)
    (hfew : ((backTo cpos (starEach [e] X.env)).all (fun x => !x.1) && (backToKw cpos (keywordEach [] X.env)).all (fun x => x.1.isSome) && decide ([e].length + ([] : List Keyword).length + (if ([] : List Keyword).isEmpty then 0 else 1) < 30)) = true := by rfl)
    (hline : (apos.endLine == cpos.line) = true := by rfl) (hs : starEach [e] X.env = (false, eval e X.env) :: starEach [] X.env := by rfl) (hsw : swapsWith (.Call (.Attribute (.Name x p) "extend" apos) [e] [] cpos) none pos.line X.env = pure false := by rfl) :
    PSd X C (.Expr (.Call (.Attribute (.Name x p) "extend" apos) [e] [] cpos) pos) (fExt i fe) :=
  ⟨PS.imp (ps_expr (pe_bm PySem.F.plainAttrs_list PySem.F.slot_list_extend PySem.F.type_list_extend mt_extA (pe_var hN hv hd hcd) (pa_cons h.pe pa_nil hs) hb hfew hline hs rfl) hsw) fun E σ H ⟨env, Hs, N, R, L, r, sl, hf, k⟩ => by
    unfold fExt at hf
    split at hf
    · rename_i xs hx
      obtain ⟨a, vs, h1, o, h0, d⟩ := r.ow _ _ hx
      refine ⟨.ref a, h1, .inl ⟨rfl, vs, SqL.of o.at_⟩, env, Hs, N, _, r, hf, fun y N1 h2 v H1 Hs1 g1 m1 d1 => ?_⟩
      have o1 := o.go g1
      match y, h2 with
      | .lst ys, ⟨hl, h2⟩ =>
        cases d1 with
        | @lst b us _ q1 q2 => exact ⟨a, b, vs, us, rfl, rfl, o1.at_, .inl (g1.sub _ _ q1), by rw [d.len, q2.len]; exact Nat.le_trans hl (by decide), k.nx _ _ _ _ _ ((r.move g1 m1).chg hx h1 ((DvA.same g1.sh _ _ d).app q2)) (sl.trans g1.sh) h2⟩
      | .tup ys, ⟨hl, h2⟩ =>
        cases d1 with
        | @tup b us _ q1 q2 => exact ⟨a, b, vs, us, rfl, rfl, o1.at_, .inr (g1.sub _ _ q1), by rw [d.len, q2.len]; exact Nat.le_trans hl (by decide), k.nx _ _ _ _ _ ((r.move g1 m1).chg hx h1 ((DvA.same g1.sh _ _ d).app q2)) (sl.trans g1.sh) h2⟩
    · exact hf.elim⟩
/-! ### a target gets the last item, that leaves xs: tg = xs.pop() -/
theorem dropLast_dva {K : PySem.W.Frag} {mg : Str → Option Value} {w : Dr} {H : Hp} {vs : List V} {rs : List D} (h : DvA K mg w H vs rs) : DvA K mg w H vs.dropLast rs.dropLast := by
  rw [List.dropLast_eq_take, List.dropLast_eq_take, h.len]
  exact h.take _
def fPop (i : Nat) (g : GD) : SD := fun env N R => match env[i]? with | some (.ow xs) => (match xs[xs.length - 1]? with | some r => g r (env.set i (.ow xs.dropLast)) fun env1 => R.nx env1 N | none => False) | _ => False
theorem psd_pop (i : Nat) {tg : Expr} {gd : GD} {ws : List Nat} (hg : PGd X C tg ws gd) (hN : X.N[i]? = some x := by rfl) (hv : Vis X.env.scope x := by first | exact Or.inl rfl | exact Or.inr (Or.inl rfl) | exact Or.inr (Or.inr rfl)) (hd : (x == ("__debug__" : Str)) = false := by decide) (hcd : (x == ("__classdict__" : Str)) = false := by decide)
    (hb : attributeBase (.Name x p) "pop" X.env (eval (.Name x p) X.env) = eval (.Name x p) X.env := by rfl) (hline : (apos.endLine == cpos.line) = true := by rfl)
    (hs : swapsWithSole [tg] (.Call (.Attribute (.Name x p) "pop" apos) [] [] cpos) pos.line X.env = pure false := by rfl) (hw : swappedStores [tg] (.Call (.Attribute (.Name x p) "pop" apos) [] [] cpos) X.env = pure none := by rfl)
    (h1 : (assignEach [tg] X.env).map (·.2) = [assign tg X.env] := by rfl) : PSd X C (.Assign [tg] (.Call (.Attribute (.Name x p) "pop" apos) [] [] cpos) pos) (fPop i gd) :=
  ⟨PS.imp (ps_asg (pe_bm0 PySem.F.plainAttrs_list PySem.F.slot_list_pop PySem.F.type_list_pop mt_pop (pe_var hN hv hd hcd) hb hline) hg.pg hs hw h1) fun E σ H ⟨env, Hs, N, R, L, r, sl, hf, k⟩ => by
    unfold fPop at hf
    split at hf
    · rename_i xs hx
      obtain ⟨a, vs, q1, o, h0, d⟩ := r.ow _ _ hx
      cases z : xs[xs.length - 1]? with
      | none => simp only [z] at hf
      | some y =>
        simp only [z] at hf
        obtain ⟨v, e1, e2⟩ := d.get z
        refine ⟨.ref a, q1, .inl ⟨rfl, vs, SqL.of o.at_⟩, a, vs, v, rfl, rfl, o.at_, by rw [d.len]; exact e1, env.set i (.ow xs.dropLast), Hs, N, y, _, r.chg hx q1 (dropLast_dva d), e2, hf, fun env1 h1 σ1 r1 _ _ => k.nx _ _ _ _ _ r1 sl h1⟩
    · exact hf.elim⟩
/-- ys.append(xs.pop(e)) -/
def fAppPop (j i : Nat) (fe : ED) : SD := fun env N R => match env[j]?, env[i]? with
  | some (.ow ys), some (.ow xs) => fe env N (fun q N1 => match q with
    | .int k => (match ixN xs.length k with
      | some m => (match xs[m]? with
        | some r => (ys.length < 1000000 ∧ xs.length ≤ 1000000) ∧ R.nx ((env.set i (.ow (xs.eraseIdx m))).set j (.ow (ys ++ [r]))) N1
        | none => False)
      | none => False)
    | _ => False)
  | _, _ => False
theorem psd_appPop (j i : Nat) {y : Str} {p2 c2 a2 : Pos} (hij : i ≠ j) (h : PEd X C e fe) (hM : X.N[j]? = some y := by rfl) (hN : X.N[i]? = some x := by rfl) (hvy : Vis X.env.scope y := by first | exact Or.inl rfl | exact Or.inr (Or.inl rfl) | exact Or.inr (Or.inr rfl)) (hv : Vis X.env.scope x := by first | exact Or.inl rfl | exact Or.inr (Or.inl rfl) | exact Or.inr (Or.inr rfl))
    (hd : (x == ("__debug__" : Str)) = false := by decide) (hcd : (x == ("__classdict__" : Str)) = false := by decide) (hdy : (y == ("__debug__" : Str)) = false := by decide) (hcdy : (y == ("__classdict__" : Str)) = false := by decide)
    (hb : attributeBase (.Name x p) "pop" X.env (eval (.Name x p) X.env) = eval (.Name x p) X.env := by rfl) (hby : attributeBase (.Name y p2) "append" X.env (eval (.Name y p2) X.env) = eval (.Name y p2) X.env := by rfl)
    (hfew : ((backTo cpos (starEach [e] X.env)).all (fun x => !x.1) && (backToKw cpos (keywordEach [] X.env)).all (fun x => x.1.isSome) && decide ([e].length + ([] : List Keyword).length + (if ([] : List Keyword).isEmpty then 0 else 1) < 30)) = true := by rfl)
    (hfew2 : ((backTo c2 (starEach [(.Call (.Attribute (.Name x p) "pop" apos) [e] [] cpos)] X.env)).all (fun x => !x.1) && (backToKw c2 (keywordEach [] X.env)).all (fun x => x.1.isSome) && decide ([e].length + ([] : List Keyword).length + (if ([] : List Keyword).isEmpty then 0 else 1) < 30)) = true := by rfl)
    (hline : (apos.endLine == cpos.line) = true := by rfl) (hline2 : (a2.endLine == c2.line) = true := by rfl) (hs : starEach [e] X.env = (false, eval e X.env) :: starEach [] X.env := by rfl)
    (hs2 : starEach [(.Call (.Attribute (.Name x p) "pop" apos) [e] [] cpos)] X.env = (false, eval (.Call (.Attribute (.Name x p) "pop" apos) [e] [] cpos) X.env) :: starEach [] X.env := by rfl)
    (hsw : swapsWith (.Call (.Attribute (.Name y p2) "append" a2) [.Call (.Attribute (.Name x p) "pop" apos) [e] [] cpos] [] c2) none pos.line X.env = pure false := by rfl) :
    PSd X C (.Expr (.Call (.Attribute (.Name y p2) "append" a2) [.Call (.Attribute (.Name x p) "pop" apos) [e] [] cpos] [] c2) pos) (fAppPop j i fe) :=
  ⟨PS.imp (ps_expr (pe_bm PySem.F.plainAttrs_list PySem.F.slot_list_append PySem.F.type_list_append mt_append (pe_var hM hvy hdy hcdy)
      (pa_cons (pe_bm PySem.F.plainAttrs_list PySem.F.slot_list_pop PySem.F.type_list_pop mt_popAt (pe_var hN hv hd hcd) (pa_cons h.pe pa_nil hs) hb hfew hline hs rfl) pa_nil hs2) hby hfew2 hline2 hs2 rfl) hsw) fun E σ H ⟨env, Hs, N, R, L, r, sl, hf, k⟩ => by
    unfold fAppPop at hf
    split at hf
    · rename_i ys xs hy hx
      obtain ⟨a, vs, q1, o, h0, d⟩ := r.ow _ _ hx
      obtain ⟨b, us, q2, o2, h02, d2⟩ := r.ow _ _ hy
      refine ⟨.ref b, q2, .inl ⟨rfl, us, SqL.of o2.at_⟩, .ref a, q1, .inl ⟨rfl, vs, SqL.of o.at_⟩, env, Hs, N, _, r, hf, fun z N1 h2 v H1 Hs1 g1 m1 d1 => ?_⟩
      match z, h2 with
      | .int kk, h2 =>
        cases d1
        cases zm : ixN xs.length kk with
        | none => simp only [zm] at h2
        | some m =>
          simp only [zm] at h2
          cases zr : xs[m]? with
          | none => simp only [zr] at h2
          | some q =>
            simp only [zr] at h2
            obtain ⟨⟨hl, hl2⟩, h2⟩ := h2
            have r1 := r.move g1 m1
            have o1 := o.go g1
            have d1 := DvA.same g1.sh _ _ d
            have lv : vs.length = xs.length := d.len
            obtain ⟨w, e1, e2⟩ := d1.get zr
            obtain ⟨s1, s2, s3, s4⟩ := ixN_seq zm
            have rc := r1.chg hx q1 (d1.erase m)
            have hy' : (env.set i (.ow (xs.eraseIdx m)))[j]? = some (Sl.ow ys) := by rw [List.getElem?_set_ne hij]; exact hy
            obtain ⟨b', us', q2', o2', _, d2'⟩ := rc.ow _ _ hy'
            rw [q2] at q2'
            cases q2'
            exact ⟨a, vs, kk, m, w, rfl, rfl, o1.at_, by omega, by omega, by rw [lv]; exact s1, e1, b, us', w, rfl, rfl, o2'.at_, by rw [d2'.len]; exact Nat.lt_trans hl (by decide), k.nx _ _ _ _ _ (rc.chg hy' q2 (d2'.app (.cons e2 .nil))) (sl.trans g1.sh) h2⟩
    · exact hf.elim⟩
end
end Pd
/-! ## Pd: several names at once; comprehensions in one's own names; defs and their calls -/
namespace Pd
open PySem L2
/-! ### what comes into names: data, or a new list of one's own -/
inductive SlA (K : PySem.W.Frag) (mg : Str → Option Value) (w : Dr) (H0 H Hs : Hp) : List V → List Sl → Prop
  | nil : SlA K mg w H0 H Hs [] []
  | sh {v : V} {vs : List V} {r : D} {rs : List Sl} : Dv K mg w Hs v r → SlA K mg w H0 H Hs vs rs → SlA K mg w H0 H Hs (v :: vs) (.sh r :: rs)
  | ow {a : Addr} {us vs : List V} {xs : List D} {rs : List Sl} : Own w H Hs a us → H0 a = none → DvA K mg w Hs us xs → (∀ b : Addr, V.ref b ∈ vs → H0 b = none → Hs b = none → b ≠ a) → SlA K mg w H0 H Hs vs rs → SlA K mg w H0 H Hs (.ref a :: vs) (.ow xs :: rs)
abbrev MD := PEnv → Nat → (List Sl → Nat → Prop) → Prop
def TMd (K : PySem.W.Frag) (mg : Str → Option Value) (C : Cn) (f : MD) : TA := fun σ H Q => ∃ env Hs N R, Rep K mg C env σ H Hs N ∧ f env N R ∧ ∀ rs N', R rs N' → ∀ vs H' Hs', Go C.w H Hs H' Hs' → Ms C.w H' N' → SlA K mg C.w H H' Hs' vs rs → Q vs H'
structure PMd (X : Cx) (C : Cn) (es : List Expr) (f : MD) : Prop where
  pa : PA X es (TMd X.K X.mg C f)
def mNil : MD := fun _ N Q => Q [] N
def mSh (f : ED) (g : MD) : MD := fun env N Q => f env N fun r N1 => g env N1 fun rs N2 => Q (.sh r :: rs) N2
def mOw (f : AD) (g : MD) : MD := fun env N Q => f env N fun xs N1 => g env N1 fun rs N2 => Q (.ow xs :: rs) N2
section
variable {X : Cx} {C : Cn} {e : Expr} {es : List Expr} {pos : Pos}
theorem free_back {w : Dr} {H Hs H' Hs' : Hp} (g : Go w H Hs H' Hs') {p : Addr} (hp : H' p = none) : H p = none := by
  cases z : H p with
  | none => rfl
  | some u => exact absurd hp (g.there p (by rw [z]; exact fun z => by cases z))
theorem SlA.weak {K : PySem.W.Frag} {mg : Str → Option Value} {w : Dr} {H0 H1 H Hs : Hp} {vs : List V} {rs : List Sl} (h : SlA K mg w H1 H Hs vs rs) (f : ∀ p, H1 p = none → H0 p = none) (g : ∀ b, H0 b = none → Hs b = none → H1 b ≠ none → ∀ a, H1 a = none → b ≠ a) : SlA K mg w H0 H Hs vs rs := by
  induction h with
  | nil => exact .nil
  | sh d _ ih => exact .sh d ih
  | @ow a us vs xs rs o h0 d n _ ih =>
    exact .ow o (f _ h0) d (fun b hb e1 e2 z => by
      subst z
      exact n b hb h0 e2 rfl) ih
theorem pmd_nil : PMd X C [] mNil := ⟨PA.imp pa_nil fun σ H Q ⟨env, Hs, N, R, r, hf, k⟩ => k _ _ hf [] H Hs (Go.refl r.s) r.m .nil⟩
theorem pmd_sh {f : ED} {g : MD} (h : PEd X C e f) (t : PMd X C es g) (hs : starEach (e :: es) X.env = (false, eval e X.env) :: starEach es X.env := by rfl) : PMd X C (e :: es) (mSh f g) := ⟨PA.imp (pa_cons h.pe t.pa hs) fun σ H Q ⟨env, Hs, N, R, r, hf, k⟩ =>
  ⟨env, Hs, N, _, r, hf, fun x N1 h1 v H1 Hs1 g1 m1 d1 => ⟨env, Hs1, N1, _, r.move g1 m1, h1, fun xs N2 h2 vs H2 Hs2 g2 m2 d2 => k _ _ h2 _ H2 Hs2 (g1.trans g2) m2 (.sh (Dv.same g2.sh _ _ d1) (d2.weak (fun p hp => free_back g1 hp) fun b _ _ hb a ha z => by subst z; exact hb ha))⟩⟩⟩
theorem pmd_ow {f : AD} {g : MD} (h : PEf X C e f) (t : PMd X C es g) (hs : starEach (e :: es) X.env = (false, eval e X.env) :: starEach es X.env := by rfl) : PMd X C (e :: es) (mOw f g) := ⟨PA.imp (pa_cons h.pe t.pa hs) fun σ H Q ⟨env, Hs, N, R, r, hf, k⟩ =>
  ⟨env, Hs, N, _, r, hf, fun x N1 h1 p us H1 Hs1 g1 m1 o1 hp d1 => ⟨env, Hs1, N1, _, r.move g1 m1, h1, fun xs N2 h2 vs H2 Hs2 g2 m2 d2 => k _ _ h2 _ H2 Hs2 (g1.trans g2) m2 (.ow (o1.go g2) hp (DvA.same g2.sh _ _ d1) (fun b hb e1 e2 z => by
    subst z
    -- a place that the rest gave: new behind the first
    have key : ∀ {vs : List V} {rs : List Sl}, SlA X.K X.mg C.w H1 H2 Hs2 vs rs → V.ref b ∈ vs → False := by
      intro vs rs hh
      induction hh with
      | nil => intro h; cases h
      | sh d _ ih =>
        intro h
        rcases List.mem_cons.mp h with q | q
        · subst q
          cases d with
          | lst q1 _ => rw [e2] at q1; cases q1
          | tup q1 _ => rw [e2] at q1; cases q1
          | ins q1 _ _ => rw [e2] at q1; cases q1
          | exc q1 _ _ _ => rw [e2] at q1; cases q1
          | exc0 q1 _ => rw [e2] at q1; cases q1
          | fn q1 => rw [e2] at q1; cases q1
          | mt q1 => rw [e2] at q1; cases q1
          | drw => exact o1.nd rfl
        · exact ih q
      | ow o h0 d n _ ih =>
        intro h
        rcases List.mem_cons.mp h with q | q
        · cases q
          have := o1.at_
          rw [h0] at this
          cases this
        · exact ih q
    exact key d2 hb) (d2.weak (fun p hp => free_back g1 hp) fun b _ _ hb a ha z => by subst z; exact hb ha))⟩⟩⟩
/-- names set, one after another -/
def setsE : PEnv → List Nat → List Sl → PEnv
  | env, i :: is, s :: ss => setsE (env.set i s) is ss
  | env, _, _ => env
def setsS : St → List Nat → List V → St
  | σ, i :: is, v :: vs => setsS (σ.set i (some v)) is vs
  | σ, _, _ => σ
theorem Rep.sets {K : PySem.W.Frag} {mg : Str → Option Value} {H0 H Hs : Hp} {N : Nat} : ∀ {is : List Nat} {vs : List V} {rs : List Sl} {env : PEnv} {σ : St}, Rep K mg C env σ H Hs N → SlA K mg C.w H0 H Hs vs rs → (∀ p, H0 p = none → C.H0 p = none) → (∀ i ∈ is, i < env.length) →
    (∀ j, OwnedAt env j → ∀ a, σ[j]? = some (some (V.ref a)) → V.ref a ∈ vs → False) → Rep K mg C (setsE env is rs) (setsS σ is vs) H Hs N
  | [], _, _, _, _, r, .nil, _, _, _ => r
  | [], _, _, _, _, r, .sh _ _, _, _, _ => r
  | [], _, _, _, _, r, .ow _ _ _ _ _, _, _, _ => r
  | _ :: _, _, _, _, _, r, .nil, _, _, _ => r
  | i :: is, _, _, env, σ, r, .sh (v := v) (vs := vs) (r := x) d t, hh, hl, fr => by
    refine Rep.sets (is := is) (r.set i (hl i List.mem_cons_self) d) t hh (fun j hj => by rw [List.length_set]; exact hl j (List.mem_cons_of_mem _ hj)) fun j oj a e m => ?_
    obtain ⟨o1, o2⟩ := KeepO.set (env := env) (σ := σ) (i := i) (x := .sh x) (y := some v) (.inr ⟨_, rfl⟩) j oj
    exact fr j o1 a (o2.symm.trans e) (List.mem_cons_of_mem _ m)
  | i :: is, _, _, env, σ, r, .ow (a := a) (us := us) (vs := vs) (xs := xs) o h0 d n t, hh, hl, fr => by
    have il := hl i List.mem_cons_self
    refine Rep.sets (is := is) (r.setO i il o (hh _ h0) d fun j oj _ e => fr j oj a e List.mem_cons_self) t hh (fun j hj => by rw [List.length_set]; exact hl j (List.mem_cons_of_mem _ hj)) fun j oj b e m => ?_
    by_cases q : i = j
    · subst q
      rw [List.getElem?_set_self (by rw [← r.len]; exact il)] at e
      cases e
      exact n a m h0 o.out rfl
    · rw [List.getElem?_set_ne q] at e
      refine fr j ?_ b e (List.mem_cons_of_mem _ m)
      rcases oj with ⟨_, z⟩ | ⟨_, _, z⟩ <;> rw [List.getElem?_set_ne q] at z
      · exact .inl ⟨_, z⟩
      · exact .inr ⟨_, _, z⟩
/-- what the new values are is none of what was one's own -/
theorem sla_fresh {K : PySem.W.Frag} {mg : Str → Option Value} {env : PEnv} {σ : St} {H Hs H' Hs' : Hp} {N : Nat} (r : Rep K mg C env σ H Hs N) (g : Go C.w H Hs H' Hs') {vs : List V} {rs : List Sl} (h : SlA K mg C.w H H' Hs' vs rs) :
    ∀ j, OwnedAt env j → ∀ a, σ[j]? = some (some (V.ref a)) → V.ref a ∈ vs → False := fun j oj a e m => by
  obtain ⟨b, h1, h2, h3⟩ := r.owned oj
  rw [h1] at e
  cases e
  have hd : a ≠ C.w.d := by
    rcases oj with ⟨_, z⟩ | ⟨_, _, z⟩
    · obtain ⟨a', vs', q1, q2, _⟩ := r.ow _ _ z
      rw [h1] at q1
      cases q1
      exact q2.nd
    · obtain ⟨a', C', dx, vs', q1, q2, q3, q4, q5, q6, _⟩ := r.ob _ _ _ z
      rw [h1] at q1
      cases q1
      exact q6
  have out := g.new a h3 h2
  induction h with
  | nil => cases m
  | sh d _ ih =>
    rcases List.mem_cons.mp m with q | q
    · subst q
      cases d with
      | lst q1 _ => rw [out] at q1; cases q1
      | tup q1 _ => rw [out] at q1; cases q1
      | ins q1 _ _ => rw [out] at q1; cases q1
      | exc q1 _ _ _ => rw [out] at q1; cases q1
      | exc0 q1 _ => rw [out] at q1; cases q1
      | fn q1 => rw [out] at q1; cases q1
      | mt q1 => rw [out] at q1; cases q1
      | drw => exact hd rfl
    · exact ih q
  | ow o h0 d n _ ih =>
    rcases List.mem_cons.mp m with q | q
    · cases q
      exact h3 h0
    · exact ih q
/-- a, b = e1, e2: two names -/
def fPar (is : List Nat) (f : MD) : SD := fun env N R => f env N fun rs N1 => rs.length = is.length ∧ R.nx (setsE env is rs) N1
theorem SlA.len {K : PySem.W.Frag} {mg : Str → Option Value} {w : Dr} {H0 H Hs : Hp} {vs : List V} {rs : List Sl} (h : SlA K mg w H0 H Hs vs rs) : vs.length = rs.length := by
  induction h with
  | nil => rfl
  | sh _ _ ih => exact congrArg Nat.succ ih
  | ow _ _ _ _ _ ih => exact congrArg Nat.succ ih
theorem psd_par {i j : Nat} {x y : Str} {a b : Expr} {f : MD} {px py pt : Pos} {kt k2 : Nat} {pt2 : Pos} (hc : X.calm = true) (hN : X.N.Nodup) (hi : X.N[i]? = some x) (hj : X.N[j]? = some y) (hij : i ≠ j)
    (hx : X.env.scope.names.lookup x = some .local) (hy : X.env.scope.names.lookup y = some .local) (ha : PMd X C [a, b] f)
    (hw : swappedStores [.Tuple [.Name x px, .Name y py] kt pt] (.Tuple [a, b] k2 pt2) X.env = pure (some [x, y]))
    (hs : swapsWithSole [.Tuple [.Name x px, .Name y py] kt pt] (.Tuple [a, b] k2 pt2) pos.line X.env = pure false := by rfl) :
    PSd X C (.Assign [.Tuple [.Name x px, .Name y py] kt pt] (.Tuple [a, b] k2 pt2) pos) (fPar [i, j] f) :=
  ⟨⟨fun pins s σ H E I ⟨env, Hs, N, R, L, r, sl, hf, k⟩ => (ps_par hc hN hi hj hij hx hy ha.pa hw hs).run pins s σ H E I ⟨env, Hs, N, _, r, hf, fun rs N1 ⟨hl, h1⟩ vs H1 Hs1 g1 m1 d1 => by
    have lv := d1.len
    rw [hl] at lv
    match vs, lv, d1 with
    | [v, u], _, d1 =>
      refine ⟨v, u, rfl, k.nx _ _ _ _ _ (Rep.sets (is := [i, j]) (r.move g1 m1) d1 (fun p hp => free_back r.go hp) (fun q hq => ?_) (sla_fresh r g1 d1)) (sl.trans g1.sh) h1⟩
      have li := (List.getElem?_eq_some_iff.mp hi).1
      have lj := (List.getElem?_eq_some_iff.mp hj).1
      have e : env.length = X.N.length := by rw [r.len, I.len]
      rcases List.mem_cons.mp hq with q | q
      · rw [q, e]; exact li
      · rw [List.mem_singleton.mp q, e]; exact lj⟩⟩⟩
end
end Pd
/-! ## Pd: built-ins; comprehensions in names; defs and their calls -/
namespace Pd
open PySem L2
section
variable {X : Cx} {C : Cn} {e : Expr} {es : List Expr} {pos p : Pos} {x : Str} {id T : String} {fa : AD}
theorem pd_callB {o : OL} (hc : CallD X C.w (.builtin id) o) (hg : Gl X x) (hm : X.mg x = none) (hv : bootBuiltins x = some (.builtin id)) (ha : PAb X C (e :: es) fa) (hn : x ≠ "__name__" := by decide) (hdb : (x == ("__debug__" : Str)) = false := by decide)
    (he : starEach (e :: es) X.env = (false, eval e X.env) :: starEach es X.env := by rfl) (hpl : (backTo pos (starEach es X.env)).any (·.1) = false := by rfl) : PEd X C (.Call (.Name x p) (e :: es) [] pos) (eCall o fa) :=
  ⟨PE.imp (pe_callB hc hg hm hv ha.pa hn hdb he hpl) fun _ _ _ h => cb_of (fun _ _ _ h => h) h⟩
theorem pd_callT {o : OL} (hc : CallD X C.w (.type T) o) (hg : Gl X x) (hm : X.mg x = none) (hv : bootBuiltins x = some (.type T)) (ha : PAb X C (e :: es) fa) (hn : x ≠ "__name__" := by decide) (hdb : (x == ("__debug__" : Str)) = false := by decide)
    (he : starEach (e :: es) X.env = (false, eval e X.env) :: starEach es X.env := by rfl) (hpl : (backTo pos (starEach es X.env)).any (·.1) = false := by rfl) : PEd X C (.Call (.Name x p) (e :: es) [] pos) (eCall o fa) :=
  ⟨PE.imp (pe_callTy hc hg hm hv ha.pa hn hdb he hpl) fun _ _ _ h => cb_of (fun _ _ _ h => h) h⟩
theorem pf_callB {o : OF} (hc : CallF X C.w (.builtin id) o) (hg : Gl X x) (hm : X.mg x = none) (hv : bootBuiltins x = some (.builtin id)) (ha : PAb X C (e :: es) fa) (hn : x ≠ "__name__" := by decide) (hdb : (x == ("__debug__" : Str)) = false := by decide)
    (he : starEach (e :: es) X.env = (false, eval e X.env) :: starEach es X.env := by rfl) (hpl : (backTo pos (starEach es X.env)).any (·.1) = false := by rfl) : PEf X C (.Call (.Name x p) (e :: es) [] pos) (eCallF o fa) :=
  ⟨PE.imp (pe_callB hc hg hm hv ha.pa hn hdb he hpl) fun _ _ _ h => cbf_of (fun _ _ _ h => h) h⟩
theorem pf_callT {o : OF} (hc : CallF X C.w (.type T) o) (hg : Gl X x) (hm : X.mg x = none) (hv : bootBuiltins x = some (.type T)) (ha : PAb X C (e :: es) fa) (hn : x ≠ "__name__" := by decide) (hdb : (x == ("__debug__" : Str)) = false := by decide)
    (he : starEach (e :: es) X.env = (false, eval e X.env) :: starEach es X.env := by rfl) (hpl : (backTo pos (starEach es X.env)).any (·.1) = false := by rfl) : PEf X C (.Call (.Name x p) (e :: es) [] pos) (eCallF o fa) :=
  ⟨PE.imp (pe_callTy hc hg hm hv ha.pa hn hdb he hpl) fun _ _ _ h => cbf_of (fun _ _ _ h => h) h⟩
end
/-! ### what they make of data -/
def oLen : OL
  | [.lst xs], P => P (.int xs.length)
  | [.tup xs], P => P (.int xs.length)
  | _, _ => False
def oListF : OF
  | [.lst xs], P => P xs
  | [.tup xs], P => P xs
  | _, _ => False
def oTuple : OL
  | [.lst xs], P => P (.tup xs)
  | [.tup xs], P => P (.tup xs)
  | _, _ => False
def oInt1 : OL
  | [.int i], P => P (.int i)
  | [.bl k], P => P (.int (if k then 1 else 0))
  | _, _ => False
/-- a list of ints, of bools -/
def intsOf : List D → Option (List Int)
  | [] => some []
  | .int i :: xs => (intsOf xs).map (i :: ·)
  | _ => none
def blsOf : List D → Option (List Bool)
  | [] => some []
  | .bl i :: xs => (blsOf xs).map (i :: ·)
  | _ => none
theorem intsOf_eq : ∀ {xs : List D} {ns : List Int}, intsOf xs = some ns → xs = ns.map D.int
  | [], _, h => by cases h; rfl
  | .int i :: xs, ns, h => by
    unfold intsOf at h
    cases q : intsOf xs with
    | none => rw [q] at h; cases h
    | some ms => rw [q] at h; cases h; rw [intsOf_eq q]; rfl
  | .non :: _, _, h => by cases h
  | .bl _ :: _, _, h => by cases h
  | .str _ :: _, _, h => by cases h
  | .lst _ :: _, _, h => by cases h
  | .tup _ :: _, _, h => by cases h
  | .ins _ _ :: _, _, h => by cases h
  | .exc _ _ :: _, _, h => by cases h
  | .fn _ :: _, _, h => by cases h
  | .mt :: _, _, h => by cases h
  | .drw :: _, _, h => by cases h
theorem blsOf_eq : ∀ {xs : List D} {ns : List Bool}, blsOf xs = some ns → xs = ns.map D.bl
  | [], _, h => by cases h; rfl
  | .bl i :: xs, ns, h => by
    unfold blsOf at h
    cases q : blsOf xs with
    | none => rw [q] at h; cases h
    | some ms => rw [q] at h; cases h; rw [blsOf_eq q]; rfl
  | .non :: _, _, h => by cases h
  | .int _ :: _, _, h => by cases h
  | .str _ :: _, _, h => by cases h
  | .lst _ :: _, _, h => by cases h
  | .tup _ :: _, _, h => by cases h
  | .ins _ _ :: _, _, h => by cases h
  | .exc _ _ :: _, _, h => by cases h
  | .fn _ :: _, _, h => by cases h
  | .mt :: _, _, h => by cases h
  | .drw :: _, _, h => by cases h
theorem intsOf_map (ns : List Int) : intsOf (ns.map D.int) = some ns := by
  induction ns with
  | nil => rfl
  | cons n ns ih => simp only [List.map_cons, intsOf, ih, Option.map_some]
theorem blsOf_map (ns : List Bool) : blsOf (ns.map D.bl) = some ns := by
  induction ns with
  | nil => rfl
  | cons n ns ih => simp only [List.map_cons, blsOf, ih, Option.map_some]
def oAny : OL
  | [.lst xs], P => (match blsOf xs with | some bs => P (.bl (bs.any id)) | none => False)
  | _, _ => False
def oAll : OL
  | [.lst xs], P => (match blsOf xs with | some bs => P (.bl (bs.all id)) | none => False)
  | _, _ => False
def oSum : OL
  | [.lst xs], P => (match intsOf xs with | some ns => P (.int ns.sum) | none => False)
  | _, _ => False
/-- the least, the greatest of a list of ints -/
def oMinL : OL
  | [.lst xs], P => (match intsOf xs with | some ns => 0 < ns.length ∧ ∀ m, m ∈ ns → (∀ y, y ∈ ns → m ≤ y) → P (.int m) | none => False)
  | _, _ => False
def oMaxL : OL
  | [.lst xs], P => (match intsOf xs with | some ns => 0 < ns.length ∧ ∀ m, m ∈ ns → (∀ y, y ∈ ns → y ≤ m) → P (.int m) | none => False)
  | _, _ => False
def oMin2 : OL
  | [.int i, .int j], P => P (.int (if j < i then j else i))
  | _, _ => False
def oMax2 : OL
  | [.int i, .int j], P => P (.int (if j > i then j else i))
  | _, _ => False
/-- sorted ints -/
def oSortI : OF
  | [.lst xs], P => (match intsOf xs with | some ns => ∀ ns' : List Int, ns'.Perm ns → ns'.Pairwise (· ≤ ·) → P (ns'.map D.int) | none => False)
  | _, _ => False
section
variable {X : Cx} {w : Dr}
theorem dva_ints {K : PySem.W.Frag} {mg : Str → Option Value} {H : Hp} : ∀ {ns : List Int} {vs : List V}, DvA K mg w H vs (ns.map D.int) → vs = ns.map V.int
  | [], _, h => by cases h; rfl
  | n :: ns, _, h => by
    cases h with
    | cons a t => cases a; rw [dva_ints t]; rfl
theorem dva_bls {K : PySem.W.Frag} {mg : Str → Option Value} {H : Hp} : ∀ {ns : List Bool} {vs : List V}, DvA K mg w H vs (ns.map D.bl) → vs = ns.map V.bl
  | [], _, h => by cases h; rfl
  | n :: ns, _, h => by
    cases h with
    | cons a t => cases a; rw [dva_bls t]; rfl
theorem cd_len : CallD X w (.builtin "len") oLen := by
  intro pins s σ H xs us Q I rv ⟨Hs, N, rs, P, s0, m, ha, ho, out⟩
  match rs, ho with
  | [.lst ys], hp =>
    obtain ⟨v, rfl, b⟩ := ha.one
    obtain ⟨a, vs, rfl, e1, e2⟩ := b.list s0
    exact call_len_seq pins s σ H _ us Q I rv ⟨a, vs, rfl, .inl (SqL.of e1), by rw [e2.len]; exact out.now s0 hp (.int _)⟩
  | [.tup ys], hp =>
    obtain ⟨v, rfl, b⟩ := ha.one
    obtain ⟨a, vs, rfl, e1, _, e2⟩ := b.tup s0
    exact call_len_seq pins s σ H _ us Q I rv ⟨a, vs, rfl, .inr (SqT.of e1), by rw [e2.len]; exact out.now s0 hp (.int _)⟩
theorem cf_list : CallF X w (.type "list") oListF := by
  intro pins s σ H xs us Q I rv ⟨Hs, N, rs, P, s0, m, ha, ho, out⟩
  match rs, ho with
  | [.lst ys], hp =>
    obtain ⟨v, rfl, b⟩ := ha.one
    obtain ⟨a, vs, rfl, e1, e2⟩ := b.list s0
    exact call_list_of pins s σ H _ us Q I rv ⟨a, vs, rfl, .inl (SqL.of e1), fun l hl => out.mk s0 m hp e2 hl⟩
  | [.tup ys], hp =>
    obtain ⟨v, rfl, b⟩ := ha.one
    obtain ⟨a, vs, rfl, e1, _, e2⟩ := b.tup s0
    exact call_list_of pins s σ H _ us Q I rv ⟨a, vs, rfl, .inr (SqT.of e1), fun l hl => out.mk s0 m hp e2 hl⟩
theorem cd_tuple : CallD X w (.type "tuple") oTuple := by
  intro pins s σ H xs us Q I rv ⟨Hs, N, rs, P, s0, m, ha, ho, out⟩
  match rs, ho with
  | [.lst ys], hp =>
    obtain ⟨v, rfl, b⟩ := ha.one
    obtain ⟨a, vs, rfl, e1, e2⟩ := b.list s0
    exact call_tuple_of pins s σ H _ us Q I rv ⟨a, vs, rfl, .inl ⟨SqL.of e1, fun l hl => out.tup s0 hp e2 hl⟩⟩
  | [.tup ys], hp =>
    obtain ⟨v, rfl, b⟩ := ha.one
    obtain ⟨a, vs, rfl, e1, e1s, e2⟩ := b.tup s0
    exact call_tuple_of pins s σ H _ us Q I rv ⟨a, vs, rfl, .inr ⟨SqT.of e1, out.now s0 hp (.tup e1s e2)⟩⟩
theorem cd_int : CallD X w (.type "int") oInt1 := by
  intro pins s σ H xs us Q I rv ⟨Hs, N, rs, P, s0, m, ha, ho, out⟩
  match rs, ho with
  | [.int i], hp =>
    obtain ⟨v, rfl, b⟩ := ha.one
    have := b.int
    subst this
    exact call_int1 pins s σ H _ us Q I rv (.inl ⟨i, rfl, out.now s0 hp (.int _)⟩)
  | [.bl k], hp =>
    obtain ⟨v, rfl, b⟩ := ha.one
    have := b.bl
    subst this
    exact call_int1 pins s σ H _ us Q I rv (.inr ⟨k, rfl, out.now s0 hp (.int _)⟩)
/-- one list of ints, of bools -/
theorem one_ints {H Hs : Hp} {xs : List V} {ys : List D} {ns : List Int} (s0 : Same Hs H) (ha : BvA X.K X.mg w H Hs xs [.lst ys]) (h : intsOf ys = some ns) : ∃ a, xs = [.ref a] ∧ SqL X.K H a (ns.map V.int) := by
  obtain ⟨v, rfl, b⟩ := ha.one
  obtain ⟨a, vs, rfl, e1, e2⟩ := b.list s0
  rw [intsOf_eq h] at e2
  rw [dva_ints e2] at e1
  exact ⟨a, rfl, SqL.of e1⟩
theorem one_bls {H Hs : Hp} {xs : List V} {ys : List D} {ns : List Bool} (s0 : Same Hs H) (ha : BvA X.K X.mg w H Hs xs [.lst ys]) (h : blsOf ys = some ns) : ∃ a, xs = [.ref a] ∧ SqL X.K H a (ns.map V.bl) := by
  obtain ⟨v, rfl, b⟩ := ha.one
  obtain ⟨a, vs, rfl, e1, e2⟩ := b.list s0
  rw [blsOf_eq h] at e2
  rw [dva_bls e2] at e1
  exact ⟨a, rfl, SqL.of e1⟩
theorem cd_any (hc : X.calm = true) : CallD X w (.builtin "any") oAny := by
  intro pins s σ H xs us Q I rv ⟨Hs, N, rs, P, s0, m, ha, ho, out⟩
  match rs, ho with
  | [.lst ys], hp =>
    cases hb : blsOf ys with
    | none => simp only [oAny, hb] at hp
    | some bs =>
      simp only [oAny, hb] at hp
      obtain ⟨a, rfl, q⟩ := one_bls s0 ha hb
      exact cr_any hc pins s σ H _ us Q I rv ⟨a, bs, rfl, q, out.now s0 hp (.bl _)⟩
theorem cd_all (hc : X.calm = true) : CallD X w (.builtin "all") oAll := by
  intro pins s σ H xs us Q I rv ⟨Hs, N, rs, P, s0, m, ha, ho, out⟩
  match rs, ho with
  | [.lst ys], hp =>
    cases hb : blsOf ys with
    | none => simp only [oAll, hb] at hp
    | some bs =>
      simp only [oAll, hb] at hp
      obtain ⟨a, rfl, q⟩ := one_bls s0 ha hb
      exact cr_all hc pins s σ H _ us Q I rv ⟨a, bs, rfl, q, out.now s0 hp (.bl _)⟩
theorem cd_sum (hc : X.calm = true) : CallD X w (.builtin "sum") oSum := by
  intro pins s σ H xs us Q I rv ⟨Hs, N, rs, P, s0, m, ha, ho, out⟩
  match rs, ho with
  | [.lst ys], hp =>
    cases hb : intsOf ys with
    | none => simp only [oSum, hb] at hp
    | some bs =>
      simp only [oSum, hb] at hp
      obtain ⟨a, rfl, q⟩ := one_ints s0 ha hb
      exact cr_sum hc pins s σ H _ us Q I rv ⟨a, bs, rfl, q, out.now s0 hp (.int _)⟩
theorem cd_minL (hc : X.calm = true) : CallD X w (.builtin "min") oMinL := by
  intro pins s σ H xs us Q I rv ⟨Hs, N, rs, P, s0, m, ha, ho, out⟩
  match rs, ho with
  | [.lst ys], hp =>
    cases hb : intsOf ys with
    | none => simp only [oMinL, hb] at hp
    | some bs =>
      simp only [oMinL, hb] at hp
      obtain ⟨a, rfl, q⟩ := one_ints s0 ha hb
      exact cr_min hc pins s σ H _ us Q I rv ⟨a, bs, rfl, q, hp.1, fun z h1 h2 => out.now s0 (hp.2 z h1 h2) (.int _)⟩
theorem cd_maxL (hc : X.calm = true) : CallD X w (.builtin "max") oMaxL := by
  intro pins s σ H xs us Q I rv ⟨Hs, N, rs, P, s0, m, ha, ho, out⟩
  match rs, ho with
  | [.lst ys], hp =>
    cases hb : intsOf ys with
    | none => simp only [oMaxL, hb] at hp
    | some bs =>
      simp only [oMaxL, hb] at hp
      obtain ⟨a, rfl, q⟩ := one_ints s0 ha hb
      exact cr_max hc pins s σ H _ us Q I rv ⟨a, bs, rfl, q, hp.1, fun z h1 h2 => out.now s0 (hp.2 z h1 h2) (.int _)⟩
theorem cd_min2 (hc : X.calm = true) : CallD X w (.builtin "min") oMin2 := by
  intro pins s σ H xs us Q I rv ⟨Hs, N, rs, P, s0, m, ha, ho, out⟩
  match rs, ho with
  | [.int i, .int j], hp =>
    obtain ⟨v, u, rfl, b1, b2⟩ := ha.two
    have := b1.int
    subst this
    have := b2.int
    subst this
    exact call_min2 hc pins s σ H _ us Q I rv ⟨i, j, rfl, out.now s0 hp (.int _)⟩
theorem cd_max2 (hc : X.calm = true) : CallD X w (.builtin "max") oMax2 := by
  intro pins s σ H xs us Q I rv ⟨Hs, N, rs, P, s0, m, ha, ho, out⟩
  match rs, ho with
  | [.int i, .int j], hp =>
    obtain ⟨v, u, rfl, b1, b2⟩ := ha.two
    have := b1.int
    subst this
    have := b2.int
    subst this
    exact call_max2 hc pins s σ H _ us Q I rv ⟨i, j, rfl, out.now s0 hp (.int _)⟩
theorem cf_sortI : CallF X w (.builtin "sorted") oSortI := by
  intro pins s σ H xs us Q I rv ⟨Hs, N, rs, P, s0, m, ha, ho, out⟩
  match rs, ho with
  | [.lst ys], hp =>
    cases hb : intsOf ys with
    | none => simp only [oSortI, hb] at hp
    | some bs =>
      simp only [oSortI, hb] at hp
      obtain ⟨a, rfl, q⟩ := one_ints s0 ha hb
      exact cr_sortedI pins s σ H _ us Q I rv ⟨a, bs, rfl, q, fun ns' l h1 h2 hl => out.mk s0 m (hp ns' h1 h2) (DvA.ints ns') hl⟩
end
/-! ### isinstance -/
def D.isTy (T : String) : D → Option Bool
  | .non => some false
  | .bl _ => some (T == "bool" || T == "int")
  | .int _ => some (T == "int")
  | .str _ => some (T == "str")
  | .lst _ => some (T == "list")
  | .tup _ => some (T == "tuple")
  | .mt => some (T == "dict")
  | _ => none
/-- the name of its type -/
def D.tyN : D → Option String
  | .non => some "NoneType"
  | .bl _ => some "bool"
  | .int _ => some "int"
  | .str _ => some "str"
  | .lst _ => some "list"
  | .tup _ => some "tuple"
  | .mt => some "dict"
  | _ => none
theorem dv_ty {K : PySem.W.Frag} {mg : Str → Option Value} {w : Dr} {H Hs : Hp} {v : V} {r : D} {T : String} (s : Same Hs H) (h : Bv K mg w H Hs v r) (e : r.tyN = some T) : TyX K H v (.type T) := by
  rcases h with h | ⟨a, vs, xs, rfl, rfl, o, _⟩
  · cases h with
    | non => cases e; exact .base .non
    | bl b => cases e; exact .base (.bl _)
    | int i => cases e; exact .base (.int _)
    | str x => cases e; exact .base (.str _)
    | lst h1 _ => cases e; exact .base (.lst (s _ _ h1))
    | tup h1 _ => cases e; exact .base (.tup (s _ _ h1))
    | ins _ _ _ => cases e
    | exc _ _ _ _ => cases e
    | exc0 _ _ => cases e
    | fn _ => cases e
    | mt h1 => cases e; exact .base (.dK (s _ _ h1))
    | drw => cases e
  · cases e
    exact .base (.lst o.at_)
def eIsi (T : String) (f : ED) : ED := fun env N Q => f env N fun r N1 => match r.isTy T with | some b => Q (.bl b) N1 | none => False
def isTys : List String := ["int", "bool", "str", "list", "tuple", "dict"]
theorem kit_isTy {K : PySem.W.Frag} {T : String} {r : D} {b : Bool} (hT : T ∈ isTys) (h : r.isTy T = some b) : ∃ U, r.tyN = some U ∧ PySem.W.kitOne K (.type U) (.type T) = some b := by
  have key : ∀ U ∈ ["NoneType", "bool", "int", "str", "list", "tuple", "dict"], ∀ T ∈ isTys, kitB U T = some ((U == T) || (U == "bool" && T == "int")) := by decide +kernel
  have fin : ∀ {U : String}, r.tyN = some U → U ∈ ["NoneType", "bool", "int", "str", "list", "tuple", "dict"] → ((U == T) || (U == "bool" && T == "int")) = b → ∃ U, r.tyN = some U ∧ PySem.W.kitOne K (.type U) (.type T) = some b := fun {U} e m q => ⟨U, e, kit_ty ((key U m T hT).trans (by rw [q]))⟩
  have six : T = "int" ∨ T = "bool" ∨ T = "str" ∨ T = "list" ∨ T = "tuple" ∨ T = "dict" := by simpa [isTys] using hT
  cases r <;> (first | (cases h; done) | skip)
  all_goals (cases h; refine fin rfl (by decide) ?_; rcases six with rfl | rfl | rfl | rfl | rfl | rfl <;> decide)
section
variable {X : Cx} {C : Cn} {e : Expr} {pos p p2 : Pos} {f : ED}
theorem pd_isi {T : Str} {U : String} (hT : U ∈ isTys) (hg : Gl X "isinstance") (hm : X.mg "isinstance" = none) (hgT : Gl X T) (hmT : X.mg T = none) (hbT : bootBuiltins T = some (.type U)) (h : PEb X C e f)
    (hnT : T ≠ "__name__" := by decide) (hdT : (T == ("__debug__" : Str)) = false := by decide)
    (hs : starEach [e, .Name T p2] X.env = (false, eval e X.env) :: starEach [.Name T p2] X.env := by rfl) (hs2 : starEach [.Name T p2] X.env = (false, eval (.Name T p2) X.env) :: starEach [] X.env := by rfl)
    (hpl : (backTo pos (starEach [.Name T p2] X.env)).any (·.1) = false := by rfl) : PEd X C (.Call (.Name "isinstance" p) [e, .Name T p2] [] pos) (eIsi U f) :=
  ⟨PE.imp (pe_callB call_isi hg hm (by decide +kernel) (pa_cons h.pe (pa_cons (pe_bltn (v := .ty U) hgT hmT hbT rfl hnT hdT) pa_nil hs2) hs) (by decide) (by decide) hs hpl) fun σ H Q ⟨env, Hs, N, R, r, hf, k⟩ => ⟨env, Hs, N, _, r, hf, fun y N1 h1 v H1 Hs1 g1 m1 d1 => by
    cases z : y.isTy U with
    | none => simp only [z] at h1
    | some b =>
      simp only [z] at h1
      obtain ⟨W, e1, e2⟩ := kit_isTy (K := X.K) hT z
      exact ⟨v, .ty U, _, _, b, rfl, .ty U, dv_ty g1.sub d1 e1, e2, k _ _ h1 _ _ _ g1 m1 (.bl _)⟩⟩⟩
end
end Pd
/-! ## Pd: defs and their calls; comprehensions in names; items stored -/
namespace Pd
open PySem L2 PySem.Spec PyProof.Rows
abbrev FD := List D → Nat → (D → Nat → Prop) → Prop
/-- what a def promises over data -/
abbrev LTabs := List (Addr × Str)
def spD (T : LTabs) (K : PySem.W.Frag) (mg : Str → Option Value) (n : Nat) (F : FD) : Sp := fun vs H Q _ => ∃ (w : Dr) (Hs : Hp) (N : Nat) (ds : List D) (R : D → Nat → Prop), w.T = T ∧ vs.length = n ∧ Same Hs H ∧ Ms w H N ∧ Hs w.d = none ∧ OutT w Hs ∧ DvA K mg w Hs vs ds ∧ F ds N R ∧
  ∀ r N', R r N' → ∀ v H' Hs', Go w H Hs H' Hs' → Ms w H' N' → Dv K mg w Hs' v r → Q v H'
abbrev CalleeD (T : LTabs) (P : Program) (w : World) (K : PySem.W.Frag) (mg : Str → Option Value) (base : Heap) (k : Nat) (x : Str) (ps : List Str) (F : FD) : Prop := Rd.CalleeG P w K mg base CX0 k x ps (spD T K mg ps.length F)
def eFn (n : Nat) (F : FD) (fa : AD) : ED := fun env N Q => fa env N fun rs N1 => rs.length = n ∧ F rs N1 Q
section
variable {X : Cx} {C : Cn} {e : Expr} {es : List Expr} {pos p : Pos} {x : Str} {fa : AD} {k : Nat} {ps : List Str} {F : FD}
theorem pd_call (Cl : CalleeD C.w.T X.prog X.w X.K X.mg X.base k x ps F) (hG : X.A.guards = some []) (hr : Room k X.A) (ha : PAd X C (e :: es) fa) (hg : Gl X x := by rfl) (hdb : (x == ("__debug__" : Str)) = false := by decide)
    (he : starEach (e :: es) X.env = (false, eval e X.env) :: starEach es X.env := by rfl) (hpl : (backTo pos (starEach es X.env)).any (·.1) = false := by rfl) : PEd X C (.Call (.Name x p) (e :: es) [] pos) (eFn ps.length F fa) :=
  ⟨PE.imp (Rd.pe_callG Cl hG hr ha.pa hg hdb he hpl) fun σ H Q ⟨env, Hs, N, R, r, hf, kk⟩ => ⟨env, Hs, N, _, r, hf, fun rs N1 ⟨hl, h1⟩ vs H1 Hs1 g1 m1 d1 => ⟨C.w, Hs1, N1, rs, R, rfl, by rw [List.append_nil, d1.len]; exact hl, g1.sub, m1, (r.move g1 m1).hd, (r.move g1 m1).hg, by rw [List.append_nil]; exact d1, h1,
    fun q N2 hq v H2 Hs2 g2 m2 d2 => kk _ _ hq _ _ _ (g1.trans g2) m2 d2⟩⟩⟩
end
/-- the names at a def's start -/
def env0 (n : Nat) (ds : List D) : PEnv := ds.map Sl.sh ++ List.replicate (n - ds.length) .no
/-- THE RULE for a def -/
theorem okD {T : LTabs} {P : Program} {w : World} {K : PySem.W.Frag} {mg : Str → Option Value} {base : Heap} {nm qual : Str} {st : Stmt} {f : Addr} {fd : FuncData} {N ps : List Str} {k : Nat} {F : FD} (Fu : Fun K nm qual st f fd) (S : FnScope N ps (defScope st))
    (body : ∀ (cdv : Value) (A : Around) (outer : List Env) (s : Shared) (H : Hp) (E : XK) (C : Cn), C.w.T = T → A.guards = some [] → Room k (A.deeper (envOfC qual (defScope st) s.heap.objs.size f cdv)) →
      ∃ g, PSsd (cxOf CX0 P w K mg base N qual (defScope st) f cdv A outer s H E).nox C (defBody st) g ∧ ∀ ds M R, ds.length = ps.length → F ds M R → g (env0 N.length ds) M { nx := fun _ n => R .non n, rt := R }) :
    Rd.FnOkG P w K mg base CX0 (k + 1) f fd ps (spD T K mg ps.length F) :=
  Rd.okG Fu S (fun vs H Q E ⟨_, _, _, _, _, _, hl, _⟩ => hl) fun cdv A outer s H vs Q E hG hr ⟨dr, Hs, M, ds, R, hT, hl, s0, m, hd, hg, da, hF, kk⟩ => by
    obtain ⟨g, hp, hgo⟩ := body cdv A outer s H E ⟨dr, H, Hs, 0⟩ hT hG hr
    refine ⟨_, hp.ps, env0 N.length ds, Hs, M, _, Hs, Rep.start s0 m hd hg da, Same.refl _, hgo ds M R (by rw [← da.len]; exact hl) hF, ⟨fun env' n σ' H' Hs' r' _ hn => ?_, fun q n v H' Hs' g' m' d' hr' => kk _ _ hr' _ _ _ g' m' d', fun _ _ _ _ _ _ _ z => z.elim, fun _ _ _ _ _ _ _ z => z.elim⟩⟩
    exact kk _ _ hn _ _ _ r'.go r'.m .non
/-! ### name = [..] on one line -/
section
variable {X : Cx} {C : Cn} {elt tg iter : Expr} {ifs : List Expr} {scope : Scope} {own : List (Str × Nat)} {pos spos py : Pos} {fi : AD} {g : GD} {tt : TD} {fe : ED} {i : Nat} {y : Str}
theorem psd_setLc (hc : X.calm = true) (hN : X.N.Nodup) (hy : X.N[i]? = some y) (hyl : X.env.scope.names.lookup y = some .local) (hsw : swapsWith (.ListComp elt [⟨tg, iter, ifs, 0⟩] scope pos) (some (.Name y py)) spos.line X.env = pure true) (hi : PIb X C tg iter fi) (ok : BlkOk X.N X.env.scope scope own)
    (hg : ∀ (s : Shared) (H : Hp) (L : Addr) (cl : List (Str × Addr)) (fp : List Addr), PGd (X.blk s H scope (compEnvC scope cl L X.env) fp) C tg (own.map (·.2)) g)
    (ht : ∀ (s : Shared) (H : Hp) (L : Addr) (cl : List (Str × Addr)) (fp : List Addr), PTsd (X.blk s H scope (compEnvC scope cl L X.env) fp) C ifs tt)
    (he : ∀ (s : Shared) (H : Hp) (L : Addr) (cl : List (Str × Addr)) (fp : List Addr), PEd (X.blk s H scope (compEnvC scope cl L X.env) fp) C elt fe) (hs : ∀ x, foldedSetIterable iter X.env x = pure x := by intro _; rfl) :
    PSd X C (.Assign [.Name y py] (.ListComp elt [⟨tg, iter, ifs, 0⟩] scope pos) spos) (fSet i (eFrz (eLc fi g tt fe (own.map (·.2))))) :=
  ⟨⟨fun pins s σ H E I ⟨env, Hs, N, R, L, r, sl, hf, k⟩ => (ps_setLc (wi := TIb X.K X.mg C fi) (g := TGd X.K X.mg C (own.map (·.2)) g) (tt := TTd X.K X.mg C tt) (te := TEd X.K X.mg C fe) hc hN hy hyl hsw hi.pi ok (fun s H L cl fp => (hg s H L cl fp).pg) (fun s H L cl fp => (ht s H L cl fp).pt) (fun s H L cl fp => (he s H L cl fp).pe) hs).run pins s σ H E I
    ⟨env, Hs, N, _, r, hf, fun items N1 h1 J H1 Hs1 G g1 m1 sG xG hG it => lc_sound (Q := fun x H1 => gName i x σ H1 E.nx) (r.move g1 m1) it sG hG h1 xG fun xs N' hr p vs H' Hs' g' m' o' hp d' => by
      have gf := own_freeze g' o' hp
      exact k.nx _ _ _ _ _ (((r.move g1 m1).move gf m').set i (by rw [r.len, I.len]; exact (List.getElem?_eq_some_iff.mp hy).1) (dv_freeze o'.out d')) ((sl.trans g1.sh).trans gf.sh) hr⟩⟩⟩
theorem psd_setLcO (hc : X.calm = true) (hN : X.N.Nodup) (hy : X.N[i]? = some y) (hyl : X.env.scope.names.lookup y = some .local) (hsw : swapsWith (.ListComp elt [⟨tg, iter, ifs, 0⟩] scope pos) (some (.Name y py)) spos.line X.env = pure true) (hi : PIb X C tg iter fi) (ok : BlkOk X.N X.env.scope scope own)
    (hg : ∀ (s : Shared) (H : Hp) (L : Addr) (cl : List (Str × Addr)) (fp : List Addr), PGd (X.blk s H scope (compEnvC scope cl L X.env) fp) C tg (own.map (·.2)) g)
    (ht : ∀ (s : Shared) (H : Hp) (L : Addr) (cl : List (Str × Addr)) (fp : List Addr), PTsd (X.blk s H scope (compEnvC scope cl L X.env) fp) C ifs tt)
    (he : ∀ (s : Shared) (H : Hp) (L : Addr) (cl : List (Str × Addr)) (fp : List Addr), PEd (X.blk s H scope (compEnvC scope cl L X.env) fp) C elt fe) (hs : ∀ x, foldedSetIterable iter X.env x = pure x := by intro _; rfl) :
    PSd X C (.Assign [.Name y py] (.ListComp elt [⟨tg, iter, ifs, 0⟩] scope pos) spos) (fSetO i (eLc fi g tt fe (own.map (·.2)))) :=
  ⟨⟨fun pins s σ H E I ⟨env, Hs, N, R, L, r, sl, hf, k⟩ => (ps_setLc (wi := TIb X.K X.mg C fi) (g := TGd X.K X.mg C (own.map (·.2)) g) (tt := TTd X.K X.mg C tt) (te := TEd X.K X.mg C fe) hc hN hy hyl hsw hi.pi ok (fun s H L cl fp => (hg s H L cl fp).pg) (fun s H L cl fp => (ht s H L cl fp).pt) (fun s H L cl fp => (he s H L cl fp).pe) hs).run pins s σ H E I
    ⟨env, Hs, N, _, r, hf, fun items N1 h1 J H1 Hs1 G g1 m1 sG xG hG it => lc_sound (Q := fun x H1 => gName i x σ H1 E.nx) (r.move g1 m1) it sG hG h1 xG fun xs N' hr p vs H' Hs' g' m' o' hp d' =>
      k.nx _ _ _ _ _ (setO_of (r.move g1 m1) g' m' o' hp d' (by rw [r.len, I.len]; exact (List.getElem?_eq_some_iff.mp hy).1)) ((sl.trans g1.sh).trans g'.sh) hr⟩⟩⟩
/-- xs[e] = v, xs one's own -/
def fSetIx (j : Nat) (fv fk : ED) : SD := fun env N R => fv env N fun r N1 => match env[j]? with | some (.ow xs) => (fk env N1 fun q N2 => match q with | .int k => (match ixN xs.length k with | some m => R.nx (env.set j (.ow (xs.set m r))) N2 | none => False) | _ => False) | _ => False
theorem psd_setIx (j : Nat) {v e : Expr} {fv fk : ED} {p1 p2 : Pos} {x : Str} (hv : PEd X C v fv) (he : PEd X C e fk) (hN : X.N[j]? = some x := by rfl) (hvis : Vis X.env.scope x := by first | exact Or.inl rfl | exact Or.inr (Or.inl rfl) | exact Or.inr (Or.inr rfl)) (hd : (x == ("__debug__" : Str)) = false := by decide) (hcd : (x == ("__classdict__" : Str)) = false := by decide)
    (ha : ∀ v, assign (.Subscript (.Name x p1) e p2) X.env v = (do
      let ov ← holding [v] (eval (.Name x p1) X.env)
      let iv ← holding [v, ov] (eval e X.env)
      standAt p2
      holding [v, ov, iv] (setItem ov iv v)
      release [v, ov, iv] []) := by intro _; rfl)
    (hs : swapsWithSole [.Subscript (.Name x p1) e p2] v pos.line X.env = pure false := by rfl) (hw : swappedStores [.Subscript (.Name x p1) e p2] v X.env = pure none := by rfl)
    (h1 : (assignEach [.Subscript (.Name x p1) e p2] X.env).map (·.2) = [assign (.Subscript (.Name x p1) e p2) X.env] := by rfl) : PSd X C (.Assign [.Subscript (.Name x p1) e p2] v pos) (fSetIx j fv fk) :=
  ⟨PS.imp (ps_asg hv.pe (pg_sub (pe_var hN hvis hd hcd) he.pe set_list ha) hs hw h1) fun E σ H ⟨env, Hs, N, R, L, r, sl, hf, k⟩ => ⟨env, Hs, N, _, r, hf, fun q N1 h1 u H1 Hs1 g1 m1 d1 => by
    cases z : env[j]? with
    | none => simp only [z] at h1
    | some s =>
      cases s with
      | no => simp only [z] at h1
      | sh _ => simp only [z] at h1
      | ob _ _ => simp only [z] at h1
      | ow xs =>
        simp only [z] at h1
        obtain ⟨a, vs, q1, o, h0, d⟩ := r.ow _ _ z
        refine ⟨.ref a, q1, env, Hs1, N1, _, r.move g1 m1, h1, fun y N2 h2 u2 H2 Hs2 g2 m2 d2 => ?_⟩
        match y, h2 with
        | .int kk, h2 =>
          cases d2
          cases zm : ixN xs.length kk with
          | none => simp only [zm] at h2
          | some m =>
            simp only [zm] at h2
            have g := g1.trans g2
            exact ⟨a, vs, kk, m, rfl, rfl, (o.go g).at_, by rw [d.len]; exact zm, k.nx _ _ _ _ _ ((r.move g m2).chg z q1 ((DvA.same g.sh _ _ d).set (Dv.same g2.sh _ _ d1) m)) (sl.trans g.sh) h2⟩⟩⟩
end
end Pd
/-! ## sorted(set(xs)), xs a list of ints -/
namespace Pd
open PySem PySem.Spec PyProof.Rows L2
section
variable {P : Program} {w : World} {A : Around} {E : Value → Shared → Prop} {s : Shared}
abbrev set00 (w : World) : Obj := { cls := .type "set", dict := none, data := .set #[] 0 (.fresh 0 0 (!w.params.followText "set-order")) }
/-- set(a list of ints) -/
theorem set_of_list {l : Addr} {its : Array Value} (ks : List Int) {Q : Value → Shared → Prop} (cold : A.handled = none) (hL : s.heap.IsList l its) (hI : IntsAre its.toList ks) (few : ks.length + 1 < scanBound)
    (fin : ∀ (g : Heap) (t c : Nat), SetR w g s.heap.objs.size (fun j => decide (j ∈ ks)) c → c ≤ ks.length → (∀ b o, s.heap.get? b = some o → g.get? b = some o) → Q (.ref s.heap.objs.size) { s with heap := g, toks := t }) :
    wpAny (model P w) A (call (.type "set") [.ref l]) Q E s := by
  have len : its.size = ks.length := by
    have z := IntsAre.length hI
    rwa [Array.length_toList] at z
  obtain ⟨cc, tt, mro⟩ := F.called_set.mro
  have x1 := F.called_set.made
  have x2 := F.called_set.sub
  refine wpAny_call (codeAny_of_tree ?_)
  show wpAny _ _ (callAny (.type "set") _) _ _ _
  refine wpAny_pure ⟨Code.quiet_builtin _ (by decide +kernel), codeAny_builtin F.entry_type_call ?_⟩
  rw [Around.under_plain (weight_type_call_type "set" [.ref l] []) rfl]
  have x3 := F.called_set.notType
  have x4 := F.called_set.canCreate
  have x5 := F.typeCall_set_1 (.ref l)
  repeat (any_goals (first | assumption | wp_step))
  refine codeAny_mono (code_set_led1 (.ref l) (E := E) (Q₁ := fun o t => o = .ref s.heap.objs.size ∧ t = { s with heap := s.heap.push (set00 w) }) ⟨rfl, rfl⟩) fun r t hr => ?_
  cases r with
  | error _ => exact hr
  | ok fl =>
    cases fl with
    | ret o =>
      obtain ⟨rfl, rfl⟩ := hr
      have at0 : (s.heap.push (set00 w)).get? s.heap.objs.size = some (set00 w) := Heap.get?_push_size _ rfl
      have ty0 : Shared.TypeIs { s with heap := s.heap.push (set00 w) } (.ref s.heap.objs.size) "set" := ⟨_, at0, rfl⟩
      have y1 := F.called_set.init.lookup
      have y2 := F.called_set.init.bind (.ref s.heap.objs.size)
      repeat (any_goals (first | assumption | wp_step))
      refine codeAny_mono (codeAny_call_builtin (R := wants (fun r t => r = .none ∧ ∃ g tk c, t = { s with heap := g, toks := tk } ∧ SetR w g s.heap.objs.size (fun j => decide (j ∈ ks)) c ∧ c ≤ ks.length ∧ (∀ b o, s.heap.get? b = some o → g.get? b = some o)) E)
        F.called_set.init.plain F.entry_set_init (check_set_init_1 ty0 ?_)) fun r2 t2 hr2 => ?_
      · obtain ⟨⟨c0, d0, dt0, sl0⟩, hol, hc, n0, hd⟩ := hL
        cases hc
        cases hd
        have hol2 : (s.heap.push (set00 w)).get? l = some ⟨.type "list", d0, .seq its n0, sl0⟩ := Heap.get?_push_of_some _ hol
        have z1 := F.sub_list_set
        have z2 := F.sub_list_frozenset
        have z3 : (Value.type "list" == Value.type "dict") = false := by decide
        have isL : (s.heap.push (set00 w)).IsList l its := ⟨_, hol2, rfl, n0, rfl⟩
        unfold Builtin.«set.__init__» noKeywords Builtin.Frozenset.updateFrom
        generalize gPI : pyIter = PI
        wp_walk
        subst gPI
        refine wpAny_pyIter_list isL (wpAny_bind (wpAny_runValue ?_))
        have below : l < s.heap.objs.size := Heap.lt_size hol
        have cold3 : A.in1.in1.in1.handled = none := by simp [cold]
        have away : l ≠ (s.heap.push (set00 w)).objs.size := by rw [Heap.size_push]; exact Nat.ne_of_lt (Nat.lt_trans below (Nat.lt_succ_self _))
        have away2 : s.heap.objs.size ∉ [(s.heap.push (set00 w)).objs.size, l] := by
          rw [Heap.size_push]
          simp only [List.mem_cons, List.not_mem_nil, or_false, not_or]
          exact ⟨Nat.ne_of_lt (Nat.lt_succ_self _), fun z => Nat.lt_irrefl _ (z ▸ below)⟩
        have vals : ∀ (i : Nat) (v : Value), its[i]? = some v → ∃ k t, ks[i]? = some k ∧ v = .int k t := fun i v hv => by
          have hi : i < ks.length := by rw [← len]; exact (Array.getElem?_eq_some_iff.mp hv).1
          obtain ⟨t, e⟩ := IntsAre.int_at hI i v (by rw [Array.getElem?_toList]; exact hv)
          refine ⟨ks[i], t, List.getElem?_eq_getElem hi, ?_⟩
          rw [e, List.getD_eq_getElem?_getD, List.getElem?_eq_getElem hi]
          rfl
        refine set_update_ints ((Walks.list cold3 _ l away its).toS) s.heap.objs.size away2 ks len few vals (its.size - 0) 0 _ (by omega) (Nat.zero_le _) ⟨⟨_, Heap.get?_push_size _ rfl, rfl, rfl⟩, isL.push _⟩ ⟨0, Nat.le_refl 0, setR_new_at (Heap.get?_push_of_some _ at0)⟩ ?_
        intro t3 c3 hm hc3 hS3
        obtain ⟨g3, gg, dd, tk, os⟩ := t3
        have e1 : gg = s.gens := hm.gens
        have e2 : dd = s.drawn := hm.drawn
        have e3 : os = s.os := hm.os
        subst e1 e2 e3
        show wpAny _ _ _ _ _ _
        refine wpAny_pure ?_
        show wpAny _ _ (ret Value.none) _ _ _
        rw [len] at hc3
        refine wpAny_pure ⟨rfl, g3, tk, c3, rfl, hS3, hc3, fun b o e => ?_⟩
        have b0 : b < s.heap.objs.size := Heap.lt_size e
        refine hm.heap b o ?_ (Heap.get?_push_of_some _ (Heap.get?_push_of_some _ e))
        simp only [List.mem_cons, List.not_mem_nil, or_false, not_or]
        rw [Heap.size_push]
        exact ⟨Nat.ne_of_lt b0, Nat.ne_of_lt (Nat.lt_trans b0 (Nat.lt_succ_self _))⟩
      · cases r2 with
        | error _ => exact hr2
        | ok fl2 =>
          cases fl2 with
          | ret r =>
            obtain ⟨rfl, g, tk, c, rfl, hS, hc, hk⟩ := hr2
            repeat (any_goals (first | assumption | wp_step))
            exact fin _ _ _ hS hc hk
          | _ => exact hr2.elim
    | _ => exact hr.elim
end
end Pd
namespace Pd
open PySem PySem.Spec PyProof.Rows L2
section
variable {X : Cx} {C : Cn} {e : Expr} {pos p p2 q : Pos} {f : ED}
def D.intsL : D → Option (List Int)
  | .lst xs => intsOf xs
  | .tup xs => intsOf xs
  | _ => none
/-- sorted(set(xs)): each once, ascending -/
def eSortSet (f : ED) : AD := fun env N Q => f env N fun r N1 => match r.intsL with | some ks => ks.length < 60 ∧ ∀ ns : List Int, ns.Pairwise (· < ·) → (∀ k, k ∈ ns ↔ k ∈ ks) → Q (ns.map D.int) N1 | none => False
theorem setI_of {pins : List (Addr × Obj)} {σ : L2.St} {s : Shared} {H Hs : Hp} {v : V} {u : Value} {r : D} {ks : List Int} {Q : Value → Shared → Prop} (hc : X.calm = true) (I : Inv X pins σ H s) (s0 : Same Hs H) (rv : RelV v u) (h : Bv X.K X.mg C.w H Hs v r) (hk : r.intsL = some ks) (hl : ks.length < 60)
    (k : ∀ (g : Heap) (t c : Nat), SetR X.w g s.heap.objs.size (fun j => decide (j ∈ ks)) c → c ≤ ks.length → (∀ b o, s.heap.get? b = some o → g.get? b = some o) → Q (.ref s.heap.objs.size) { s with heap := g, toks := t }) :
    wpAny (model X.prog X.w) X.A (call (.type "set") [u]) Q X.xe s := by
  match r, hk with
  | .lst xs, hk =>
    obtain ⟨a, vs, rfl, e1, e2⟩ := h.list s0
    rw [intsOf_eq hk] at e2
    rw [dva_ints e2] at e1
    cases rv
    obtain ⟨its, ri, pl, _⟩ := I.list (SqL.of e1)
    exact set_of_list ks (I.ok.hd hc) pl.isList (by simpa using ri.ints) (by unfold scanBound; omega) k
  | .tup xs, hk =>
    obtain ⟨a, vs, rfl, e1, _, e2⟩ := h.tup s0
    rw [intsOf_eq hk] at e2
    rw [dva_ints e2] at e1
    cases rv
    obtain ⟨its, ri, pt, _⟩ := I.tuple (SqT.of e1)
    exact call_set_tupI ks (I.ok.hd hc) (show s.heap.IsTuple a its.toArray from pt) (ints_of_vals ri) (by unfold scanBound; omega) k
theorem pf_sortSetI (hc : X.calm = true) (hg : Gl X "sorted") (hm : X.mg "sorted" = none) (hg2 : Gl X "set") (hm2 : X.mg "set" = none) (h : PEb X C e f) (na : starEach [e] X.env = (false, eval e X.env) :: starEach [] X.env := by rfl)
    (nb : starEach [.Call (.Name "set" p2) [e] [] q] X.env = (false, eval (.Call (.Name "set" p2) [e] [] q) X.env) :: starEach [] X.env := by rfl) : PEf X C (.Call (.Name "sorted" p) [.Call (.Name "set" p2) [e] [] q] [] pos) (eSortSet f) :=
  ⟨⟨fun pins s σ H Q I ⟨env, Hs, N, R, r, hf, k⟩ => by
    refine Call_ (ld_blt I hg hm (show bootBuiltins "sorted" = some (.builtin "sorted") by decide +kernel) (callWith_builtin1 (args_cons ?_ nb) nb rfl))
    refine Call_ (ld_blt I hg2 hm2 boot_set (callWith_type1 (args_cons (thn (h.pe.run pins s σ H _ I ⟨env, Hs, N, _, r, hf, fun y N1 h1 v H1 Hs1 g1 m1 d1 => (show ∃ Hs1 N1 y, Go C.w H Hs H1 Hs1 ∧ Ms C.w H1 N1 ∧ Bv X.K X.mg C.w H1 Hs1 v y ∧ (match y.intsL with | some ks => ks.length < 60 ∧ ∀ ns : List Int, ns.Pairwise (· < ·) → (∀ k, k ∈ ns ↔ k ∈ ks) → R (ns.map D.int) N1 | none => False) from ⟨Hs1, N1, y, g1, m1, d1, h1⟩)⟩) fun u s1 hu => args_nil ?_) na) na rfl))
    obtain ⟨v, H1, I1, rv, Hs1, N1, y, g1, m1, d1, hy⟩ := hu
    cases zk : y.intsL with
    | none => simp only [zk] at hy
    | some ks =>
      simp only [zk] at hy
      obtain ⟨hl, hy⟩ := hy
      refine setI_of hc I1 g1.sub rv d1 zk hl fun g t c hS hcl hkeep => args_nil ?_
      have hn : H1 s1.heap.objs.size = none := I1.hok.fresh (Nat.le_refl _)
      have I2 : Inv X pins σ (upd H1 s1.heap.objs.size (SetO X.w s1.heap.objs.size (fun j => decide (j ∈ ks)) c)) { s1 with heap := g, toks := t } := I1.laid (t' := t) hkeep (Nat.le_refl _) (setO_new hS)
      have gg : Go C.w H1 Hs1 (upd H1 s1.heap.objs.size (SetO X.w s1.heap.objs.size (fun j => decide (j ∈ ks)) c)) Hs1 := Go.own1 g1.sub hn
      refine cr_sortedSet hc pins _ σ _ [.ref s1.heap.objs.size] [.ref s1.heap.objs.size] Q I2 (.cons rfl .nil) ⟨_, _, c, rfl, upd_same, by omega, fun ns q h1 h2 _ hq => ?_⟩
      have h3 := g1.trans gg
      refine k _ _ (hy ns h1 fun k => by rw [h2 k]; exact decide_eq_true_iff) q (ns.map V.int) _ Hs1 (h3.trans (Go.own1 gg.sub hq)) ((m1.new hn).new hq) (Own.mk_new (m1.new hn) gg.sub hq) ?_ (DvA.ints ns)
      cases z : H q with
      | none => rfl
      | some u => exact absurd hq (h3.there q (by rw [z]; exact fun z => by cases z))⟩⟩
/-- len(set(xs)), distinct ints or not -/
def eLenSet (f : ED) : ED := fun env N Q => f env N fun r N1 => match r.intsL with | some ks => ks.length < 60 ∧ ∀ ns : List Int, ns.Pairwise (· < ·) → (∀ k, k ∈ ns ↔ k ∈ ks) → Q (.int ns.length) N1 | none => False
end
end Pd
/-! ## Pd: list(range(..)), chains as tests, isinstance of two, repr, {} -/
namespace Pd
open PySem PySem.Spec PyProof.Rows L2
/-- the built-ins' names stand for the built-ins -/
structure Bts (mg : Str → Option Value) : Prop where
  int : mg "int" = none
  str : mg "str" = none
  bool : mg "bool" = none
  list : mg "list" = none
  tuple : mg "tuple" = none
  dict : mg "dict" = none
  set : mg "set" = none
  len : mg "len" = none
  range : mg "range" = none
  enumerate : mg "enumerate" = none
  zip : mg "zip" = none
  isinstance : mg "isinstance" = none
  sorted : mg "sorted" = none
  min : mg "min" = none
  max : mg "max" = none
  any : mg "any" = none
  all : mg "all" = none
  sum : mg "sum" = none
  repr : mg "repr" = none
theorem hu65 {k : Nat} {A : Around} (hr : Room k A) : A.units + 65 < cLine := by have := hr.un; omega
section
variable {X : Cx} {C : Cn} {e a b c : Expr} {es : List Expr} {pos p p2 q : Pos} {f fa fb fc : ED}
/-- list(range(a, b)) -/
def rgD (a b : Int) : List D := (List.range (b - a).toNat).map fun i => .int (a + (i : Nat))
def eListRg1 (fa : ED) : AD := fun env N Q => fa env N fun x N1 => match x with | .int n => (-1000000 ≤ n ∧ n ≤ 1000000) ∧ Q ((List.range n.toNat).map fun i => .int (i : Nat)) N1 | _ => False
def eListRg2 (fa fb : ED) : AD := fun env N Q => fa env N fun x N1 => fb env N1 fun y N2 => match x, y with | .int l, .int n => (-1000000 ≤ l ∧ l ≤ 1000000 ∧ -1000000 ≤ n ∧ n ≤ 1000000) ∧ Q (rgD l n) N2 | _, _ => False
theorem dva_rg {K : PySem.W.Frag} {mg : Str → Option Value} {w : Dr} {H : Hp} (a b : Int) : DvA K mg w H (rgV a b) (rgD a b) := by
  unfold rgV rgD
  generalize List.range (b - a).toNat = l
  induction l with
  | nil => exact .nil
  | cons x xs ih => exact .cons (.int _) ih
theorem rgD_zero (n : Int) : rgD 0 n = (List.range n.toNat).map fun i => .int (i : Nat) := by
  unfold rgD
  rw [Int.sub_zero]
  exact List.map_congr_left fun i _ => by rw [Int.zero_add]
theorem pf_listRg1 (hc : X.calm = true) (hg : Gl X "list") (hm : X.mg "list" = none) (hg2 : Gl X "range") (hm2 : X.mg "range" = none) (ha : PEb X C a fa) (na : starEach [a] X.env = (false, eval a X.env) :: starEach [] X.env := by rfl)
    (nb : starEach [.Call (.Name "range" p2) [a] [] q] X.env = (false, eval (.Call (.Name "range" p2) [a] [] q) X.env) :: starEach [] X.env := by rfl) : PEf X C (.Call (.Name "list" p) [.Call (.Name "range" p2) [a] [] q] [] pos) (eListRg1 fa) :=
  ⟨PE.imp (pe_listRg hc hg hm (prg_1 hg2 hm2 ha.pe na) nb) fun σ H Q ⟨env, Hs, N, R, r, hf, k⟩ => ⟨env, Hs, N, _, r, hf, fun x N1 h1 v H1 Hs1 g1 m1 d1 => by
    match x, h1 with
    | .int n, ⟨hb, h1⟩ =>
      have := d1.int
      subst this
      exact ⟨n, rfl, ⟨by omega, by omega, by omega, by omega, by omega⟩, fun q hq => k _ _ h1 q (rgV 0 n) _ Hs1 (g1.trans (Go.own1 g1.sub hq)) (m1.new hq) (Own.mk_new m1 g1.sub hq) (free_back g1 hq) (by rw [← rgD_zero]; exact dva_rg 0 n)⟩⟩⟩
theorem pf_listRg2 (hc : X.calm = true) (hg : Gl X "list") (hm : X.mg "list" = none) (hg2 : Gl X "range") (hm2 : X.mg "range" = none) (ha : PEb X C a fa) (hb : PEb X C b fb) (na : starEach [a, b] X.env = (false, eval a X.env) :: starEach [b] X.env := by rfl) (nb' : starEach [b] X.env = (false, eval b X.env) :: starEach [] X.env := by rfl)
    (hp : (backTo q (starEach [b] X.env)).any (·.1) = false := by rfl)
    (nb : starEach [.Call (.Name "range" p2) [a, b] [] q] X.env = (false, eval (.Call (.Name "range" p2) [a, b] [] q) X.env) :: starEach [] X.env := by rfl) : PEf X C (.Call (.Name "list" p) [.Call (.Name "range" p2) [a, b] [] q] [] pos) (eListRg2 fa fb) :=
  ⟨PE.imp (pe_listRg hc hg hm (prg_2 hg2 hm2 ha.pe hb.pe na nb' hp) nb) fun σ H Q ⟨env, Hs, N, R, r, hf, k⟩ => ⟨env, Hs, N, _, r, hf, fun x N1 h1 v H1 Hs1 g1 m1 d1 => ⟨env, Hs1, N1, _, r.move g1 m1, h1, fun y N2 h2 u H2 Hs2 g2 m2 d2 => by
    match x, y, h2 with
    | .int l, .int n, ⟨hb, h2⟩ =>
      have := d1.int
      subst this
      have := d2.int
      subst this
      have g := g1.trans g2
      exact ⟨l, n, rfl, rfl, ⟨by omega, by omega, by omega, by omega, by omega⟩, fun q hq => k _ _ h2 q (rgV l n) _ Hs2 (g.trans (Go.own1 g.sub hq)) (m2.new hq) (Own.mk_new m2 g.sub hq) (free_back g hq) (dva_rg l n)⟩⟩⟩⟩
/-- a op1 b op2 c as a test -/
theorem ptd_chain {op op' : CmpOp} {o o' : O2} (ho : OpD X C.w (compareOp op) o) (ho' : OpD X C.w (compareOp op') o') (ha : PEb X C a fa) (hb : PEb X C b fb) (hc : PEb X C c fc) (hm : lastMarks [op, op'] [b, c] = false := by with_unfolding_all rfl) :
    PTd X C (.Compare a [op, op'] [b, c] pos) (tVal (eChain o o' fa fb fc)) := ⟨PT.imp (pt_chain ho ho' ha.pe hb.pe hc.pe hm) fun σ H Q ⟨env, Hs, N, R, r, hf, k⟩ =>
  ⟨env, Hs, N, _, r, hf, fun x N1 h1 v H1 Hs1 g1 m1 d1 => ⟨env, Hs1, N1, _, r.move g1 m1, h1, fun y N2 h2 u H2 Hs2 g2 m2 d2 => ⟨Hs2, N2, x, y, _, g2.sub, m2, d1.go g2, d2, h2, fun z hz v' H' Hs' g' m' d' => by
    match z, hz with
    | .bl true, hz =>
      cases d'
      refine ⟨true, rfl, iteT ⟨env, Hs', N2, _, (r.move (g1.trans g2) m2).move g' (m' _ m2), hz, fun u' N3 h3 v3 H3 Hs3 g3 m3 d3 => ⟨Hs3, N3, y, u', _, g3.sub, m3, (d2.go g').go g3, d3, h3, fun z4 hz4 v4 H4 Hs4 g4 m4 d4 => ?_⟩⟩⟩
      match z4, hz4 with
      | .bl b4, hz4 =>
        cases d4
        exact ⟨b4, rfl, k _ _ hz4 _ _ ((((g1.trans g2).trans g').trans g3).trans g4) (m4 _ m3)⟩
    | .bl false, hz =>
      cases d'
      exact ⟨false, rfl, iteF ⟨false, rfl, k _ _ hz _ _ ((g1.trans g2).trans g') (m' _ m2)⟩⟩⟩⟩⟩⟩
/-- isinstance(x, (T, U)) -/
def eIsi2 (T U : String) (f : ED) : ED := fun env N Q => f env N fun r N1 => match r.isTy T, r.isTy U with | some b, some c => Q (.bl (b || c)) N1 | _, _ => False
theorem pd_isi2 {T T2 : Str} {U U2 : String} {k3 : Nat} {p3 p4 : Pos} (hT : U ∈ isTys) (hT2 : U2 ∈ isTys) (hg : Gl X "isinstance") (hm : X.mg "isinstance" = none) (hgT : Gl X T) (hmT : X.mg T = none) (hbT : bootBuiltins T = some (.type U)) (hgT2 : Gl X T2) (hmT2 : X.mg T2 = none) (hbT2 : bootBuiltins T2 = some (.type U2)) (h : PEb X C e f)
    (hnT : T ≠ "__name__" := by decide) (hdT : (T == ("__debug__" : Str)) = false := by decide) (hnT2 : T2 ≠ "__name__" := by decide) (hdT2 : (T2 == ("__debug__" : Str)) = false := by decide)
    (hs : starEach [e, .Tuple [.Name T p2, .Name T2 p3] k3 p4] X.env = (false, eval e X.env) :: starEach [.Tuple [.Name T p2, .Name T2 p3] k3 p4] X.env := by rfl)
    (hs2 : starEach [.Tuple [.Name T p2, .Name T2 p3] k3 p4] X.env = (false, eval (.Tuple [.Name T p2, .Name T2 p3] k3 p4) X.env) :: starEach [] X.env := by rfl)
    (hs3 : starEach [.Name T p2, .Name T2 p3] X.env = (false, eval (.Name T p2) X.env) :: starEach [.Name T2 p3] X.env := by rfl) (hs4 : starEach [.Name T2 p3] X.env = (false, eval (.Name T2 p3) X.env) :: starEach [] X.env := by rfl)
    (hpl : (backTo pos (starEach [.Tuple [.Name T p2, .Name T2 p3] k3 p4] X.env)).any (·.1) = false := by rfl) : PEd X C (.Call (.Name "isinstance" p) [e, .Tuple [.Name T p2, .Name T2 p3] k3 p4] [] pos) (eIsi2 U U2 f) :=
  ⟨PE.imp (pe_callB call_isiT hg hm (by decide +kernel) (pa_cons h.pe (pa_cons (pe_tup (pa_cons (pe_bltn (v := .ty U) hgT hmT hbT rfl hnT hdT) (pa_cons (pe_bltn (v := .ty U2) hgT2 hmT2 hbT2 rfl hnT2 hdT2) pa_nil hs4) hs3)) pa_nil hs2) hs) (by decide) (by decide) hs hpl) fun σ H Q ⟨env, Hs, N, R, r, hf, k⟩ => ⟨env, Hs, N, _, r, hf, fun y N1 h1 v H1 Hs1 g1 m1 d1 => by
    refine ⟨(show 2 ≤ sizeLine by decide), fun t ht => ?_⟩
    cases z : y.isTy U with
    | none => simp only [z] at h1
    | some b1 =>
      cases z2 : y.isTy U2 with
      | none => simp only [z, z2] at h1
      | some b2 =>
        simp only [z, z2] at h1
        obtain ⟨W, e1, e2⟩ := kit_isTy (K := X.K) hT z
        obtain ⟨W2, e3, e4⟩ := kit_isTy (K := X.K) hT2 z2
        rw [e1] at e3
        cases e3
        have gg := Go.own1 (w := C.w) (o := .tup [.ty U, .ty U2]) g1.sub ht
        refine ⟨v, t, [.ty U, .ty U2], _, [.type U, .type U2], b1 || b2, rfl, upd_same, .cons (.ty U) (.cons (.ty U2) .nil), dv_ty gg.sub (d1.go gg) e1, ?_, k _ _ h1 _ _ Hs1 (g1.trans gg) (m1.new ht) (.bl _)⟩
        refine kitAny_cons e2 (fun zb => ?_) fun zb => by rw [zb]; rfl
        rw [zb]
        exact kitAny_cons e4 (fun zb => by rw [zb]; rfl) fun zb => by rw [zb]; rfl⟩⟩
/-- {} -/
theorem pd_mt {k : Pos} : PEd X C (.Dict [] [] k) (eC .mt) := ⟨PE.imp pe_dnewK fun σ H Q ⟨env, Hs, N, R, r, hf, k⟩ => fun d hd => k _ _ hf _ _ _ (Go.new1 r.s hd) (r.m.new hd) (.mt upd_same)⟩
/-! ### repr -/
def reprOk (d : PyData) : Prop := d.showable = true ∧ d.hasDict = false ∧ d.depth ≤ 40 ∧ d.shown.length ≤ sizeLine
def eRepr (f : ED) : ED := fun env N Q => f env N fun r N1 => r.plain = true ∧ reprOk r.py ∧ Q (.str r.py.shown) N1
theorem pd_repr {j : Nat} (hg : Gl X "repr") (hm : X.mg "repr" = none) (hr : Room j X.A) (hG : X.A.guards = some []) (h : PEb X C e f) (hs : starEach [e] X.env = (false, eval e X.env) :: starEach [] X.env := by rfl) : PEd X C (.Call (.Name "repr" p) [e] [] pos) (eRepr f) :=
  ⟨PE.imp (pe_callB (id := "repr") (r := Rd.rRepr X.K) (Rd.call_reprD hr hG) hg hm (by decide +kernel) (pa_cons h.pe pa_nil hs) (by decide) (by decide) hs rfl) fun σ H Q ⟨env, Hs, N, R, r, hf, k⟩ => ⟨env, Hs, N, _, r, hf, fun y N1 ⟨p1, p2, h1⟩ v H1 Hs1 g1 m1 d1 =>
    ⟨v, y.py, rfl, .dat (d1.dp g1.sub p1) ⟨p2.1, p2.2.1, p2.2.2.1, p2.2.2.2⟩, k _ _ h1 _ _ _ g1 m1 (.str _)⟩⟩⟩
end
end Pd
/-! ## Pd: when data is alike, comparable, shown -/
namespace Pd
open PySem PySem.Spec PyProof.Rows L2
mutual
/-- no bools, no objects -/
def D.nb : D → Bool
  | .non | .int _ | .str _ => true
  | .lst xs => D.nbA xs
  | .tup xs => D.nbA xs
  | .bl _ | .ins _ _ | .exc _ _ | .fn _ | .mt | .drw => false
def D.nbA : List D → Bool
  | [] => true
  | x :: xs => D.nb x && D.nbA xs
end
mutual
theorem eqv_nb : ∀ (a b : D), a.nb = true → b.nb = true → (PyData.eqv a.py b.py = true ↔ a = b)
  | .non, b, _, hb => by cases b <;> simp_all [D.nb, D.py, PyData.eqv]
  | .int i, b, _, hb => by cases b <;> simp_all [D.nb, D.py, PyData.eqv]
  | .str x, b, _, hb => by cases b <;> simp_all [D.nb, D.py, PyData.eqv]
  | .lst xs, b, ha, hb => by
    cases b with
    | lst ys =>
      simp only [D.nb] at ha hb
      simp only [D.py, PyData.eqv, D.lst.injEq]
      exact eqvA_nb xs ys ha hb
    | _ => simp_all [D.nb, D.py, PyData.eqv]
  | .tup xs, b, ha, hb => by
    cases b with
    | tup ys =>
      simp only [D.nb] at ha hb
      simp only [D.py, PyData.eqv, D.tup.injEq]
      exact eqvA_nb xs ys ha hb
    | _ => simp_all [D.nb, D.py, PyData.eqv]
  | .bl _, _, ha, _ => by simp [D.nb] at ha
  | .ins _ _, _, ha, _ => by simp [D.nb] at ha
  | .exc _ _, _, ha, _ => by simp [D.nb] at ha
  | .fn _, _, ha, _ => by simp [D.nb] at ha
  | .mt, _, ha, _ => by simp [D.nb] at ha
  | .drw, _, ha, _ => by simp [D.nb] at ha
theorem eqvA_nb : ∀ (xs ys : List D), D.nbA xs = true → D.nbA ys = true → (PyData.eqvAll (D.pyA xs) (D.pyA ys) = true ↔ xs = ys)
  | [], [], _, _ => by simp [D.pyA, PyData.eqvAll]
  | [], _ :: _, _, _ => by simp [D.pyA, PyData.eqvAll]
  | _ :: _, [], _, _ => by simp [D.pyA, PyData.eqvAll]
  | x :: xs, y :: ys, hx, hy => by
    simp only [D.nbA, Bool.and_eq_true] at hx hy
    simp only [D.pyA, PyData.eqvAll, Bool.and_eq_true, List.cons.injEq]
    rw [eqv_nb x y hx.1 hy.1, eqvA_nb xs ys hx.2 hy.2]
end
theorem eqv_true {a : D} (h : a.nb = true) : PyData.eqv a.py a.py = true := (eqv_nb a a h h).mpr rfl
theorem eqv_false {a b : D} (h : a.nb = true) (h' : b.nb = true) (n : a ≠ b) : PyData.eqv a.py b.py = false := by
  cases e : PyData.eqv a.py b.py with
  | false => rfl
  | true => exact absurd ((eqv_nb a b h h').mp e) n
theorem nbA_mem : ∀ {xs : List D}, D.nbA xs = true ↔ ∀ x ∈ xs, x.nb = true
  | [] => by simp [D.nbA]
  | x :: xs => by simp [D.nbA, nbA_mem (xs := xs)]
mutual
/-- data that may be compared, at most k deep -/
def D.fine : Nat → D → Bool
  | _, .non => true
  | _, .bl _ => true
  | _, .int _ => true
  | _, .str x => PyData.strOk x
  | 0, .lst _ => false
  | 0, .tup _ => false
  | k + 1, .lst xs => D.fineA k xs
  | k + 1, .tup xs => D.fineA k xs
  | _, _ => false
def D.fineA : Nat → List D → Bool
  | _, [] => true
  | k, x :: xs => D.fine k x && D.fineA k xs
end
theorem fineA_mem {k : Nat} : ∀ {xs : List D}, D.fineA k xs = true ↔ ∀ x ∈ xs, x.fine k = true
  | [] => by simp [D.fineA]
  | x :: xs => by simp [D.fineA, fineA_mem (xs := xs)]
mutual
theorem fine_ok : ∀ (k : Nat) (d : D), d.fine k = true → d.plain = true ∧ d.py.canLay0 = true ∧ d.py.depth ≤ k
  | _, .non, _ => by simp [D.plain, D.py, PyData.canLay0, PyData.depth]
  | _, .bl _, _ => by simp [D.plain, D.py, PyData.canLay0, PyData.depth]
  | _, .int _, _ => by simp [D.plain, D.py, PyData.canLay0, PyData.depth]
  | _, .str x, h => by
    simp only [D.fine] at h
    simp [D.plain, D.py, PyData.canLay0, PyData.depth, h]
  | 0, .lst _, h => by simp [D.fine] at h
  | 0, .tup _, h => by simp [D.fine] at h
  | k + 1, .lst xs, h => by
    simp only [D.fine] at h
    obtain ⟨h1, h2, h3⟩ := fineA_ok k xs h
    simp only [D.plain, D.py, PyData.canLay0, PyData.depth]
    exact ⟨h1, h2, by omega⟩
  | k + 1, .tup xs, h => by
    simp only [D.fine] at h
    obtain ⟨h1, h2, h3⟩ := fineA_ok k xs h
    simp only [D.plain, D.py, PyData.canLay0, PyData.depth]
    exact ⟨h1, h2, by omega⟩
  | k, .ins _ _, h => by cases k <;> simp [D.fine] at h
  | k, .exc _ _, h => by cases k <;> simp [D.fine] at h
  | k, .fn _, h => by cases k <;> simp [D.fine] at h
  | k, .mt, h => by cases k <;> simp [D.fine] at h
  | k, .drw, h => by cases k <;> simp [D.fine] at h
theorem fineA_ok : ∀ (k : Nat) (ds : List D), D.fineA k ds = true → D.plainA ds = true ∧ PyData.canLayAll0 (D.pyA ds) = true ∧ PyData.depthAll (D.pyA ds) ≤ k
  | _, [], _ => by simp [D.plainA, D.pyA, PyData.canLayAll0, PyData.depthAll]
  | k, x :: xs, h => by
    simp only [D.fineA, Bool.and_eq_true] at h
    obtain ⟨a1, a2, a3⟩ := fine_ok k x h.1
    obtain ⟨b1, b2, b3⟩ := fineA_ok k xs h.2
    simp only [D.plainA, D.pyA, PyData.canLayAll0, PyData.depthAll, a1, a2, b1, b2, Bool.and_self, true_and]
    omega
end
theorem fine_eqOk {k : Nat} {d : D} (h : d.fine k = true) (hk : k ≤ 64) : d.eqOk = true := by
  obtain ⟨h1, h2, h3⟩ := fine_ok k d h
  unfold D.eqOk SeqAt.shaped
  rw [h1, h2, Bool.true_and, Bool.true_and]
  exact decide_eq_true (by omega)
theorem fine_int {k : Nat} {ns : List Int} : D.fineA k (ns.map D.int) = true := fineA_mem.mpr fun x hx => by
  obtain ⟨n, _, rfl⟩ := List.mem_map.mp hx
  cases k <;> rfl
/-! ### how long its text is -/
mutual
def D.rl : D → Nat
  | .non => 4
  | .bl _ => 5
  | .int i => if -1000 < i ∧ i < 1000 then 4 else (PyData.shown (.int i)).length
  | .str x => (reprText x).length
  | .lst xs => D.rlA xs + 3
  | .tup xs => D.rlA xs + 4
  | _ => 0
def D.rlA : List D → Nat
  | [] => 0
  | x :: xs => D.rl x + 2 + D.rlA xs
end
theorem small_text : ∀ n : Nat, n < 1000 → (PyData.shown (.int (n : Int))).length ≤ 4 ∧ (PyData.shown (.int (-(n : Int)))).length ≤ 4 := by decide +kernel
mutual
theorem shown_len : ∀ (d : D), d.plain = true → d.py.shown.length ≤ d.rl
  | .non, _ => by simp only [D.py, D.rl]; decide
  | .bl b, _ => by cases b <;> (simp only [D.py, D.rl]; decide)
  | .int i, _ => by
    simp only [D.py, D.rl]
    split
    · rename_i h
      rcases Int.le_total 0 i with c | c
      · obtain ⟨n, rfl⟩ := Int.eq_ofNat_of_zero_le c
        exact (small_text n (by omega)).1
      · obtain ⟨n, e⟩ := Int.eq_ofNat_of_zero_le (show 0 ≤ -i by omega)
        have e' : i = -(n : Int) := by omega
        rw [e']
        exact (small_text n (by omega)).2
    · exact Nat.le_refl _
  | .str x, _ => by simp only [D.py, D.rl, PyData.shown]; exact Nat.le_refl _
  | .lst xs, h => by
    simp only [D.py, D.rl, PyData.shown]
    have a := listText_len_le (PyData.shownAll (D.pyA xs))
    have b := shown_lenA xs (by simpa [D.plain] using h)
    omega
  | .tup xs, h => by
    simp only [D.py, D.rl, PyData.shown]
    have a := tupleText_len_le (PyData.shownAll (D.pyA xs))
    have b := shown_lenA xs (by simpa [D.plain] using h)
    omega
  | .ins _ _, h => by simp [D.plain] at h
  | .exc _ _, h => by simp [D.plain] at h
  | .fn _, h => by simp [D.plain] at h
  | .mt, h => by simp [D.plain] at h
  | .drw, h => by simp [D.plain] at h
theorem shown_lenA : ∀ (ds : List D), D.plainA ds = true → ((PyData.shownAll (D.pyA ds)).map (·.length)).sum + 2 * (PyData.shownAll (D.pyA ds)).length ≤ D.rlA ds
  | [], _ => by simp [D.pyA, PyData.shownAll, D.rlA]
  | x :: xs, h => by
    simp only [D.plainA, Bool.and_eq_true] at h
    have a := shown_len x h.1
    have b := shown_lenA xs h.2
    simp only [D.pyA, PyData.shownAll, D.rlA, List.map_cons, List.sum_cons, List.length_cons]
    omega
end
mutual
/-- data that repr shows: ints of no more than some hundreds of digits -/
def D.shw : D → Bool
  | .non | .bl _ | .str _ => true
  | .int i => decide (i.natAbs.log2 < 1920)
  | .lst xs => D.shwA xs
  | .tup xs => D.shwA xs
  | _ => false
def D.shwA : List D → Bool
  | [] => true
  | x :: xs => D.shw x && D.shwA xs
end
theorem shwA_mem : ∀ {xs : List D}, D.shwA xs = true ↔ ∀ x ∈ xs, x.shw = true
  | [] => by simp [D.shwA]
  | x :: xs => by simp [D.shwA, shwA_mem (xs := xs)]
mutual
theorem shw_ok : ∀ (d : D), d.shw = true → d.plain = true ∧ d.py.showable = true ∧ d.py.hasDict = false
  | .non, _ => by simp [D.plain, D.py, PyData.showable, PyData.hasDict]
  | .bl _, _ => by simp [D.plain, D.py, PyData.showable, PyData.hasDict]
  | .int i, h => by
    simp only [D.shw] at h
    simp only [D.plain, D.py, PyData.showable, PyData.hasDict, h, and_self]
  | .str x, h => by simp [D.plain, D.py, PyData.showable, PyData.hasDict]
  | .lst xs, h => by
    simp only [D.shw] at h
    simpa only [D.plain, D.py, PyData.showable, PyData.hasDict] using shwA_ok xs h
  | .tup xs, h => by
    simp only [D.shw] at h
    simpa only [D.plain, D.py, PyData.showable, PyData.hasDict] using shwA_ok xs h
  | .ins _ _, h => by simp [D.shw] at h
  | .exc _ _, h => by simp [D.shw] at h
  | .fn _, h => by simp [D.shw] at h
  | .mt, h => by simp [D.shw] at h
  | .drw, h => by simp [D.shw] at h
theorem shwA_ok : ∀ (ds : List D), D.shwA ds = true → D.plainA ds = true ∧ PyData.showableAll (D.pyA ds) = true ∧ PyData.hasDictAll (D.pyA ds) = false
  | [], _ => by simp [D.plainA, D.pyA, PyData.showableAll, PyData.hasDictAll]
  | x :: xs, h => by
    simp only [D.shwA, Bool.and_eq_true] at h
    obtain ⟨a1, a2, a3⟩ := shw_ok x h.1
    obtain ⟨b1, b2, b3⟩ := shwA_ok xs h.2
    simp only [D.plainA, D.pyA, PyData.showableAll, PyData.hasDictAll, a1, a2, a3, b1, b2, b3, Bool.and_self, Bool.or_self, and_self]
end
theorem repr_ok {k : Nat} {d : D} (h1 : d.shw = true) (h2 : d.fine k = true) (hk : k ≤ 40) (h3 : d.rl ≤ 16777216) : d.plain = true ∧ reprOk d.py := by
  obtain ⟨a1, a2, a3⟩ := shw_ok d h1
  obtain ⟨_, _, b3⟩ := fine_ok k d h2
  exact ⟨a1, a2, a3, by omega, Nat.le_trans (shown_len d a1) (by rw [sizeLine_eq]; exact h3)⟩
end Pd
/-! ## Pd: comprehensions and loops run -/
namespace Pd
open PySem PySem.Spec PyProof.Rows L2
section
variable {g g1 : GD} {tt tt1 : TD} {fe : ED} {ws ws1 : List Nat} {env : PEnv} {fi1 : AD}
theorem lcD_map (h : D → D) : ∀ (items acc : List D) (N : Nat) (Q : List D → Nat → Prop), acc.length + items.length ≤ 1000000 → (∀ x ∈ items, ∀ N Q, Q (h x) N → g x (wipeE env ws) fun env2 => fe env2 N Q) → Q (acc ++ items.map h) N → lcD g tYesD fe ws env items acc N Q
  | [], acc, N, Q, _, _, q => by simpa [lcD] using q
  | x :: xs, acc, N, Q, hl, hb, q => by
    have hx : g x (wipeE env ws) fun env2 => fe env2 N fun y N4 => acc.length < 1000000 ∧ lcD g tYesD fe ws env xs (acc ++ [y]) N4 Q := hb x List.mem_cons_self N _ ⟨by simp at hl; omega, lcD_map h xs _ N Q (by simp at hl ⊢; omega) (fun z hz => hb z (List.mem_cons_of_mem _ hz)) (by simpa using q)⟩
    simpa only [lcD, tYesD, if_true] using hx
theorem lcD_filter (p : D → Bool) (h : D → D) : ∀ (items acc : List D) (N : Nat) (Q : List D → Nat → Prop), acc.length + items.length ≤ 1000000 →
    (∀ x ∈ items, ∀ N (Q1 : D → Nat → Prop) (Q0 : Nat → Prop), (p x = true → Q1 (h x) N) → (p x = false → Q0 N) → g x (wipeE env ws) fun env2 => tt env2 N fun b N3 => if b = true then fe env2 N3 Q1 else Q0 N3) → Q (acc ++ (items.filter p).map h) N → lcD g tt fe ws env items acc N Q
  | [], acc, N, Q, _, _, q => by simpa [lcD] using q
  | x :: xs, acc, N, Q, hl, hb, q => by
    unfold lcD
    refine hb x List.mem_cons_self N (fun y N4 => acc.length < 1000000 ∧ lcD g tt fe ws env xs (acc ++ [y]) N4 Q) (fun N3 => lcD g tt fe ws env xs acc N3 Q) (fun hp => ⟨by simp at hl; omega, lcD_filter p h xs _ N Q (by simp at hl ⊢; omega) (fun z hz => hb z (List.mem_cons_of_mem _ hz)) (by simpa [List.filter_cons, hp] using q)⟩) fun hp => lcD_filter p h xs _ N Q (by simp at hl ⊢; omega) (fun z hz => hb z (List.mem_cons_of_mem _ hz)) (by simpa [List.filter_cons, hp] using q)
/-- items come by draws -/
theorem lcD_rel (Rel : D → D → Prop) (c : Nat) : ∀ (items acc : List D) (N : Nat) (Q : List D → Nat → Prop), acc.length + items.length ≤ 1000000 → (∀ x ∈ items, ∀ M Q, M ≤ N + c * items.length → (∀ y M', Rel x y → M ≤ M' → M' ≤ M + c → Q y M') → g x (wipeE env ws) fun env2 => fe env2 M Q) →
    (∀ ys N', ys.length = items.length → (∀ (i : Nat) (x y : D), items[i]? = some x → ys[i]? = some y → Rel x y) → N ≤ N' → N' ≤ N + c * items.length → Q (acc ++ ys) N') → lcD g tYesD fe ws env items acc N Q
  | [], acc, N, Q, _, _, q => by simpa [lcD] using q [] N rfl (fun _ _ _ h => by simp at h) (Nat.le_refl _) (Nat.le_add_right _ _)
  | x :: xs, acc, N, Q, hl, hb, q => by
    have hx : g x (wipeE env ws) fun env2 => fe env2 N fun y N4 => acc.length < 1000000 ∧ lcD g tYesD fe ws env xs (acc ++ [y]) N4 Q := hb x List.mem_cons_self N _ (Nat.le_add_right _ _) fun y M' hr h1 h2 => by
      have e : c * (xs.length + 1) = c * xs.length + c := Nat.mul_succ _ _
      refine ⟨by simp at hl; omega, lcD_rel Rel c xs _ M' Q (by simp at hl ⊢; omega) (fun z hz M Q hM => hb z (List.mem_cons_of_mem _ hz) M Q (by rw [List.length_cons, e]; omega)) fun ys N' l1 l2 l3 l4 => ?_⟩
      have := q (y :: ys) N' (by simp [l1]) (fun i a b ha hb => by
        cases i with
        | zero => simp at ha hb; subst ha hb; exact hr
        | succ i => exact l2 i a b (by simpa using ha) (by simpa using hb)) (by omega) (by rw [List.length_cons, e]; omega)
      simpa using this
    simpa only [lcD, tYesD, if_true] using hx
theorem lcI2_map (h : D → D) : ∀ (items acc : List D) (N : Nat) (Q : List D → Nat → Prop), acc.length + items.length ≤ 1000000 → (∀ x ∈ items, ∀ N Q, Q (h x) N → g x (wipeE env ws) fun env2 => fe env2 N Q) → Q (acc ++ items.map h) N → lcI2 g tYesD fe ws env items acc N Q
  | [], acc, N, Q, _, _, q => by simpa [lcI2] using q
  | x :: xs, acc, N, Q, hl, hb, q => by
    have hx : g x (wipeE env ws) fun env2 => fe env2 N fun y N4 => acc.length < 1000000 ∧ lcI2 g tYesD fe ws env xs (acc ++ [y]) N4 Q := hb x List.mem_cons_self N _ ⟨by simp at hl; omega, lcI2_map h xs _ N Q (by simp at hl ⊢; omega) (fun z hz => hb z (List.mem_cons_of_mem _ hz)) (by simpa using q)⟩
    simpa only [lcI2, tYesD, if_true] using hx
theorem lcI2_filter (p : D → Bool) (h : D → D) : ∀ (items acc : List D) (N : Nat) (Q : List D → Nat → Prop), acc.length + items.length ≤ 1000000 →
    (∀ x ∈ items, ∀ N (Q1 : D → Nat → Prop) (Q0 : Nat → Prop), (p x = true → Q1 (h x) N) → (p x = false → Q0 N) → g x (wipeE env ws) fun env2 => tt env2 N fun b N3 => if b = true then fe env2 N3 Q1 else Q0 N3) → Q (acc ++ (items.filter p).map h) N → lcI2 g tt fe ws env items acc N Q
  | [], acc, N, Q, _, _, q => by simpa [lcI2] using q
  | x :: xs, acc, N, Q, hl, hb, q => by
    unfold lcI2
    refine hb x List.mem_cons_self N (fun y N4 => acc.length < 1000000 ∧ lcI2 g tt fe ws env xs (acc ++ [y]) N4 Q) (fun N3 => lcI2 g tt fe ws env xs acc N3 Q) (fun hp => ⟨by simp at hl; omega, lcI2_filter p h xs _ N Q (by simp at hl ⊢; omega) (fun z hz => hb z (List.mem_cons_of_mem _ hz)) (by simpa [List.filter_cons, hp] using q)⟩) fun hp => lcI2_filter p h xs _ N Q (by simp at hl ⊢; omega) (fun z hz => hb z (List.mem_cons_of_mem _ hz)) (by simpa [List.filter_cons, hp] using q)
theorem lcD2_flat (h : D → List D) : ∀ (items acc : List D) (N : Nat) (Q : List D → Nat → Prop), (∀ x ∈ items, ∀ acc N (Q : List D → Nat → Prop), Q (acc ++ h x) N → acc.length + (h x).length ≤ 1000000 → g x (wipeE env ws) fun env2 => fi1 env2 N fun items1 N4 => lcI2 g1 tt1 fe ws1 env2 items1 acc N4 Q) →
    acc.length + (items.flatMap h).length ≤ 1000000 → Q (acc ++ items.flatMap h) N → lcD2 g tYesD fi1 g1 tt1 fe ws ws1 env items acc N Q
  | [], acc, N, Q, _, _, q => by simpa [lcD2] using q
  | x :: xs, acc, N, Q, hb, hl, q => by
    have l2 : acc.length + (h x).length + (xs.flatMap h).length ≤ 1000000 := by
      rw [List.flatMap_cons, List.length_append] at hl
      omega
    have hx : g x (wipeE env ws) fun env2 => fi1 env2 N fun items1 N4 => lcI2 g1 tt1 fe ws1 env2 items1 acc N4 fun acc5 N5 => lcD2 g tYesD fi1 g1 tt1 fe ws ws1 env xs acc5 N5 Q :=
      hb x List.mem_cons_self acc N _ (lcD2_flat h xs _ N Q (fun z hz => hb z (List.mem_cons_of_mem _ hz)) (by rw [List.length_append]; omega) (by simpa [List.flatMap_cons] using q)) (by omega)
    simpa only [lcD2, tYesD, if_true] using hx
theorem lcD2_flatP (p : D → Bool) (h : D → List D) : ∀ (items acc : List D) (N : Nat) (Q : List D → Nat → Prop), (∀ x ∈ items, ∀ acc N (Q : List D → Nat → Prop), (p x = true → acc.length + (h x).length ≤ 1000000 ∧ Q (acc ++ h x) N) → (p x = false → Q acc N) →
      g x (wipeE env ws) fun env2 => tt env2 N fun b N3 => if b = true then fi1 env2 N3 (fun items1 N4 => lcI2 g1 tt1 fe ws1 env2 items1 acc N4 Q) else Q acc N3) →
    acc.length + ((items.filter p).flatMap h).length ≤ 1000000 → Q (acc ++ (items.filter p).flatMap h) N → lcD2 g tt fi1 g1 tt1 fe ws ws1 env items acc N Q
  | [], acc, N, Q, _, _, q => by simpa [lcD2] using q
  | x :: xs, acc, N, Q, hb, hl, q => by
    unfold lcD2
    refine hb x List.mem_cons_self acc N (fun acc5 N5 => lcD2 g tt fi1 g1 tt1 fe ws ws1 env xs acc5 N5 Q) (fun hp => ?_) fun hp => ?_
    · simp only [List.filter_cons, hp, if_true, List.flatMap_cons, List.length_append] at hl q
      exact ⟨by omega, lcD2_flatP p h xs _ N Q (fun z hz => hb z (List.mem_cons_of_mem _ hz)) (by rw [List.length_append]; omega) (by simpa using q)⟩
    · rw [List.filter_cons_of_neg (by simp [hp])] at hl q
      exact lcD2_flatP p h xs _ N Q (fun z hz => hb z (List.mem_cons_of_mem _ hz)) hl q
end
theorem loop_inv {g : GD} {fb : SD} {R : PEnds} (I : List D → PEnv → Nat → Prop)
    (step : ∀ x xs env N (R' : PEnds), I (x :: xs) env N → (∀ e n, I xs e n → R'.nx e n) → (∀ e n, I xs e n → R'.ct e n) → (∀ r n, R.rt r n → R'.rt r n) → (∀ e n, R.nx e n → R'.bk e n) → g x env fun env1 => fb env1 N R') (done : ∀ env N, I [] env N → R.nx env N) :
    ∀ (items : List D) (env : PEnv) (N : Nat), I items env N → loopD g fb items env N R
  | [], env, N, h => done env N h
  | x :: xs, env, N, h => by
    unfold loopD
    exact step x xs env N _ h (fun e n he => loop_inv I step done xs e n he) (fun e n he => loop_inv I step done xs e n he) (fun _ _ z => z) fun _ _ z => z
/-- what a def promises that promises nothing -/
theorem okD_none {T : LTabs} {P : Program} {w : World} {K : PySem.W.Frag} {mg : Str → Option Value} {base : Heap} {k : Nat} {f : Addr} {fd : FuncData} {ps : List Str} {n : Nat} {F : FD} (h : ∀ ds N R, ¬ F ds N R) (hn : n = ps.length := by rfl) : Rd.FnOkG P w K mg base CX0 k f fd ps (spD T K mg n F) :=
  ⟨fun vs H Q E ⟨_, _, _, _, _, _, hl, _⟩ => by rw [hl]; exact hn, fun _ _ _ _ _ _ _ _ _ _ _ _ _ _ ⟨_, _, _, _, _, _, _, _, _, _, _, _, hF, _⟩ => absurd hF (h _ _ _)⟩
/-! subscripts -/
theorem atI_nat' {α : Type} (xs : List α) (n : Nat) : atI xs (n : Int) = xs[n]? := by
  unfold atI ixN
  by_cases h : n < xs.length
  · rw [if_pos (Int.natCast_nonneg n), if_pos (by omega)]
    simp
  · rw [if_pos (Int.natCast_nonneg n), if_neg (by omega)]
    simp
    omega
theorem atI_0 {α : Type} (xs : List α) : atI xs 0 = xs[0]? := atI_nat' xs 0
theorem atI_1 {α : Type} (xs : List α) : atI xs 1 = xs[1]? := atI_nat' xs 1
theorem atI_2 {α : Type} (xs : List α) : atI xs 2 = xs[2]? := atI_nat' xs 2
theorem atI_3 {α : Type} (xs : List α) : atI xs 3 = xs[3]? := atI_nat' xs 3
theorem ixN_nat' {n j : Nat} (h : j < n) : ixN n (j : Int) = some j := by
  unfold ixN
  rw [if_pos (Int.natCast_nonneg j), if_pos (by omega)]
  simp
theorem cut_from {α : Type} (xs : List α) (k : Nat) : cutL xs (some (k : Int)) none = xs.drop k := by
  unfold cutL
  rw [HT.sIx_nat, HT.sIx_none]
  by_cases h : k ≤ xs.length
  · rw [Nat.min_eq_left h, List.take_of_length_le (by rw [List.length_drop]; omega)]
  · rw [Nat.min_eq_right (by omega), List.drop_of_length_le (Nat.le_refl _), List.drop_of_length_le (by omega)]
    simp
theorem cut_to {α : Type} (xs : List α) (k : Nat) : cutL xs none (some (k : Int)) = xs.take k := by
  unfold cutL
  rw [HT.sIx_nat, HT.sIx_none]
  rw [Nat.sub_zero, List.drop_zero]
  by_cases h : k ≤ xs.length
  · rw [Nat.min_eq_left h]
  · rw [Nat.min_eq_right (by omega), List.take_of_length_le (Nat.le_refl _), List.take_of_length_le (by omega)]
theorem cut_both {α : Type} (xs : List α) (j k : Nat) : cutL xs (some (j : Int)) (some (k : Int)) = (xs.take k).drop j := by
  unfold cutL
  rw [HT.sIx_nat, HT.sIx_nat]
  by_cases h : k ≤ xs.length
  · rw [Nat.min_eq_left h]
    by_cases hj : j ≤ xs.length
    · rw [Nat.min_eq_left hj, List.drop_take]
    · rw [Nat.min_eq_right (by omega), List.drop_of_length_le (Nat.le_refl _), List.drop_of_length_le (by rw [List.length_take]; omega)]
      simp
  · rw [Nat.min_eq_right (a := k) (by omega), List.take_of_length_le (l := xs) (i := k) (by omega)]
    by_cases hj : j ≤ xs.length
    · rw [Nat.min_eq_left hj, List.take_of_length_le (by rw [List.length_drop]; omega)]
    · rw [Nat.min_eq_right (by omega), List.drop_of_length_le (Nat.le_refl _), List.drop_of_length_le (by omega)]
      simp
theorem cut_1 {α : Type} (x : α) (xs : List α) : cutL (x :: xs) (some 1) none = xs := cut_from (x :: xs) 1
/-- the common words for numbers -/
abbrev nD (n : Nat) : D := .int (n : Int)
abbrev nsD (ns : List Nat) : D := .lst (ns.map nD)
end Pd
/-! ## Terms: plain mathematics. Tasks, the order of a term, normal terms and that they are alone of their order -/
namespace Tmm
/-- a term: a task, or parts one behind the other (true), beside one another (false) -/
inductive Trm where
  | task (n : Nat)
  | node (b : Bool) (ps : List Trm)
namespace Trm
mutual
def tasks : Trm → List Nat
  | .task n => [n]
  | .node _ ps => tasksL ps
def tasksL : List Trm → List Nat
  | [] => []
  | p :: ps => tasks p ++ tasksL ps
end
mutual
/-- x is ahead of y -/
def ah : Trm → Nat → Nat → Bool
  | .task _, _, _ => false
  | .node b ps, x, y => ahL b ps x y
def ahL (b : Bool) : List Trm → Nat → Nat → Bool
  | [], _, _ => false
  | p :: ps, x, y => ah p x y || (b && decide (x ∈ tasks p) && decide (y ∈ tasksL ps)) || ahL b ps x y
end
mutual
/-- each node has two parts or more -/
def ok : Trm → Bool
  | .task _ => true
  | .node _ ps => decide (2 ≤ ps.length) && okL ps
def okL : List Trm → Bool
  | [] => true
  | p :: ps => ok p && okL ps
end
mutual
def depth : Trm → Nat
  | .task _ => 0
  | .node _ ps => depthL ps + 1
def depthL : List Trm → Nat
  | [] => 0
  | p :: ps => max (depth p) (depthL ps)
end
/-- its word -/
def word : Trm → Option Bool
  | .task _ => none
  | .node b _ => some b
/-- the least of some numbers -/
def leastL : List Nat → Nat
  | [] => 0
  | [n] => n
  | n :: ns => min n (leastL ns)
def least (t : Trm) : Nat := leastL t.tasks
/-- ascending by the least tasks -/
def ascL (ps : List Trm) : Prop := ps.Pairwise fun p q => p.least ≤ q.least
mutual
/-- a normal term -/
def nrm : Trm → Prop
  | .task _ => True
  | .node b ps => 2 ≤ ps.length ∧ nrmL b ps ∧ (b = false → ascL ps)
def nrmL (b : Bool) : List Trm → Prop
  | [] => True
  | p :: ps => nrm p ∧ p.word ≠ some b ∧ nrmL b ps
end
theorem nrmL_mem {b : Bool} : ∀ {ps : List Trm}, nrmL b ps ↔ ∀ p ∈ ps, nrm p ∧ p.word ≠ some b
  | [] => by simp [nrmL]
  | p :: ps => by
    simp only [nrmL, List.mem_cons, forall_eq_or_imp, nrmL_mem (ps := ps), and_assoc]
theorem okL_mem : ∀ {ps : List Trm}, okL ps = true ↔ ∀ p ∈ ps, ok p = true
  | [] => by simp [okL]
  | p :: ps => by simp [okL, okL_mem (ps := ps)]
theorem mem_tasksL {x : Nat} : ∀ {ps : List Trm}, x ∈ tasksL ps ↔ ∃ p ∈ ps, x ∈ tasks p
  | [] => by simp [tasksL]
  | p :: ps => by simp [tasksL, mem_tasksL (ps := ps)]
theorem tasksL_append : ∀ (ps qs : List Trm), tasksL (ps ++ qs) = tasksL ps ++ tasksL qs
  | [], _ => by simp [tasksL]
  | p :: ps, qs => by simp [tasksL, tasksL_append ps qs]
mutual
theorem ah_mem : ∀ {t : Trm} {x y : Nat}, ah t x y = true → x ∈ tasks t ∧ y ∈ tasks t
  | .task _, _, _, h => by simp [ah] at h
  | .node b ps, x, y, h => by
    simp only [ah] at h
    simp only [tasks]
    exact ahL_mem h
theorem ahL_mem {b : Bool} : ∀ {ps : List Trm} {x y : Nat}, ahL b ps x y = true → x ∈ tasksL ps ∧ y ∈ tasksL ps
  | [], _, _, h => by simp [ahL] at h
  | p :: ps, x, y, h => by
    simp only [ahL, Bool.or_eq_true, Bool.and_eq_true, decide_eq_true_eq] at h
    simp only [tasksL, List.mem_append]
    rcases h with (h | ⟨⟨_, h1⟩, h2⟩) | h
    · exact ⟨.inl (ah_mem h).1, .inl (ah_mem h).2⟩
    · exact ⟨.inl h1, .inr h2⟩
    · exact ⟨.inr (ahL_mem h).1, .inr (ahL_mem h).2⟩
end
theorem ah_out {t : Trm} {x y : Nat} (h : x ∉ tasks t ∨ y ∉ tasks t) : ah t x y = false := by
  cases e : ah t x y with
  | false => rfl
  | true => exact absurd (ah_mem e) (by rintro ⟨a, b⟩; rcases h with h | h <;> exact h (by assumption))
theorem ahL_out {b : Bool} {ps : List Trm} {x y : Nat} (h : x ∉ tasksL ps ∨ y ∉ tasksL ps) : ahL b ps x y = false := by
  cases e : ahL b ps x y with
  | false => rfl
  | true => exact absurd (ahL_mem e) (by rintro ⟨a, b⟩; rcases h with h | h <;> exact h (by assumption))
section
variable {b : Bool} {p : Trm} {ps : List Trm} {x y : Nat}
theorem nd_head (h : (tasksL (p :: ps)).Nodup) : (tasks p).Nodup ∧ (tasksL ps).Nodup ∧ ∀ x, x ∈ tasks p → x ∉ tasksL ps := by
  simp only [tasksL, List.nodup_append] at h
  exact ⟨h.1, h.2.1, fun x h1 h2 => h.2.2 x h1 x h2 rfl⟩
theorem ahL_pp (h : (tasksL (p :: ps)).Nodup) (hx : x ∈ tasks p) (hy : y ∈ tasks p) : ahL b (p :: ps) x y = ah p x y := by
  have n := (nd_head h).2.2
  simp [ahL, n y hy, ahL_out (b := b) (.inl (n x hx))]
theorem ahL_pq (h : (tasksL (p :: ps)).Nodup) (hx : x ∈ tasks p) (hy : y ∈ tasksL ps) : ahL b (p :: ps) x y = b := by
  have n := (nd_head h).2.2
  have hy' : y ∉ tasks p := fun z => n y z hy
  simp [ahL, hx, hy, ah_out (.inr hy'), ahL_out (b := b) (.inl (n x hx))]
theorem ahL_qp (h : (tasksL (p :: ps)).Nodup) (hx : x ∈ tasksL ps) (hy : y ∈ tasks p) : ahL b (p :: ps) x y = false := by
  have n := (nd_head h).2.2
  have hx' : x ∉ tasks p := fun z => n x z hx
  simp [ahL, hx', ah_out (.inl hx'), ahL_out (b := b) (.inr (n y hy))]
theorem ahL_qq (h : (tasksL (p :: ps)).Nodup) (hx : x ∈ tasksL ps) (hy : y ∈ tasksL ps) : ahL b (p :: ps) x y = ahL b ps x y := by
  have n := (nd_head h).2.2
  have hx' : x ∉ tasks p := fun z => n x z hx
  simp [ahL, hx', ah_out (.inl hx')]
end
mutual
theorem tasks_ne : ∀ {t : Trm}, nrm t → tasks t ≠ []
  | .task _, _ => by simp [tasks]
  | .node b ps, h => by
    simp only [nrm] at h
    simp only [tasks]
    exact tasksL_ne (by omega) h.2.1
theorem tasksL_ne {b : Bool} : ∀ {ps : List Trm}, 1 ≤ ps.length → nrmL b ps → tasksL ps ≠ []
  | [], h, _ => by simp at h
  | p :: ps, _, h => by
    simp only [nrmL] at h
    simp only [tasksL]
    intro z
    exact tasks_ne h.1 (List.append_eq_nil_iff.mp z).1
end
theorem exists_task {t : Trm} (h : nrm t) : ∃ x, x ∈ tasks t := List.exists_mem_of_ne_nil _ (tasks_ne h)
theorem exists_taskL {b : Bool} {ps : List Trm} (h1 : 1 ≤ ps.length) (h : nrmL b ps) : ∃ x, x ∈ tasksL ps := List.exists_mem_of_ne_nil _ (tasksL_ne h1 h)
/-- tied (b false) or not tied (b true), different -/
def hangs (b : Bool) (R : Nat → Nat → Bool) (x y : Nat) : Prop := if b = true then (R x y = false ∧ R y x = false) else (R x y = true ∨ R y x = true)
/-- a part of a node of the word b hangs together -/
theorem conn {b : Bool} {p : Trm} (h : nrm p) (hw : p.word ≠ some b) (nd : (tasks p).Nodup) (S : Nat → Prop) {x0 : Nat} (hx0 : x0 ∈ tasks p) (s0 : S x0)
    (cl : ∀ x y, x ∈ tasks p → y ∈ tasks p → hangs b (ah p) x y → S x → S y) : ∀ y, y ∈ tasks p → S y := by
  match p, h, hw, nd, hx0, cl with
  | .task n, _, _, _, hx0, _ =>
    intro y hy
    simp only [tasks, List.mem_singleton] at hx0 hy
    subst hx0 hy
    exact s0
  | .node c (p1 :: ps), h, hw, nd, hx0, cl =>
    have hc : c = !b := by
      cases c <;> cases b <;> simp [word] at hw ⊢
    simp only [nrm, nrmL] at h
    simp only [tasks] at nd hx0 cl ⊢
    obtain ⟨h2, ⟨hp, _, hps⟩, _⟩ := h
    simp only [List.length_cons] at h2
    have step : ∀ {x y}, (x ∈ tasks p1 ∧ y ∈ tasksL ps) ∨ (x ∈ tasksL ps ∧ y ∈ tasks p1) → S x → S y := by
      intro x y hxy sx
      have mx : x ∈ tasksL (p1 :: ps) := by simp only [tasksL, List.mem_append]; rcases hxy with q | q; exact .inl q.1; exact .inr q.1
      have my : y ∈ tasksL (p1 :: ps) := by simp only [tasksL, List.mem_append]; rcases hxy with q | q; exact .inr q.2; exact .inl q.2
      refine cl x y mx my ?_ sx
      simp only [hangs, ah]
      rcases hxy with ⟨a, d⟩ | ⟨a, d⟩
      · rw [ahL_pq nd a d, ahL_qp nd d a, hc]
        cases b <;> simp
      · rw [ahL_pq nd d a, ahL_qp nd a d, hc]
        cases b <;> simp
    obtain ⟨u, hu⟩ := exists_task hp
    obtain ⟨v, hv⟩ := exists_taskL (by omega) hps
    intro y hy
    simp only [tasksL, List.mem_append] at hx0 hy
    rcases hx0 with hx0 | hx0
    · have sv : S v := step (.inl ⟨hx0, hv⟩) s0
      rcases hy with hy | hy
      · exact step (.inr ⟨hv, hy⟩) sv
      · exact step (.inl ⟨hx0, hy⟩) s0
    · have su : S u := step (.inr ⟨hx0, hu⟩) s0
      rcases hy with hy | hy
      · exact step (.inr ⟨hx0, hy⟩) s0
      · exact step (.inl ⟨hu, hy⟩) su
  | .node c [], h, _, _, _, _ => simp [nrm] at h
/-! the least task -/
theorem leastL_spec : ∀ {ns : List Nat}, ns ≠ [] → leastL ns ∈ ns ∧ ∀ n ∈ ns, leastL ns ≤ n
  | [], h => absurd rfl h
  | [n], _ => by simp [leastL]
  | n :: m :: ns, _ => by
    obtain ⟨h1, h2⟩ := leastL_spec (ns := m :: ns) (by simp)
    simp only [leastL]
    refine ⟨?_, fun k hk => ?_⟩
    · rcases Nat.le_total n (leastL (m :: ns)) with c | c
      · rw [Nat.min_eq_left c]; exact List.mem_cons_self
      · rw [Nat.min_eq_right c]; exact List.mem_cons_of_mem _ h1
    · rcases List.mem_cons.mp hk with e | e
      · subst e; exact Nat.min_le_left _ _
      · exact Nat.le_trans (Nat.min_le_right _ _) (h2 k e)
theorem least_mem {t : Trm} (h : tasks t ≠ []) : least t ∈ tasks t := (leastL_spec h).1
theorem least_le {t : Trm} {x : Nat} (h : x ∈ tasks t) : least t ≤ x := (leastL_spec (fun z => by rw [z] at h; cases h)).2 x h
theorem least_head {b : Bool} {p : Trm} {ps : List Trm} (h : nrmL b (p :: ps)) (a : ascL (p :: ps)) : ∀ x, x ∈ tasksL (p :: ps) → least p ≤ x := fun x hx => by
  simp only [tasksL, List.mem_append] at hx
  rcases hx with hx | hx
  · exact least_le hx
  · obtain ⟨q, hq, hxq⟩ := mem_tasksL.mp hx
    exact Nat.le_trans ((List.pairwise_cons.mp a).1 q hq) (least_le hxq)
/-! ### alone of its order -/
theorem head_sub {b : Bool} {p q : Trm} {ps qs : List Trm} (hp : nrmL b (p :: ps)) (hq : nrmL b (q :: qs)) (ap : b = false → ascL (p :: ps)) (aq : b = false → ascL (q :: qs)) (np : (tasksL (p :: ps)).Nodup) (nq : (tasksL (q :: qs)).Nodup)
    (same : ∀ x, x ∈ tasksL (p :: ps) ↔ x ∈ tasksL (q :: qs)) (rel : ∀ x y, x ∈ tasksL (p :: ps) → y ∈ tasksL (p :: ps) → ahL b (p :: ps) x y = ahL b (q :: qs) x y) : ∀ x, x ∈ tasks p → x ∈ tasks q := by
  simp only [nrmL] at hp hq
  have inp : ∀ {x}, x ∈ tasks p → x ∈ tasksL (p :: ps) := fun {x} h => by simp only [tasksL, List.mem_append]; exact .inl h
  have inq : ∀ {x}, x ∈ tasks q → x ∈ tasksL (q :: qs) := fun {x} h => by simp only [tasksL, List.mem_append]; exact .inl h
  have split : ∀ {x}, x ∈ tasksL (q :: qs) → x ∈ tasks q ∨ x ∈ tasksL qs := fun {x} h => by simp only [tasksL, List.mem_append] at h; exact h
  -- some task of p lies in q
  have start : ∃ x, x ∈ tasks p ∧ x ∈ tasks q := by
    cases b with
    | false =>
      have lp := least_mem (tasks_ne hp.1)
      have lq := least_mem (tasks_ne hq.1)
      have e1 := least_head (by simp only [nrmL]; exact hp) (ap rfl) _ ((same _).mpr (inq lq))
      have e2 := least_head (by simp only [nrmL]; exact hq) (aq rfl) _ ((same _).mp (inp lp))
      have e : least p = least q := Nat.le_antisymm e1 e2
      exact ⟨least p, lp, e ▸ lq⟩
    | true =>
      obtain ⟨x, hx⟩ := exists_task hp.1
      rcases split ((same x).mp (inp hx)) with h | h
      · exact ⟨x, hx, h⟩
      · -- the tasks of q are ahead of x, so they lie in p
        obtain ⟨y, hy⟩ := exists_task hq.1
        have r := rel y x ((same y).mpr (inq hy)) (inp hx)
        rw [ahL_pq nq hy h] at r
        have yp : y ∈ tasks p := by
          have my := (same y).mpr (inq hy)
          simp only [tasksL, List.mem_append] at my
          rcases my with z | z
          · exact z
          · rw [ahL_qp np z hx] at r; cases r
        exact ⟨y, yp, hy⟩
  obtain ⟨x0, h0, s0⟩ := start
  refine conn (b := b) hp.1 hp.2.1 (nd_head np).1 (fun x => x ∈ tasks q) h0 s0 fun x y hx hy hh sx => ?_
  rcases split ((same y).mp (inp hy)) with h | h
  · exact h
  · exfalso
    have r1 := rel x y (inp hx) (inp hy)
    have r2 := rel y x (inp hy) (inp hx)
    rw [ahL_pp np hx hy, ahL_pq nq sx h] at r1
    rw [ahL_pp np hy hx, ahL_qp nq h sx] at r2
    simp only [hangs, r1, r2] at hh
    cases b <;> simp at hh
theorem uniqL {b : Bool} : ∀ (ps qs : List Trm), (∀ p ∈ ps, ∀ u, nrm u → (tasks u).Nodup → (∀ x, x ∈ tasks p ↔ x ∈ tasks u) → (∀ x y, x ∈ tasks p → y ∈ tasks p → ah p x y = ah u x y) → p = u) → nrmL b ps → nrmL b qs → (b = false → ascL ps) → (b = false → ascL qs) →
    (tasksL ps).Nodup → (tasksL qs).Nodup → (∀ x, x ∈ tasksL ps ↔ x ∈ tasksL qs) → (∀ x y, x ∈ tasksL ps → y ∈ tasksL ps → ahL b ps x y = ahL b qs x y) → ps = qs
  | [], [], _, _, _, _, _, _, _, _, _ => rfl
  | [], q :: qs, _, _, hq, _, _, _, _, same, _ => by
    obtain ⟨x, hx⟩ := exists_taskL (by simp) hq
    have := (same x).mpr hx
    simp [tasksL] at this
  | p :: ps, [], _, hp, _, _, _, _, _, same, _ => by
    obtain ⟨x, hx⟩ := exists_taskL (by simp) hp
    have := (same x).mp hx
    simp [tasksL] at this
  | p :: ps, q :: qs, ih, hp, hq, ap, aq, np, nq, same, rel => by
    have s1 := head_sub hp hq ap aq np nq same rel
    have s2 := head_sub hq hp aq ap nq np (fun x => (same x).symm) fun x y hx hy => (rel x y ((same x).mpr hx) ((same y).mpr hy)).symm
    have hp' := hp
    have hq' := hq
    simp only [nrmL] at hp' hq'
    have inp : ∀ {x}, x ∈ tasks p → x ∈ tasksL (p :: ps) := fun {x} h => by simp only [tasksL, List.mem_append]; exact .inl h
    have inps : ∀ {x}, x ∈ tasksL ps → x ∈ tasksL (p :: ps) := fun {x} h => by simp only [tasksL, List.mem_append]; exact .inr h
    have e : p = q := ih p List.mem_cons_self q hq'.1 (nd_head nq).1 (fun x => ⟨s1 x, s2 x⟩) fun x y hx hy => by
      have r := rel x y (inp hx) (inp hy)
      rw [ahL_pp np hx hy, ahL_pp nq (s1 x hx) (s1 y hy)] at r
      exact r
    subst e
    have n1 := (nd_head np).2.2
    have n2 := (nd_head nq).2.2
    have sm : ∀ x, x ∈ tasksL ps ↔ x ∈ tasksL qs := fun x => by
      have z := same x
      simp only [tasksL, List.mem_append] at z
      exact ⟨fun h => (z.mp (.inr h)).resolve_left fun q => n1 x q h, fun h => (z.mpr (.inr h)).resolve_left fun q => n2 x q h⟩
    refine congrArg (p :: ·) (uniqL ps qs (fun r hr => ih r (List.mem_cons_of_mem _ hr)) hp'.2.2 hq'.2.2 (fun h => (List.pairwise_cons.mp (ap h)).2) (fun h => (List.pairwise_cons.mp (aq h)).2) (nd_head np).2.1 (nd_head nq).2.1 sm fun x y hx hy => ?_)
    have r := rel x y (inps hx) (inps hy)
    rw [ahL_qq np hx hy, ahL_qq nq ((sm x).mp hx) ((sm y).mp hy)] at r
    exact r
theorem part_less {b : Bool} {ps : List Trm} (h : nrmL b ps) (h2 : 2 ≤ ps.length) {p : Trm} (hp : p ∈ ps) : (tasks p).length < (tasksL ps).length := by
  match ps, h, h2, hp with
  | p1 :: p2 :: ps, h, _, hp =>
    have h' := h
    simp only [nrmL] at h'
    have l1 : 1 ≤ (tasks p1).length := List.length_pos_iff.mpr (tasks_ne h'.1)
    have l2 : 1 ≤ (tasksL (p2 :: ps)).length := List.length_pos_iff.mpr (tasksL_ne (by simp) (by simp only [nrmL]; exact h'.2.2))
    have all : ∀ qs : List Trm, ∀ q ∈ qs, (tasks q).length ≤ (tasksL qs).length := by
      intro qs
      induction qs with
      | nil => intro q h; cases h
      | cons a as ih =>
        intro q hq
        simp only [tasksL, List.length_append]
        rcases List.mem_cons.mp hq with e | e
        · subst e; omega
        · have := ih q e; omega
    show _ < (tasks p1 ++ tasksL (p2 :: ps)).length
    rw [List.length_append]
    rcases List.mem_cons.mp hp with e | e
    · subst e; omega
    · have := all _ p e; omega
/-- a normal term is alone of its order -/
theorem uniq : ∀ (k : Nat) (t u : Trm), (tasks t).length ≤ k → nrm t → nrm u → (tasks t).Nodup → (tasks u).Nodup → (∀ x, x ∈ tasks t ↔ x ∈ tasks u) → (∀ x y, x ∈ tasks t → y ∈ tasks t → ah t x y = ah u x y) → t = u := by
  intro k
  induction k with
  | zero =>
    intro t u hk ht
    exact absurd (List.length_eq_zero_iff.mp (Nat.le_zero.mp hk)) (tasks_ne ht)
  | succ k ih =>
    intro t u hk ht hu nt nu same rel
    match t, u, ht, hu, nt, nu, same, rel, hk with
    | .task n, .task m, _, _, _, _, same, _, _ =>
      have := (same n).mp (by simp [tasks])
      simp only [tasks, List.mem_singleton] at this
      rw [this]
    | .task n, .node c (q1 :: q2 :: qs), _, hu, _, nu, same, _, _ =>
      exfalso
      simp only [nrm, nrmL] at hu
      obtain ⟨x, hx⟩ := exists_task hu.2.1.1
      obtain ⟨y, hy⟩ := exists_task hu.2.1.2.2.1
      simp only [tasks] at same nu
      have ix := (same x).mpr (by simp only [tasksL, List.mem_append]; exact .inl hx)
      have iy := (same y).mpr (by simp only [tasksL, List.mem_append]; exact .inr (.inl hy))
      simp only [List.mem_singleton] at ix iy
      exact (nd_head nu).2.2 x hx (by simp only [tasksL, List.mem_append]; rw [ix, ← iy]; exact .inl hy)
    | .node c (q1 :: q2 :: qs), .task n, hu, _, nu, _, same, _, _ =>
      exfalso
      simp only [nrm, nrmL] at hu
      obtain ⟨x, hx⟩ := exists_task hu.2.1.1
      obtain ⟨y, hy⟩ := exists_task hu.2.1.2.2.1
      simp only [tasks] at same nu
      have ix := (same x).mp (by simp only [tasksL, List.mem_append]; exact .inl hx)
      have iy := (same y).mp (by simp only [tasksL, List.mem_append]; exact .inr (.inl hy))
      simp only [List.mem_singleton] at ix iy
      exact (nd_head nu).2.2 x hx (by simp only [tasksL, List.mem_append]; rw [ix, ← iy]; exact .inl hy)
    | .node b ps, .node c qs, ht, hu, nt, nu, same, rel, hk =>
      have hbc : b = c := by
        apply Classical.byContradiction
        intro ne
        -- the whole of u hangs together in t's way, yet t falls into its parts
        have ht' := ht
        simp only [nrm] at ht'
        match ps, ht' with
        | p1 :: ps, ⟨h2, hn, _⟩ =>
          simp only [nrmL] at hn
          simp only [List.length_cons] at h2
          simp only [tasks] at same nt nu rel
          obtain ⟨x, hx⟩ := exists_task hn.1
          obtain ⟨y, hy⟩ := exists_taskL (b := b) (ps := ps) (by omega) hn.2.2
          have mx : x ∈ tasksL qs := (same x).mp (by simp only [tasksL, List.mem_append]; exact .inl hx)
          have my : y ∈ tasksL qs := (same y).mp (by simp only [tasksL, List.mem_append]; exact .inr hy)
          refine absurd (conn (b := b) hu (by simp only [word, ne_eq, Option.some.injEq]; exact fun z => ne z.symm) (by simp only [tasks]; exact nu) (fun z => z ∈ tasks p1) (by simp only [tasks]; exact mx) hx ?_ y (by simp only [tasks]; exact my)) fun z => (nd_head nt).2.2 y z hy
          intro v w hv hw hh sv
          simp only [tasks] at hv hw
          simp only [ah] at rel hh
          have iv := (same v).mpr hv
          have iw := (same w).mpr hw
          simp only [hangs, ← rel v w iv iw, ← rel w v iw iv] at hh
          simp only [tasksL, List.mem_append] at iw
          rcases iw with iw | iw
          · exact iw
          · exfalso
            rw [ahL_pq nt sv iw, ahL_qp nt iw sv] at hh
            cases b <;> simp at hh
      subst hbc
      have ht' := ht
      have hu' := hu
      simp only [nrm] at ht' hu'
      simp only [tasks] at same nt nu rel hk
      simp only [ah] at rel
      have key : ∀ p : Trm, ∀ qs : List Trm, p ∈ qs → (tasksL qs).Nodup → (tasks p).Nodup := by
        intro p qs
        induction qs with
        | nil => intro h; cases h
        | cons a as iha =>
          intro h nd
          rcases List.mem_cons.mp h with e | e
          · subst e; exact (nd_head nd).1
          · exact iha e (nd_head nd).2.1
      rw [uniqL ps qs (fun p hp u' h1 h2 h3 h4 => ih p u' (by have := part_less ht'.2.1 ht'.1 hp; omega) (nrmL_mem.mp ht'.2.1 p hp).1 h1 (key p ps hp nt) h2 h3 h4) ht'.2.1 hu'.2.1 ht'.2.2 hu'.2.2 nt nu same rel]
    | .node c [], _, h, _, _, _, _, _, _ => simp [nrm] at h
    | .node c [_], _, h, _, _, _, _, _, _ => simp [nrm] at h
    | .task _, .node c [], _, h, _, _, _, _, _ => simp [nrm] at h
    | .task _, .node c [_], _, h, _, _, _, _, _ => simp [nrm] at h
end Trm
end Tmm
/-! ## Terms as data -/
namespace Tmm
open PySem Pd
def wd (b : Bool) : Str := if b = true then "behind" else "beside"
namespace Trm
mutual
def toD : Trm → D
  | .task n => nD n
  | .node b ps => .tup (.str (wd b) :: toDL ps)
def toDL : List Trm → List D
  | [] => []
  | p :: ps => toD p :: toDL ps
end
theorem toDL_map : ∀ ps : List Trm, toDL ps = ps.map toD
  | [] => by simp [toDL]
  | p :: ps => by simp [toDL, toDL_map ps]
theorem toDL_len (ps : List Trm) : (toDL ps).length = ps.length := by rw [toDL_map, List.length_map]
theorem wd_inj {b c : Bool} (h : wd b = wd c) : b = c := by
  cases b <;> cases c <;> first | rfl | (exfalso; revert h; decide +kernel)
mutual
theorem toD_inj : ∀ {t u : Trm}, toD t = toD u → t = u
  | .task n, .task m, h => by
    simp only [toD, D.int.injEq] at h
    exact congrArg Trm.task (by omega)
  | .task _, .node _ _, h => by simp [toD] at h
  | .node _ _, .task _, h => by simp [toD] at h
  | .node b ps, .node c qs, h => by
    simp only [toD, D.tup.injEq, List.cons.injEq, D.str.injEq] at h
    rw [wd_inj h.1, toDL_inj h.2]
theorem toDL_inj : ∀ {ps qs : List Trm}, toDL ps = toDL qs → ps = qs
  | [], [], _ => rfl
  | [], _ :: _, h => by simp [toDL] at h
  | _ :: _, [], h => by simp [toDL] at h
  | p :: ps, q :: qs, h => by
    simp only [toDL, List.cons.injEq] at h
    rw [toD_inj h.1, toDL_inj h.2]
end
mutual
theorem toD_nb : ∀ t : Trm, (toD t).nb = true
  | .task n => rfl
  | .node b ps => by
    simp only [toD, D.nb, D.nbA, Bool.true_and]
    exact toDL_nb ps
theorem toDL_nb : ∀ ps : List Trm, D.nbA (toDL ps) = true
  | [] => rfl
  | p :: ps => by simp only [toDL, D.nbA, toD_nb p, toDL_nb ps, Bool.and_self]
end
theorem wd_ok (b : Bool) : PyData.strOk (wd b) = true := by cases b <;> decide +kernel
mutual
theorem toD_fine : ∀ (t : Trm) (k : Nat), t.depth ≤ k → (toD t).fine k = true
  | .task n, k, _ => by cases k <;> rfl
  | .node b ps, 0, h => by simp [depth] at h
  | .node b ps, k + 1, h => by
    simp only [depth] at h
    simp only [toD, D.fine, D.fineA]
    rw [wd_ok, Bool.true_and]
    exact toDL_fine ps k (by omega)
theorem toDL_fine : ∀ (ps : List Trm) (k : Nat), depthL ps ≤ k → D.fineA k (toDL ps) = true
  | [], _, _ => by simp [toDL, D.fineA]
  | p :: ps, k, h => by
    simp only [depthL] at h
    simp only [toDL, D.fineA, toD_fine p k (by omega), toDL_fine ps k (by omega), Bool.and_self]
end
mutual
theorem toD_rl : ∀ (t : Trm), (∀ x ∈ tasks t, x < 1000) → ok t = true → (toD t).rl + 20 ≤ 30 * (tasks t).length
  | .task n, h, _ => by
    have := h n (by simp [tasks])
    simp only [toD, D.rl, tasks, List.length_singleton]
    rw [if_pos (by omega)]
    omega
  | .node b ps, h, hk => by
    simp only [ok, Bool.and_eq_true, decide_eq_true_eq] at hk
    simp only [tasks] at h
    have := toDL_rl ps h hk.2
    have wl : (D.str (wd b)).rl ≤ 10 := by
      simp only [D.rl]
      cases b <;> decide +kernel
    simp only [toD, D.rl, D.rlA, tasks] at wl ⊢
    have l2 : 2 ≤ (tasksL ps).length := by
      match ps, hk with
      | p :: q :: ps, hk =>
        simp only [okL, Bool.and_eq_true] at hk
        have e1 := toD_len p hk.2.1
        have e2 := toD_len q hk.2.2.1
        simp only [tasksL, List.length_append]
        omega
      | [_], hk => simp at hk
      | [], hk => simp at hk
    omega
theorem toDL_rl : ∀ (ps : List Trm), (∀ x ∈ tasksL ps, x < 1000) → okL ps = true → D.rlA (toDL ps) + 18 * ps.length ≤ 30 * (tasksL ps).length
  | [], _, _ => by simp [toDL, D.rlA, tasksL]
  | p :: ps, h, hk => by
    simp only [okL, Bool.and_eq_true] at hk
    simp only [tasksL] at h
    have a := toD_rl p (fun x hx => h x (List.mem_append.mpr (.inl hx))) hk.1
    have b := toDL_rl ps (fun x hx => h x (List.mem_append.mpr (.inr hx))) hk.2
    simp only [toDL, D.rlA, tasksL, List.length_append, List.length_cons]
    omega
theorem toD_len : ∀ (t : Trm), ok t = true → 1 ≤ (tasks t).length
  | .task n, _ => by simp [tasks]
  | .node b ps, hk => by
    simp only [ok, Bool.and_eq_true, decide_eq_true_eq] at hk
    simp only [tasks]
    match ps, hk with
    | p :: ps, hk =>
      simp only [okL, Bool.and_eq_true] at hk
      have := toD_len p hk.2.1
      simp only [tasksL, List.length_append]
      omega
    | [], hk => simp at hk
end
/-! data read back -/
def seqO : List (Option Trm) → Option (List Trm)
  | [] => some []
  | none :: _ => none
  | some t :: os => (seqO os).map (t :: ·)
def wordOf (s : Str) : Option Bool := if s = wd true then some true else if s = wd false then some false else none
theorem wordOf_wd (b : Bool) : wordOf (wd b) = some b := by cases b <;> decide +kernel
theorem wordOf_some {s : Str} {b : Bool} (h : wordOf s = some b) : s = wd b := by
  unfold wordOf at h
  split at h
  · cases h; assumption
  · split at h
    · cases h; assumption
    · cases h
mutual
def tmQ : D → Option Trm
  | .int i => if 0 ≤ i then some (.task i.toNat) else none
  | .tup xs => match xs[0]? with
    | some (D.str s) => (match wordOf s with | some b => (seqO (tmA xs).tail).map (Trm.node b) | none => none)
    | _ => none
  | _ => none
def tmA : List D → List (Option Trm)
  | [] => []
  | x :: xs => tmQ x :: tmA xs
end
theorem mapSome_inj : ∀ {a b : List Trm}, a.map some = b.map some → a = b
  | [], [], _ => rfl
  | [], _ :: _, h => by simp at h
  | _ :: _, [], h => by simp at h
  | x :: a, y :: b, h => by
    simp only [List.map_cons, List.cons.injEq, Option.some.injEq] at h
    rw [h.1, mapSome_inj h.2]
theorem seqO_some : ∀ {os : List (Option Trm)} {ps : List Trm}, seqO os = some ps ↔ os = ps.map some
  | [], ps => by cases ps <;> simp [seqO]
  | none :: os, ps => by cases ps <;> simp [seqO]
  | some t :: os, ps => by
    cases ps with
    | nil => simp [seqO]
    | cons p ps =>
      simp only [seqO, List.map_cons, List.cons.injEq, Option.some.injEq]
      cases h : seqO os with
      | none =>
        simp only [Option.map_none, reduceCtorEq, false_iff]
        rintro ⟨_, e⟩
        rw [seqO_some.mpr e] at h
        cases h
      | some qs =>
        simp only [Option.map_some, Option.some.injEq, List.cons.injEq]
        have e := seqO_some.mp h
        rw [e]
        exact ⟨fun ⟨a, b⟩ => ⟨a, by rw [b]⟩, fun ⟨a, b⟩ => ⟨a, mapSome_inj b⟩⟩
mutual
theorem tmQ_toD : ∀ t : Trm, tmQ (toD t) = some t
  | .task n => by simp [toD, tmQ]
  | .node b ps => by
    simp only [toD, tmQ, List.getElem?_cons_zero, wordOf_wd, tmA, List.tail_cons, tmA_toD ps]
    rw [seqO_some.mpr rfl]
    rfl
theorem tmA_toD : ∀ ps : List Trm, tmA (toDL ps) = ps.map some
  | [] => by simp [toDL, tmA]
  | p :: ps => by simp only [toDL, tmA, List.map_cons, tmQ_toD p, tmA_toD ps]
end
mutual
theorem tmQ_some : ∀ (d : D) (t : Trm), tmQ d = some t → d = toD t
  | .int i, t, h => by
    simp only [tmQ] at h
    split at h
    · cases h
      simp only [toD, nD]
      congr 1
      omega
    · cases h
  | .tup xs, t, h => by
    simp only [tmQ] at h
    match xs, h with
    | D.str s :: xs, h =>
      simp only [List.getElem?_cons_zero] at h
      cases hw : wordOf s with
      | none => simp only [hw] at h; cases h
      | some b =>
        simp only [hw, tmA, List.tail_cons] at h
        cases hs : seqO (tmA xs) with
        | none => rw [hs] at h; cases h
        | some ps =>
          rw [hs] at h
          cases h
          simp only [toD]
          rw [wordOf_some hw, tmA_some xs ps (seqO_some.mp hs)]
    | [], h => simp at h
    | .non :: _, h => simp at h
    | .bl _ :: _, h => simp at h
    | .int _ :: _, h => simp at h
    | .lst _ :: _, h => simp at h
    | .tup _ :: _, h => simp at h
    | .ins _ _ :: _, h => simp at h
    | .exc _ _ :: _, h => simp at h
    | .fn _ :: _, h => simp at h
    | .mt :: _, h => simp at h
    | .drw :: _, h => simp at h
  | .non, _, h => by simp [tmQ] at h
  | .bl _, _, h => by simp [tmQ] at h
  | .str _, _, h => by simp [tmQ] at h
  | .lst _, _, h => by simp [tmQ] at h
  | .ins _ _, _, h => by simp [tmQ] at h
  | .exc _ _, _, h => by simp [tmQ] at h
  | .fn _, _, h => by simp [tmQ] at h
  | .mt, _, h => by simp [tmQ] at h
  | .drw, _, h => by simp [tmQ] at h
theorem tmA_some : ∀ (ds : List D) (ps : List Trm), tmA ds = ps.map some → ds = toDL ps
  | [], ps, h => by
    cases ps with
    | nil => rfl
    | cons _ _ => simp [tmA] at h
  | d :: ds, ps, h => by
    cases ps with
    | nil => simp [tmA] at h
    | cons p ps =>
      simp only [tmA, List.map_cons, List.cons.injEq] at h
      simp only [toDL]
      rw [tmQ_some d p h.1, tmA_some ds ps h.2]
end
/-- the tasks of data that is a term -/
def tasksD (d : D) : List D := match tmQ d with | some t => t.tasks.map nD | none => []
theorem tasksD_toD (t : Trm) : tasksD (toD t) = t.tasks.map nD := by unfold tasksD; rw [tmQ_toD]
theorem flat_tasksD : ∀ ps : List Trm, (toDL ps).flatMap tasksD = (tasksL ps).map nD
  | [] => by simp [toDL, tasksL]
  | p :: ps => by simp only [toDL, List.flatMap_cons, tasksD_toD, flat_tasksD ps, tasksL, List.map_append]
theorem mem_toDL {x : D} {ps : List Trm} (h : x ∈ toDL ps) : ∃ p ∈ ps, x = toD p := by
  rw [toDL_map] at h
  obtain ⟨p, hp, rfl⟩ := List.mem_map.mp h
  exact ⟨p, hp, rfl⟩
theorem depth_part {p : Trm} : ∀ {ps : List Trm}, p ∈ ps → depth p ≤ depthL ps
  | q :: ps, h => by
    simp only [depthL]
    rcases List.mem_cons.mp h with e | e
    · subst e; omega
    · have := depth_part e; omega
theorem tasks_part {p : Trm} : ∀ {ps : List Trm}, p ∈ ps → (tasks p).length ≤ (tasksL ps).length
  | q :: ps, h => by
    simp only [tasksL, List.length_append]
    rcases List.mem_cons.mp h with e | e
    · subst e; omega
    · have := tasks_part e; omega
end Trm
end Tmm
namespace Tmm
namespace Trm
open Pd
theorem toDL_append (ps qs : List Trm) : toDL (ps ++ qs) = toDL ps ++ toDL qs := by rw [toDL_map, toDL_map, toDL_map, List.map_append]
theorem perm_map_inv {α β : Type} {f : α → β} : ∀ {ys : List β} {xs : List α}, ys.Perm (xs.map f) → ∃ zs : List α, ys = zs.map f ∧ zs.Perm xs
  | [], xs, h => by
    have e : xs.map f = [] := List.nil_eq.mp (List.Perm.nil_eq h) |> fun z => by simpa using z
    have : xs = [] := List.map_eq_nil_iff.mp e
    exact ⟨[], rfl, by rw [this]⟩
  | y :: ys, xs, h => by
    have hy := h.mem_iff.mp (List.mem_cons_self (a := y) (l := ys))
    obtain ⟨x, hx, rfl⟩ := List.mem_map.mp hy
    obtain ⟨as, bs, rfl⟩ := List.append_of_mem hx
    have h2 : (f x :: ys).Perm (f x :: (as ++ bs).map f) := by
      refine h.trans ?_
      rw [List.map_append, List.map_cons, List.map_append]
      exact List.perm_middle
    obtain ⟨zs, rfl, hz⟩ := perm_map_inv ((List.perm_cons _).mp h2)
    exact ⟨x :: zs, rfl, (hz.cons x).trans List.perm_middle.symm⟩
theorem toDL_perm {ys : List D} {ps : List Trm} (h : ys.Perm (toDL ps)) : ∃ us : List Trm, ys = toDL us ∧ us.Perm ps := by
  rw [toDL_map] at h
  obtain ⟨us, rfl, hp⟩ := perm_map_inv h
  exact ⟨us, (toDL_map us).symm, hp⟩
end Trm
end Tmm
/-! ## Terms: normal forms, shaken terms, told pairs: plain mathematics -/
namespace Tmm
namespace Trm
theorem ahL_append {b : Bool} {x y : Nat} : ∀ (ps qs : List Trm), ahL b (ps ++ qs) x y = (ahL b ps x y || (b && decide (x ∈ tasksL ps) && decide (y ∈ tasksL qs)) || ahL b qs x y)
  | [], qs => by simp [ahL, tasksL]
  | p :: ps, qs => by
    simp only [List.cons_append, ahL, ahL_append ps qs, tasksL, tasksL_append, List.mem_append, Bool.decide_or]
    cases ah p x y <;> cases b <;> cases ahL _ ps x y <;> cases ahL _ qs x y <;> cases decide (x ∈ tasks p) <;> cases decide (x ∈ tasksL ps) <;> cases decide (y ∈ tasksL ps) <;> cases decide (y ∈ tasksL qs) <;> rfl
theorem ahL_false {x y : Nat} : ∀ (ps : List Trm), ahL false ps x y = ps.any fun p => ah p x y
  | [] => by simp [ahL]
  | p :: ps => by simp [ahL, ahL_false ps]
theorem tasksL_flat : ∀ ps : List Trm, tasksL ps = ps.flatMap tasks
  | [] => by simp [tasksL]
  | p :: ps => by simp [tasksL, tasksL_flat ps]
theorem tasksL_perm {ps qs : List Trm} (h : ps.Perm qs) : (tasksL ps).Perm (tasksL qs) := by
  rw [tasksL_flat, tasksL_flat]
  exact h.flatMap_right _
theorem ahL_perm {ps qs : List Trm} (h : ps.Perm qs) (x y : Nat) : ahL false ps x y = ahL false qs x y := by
  rw [ahL_false, ahL_false]
  rw [Bool.eq_iff_iff, List.any_eq_true, List.any_eq_true]
  exact ⟨fun ⟨p, a, c⟩ => ⟨p, h.mem_iff.mp a, c⟩, fun ⟨p, a, c⟩ => ⟨p, h.mem_iff.mpr a, c⟩⟩
theorem nrmL_append {b : Bool} {ps qs : List Trm} (h : nrmL b ps) (h' : nrmL b qs) : nrmL b (ps ++ qs) := nrmL_mem.mpr fun p hp => (List.mem_append.mp hp).elim (nrmL_mem.mp h p) (nrmL_mem.mp h' p)
theorem nrmL_perm {b : Bool} {ps qs : List Trm} (h : ps.Perm qs) (h' : nrmL b ps) : nrmL b qs := nrmL_mem.mpr fun p hp => nrmL_mem.mp h' p (h.mem_iff.mpr hp)
mutual
theorem nrm_ok : ∀ {t : Trm}, nrm t → ok t = true
  | .task _, _ => by simp [ok]
  | .node b ps, h => by
    simp only [nrm] at h
    simp only [ok, Bool.and_eq_true, decide_eq_true_eq]
    exact ⟨h.1, nrmL_ok h.2.1⟩
theorem nrmL_ok {b : Bool} : ∀ {ps : List Trm}, nrmL b ps → okL ps = true
  | [], _ => by simp [okL]
  | p :: ps, h => by
    simp only [nrmL] at h
    simp only [okL, Bool.and_eq_true]
    exact ⟨nrm_ok h.1, nrmL_ok h.2.2⟩
end
mutual
theorem ok_depth : ∀ {t : Trm}, ok t = true → depth t + 1 ≤ (tasks t).length
  | .task _, _ => by simp [depth, tasks]
  | .node b ps, h => by
    simp only [ok, Bool.and_eq_true, decide_eq_true_eq] at h
    simp only [depth, tasks]
    have := okL_depth h.2
    omega
theorem okL_depth : ∀ {ps : List Trm}, okL ps = true → depthL ps + ps.length ≤ (tasksL ps).length
  | [], _ => by simp [depthL, tasksL]
  | p :: ps, h => by
    simp only [okL, Bool.and_eq_true] at h
    have h1 := ok_depth h.1
    have h2 := okL_depth h.2
    simp only [depthL, tasksL, List.length_append, List.length_cons]
    omega
end
/-- u is a term of the same tasks and the same order as t -/
structure Alike (t u : Trm) : Prop where
  ok : ok u = true
  perm : (tasks u).Perm (tasks t)
  ah : ∀ x y, ah u x y = ah t x y
/-- the same, of lists of parts -/
structure AlikeL (b : Bool) (ps qs : List Trm) : Prop where
  ok : okL qs = true
  perm : (tasksL qs).Perm (tasksL ps)
  ah : ∀ x y, ahL b qs x y = ahL b ps x y
theorem AlikeL.nil {b : Bool} : AlikeL b [] [] := ⟨by simp [okL], by simp [tasksL], fun _ _ => rfl⟩
theorem AlikeL.app {b : Bool} {ps qs ps' qs' : List Trm} (h : AlikeL b ps qs) (h' : AlikeL b ps' qs') : AlikeL b (ps ++ ps') (qs ++ qs') := by
  refine ⟨okL_mem.mpr fun p hp => (List.mem_append.mp hp).elim (okL_mem.mp h.ok p) (okL_mem.mp h'.ok p), ?_, fun x y => ?_⟩
  · rw [tasksL_append, tasksL_append]
    exact h.perm.append h'.perm
  · rw [ahL_append, ahL_append, h.ah, h'.ah]
    congr 2
    congr 1
    · congr 1
      exact decide_eq_decide.mpr h.perm.mem_iff
    · exact decide_eq_decide.mpr h'.perm.mem_iff
theorem AlikeL.one {b : Bool} {t u : Trm} (h : Alike t u) : AlikeL b [t] [u] := by
  refine ⟨by simp [okL, h.ok], by simpa [tasksL] using h.perm, fun x y => ?_⟩
  simp [ahL, tasksL, h.ah]
theorem AlikeL.flat {b : Bool} {t : Trm} {qs : List Trm} (h : Alike t (.node b qs)) : AlikeL b [t] qs := by
  obtain ⟨h1, h2, h3⟩ := h
  simp only [Trm.ok, Bool.and_eq_true] at h1
  simp only [Trm.tasks] at h2
  simp only [Trm.ah] at h3
  refine ⟨h1.2, by simpa [tasksL] using h2, fun x y => ?_⟩
  rw [h3]
  simp [ahL, tasksL]
theorem AlikeL.perm_ {ps qs qs' : List Trm} (h : AlikeL false ps qs) (p : qs.Perm qs') : AlikeL false ps qs' :=
  ⟨okL_mem.mpr fun q hq => okL_mem.mp h.ok q (p.mem_iff.mpr hq), (tasksL_perm p.symm).trans h.perm, fun x y => by rw [← ahL_perm p]; exact h.ah x y⟩
theorem AlikeL.node {b : Bool} {ps qs : List Trm} (h : AlikeL b ps qs) (h2 : 2 ≤ qs.length) : Alike (.node b ps) (.node b qs) :=
  ⟨by simp [Trm.ok, h2, h.ok], by simpa [Trm.tasks] using h.perm, fun x y => by simpa [Trm.ah] using h.ah x y⟩
theorem Alike.refl {t : Trm} (h : Trm.ok t = true) : Alike t t := ⟨h, List.Perm.refl _, fun _ _ => rfl⟩
theorem Alike.trans {t u v : Trm} (a : Alike t u) (b : Alike u v) : Alike t v := ⟨b.ok, b.perm.trans a.perm, fun x y => (b.ah x y).trans (a.ah x y)⟩
theorem AlikeL.pair {b : Bool} {xs ys : List Trm} {p q : Trm} {ps : List Trm} (h : AlikeL b ps (xs ++ p :: q :: ys)) : AlikeL b ps (xs ++ .node b [p, q] :: ys) := by
  obtain ⟨h1, h2, h3⟩ := h
  refine ⟨okL_mem.mpr fun z hz => ?_, ?_, fun x y => ?_⟩
  · rcases List.mem_append.mp hz with a | a
    · exact okL_mem.mp h1 z (List.mem_append.mpr (.inl a))
    · rcases List.mem_cons.mp a with e | a
      · subst e
        have hp := okL_mem.mp h1 p (by simp)
        have hq := okL_mem.mp h1 q (by simp)
        simp [Trm.ok, okL, hp, hq]
      · exact okL_mem.mp h1 z (by simp [a])
  · refine List.Perm.trans ?_ h2
    simp [tasksL_append, tasksL, tasks]
  · rw [← h3, ahL_append, ahL_append]
    simp only [Trm.ahL, Trm.tasksL, Trm.tasks, Trm.ah, List.mem_append, Bool.decide_or, Bool.false_or, List.append_nil]
    try simp only [List.not_mem_nil, decide_false, Bool.and_false, Bool.or_false]
    cases Trm.ah p x y <;> cases Trm.ah q x y <;> cases b <;> cases ahL _ xs x y <;> cases ahL _ ys x y <;> cases decide (x ∈ tasks p) <;> cases decide (x ∈ tasks q) <;> cases decide (y ∈ tasks q) <;> cases decide (y ∈ tasks p) <;> cases decide (y ∈ tasksL ys) <;> cases decide (x ∈ tasksL xs) <;> rfl
/-- normal, and alike -/
def NF (t u : Trm) : Prop := nrm u ∧ Alike t u
theorem NF.eq {t t' u u' : Trm} (h : NF t u) (h' : NF t' u') (nd : (tasks t).Nodup) (nd' : (tasks t').Nodup) (same : ∀ x, x ∈ tasks t ↔ x ∈ tasks t') (rel : ∀ x y, x ∈ tasks t → y ∈ tasks t → ah t x y = ah t' x y) : u = u' :=
  uniq _ u u' (Nat.le_refl _) h.1 h'.1 (h.2.perm.nodup_iff.mpr nd) (h'.2.perm.nodup_iff.mpr nd') (fun x => by rw [h.2.perm.mem_iff, h'.2.perm.mem_iff]; exact same x) fun x y hx hy => by
    rw [h.2.ah, h'.2.ah]
    exact rel x y (h.2.perm.mem_iff.mp hx) (h.2.perm.mem_iff.mp hy)
/-- the parts of a normal node, gathered -/
structure Gath (b : Bool) (ps qs : List Trm) : Prop where
  al : AlikeL b ps qs
  nrm : nrmL b qs
  len : ps.length ≤ qs.length
theorem Gath.nil {b : Bool} : Gath b [] [] := ⟨.nil, by simp [nrmL], Nat.le_refl _⟩
theorem Gath.put {b : Bool} {ps qs : List Trm} {t u : Trm} (g : Gath b ps qs) (h : NF t u) (hw : u.word ≠ some b) : Gath b (ps ++ [t]) (qs ++ [u]) :=
  ⟨g.al.app (.one h.2), nrmL_append g.nrm (by simp only [nrmL]; exact ⟨h.1, hw, trivial⟩), by have := g.len; simp; omega⟩
theorem Gath.ext {b : Bool} {ps qs rs : List Trm} {t : Trm} (g : Gath b ps qs) (h : NF t (.node b rs)) : Gath b (ps ++ [t]) (qs ++ rs) := by
  have hn := h.1
  simp only [Trm.nrm] at hn
  exact ⟨g.al.app (.flat h.2), nrmL_append g.nrm hn.2.1, by have := g.len; simp; omega⟩
theorem Gath.done {b : Bool} {ps qs rs : List Trm} (g : Gath b ps qs) (h2 : 2 ≤ ps.length) (p : qs.Perm rs) (e : b = true → rs = qs) (a : b = false → ascL rs) : NF (.node b ps) (.node b rs) := by
  have l : rs.length = qs.length := p.length_eq.symm
  have := g.len
  refine ⟨?_, ?_⟩
  · simp only [Trm.nrm]
    exact ⟨by omega, nrmL_perm p g.nrm, a⟩
  · refine AlikeL.node ?_ (by omega)
    cases b with
    | true => rw [e rfl]; exact g.al
    | false => exact g.al.perm_ p
/-! ### told pairs -/
mutual
def prs : Trm → List (Nat × Nat)
  | .task _ => []
  | .node b ps => prsL b [] ps
def prsL (b : Bool) (ahd : List Nat) : List Trm → List (Nat × Nat)
  | [] => []
  | p :: ps => prs p ++ (if b = true then ahd.flatMap fun a => (tasks p).map fun z => (a, z) else []) ++ prsL b (ahd ++ tasks p) ps
end
mutual
theorem mem_prs : ∀ {t : Trm} {x y : Nat}, (x, y) ∈ prs t ↔ ah t x y = true
  | .task _, _, _ => by simp [prs, ah]
  | .node b ps, x, y => by
    simp only [prs, ah]
    rw [mem_prsL]
    simp
theorem mem_prsL {b : Bool} : ∀ {ps : List Trm} {A : List Nat} {x y : Nat}, (x, y) ∈ prsL b A ps ↔ ahL b ps x y = true ∨ (b = true ∧ x ∈ A ∧ y ∈ tasksL ps)
  | [], A, x, y => by simp [prsL, ahL, tasksL]
  | p :: ps, A, x, y => by
    simp only [prsL, List.mem_append, mem_prs, mem_prsL (ps := ps), ahL, tasksL, Bool.or_eq_true, Bool.and_eq_true, decide_eq_true_eq]
    have : ((x, y) ∈ if b = true then A.flatMap fun a => (tasks p).map fun z => (a, z) else []) ↔ b = true ∧ x ∈ A ∧ y ∈ tasks p := by
      split
      · rename_i h
        simp [h, List.mem_flatMap]
      · rename_i h
        simp [h]
    rw [this]
    constructor
    · rintro ((h | ⟨h1, h2, h3⟩) | (h | ⟨h1, h2 | h2, h3⟩))
      · exact .inl (.inl (.inl h))
      · exact .inr ⟨h1, h2, .inl h3⟩
      · exact .inl (.inr h)
      · exact .inr ⟨h1, h2, .inr h3⟩
      · exact .inl (.inl (.inr ⟨⟨h1, h2⟩, h3⟩))
    · rintro (((h | ⟨⟨h1, h2⟩, h3⟩) | h) | ⟨h1, h2, h3 | h3⟩)
      · exact .inl (.inl h)
      · exact .inr (.inr ⟨h1, .inr h2, h3⟩)
      · exact .inr (.inl h)
      · exact .inl (.inr ⟨h1, h2, h3⟩)
      · exact .inr (.inr ⟨h1, .inl h2, h3⟩)
end
theorem nodup_prod {A B : List Nat} (ha : A.Nodup) (hb : B.Nodup) : (A.flatMap fun a => B.map fun z => (a, z)).Nodup := by
  induction A with
  | nil => simp
  | cons a A ih =>
    rw [List.flatMap_cons, List.nodup_append]
    rw [List.nodup_cons] at ha
    refine ⟨List.pairwise_map.mpr (List.Pairwise.imp (fun {x y} h e => h (by simpa using e)) hb), ih ha.2, ?_⟩
    · rintro ⟨u, v⟩ h1 ⟨u', v'⟩ h2 e
      simp only [List.mem_map, List.mem_flatMap, Prod.mk.injEq] at h1 h2
      cases e
      obtain ⟨_, _, e, _⟩ := h1
      obtain ⟨a', ha', _, _, e', _⟩ := h2
      subst e e'
      exact ha.1 ha'
mutual
theorem prs_nodup : ∀ {t : Trm}, (tasks t).Nodup → (prs t).Nodup
  | .task _, _ => by simp [prs]
  | .node b ps, h => by
    simp only [prs]
    simp only [tasks] at h
    exact prsL_nodup (by simpa using h)
theorem prsL_nodup {b : Bool} : ∀ {ps : List Trm} {A : List Nat}, (A ++ tasksL ps).Nodup → (prsL b A ps).Nodup
  | [], _, _ => by simp [prsL]
  | p :: ps, A, h => by
    simp only [tasksL] at h
    have h' : (A ++ tasks p ++ tasksL ps).Nodup := by rw [List.append_assoc]; exact h
    simp only [prsL]
    have hA := (List.nodup_append.mp h).1
    have hP := (List.nodup_append.mp (List.nodup_append.mp h).2.1)
    have dA := (List.nodup_append.mp h).2.2
    rw [List.nodup_append, List.nodup_append]
    refine ⟨⟨prs_nodup hP.1, ?_, ?_⟩, prsL_nodup h', ?_⟩
    · split
      · exact nodup_prod hA hP.1
      · exact List.nodup_nil
    · rintro ⟨u, v⟩ h1 ⟨u', v'⟩ h2 e
      cases e
      have m1 := ah_mem (mem_prs.mp h1)
      split at h2
      · simp only [List.mem_flatMap, List.mem_map, Prod.mk.injEq] at h2
        obtain ⟨a, ha, _, _, rfl, _⟩ := h2
        exact dA _ ha _ (List.mem_append.mpr (.inl m1.1)) rfl
      · cases h2
    · rintro ⟨u, v⟩ h1 ⟨u', v'⟩ h2 e
      cases e
      rw [mem_prsL] at h2
      have v_rest : v ∈ tasksL ps := by
        rcases h2 with h2 | h2
        · exact (ahL_mem h2).2
        · exact h2.2.2
      have v_p : v ∈ tasks p := by
        rcases List.mem_append.mp h1 with h1 | h1
        · exact (ah_mem (mem_prs.mp h1)).2
        · split at h1
          · simp only [List.mem_flatMap, List.mem_map, Prod.mk.injEq] at h1
            obtain ⟨_, _, _, hz, _, rfl⟩ := h1
            exact hz
          · cases h1
      exact hP.2.2 v v_p v v_rest rfl
end
/-- those ahead of a task -/
def bef1 (t : Trm) (k : Nat) : List Nat := ((prs t).filter fun q => q.2 == k).map (·.1)
theorem mem_bef1 {t : Trm} {x k : Nat} : x ∈ bef1 t k ↔ ah t x k = true := by
  unfold bef1
  rw [← mem_prs]
  simp only [List.mem_map, List.mem_filter, beq_iff_eq, Prod.exists]
  constructor
  · rintro ⟨a, b, ⟨h, e⟩, e'⟩
    cases e
    cases e'
    exact h
  · intro h
    exact ⟨x, k, ⟨h, rfl⟩, rfl⟩
theorem bef1_nodup {t : Trm} {k : Nat} (h : (tasks t).Nodup) : (bef1 t k).Nodup := by
  unfold bef1
  have h1 : ((prs t).filter fun q => q.2 == k).Nodup := (prs_nodup h).filter _
  refine List.pairwise_map.mpr (List.Pairwise.imp_of_mem ?_ h1)
  rintro ⟨a, b⟩ ⟨c, d⟩ m1 m2 ne e
  simp only [List.mem_filter, beq_iff_eq] at m1 m2
  simp only at e
  exact ne (by rw [e, m1.2, m2.2])
end Trm
/-- sorted lists of the same members, each once, are the same -/
theorem sorted_ext : ∀ {xs ys : List Int}, xs.Pairwise (· < ·) → ys.Pairwise (· < ·) → (∀ z, z ∈ xs ↔ z ∈ ys) → xs = ys
  | [], [], _, _, _ => rfl
  | [], y :: ys, _, _, h => by have := (h y).mpr (by simp); cases this
  | x :: xs, [], _, _, h => by have := (h x).mp (by simp); cases this
  | x :: xs, y :: ys, hx, hy, h => by
    rw [List.pairwise_cons] at hx hy
    have e : x = y := by
      have a := (h x).mp (by simp)
      have b := (h y).mpr (by simp)
      rcases List.mem_cons.mp a with a | a
      · exact a
      · rcases List.mem_cons.mp b with b | b
        · exact b.symm
        · have := hx.1 y b
          have := hy.1 x a
          omega
    subst e
    rw [sorted_ext hx.2 hy.2 fun z => ?_]
    constructor
    · intro hz
      have := hx.1 z hz
      rcases List.mem_cons.mp ((h z).mp (by simp [hz])) with e | e
      · omega
      · exact e
    · intro hz
      have := hy.1 z hz
      rcases List.mem_cons.mp ((h z).mpr (by simp [hz])) with e | e
      · omega
      · exact e
theorem nodup_lt {xs : List Int} (h : xs.Pairwise (· ≤ ·)) (nd : xs.Nodup) : xs.Pairwise (· < ·) := by
  refine List.Pairwise.imp₂ (fun a b h1 h2 => ?_) h nd
  exact Int.lt_iff_le_and_ne.mpr ⟨h1, h2⟩
end Tmm
/-! ## plain lemmas on lists of numbers -/
namespace Tmm
theorem cost_flat : ∀ ps : List (List Nat), (∀ p ∈ ps, p ≠ []) → (ps.map fun p => 6 * (p.length - 1)).sum + 6 * ps.length = 6 * ps.flatten.length
  | [], _ => by simp
  | p :: ps, h => by
    have := cost_flat ps fun q hq => h q (by simp [hq])
    have h1 : 1 ≤ p.length := List.length_pos_iff.mpr (h p (by simp))
    simp only [List.map_cons, List.sum_cons, List.length_cons, List.flatten_cons, List.length_append]
    omega
theorem flat_len : ∀ qs : List (List Nat), (∀ q ∈ qs, q ≠ []) → qs.length ≤ qs.flatten.length
  | [], _ => by simp
  | q :: qs, h => by
    have := flat_len qs fun z hz => h z (by simp [hz])
    have h1 : 1 ≤ q.length := List.length_pos_iff.mpr (h q (by simp))
    simp only [List.length_cons, List.flatten_cons, List.length_append]
    omega
theorem part_lt {ps : List (List Nat)} (h : ∀ p ∈ ps, p ≠ []) (h2 : 2 ≤ ps.length) {p : List Nat} (hp : p ∈ ps) : p.length < ps.flatten.length := by
  obtain ⟨as, bs, rfl⟩ := List.append_of_mem hp
  have h1 := flat_len as fun z hz => h z (by simp [hz])
  have h3 := flat_len bs fun z hz => h z (by simp [hz])
  simp only [List.length_append, List.length_cons, List.flatten_append, List.flatten_cons] at h2 ⊢
  omega
theorem sum_ones {α : Type} : ∀ xs : List α, (xs.map fun _ => 1).sum = xs.length
  | [] => rfl
  | x :: xs => by rw [List.map_cons, List.sum_cons, sum_ones xs, List.length_cons]; omega
def lastOf : Nat → List Nat → Nat
  | b, [] => b
  | _, d :: ds => lastOf d ds
theorem lastOf_snoc : ∀ (cs : List Nat) (b n : Nat), lastOf b (cs ++ [n]) = n
  | [], _, _ => rfl
  | c :: cs, _, n => lastOf_snoc cs c n
theorem le_lastOf : ∀ {ds : List Nat} {b : Nat}, (b :: ds).Pairwise (· < ·) → ∀ z ∈ b :: ds, z ≤ lastOf b ds
  | [], b, _, z, hz => by simp at hz; subst hz; exact Nat.le_refl _
  | d :: ds, b, h, z, hz => by
    rw [List.pairwise_cons] at h
    have hd := le_lastOf h.2 d (by simp)
    rcases List.mem_cons.mp hz with e | e
    · subst e
      have := h.1 d (by simp)
      simp only [lastOf]
      omega
    · exact le_lastOf h.2 z e
theorem asc_few {n : Nat} : ∀ (cs : List Nat) (a : Nat), (∀ c ∈ cs, a ≤ c ∧ c < n) → cs.Pairwise (· < ·) → a ≤ n → cs.length + a ≤ n
  | [], a, _, _, h => by simpa using h
  | c :: cs, a, h, hp, ha => by
    rw [List.pairwise_cons] at hp
    have h1 := h c (by simp)
    have := asc_few cs (c + 1) (fun d hd => ⟨hp.1 d hd, (h d (by simp [hd])).2⟩) hp.2 (by omega)
    simp only [List.length_cons]
    omega
theorem flat_snoc (ps : List (List Nat)) (p : List Nat) : (ps ++ [p]).flatten = ps.flatten ++ p := by simp
theorem pw_ends {cs : List Nat} {n : Nat} (h : cs.Pairwise (· < ·)) (hc : ∀ c ∈ cs, 1 ≤ c ∧ c < n) (hn : 1 ≤ n) : (0 :: (cs ++ [n])).Pairwise (· < ·) := by
  rw [List.pairwise_cons]
  refine ⟨fun z hz => ?_, ?_⟩
  · rcases List.mem_append.mp hz with q | q
    · have := hc z q; omega
    · rw [List.mem_singleton.mp q]; omega
  · rw [List.pairwise_append]
    exact ⟨h, List.pairwise_singleton _ _, fun a ha z hz => by rw [List.mem_singleton.mp hz]; exact (hc a ha).2⟩
namespace Trm
mutual
theorem prs_len : ∀ t : Trm, (prs t).length ≤ (tasks t).length * (tasks t).length
  | .task _ => by simp [prs]
  | .node b ps => by
    have := prsL_len b ps []
    simp only [prs, tasks]
    simpa using this
theorem prsL_len (b : Bool) : ∀ (ps : List Trm) (A : List Nat), (prsL b A ps).length ≤ A.length * (tasksL ps).length + (tasksL ps).length * (tasksL ps).length
  | [], A => by simp [prsL]
  | p :: ps, A => by
    have h1 := prs_len p
    have h2 := prsL_len b ps (A ++ tasks p)
    have h3 : (if b = true then A.flatMap fun a => (tasks p).map fun z => (a, z) else []).length ≤ A.length * (tasks p).length := by
      split
      · clear h1 h2
        induction A with
        | nil => simp
        | cons a A ih =>
          simp only [List.flatMap_cons, List.length_append, List.length_map, List.length_cons, Nat.add_mul, Nat.one_mul] at ih ⊢
          omega
      · simp
    simp only [prsL, tasksL, List.length_append] at h2 ⊢
    generalize (tasks p).length = l at *
    generalize (tasksL ps).length = m at *
    generalize A.length = a at *
    have e1 : (l + m) * (l + m) = l * l + m * l + (l * m + m * m) := by rw [Nat.mul_add, Nat.add_mul, Nat.add_mul]
    have e2 : (a + l) * m = a * m + l * m := Nat.add_mul _ _ _
    have e3 : a * (l + m) = a * l + a * m := Nat.mul_add _ _ _
    rw [e1, e3]
    rw [e2] at h2
    omega
end
theorem prs_few {t : Trm} {k : Nat} (h : (tasks t).length ≤ k) : (prs t).length ≤ k * k := Nat.le_trans (prs_len t) (Nat.mul_le_mul h h)
end Trm
end Tmm
namespace Tmm
theorem asc_range : ∀ (cs : List Int) (a : Int), (∀ c ∈ cs, a ≤ c ∧ c < a + cs.length) → cs.Pairwise (· < ·) → cs = (List.range cs.length).map fun (i : Nat) => a + (i : Int)
  | [], _, _, _ => by simp
  | c :: cs, a, h, hp => by
    rw [List.pairwise_cons] at hp
    have lo : ∀ (ds : List Int) (b : Int), (∀ d ∈ ds, b ≤ d ∧ d < b + ds.length - 0) → ds.Pairwise (· < ·) → True := fun _ _ _ _ => trivial
    have few : ∀ (ds : List Int) (b e : Int), (∀ d ∈ ds, b ≤ d ∧ d < e) → ds.Pairwise (· < ·) → ds ≠ [] → (ds.length : Int) ≤ e - b := by
      intro ds
      induction ds with
      | nil => intro b e _ _ h; exact absurd rfl h
      | cons d ds ih =>
        intro b e h hp _
        rw [List.pairwise_cons] at hp
        have hd := h d (by simp)
        by_cases q : ds = []
        · subst q; simp; omega
        · have := ih (d + 1) e (fun z hz => ⟨by have := hp.1 z hz; omega, (h z (by simp [hz])).2⟩) hp.2 q
          simp only [List.length_cons]
          omega
    have hc := h c (by simp)
    simp only [List.length_cons] at h hc
    have ec : c = a := by
      by_cases q : cs = []
      · subst q; simp at hc; omega
      · have := few cs (c + 1) (a + (cs.length + 1 : Nat)) (fun z hz => ⟨by have := hp.1 z hz; omega, (h z (by simp [hz])).2⟩) hp.2 q
        omega
    subst ec
    have ih := asc_range cs (c + 1) (fun z hz => ⟨by have := hp.1 z hz; omega, by have := (h z (by simp [hz])).2; omega⟩) hp.2
    rw [List.length_cons, List.range_succ_eq_map, List.map_cons, List.map_map]
    rw [ih]
    simp only [List.length_map, List.length_range]
    congr 1
    · simp
    · refine List.map_congr_left fun i _ => ?_
      simp only [Function.comp_def]
      omega
/-- just the numbers from 0 on, at most twelve -/
def IsT (ns : List Int) : Prop := ns.Perm ((List.range ns.length).map fun (i : Nat) => (i : Int)) ∧ ns.length ≤ 12
def srtZ (ns : List Int) : List Int := ns.mergeSort fun a b => decide (a ≤ b)
theorem srtZ_perm (ns : List Int) : (srtZ ns).Perm ns := List.mergeSort_perm _ _
theorem srtZ_sorted (ns : List Int) : (srtZ ns).Pairwise (· ≤ ·) := by
  have h := List.pairwise_mergeSort (le := fun x y : Int => decide (x ≤ y)) (fun a b c h1 h2 => by simp only [decide_eq_true_eq] at *; omega) (fun a b => by simp only [Bool.or_eq_true, decide_eq_true_eq]; omega) ns
  exact h.imp fun {a b} h => by simpa using h
theorem nodup_range_perm {ns : List Int} (nd : ns.Nodup) (h : ∀ i ∈ ns, 0 ≤ i ∧ i < ns.length) : ns.Perm ((List.range ns.length).map fun (i : Nat) => (i : Int)) := by
  have hp := srtZ_perm ns
  have e := asc_range (srtZ ns) 0 (fun c hc => by rw [hp.length_eq]; have := h c (hp.mem_iff.mp hc); omega) (nodup_lt (srtZ_sorted ns) (hp.nodup_iff.mpr nd))
  refine hp.symm.trans ?_
  rw [e, hp.length_eq]
  refine List.Perm.of_eq (List.map_congr_left fun i _ => by simp)
theorem isT_iff {ns : List Int} (hne : ns ≠ []) {m : Int} (hm : m ∈ ns) (hmax : ∀ y ∈ ns, y ≤ m) (nd : ns.Nodup) (hr : ∀ i ∈ ns, 0 ≤ i ∧ i ≤ 11) : m = (ns.length : Int) - 1 ↔ IsT ns := by
  constructor
  · intro e
    refine ⟨nodup_range_perm nd fun i hi => ⟨(hr i hi).1, by have := hmax i hi; omega⟩, ?_⟩
    have := (hr m hm).2
    omega
  · rintro ⟨hp, hl⟩
    have h1 := hp.mem_iff.mp hm
    obtain ⟨i, hi, rfl⟩ := List.mem_map.mp h1
    have hi' := List.mem_range.mp hi
    have : ((ns.length - 1 : Nat) : Int) ∈ ns := hp.mem_iff.mpr (List.mem_map.mpr ⟨ns.length - 1, List.mem_range.mpr (by omega), rfl⟩)
    have := hmax _ this
    omega
theorem isT_nodup {ns : List Int} (h : IsT ns) : ns.Nodup := by
  rw [h.1.nodup_iff]
  refine List.pairwise_map.mpr (List.Pairwise.imp (fun {a b} h e => h (by omega)) List.nodup_range)
theorem isT_range {ns : List Int} (h : IsT ns) : ∀ i ∈ ns, 0 ≤ i ∧ i ≤ 11 := fun i hi => by
  obtain ⟨j, hj, rfl⟩ := List.mem_map.mp (h.1.mem_iff.mp hi)
  have := List.mem_range.mp hj
  have := h.2
  omega
theorem isT_perm {ns ms : List Int} (h : ns.Perm ms) : IsT ns ↔ IsT ms := by
  unfold IsT
  rw [h.length_eq]
  exact ⟨fun ⟨a, b⟩ => ⟨h.symm.trans a, b⟩, fun ⟨a, b⟩ => ⟨h.trans a, b⟩⟩
theorem isT_nats {ns : List Nat} (hp : ns.Perm (List.range ns.length)) (hl : ns.length ≤ 12) : IsT (ns.map fun n => ((n : Nat) : Int)) := by
  refine ⟨?_, by simpa using hl⟩
  rw [List.length_map]
  exact hp.map _
end Tmm
namespace Tmm
namespace Trm
theorem pick_range {α : Type} (d : α) : ∀ us : List α, (List.range us.length).map (fun i => us.getD i d) = us
  | [] => rfl
  | u :: us => by
    rw [List.length_cons, List.range_succ_eq_map, List.map_cons, List.map_map]
    have := pick_range d us
    simp only [Function.comp_def, List.getD_cons_zero, List.getD_cons_succ]
    rw [this]
theorem pick_perm {α : Type} (d : α) {us : List α} {row : List Nat} (h : row.Perm (List.range us.length)) : (row.map fun i => us.getD i d).Perm us := by
  have := h.map fun i => us.getD i d
  rw [pick_range] at this
  exact this
theorem AlikeL.len2 {b : Bool} {ps us : List Trm} (h : AlikeL b ps us) : us.length ≤ (tasksL ps).length := by
  have := okL_depth h.ok
  rw [h.perm.length_eq] at this
  omega
theorem alike_list {b : Bool} : ∀ {ps us : List Trm}, ps.length = us.length → (∀ (i : Nat) p u, ps[i]? = some p → us[i]? = some u → Alike p u) → AlikeL b ps us
  | [], [], _, _ => .nil
  | [], _ :: _, h, _ => by simp at h
  | _ :: _, [], h, _ => by simp at h
  | p :: ps, u :: us, h, hh => by
    have h1 : Alike p u := hh 0 p u rfl rfl
    have h2 : AlikeL b ps us := alike_list (by simpa using h) fun i p u a c => hh (i + 1) p u (by simpa using a) (by simpa using c)
    exact AlikeL.app (ps := [p]) (qs := [u]) (.one h1) h2
theorem split_two {α : Type} {us : List α} {k : Nat} (h : k + 1 < us.length) : ∃ p q, us[k]? = some p ∧ us[k + 1]? = some q ∧ us = us.take k ++ p :: q :: us.drop (k + 2) := by
  refine ⟨us[k], us[k + 1], List.getElem?_eq_getElem (by omega), List.getElem?_eq_getElem h, ?_⟩
  have e1 : us.drop k = us[k] :: us.drop (k + 1) := List.drop_eq_getElem_cons (by omega)
  have e2 : us.drop (k + 1) = us[k + 1] :: us.drop (k + 2) := List.drop_eq_getElem_cons h
  rw [← e2, ← e1, List.take_append_drop]
theorem len_cost : ∀ ps : List Trm, okL ps = true → (ps.map fun p => 40 * (p.tasks.length - 1)).sum + 40 * ps.length = 40 * (tasksL ps).length
  | [], _ => by simp [tasksL]
  | p :: ps, h => by
    simp only [okL, Bool.and_eq_true] at h
    have := len_cost ps h.2
    have := ok_depth h.1
    simp only [List.map_cons, List.sum_cons, List.length_cons, tasksL, List.length_append]
    omega
end Trm
end Tmm
/-! ## orders of terms: no N, transitive; pairs ascending -/
namespace Tmm
/-- four stand in an N -/
structure InN (R : Nat → Nat → Bool) (a b c d : Nat) : Prop where
  ac : R a c = true
  bc : R b c = true
  bd : R b d = true
  ab : R a b = false
  ba : R b a = false
  ad : R a d = false
  da : R d a = false
  cd : R c d = false
  dc : R d c = false
namespace Trm
mutual
theorem nfree : ∀ (t : Trm), (tasks t).Nodup → ∀ {a b c d : Nat}, ¬ InN (ah t) a b c d
  | .task _, _, a, b, c, d, h => by have := h.ac; simp [ah] at this
  | .node w ps, nd, a, b, c, d, h => by
    simp only [tasks] at nd
    have e : ah (.node w ps) = ahL w ps := by funext x y; simp [ah]
    rw [e] at h
    exact nfreeL w ps nd h
theorem nfreeL (w : Bool) : ∀ (ps : List Trm), (tasksL ps).Nodup → ∀ {a b c d : Nat}, ¬ InN (ahL w ps) a b c d
  | [], _, a, b, c, d, h => by have := h.ac; simp [ahL] at this
  | p :: ps, nd, a, b, c, d, h => by
    obtain ⟨n1, n2, n3⟩ := nd_head nd
    have sd : ∀ {x}, x ∈ tasksL (p :: ps) → x ∈ tasks p ∨ x ∈ tasksL ps := fun hx => by simpa only [tasksL, List.mem_append] using hx
    have ma := (ahL_mem h.ac).1
    have mc := (ahL_mem h.ac).2
    have mb := (ahL_mem h.bd).1
    have md := (ahL_mem h.bd).2
    -- tied or not, on both sides
    have across : ∀ {x y}, x ∈ tasks p → y ∈ tasksL ps → ahL w (p :: ps) x y = w ∧ ahL w (p :: ps) y x = false := fun hx hy => ⟨ahL_pq nd hx hy, ahL_qp nd hy hx⟩
    have key : (a ∈ tasks p ∧ b ∈ tasks p ∧ c ∈ tasks p ∧ d ∈ tasks p) ∨ (a ∈ tasksL ps ∧ b ∈ tasksL ps ∧ c ∈ tasksL ps ∧ d ∈ tasksL ps) := by
      have tied : w = false → ∀ {x y}, x ∈ tasksL (p :: ps) → y ∈ tasksL (p :: ps) → ahL w (p :: ps) x y = true → (x ∈ tasks p ∧ y ∈ tasks p) ∨ (x ∈ tasksL ps ∧ y ∈ tasksL ps) := by
        intro hw x y hx hy hr
        rcases sd hx with x1 | x1 <;> rcases sd hy with y1 | y1
        · exact .inl ⟨x1, y1⟩
        · have := (across x1 y1).1; rw [hr, hw] at this; cases this
        · have := (across y1 x1).2; rw [hr] at this; cases this
        · exact .inr ⟨x1, y1⟩
      have free : w = true → ∀ {x y}, x ∈ tasksL (p :: ps) → y ∈ tasksL (p :: ps) → ahL w (p :: ps) x y = false → ahL w (p :: ps) y x = false → (x ∈ tasks p ∧ y ∈ tasks p) ∨ (x ∈ tasksL ps ∧ y ∈ tasksL ps) := by
        intro hw x y hx hy hr hr2
        rcases sd hx with x1 | x1 <;> rcases sd hy with y1 | y1
        · exact .inl ⟨x1, y1⟩
        · have := (across x1 y1).1; rw [hr, hw] at this; cases this
        · have := (across y1 x1).1; rw [hr2, hw] at this; cases this
        · exact .inr ⟨x1, y1⟩
      cases w with
      | false =>
        have k1 := tied rfl ma mc h.ac
        have k2 := tied rfl mb mc h.bc
        have k3 := tied rfl mb md h.bd
        rcases k1 with ⟨a1, c1⟩ | ⟨a1, c1⟩ <;> rcases k2 with ⟨b1, c2⟩ | ⟨b1, c2⟩ <;> rcases k3 with ⟨b2, d1⟩ | ⟨b2, d1⟩ <;>
          first
            | exact .inl ⟨a1, b1, c1, d1⟩
            | exact .inr ⟨a1, b1, c1, d1⟩
            | exact absurd c2 (n3 c c1)
            | exact absurd c1 (n3 c c2)
            | exact absurd b2 (n3 b b1)
            | exact absurd b1 (n3 b b2)
      | true =>
        have k1 := free rfl ma mb h.ab h.ba
        have k2 := free rfl ma md h.ad h.da
        have k3 := free rfl mc md h.cd h.dc
        rcases k1 with ⟨a1, b1⟩ | ⟨a1, b1⟩ <;> rcases k2 with ⟨a2, d1⟩ | ⟨a2, d1⟩ <;> rcases k3 with ⟨c1, d2⟩ | ⟨c1, d2⟩ <;>
          first
            | exact .inl ⟨a1, b1, c1, d1⟩
            | exact .inr ⟨a1, b1, c1, d1⟩
            | exact absurd a2 (n3 a a1)
            | exact absurd a1 (n3 a a2)
            | exact absurd d2 (n3 d d1)
            | exact absurd d1 (n3 d d2)
    rcases key with ⟨a1, b1, c1, d1⟩ | ⟨a1, b1, c1, d1⟩
    · have e : ∀ {x y}, x ∈ tasks p → y ∈ tasks p → ahL w (p :: ps) x y = ah p x y := fun hx hy => ahL_pp nd hx hy
      exact nfree p n1 ⟨(e a1 c1).symm.trans h.ac, (e b1 c1).symm.trans h.bc, (e b1 d1).symm.trans h.bd, (e a1 b1).symm.trans h.ab, (e b1 a1).symm.trans h.ba, (e a1 d1).symm.trans h.ad, (e d1 a1).symm.trans h.da, (e c1 d1).symm.trans h.cd, (e d1 c1).symm.trans h.dc⟩
    · have e : ∀ {x y}, x ∈ tasksL ps → y ∈ tasksL ps → ahL w (p :: ps) x y = ahL w ps x y := fun hx hy => ahL_qq nd hx hy
      exact nfreeL w ps n2 ⟨(e a1 c1).symm.trans h.ac, (e b1 c1).symm.trans h.bc, (e b1 d1).symm.trans h.bd, (e a1 b1).symm.trans h.ab, (e b1 a1).symm.trans h.ba, (e a1 d1).symm.trans h.ad, (e d1 a1).symm.trans h.da, (e c1 d1).symm.trans h.cd, (e d1 c1).symm.trans h.dc⟩
end
mutual
theorem ah_irr : ∀ (t : Trm), (tasks t).Nodup → ∀ x, ah t x x = false
  | .task _, _, x => by simp [ah]
  | .node w ps, nd, x => by
    simp only [tasks] at nd
    simp only [ah]
    exact ahL_irr w ps nd x
theorem ahL_irr (w : Bool) : ∀ (ps : List Trm), (tasksL ps).Nodup → ∀ x, ahL w ps x x = false
  | [], _, x => by simp [ahL]
  | p :: ps, nd, x => by
    obtain ⟨n1, n2, n3⟩ := nd_head nd
    by_cases h1 : x ∈ tasks p
    · rw [ahL_pp nd h1 h1]
      exact ah_irr p n1 x
    · by_cases h2 : x ∈ tasksL ps
      · rw [ahL_qq nd h2 h2]
        exact ahL_irr w ps n2 x
      · exact ahL_out (.inl (by simp only [tasksL, List.mem_append, not_or]; exact ⟨h1, h2⟩))
end
mutual
theorem ah_trans : ∀ (t : Trm), (tasks t).Nodup → ∀ {x y z}, ah t x y = true → ah t y z = true → ah t x z = true
  | .task _, _, x, y, z, h, _ => by simp [ah] at h
  | .node w ps, nd, x, y, z, h, h' => by
    simp only [tasks] at nd
    simp only [ah] at h h' ⊢
    exact ahL_trans w ps nd h h'
theorem ahL_trans (w : Bool) : ∀ (ps : List Trm), (tasksL ps).Nodup → ∀ {x y z}, ahL w ps x y = true → ahL w ps y z = true → ahL w ps x z = true
  | [], _, x, y, z, h, _ => by simp [ahL] at h
  | p :: ps, nd, x, y, z, h, h' => by
    obtain ⟨n1, n2, n3⟩ := nd_head nd
    have sd : ∀ {x}, x ∈ tasksL (p :: ps) → x ∈ tasks p ∨ x ∈ tasksL ps := fun hx => by simpa only [tasksL, List.mem_append] using hx
    have mx := sd (ahL_mem h).1
    have my := sd (ahL_mem h).2
    have mz := sd (ahL_mem h').2
    rcases mx with x1 | x1 <;> rcases my with y1 | y1 <;> rcases mz with z1 | z1
    · rw [ahL_pp nd x1 y1] at h; rw [ahL_pp nd y1 z1] at h'; rw [ahL_pp nd x1 z1]; exact ah_trans p n1 h h'
    · rw [ahL_pq nd y1 z1] at h'; rw [ahL_pq nd x1 z1]; exact h'
    · rw [ahL_qp nd y1 z1] at h'; cases h'
    · rw [ahL_pq nd x1 y1] at h; rw [ahL_pq nd x1 z1]; exact h
    · rw [ahL_qp nd x1 y1] at h; cases h
    · rw [ahL_qp nd x1 y1] at h; cases h
    · rw [ahL_qp nd y1 z1] at h'; cases h'
    · rw [ahL_qq nd x1 y1] at h; rw [ahL_qq nd y1 z1] at h'; rw [ahL_qq nd x1 z1]; exact ahL_trans w ps n2 h h'
end
end Trm
/-! ### pairs ascending -/
def lexLt (p q : Nat × Nat) : Prop := p.1 < q.1 ∨ (p.1 = q.1 ∧ p.2 < q.2)
def lexLe (p q : Nat × Nat) : Bool := decide (p.1 < q.1) || (decide (p.1 = q.1) && decide (p.2 ≤ q.2))
theorem lexLe_iff {p q : Nat × Nat} : lexLe p q = true ↔ lexLt p q ∨ p = q := by
  obtain ⟨a, b⟩ := p
  obtain ⟨c, d⟩ := q
  simp only [lexLe, lexLt, Bool.or_eq_true, Bool.and_eq_true, decide_eq_true_eq, Prod.mk.injEq]
  omega
def srtP (ps : List (Nat × Nat)) : List (Nat × Nat) := ps.mergeSort lexLe
theorem srtP_perm (ps : List (Nat × Nat)) : (srtP ps).Perm ps := List.mergeSort_perm _ _
theorem srtP_sorted (ps : List (Nat × Nat)) : (srtP ps).Pairwise (fun p q => lexLe p q = true) :=
  List.pairwise_mergeSort (fun a b c h1 h2 => by simp only [lexLe, Bool.or_eq_true, Bool.and_eq_true, decide_eq_true_eq] at *; omega) (fun a b => by simp only [lexLe, Bool.or_eq_true, Bool.and_eq_true, decide_eq_true_eq]; omega) ps
theorem sortedP_uniq : ∀ {xs ys : List (Nat × Nat)}, xs.Pairwise (fun p q => lexLe p q = true) → ys.Pairwise (fun p q => lexLe p q = true) → xs.Perm ys → xs = ys
  | [], ys, _, _, h => (List.Perm.nil_eq h)
  | x :: xs, [], _, _, h => absurd h.length_eq (by simp)
  | x :: xs, y :: ys, hx, hy, h => by
    rw [List.pairwise_cons] at hx hy
    have e : x = y := by
      have a := h.mem_iff.mp (List.mem_cons_self (a := x) (l := xs))
      have b := h.mem_iff.mpr (List.mem_cons_self (a := y) (l := ys))
      rcases List.mem_cons.mp a with a | a
      · exact a
      · rcases List.mem_cons.mp b with b | b
        · exact b.symm
        · have h1 := hx.1 y b
          have h2 := hy.1 x a
          simp only [lexLe, Bool.or_eq_true, Bool.and_eq_true, decide_eq_true_eq] at h1 h2
          exact Prod.ext (by omega) (by omega)
    subst e
    rw [sortedP_uniq hx.2 hy.2 ((List.perm_cons x).mp h)]
theorem srtP_uniq {xs ps : List (Nat × Nat)} (h : xs.Perm ps) (s : xs.Pairwise (fun p q => lexLe p q = true)) : xs = srtP ps := sortedP_uniq s (srtP_sorted ps) (h.trans (srtP_perm ps).symm)
theorem srtP_eq {xs ys : List (Nat × Nat)} (h : xs.Perm ys) : srtP xs = srtP ys := srtP_uniq ((srtP_perm xs).trans h) (srtP_sorted xs)
theorem lex_ext : ∀ {xs ys : List (Nat × Nat)}, xs.Pairwise lexLt → ys.Pairwise lexLt → (∀ z, z ∈ xs ↔ z ∈ ys) → xs = ys
  | [], [], _, _, _ => rfl
  | [], y :: ys, _, _, h => by have := (h y).mpr (by simp); cases this
  | x :: xs, [], _, _, h => by have := (h x).mp (by simp); cases this
  | x :: xs, y :: ys, hx, hy, h => by
    rw [List.pairwise_cons] at hx hy
    have as : ∀ {p q : Nat × Nat}, lexLt p q → lexLt q p → False := by
      intro p q h1 h2
      simp only [lexLt] at h1 h2
      omega
    have e : x = y := by
      have a := (h x).mp (by simp)
      have b := (h y).mpr (by simp)
      rcases List.mem_cons.mp a with a | a
      · exact a
      · rcases List.mem_cons.mp b with b | b
        · exact b.symm
        · exact (as (hx.1 y b) (hy.1 x a)).elim
    subst e
    rw [lex_ext hx.2 hy.2 fun z => ?_]
    constructor
    · intro hz
      have := hx.1 z hz
      rcases List.mem_cons.mp ((h z).mp (by simp [hz])) with e | e
      · subst e; exact (as this this).elim
      · exact e
    · intro hz
      have := hy.1 z hz
      rcases List.mem_cons.mp ((h z).mpr (by simp [hz])) with e | e
      · subst e; exact (as this this).elim
      · exact e
/-- all pairs of a relation below n, ascending -/
def toldR (n : Nat) (R : Nat → Nat → Bool) : List (Nat × Nat) := (List.range n).flatMap fun a => ((List.range n).filter fun b => R a b).map fun b => (a, b)
theorem mem_toldR {n : Nat} {R : Nat → Nat → Bool} {a b : Nat} : (a, b) ∈ toldR n R ↔ a < n ∧ b < n ∧ R a b = true := by
  unfold toldR
  simp only [List.mem_flatMap, List.mem_range, List.mem_map, List.mem_filter, Prod.mk.injEq]
  constructor
  · rintro ⟨x, hx, y, ⟨hy, hr⟩, rfl, rfl⟩
    exact ⟨hx, hy, hr⟩
  · rintro ⟨h1, h2, h3⟩
    exact ⟨a, h1, b, ⟨h2, h3⟩, rfl, rfl⟩
theorem toldR_sorted (n : Nat) (R : Nat → Nat → Bool) : (toldR n R).Pairwise lexLt := by
  unfold toldR
  rw [List.pairwise_flatMap]
  refine ⟨fun a ha => ?_, ?_⟩
  · refine List.pairwise_map.mpr ?_
    refine List.Pairwise.imp (fun {x y} h => ?_) ((List.pairwise_lt_range (n := n)).filter _)
    exact .inr ⟨rfl, h⟩
  · refine List.Pairwise.imp (fun {x y} h => ?_) (List.pairwise_lt_range (n := n))
    intro p hp q hq
    obtain ⟨b, _, rfl⟩ := List.mem_map.mp hp
    obtain ⟨c, _, rfl⟩ := List.mem_map.mp hq
    exact .inl h
theorem toldR_congr {n : Nat} {R S : Nat → Nat → Bool} (h : ∀ a b, a < n → b < n → R a b = S a b) : toldR n R = toldR n S :=
  lex_ext (toldR_sorted n R) (toldR_sorted n S) fun ⟨a, b⟩ => by
    rw [mem_toldR, mem_toldR]
    exact ⟨fun ⟨h1, h2, h3⟩ => ⟨h1, h2, by rw [← h a b h1 h2]; exact h3⟩, fun ⟨h1, h2, h3⟩ => ⟨h1, h2, by rw [h a b h1 h2]; exact h3⟩⟩
theorem srtP_strict {ps : List (Nat × Nat)} (h : ps.Nodup) : (srtP ps).Pairwise lexLt := by
  have h1 := srtP_sorted ps
  have h2 := (srtP_perm ps).nodup_iff.mpr h
  exact List.Pairwise.imp₂ (fun a b h1 h2 => (lexLe_iff.mp h1).resolve_right h2) h1 h2
/-- what stands in an N, from the pairs among four -/
theorem inN_of {R : Nat → Nat → Bool} {a b c d : Nat} (nd : [a, b, c, d].Nodup) (h : ∀ x y, x ∈ [a, b, c, d] → y ∈ [a, b, c, d] → (R x y = true ↔ (x, y) ∈ [(a, c), (b, c), (b, d)])) : InN R a b c d := by
  simp only [List.nodup_cons, List.mem_cons, List.not_mem_nil, or_false, not_or, not_false_eq_true, List.nodup_nil, and_true] at nd
  obtain ⟨⟨ab, ac, ad⟩, ⟨bc, bd⟩, cd⟩ := nd
  have no : ∀ x y, x ∈ [a, b, c, d] → y ∈ [a, b, c, d] → (x, y) ∉ [(a, c), (b, c), (b, d)] → R x y = false := fun x y hx hy hn => by
    cases e : R x y with
    | false => rfl
    | true => exact absurd ((h x y hx hy).mp e) hn
  have ma : a ∈ [a, b, c, d] := by simp
  have mb : b ∈ [a, b, c, d] := by simp
  have mc : c ∈ [a, b, c, d] := by simp
  have md : d ∈ [a, b, c, d] := by simp
  refine ⟨(h a c ma mc).mpr (by simp), (h b c mb mc).mpr (by simp), (h b d mb md).mpr (by simp), no _ _ ma mb ?_, no _ _ mb ma ?_, no _ _ ma md ?_, no _ _ md ma ?_, no _ _ mc md ?_, no _ _ md mc ?_⟩ <;>
    simp only [List.mem_cons, Prod.mk.injEq, List.not_mem_nil, or_false] <;> omega
end Tmm
namespace Tmm
/-! ### what follows of pairs -/
inductive TC (ps : List (Nat × Nat)) : Nat → Nat → Prop
  | base {x y} : (x, y) ∈ ps → TC ps x y
  | step {x y z} : TC ps x y → (y, z) ∈ ps → TC ps x z
def Pth (ps : List (Nat × Nat)) : Nat → Nat → Nat → Prop
  | 0, _, _ => False
  | r + 1, x, k => ∃ y, (y, k) ∈ ps ∧ (x = y ∨ Pth ps r x y)
theorem TC.trans {ps : List (Nat × Nat)} {x y z : Nat} (h : TC ps x y) (h' : TC ps y z) : TC ps x z := by
  induction h' with
  | base q => exact .step h q
  | step _ q ih => exact .step ih q
theorem TC.ends {ps : List (Nat × Nat)} {n : Nat} (hp : ∀ p ∈ ps, p.1 < n ∧ p.2 < n) {x y : Nat} (h : TC ps x y) : x < n ∧ y < n := by
  induction h with
  | base q => exact hp _ q
  | step _ q ih => exact ⟨ih.1, (hp _ q).2⟩
/-- sets of tasks, for each task, on their way to the closure: r rounds done, of the next one the pairs ps1 -/
structure Clo (n : Nat) (ps : List (Nat × Nat)) (r : Nat) (ps1 : List (Nat × Nat)) (fs : List (List Nat)) : Prop where
  len : fs.length = n
  asc : ∀ f ∈ fs, f.Pairwise (· < ·)
  sound : ∀ (k : Nat) (f : List Nat), fs[k]? = some f → ∀ x ∈ f, TC ps x k
  old : ∀ (k : Nat) (f : List Nat), fs[k]? = some f → ∀ x, Pth ps r x k → x ∈ f
  new : ∀ (y k : Nat) (f : List Nat), (y, k) ∈ ps1 → fs[k]? = some f → y ∈ f ∧ ∀ x, Pth ps r x y → x ∈ f
theorem Clo.start {n : Nat} {ps : List (Nat × Nat)} : Clo n ps 0 [] (List.replicate n []) := by
  refine ⟨List.length_replicate, fun f hf => ?_, fun k f hf x hx => ?_, fun k f hf x hx => hx.elim, fun y k f h => by cases h⟩
  · rw [(List.mem_replicate.mp hf).2]; exact List.Pairwise.nil
  · have := List.mem_of_getElem? hf
    rw [(List.mem_replicate.mp this).2] at hx
    cases hx
theorem Clo.next {n r : Nat} {ps : List (Nat × Nat)} {fs : List (List Nat)} (c : Clo n ps r ps fs) : Clo n ps (r + 1) [] fs :=
  ⟨c.len, c.asc, c.sound, fun k f hf x ⟨y, hy, h⟩ => by
    obtain ⟨h1, h2⟩ := c.new y k f hy hf
    rcases h with e | h
    · rw [e]; exact h1
    · exact h2 x h, fun y k f h => by cases h⟩
theorem Clo.put {n r : Nat} {ps ps1 : List (Nat × Nat)} {fs : List (List Nat)} (c : Clo n ps r ps1 fs) {a b : Nat} (hab : (a, b) ∈ ps) {fa fb g : List Nat} (ha : fs[a]? = some fa) (hb : fs[b]? = some fb) (hg : g.Pairwise (· < ·))
    (hm : ∀ x, x ∈ g ↔ x ∈ fb ∨ x ∈ fa ∨ x = a) : Clo n ps r (ps1 ++ [(a, b)]) (fs.set b g) := by
  have hbl := (List.getElem?_eq_some_iff.mp hb).1
  have get : ∀ {k f}, (fs.set b g)[k]? = some f → (k = b ∧ f = g) ∨ (k ≠ b ∧ fs[k]? = some f) := fun {k f} h => by
    by_cases e : b = k
    · subst e
      rw [List.getElem?_set_self hbl] at h
      exact .inl ⟨rfl, (Option.some.inj h).symm⟩
    · rw [List.getElem?_set_ne e] at h
      exact .inr ⟨fun z => e z.symm, h⟩
  refine ⟨by rw [List.length_set]; exact c.len, fun f hf => ?_, fun k f hf x hx => ?_, fun k f hf x hx => ?_, fun y k f h hf => ?_⟩
  · rcases List.mem_or_eq_of_mem_set hf with h | h
    · exact c.asc f h
    · rw [h]; exact hg
  · rcases get hf with ⟨rfl, rfl⟩ | ⟨_, hf⟩
    · rcases (hm x).mp hx with h | h | h
      · exact c.sound _ _ hb x h
      · exact .step (c.sound _ _ ha x h) hab
      · rw [h]; exact .base hab
    · exact c.sound k f hf x hx
  · rcases get hf with ⟨rfl, rfl⟩ | ⟨_, hf⟩
    · exact (hm x).mpr (.inl (c.old _ _ hb x hx))
    · exact c.old k f hf x hx
  · rcases List.mem_append.mp h with q | q
    · rcases get hf with ⟨rfl, rfl⟩ | ⟨_, hf⟩
      · obtain ⟨h1, h2⟩ := c.new y _ fb q hb
        exact ⟨(hm y).mpr (.inl h1), fun x hx => (hm x).mpr (.inl (h2 x hx))⟩
      · exact c.new y k f q hf
    · have e := List.mem_singleton.mp q
      cases e
      rcases get hf with ⟨_, rfl⟩ | ⟨ne, _⟩
      · exact ⟨(hm a).mpr (.inr (.inr rfl)), fun x hx => (hm x).mpr (.inr (.inl (c.old _ _ ha x hx)))⟩
      · exact absurd rfl ne
/-- listed pairs: for each task those ahead of it -/
def listP (bs : List (List Nat)) : List (Nat × Nat) := bs.zipIdx.flatMap fun q => q.1.map fun x => (x, q.2)
theorem mem_listP {bs : List (List Nat)} {x k : Nat} : (x, k) ∈ listP bs ↔ ∃ b, bs[k]? = some b ∧ x ∈ b := by
  unfold listP
  simp only [List.mem_flatMap, List.mem_map, Prod.mk.injEq, Prod.exists]
  constructor
  · rintro ⟨b, i, h, y, hy, rfl, rfl⟩
    exact ⟨b, List.mem_zipIdx_iff_getElem?.mp h, hy⟩
  · rintro ⟨b, h, hx⟩
    exact ⟨b, k, List.mem_zipIdx_iff_getElem?.mpr h, x, hx, rfl, rfl⟩
end Tmm
/-! ## sorted(xs, key=f), f a def of the program that may make objects -/
namespace Sk
open PySem L2 PySem.Spec PyProof.Rows PySem.W
/-- a place that no one else minds -/
structure Free (X : Cx) (pins : List (Addr × Obj)) (b : Addr) : Prop where
  loc : b ≠ X.env.locals
  sz : X.s_0.heap.objs.size ≤ b
  cell : ∀ x c, X.env.cells.lookup x = some c → c ≠ b
  pin : ∀ p ∈ X.pn ++ pins, p.1 ≠ b
  fs : b ∉ X.fs
section
variable {X : Cx} {pins : List (Addr × Obj)} {σ : L2.St} {H H' : Hp} {s : Shared}
theorem free_new (I : Inv X pins σ H s) {b : Addr} (hb : s.heap.objs.size ≤ b) : Free X pins b where
  loc := fun e => absurd I.lt (Nat.not_lt.mpr (e ▸ hb))
  sz := Nat.le_trans I.sz hb
  cell := fun x c e z => by
    obtain ⟨v, o, ho, _⟩ := I.cell x c e
    rw [z] at ho
    exact absurd (Heap.lt_size ho) (Nat.not_lt.mpr hb)
  pin := fun p hp z => by
    have h := (I.pin p hp).1
    rw [z] at h
    exact absurd (Heap.lt_size h) (Nat.not_lt.mpr hb)
  fs := I.nofs hb
theorem listNotCell {its : Array Value} {n : Nat} : ∀ v, (seqObj "list" its n).data ≠ .cell v := fun v z => by
  have : Data.seq its n = Data.cell v := z
  cases this
/-- two more places are watched -/
theorem watch (I : Inv X pins σ H s) {a b : Addr} {oa ob : Obj} (fa : Free X pins a) (fb : Free X pins b) (ha : s.heap.get? a = some oa) (hb : s.heap.get? b = some ob) (na : H a = none) (nb : H b = none)
    (da : ∀ v, oa.data ≠ .cell v) (db : ∀ v, ob.data ≠ .cell v) : Inv X (pins ++ [(a, oa), (b, ob)]) σ H s := I.pins_of fun p hp => by
  rcases List.mem_append.mp hp with h | h
  · exact I.pin p (List.mem_append_right _ h)
  · simp only [List.mem_cons, List.not_mem_nil, or_false] at h
    rcases h with h | h
    · subst h; exact ⟨ha, na, fa.loc, fa.fs, da⟩
    · subst h; exact ⟨hb, nb, fb.loc, fb.fs, db⟩
theorem unwatch {pl : List (Addr × Obj)} (I : Inv X (pins ++ pl) σ H s) : Inv X pins σ H s := I.unpinned
/-- two watched places change, and one becomes a tracked list -/
theorem becomes {t' : Nat} {h' : Heap} {a b : Addr} {o : HO} (I : Inv X pins σ H s) (fa : Free X pins a) (fb : Free X pins b) (na : H a = none) (nb : H b = none) (k : ∀ c u, c ≠ a → c ≠ b → s.heap.get? c = some u → h'.get? c = some u)
    (new : ObjOk X.prog X.w (upd H a o) h' a o) : Inv X pins σ (upd H a o) { s with heap := h', toks := t' } := by
  have ne : ∀ {c u}, H c = some u → c ≠ a ∧ c ≠ b := fun {c u} e => ⟨fun z => (by rw [z, na] at e; cases e), fun z => (by rw [z, nb] at e; cases e)⟩
  refine I.call (g' := s.gens) (d' := s.drawn) (ch := [a, b]) ⟨?_, ?_, ?_, ?_, ?_, ?_, ?_⟩ ?_ I.bare ?_
  · intro c u e n _ hc
    simp only [List.mem_cons, List.not_mem_nil, or_false, not_or] at hc
    exact k c u hc.1 hc.2 e
  · intro c u e n _ hc
    simp only [List.mem_cons, List.not_mem_nil, or_false, not_or] at hc
    exact ⟨u.slots, k c u hc.1 hc.2 e⟩
  · intro c u e n hc
    simp only [List.mem_cons, List.not_mem_nil, or_false, not_or] at hc
    rw [upd_ne hc.1]
    exact n
  · intro c u e hc
    simp only [List.mem_cons, List.not_mem_nil, or_false, not_or] at hc
    exact ⟨u, k c u hc.1 hc.2 e⟩
  · intro c xs e
    rw [upd_ne (ne e).1]
    exact e
  · intro c ob u e
    rw [upd_ne (ne e).1]
    exact e
  · intro c ps e
    refine ⟨#[], ?_⟩
    rw [upd_ne (ne e).1]
    simpa using e
  · intro c u e
    by_cases q : c = a
    · subst q
      rw [upd_same] at e
      cases e
      exact new
    · rw [upd_ne q] at e
      refine (I.hok c u e).stay (fun d v hd hv => ?_) (fun d hd => by rw [upd_ne (ne hd).1]; exact hd) fun d xs hd => by rw [upd_ne (ne hd).1]; exact hd
      rcases hd with z | z
      · subst z
        exact k _ v (ne e).1 (ne e).2 hv
      · exact k _ v (ne z).1 (ne z).2 hv
  · intro c hc
    simp only [List.mem_cons, List.not_mem_nil, or_false] at hc
    rcases hc with z | z
    · subst z; exact ⟨.inr fa.sz, fa.loc, fa.cell, fa.pin⟩
    · subst z; exact ⟨.inr fb.sz, fb.loc, fb.cell, fb.pin⟩
/-- one watched place changes -/
theorem changes {t' : Nat} {h' : Heap} {b : Addr} (I : Inv X pins σ H s) (fb : Free X pins b) (nb : H b = none) (k : ∀ c u, c ≠ b → s.heap.get? c = some u → h'.get? c = some u) : Inv X pins σ H { s with heap := h', toks := t' } :=
  I.turned k nb fb.loc (.inr fb.sz) fb.cell fb.pin
theorem ints_each {vs : List Value} {ks : List Int} (h : EachIs (fun (v : Value) (k : Int) => ∃ t, v = .int k t) vs ks) (hp : Heap) : EachIs (fun v (d : PyData) => ∃ as, Reads hp v d as) vs (ks.map PyData.int) := by
  induction h with
  | nil => exact .nil
  | cons h _ ih =>
    obtain ⟨t, rfl⟩ := h
    exact .cons ⟨_, .int _ _⟩ ih
theorem sortkey_run {β : Type} {l : Addr} {its : List Value} {f : Value} {bs : List β} {R : Value → β → Prop} {key : β → Int} {Pj : Nat → Hp → Prop} {Q : VK} (I : Inv X pins σ H s) (hl : s.heap.IsList l its.toArray) (hz : its.length ≤ sizeLine) (e : EachIs R its bs)
    (hu : X.A.units + 2 < cLine) (ht : ∀ x, Builtin.«list.sort» ⟨[.ref x], [(Str.ofString "key", f)]⟩ = ksk_tree x f false) (h0 : Pj 0 H)
    (turn : ∀ (j : Nat) (v : Value) (b : β) (pl : List (Addr × Obj)) (s' : Shared) (H' : Hp), (∀ p ∈ pins, p ∈ pl) → bs[j]? = some b → R v b → Inv X pl σ H' s' → Pj j H' →
      wpAny (model X.prog X.w) X.A.in1.in1 (call f [v]) (fun u s'' => ∃ H'' t, Inv X pl σ H'' s'' ∧ u = .int (key b) t ∧ Pj (j + 1) H'') (fun _ _ => False) s')
    (fin : ∀ (out : List Value) (p : Addr) (H' : Hp), Pj bs.length H' → H p = none → H' p = none → EachIs R out (bs.mergeSort fun x y => decide (key x ≤ key y)) → ∃ xs : List V, xs.length ≤ sizeLine ∧ Vals xs out ∧ Q (.ref p) (upd H' p (.lst xs))) :
    wpAny (model X.prog X.w) X.A (call (.builtin "sorted") [.ref l] [(Str.ofString "key", f)]) (EP X pins σ Q) X.xe s := by
  refine sorted_of_sort hl hz (ksk_s1 _ _) (fun _ => ksk_l1 _ _) fun E' => ?_
  rw [ht]
  have el := e.length
  have fa : Free X pins (s.heap.objs.size + 1) := free_new I (Nat.le_succ _)
  have na0 : H (s.heap.objs.size + 1) = none := I.hok.fresh (Nat.le_succ _)
  have ho := copyHeap_at s.heap its
  have I1 : Inv X pins σ H { s with heap := copyHeap s.heap its, toks := s.toks } := I.kept fun b u q => copyHeap_old q
  generalize s.heap.objs.size + 1 = a at fa na0 ho ⊢
  generalize copyHeap s.heap its = hc at ho I1 ⊢
  unfold ksk_tree
  refine wpAny_bind (listItems_at ho rfl ?_)
  refine wpAny_bind (listUpdate_at ho rfl ?_ (by rw [List.size_toArray]; exact hz) (Nat.zero_le _))
  obtain ⟨e1, ho1⟩ : ∃ n1, (hc.update a (Obj.mapSeq fun _ => (#[] : Array Value))).get? a = some (seqObj "list" #[] n1) := ⟨_, get?_update_seq ho fun _ => #[]⟩
  refine wpAny_bind (seqEpoch_at ho1 rfl ?_)
  refine wpAny_bind (wpAny_newTuple ?_ (by show its.length ≤ _; exact hz))
  refine wpAny_bind (wpAny_newList ?_ (Nat.zero_le _))
  refine wpAny_holding ?_
  have sb := Heap.SameBut.update hc a (Obj.mapSeq fun _ => (#[] : Array Value))
  have I2 : Inv X pins σ H { s with heap := hc.update a (Obj.mapSeq fun _ => (#[] : Array Value)), toks := s.toks } := by
    have z := changes (h' := hc.update a (Obj.mapSeq fun _ => (#[] : Array Value))) (t' := s.toks) I1 fa na0 fun c u hne q => (sb.2 c hne).trans q
    exact z
  generalize hc.update a (Obj.mapSeq fun _ => (#[] : Array Value)) = hd at ho1 I2 ⊢
  have fk : Free X pins (hd.push (seqObj "tuple" its.toArray 0)).objs.size := free_new I2 (by show hd.objs.size ≤ _; rw [size_push']; omega)
  have I3 : Inv X pins σ H { s with heap := (hd.push (seqObj "tuple" its.toArray 0)).push (seqObj "list" #[] 0), toks := s.toks } := I2.kept fun b u q => Heap.get?_push_of_some _ (Heap.get?_push_of_some _ q)
  have nk0 : H (hd.push (seqObj "tuple" its.toArray 0)).objs.size = none := I2.hok.fresh (by show hd.objs.size ≤ _; rw [size_push']; omega)
  have hk : ((hd.push (seqObj "tuple" its.toArray 0)).push (seqObj "list" #[] 0)).get? (hd.push (seqObj "tuple" its.toArray 0)).objs.size = some (seqObj "list" #[] 0) := Heap.get?_push_size _ rfl
  have ha : ((hd.push (seqObj "tuple" its.toArray 0)).push (seqObj "list" #[] 0)).get? a = some (seqObj "list" #[] e1) := Heap.get?_push_of_some _ (Heap.get?_push_of_some _ ho1)
  have hka : (hd.push (seqObj "tuple" its.toArray 0)).objs.size ≠ a := by
    intro z
    rw [size_push'] at z
    exact absurd (Heap.lt_size ho1) (by rw [← z]; exact Nat.not_lt.mpr (Nat.le_succ _))
  show wpAny _ _ (ksk_rest a f false its.toArray e1 (.ref (hd.push (seqObj "tuple" its.toArray 0)).objs.size)) _ _ { s with heap := (hd.push (seqObj "tuple" its.toArray 0)).push (seqObj "list" #[] 0), toks := s.toks }
  generalize (hd.push (seqObj "tuple" its.toArray 0)).objs.size = kS at fk nk0 hk hka I3 ⊢
  generalize (hd.push (seqObj "tuple" its.toArray 0)).push (seqObj "list" #[] 0) = hq at hk ha I3 ⊢
  have I4 := watch I3 fa fk ha hk na0 nk0 listNotCell listNotCell
  unfold ksk_rest
  refine wpAny_bind (wpAny_rule ?_)
  first
    | rw [List.forIn_toArray]
    | (rw [← Array.forIn_toList]; simp only [List.toList_toArray])
    | rw [← Array.forIn_toList]
  refine wpAny_bind (ksk_fold (fun i s' => ∃ (H' : Hp) (kA : Array Value) (c : Nat), Inv X (pins ++ [(a, seqObj "list" #[] e1), (kS, seqObj "list" kA c)]) σ H' s' ∧ Pj i H' ∧ EachIs (fun (v : Value) (k : Int) => ∃ t, v = .int k t) kA.toList ((bs.map key).take i)) its 0 _
    ⟨H, #[], 0, I4, h0, by rw [List.take_zero]; exact .nil⟩ ?step ?done)
  case step =>
    rintro j v s' hv ⟨H', kA, c, J, hP, hK⟩
    simp only [Nat.zero_add] at hP hK ⊢
    have hj : j < bs.length := by rw [← el]; exact (List.getElem?_eq_some_iff.mp hv).1
    have hb : bs[j]? = some bs[j] := List.getElem?_eq_getElem hj
    have hR : R v bs[j] := e.zip (v, bs[j]) (List.mem_of_getElem? (i := j) (by rw [List.getElem?_zip_eq_some]; exact ⟨hv, hb⟩))
    have hsz : kA.size ≤ sizeLine := by
      have h1 := hK.length
      rw [Array.length_toList, List.length_take, List.length_map] at h1
      omega
    have hsz2 : (kA.push (Value.int (key bs[j]) default)).size ≤ sizeLine + 1 := by rw [Array.size_push]; omega
    refine wpAny_bind (wpAny_attempt (wpAny_mono (turn j v bs[j] _ s' H' (fun p hp => List.mem_append_left _ hp) hb hR J hP) (fun u s2 he => ?_) fun _ _ hF => hF.elim))
    obtain ⟨H2, t2, J2, rfl, hP2⟩ := he
    have pa := J2.pin (a, seqObj "list" #[] e1) (by simp)
    have pk := J2.pin (kS, seqObj "list" kA c) (by simp)
    have sk := Heap.SameBut.update s2.heap kS (Obj.mapSeq (·.push (Value.int (key bs[j]) t2)))
    obtain ⟨c2, hc2⟩ : ∃ c2, (s2.heap.update kS (Obj.mapSeq (·.push (Value.int (key bs[j]) t2)))).get? kS = some (seqObj "list" (kA.push (Value.int (key bs[j]) t2)) c2) := ⟨_, get?_update_seq pk.1 (·.push (Value.int (key bs[j]) t2))⟩
    try dsimp only
    refine wpAny_bind (listUpdate_at pk.1 rfl ?_ hsz (by rw [Array.size_push]; omega))
    have J3 := changes (t' := s2.toks) (unwatch J2) fk pk.2.1 fun d u hne q => (sk.2 d hne).trans q
    refine wpAny_pure ⟨rfl, H2, kA.push (Value.int (key bs[j]) t2), c2, watch J3 fa fk ((sk.2 a hka.symm).trans pa.1) hc2 pa.2.1 pk.2.1 listNotCell listNotCell, hP2, ?_⟩
    have ek : (bs.map key).take (j + 1) = (bs.map key).take j ++ [key bs[j]] := by
      rw [List.take_add_one, List.getElem?_map, hb]
      simp
    have ea : (kA.push (Value.int (key bs[j]) t2)).toList = kA.toList ++ [Value.int (key bs[j]) t2] := by simp
    rw [ea, ek]
    exact each_snoc ⟨t2, rfl⟩ hK
  case done =>
    rintro s' ⟨H', kA, c, J, hP, hK⟩
    have e3 : (bs.map key).take (0 + its.length) = bs.map key := List.take_of_length_le (by rw [List.length_map]; omega)
    rw [e3] at hK
    have hP : Pj bs.length H' := by
      have z : 0 + its.length = bs.length := by omega
      rwa [z] at hP
    have pa := J.pin (a, seqObj "list" #[] e1) (by simp)
    have pk := J.pin (kS, seqObj "list" kA c) (by simp)
    have hsz : kA.size = its.length := by
      have h1 := hK.length
      rw [Array.length_toList, List.length_map] at h1
      omega
    try dsimp only
    refine wpAny_bind (listItems_at pk.1 rfl ?_)
    have hid : (hidT s'.heap fun b => if b = kS then some (.lst []) else none).get? kS = none := by
      cases q : (hidT s'.heap fun b => if b = kS then some (.lst []) else none).get? kS with
      | none => rfl
      | some u =>
        have := (of_hidT q).2
        simp at this
    have kp : KeepsBut a (hidT s'.heap fun b => if b = kS then some (.lst []) else none) s'.heap := fun b o _ q => (of_hidT q).1
    have hI : EachIs (fun v (d : PyData) => ∃ as, Reads s'.heap v d as) kA.toList (bs.map fun b => PyData.int (key b)) := by
      have h1 := ints_each hK s'.heap
      rw [List.map_map] at h1
      exact h1
    have hal : AllAlike (bs.map fun b => PyData.int (key b)) := AllAlike.of fun _ _ => by simp [alike]
    refine keyH_end (κ := dataKind s'.heap (bs.map fun b => PyData.int (key b))) kp hid pk.1 pa.1 hka (SortsAt.data hI hal (Sortable.others fun _ => ⟨fun z => (by cases z), fun _ z => (by cases z)⟩) fun d hd => ?_) hsz hz fun h3 tk3 c3 k3 n3 => ⟨rfl, ?_⟩
    · obtain ⟨b, _, rfl⟩ := List.mem_map.mp hd
      show X.A.units + 1 + 1 + 0 < cLine
      omega
    · have k4 : ∀ d u, d ≠ a → d ≠ kS → s'.heap.get? d = some u → h3.get? d = some u := fun d u h1 h2 q => k3 d u h1 (hidT_get q (if_neg h2))
      have ko : KeyedOut false (bs.map fun b => PyData.int (key b)) its (sortVals (dataKind s'.heap (bs.map fun b => PyData.int (key b))) false kA.toList its) := ⟨_, _, hal, rfl, hI⟩
      have eo := keyedOut_each (fun b => PyData.int (key b)) ko e
      rw [dataLe_int] at eo
      obtain ⟨xs, hx, hv, q⟩ := fin _ a H' hP na0 pa.2.1 eo
      exact ⟨.ref a, upd H' a (.lst xs), becomes (unwatch J) fa fk pa.2.1 pk.2.1 k4 ⟨hx, _, _, hv, n3⟩, rfl, q⟩
end
end Sk
/-! ## Pd: sorted(xs, key=f) -/
namespace Pd
open PySem L2 PySem.Spec PyProof.Rows PySem.W
/-- f tells an int of each item -/
def eSortKey (F : FD) (fa : ED) : AD := fun env N Q => fa env N fun r N1 => ∃ (rs : List D) (key : D → Int), r = .lst rs ∧ (∀ x ∈ rs, ∀ R : D → Nat → Prop, R (.int (key x)) N1 → F [x] N1 R) ∧ ∀ rs' : List D, rs'.Perm rs → rs'.Pairwise (fun x y => key x ≤ key y) → Q rs' N1
theorem sorted_keys {β : Type} (key : β → Int) (bs : List β) : (bs.mergeSort fun x y => decide (key x ≤ key y)).Pairwise fun x y => key x ≤ key y := by
  have h := List.pairwise_mergeSort (le := fun x y : β => decide (key x ≤ key y)) (fun a b c h1 h2 => by simp only [decide_eq_true_eq] at *; omega) (fun a b => by simp only [Bool.or_eq_true, decide_eq_true_eq]; omega) bs
  exact h.imp fun {a b} h => by simpa using h
theorem each_zip {vs : List Value} {xs : List V} {rs : List D} (h : Vals xs vs) (hl : xs.length = rs.length) : EachIs (fun (v : Value) (b : V × D) => RelV b.1 v) vs (xs.zip rs) := by
  induction h generalizing rs with
  | nil => exact .nil
  | cons r _ ih =>
    cases rs with
    | nil => cases hl
    | cons d rs => exact .cons r (ih (by simpa using hl))
theorem vals_each {vs : List Value} {bs : List (V × D)} (h : EachIs (fun (v : Value) (b : V × D) => RelV b.1 v) vs bs) : Vals (bs.map (·.1)) vs := by
  induction h with
  | nil => exact .nil
  | cons r _ ih => exact .cons r ih
theorem dva_of {K : PySem.W.Frag} {mg : Str → Option Value} {w : Dr} {H : Hp} : ∀ {bs : List (V × D)}, (∀ b ∈ bs, Dv K mg w H b.1 b.2) → DvA K mg w H (bs.map (·.1)) (bs.map (·.2))
  | [], _ => .nil
  | b :: bs, h => .cons (h b (by simp)) (dva_of fun c hc => h c (by simp [hc]))
theorem dva_zip {K : PySem.W.Frag} {mg : Str → Option Value} {w : Dr} {H : Hp} : ∀ {xs : List V} {rs : List D}, DvA K mg w H xs rs → ∀ b ∈ xs.zip rs, Dv K mg w H b.1 b.2
  | _, _, .nil, b, hb => by simp at hb
  | _, _, .cons h t, b, hb => by
    simp only [List.zip_cons_cons, List.mem_cons] at hb
    rcases hb with e | e
    · subst e; exact h
    · exact dva_zip t b e
def rSK (X : Cx) (C : Cn) (F : FD) (f : Addr) : List V → List V → Hp → VK → Prop := fun xs zs H1 Q1 => ∃ (Hs1 : Hp) (N1 : Nat) (rs : List D) (key : D → Int) (R1 : List D → Nat → Prop), zs = [.ref f] ∧ Same Hs1 H1 ∧ Ms C.w H1 N1 ∧ Hs1 C.w.d = none ∧ OutT C.w Hs1 ∧ BvA X.K X.mg C.w H1 Hs1 xs [.lst rs] ∧ (∀ x ∈ rs, ∀ R : D → Nat → Prop, R (.int (key x)) N1 → F [x] N1 R) ∧
      (∀ rs' : List D, rs'.Perm rs → rs'.Pairwise (fun x y => key x ≤ key y) → R1 rs' N1) ∧ ∀ ys, R1 ys N1 → ∀ q vs H' Hs', Go C.w H1 Hs1 H' Hs' → Ms C.w H' N1 → Own C.w H' Hs' q vs → H1 q = none → DvA X.K X.mg C.w Hs' vs ys → Q1 (.ref q) H'
def skEnd (F : FD) (R : List D → Nat → Prop) : List D → Nat → Prop := fun rs N1 => match rs with
  | [r] => ∃ (rs : List D) (key : D → Int), r = .lst rs ∧ (∀ x ∈ rs, ∀ R : D → Nat → Prop, R (.int (key x)) N1 → F [x] N1 R) ∧ ∀ rs' : List D, rs'.Perm rs → rs'.Pairwise (fun x y => key x ≤ key y) → R rs' N1
  | _ => False
section
variable {X : Cx} {C : Cn} {e : Expr} {pos p p2 p3 : Pos} {g : Str} {fa : ED} {k : Nat} {ps : List Str} {F : FD}
theorem sortkey_call {pins : List (Addr × Obj)} {s : Shared} {σ : L2.St} {H Hs : Hp} {N : Nat} {xs : List V} {us : List Value} {f : Addr} {fd : FuncData} {rs : List D} {key : D → Int} {Q : VK} {R0 : List D → Prop} (kp : PySem.W.keepIn X.K (.ref f) = true) (bd : Binds X.K fd ps []) (Fo : Rd.FnOkG X.prog X.w X.K X.mg X.base CX0 k f fd ps (spD C.w.T X.K X.mg 1 F))
    (hG : X.A.guards = some []) (hr : Room (k + 2) X.A) (I : Inv X pins σ H s) (rv : Vals xs us) (s0 : Same Hs H) (m : Ms C.w H N) (hd : Hs C.w.d = none) (hg : OutT C.w Hs) (ha : BvA X.K X.mg C.w H Hs xs [.lst rs]) (hF : ∀ x ∈ rs, ∀ R : D → Nat → Prop, R (.int (key x)) N → F [x] N R)
    (hR : ∀ rs' : List D, rs'.Perm rs → rs'.Pairwise (fun x y => key x ≤ key y) → R0 rs')
    (out : ∀ ys, R0 ys → ∀ q vs H' Hs', Go C.w H Hs H' Hs' → Ms C.w H' N → Own C.w H' Hs' q vs → H q = none → DvA X.K X.mg C.w Hs' vs ys → Q (.ref q) H') :
    wpAny (model X.prog X.w) X.A (call (.builtin "sorted") us [(Str.ofString "key", .ref f)]) (EP X pins σ Q) X.xe s := by
  obtain ⟨v, rfl, b1⟩ := ha.one
  obtain ⟨a, vs, rfl, hl, hda⟩ := b1.list s0
  rw [Vals.ref1 rv]
  obtain ⟨its, hv, hpl, hz⟩ := I.list (SqL.of hl)
  have hlen : vs.length = rs.length := hda.len
  refine Sk.sortkey_run (β := V × D) (R := fun v b => RelV b.1 v) (key := fun b => key b.2) (bs := vs.zip rs) (Pj := fun _ H' => ∃ Hs', Go C.w H Hs H' Hs' ∧ Ms C.w H' N) I hpl.isList (by rw [← hv.length]; exact hz) (each_zip hv hlen) (by have := hr.un; omega) (fun x => ksk_t1 f x)
    ⟨Hs, Go.refl s0, m⟩ ?_ ?_
  · rintro j v' b pl s' H' - hb hR' I' ⟨Hs', g1, m1⟩
    have hmem := List.mem_of_getElem? hb
    have hdv := Dv.same g1.sh _ _ (dva_zip hda b hmem)
    have hmr : b.2 ∈ rs := (List.of_mem_zip (a := b.1) (b := b.2) hmem).2
    have q : spD C.w.T X.K X.mg 1 F [b.1] H' (fun u H'' => u = .int (key b.2) ∧ ∃ Hs'', Go C.w H Hs H'' Hs'' ∧ Ms C.w H'' N) E0 :=
      ⟨C.w, Hs', N, [b.2], fun r n => r = .int (key b.2) ∧ n = N, rfl, rfl, g1.sub, m1, g1.new _ m.some.1 hd, hg.go m g1, .cons hdv .nil, hF _ hmr _ ⟨rfl, rfl⟩, fun r n ⟨er, en⟩ u H'' Hs'' g2 m2 d2 => by
        subst er en
        exact ⟨by cases d2; rfl, Hs'', g1.trans g2, m2⟩⟩
    have hb' := bd s' [v'] I'.kIn (by rw [List.append_nil]; exact (Fo.len _ _ _ _ q))
    rw [List.append_nil] at hb'
    refine wpAny_call (codeAny_mono (Fo.run X.A.in1.in1 X.stack s' H' ⟨[v'], []⟩ [v'] [b.1] _ E0 hG hr.in1.in1 I'.env0.in1.in1 hb' (.cons hR' .nil) q) fun r s'' hq => ?_)
    match r, hq with
    | .error _, z => exact z.elim
    | .ok (.ret u), z =>
      obtain ⟨v2, H2, J2, r2, e2, P2⟩ := I'.after z
      subst e2
      obtain ⟨t, rfl⟩ := r2
      exact ⟨H2, t, J2, rfl, P2⟩
    | .ok .next, z => exact z.elim
    | .ok .brk, z => exact z.elim
    | .ok .cont, z => exact z.elim
  · rintro out' q H' ⟨Hs', g1, m1⟩ hn hn' he
    have hp := List.mergeSort_perm (vs.zip rs) fun x y => decide (key x.2 ≤ key y.2)
    have hs := sorted_keys (fun b : V × D => key b.2) (vs.zip rs)
    generalize (vs.zip rs).mergeSort (fun x y => decide (key x.2 ≤ key y.2)) = bs' at hp hs he
    have hsnd : ((vs.zip rs).map (·.2)) = rs := List.map_snd_zip (Nat.le_of_eq hlen.symm)
    have hd2 := dva_of (bs := bs') fun b hb => dva_zip hda b (hp.mem_iff.mp hb)
    refine ⟨bs'.map (·.1), by rw [List.length_map, hp.length_eq, List.length_zip]; exact Nat.le_trans (Nat.min_le_left _ _) hz, vals_each he, ?_⟩
    refine out (bs'.map (·.2)) (hR _ (by rw [← hsnd]; exact hp.map _) (List.pairwise_map.mpr hs)) q _ _ Hs' (g1.trans (Go.own1 g1.sub hn')) (m1.new hn') (Own.mk_new m1 g1.sub hn') hn (DvA.same g1.sh _ _ hd2)
theorem pf_sortKey (Cl : CalleeD C.w.T X.prog X.w X.K X.mg X.base k g ps F) (hps : ps.length = 1) (hG : X.A.guards = some []) (hr : Room (k + 2) X.A) (hgs : Gl X "sorted") (hms : X.mg "sorted" = none) (h : PEb X C e fa) (hg : Gl X g := by rfl) (hdb : (g == ("__debug__" : Str)) = false := by decide)
    (he : backTo pos (starEach [e] X.env) = (false, eval e X.env) :: backTo pos (starEach [] X.env) := by rfl) (hpl : (backTo pos (starEach [e] X.env)).any (·.1) = false := by rfl)
    (na : starEach [e] X.env = (false, eval e X.env) :: starEach [] X.env := by rfl)
    (hall : (backToKw pos (keywordEach [⟨some "key", .Name g p2, p3⟩] X.env)).all (·.1.isSome) = true := by rfl) (hnone : (backToKw pos (keywordEach [⟨some "key", .Name g p2, p3⟩] X.env)).any (·.1.isNone) = false := by rfl) (hks : (backToKw pos (keywordEach [⟨some "key", .Name g p2, p3⟩] X.env)).filterMap (·.1) = [Str.ofString "key"] := by rfl) :
    PEf X C (.Call (.Name "sorted" p) [e] [⟨some "key", .Name g p2, p3⟩] pos) (eSortKey F fa) := by
  obtain ⟨f, fd, hm, kp, bd, Fo⟩ := Cl
  rw [hps] at Fo
  refine ⟨⟨fun pins s σ H Q I ⟨env, Hs, N, R, r, hf, kk⟩ => ?_⟩⟩
  refine (pe_callBK (r := rSK X C F f)
    (t := TAb X.K X.mg C (aCons fa aNil)) (tk := tCons (tC (.ref f)) tNil) ?_ hgs hms boot_sorted (pab_cons h pab_nil na).pa (pk_cons (pe_glob hg hm rfl hdb) pk_nil) (by decide) (by decide) he hpl hall hnone hks).run pins s σ H Q I ?_
  · intro pins s σ H xs zs us ws Q I rv rz ⟨Hs1, N1, rs, key, R1, ez, s0, m, hd, hg', ha, hF, hR, out⟩
    subst ez
    rw [Vals.ref1 rz]
    exact sortkey_call (R0 := fun ys => R1 ys N1) kp bd Fo hG hr I rv s0 m hd hg' ha hF hR out
  · refine ⟨env, Hs, N, skEnd F R, r, hf, fun rs0 N1 h1 vs H1 Hs1 g1 m1 b1 => ?_⟩
    match rs0, h1, b1 with
    | [_], ⟨rs, key, rfl, hF, hR⟩, b1 =>
      have r1 := r.move g1 m1
      refine ⟨Hs1, N1, rs, key, R, rfl, g1.sub, m1, r1.hd, r1.hg, b1, hF, hR, fun ys hy q vs' H' Hs' g2 m2 o2 hq d2 => kk ys N1 hy q vs' H' Hs' (g1.trans g2) m2 o2 ?_ d2⟩
      cases z : H q with
      | none => rfl
      | some u => exact absurd hq (g1.there q (by rw [z]; exact fun z => by cases z))
end
end Pd
/-! ## Pd: common words for numbers, pairs, lists of them; comparing them -/
namespace Pd
open PySem PySem.Spec PyProof.Rows L2
/-- a pair of numbers -/
abbrev prD (p : Nat × Nat) : D := .tup [nD p.1, nD p.2]
abbrev prsD (ps : List (Nat × Nat)) : D := .lst (ps.map prD)
/-- lists of numbers -/
abbrev nssD (xss : List (List Nat)) : D := .lst (xss.map nsD)
/-- compared: no bools within, not deep -/
structure Good (x : D) : Prop where
  nb : x.nb = true
  fine : x.fine 60 = true
theorem Good.ok {x : D} (h : Good x) : x.eqOk = true := fine_eqOk h.fine (by decide)
theorem oEq_good {x y : D} {neg : Bool} {P : D → Prop} (b : Bool) (hx : Good x) (hy : Good y) (hb : b = true ↔ x = y) (h : P (.bl (b != neg))) : oEq neg x y P := by
  refine ⟨hx.ok, hy.ok, ?_⟩
  have e : PyData.eqv x.py y.py = b := by
    rw [Bool.eq_iff_iff, hb]
    exact eqv_nb x y hx.nb hy.nb
  rw [e]
  exact h
theorem good_int (i : Int) : Good (.int i) := ⟨rfl, rfl⟩
theorem fine_up : ∀ {k j : Nat} {v : D}, v.fine k = true → k ≤ j → v.fine j = true := by
  intro k
  induction k with
  | zero =>
    intro j v h hj
    cases v <;> cases j <;> simp_all [D.fine]
  | succ k ih =>
    intro j v h hj
    obtain ⟨j, rfl⟩ : ∃ i, j = i + 1 := ⟨j - 1, by omega⟩
    cases v <;> simp_all [D.fine]
    all_goals exact fineA_mem.mpr fun x hx => ih (fineA_mem.mp h x hx) (by omega)
/-- the same, k deep -/
structure GoodK (k : Nat) (x : D) : Prop where
  nb : x.nb = true
  fine : x.fine k = true
theorem GoodK.good {k : Nat} {x : D} (h : GoodK k x) (hk : k ≤ 60 := by omega) : Good x := ⟨h.nb, fine_up h.fine hk⟩
theorem GoodK.up {k j : Nat} {x : D} (h : GoodK k x) (hk : k ≤ j := by omega) : GoodK j x := ⟨h.nb, fine_up h.fine hk⟩
theorem gk_int (k : Nat) (i : Int) : GoodK k (.int i) := ⟨rfl, by cases k <;> rfl⟩
theorem gk_non (k : Nat) : GoodK k .non := ⟨rfl, by cases k <;> rfl⟩
theorem gk_lst {k : Nat} {xs : List D} (h : ∀ x ∈ xs, GoodK k x) : GoodK (k + 1) (.lst xs) := ⟨by simp only [D.nb]; exact nbA_mem.mpr fun x hx => (h x hx).nb, by simp only [D.fine]; exact fineA_mem.mpr fun x hx => (h x hx).fine⟩
theorem gk_tup {k : Nat} {xs : List D} (h : ∀ x ∈ xs, GoodK k x) : GoodK (k + 1) (.tup xs) := ⟨by simp only [D.nb]; exact nbA_mem.mpr fun x hx => (h x hx).nb, by simp only [D.fine]; exact fineA_mem.mpr fun x hx => (h x hx).fine⟩
theorem gk_ns (ns : List Nat) : GoodK 1 (nsD ns) := gk_lst fun x hx => by
  obtain ⟨n, _, rfl⟩ := List.mem_map.mp hx
  exact gk_int 0 _
theorem gk_ints (ns : List Int) : GoodK 1 (.lst (ns.map D.int)) := gk_lst fun x hx => by
  obtain ⟨n, _, rfl⟩ := List.mem_map.mp hx
  exact gk_int 0 _
theorem gk_pr (p : Nat × Nat) : GoodK 1 (prD p) := gk_tup fun x hx => by
  simp only [List.mem_cons, List.not_mem_nil, or_false] at hx
  rcases hx with rfl | rfl <;> exact gk_int 0 _
theorem gk_prs (ps : List (Nat × Nat)) : GoodK 2 (prsD ps) := gk_lst fun x hx => by
  obtain ⟨n, _, rfl⟩ := List.mem_map.mp hx
  exact gk_pr _
theorem gk_nss (xss : List (List Nat)) : GoodK 2 (nssD xss) := gk_lst fun x hx => by
  obtain ⟨n, _, rfl⟩ := List.mem_map.mp hx
  exact gk_ns _
theorem gk_nil (k : Nat) : GoodK (k + 1) (.lst []) := gk_lst fun x hx => by cases hx
theorem nD_inj {n m : Nat} : nD n = nD m ↔ n = m := by
  simp only [nD, D.int.injEq]; omega
theorem map_inj {α β : Type} {f : α → β} (hf : ∀ x y, f x = f y → x = y) : ∀ {xs ys : List α}, xs.map f = ys.map f → xs = ys
  | [], [], _ => rfl
  | [], _ :: _, h => by simp at h
  | _ :: _, [], h => by simp at h
  | x :: xs, y :: ys, h => by
    simp only [List.map_cons, List.cons.injEq] at h
    rw [hf _ _ h.1, map_inj hf h.2]
theorem nsD_inj {xs ys : List Nat} : nsD xs = nsD ys ↔ xs = ys := ⟨fun h => map_inj (fun _ _ => nD_inj.mp) (D.lst.inj h), fun h => by rw [h]⟩
theorem nssD_inj {xs ys : List (List Nat)} : nssD xs = nssD ys ↔ xs = ys := ⟨fun h => map_inj (fun _ _ => nsD_inj.mp) (D.lst.inj h), fun h => by rw [h]⟩
theorem prD_inj {p q : Nat × Nat} : prD p = prD q ↔ p = q := by
  constructor
  · intro h
    simp only [prD, D.tup.injEq, List.cons.injEq, and_true] at h
    exact Prod.ext (nD_inj.mp h.1) (nD_inj.mp h.2)
  · intro h; rw [h]
theorem prsD_inj {ps qs : List (Nat × Nat)} : prsD ps = prsD qs ↔ ps = qs := ⟨fun h => map_inj (fun _ _ => prD_inj.mp) (D.lst.inj h), fun h => by rw [h]⟩
/-- equal numbers -/
theorem oEq_int {i j : Int} {neg : Bool} {P : D → Prop} (h : P (.bl (decide (i = j) != neg))) : oEq neg (.int i) (.int j) P := oEq_good _ (good_int i) (good_int j) (by simp) h
/-- a list against [] -/
theorem oEq_nilR {xs : List D} {k : Nat} {neg : Bool} {P : D → Prop} (g : GoodK k (.lst xs)) (hk : k ≤ 60) (h : P (.bl (xs.isEmpty != neg))) : oEq neg (.lst xs) (.lst []) P := oEq_good _ (g.good hk) ((gk_nil 0).good) (by cases xs <;> simp) h
/-- texts -/
theorem oEq_str {x y : Str} {neg : Bool} {P : D → Prop} (hx : PyData.strOk x = true) (hy : PyData.strOk y = true) (h : P (.bl ((x == y) != neg))) : oEq neg (.str x) (.str y) P := by
  refine ⟨fine_eqOk (k := 0) (by simpa [D.fine] using hx) (by omega), fine_eqOk (k := 0) (by simpa [D.fine] using hy) (by omega), ?_⟩
  have e : PyData.eqv (D.str x).py (D.str y).py = (x == y) := by simp [D.py, PyData.eqv]
  rw [e]
  exact h
theorem eraseIdx_perm {α : Type} : ∀ {xs : List α} {i : Nat} {x : α}, xs[i]? = some x → (x :: xs.eraseIdx i).Perm xs
  | [], i, x, h => by simp at h
  | y :: ys, 0, x, h => by simp at h; subst h; simp
  | y :: ys, i + 1, x, h => by
    simp only [List.eraseIdx_cons_succ]
    exact (List.Perm.swap _ _ _).trans ((eraseIdx_perm (by simpa using h)).cons y)
theorem map_eraseIdx {α β : Type} (f : α → β) : ∀ (xs : List α) (i : Nat), (xs.map f).eraseIdx i = (xs.eraseIdx i).map f
  | [], i => by simp
  | x :: xs, 0 => by simp
  | x :: xs, i + 1 => by simp [map_eraseIdx f xs i]
theorem ixN_int {n : Nat} {k : Int} (h0 : 0 ≤ k) (h1 : k < n) : ixN n k = some k.toNat := by
  obtain ⟨j, rfl⟩ := Int.eq_ofNat_of_zero_le h0
  simpa using ixN_nat' (n := n) (j := j) (by omega)
theorem map_int (ns : List Nat) : ns.map nD = (ns.map fun n => ((n : Nat) : Int)).map D.int := by simp [nD, Function.comp_def]
theorem intsOf_ns (ns : List Nat) : intsOf (ns.map nD) = some (ns.map fun n => ((n : Nat) : Int)) := by rw [map_int]; exact intsOf_map _
/-- ints that are numbers -/
theorem nats_of : ∀ {ks : List Int}, (∀ k ∈ ks, 0 ≤ k) → ∃ ns : List Nat, ks = ns.map fun n => ((n : Nat) : Int)
  | [], _ => ⟨[], rfl⟩
  | k :: ks, h => by
    obtain ⟨ns, e⟩ := nats_of (ks := ks) fun x hx => h x (by simp [hx])
    have := h k (by simp)
    exact ⟨k.toNat :: ns, by rw [e]; simp; omega⟩
theorem perm_nats {ns : List Nat} {ks : List Int} (h : ks.Perm (ns.map fun n => ((n : Nat) : Int))) : ∃ ms : List Nat, ks = ms.map (fun n => ((n : Nat) : Int)) ∧ ms.Perm ns := by
  obtain ⟨ms, rfl⟩ := nats_of (ks := ks) fun k hk => by
    obtain ⟨n, _, rfl⟩ := List.mem_map.mp (h.mem_iff.mp hk)
    omega
  refine ⟨ms, rfl, ?_⟩
  have h2 := h.map Int.toNat
  simpa [List.map_map, Function.comp_def] using h2
/-- the numbers, ascending -/
def srt (ns : List Nat) : List Nat := ns.mergeSort fun a b => decide (a ≤ b)
theorem srt_perm (ns : List Nat) : (srt ns).Perm ns := List.mergeSort_perm _ _
theorem srt_sorted (ns : List Nat) : (srt ns).Pairwise (· ≤ ·) := by
  have h := List.pairwise_mergeSort (le := fun x y : Nat => decide (x ≤ y)) (fun a b c h1 h2 => by simp only [decide_eq_true_eq] at *; omega) (fun a b => by simp only [Bool.or_eq_true, decide_eq_true_eq]; omega) ns
  exact h.imp fun {a b} h => by simpa using h
theorem sorted_uniq : ∀ {xs ys : List Nat}, xs.Pairwise (· ≤ ·) → ys.Pairwise (· ≤ ·) → xs.Perm ys → xs = ys
  | [], ys, _, _, h => (List.Perm.nil_eq h)
  | x :: xs, [], _, _, h => absurd h.length_eq (by simp)
  | x :: xs, y :: ys, hx, hy, h => by
    rw [List.pairwise_cons] at hx hy
    have e : x = y := by
      have a := h.mem_iff.mp (List.mem_cons_self (a := x) (l := xs))
      have b := h.mem_iff.mpr (List.mem_cons_self (a := y) (l := ys))
      rcases List.mem_cons.mp a with a | a
      · exact a
      · rcases List.mem_cons.mp b with b | b
        · exact b.symm
        · exact Nat.le_antisymm (hx.1 y b) (hy.1 x a)
    subst e
    rw [sorted_uniq hx.2 hy.2 ((List.perm_cons x).mp h)]
theorem srt_uniq {xs ns : List Nat} (h : xs.Perm ns) (s : xs.Pairwise (· ≤ ·)) : xs = srt ns := sorted_uniq s (srt_sorted ns) (h.trans (srt_perm ns).symm)
theorem srt_eq {xs ys : List Nat} (h : xs.Perm ys) : srt xs = srt ys := srt_uniq ((srt_perm xs).trans h) (srt_sorted xs)
/-- sorted(xs), numbers -/
theorem oSort_ns {ns : List Nat} {P : List D → Prop} (h : P ((srt ns).map nD)) : oSortI [nsD ns] P := by
  simp only [oSortI, intsOf_ns]
  intro ns' hp hs
  obtain ⟨ms, rfl, hp2⟩ := perm_nats hp
  rw [← map_int]
  rw [← srt_uniq hp2 ((List.pairwise_map.mp hs).imp fun {a b} h => by omega)] at h
  exact h
end Pd
namespace Pd
open PySem PySem.Spec PyProof.Rows L2
section
variable {g : GD} {fe : ED} {ws : List Nat} {env : PEnv}
/-- items come by draws, each at its own cost -/
theorem lcD_relW (Rel : D → D → Prop) (c : D → Nat) : ∀ (items acc : List D) (N : Nat) (Q : List D → Nat → Prop), acc.length + items.length ≤ 1000000 → (∀ x ∈ items, ∀ M Q, M + c x ≤ N + (items.map c).sum → (∀ y M', Rel x y → M' ≤ M + c x → Q y M') → g x (wipeE env ws) fun env2 => fe env2 M Q) →
    (∀ ys N', Paired Rel items ys → N' ≤ N + (items.map c).sum → Q (acc ++ ys) N') → lcD g tYesD fe ws env items acc N Q
  | [], acc, N, Q, _, _, q => by simpa [lcD] using q [] N .nil (by simp)
  | x :: xs, acc, N, Q, hl, hb, q => by
    have e : ((x :: xs).map c).sum = c x + (xs.map c).sum := by simp
    rw [e] at hb q
    have hx : g x (wipeE env ws) fun env2 => fe env2 N fun y N4 => acc.length < 1000000 ∧ lcD g tYesD fe ws env xs (acc ++ [y]) N4 Q := hb x List.mem_cons_self N _ (by omega) fun y M' hr h2 => by
      refine ⟨by simp at hl; omega, lcD_relW Rel c xs _ M' Q (by simp at hl ⊢; omega) (fun z hz M Q hM => hb z (List.mem_cons_of_mem _ hz) M Q (by omega)) fun ys N' l1 l4 => ?_⟩
      have := q (y :: ys) N' (.cons hr l1) (by omega)
      simpa using this
    simpa only [lcD, tYesD, if_true] using hx
end
theorem Paired.lenEq {α β : Type} {F : α → β → Prop} {l₁ : List α} {l₂ : List β} (h : Paired F l₁ l₂) : l₁.length = l₂.length := by
  induction h with
  | nil => rfl
  | cons _ _ ih => exact congrArg Nat.succ ih
theorem Paired.memR {α β : Type} {F : α → β → Prop} {l₁ : List α} {l₂ : List β} (h : Paired F l₁ l₂) : ∀ y ∈ l₂, ∃ x ∈ l₁, F x y := by
  induction h with
  | nil => intro y hy; cases hy
  | cons r _ ih =>
    intro y hy
    rcases List.mem_cons.mp hy with e | e
    · subst e; exact ⟨_, List.mem_cons_self, r⟩
    · obtain ⟨x, h1, h2⟩ := ih y e
      exact ⟨x, List.mem_cons_of_mem _ h1, h2⟩
theorem take_cut {α : Type} (xs : List α) {a b : Nat} (h : a ≤ b) : xs.take a ++ cutL xs (some (a : Int)) (some (b : Int)) = xs.take b := by
  rw [cut_both]
  have : (xs.take b).take a = xs.take a := by rw [List.take_take, Nat.min_eq_left h]
  rw [← this, List.take_append_drop]
theorem cutL_map {α β : Type} (f : α → β) (xs : List α) (lo hi : Option Int) : cutL (xs.map f) lo hi = (cutL xs lo hi).map f := by
  unfold cutL
  simp only [List.length_map, List.map_take, List.map_drop]
end Pd
namespace Pd
open PySem PySem.Spec PyProof.Rows L2
/-- texts compared, whatever is in them -/
def oEqS : O2
  | .str x, .str y, P => P (.bl (decide (x = y)))
  | _, _, _ => False
theorem od_eqS {X : Cx} {w : Dr} : OpD X w (compareOp .Eq) oEqS := by
  intro pins s σ H x y v u Q I rx ry ⟨Hs, N, a, b, P, s0, m, ha, hb, ho, out⟩
  match a, b, ho with
  | .str i, .str j, hp =>
    obtain rfl := ha.str
    obtain rfl := hb.str
    exact op_eq pins s σ H _ _ v u Q I rx ry (Rd.eqS (out.now s0 hp (.bl _)))
/-- a walk over the parts of a term -/
theorem loop_parts {g : GD} {fb : SD} {R : PEnds} {ps : List Tmm.Trm} (I : List Tmm.Trm → List Tmm.Trm → PEnv → Nat → Prop)
    (step : ∀ p ps1 ps2 env N (R' : PEnds), ps1 ++ p :: ps2 = ps → I ps1 (p :: ps2) env N → (∀ e n, I (ps1 ++ [p]) ps2 e n → R'.nx e n) → (∀ e n, I (ps1 ++ [p]) ps2 e n → R'.ct e n) → (∀ r n, R.rt r n → R'.rt r n) → g p.toD env fun env1 => fb env1 N R')
    (done : ∀ env N, I ps [] env N → R.nx env N) {env : PEnv} {N : Nat} (h : I [] ps env N) : loopD g fb (Tmm.Trm.toDL ps) env N R := by
  have key : ∀ (ps2 ps1 : List Tmm.Trm) (env : PEnv) (N : Nat), ps1 ++ ps2 = ps → I ps1 ps2 env N → loopD g fb (Tmm.Trm.toDL ps2) env N R := by
    intro ps2
    induction ps2 with
    | nil =>
      intro ps1 env N e hi
      rw [List.append_nil] at e
      rw [e] at hi
      exact done env N hi
    | cons p ps2 ih =>
      intro ps1 env N e h
      unfold Tmm.Trm.toDL loopD
      exact step p ps1 ps2 env N _ e h (fun e' n he => ih (ps1 ++ [p]) e' n (by simpa using e) he) (fun e' n he => ih (ps1 ++ [p]) e' n (by simpa using e) he) fun _ _ z => z
  exact key ps [] env N rfl h
end Pd
namespace Pd
open PySem PySem.Spec PyProof.Rows L2 Tmm
/-- a walk over things that stand as data -/
theorem loop_map {α : Type} {f : α → D} {g : GD} {fb : SD} {R : PEnds} {ps : List α} (I : List α → List α → PEnv → Nat → Prop)
    (step : ∀ p ps1 ps2 env N (R' : PEnds), ps1 ++ p :: ps2 = ps → I ps1 (p :: ps2) env N → (∀ e n, I (ps1 ++ [p]) ps2 e n → R'.nx e n) → (∀ e n, I (ps1 ++ [p]) ps2 e n → R'.ct e n) → (∀ r n, R.rt r n → R'.rt r n) → g (f p) env fun env1 => fb env1 N R')
    (done : ∀ env N, I ps [] env N → R.nx env N) {env : PEnv} {N : Nat} (h : I [] ps env N) : loopD g fb (ps.map f) env N R := by
  have key : ∀ (ps2 ps1 : List α) (env : PEnv) (N : Nat), ps1 ++ ps2 = ps → I ps1 ps2 env N → loopD g fb (ps2.map f) env N R := by
    intro ps2
    induction ps2 with
    | nil =>
      intro ps1 env N e hi
      rw [List.append_nil] at e
      rw [e] at hi
      exact done env N hi
    | cons p ps2 ih =>
      intro ps1 env N e h
      unfold List.map loopD
      exact step p ps1 ps2 env N _ e h (fun e' n he => ih (ps1 ++ [p]) e' n (by simpa using e) he) (fun e' n he => ih (ps1 ++ [p]) e' n (by simpa using e) he) fun _ _ z => z
  exact key ps [] env N rfl h
theorem wd_behind (b : Bool) : (wd b == Str.ofString "behind") = b := by cases b <;> decide +kernel
theorem wd_beside (b : Bool) : (wd b == Str.ofString "beside") = !b := by cases b <;> decide +kernel
/-- the word of a term, compared -/
theorem oEq_behind {b : Bool} {neg : Bool} {P : D → Prop} (h : P (.bl (b != neg))) : oEq neg (.str (wd b)) (.str (Str.ofString "behind")) P := oEq_str (Trm.wd_ok b) (Trm.wd_ok true) (by rw [wd_behind]; exact h)
theorem oEq_beside {b : Bool} {neg : Bool} {P : D → Prop} (h : P (.bl ((!b) != neg))) : oEq neg (.str (wd b)) (.str (Str.ofString "beside")) P := oEq_str (Trm.wd_ok b) (Trm.wd_ok false) (by rw [wd_beside]; exact h)
end Pd
namespace Pd
open PySem PySem.Spec PyProof.Rows L2 Tmm
section
variable {α : Type} {g g1 : GD} {tt tt1 : TD} {fe : ED} {ws ws1 : List Nat} {env : PEnv} {fi1 : AD}
theorem lcD_mapM (f h : α → D) : ∀ (items : List α) (acc : List D) (N : Nat) (Q : List D → Nat → Prop), acc.length + items.length ≤ 1000000 → (∀ x ∈ items, ∀ N Q, Q (h x) N → g (f x) (wipeE env ws) fun env2 => fe env2 N Q) → Q (acc ++ items.map h) N → lcD g tYesD fe ws env (items.map f) acc N Q
  | [], acc, N, Q, _, _, q => by simpa [lcD] using q
  | x :: xs, acc, N, Q, hl, hb, q => by
    have hx : g (f x) (wipeE env ws) fun env2 => fe env2 N fun y N4 => acc.length < 1000000 ∧ lcD g tYesD fe ws env (xs.map f) (acc ++ [y]) N4 Q := hb x List.mem_cons_self N _ ⟨by simp at hl; omega, lcD_mapM f h xs _ N Q (by simp at hl ⊢; omega) (fun z hz => hb z (List.mem_cons_of_mem _ hz)) (by simpa using q)⟩
    simpa only [List.map_cons, lcD, tYesD, if_true] using hx
theorem lcD_filterM (f : α → D) (p : α → Bool) (h : α → D) : ∀ (items : List α) (acc : List D) (N : Nat) (Q : List D → Nat → Prop), acc.length + items.length ≤ 1000000 →
    (∀ x ∈ items, ∀ N (Q1 : D → Nat → Prop) (Q0 : Nat → Prop), (p x = true → Q1 (h x) N) → (p x = false → Q0 N) → g (f x) (wipeE env ws) fun env2 => tt env2 N fun b N3 => if b = true then fe env2 N3 Q1 else Q0 N3) → Q (acc ++ (items.filter p).map h) N → lcD g tt fe ws env (items.map f) acc N Q
  | [], acc, N, Q, _, _, q => by simpa [lcD] using q
  | x :: xs, acc, N, Q, hl, hb, q => by
    unfold List.map lcD
    refine hb x List.mem_cons_self N (fun y N4 => acc.length < 1000000 ∧ lcD g tt fe ws env (xs.map f) (acc ++ [y]) N4 Q) (fun N3 => lcD g tt fe ws env (xs.map f) acc N3 Q) (fun hp => ⟨by simp at hl; omega, lcD_filterM f p h xs _ N Q (by simp at hl ⊢; omega) (fun z hz => hb z (List.mem_cons_of_mem _ hz)) (by simpa [List.filter_cons, hp] using q)⟩) fun hp => lcD_filterM f p h xs _ N Q (by simp at hl ⊢; omega) (fun z hz => hb z (List.mem_cons_of_mem _ hz)) (by simpa [List.filter_cons, hp] using q)
end
/-- the least of numbers -/
theorem oMin_ns {ns : List Nat} {P : D → Prop} (h0 : ns ≠ []) (h : ∀ m : Nat, m ∈ ns → (∀ n ∈ ns, m ≤ n) → P (nD m)) : oMinL [nsD ns] P := by
  simp only [oMinL, intsOf_ns]
  refine ⟨by rw [List.length_map]; exact List.length_pos_iff.mpr h0, fun m hm hle => ?_⟩
  obtain ⟨n, hn, rfl⟩ := List.mem_map.mp hm
  exact h n hn fun k hk => by have := hle k (List.mem_map.mpr ⟨k, hk, rfl⟩); omega
theorem least_uniq {ns : List Nat} {m : Nat} (hm : m ∈ ns) (h : ∀ n ∈ ns, m ≤ n) : m = Trm.leastL ns := by
  have hne : ns ≠ [] := fun z => by rw [z] at hm; cases hm
  obtain ⟨h1, h2⟩ := Trm.leastL_spec hne
  have := h _ h1
  have := h2 m hm
  omega
end Pd
/-! ## any data as a term: its leaves, its size -/
namespace Pd
open PySem PySem.Spec PyProof.Rows L2 Tmm
mutual
def D.sz : D → Nat
  | .lst xs => D.szA xs + 1
  | .tup xs => D.szA xs + 1
  | _ => 1
def D.szA : List D → Nat
  | [] => 0
  | x :: xs => D.sz x + D.szA xs
end
theorem sz_pos (x : D) : 1 ≤ x.sz := by cases x <;> simp [D.sz]
theorem szA_append : ∀ (xs ys : List D), D.szA (xs ++ ys) = D.szA xs + D.szA ys
  | [], ys => by simp [D.szA]
  | x :: xs, ys => by simp only [List.cons_append, D.szA, szA_append xs ys]; omega
theorem szA_len : ∀ xs : List D, xs.length ≤ D.szA xs
  | [] => by simp [D.szA]
  | x :: xs => by have := szA_len xs; have := sz_pos x; simp only [D.szA, List.length_cons]; omega
mutual
theorem sz_term : ∀ (t : Trm), t.ok = true → t.toD.sz + 3 ≤ 4 * t.tasks.length
  | .task n, _ => by simp [Trm.toD, nD, D.sz, Trm.tasks]
  | .node b ps, h => by
    simp only [Trm.ok, Bool.and_eq_true, decide_eq_true_eq] at h
    have := szA_term ps h.2
    simp only [Trm.toD, D.sz, D.szA, Trm.tasks]
    omega
theorem szA_term : ∀ (ps : List Trm), Trm.okL ps = true → D.szA (Trm.toDL ps) + 3 * ps.length ≤ 4 * (Trm.tasksL ps).length
  | [], _ => by simp [Trm.toDL, D.szA, Trm.tasksL]
  | p :: ps, h => by
    simp only [Trm.okL, Bool.and_eq_true] at h
    have h1 := sz_term p h.1
    have h2 := szA_term ps h.2
    simp only [Trm.toDL, D.szA, Trm.tasksL, List.length_append, List.length_cons]
    omega
end
def isWord (s : Str) : Bool := s == wd true || s == wd false
/-- a word and two parts or more: the parts -/
def partsD (v : D) : Option (List D) := match v with
  | .tup (.str s :: rest) => if isWord s = true ∧ 2 ≤ rest.length then some rest else none
  | _ => none
mutual
/-- the leaves, the last ones first -/
def lv : D → Option (List Int)
  | .int i => some [i]
  | .tup xs => lvT xs
  | _ => none
def lvT : List D → Option (List Int)
  | x :: rest => (match x with | .str s => if isWord s = true ∧ 2 ≤ rest.length then lvA rest else none | _ => none)
  | [] => none
def lvA : List D → Option (List Int)
  | [] => some []
  | x :: xs => (match lvA xs, lv x with | some b, some a => some (b ++ a) | _, _ => none)
end
theorem lvA_append : ∀ (xs ys : List D), lvA (xs ++ ys) = (match lvA ys, lvA xs with | some b, some a => some (b ++ a) | _, _ => none)
  | [], ys => by
    simp only [List.nil_append, lvA]
    cases lvA ys <;> simp
  | x :: xs, ys => by
    simp only [List.cons_append, lvA, lvA_append xs ys]
    cases lvA ys <;> cases lvA xs <;> cases lv x <;> simp
theorem lvA_one (x : D) : lvA [x] = lv x := by
  simp only [lvA]
  cases lv x <;> simp
theorem lvA_snoc (xs : List D) (x : D) : lvA (xs ++ [x]) = (match lv x, lvA xs with | some b, some a => some (b ++ a) | _, _ => none) := by rw [lvA_append, lvA_one]
theorem lv_parts {v : D} {rest : List D} (h : partsD v = some rest) : lv v = lvA rest := by
  unfold partsD at h
  split at h
  · split at h
    · rename_i h2
      cases h
      simp only [lv, lvT, h2, and_self, if_true]
    · cases h
  · cases h
theorem lv_none {v : D} (h : partsD v = none) (hi : ∀ i, v ≠ .int i) : lv v = none := by
  cases v with
  | int i => exact absurd rfl (hi i)
  | tup xs =>
    cases xs with
    | nil => simp [lv, lvT]
    | cons x rest =>
      cases x with
      | str s =>
        simp only [partsD] at h
        simp only [lv, lvT]
        split at h
        · cases h
        · rename_i h2
          rw [if_neg h2]
      | _ => simp [lv, lvT]
  | _ => simp [lv]
mutual
theorem lv_len : ∀ (v : D) (ns : List Int), lv v = some ns → 1 ≤ ns.length
  | .int i, ns, h => by simp only [lv, Option.some.injEq] at h; subst h; simp
  | .tup xs, ns, h => by
    simp only [lv] at h
    exact lvT_len xs ns h
  | .non, ns, h => by simp [lv] at h
  | .bl _, ns, h => by simp [lv] at h
  | .str _, ns, h => by simp [lv] at h
  | .lst _, ns, h => by simp [lv] at h
  | .ins _ _, ns, h => by simp [lv] at h
  | .exc _ _, ns, h => by simp [lv] at h
  | .fn _, ns, h => by simp [lv] at h
  | .mt, ns, h => by simp [lv] at h
  | .drw, ns, h => by simp [lv] at h
theorem lvT_len : ∀ (xs : List D) (ns : List Int), lvT xs = some ns → 1 ≤ ns.length
  | [], ns, h => by simp [lvT] at h
  | x :: rest, ns, h => by
    cases x with
    | str s =>
      simp only [lvT] at h
      split at h
      · rename_i h2
        have := lvA_len rest ns h
        omega
      · cases h
    | _ => simp [lvT] at h
theorem lvA_len : ∀ (xs : List D) (ns : List Int), lvA xs = some ns → xs.length ≤ ns.length
  | [], ns, _ => by simp
  | x :: xs, ns, h => by
    simp only [lvA] at h
    cases h1 : lvA xs with
    | none => rw [h1] at h; simp at h
    | some b =>
      cases h2 : lv x with
      | none => rw [h1, h2] at h; simp at h
      | some a =>
        rw [h1, h2] at h
        simp only [Option.some.injEq] at h
        subst h
        have := lv_len x a h2
        have := lvA_len xs b h1
        simp only [List.length_cons, List.length_append]
        omega
end
/-- whether any data is a term -/
def IsTm (v : D) : Prop := ∃ ns, lv v = some ns ∧ IsT ns
/-- what is still to be said: tasks seen, what waits -/
def Vd (ts : List Int) (o : Option (List Int)) : Prop := ∃ ns, o = some ns ∧ IsT (ts ++ ns)
theorem vd_none {ts : List Int} : ¬ Vd ts none := by rintro ⟨_, h, _⟩; cases h
theorem vd_out {ts ns : List Int} (h : ¬ (∀ i ∈ ts ++ ns, 0 ≤ i ∧ i ≤ 11)) : ¬ Vd ts (some ns) := by
  rintro ⟨ms, e, ht⟩
  cases e
  exact h (isT_range ht)
theorem vd_twice {ts ns : List Int} (h : ¬ (ts ++ ns).Nodup) : ¬ Vd ts (some ns) := by
  rintro ⟨ms, e, ht⟩
  cases e
  exact h (isT_nodup ht)
theorem szA_mem {x : D} : ∀ {xs : List D}, x ∈ xs → x.sz ≤ D.szA xs
  | y :: ys, h => by
    simp only [D.szA]
    rcases List.mem_cons.mp h with e | e
    · subst e; omega
    · have := szA_mem e; omega
theorem partsD_sz {v : D} {rest : List D} (h : partsD v = some rest) : D.szA rest < v.sz := by
  unfold partsD at h
  split at h
  · split at h
    · cases h
      simp only [D.sz, D.szA]
      omega
    · cases h
  · cases h
theorem partsD_fine {v : D} {rest : List D} {k : Nat} (h : partsD v = some rest) (hv : v.fine (k + 1) = true) : ∀ x ∈ rest, x.fine k = true := by
  unfold partsD at h
  split at h
  · split at h
    · cases h
      simp only [D.fine] at hv
      exact fun x hx => fineA_mem.mp hv x (List.mem_cons_of_mem _ hx)
    · cases h
  · cases h
theorem partsD_two {v : D} {rest : List D} (h : partsD v = some rest) : 2 ≤ rest.length := by
  unfold partsD at h
  split at h
  · split at h
    · rename_i h2; cases h; exact h2.2
    · cases h
  · cases h
mutual
theorem lv_term : ∀ (t : Trm), t.ok = true → ∃ ns, lv t.toD = some ns ∧ ns.Perm (t.tasks.map fun n => ((n : Nat) : Int))
  | .task n, _ => ⟨[(n : Int)], by simp [Trm.toD, nD, lv], by simp [Trm.tasks]⟩
  | .node b ps, h => by
    simp only [Trm.ok, Bool.and_eq_true, decide_eq_true_eq] at h
    obtain ⟨ns, h1, h2⟩ := lvA_term ps h.2
    refine ⟨ns, ?_, by simpa [Trm.tasks] using h2⟩
    simp only [Trm.toD, lv, lvT]
    have hw : isWord (wd b) = true := by unfold isWord; cases b <;> decide +kernel
    rw [if_pos ⟨hw, by rw [Trm.toDL_len]; exact h.1⟩]
    exact h1
theorem lvA_term : ∀ (ps : List Trm), Trm.okL ps = true → ∃ ns, lvA (Trm.toDL ps) = some ns ∧ ns.Perm ((Trm.tasksL ps).map fun n => ((n : Nat) : Int))
  | [], _ => ⟨[], by simp [Trm.toDL, lvA], by simp [Trm.tasksL]⟩
  | p :: ps, h => by
    simp only [Trm.okL, Bool.and_eq_true] at h
    obtain ⟨a, a1, a2⟩ := lv_term p h.1
    obtain ⟨c, c1, c2⟩ := lvA_term ps h.2
    refine ⟨c ++ a, by simp only [Trm.toDL, lvA, a1, c1], ?_⟩
    simp only [Trm.tasksL, List.map_append]
    exact List.perm_append_comm.trans (a2.append c2)
end
theorem isTm_term {t : Trm} (h : t.ok = true) (hl : t.tasks.length ≤ 12) (hp : t.tasks.Perm (List.range t.tasks.length)) : IsTm t.toD := by
  obtain ⟨ns, h1, h2⟩ := lv_term t h
  exact ⟨ns, h1, (isT_perm h2).mpr (isT_nats hp hl)⟩
/-- ints compared -/
theorem any_int {ts : List Int} {i : Int} : ((ts.map D.int).any fun z => PyData.eqv z.py (D.int i).py) = decide (i ∈ ts) := by
  rw [Bool.eq_iff_iff, List.any_eq_true]
  simp only [decide_eq_true_eq, List.mem_map]
  constructor
  · rintro ⟨z, ⟨j, hj, rfl⟩, e⟩
    have := (eqv_nb (.int j) (.int i) rfl rfl).mp e
    simp only [D.int.injEq] at this
    exact this ▸ hj
  · intro h
    exact ⟨_, ⟨i, h, rfl⟩, eqv_true rfl⟩
theorem oIn_ints {ts : List Int} {i : Int} {neg : Bool} {P : D → Prop} (h : P (.bl (decide (i ∈ ts) != neg))) : oIn neg (.int i) (.lst (ts.map D.int)) P := by
  refine ⟨(good_int i).ok, (gk_ints ts).good.ok, ?_⟩
  rw [any_int]
  exact h
end Pd
namespace Pd
theorem oMaxI {ns : List Int} {P : D → Prop} (h0 : ns ≠ []) (h : ∀ m, m ∈ ns → (∀ n ∈ ns, n ≤ m) → P (.int m)) : oMaxL [.lst (ns.map D.int)] P := by
  simp only [oMaxL, intsOf_map]
  exact ⟨List.length_pos_iff.mpr h0, h⟩
end Pd
namespace Pd
open PySem PySem.Spec PyProof.Rows L2 Tmm
theorem alikes_of {ps : List Trm} {ys : List D} (h : Paired (fun x y => ∃ p u : Trm, x = p.toD ∧ y = u.toD ∧ Trm.Alike p u) (Trm.toDL ps) ys) : ∃ us : List Trm, ys = Trm.toDL us ∧ ps.length = us.length ∧ ∀ (i : Nat) p u, ps[i]? = some p → us[i]? = some u → Trm.Alike p u := by
  induction ps generalizing ys with
  | nil =>
    simp only [Trm.toDL] at h
    cases h
    exact ⟨[], by simp [Trm.toDL], rfl, fun i p u e => by simp at e⟩
  | cons p ps ih =>
    simp only [Trm.toDL] at h
    cases h with
    | cons r t =>
      obtain ⟨p', u, e, rfl, al⟩ := r
      obtain rfl := Trm.toD_inj e
      obtain ⟨us, rfl, hl, hh⟩ := ih t
      refine ⟨u :: us, by simp [Trm.toDL], by simp [hl], fun i q v e1 e2 => ?_⟩
      cases i with
      | zero => simp at e1 e2; subst e1 e2; exact al
      | succ i => exact hh i q v (by simpa using e1) (by simpa using e2)
end Pd
namespace Pd
open PySem PySem.Spec PyProof.Rows L2 Tmm
/-- a list against [], whatever is in it -/
theorem oEq_nilF {xs : List D} {neg : Bool} {P : D → Prop} (g : (D.lst xs).fine 60 = true) (h : P (.bl (xs.isEmpty != neg))) : oEq neg (.lst xs) (.lst []) P := by
  refine ⟨fine_eqOk g (by omega), (gk_nil 0).good.ok, ?_⟩
  have e : PyData.eqv (D.lst xs).py (D.lst []).py = xs.isEmpty := by
    cases xs <;> simp [D.py, D.pyA, PyData.eqv, PyData.eqvAll]
  rw [e]
  exact h
theorem oIn_words {s : Str} {neg : Bool} {P : D → Prop} (hs : PyData.strOk s = true) (h : P (.bl (isWord s != neg))) : oIn neg (.str s) (.tup [.str (Str.ofString "behind"), .str (Str.ofString "beside")]) P := by
  refine ⟨fine_eqOk (k := 0) (by simpa [D.fine] using hs) (by omega), by decide +kernel, ?_⟩
  have e : ([D.str (Str.ofString "behind"), D.str (Str.ofString "beside")].any fun z => PyData.eqv z.py (D.str s).py) = isWord s := by
    simp [D.py, PyData.eqv, isWord, wd, BEq.comm (a := s)]
  rw [e]
  exact h
theorem fine_ty' {k : Nat} {v : D} (h : v.fine k = true) : v.tyN.isSome = true := by cases v <;> cases k <;> first | rfl | (simp [D.fine] at h)
theorem isT_sorted {ns : List Int} : ((decide ((ns.length : Int) < 13)) = true ∧ srtZ ns = (List.range ns.length).map fun (i : Nat) => (i : Int)) ↔ IsT ns := by
  simp only [decide_eq_true_eq]
  unfold Tmm.IsT
  constructor
  · rintro ⟨h1, h2⟩
    exact ⟨by rw [← h2]; exact (srtZ_perm ns).symm, by omega⟩
  · rintro ⟨h1, h2⟩
    refine ⟨by omega, ?_⟩
    have nd := isT_nodup ⟨h1, h2⟩
    refine sorted_ext (nodup_lt (srtZ_sorted ns) ((srtZ_perm ns).nodup_iff.mpr nd)) ?_ fun z => ?_
    · refine List.pairwise_map.mpr (List.Pairwise.imp (fun {a b} h => by omega) List.pairwise_lt_range)
    · rw [(srtZ_perm ns).mem_iff]
      exact h1.mem_iff
theorem sortedZ_uniq : ∀ {xs ys : List Int}, xs.Pairwise (· ≤ ·) → ys.Pairwise (· ≤ ·) → xs.Perm ys → xs = ys
  | [], ys, _, _, h => (List.Perm.nil_eq h)
  | x :: xs, [], _, _, h => absurd h.length_eq (by simp)
  | x :: xs, y :: ys, hx, hy, h => by
    rw [List.pairwise_cons] at hx hy
    have e : x = y := by
      have a := h.mem_iff.mp (List.mem_cons_self (a := x) (l := xs))
      have b := h.mem_iff.mpr (List.mem_cons_self (a := y) (l := ys))
      rcases List.mem_cons.mp a with a | a
      · exact a
      · rcases List.mem_cons.mp b with b | b
        · exact b.symm
        · exact Int.le_antisymm (hx.1 y b) (hy.1 x a)
    subst e
    rw [sortedZ_uniq hx.2 hy.2 ((List.perm_cons x).mp h)]
theorem oSort_zs {ns : List Int} {P : List D → Prop} (h : P ((srtZ ns).map D.int)) : oSortI [.lst (ns.map D.int)] P := by
  simp only [oSortI, intsOf_map]
  intro ns' hp hs
  rw [sortedZ_uniq hs (srtZ_sorted ns) (hp.trans (srtZ_perm ns).symm)]
  exact h
end Pd
/-! ## Pd: a law's start -/
namespace Pd
open PySem PySem.Spec PyProof.Rows L2
theorem PSsd.anyC {X : Cx} {rest : List Stmt} {g : SD} {T : LTabs} (h : ∀ C : Cn, C.w.T = T → PSsd X C rest g) : PSs X rest (fun E σ H => ∃ C : Cn, C.w.T = T ∧ TSd X.K X.mg C g E σ H) := ⟨fun pins s σ H E I ⟨C, hT, q⟩ => (h C hT).ps.run pins s σ H E I q⟩
theorem tabs_begun {d g c : Addr} {T : LTabs} {H H1 : Hp} (t : LamX.Tabs T H) (m : Ms0 ⟨d, g, c, []⟩ H1 0) (s : Same H H1) : Ms ⟨d, g, c, T⟩ H1 0 := by
  have t1 : LamX.Tabs T H1 := t.ext s
  refine ⟨m, t1, fun p hp => ?_⟩
  obtain ⟨cs, gs, n, h1, h2, h3, _⟩ := m
  obtain ⟨ps, q, _⟩ := t1 p hp
  exact ⟨fun z => by rw [z] at q; exact absurd (h1.symm.trans q) (by simp), fun z => by rw [z] at q; exact absurd (h3.symm.trans q) (by simp), fun z => by rw [z] at q; exact absurd (h2.symm.trans q) (by simp)⟩
def envL (n : Nat) : PEnv := .no :: .sh .drw :: List.replicate n .no
theorem law_go {K : PySem.W.Frag} {mg : Str → Option Value} {d g c : Addr} {T : List (Addr × Str)} {H' : Hp} {n : Nat} {σ : L2.St} {Gs : SD} {Q : VK} {nx : L2.St → Hp → Prop} (ms : Ms ⟨d, g, c, T⟩ H' 0) (hl : σ.length = n + 2) (h1 : σ[1]? = some (some (.ref d))) (k : ∀ H, Q (.bl true) H)
    (hg : Gs (envL n) 0 { nx := fun _ _ => False, rt := fun r _ => r = .bl true }) : ∃ C : Cn, C.w.T = T ∧ TSd K mg C Gs { nx := nx, rt := Q } σ H' := by
  refine ⟨⟨⟨d, g, c, T⟩, H', fun _ => none, 0⟩, rfl, envL n, fun _ => none, 0, _, fun _ => none, ?_, Same.refl _, hg, ⟨fun _ _ _ _ _ _ _ z => z.elim, fun r N v H Hs _ _ dv e => ?_, fun _ _ _ _ _ _ _ z => z.elim, fun _ _ _ _ _ _ _ z => z.elim⟩⟩
  · have none_at : ∀ (i : Nat) (s : Sl), (envL n)[i]? = some s → s = .no ∨ (i = 1 ∧ s = .sh .drw) := fun i s e => by
      match i, e with
      | 0, e => simp [envL] at e; exact .inl e.symm
      | 1, e => simp [envL] at e; exact .inr ⟨rfl, e.symm⟩
      | i + 2, e =>
        simp only [envL, List.getElem?_cons_succ, List.getElem?_replicate] at e
        split at e
        · exact .inl (Option.some.inj e).symm
        · cases e
    refine ⟨ms, rfl, ⟨rfl, fun _ _ z => by cases z⟩, Go.refl fun _ _ z => (by cases z), by rw [hl]; simp [envL], fun i r e => ?_, fun i xs e => ?_, fun i c fs e => ?_, fun i j a _ h _ _ => ?_⟩
    · rcases none_at i _ e with z | ⟨rfl, z⟩
      · cases z
      · cases z
        exact ⟨_, h1, .drw⟩
    · rcases none_at i _ e with z | ⟨rfl, z⟩ <;> cases z
    · rcases none_at i _ e with z | ⟨rfl, z⟩ <;> cases z
    · rcases h with ⟨_, z⟩ | ⟨_, _, z⟩ <;> (rcases none_at i _ z with y | ⟨rfl, y⟩ <;> cases y)
  · have e' : r = .bl true := e
    subst e'
    cases dv
    exact k H
end Pd
namespace Pd
open PySem PySem.Spec PyProof.Rows L2 Tmm
/-- for each task those ahead of it -/
def bef (t : Trm) : List (List Nat) := (List.range t.tasks.length).map fun k => srt (t.bef1 k)
/-- a term of the tasks from 0 on, at most twelve -/
structure Full (t : Trm) : Prop where
  ok : t.ok = true
  le : t.tasks.length ≤ 12
  perm : t.tasks.Perm (List.range t.tasks.length)
theorem Full.nd {t : Trm} (h : Full t) : t.tasks.Nodup := h.perm.nodup_iff.mpr List.nodup_range
theorem Full.lt {t : Trm} (h : Full t) {x : Nat} : x ∈ t.tasks ↔ x < t.tasks.length := by rw [h.perm.mem_iff, List.mem_range]
theorem Full.depth {t : Trm} (h : Full t) : t.depth < 12 := by have := Trm.ok_depth h.ok; have := h.le; omega
theorem Full.alike {t u : Trm} (h : Full t) (a : Trm.Alike t u) : Full u := ⟨a.ok, by rw [a.perm.length_eq]; exact h.le, by rw [a.perm.length_eq]; exact a.perm.trans h.perm⟩
theorem sorted_extN : ∀ {xs ys : List Nat}, xs.Pairwise (· < ·) → ys.Pairwise (· < ·) → (∀ z, z ∈ xs ↔ z ∈ ys) → xs = ys
  | [], [], _, _, _ => rfl
  | [], y :: ys, _, _, h => by have := (h y).mpr (by simp); cases this
  | x :: xs, [], _, _, h => by have := (h x).mp (by simp); cases this
  | x :: xs, y :: ys, hx, hy, h => by
    rw [List.pairwise_cons] at hx hy
    have e : x = y := by
      have a := (h x).mp (by simp)
      have b := (h y).mpr (by simp)
      rcases List.mem_cons.mp a with a | a
      · exact a
      · rcases List.mem_cons.mp b with b | b
        · exact b.symm
        · have := hx.1 y b
          have := hy.1 x a
          omega
    subst e
    rw [sorted_extN hx.2 hy.2 fun z => ?_]
    constructor
    · intro hz
      have := hx.1 z hz
      rcases List.mem_cons.mp ((h z).mp (by simp [hz])) with e | e
      · omega
      · exact e
    · intro hz
      have := hy.1 z hz
      rcases List.mem_cons.mp ((h z).mpr (by simp [hz])) with e | e
      · omega
      · exact e
theorem srt_strict {xs : List Nat} (h : xs.Nodup) : (srt xs).Pairwise (· < ·) := by
  have h1 := srt_sorted xs
  have h2 := (srt_perm xs).nodup_iff.mpr h
  exact List.Pairwise.imp₂ (fun a b h1 h2 => Nat.lt_of_le_of_ne h1 h2) h1 h2
theorem srt_ext {xs ys : List Nat} (hx : xs.Nodup) (hy : ys.Nodup) (h : ∀ z, z ∈ xs ↔ z ∈ ys) : srt xs = srt ys :=
  sorted_extN (srt_strict hx) (srt_strict hy) fun z => by rw [(srt_perm xs).mem_iff, (srt_perm ys).mem_iff]; exact h z
theorem bef_alike {t u : Trm} (h : Full t) (a : Trm.Alike t u) : bef u = bef t := by
  unfold bef
  rw [a.perm.length_eq]
  refine List.map_congr_left fun k _ => srt_ext (Trm.bef1_nodup (h.alike a).nd) (Trm.bef1_nodup h.nd) fun z => ?_
  rw [Trm.mem_bef1, Trm.mem_bef1, a.ah]
theorem bef_inj {t u : Trm} (ht : Full t) (hu : Full u) (e : bef t = bef u) : (∀ x, x ∈ t.tasks ↔ x ∈ u.tasks) ∧ ∀ x y, Trm.ah t x y = Trm.ah u x y := by
  have el : t.tasks.length = u.tasks.length := by
    have := congrArg List.length e
    simpa [bef] using this
  refine ⟨fun x => by rw [ht.lt, hu.lt, el], fun x y => ?_⟩
  by_cases hy : y < t.tasks.length
  · have e2 : srt (t.bef1 y) = srt (u.bef1 y) := by
      have h1 : (bef t)[y]? = some (srt (t.bef1 y)) := by unfold bef; rw [List.getElem?_map, List.getElem?_range hy]; rfl
      have h2 : (bef u)[y]? = some (srt (u.bef1 y)) := by unfold bef; rw [List.getElem?_map, List.getElem?_range (by omega)]; rfl
      rw [e, h2] at h1
      exact (Option.some.inj h1).symm
    rw [Bool.eq_iff_iff, ← Trm.mem_bef1, ← Trm.mem_bef1, ← (srt_perm (t.bef1 y)).mem_iff, e2, (srt_perm _).mem_iff]
  · have h1 : y ∉ t.tasks := fun z => hy (ht.lt.mp z)
    have h2 : y ∉ u.tasks := fun z => hy (by rw [el]; exact hu.lt.mp z)
    rw [Trm.ah_out (.inr h1), Trm.ah_out (.inr h2)]
theorem nf_iff {t u t' u' : Trm} (ht : Full t) (hu : Full u) (nt : Trm.NF t t') (nu : Trm.NF u u') : t' = u' ↔ bef t = bef u := by
  constructor
  · intro e
    rw [← bef_alike ht nt.2, ← bef_alike hu nu.2, e]
  · intro e
    obtain ⟨h1, h2⟩ := bef_inj ht hu e
    exact Trm.NF.eq nt nu ht.nd hu.nd h1 fun x y _ _ => h2 x y
mutual
theorem shw_term : ∀ (t : Trm), (∀ x ∈ t.tasks, x < 1000) → t.toD.shw = true
  | .task n, h => by
    have := h n (by simp [Trm.tasks])
    simp only [Trm.toD, nD, D.shw, Int.natAbs_natCast, decide_eq_true_eq]
    by_cases hn : n = 0
    · subst hn; decide
    · exact (Nat.log2_lt hn).mpr (Nat.lt_of_lt_of_le this (Nat.le_trans (by decide : 1000 ≤ 2 ^ 10) (Nat.pow_le_pow_right (by decide) (by decide))))
  | .node b ps, h => by
    simp only [Trm.toD, D.shw, D.shwA, Bool.true_and]
    simp only [Trm.tasks] at h
    exact shwA_term ps h
theorem shwA_term : ∀ (ps : List Trm), (∀ x ∈ Trm.tasksL ps, x < 1000) → D.shwA (Trm.toDL ps) = true
  | [], _ => by simp [Trm.toDL, D.shwA]
  | p :: ps, h => by
    simp only [Trm.tasksL] at h
    simp only [Trm.toDL, D.shwA, Bool.and_eq_true]
    exact ⟨shw_term p fun x hx => h x (List.mem_append.mpr (.inl hx)), shwA_term ps fun x hx => h x (List.mem_append.mpr (.inr hx))⟩
end
theorem Full.small {t : Trm} (h : Full t) : ∀ x ∈ t.tasks, x < 1000 := fun x hx => by
  have := h.lt.mp hx
  have := h.le
  omega
theorem Full.good {t : Trm} (h : Full t) : GoodK 12 t.toD := ⟨Trm.toD_nb t, Trm.toD_fine t 12 (by have := h.depth; omega)⟩
theorem Full.rl {t : Trm} (h : Full t) : t.toD.rl ≤ 400 := by
  have := Trm.toD_rl t h.small h.ok
  have := h.le
  omega
/-- repr of a list of terms -/
theorem repr_terms {ts : List Trm} (h : ∀ t ∈ ts, Full t) (hl : ts.length ≤ 1000) : (D.lst (ts.map Trm.toD)).plain = true ∧ reprOk (D.lst (ts.map Trm.toD)).py := by
  refine repr_ok (k := 20) ?_ ?_ (by omega) ?_
  · simp only [D.shw]
    refine shwA_mem.mpr fun x hx => ?_
    obtain ⟨t, ht, rfl⟩ := List.mem_map.mp hx
    exact shw_term t (h t ht).small
  · simp only [D.fine]
    refine fineA_mem.mpr fun x hx => ?_
    obtain ⟨t, ht, rfl⟩ := List.mem_map.mp hx
    exact ((h t ht).good.up (j := 19)).fine
  · have key : ∀ ts : List Trm, (∀ t ∈ ts, Full t) → D.rlA (ts.map Trm.toD) ≤ 402 * ts.length := by
      intro ts
      induction ts with
      | nil => intro _; simp [D.rlA]
      | cons t ts ih =>
        intro h
        have h1 := ih fun u hu => h u (by simp [hu])
        have h2 := (h t (by simp)).rl
        simp only [List.map_cons, D.rlA, List.length_cons]
        omega
    have := key ts h
    simp only [D.rl]
    omega
end Pd
/-! ## Pd: pairs sorted -/
namespace Pd
open PySem PySem.Spec PyProof.Rows L2 Tmm
def oSortP : OF
  | [.lst xs], P => ∃ ps : List (Nat × Nat), xs = ps.map prD ∧ P ((srtP ps).map prD)
  | _, _ => False
/-- the pair at a place -/
def kH (H : Hp) : V → Int × Int
  | .ref t => match H t with | some (.tup [.int i, .int j]) => (i, j) | _ => (0, 0)
  | _ => (0, 0)
theorem kH_at {K : PySem.W.Frag} {mg : Str → Option Value} {w : Dr} {H Hs : Hp} (s : Same Hs H) : ∀ {xs : List V} {ps : List (Nat × Nat)}, DvA K mg w Hs xs (ps.map prD) → (∀ x ∈ xs, ∃ t, x = V.ref t ∧ H t = some (.tup [.int (kH H x).1, .int (kH H x).2])) ∧ xs.map (fun x => ((kH H x).1.toNat, (kH H x).2.toNat)) = ps ∧ (∀ x ∈ xs, Dv K mg w Hs x (prD ((kH H x).1.toNat, (kH H x).2.toNat))) ∧ ∀ x ∈ xs, 0 ≤ (kH H x).1 ∧ 0 ≤ (kH H x).2
  | _, [], .nil => ⟨fun x hx => (by cases hx), rfl, fun x hx => (by cases hx), fun x hx => (by cases hx)⟩
  | _, p :: ps, .cons h t => by
    obtain ⟨h1, h2, h3, h4⟩ := kH_at s t
    cases h with
    | @tup a xs' _ q1 q2 =>
      cases q2 with
      | cons r1 q2 =>
        cases r1
        cases q2 with
        | cons r2 q2 =>
          cases r2
          cases q2
          have e : kH H (.ref a) = ((p.1 : Int), (p.2 : Int)) := by
            simp only [kH, s _ _ q1]
          refine ⟨fun x hx => ?_, ?_, fun x hx => ?_, fun x hx => ?_⟩
          · rcases List.mem_cons.mp hx with e' | e'
            · subst e'
              exact ⟨a, rfl, by rw [e]; exact s _ _ q1⟩
            · exact h1 x e'
          · rw [List.map_cons, h2, e]
            simp
          · rcases List.mem_cons.mp hx with e' | e'
            · subst e'
              rw [e]
              exact .tup q1 (.cons (.int _) (.cons (.int _) .nil))
            · exact h3 x e'
          · rcases List.mem_cons.mp hx with e' | e'
            · subst e'
              rw [e]
              exact ⟨Int.natCast_nonneg _, Int.natCast_nonneg _⟩
            · exact h4 x e'
theorem dva_map {K : PySem.W.Frag} {mg : Str → Option Value} {w : Dr} {H : Hp} {f : V → D} : ∀ {ys : List V}, (∀ y ∈ ys, Dv K mg w H y (f y)) → DvA K mg w H ys (ys.map f)
  | [], _ => .nil
  | y :: ys, h => .cons (h y (by simp)) (dva_map fun z hz => h z (by simp [hz]))
theorem cf_sortP {X : Cx} {w : Dr} : CallF X w (.builtin "sorted") oSortP := by
  intro pins s σ H xs us Q I rv ⟨Hs, N, rs, P, s0, m, ha, ho, out⟩
  match rs, ho with
  | [.lst ys], ⟨ps, eps, hP⟩ =>
    subst eps
    obtain ⟨v, rfl, b1⟩ := ha.one
    obtain ⟨a, vs, rfl, hl, hda⟩ := b1.list s0
    obtain ⟨k1, k2, k3, k4⟩ := kH_at s0 hda
    refine cr_sortedPO pins s σ H _ us Q I rv ⟨a, vs, kH H, rfl, SqL.of hl, k1, fun zs q hs hst hq => ?_⟩
    have hperm := hst.perm
    have hd2 := dva_map (ys := zs) (f := fun x => prD ((kH H x).1.toNat, (kH H x).2.toNat)) fun y hy => k3 y (hperm.mem_iff.mp hy)
    have ez : zs.map (fun x => prD ((kH H x).1.toNat, (kH H x).2.toNat)) = (srtP ps).map prD := by
      have e1 : zs.map (fun x => prD ((kH H x).1.toNat, (kH H x).2.toNat)) = (zs.map fun x => ((kH H x).1.toNat, (kH H x).2.toNat)).map prD := by rw [List.map_map]; rfl
      rw [e1]
      congr 1
      refine srtP_uniq (by rw [← k2]; exact hperm.map _) ?_
      refine List.pairwise_map.mpr ?_
      have nat : ∀ x ∈ zs, 0 ≤ (kH H x).1 ∧ 0 ≤ (kH H x).2 := fun x hx => k4 x (hperm.mem_iff.mp hx)
      have hs' := hs
      unfold SrtO.Srtd at hs'
      refine List.Pairwise.imp_of_mem ?_ hs'
      intro x y hx hy h
      have nx := nat x hx
      have ny := nat y hy
      rw [SrtO.lexB_no] at h
      simp only [lexLe, Bool.or_eq_true, Bool.and_eq_true, decide_eq_true_eq]
      omega
    rw [ez] at hd2
    exact OutF.mk out s0 m hP hd2 hq
theorem oSort_prs {ps : List (Nat × Nat)} {P : List D → Prop} (h : P ((srtP ps).map prD)) : oSortP [prsD ps] P := ⟨ps, rfl, h⟩
end Pd
namespace Pd
open PySem PySem.Spec PyProof.Rows L2 Tmm
section
variable {α : Type} {g g1 : GD} {tt tt1 : TD} {fe : ED} {ws ws1 : List Nat} {env : PEnv} {fi1 : AD}
theorem lcI2_mapM (f h : α → D) : ∀ (items : List α) (acc : List D) (N : Nat) (Q : List D → Nat → Prop), acc.length + items.length ≤ 1000000 → (∀ x ∈ items, ∀ N Q, Q (h x) N → g (f x) (wipeE env ws) fun env2 => fe env2 N Q) → Q (acc ++ items.map h) N → lcI2 g tYesD fe ws env (items.map f) acc N Q
  | [], acc, N, Q, _, _, q => by simpa [lcI2] using q
  | x :: xs, acc, N, Q, hl, hb, q => by
    have hx : g (f x) (wipeE env ws) fun env2 => fe env2 N fun y N4 => acc.length < 1000000 ∧ lcI2 g tYesD fe ws env (xs.map f) (acc ++ [y]) N4 Q := hb x List.mem_cons_self N _ ⟨by simp at hl; omega, lcI2_mapM f h xs _ N Q (by simp at hl ⊢; omega) (fun z hz => hb z (List.mem_cons_of_mem _ hz)) (by simpa using q)⟩
    simpa only [List.map_cons, lcI2, tYesD, if_true] using hx
theorem lcD2_flatM (f : α → D) (h : α → List D) : ∀ (items : List α) (acc : List D) (N : Nat) (Q : List D → Nat → Prop), (∀ x ∈ items, ∀ acc N (Q : List D → Nat → Prop), Q (acc ++ h x) N → acc.length + (h x).length ≤ 1000000 → g (f x) (wipeE env ws) fun env2 => fi1 env2 N fun items1 N4 => lcI2 g1 tt1 fe ws1 env2 items1 acc N4 Q) →
    acc.length + (items.flatMap h).length ≤ 1000000 → Q (acc ++ items.flatMap h) N → lcD2 g tYesD fi1 g1 tt1 fe ws ws1 env (items.map f) acc N Q
  | [], acc, N, Q, _, _, q => by simpa [lcD2] using q
  | x :: xs, acc, N, Q, hb, hl, q => by
    have l2 : acc.length + (h x).length + (xs.flatMap h).length ≤ 1000000 := by
      rw [List.flatMap_cons, List.length_append] at hl
      omega
    have hx : g (f x) (wipeE env ws) fun env2 => fi1 env2 N fun items1 N4 => lcI2 g1 tt1 fe ws1 env2 items1 acc N4 fun acc5 N5 => lcD2 g tYesD fi1 g1 tt1 fe ws ws1 env (xs.map f) acc5 N5 Q :=
      hb x List.mem_cons_self acc N _ (lcD2_flatM f h xs _ N Q (fun z hz => hb z (List.mem_cons_of_mem _ hz)) (by rw [List.length_append]; omega) (by simpa [List.flatMap_cons] using q)) (by omega)
    simpa only [List.map_cons, lcD2, tYesD, if_true] using hx
end
end Pd
namespace Pd
open PySem L2 PySem.Spec PyProof.Rows
/-- len(set(xs)): how many different ones -/
def eLenS (f : ED) : ED := fun env N Q => f env N fun r N1 => match r.intsL with | some ks => ks.length < 60 ∧ ∀ es : List Int, es.Nodup → (∀ k, k ∈ es ↔ k ∈ ks) → Q (.int es.length) N1 | none => False
section
variable {X : Cx} {C : Cn} {e : Expr} {p p2 q pos : Pos} {f : ED}
theorem pd_lenSetI (hc : X.calm = true) (hg : Gl X "len") (hm : X.mg "len" = none) (hg2 : Gl X "set") (hm2 : X.mg "set" = none) (h : PEb X C e f) (na : starEach [e] X.env = (false, eval e X.env) :: starEach [] X.env := by rfl)
    (nb : starEach [.Call (.Name "set" p2) [e] [] q] X.env = (false, eval (.Call (.Name "set" p2) [e] [] q) X.env) :: starEach [] X.env := by rfl) : PEd X C (.Call (.Name "len" p) [.Call (.Name "set" p2) [e] [] q] [] pos) (eLenS f) :=
  ⟨⟨fun pins s σ H Q I ⟨env, Hs, N, R, r, hf, k⟩ => by
    refine Call_ (ld_blt I hg hm PySem.boot_len (callWith_builtin1 (args_cons ?_ nb) nb rfl))
    refine Call_ (ld_blt I hg2 hm2 boot_set (callWith_type1 (args_cons (thn (h.pe.run pins s σ H _ I ⟨env, Hs, N, _, r, hf, fun y N1 h1 v H1 Hs1 g1 m1 d1 => (show ∃ Hs1 N1 y, Go C.w H Hs H1 Hs1 ∧ Ms C.w H1 N1 ∧ Bv X.K X.mg C.w H1 Hs1 v y ∧ (match y.intsL with | some ks => ks.length < 60 ∧ ∀ es : List Int, es.Nodup → (∀ k, k ∈ es ↔ k ∈ ks) → R (.int es.length) N1 | none => False) from ⟨Hs1, N1, y, g1, m1, d1, h1⟩)⟩) fun u s1 hu => args_nil ?_) na) na rfl))
    obtain ⟨v, H1, I1, rv, Hs1, N1, y, g1, m1, d1, hy⟩ := hu
    cases zk : y.intsL with
    | none => simp only [zk] at hy
    | some ks =>
      simp only [zk] at hy
      obtain ⟨hl, hy⟩ := hy
      refine setI_of hc I1 g1.sub rv d1 zk hl fun g t c hS hcl hkeep => args_nil ?_
      have I2 : Inv X pins σ H1 { s1 with heap := g, toks := t } := I1.kept fun b o e => hkeep b o e
      obtain ⟨o, es, ep, tt, ho, hex, hd, _, hnd, hmem, hb, hft, hsz, _⟩ := hS
      have el : ((es.toList.map L2.keyOf).length : Int) = (es.size : Int) := by rw [List.length_map, Array.length_toList]
      refine call_len_set ho hex hd hft (by rw [hsz]; omega) ⟨.int es.size, H1, I2.tok _, ⟨_, rfl⟩, ?_⟩
      have hq := hy (es.toList.map L2.keyOf) hnd fun j => by rw [← hmem j]; exact decide_eq_true_iff
      rw [el] at hq
      exact k _ _ hq _ _ _ g1 m1 (.int _)⟩⟩
end
end Pd
namespace Pd
open PySem PySem.Spec PyProof.Rows L2 Tmm
theorem bef1_few {t : Trm} (h : Full t) (k : Nat) : (t.bef1 k).length ≤ 12 := by
  have h1 := srt_strict (Trm.bef1_nodup (k := k) h.nd)
  have := asc_few (n := t.tasks.length) (srt (t.bef1 k)) 0 (fun c hc => ⟨by omega, h.lt.mp (Trm.ah_mem (Trm.mem_bef1.mp ((srt_perm _).mem_iff.mp hc))).1⟩) h1 (by omega)
  rw [(srt_perm _).length_eq] at this
  have := h.le
  omega
theorem bef_small {t : Trm} (h : Full t) : ∀ b ∈ bef t, b.length ≤ 12 := fun b hb => by
  obtain ⟨k, _, rfl⟩ := List.mem_map.mp hb
  rw [(srt_perm _).length_eq]
  exact bef1_few h k
theorem bef_get {t : Trm} {k : Nat} {b : List Nat} : (bef t)[k]? = some b ↔ k < t.tasks.length ∧ b = srt (t.bef1 k) := by
  unfold bef
  rw [List.getElem?_map]
  by_cases h : k < t.tasks.length
  · rw [List.getElem?_range h]
    simp only [Option.map_some, Option.some.injEq, h, true_and]
    exact eq_comm
  · rw [List.getElem?_eq_none (by rw [List.length_range]; omega)]
    simp [h]
theorem mem_listP_bef {t : Trm} (h : Full t) {x y : Nat} : (x, y) ∈ listP (bef t) ↔ Trm.ah t x y = true := by
  rw [mem_listP]
  constructor
  · rintro ⟨b, hb, hx⟩
    obtain ⟨_, rfl⟩ := bef_get.mp hb
    exact Trm.mem_bef1.mp ((srt_perm _).mem_iff.mp hx)
  · intro e
    exact ⟨_, bef_get.mpr ⟨h.lt.mp (Trm.ah_mem e).2, rfl⟩, (srt_perm _).mem_iff.mpr (Trm.mem_bef1.mpr e)⟩
theorem listP_few {bs : List (List Nat)} (hl : bs.length ≤ 12) (hb : ∀ b ∈ bs, b.length ≤ 12) : (listP bs).length ≤ 144 := by
  have key : ∀ qs : List (List Nat × Nat), (∀ q ∈ qs, q.1.length ≤ 12) → (qs.flatMap fun q => q.1.map fun x => (x, q.2)).length ≤ 12 * qs.length := by
    intro qs
    induction qs with
    | nil => intro _; simp
    | cons q qs ih =>
      intro h
      have h1 := ih fun z hz => h z (List.mem_cons_of_mem _ hz)
      have h2 := h q List.mem_cons_self
      rw [List.flatMap_cons, List.length_append, List.length_map, List.length_cons]
      omega
  have := key bs.zipIdx fun q hq => hb _ (List.mem_of_getElem? (List.mem_zipIdx_iff_getElem?.mp hq))
  rw [List.length_zipIdx] at this
  unfold listP
  omega
theorem listP_nodup {t : Trm} (h : Full t) : (listP (bef t)).Nodup := by
  unfold listP
  rw [List.nodup_iff_pairwise_ne, List.pairwise_flatMap]
  refine ⟨fun q hq => ?_, ?_⟩
  · refine List.pairwise_map.mpr ?_
    have h1 := List.mem_zipIdx_iff_getElem?.mp hq
    obtain ⟨_, e⟩ := bef_get.mp h1
    have nd : q.1.Nodup := by rw [e]; exact (srt_perm _).nodup_iff.mpr (Trm.bef1_nodup h.nd)
    exact List.Pairwise.imp (fun {a b} hne he => hne (congrArg Prod.fst he)) nd
  · have hz : (bef t).zipIdx.Pairwise fun p q => p.2 ≠ q.2 := by
      rw [List.pairwise_iff_getElem]
      intro i j hi hj hij e
      simp only [List.getElem_zipIdx] at e
      omega
    refine List.Pairwise.imp (fun {p q} hne => ?_) hz
    intro x hx y hy e
    obtain ⟨a, _, rfl⟩ := List.mem_map.mp hx
    obtain ⟨b, _, rfl⟩ := List.mem_map.mp hy
    exact hne (Prod.mk.inj e).2
/-- all pairs of a term's order, listed ascending -/
theorem listed_bef {t : Trm} (h : Full t) : srtP (listP (bef t)) = toldR t.tasks.length (Trm.ah t) :=
  lex_ext (srtP_strict (listP_nodup h)) (toldR_sorted _ _) fun ⟨a, b⟩ => by
    rw [(srtP_perm _).mem_iff, mem_listP_bef h, mem_toldR]
    exact ⟨fun e => ⟨h.lt.mp (Trm.ah_mem e).1, h.lt.mp (Trm.ah_mem e).2, e⟩, fun e => e.2.2⟩
theorem oIn_four {a b c d x : Nat} {neg : Bool} {P : D → Prop} (h : P (.bl (decide (x ∈ [a, b, c, d]) != neg))) : oIn neg (nD x) (.tup [nD a, nD b, nD c, nD d]) P := by
  have e : [nD a, nD b, nD c, nD d] = [a, b, c, d].map nD := rfl
  have e2 : [a, b, c, d].map nD = ([a, b, c, d].map fun n => ((n : Nat) : Int)).map D.int := map_int _
  refine ⟨(good_int _).ok, (gk_tup fun z hz => ?_ : GoodK 1 (.tup [nD a, nD b, nD c, nD d])).good.ok, ?_⟩
  · rw [e] at hz
    obtain ⟨n, _, rfl⟩ := List.mem_map.mp hz
    exact gk_int 0 _
  · rw [e, e2, any_int]
    have e3 : decide ((x : Int) ∈ [a, b, c, d].map fun n => ((n : Nat) : Int)) = decide (x ∈ [a, b, c, d]) := by
      refine decide_eq_decide.mpr ?_
      rw [List.mem_map]
      exact ⟨fun ⟨n, hn, e⟩ => by have : n = x := by omega
                                  exact this ▸ hn, fun h => ⟨x, h, rfl⟩⟩
    rw [e3]
    exact h
/-- as many different ones as there are: each once -/
theorem nodup_of_ints {es : List Int} {ns : List Nat} (hnd : es.Nodup) (hes : ∀ k, k ∈ es ↔ k ∈ ns.map fun n => ((n : Nat) : Int)) (hl : ns.length ≤ es.length) : ns.Nodup := by
  have key : ∀ (es ks : List Int), es.Nodup → (∀ k ∈ es, k ∈ ks) → ks.length ≤ es.length → ks.Nodup := by
    intro es
    induction es with
    | nil => intro ks _ _ h; rw [List.length_eq_zero_iff.mp (Nat.le_zero.mp h)]; exact List.nodup_nil
    | cons e es ih =>
      intro ks hnd hsub hl
      rw [List.nodup_cons] at hnd
      obtain ⟨as, bs, rfl⟩ := List.append_of_mem (hsub e List.mem_cons_self)
      have h1 : (as ++ bs).Nodup := by
        refine ih (as ++ bs) hnd.2 (fun k hk => ?_) ?_
        · have := hsub k (List.mem_cons_of_mem _ hk)
          simp only [List.mem_append, List.mem_cons] at this ⊢
          rcases this with h | h | h
          · exact .inl h
          · rw [h] at hk; exact absurd hk hnd.1
          · exact .inr h
        · simp only [List.length_append, List.length_cons] at hl ⊢
          omega
      have h2 : e ∉ as ++ bs := fun he => by
        have few : ∀ (es ks : List Int), es.Nodup → (∀ k ∈ es, k ∈ ks) → es.length ≤ ks.length := by
          intro es
          induction es with
          | nil => intro _ _ _; exact Nat.zero_le _
          | cons x xs ih =>
            intro ks nd hs
            rw [List.nodup_cons] at nd
            obtain ⟨us, vs, rfl⟩ := List.append_of_mem (hs x List.mem_cons_self)
            have := ih (us ++ vs) nd.2 fun k hk => by
              have := hs k (List.mem_cons_of_mem _ hk)
              simp only [List.mem_append, List.mem_cons] at this ⊢
              rcases this with h | h | h
              · exact .inl h
              · rw [h] at hk; exact absurd hk nd.1
              · exact .inr h
            simp only [List.length_append, List.length_cons] at this ⊢
            omega
        have := few (e :: es) (as ++ bs) (List.nodup_cons.mpr hnd) fun k hk => by
          have hk' := hsub k hk
          simp only [List.mem_append, List.mem_cons] at hk' he ⊢
          rcases hk' with h | h | h
          · exact .inl h
          · rw [h]; exact he
          · exact .inr h
        simp only [List.length_append, List.length_cons] at this hl
        omega
      exact (List.perm_middle.nodup_iff).mpr (List.nodup_cons.mpr ⟨h2, h1⟩)
  have h := key es _ hnd (fun k hk => (hes k).mp hk) (by rw [List.length_map]; exact hl)
  exact (List.pairwise_map.mp h).imp fun {a b} hne e => hne (by rw [e])
end Pd
/-! ## the term of an order of which no four tasks stand in an N -/
namespace Tmm
open Pd
/-- each cut of the tasks is crossed -/
def Con (A : Nat → Nat → Bool) (xs : List Nat) : Prop := ∀ S : Nat → Prop, (∃ x ∈ xs, S x) → (∃ y ∈ xs, ¬ S y) → ∃ x ∈ xs, ∃ y ∈ xs, S x ∧ ¬ S y ∧ A x y = true
/-- no path of four tasks that is all that ties them -/
def NoP4 (A : Nat → Nat → Bool) (xs : List Nat) : Prop := ∀ a ∈ xs, ∀ b ∈ xs, ∀ c ∈ xs, ∀ d ∈ xs, A a b = true → A b c = true → A c d = true → A a c = false → A b d = false → A a d = false → a ≠ b → a ≠ c → a ≠ d → b ≠ c → b ≠ d → c ≠ d → False
def Sym (A : Nat → Nat → Bool) : Prop := ∀ x y, A x y = A y x
abbrev Neg (A : Nat → Nat → Bool) : Nat → Nat → Bool := fun x y => !A x y
theorem neg_neg (A : Nat → Nat → Bool) : Neg (Neg A) = A := by
  funext x y
  simp [Neg]
theorem Sym.neg {A : Nat → Nat → Bool} (h : Sym A) : Sym (Neg A) := fun x y => by simp only [Neg, h x y]
theorem NoP4.neg {A : Nat → Nat → Bool} {xs : List Nat} (s : Sym A) (h : NoP4 A xs) : NoP4 (Neg A) xs := by
  intro a ha b hb c hc d hd h1 h2 h3 h4 h5 h6 n1 n2 n3 n4 n5 n6
  simp only [Neg, Bool.not_eq_true', Bool.not_eq_false'] at h1 h2 h3 h4 h5 h6
  exact h c hc a ha d hd b hb ((s c a).trans h4) h6 ((s d b).trans h5) h3 h1 ((s c b).trans h2) n2.symm n6 n4.symm n3 n1 n5.symm
theorem NoP4.sub {A : Nat → Nat → Bool} {xs ys : List Nat} (h : NoP4 A xs) (hs : ∀ y ∈ ys, y ∈ xs) : NoP4 A ys := fun a ha b hb c hc d hd => h a (hs a ha) b (hs b hb) c (hs c hc) d (hs d hd)
theorem p4_core {A : Nat → Nat → Bool} (s : Sym A) {v : Nat} {ws : List Nat} (hv : v ∉ ws) (np : NoP4 A (v :: ws)) (S : Nat → Prop) (e1 : ∃ x ∈ ws, S x) (e2 : ∃ y ∈ ws, ¬ S y) (hS : ∀ x ∈ ws, ∀ y ∈ ws, S x → ¬ S y → A x y = false)
    (c1 : Con A (v :: ws)) {u : Nat} (hu : u ∈ ws) (su : S u) (nu : A u v = false) : False := by
  obtain ⟨z, hz, nz, az⟩ : ∃ z ∈ ws, ¬ S z ∧ A v z = true := by
    obtain ⟨y, hy, ny⟩ := e2
    obtain ⟨x, hx, y, hy, h1, h2, h3⟩ := c1 (fun x => x ∈ ws ∧ ¬ S x) ⟨y, List.mem_cons_of_mem _ hy, hy, ny⟩ ⟨v, by simp, fun z => hv z.1⟩
    rcases List.mem_cons.mp hy with rfl | hy
    · exact ⟨x, h1.1, h1.2, (s _ _).trans h3⟩
    · have sy : S y := Classical.byContradiction fun z => h2 ⟨hy, z⟩
      have := hS y hy x h1.1 sy h1.2
      rw [s, h3] at this
      cases this
  obtain ⟨y, _, x, hx, ⟨hy, sy, ny⟩, h2, h3⟩ := c1 (fun y => y ∈ ws ∧ S y ∧ A y v = false) ⟨u, List.mem_cons_of_mem _ hu, hu, su, nu⟩ ⟨v, by simp, fun z => hv z.1⟩
  rcases List.mem_cons.mp hx with rfl | hx
  · rw [ny] at h3; cases h3
  have sx : S x := Classical.byContradiction fun z => by
    have := hS y hy x hx sy z
    rw [h3] at this
    cases this
  have ax : A x v = true := by
    cases e : A x v with
    | true => rfl
    | false => exact absurd ⟨hx, sx, e⟩ h2
  have ne : ∀ {p}, p ∈ ws → p ≠ v := fun hp e => hv (e ▸ hp)
  exact np y (List.mem_cons_of_mem _ hy) x (List.mem_cons_of_mem _ hx) v (by simp) z (List.mem_cons_of_mem _ hz) h3 ax az ny (hS x hx z hz sx nz) (hS y hy z hz sy nz)
    (fun e => h2 ⟨e ▸ hy, e ▸ sy, e ▸ ny⟩) (ne hy) (fun e => nz (e ▸ sy)) (ne hx) (fun e => nz (e ▸ sx)) (ne hz).symm
theorem p4_step {A : Nat → Nat → Bool} (s : Sym A) {v : Nat} {ws : List Nat} (hv : v ∉ ws) (np : NoP4 A (v :: ws)) (hn : ¬ Con A ws) (c1 : Con A (v :: ws)) (c2 : Con (Neg A) (v :: ws)) : False := by
  obtain ⟨S, hS⟩ := Classical.not_forall.mp hn
  obtain ⟨e1, hS⟩ := Classical.not_imp.mp hS
  obtain ⟨e2, hS⟩ := Classical.not_imp.mp hS
  have hS : ∀ x ∈ ws, ∀ y ∈ ws, S x → ¬ S y → A x y = false := fun x hx y hy sx sy => by
    cases e : A x y with
    | false => rfl
    | true => exact absurd ⟨x, hx, y, hy, sx, sy, e⟩ hS
  obtain ⟨x, hx, u, hu, ex, nu, h⟩ := c2 (fun x => x = v) ⟨v, by simp, rfl⟩ (by
    obtain ⟨x, hx, _⟩ := e1
    exact ⟨x, List.mem_cons_of_mem _ hx, fun e => hv (e ▸ hx)⟩)
  subst ex
  have hu : u ∈ ws := (List.mem_cons.mp hu).resolve_left nu
  have nu : A u x = false := by
    simp only [Neg, Bool.not_eq_true'] at h
    rw [s]
    exact h
  by_cases su : S u
  · exact p4_core s hv np S e1 e2 hS c1 hu su nu
  · exact p4_core s hv np (fun x => ¬ S x) e2 (by obtain ⟨a, ha, sa⟩ := e1; exact ⟨a, ha, fun z => z sa⟩) (fun a ha b hb na nb => by rw [s]; exact hS b hb a ha (Classical.not_not.mp nb) na) c1 hu su nu
/-- of two tasks or more without a path of four, either what ties or what does not cuts them -/
theorem p4_con : ∀ (k : Nat) {A : Nat → Nat → Bool} (s : Sym A) {xs : List Nat}, xs.length = k + 2 → xs.Nodup → NoP4 A xs → Con A xs → ¬ Con (Neg A) xs
  | 0, A, s, xs, hl, nd, np, c1, c2 => by
    match xs, hl with
    | [v, w], _ =>
      have hvw : w ≠ v := fun e => by simp [e] at nd
      obtain ⟨x, hx, y, hy, ex, ey, h⟩ := c1 (fun x => x = v) ⟨v, by simp, rfl⟩ ⟨w, by simp, hvw⟩
      obtain ⟨x', hx', y', hy', ex', ey', h'⟩ := c2 (fun x => x = v) ⟨v, by simp, rfl⟩ ⟨w, by simp, hvw⟩
      simp only [List.mem_cons, List.not_mem_nil, or_false] at hy hy'
      have e1 := hy.resolve_left ey
      have e2 := hy'.resolve_left ey'
      subst ex ex' e1 e2
      simp only [Neg, h] at h'
      cases h'
  | k + 1, A, s, xs, hl, nd, np, c1, c2 => by
    match xs, hl with
    | v :: ws, hl =>
      have hv : v ∉ ws := (List.nodup_cons.mp nd).1
      have nw := (List.nodup_cons.mp nd).2
      have lw : ws.length = k + 2 := by simpa using hl
      have sub : ∀ y ∈ ws, y ∈ v :: ws := fun y hy => List.mem_cons_of_mem _ hy
      by_cases h1 : Con A ws
      · have h2 := p4_con k s lw nw (np.sub sub) h1
        exact p4_step s.neg hv (np.neg s) h2 c2 (by rw [neg_neg]; exact c1)
      · exact p4_step s hv np h1 c1 c2
/-! ### groups that hang together -/
structure Grps (A : Nat → Nat → Bool) (ts : List Nat) (gs : List (List Nat)) : Prop where
  perm : gs.flatten.Perm ts
  asc : ∀ g ∈ gs, g ≠ [] ∧ g.Pairwise (· < ·)
  apart : gs.Pairwise fun g h => ∀ x ∈ g, ∀ y ∈ h, A x y = false
  con : ∀ g ∈ gs, Con A g
theorem Grps.nil {A : Nat → Nat → Bool} : Grps A [] [] := by
  refine ⟨List.Perm.refl _, ?_, List.Pairwise.nil, ?_⟩
  · intro g h
    cases h
  · intro g h
    cases h
abbrev near (A : Nat → Nat → Bool) (t : Nat) (g : List Nat) : Bool := g.any fun y => A t y
def gstep (A : Nat → Nat → Bool) (t : Nat) (gs : List (List Nat)) : List (List Nat) := (gs.filter fun g => !near A t g) ++ [srt (t :: (gs.filter fun g => near A t g).flatten)]
theorem flat_perm {gs hs : List (List Nat)} (h : gs.Perm hs) : gs.flatten.Perm hs.flatten := h.flatten
theorem Con.congr {A : Nat → Nat → Bool} {xs ys : List Nat} (h : ∀ x, x ∈ xs ↔ x ∈ ys) (c : Con A xs) : Con A ys := fun S ⟨x, hx, sx⟩ ⟨y, hy, sy⟩ => by
  obtain ⟨a, ha, b, hb, k⟩ := c S ⟨x, (h x).mpr hx, sx⟩ ⟨y, (h y).mpr hy, sy⟩
  exact ⟨a, (h a).mp ha, b, (h b).mp hb, k⟩
theorem Grps.step {A : Nat → Nat → Bool} (s : Sym A) {ts : List Nat} {gs : List (List Nat)} (G : Grps A ts gs) (nd : ts.Nodup) {t : Nat} (ht : t ∉ ts) : Grps A (ts ++ [t]) (gstep A t gs) := by
  have hp : ((gs.filter fun g => near A t g).flatten ++ (gs.filter fun g => !near A t g).flatten).Perm gs.flatten := by
    rw [← List.flatten_append]
    exact flat_perm (List.filter_append_perm _ _)
  have hall : (t :: ((gs.filter fun g => near A t g).flatten ++ (gs.filter fun g => !near A t g).flatten)).Perm (ts ++ [t]) := ((hp.trans G.perm).cons t).trans (List.perm_append_singleton t ts).symm
  have nda : (ts ++ [t]).Nodup := by
    rw [List.nodup_append]
    exact ⟨nd, by simp, fun x hx y hy e => by rw [List.mem_singleton] at hy; exact ht (hy ▸ e ▸ hx)⟩
  have ndj : (t :: (gs.filter fun g => near A t g).flatten).Nodup := by
    have := hall.nodup_iff.mpr nda
    rw [← List.cons_append] at this
    exact (List.nodup_append.mp this).1
  have mj : ∀ x, x ∈ srt (t :: (gs.filter fun g => near A t g).flatten) ↔ x = t ∨ ∃ g ∈ gs, near A t g = true ∧ x ∈ g := fun x => by
    rw [(srt_perm _).mem_iff, List.mem_cons, List.mem_flatten]
    constructor
    · rintro (e | ⟨g, hg, hx⟩)
      · exact .inl e
      · obtain ⟨h1, h2⟩ := List.mem_filter.mp hg
        exact .inr ⟨g, h1, h2, hx⟩
    · rintro (e | ⟨g, h1, h2, hx⟩)
      · exact .inl e
      · exact .inr ⟨g, List.mem_filter.mpr ⟨h1, h2⟩, hx⟩
  refine ⟨?_, fun g hg => ?_, ?_, fun g hg => ?_⟩
  · unfold gstep
    rw [List.flatten_append, List.flatten_cons, List.flatten_nil, List.append_nil]
    refine List.Perm.trans (List.Perm.append_left _ (srt_perm _)) ?_
    refine List.Perm.trans List.perm_append_comm ?_
    rw [List.cons_append]
    exact hall
  · rcases List.mem_append.mp hg with h | h
    · exact G.asc g (List.mem_filter.mp h).1
    · rw [List.mem_singleton] at h
      subst h
      refine ⟨fun e => ?_, srt_strict ndj⟩
      have := (mj t).mpr (.inl rfl)
      rw [e] at this
      cases this
  · unfold gstep
    rw [List.pairwise_append]
    refine ⟨G.apart.filter _, by simp, fun g hg h hh x hx y hy => ?_⟩
    rw [List.mem_singleton] at hh
    subst hh
    obtain ⟨g1, g2⟩ := List.mem_filter.mp hg
    have g2 : near A t g = false := by simpa using g2
    rcases (mj y).mp hy with e | ⟨h', h1, h2, hy⟩
    · subst e
      rw [s]
      have := List.any_eq_false.mp g2 x hx
      simpa using this
    · have ne : g ≠ h' := fun e => by rw [e, h2] at g2; cases g2
      have key : ∀ l : List (List Nat), l.Pairwise (fun g h => ∀ x ∈ g, ∀ y ∈ h, A x y = false) → g ∈ l → h' ∈ l → A x y = false := by
        intro l
        induction l with
        | nil => intro _ a; cases a
        | cons a l ih =>
          intro p m1 m2
          rw [List.pairwise_cons] at p
          rcases List.mem_cons.mp m1 with e1 | m1 <;> rcases List.mem_cons.mp m2 with e2 | m2
          · exact absurd (e1.trans e2.symm) ne
          · exact p.1 _ m2 _ (e1 ▸ hx) _ hy
          · rw [s]
            exact p.1 _ m1 _ (e2 ▸ hy) _ hx
          · exact ih p.2 m1 m2
      exact key gs G.apart g1 h1
  · rcases List.mem_append.mp hg with h | h
    · exact G.con g (List.mem_filter.mp h).1
    · rw [List.mem_singleton] at h
      subst h
      intro S ⟨x, hx, sx⟩ ⟨y, hy, sy⟩
      -- a group is cut, or none is
      by_cases hc : ∃ g ∈ gs, near A t g = true ∧ (∃ x ∈ g, S x) ∧ ∃ y ∈ g, ¬ S y
      · obtain ⟨g, h1, h2, e1, e2⟩ := hc
        obtain ⟨a, ha, b, hb, k⟩ := G.con g h1 S e1 e2
        exact ⟨a, (mj a).mpr (.inr ⟨g, h1, h2, ha⟩), b, (mj b).mpr (.inr ⟨g, h1, h2, hb⟩), k⟩
      · have whole : ∀ g ∈ gs, near A t g = true → ∀ x ∈ g, ∀ y ∈ g, S x → S y := fun g h1 h2 x hx y hy sx => Classical.byContradiction fun z => hc ⟨g, h1, h2, ⟨x, hx, sx⟩, y, hy, z⟩
        have mt := (mj t).mpr (.inl rfl)
        by_cases st : S t
        · rcases (mj y).mp hy with e | ⟨g, h1, h2, hy'⟩
          · exact absurd (e ▸ st) sy
          · obtain ⟨z, hz, az⟩ := List.any_eq_true.mp h2
            exact ⟨t, mt, z, (mj z).mpr (.inr ⟨g, h1, h2, hz⟩), st, fun sz => sy (whole g h1 h2 z hz y hy' sz), az⟩
        · rcases (mj x).mp hx with e | ⟨g, h1, h2, hx'⟩
          · exact absurd (e ▸ sx) st
          · obtain ⟨z, hz, az⟩ := List.any_eq_true.mp h2
            exact ⟨z, (mj z).mpr (.inr ⟨g, h1, h2, hz⟩), t, mt, whole g h1 h2 x hx' z hz sx, st, by rw [s]; exact az⟩
theorem Grps.of_perm {A : Nat → Nat → Bool} (s : Sym A) {ts : List Nat} {gs hs : List (List Nat)} (G : Grps A ts gs) (p : hs.Perm gs) : Grps A ts hs :=
  ⟨(flat_perm p).trans G.perm, fun g hg => G.asc g (p.mem_iff.mp hg), (p.pairwise_iff (fun {a b} h x hx y hy => by rw [s]; exact h y hy x hx)).mpr G.apart, fun g hg => G.con g (p.mem_iff.mp hg)⟩
theorem Grps.one {A : Nat → Nat → Bool} {ts g : List Nat} (G : Grps A ts [g]) : Con A ts := (G.con g (by simp)).congr fun x => by
  have := G.perm.mem_iff (a := x)
  simpa using this
/-! ### the term -/
abbrev tie (R : Nat → Nat → Bool) (f : Bool) : Nat → Nat → Bool := fun x y => (R x y || R y x) == f
theorem tie_sym (R : Nat → Nat → Bool) (f : Bool) : Sym (tie R f) := fun x y => by simp only [tie, Bool.or_comm]
theorem tie_neg (R : Nat → Nat → Bool) : Neg (tie R true) = tie R false := by
  funext x y
  simp only [Neg, tie]
  cases R x y <;> cases R y x <;> rfl
structure Ordr (R : Nat → Nat → Bool) : Prop where
  irr : ∀ x, R x x = false
  trans : ∀ {x y z}, R x y = true → R y z = true → R x z = true
theorem Ordr.asy {R : Nat → Nat → Bool} (h : Ordr R) {x y : Nat} (e : R x y = true) : R y x = false := by
  cases q : R y x with
  | false => rfl
  | true => have := h.trans e q; rw [h.irr] at this; cases this
theorem nop4_of {R : Nat → Nat → Bool} (o : Ordr R) {ts : List Nat} (nf : ∀ a ∈ ts, ∀ b ∈ ts, ∀ c ∈ ts, ∀ d ∈ ts, ¬ InN R a b c d) : NoP4 (tie R true) ts := by
  intro a ha b hb c hc d hd h1 h2 h3 h4 h5 h6 _ _ _ _ _ _
  have t : ∀ {x y}, tie R true x y = true → R x y = true ∨ R y x = true := fun {x y} h => by
    simp only [tie] at h
    cases e : R x y
    · rw [e] at h; simp at h; exact .inr h
    · exact .inl rfl
  have f : ∀ {x y}, tie R true x y = false → R x y = false ∧ R y x = false := fun {x y} h => by
    simp only [tie] at h
    revert h
    cases R x y <;> cases R y x <;> decide
  have f4 := f h4
  have f5 := f h5
  have f6 := f h6
  have no : ∀ {x y : Nat}, R x y = true → R x y = false → False := fun h1 h2 => by rw [h1] at h2; cases h2
  rcases t h1 with ab | ba
  · rcases t h2 with bc | cb
    · exact no (o.trans ab bc) f4.1
    · rcases t h3 with cd | dc
      · exact nf a ha c hc b hb d hd ⟨ab, cb, cd, f4.1, f4.2, f6.1, f6.2, f5.1, f5.2⟩
      · exact no (o.trans dc cb) f5.2
  · rcases t h2 with bc | cb
    · rcases t h3 with cd | dc
      · exact no (o.trans bc cd) f5.1
      · exact nf d hd b hb c hc a ha ⟨dc, bc, ba, f5.2, f5.1, f6.2, f6.1, f4.2, f4.1⟩
    · exact no (o.trans cb ba) f4.2
/-- t is the normal term of R on the tasks ts -/
structure TOv (R : Nat → Nat → Bool) (ts : List Nat) (t : Trm) : Prop where
  ok : t.ok = true
  nrm : t.nrm
  perm : t.tasks.Perm ts
  ah : ∀ x ∈ ts, ∀ y ∈ ts, t.ah x y = R x y
theorem TOv.task {R : Nat → Nat → Bool} (o : Ordr R) (n : Nat) : TOv R [n] (.task n) := ⟨rfl, by simp [Trm.nrm], by simp [Trm.tasks], fun x hx y hy => by
  rw [List.mem_singleton] at hx hy
  subst hx hy
  rw [o.irr]
  simp [Trm.ah]⟩
theorem ok_tasks : ∀ {t : Trm}, t.ok = true → t.tasks ≠ []
  | .task _, _ => by simp [Trm.tasks]
  | .node b [], h => by simp [Trm.ok] at h
  | .node b (p :: ps), h => by
    simp only [Trm.ok, Trm.okL, Bool.and_eq_true] at h
    simp only [Trm.tasks, Trm.tasksL]
    intro z
    exact ok_tasks h.2.1 (List.append_eq_nil_iff.mp z).1
theorem TOv.word {R : Nat → Nat → Bool} {g : List Nat} {t : Trm} (T : TOv R g t) (nd : g.Nodup) {f : Bool} (c : Con (tie R f) g) : t.word ≠ some (!f) := by
  have nt : t.tasks.Nodup := T.perm.nodup_iff.mpr nd
  match t, T, nt with
  | .task n, _, _ => simp [Trm.word]
  | .node b [], T, _ => have := T.ok; simp [Trm.ok] at this
  | .node b [p], T, _ => have := T.ok; simp [Trm.ok] at this
  | .node b (p :: q :: ps), T, nt =>
    simp only [Trm.word, ne_eq, Option.some.injEq]
    intro eb
    have hok := T.ok
    simp only [Trm.ok, Trm.okL, Bool.and_eq_true] at hok
    have np := ok_tasks hok.2.1
    have nq := ok_tasks hok.2.2.1
    simp only [Trm.tasks] at nt
    have hm : ∀ x, x ∈ g ↔ x ∈ Trm.tasksL (p :: q :: ps) := fun x => by
      have := T.perm.mem_iff (a := x)
      simp only [Trm.tasks] at this
      exact this.symm
    obtain ⟨n1, n2, n3⟩ := Trm.nd_head nt
    obtain ⟨x0, hx0⟩ := List.exists_mem_of_ne_nil _ np
    obtain ⟨y0, hy0⟩ := List.exists_mem_of_ne_nil _ nq
    have hy1 : y0 ∈ Trm.tasksL (q :: ps) := by simp only [Trm.tasksL]; exact List.mem_append_left _ hy0
    obtain ⟨x, hx, y, hy, sx, sy, h⟩ := c (fun x => x ∈ p.tasks) ⟨x0, (hm x0).mpr (by simp only [Trm.tasksL]; exact List.mem_append_left _ hx0), hx0⟩ ⟨y0, (hm y0).mpr (by rw [Trm.tasksL]; exact List.mem_append_right _ hy1), fun z => n3 y0 z hy1⟩
    have hy2 : y ∈ Trm.tasksL (q :: ps) := by
      have := (hm y).mp hy
      rw [Trm.tasksL] at this
      exact (List.mem_append.mp this).resolve_left sy
    have e1 := T.ah x hx y hy
    have e2 := T.ah y hy x hx
    simp only [Trm.ah] at e1 e2
    rw [Trm.ahL_pq nt sx hy2] at e1
    rw [Trm.ahL_qp nt hy2 sx] at e2
    simp only [tie, ← e1, ← e2, eb] at h
    cases f <;> simp at h
/-- parts put together -/
theorem tov_join {R : Nat → Nat → Bool} (b : Bool) : ∀ {gs : List (List Nat)} {us : List Trm}, gs.length = us.length → (∀ (i : Nat) (g : List Nat) (u : Trm), gs[i]? = some g → us[i]? = some u → TOv R g u) → gs.flatten.Nodup → (gs.Pairwise fun g h => ∀ x ∈ g, ∀ y ∈ h, R x y = b ∧ R y x = false) →
    Trm.okL us = true ∧ (Trm.tasksL us).Perm gs.flatten ∧ ∀ x ∈ gs.flatten, ∀ y ∈ gs.flatten, Trm.ahL b us x y = R x y
  | [], [], _, _, _, _ => ⟨by simp [Trm.okL], by simp [Trm.tasksL], fun x hx => by simp at hx⟩
  | g :: gs, u :: us, hl, h, nd, hp => by
    rw [List.pairwise_cons] at hp
    rw [List.flatten_cons] at nd
    obtain ⟨n1, n2, n3⟩ := List.nodup_append.mp nd
    have T := h 0 g u rfl rfl
    obtain ⟨k1, k2, k3⟩ := tov_join b (gs := gs) (us := us) (by simpa using hl) (fun i g' u' h1 h2 => h (i + 1) g' u' (by simpa using h1) (by simpa using h2)) n2 hp.2
    have pm : (Trm.tasksL (u :: us)).Perm (g ++ gs.flatten) := by
      simp only [Trm.tasksL]
      exact T.perm.append k2
    have ndt : (Trm.tasksL (u :: us)).Nodup := pm.nodup_iff.mpr nd
    refine ⟨by simp [Trm.okL, T.ok, k1], by rw [List.flatten_cons]; exact pm, fun x hx y hy => ?_⟩
    rw [List.flatten_cons] at hx hy
    have flat : ∀ {z}, z ∈ gs.flatten → ∃ g' ∈ gs, z ∈ g' := fun hz => List.mem_flatten.mp hz
    rcases List.mem_append.mp hx with x1 | x1 <;> rcases List.mem_append.mp hy with y1 | y1
    · rw [Trm.ahL_pp ndt (T.perm.mem_iff.mpr x1) (T.perm.mem_iff.mpr y1)]
      exact T.ah x x1 y y1
    · rw [Trm.ahL_pq ndt (T.perm.mem_iff.mpr x1) (k2.mem_iff.mpr y1)]
      obtain ⟨g', hg', hy'⟩ := flat y1
      exact ((hp.1 g' hg') x x1 y hy').1.symm
    · rw [Trm.ahL_qp ndt (k2.mem_iff.mpr x1) (T.perm.mem_iff.mpr y1)]
      obtain ⟨g', hg', hx'⟩ := flat x1
      exact ((hp.1 g' hg') y y1 x hx').2.symm
    · rw [Trm.ahL_qq ndt (k2.mem_iff.mpr x1) (k2.mem_iff.mpr y1)]
      exact k3 x x1 y y1
theorem tov_node {R : Nat → Nat → Bool} (b : Bool) {ts : List Nat} {gs : List (List Nat)} {us : List Trm} (nd : ts.Nodup) (hp : gs.flatten.Perm ts) (h2 : 2 ≤ gs.length) (hl : gs.length = us.length) (h : ∀ (i : Nat) (g : List Nat) (u : Trm), gs[i]? = some g → us[i]? = some u → TOv R g u) (hc : ∀ g ∈ gs, Con (tie R (!b)) g)
    (hd : gs.Pairwise fun g h => ∀ x ∈ g, ∀ y ∈ h, R x y = b ∧ R y x = false) (ha : b = false → gs.Pairwise fun g h => ∃ x ∈ g, ∀ y ∈ h, x < y) : TOv R ts (.node b us) := by
  have ndf := hp.nodup_iff.mpr nd
  obtain ⟨k1, k2, k3⟩ := tov_join b hl h ndf hd
  have at_ : ∀ u ∈ us, ∃ i g, gs[i]? = some g ∧ us[i]? = some u := fun u hu => by
    obtain ⟨i, hi, e⟩ := List.getElem_of_mem hu
    exact ⟨i, gs[i]'(by omega), List.getElem?_eq_getElem _, by rw [List.getElem?_eq_getElem hi, e]⟩
  have ng : ∀ g ∈ gs, g.Nodup := fun g hg => (List.pairwise_flatten.mp ndf).1 g hg
  refine ⟨by simp [Trm.ok, k1, ← hl, h2], ?_, by simpa [Trm.tasks] using k2.trans hp, fun x hx y hy => ?_⟩
  · simp only [Trm.nrm]
    refine ⟨by omega, Trm.nrmL_mem.mpr fun u hu => ?_, fun eb => ?_⟩
    · obtain ⟨i, g, h1, h3⟩ := at_ u hu
      have hg := List.mem_of_getElem? h1
      have T := h i g u h1 h3
      refine ⟨T.nrm, ?_⟩
      have := T.word (ng g hg) (hc g hg)
      rwa [Bool.not_not] at this
    · unfold Trm.ascL
      rw [List.pairwise_iff_getElem]
      intro i j hi hj hij
      have q := List.pairwise_iff_getElem.mp (ha eb) i j (by omega) (by omega) hij
      obtain ⟨x, hx, hy⟩ := q
      have Ti := h i _ _ (List.getElem?_eq_getElem (by omega)) (List.getElem?_eq_getElem hi)
      have Tj := h j _ _ (List.getElem?_eq_getElem (by omega)) (List.getElem?_eq_getElem hj)
      have l1 := Trm.least_le (Ti.perm.mem_iff.mpr hx)
      have l2 := hy _ (Tj.perm.mem_iff.mp (Trm.least_mem (ok_tasks Tj.ok)))
      omega
  · simp only [Trm.ah]
    exact k3 x (hp.mem_iff.mpr hx) y (hp.mem_iff.mpr hy)
/-- groups tied to one another, in the order of how many tasks are ahead of their first ones -/
theorem keys_behind {R : Nat → Nat → Bool} (o : Ordr R) {ts : List Nat} {gs : List (List Nat)} (G : Grps (tie R false) ts gs) (hk : gs.Pairwise fun g h => ∀ x y, g.head? = some x → h.head? = some y → (ts.filter fun z => R z x).length ≤ (ts.filter fun z => R z y).length) :
    gs.Pairwise fun g h => ∀ x ∈ g, ∀ y ∈ h, R x y = true ∧ R y x = false := by
  refine List.Pairwise.imp_of_mem (fun {g h} hg hh ⟨hap, hk⟩ => ?_) (G.apart.and hk)
  have tied : ∀ {x y}, x ∈ g → y ∈ h → R x y = true ∨ R y x = true := fun {x y} hx hy => by
    have := hap x hx y hy
    simp only [tie] at this
    revert this
    cases R x y <;> cases R y x <;> decide
  have unt : ∀ {x y}, tie R false x y = true → R x y = true → False := fun {x y} h e => by
    simp only [tie, e] at h
    cases h
  obtain ⟨x0, ex⟩ : ∃ x0, g.head? = some x0 := by
    have := (G.asc g hg).1
    cases g with
    | nil => exact absurd rfl this
    | cons a l => exact ⟨a, rfl⟩
  obtain ⟨y0, ey⟩ : ∃ y0, h.head? = some y0 := by
    have := (G.asc h hh).1
    cases h with
    | nil => exact absurd rfl this
    | cons a l => exact ⟨a, rfl⟩
  have mx : x0 ∈ g := List.mem_of_mem_head? ex
  have my : y0 ∈ h := List.mem_of_mem_head? ey
  have tx : ∀ {g' z}, g' ∈ gs → z ∈ g' → z ∈ ts := fun hg' hz => G.perm.mem_iff.mp (List.mem_flatten.mpr ⟨_, hg', hz⟩)
  have base : R x0 y0 = true := by
    rcases tied mx my with e | e
    · exact e
    · exfalso
      have le := hk x0 y0 ex ey
      -- all ahead of y0 are ahead of x0, and y0 is
      have lt : (ts.filter fun z => R z y0).length < (ts.filter fun z => R z x0).length := by
        have key : ∀ l : List Nat, (l.filter fun z => R z y0).length + (if y0 ∈ l then 1 else 0) ≤ (l.filter fun z => R z x0).length := by
          intro l
          induction l with
          | nil => simp
          | cons a l ih =>
            by_cases h1 : R a y0 = true
            · have h2 := o.trans h1 e
              have na : y0 ≠ a := fun z => by rw [← z, o.irr] at h1; cases h1
              simp only [List.filter_cons, h1, h2, if_true, List.length_cons, List.mem_cons, na, false_or]
              omega
            · have h1 : R a y0 = false := by simpa using h1
              simp only [List.filter_cons, h1, Bool.false_eq_true, if_false, List.mem_cons]
              by_cases ea : y0 = a
              · subst ea
                simp only [e, if_true, List.length_cons, true_or]
                split at ih <;> omega
              · simp only [ea, false_or]
                cases R a x0 <;> simp <;> omega
        have := key ts
        rw [if_pos (tx hh my)] at this
        omega
      omega
  have all1 : ∀ x ∈ g, R x y0 = true := fun x hx => Classical.byContradiction fun z => by
    obtain ⟨a, ha, b, hb, s1, s2, t⟩ := G.con g hg (fun x => R x y0 = true) ⟨x0, mx, base⟩ ⟨x, hx, z⟩
    rcases tied hb my with e | e
    · exact s2 e
    · exact unt t (o.trans s1 e)
  intro x hx y hy
  have : R x y = true := Classical.byContradiction fun z => by
    obtain ⟨a, ha, b, hb, s1, s2, t⟩ := G.con h hh (fun y => R x y = true) ⟨y0, my, all1 x hx⟩ ⟨y, hy, z⟩
    rcases tied hx hb with e | e
    · exact s2 e
    · exact unt (by rw [tie_sym]; exact t) (o.trans e s1)
  exact ⟨this, o.asy this⟩
/-- no four in an N, and held together by ties: what does not tie cuts -/
theorem cut_of {R : Nat → Nat → Bool} (o : Ordr R) {ts : List Nat} (nd : ts.Nodup) (h2 : 2 ≤ ts.length) (nf : ∀ a ∈ ts, ∀ b ∈ ts, ∀ c ∈ ts, ∀ d ∈ ts, ¬ InN R a b c d) (c : Con (tie R true) ts) : ¬ Con (tie R false) ts := by
  rw [← tie_neg]
  exact p4_con (ts.length - 2) (tie_sym R true) (by omega) nd (nop4_of o nf) c
end Tmm
/-! ## Pd: sorted(xs, key=lambda x: ..), the lambda's names captured -/
namespace Lk
open PySem L2 PySem.Spec PyProof.Rows LamX
/-- the names of a lambda of one parameter -/
structure LamP (sc scope : Scope) (par : Str) : Prop where
  kind : scope.kind = .function
  plain : scope.isCoroutine = false
  whole : scope.isGenerator = false
  isPar : scope.names.lookup par = some .local
  nocell : ∀ y ∈ scope.names, y.2 ≠ .cell
  only : ∀ y, scope.names.lookup y = some .local → y = par
  caught : ∀ z ∈ scope.names, z.2 = .free → (sc.names.lookup z.1 = some .cell ∨ sc.names.lookup z.1 = some .free)
def lamPB (sc scope : Scope) (par : Str) : Bool :=
  decide (scope.kind = .function) && !scope.isCoroutine && !scope.isGenerator && decide (scope.names.lookup par = some .local)
    && (scope.names.all fun y => !decide (y.2 = .cell))
    && (scope.names.all fun y => !decide (y.2 = .local) || decide (y.1 = par))
    && (scope.names.all fun y => !decide (y.2 = .free) || (decide (sc.names.lookup y.1 = some .cell) || decide (sc.names.lookup y.1 = some .free)))
theorem lamP_by {sc scope : Scope} {par : Str} (h : lamPB sc scope par = true) : LamP sc scope par := by
  unfold lamPB at h
  rw [Bool.and_eq_true, Bool.and_eq_true, Bool.and_eq_true, Bool.and_eq_true, Bool.and_eq_true, Bool.and_eq_true] at h
  obtain ⟨⟨⟨⟨⟨⟨a1, a2⟩, a3⟩, a4⟩, a5⟩, a6⟩, a7⟩ := h
  have b5 := List.all_eq_true.mp a5
  have b6 := List.all_eq_true.mp a6
  have b7 := List.all_eq_true.mp a7
  refine ⟨of_decide_eq_true a1, by simpa using a2, by simpa using a3, of_decide_eq_true a4, fun y hy => ?_, fun y hy => ?_, fun y hy e => ?_⟩
  · simpa using b5 y hy
  · have := b6 _ (PySem.mem_of_lookup hy)
    simpa using this
  · have := b7 y hy
    simp only [e, decide_true, Bool.not_true, Bool.false_or, Bool.or_eq_true, decide_eq_true_eq] at this
    exact this
section
variable {X : Cx} {pins : List (Addr × Obj)} {σ : L2.St} {H : Hp} {s : Shared}
theorem LamP.cells {scope : Scope} {par : Str} (L : LamP X.env.scope scope par) (ok : X.Ok) : ∀ y ∈ scope.names, y.2 = .free → ∃ c, X.env.cells.lookup y.1 = some c :=
  fun y hy e => ok.has _ (L.caught y hy e)
/-- what is known of a lambda's object just made -/
structure Made (X : Cx) (pins : List (Addr × Obj)) (σ : L2.St) (T : List (Addr × Str)) (H : Hp) (params : Arguments) (body : Expr) (scope : Scope) (f c' : Addr) (pm ctv : Value) (H1 : Hp) (s' : Shared) : Prop where
  inv : Inv X pins σ H1 s'
  ext : ExtN H H1
  back : ∀ b, H1 b = none → H b = none
  tabs : Tabs T H1
  at_ : s'.heap.get? f = some (PySem.W.kla_obj "<lambda>" (X.env.qual ++ "<lambda>") params body scope (cloFrom X.env.cells scope.names []) pm c' ctv)
  out : H1 f = none
  fs : f ∉ X.fs
  code : H1 c' = some (CodeO c' (X.env.qual ++ "<lambda>"))
theorem lam_mk {T : List (Addr × Str)} {c P : Addr} {params : Arguments} {body : Expr} {scope : Scope} {pos : Pos} {E : Value → Shared → Prop} {Q : Value → Shared → Prop}
    (I : Inv X pins σ H s) (TB : TabB X.base X.mg c P) (hc : X.env.code = .ref c)
    (hm : (P, X.env.qual ++ "<lambda>") ∈ T) (only : ∀ p ∈ T, p.1 = P → p.2 = X.env.qual ++ "<lambda>") (t : Tabs T H)
    (hdef : defaultsOf params X.env = ([], []))
    (free : ∀ y ∈ scope.names, y.2 = .free → ∃ c, X.env.cells.lookup y.1 = some c)
    (k : ∀ (f c' : Addr) (pm ctv : Value) (H1 : Hp) (s' : Shared), s.heap.objs.size ≤ f → Made X pins σ T H params body scope f c' pm ctv H1 s' → Q (.ref f) s') :
    wpAny (model X.prog X.w) X.A (eval (.Lambda params body scope pos) X.env) Q E s := by
  obtain ⟨ps, tP, tr, known⟩ := t _ hm
  have oP : s.heap.get? P = some { cls := .none, data := .fields ps } := I.hok _ _ tP
  apply PySem.W.kla_eval hdef
  rcases found : codeAmong pos ps.toList with _ | cv
  · refine PySem.W.kla_makeFunction (c := c) (P := P) (ps := ps)
      (closure_ok free) I.ok.glob (I.mod.glob.keeps I.bk) hc
      (TB.code.keeps I.bk) oP tr found TB.gP (TB.bm.keeps I.bk) ?_
    intro c' ctv h' tk keep ge lt rec tab'
    obtain ⟨c2, oc, vs, tq, ec, r1, r2, r3⟩ := rec
    obtain rfl : c' = c2 := by cases ec; rfl
    have nf : H c' = none := I.hok.fresh ge
    have nPc : P ≠ c' := ne_of_none tP nf
    have le : s.heap.objs.size ≤ h'.objs.size := Nat.le_trans ge (Nat.le_of_lt lt)
    generalize hnew : (PySem.W.kla_obj "<lambda>" (X.env.qual ++ "<lambda>") params body scope (cloFrom X.env.cells scope.names []) ((X.mg "__name__").getD .none) c' ctv) = ob
    have J := inv_table (c := c') (q := X.env.qual ++ "<lambda>") (t' := tk) (h' := h'.push ob)
      (more := #[rawInt pos.line, rawInt pos.col, .ref c']) I tP
      (fun b o nb e => Heap.get?_push_of_some _ (keep b o nb e))
      (Heap.get?_push_of_some _ tab') ge
      ⟨oc, vs, tq, Heap.get?_push_of_some _ r1, r2, r3⟩
    have ex : ExtN H (upd (upd H P (.tbl (ps ++ #[rawInt pos.line, rawInt pos.col, .ref c']))) c' (CodeO c' (X.env.qual ++ "<lambda>"))) := by
      intro b o e nt
      have n1 : b ≠ c' := ne_of_none e nf
      have n2 : b ≠ P := fun z => by
        rw [z, tP] at e
        exact nt ps (Option.some.inj e).symm
      rw [upd_ne n1, upd_ne n2]
      exact e
    have fresh1 : h'.objs.size ≠ c' := Nat.ne_of_gt lt
    have fresh2 : h'.objs.size ≠ P := Nat.ne_of_gt (Nat.lt_of_lt_of_le (Heap.lt_size oP) le)
    refine k h'.objs.size c' ((X.mg "__name__").getD .none) ctv _ _ (Nat.le_trans ge (Nat.le_of_lt lt))
      { inv := J, ext := ex, back := fun b hb => ?_, tabs := fun p hp => ?_, at_ := ?_, out := ?_, fs := I.nofs le, code := upd_same }
    · by_cases n1 : b = c'
      · rw [n1, upd_same] at hb; cases hb
      · rw [upd_ne n1] at hb
        by_cases n2 : b = P
        · rw [n2, upd_same] at hb; cases hb
        · rwa [upd_ne n2] at hb
    · by_cases e : p.1 = P
      · rw [only p hp e, e]
        refine ⟨_, (upd_ne nPc).trans upd_same, ?_, fun p' w hw => ?_⟩
        · rw [Array.toList_append]
          exact PySem.TriplesOk_snoc _ _ _ _ tr
        · rw [Array.toList_append] at hw
          rcases among_app _ tr hw with z | z
          · obtain ⟨c3, q1, q2⟩ := known p' w z
            exact ⟨c3, q1, ex _ _ q2 codeO_ne⟩
          · exact ⟨c', z, upd_same⟩
      · obtain ⟨qs, a1, a2, a3⟩ := t p hp
        have n1 : p.1 ≠ c' := ne_of_none a1 nf
        refine ⟨qs, (upd_ne n1).trans ((upd_ne e).trans a1), a2, fun p' w hw => ?_⟩
        obtain ⟨c3, q1, q2⟩ := a3 p' w hw
        exact ⟨c3, q1, ex _ _ q2 codeO_ne⟩
    · subst hnew
      exact Heap.get?_push_size _ rfl
    · exact (upd_ne fresh1).trans ((upd_ne fresh2).trans (I.hok.fresh le))
  · obtain ⟨c', rfl, q⟩ := known pos cv found
    refine PySem.W.kla_makeFunctionHit (c := c) (P := P) (ps := ps)
      (closure_ok free) I.ok.glob (I.mod.glob.keeps I.bk) hc
      (TB.code.keeps I.bk) oP tr found (TB.bm.keeps I.bk) ?_
    intro ctv h' tk keep le
    refine k h'.objs.size c' ((X.mg "__name__").getD .none) ctv H _ le
      { inv := ?_, ext := ExtN.refl H, back := fun _ z => z, tabs := t, at_ := Heap.get?_push_size _ rfl, out := I.hok.fresh le, fs := I.nofs le, code := q }
    exact I.kept fun b o e => Heap.get?_push_of_some _ (keep b o e)
/-- the lambda's frame begins -/
theorem lam_begin {A : Around} {outer : List Env} {E : XK} {scope : Scope} {par : Str} {i : Nat} {v : V} {u : Value} {f c' : Addr} {h₁ : Heap} {tk : Nat}
    (I : Inv X pins σ H s) (L : LamP X.env.scope scope par) (nd : X.N.Nodup) (hi : X.N[i]? = some par) (r : RelV v u)
    (e0 : Env0 X.prog X.w X.K X.mg X.base A outer s H) (hd : A.handled = none)
    (ns : h₁.Ns s.heap.objs.size fun y => ([(par, u)] : List (Str × Value)).reverse.lookup y)
    (kp : ∀ b o, s.heap.get? b = some o → h₁.get? b = some o) :
    Inv (lamCx X A outer s H E scope f c') [] (σ.set i (some v)) H { s with heap := h₁, toks := tk } := by
  have cap : ∀ {y c}, (cloFrom X.env.cells scope.names []).lookup y = some c → X.env.cells.lookup y = some c := by
    intro y c e
    rcases cloFrom_mem (PySem.mem_of_lookup e) with z | ⟨z1, z2⟩
    · cases z
    · obtain ⟨c1, h1⟩ := L.cells I.ok _ z1 rfl
      have h1 : X.env.cells.lookup y = some c1 := h1
      have : c = c1 := by
        rw [z2, h1] <;> rfl
      rw [this]
      exact h1
  have has : ∀ {y}, scope.names.lookup y = some .free → ∃ c, (cloFrom X.env.cells scope.names []).lookup y = some c := fun {y} e => by
    have known : (y, NameKind.free) ∈ scope.names := PySem.mem_of_lookup e
    exact mem_lookup (cloFrom_has (acc := []) (cells := X.env.cells) known)
  have keepC : ∀ {c : Addr} {w : Option Value}, s.heap.IsCell c w → h₁.IsCell c w := fun {c w} ⟨o, ho, hd⟩ => ⟨o, kp _ _ ho, hd⟩
  have none_ex : ∀ b : Addr, b ∉ (lamCx X A outer s H E scope f c').ex := fun b z => by cases (show b ∈ ([] : List Addr) from z)
  have nocell : ∀ {y}, scope.names.lookup y ≠ some .cell := fun {y} e => absurd rfl (L.nocell _ (PySem.mem_of_lookup e))
  constructor
  · constructor
    · exact e0.mod
    · exact L.kind
    · rfl
    · rfl
    · exact Nat.le_refl _
    · exact fun y z c e1 e2 => I.ok.inj y z c (cap e1) (cap e2)
    · intro y hy
      rcases (show scope.names.lookup y = some .cell ∨ scope.names.lookup y = some .free from hy) with h | h
      · exact absurd h nocell
      · exact has h
    · intro y c z _
      cases (show false = true from z)
    · exact fun _ => hd
    · exact Around.frames_deeper e0.frames
    · exact .inr ⟨rfl, rfl⟩
    · exact fun b z => absurd z (none_ex b)
    · exact e0.bs
    · exact e0.bsz
    · exact fun b _ _ => none_ex b
    · exact fun b z => absurd z (none_ex b)
    · exact e0.funs
    · exact e0.frf
  · rfl
  · exact e0.bare
  · exact Un.kept kp
  · refine ⟨_, ns, fun j y w e1 e2 e3 => ?_⟩
    have e1 : X.N[j]? = some y := e1
    have e3 : Vis scope y := e3
    by_cases ey : y = par
    · have ej : i = j := (List.getElem?_inj (List.getElem?_eq_some_iff.mp hi).1 nd).mp (hi.trans (by rw [e1, ey]))
      have hl : i < σ.length := by rw [I.len]; exact (List.getElem?_eq_some_iff.mp hi).1
      rw [← ej, List.getElem?_set_self hl] at e2
      have ew : v = w := Option.some.inj (Option.some.inj e2)
      refine ⟨u, ew ▸ r, .inl ⟨?_, ?_⟩⟩
      · show scope.names.lookup y = some .local
        rw [ey]; exact L.isPar
      · rw [ey]; simp
    · rcases e3 with h | h | h
      · exact absurd (L.only y h) ey
      · exact absurd h nocell
      · have nj : i ≠ j := fun z => ey (by rw [z, e1] at hi; exact Option.some.inj hi)
        rw [List.getElem?_set_ne nj] at e2
        obtain ⟨m, _, hl⟩ := I.loc
        have vis : Vis X.env.scope y := by
          rcases L.caught _ (PySem.mem_of_lookup h) rfl with z | z
          · exact .inr (.inl z)
          · exact .inr (.inr z)
        obtain ⟨u', r', q⟩ := hl j y w e1 e2 vis
        obtain ⟨c2, h2⟩ := has h
        refine ⟨u', r', .inr ⟨.inr h, c2, h2, ?_⟩⟩
        have c1 := cap h2
        rcases q with ⟨z, _⟩ | ⟨_, c3, z1, z2⟩
        · have z : X.env.scope.names.lookup y = some .local := z
          rcases L.caught _ (PySem.mem_of_lookup h) rfl with z' | z' <;> (have z' : X.env.scope.names.lookup y = _ := z'; rw [z] at z'; cases z')
        · rw [c1] at z1
          cases z1
          exact keepC z2
  · intro y c e
    obtain ⟨w, z⟩ := I.cell y c (cap e)
    exact ⟨w, keepC z⟩
  · exact e0.hok.fresh (Nat.le_refl _)
  · exact fun y c e => I.freeC y c (cap e)
  · intro p hp
    cases (show p ∈ ([] : List (Addr × Obj)) ++ [] from hp)
  · exact e0.hok.kept kp
  · rw [List.length_set]; exact I.len
/-- the lambda is called -/
theorem lam_run {pl : List (Addr × Obj)} {A : Around} {k i : Nat} {par : Str} {params : Arguments} {body : Expr} {scope : Scope} {f c' : Addr} {pm ctv : Value} {v : V} {u : Value} {tb : TE} {Q : VK}
    (I : Inv X pl σ H s) (L : LamP X.env.scope scope par) (nd : X.N.Nodup) (hi : X.N[i]? = some par) (r : RelV v u)
    (hf : s.heap.get? f = some (PySem.W.kla_obj "<lambda>" (X.env.qual ++ "<lambda>") params body scope (cloFrom X.env.cells scope.names []) pm c' ctv)) (hc : H c' = some (CodeO c' (X.env.qual ++ "<lambda>")))
    (hb : bindArgs (PySem.W.kla_fn "<lambda>" (X.env.qual ++ "<lambda>") params body scope (cloFrom X.env.cells scope.names []) pm (.ref c') ctv) ⟨[u], []⟩ = pure [(par, u)])
    (e0 : Env0 X.prog X.w X.K X.mg X.base A X.stack s H) (hr : Room (k + 1) A)
    (hbody : PE (lamCx X A X.stack s H E0 scope f c') body tb) (ht : tb (σ.set i (some v)) H Q) :
    codeAny (model X.prog X.w) A (.call (.ref f) ⟨[u], []⟩) (CR (L2.CX X.prog X.w) X.stack X.prog X.w H s Q E0) s := by
  obtain ⟨⟨oc, vs, tq, o1, o2, o3⟩, _, _⟩ := I.hok c' _ hc
  refine PySem.W.kla_callFunE hr.depth hf rfl L.plain L.whole rfl ⟨c', oc, vs, tq, rfl, o1, o2, o3⟩ ?_
  rw [hb]
  refine wpAny_pure ?_
  refine wpAny_newFunctionEnv L.nocell ?_ (fun h₁ ns sb => ⟨I.nolimit.fresh _ sb, ?_⟩) L.kind
  · intro y hy
    rw [List.mem_singleton] at hy
    subst hy
    exact L.isPar
  · have kp : ∀ b o, s.heap.get? b = some o → h₁.get? b = some o := fun b o e => sb.extBut b o (Nat.ne_of_lt (Heap.lt_size e)) (Heap.get?_push_of_some _ e)
    have J := lam_begin (E := E0) (f := f) (c' := c') (tk := s.toks + ([(par, u)] : List (Str × Value)).length) I L nd hi r e0 hr.hd ns kp
    refine PySem.W.kla_codeExpr (wpAny_mono (hbody.run [] _ _ H Q J ht) (fun w s' hq => ?_) fun e s' hq => hq)
    obtain ⟨v1, H1, J1, r1, q1⟩ := hq
    exact ⟨v1, H1, J1.os, J1.bare, J1.base, J1.hok, r1, q1⟩
end
end Lk

namespace Pd
open PySem L2 PySem.Spec PyProof.Rows LamX Lk PySem.W
/-- the lambda over data tells an int of each item -/
def eSortLam (i : Nat) (fb : ED) (fa : ED) : AD := fun env N Q => fa env N fun r N1 => ∃ (rs : List D) (key : D → Int), r = .lst rs ∧ (∀ x ∈ rs, ∀ R : D → Nat → Prop, R (.int (key x)) N1 → fb (env.set i (.sh x)) N1 R) ∧ ∀ rs' : List D, rs'.Perm rs → rs'.Pairwise (fun x y => key x ≤ key y) → Q rs' N1
def slEnd (i : Nat) (fb : ED) (env : PEnv) (R : List D → Nat → Prop) : List D → Nat → Prop := fun ds N1 => match ds with
  | [r] => ∃ (rs : List D) (key : D → Int), r = .lst rs ∧ (∀ x ∈ rs, ∀ R : D → Nat → Prop, R (.int (key x)) N1 → fb (env.set i (.sh x)) N1 R) ∧ ∀ rs' : List D, rs'.Perm rs → rs'.Pairwise (fun x y => key x ≤ key y) → R rs' N1
  | _ => False
section
variable {X : Cx} {C : Cn} {e : Expr} {pos p p3 lpos : Pos} {fa fb : ED} {k i : Nat} {par : Str} {c P : Addr} {params : Arguments} {body : Expr} {scope : Scope}
theorem sortlam_call {pins : List (Addr × Obj)} {s : Shared} {σ : L2.St} {env : PEnv} {H Hs H0 : Hp} {N : Nat} {xs : List V} {us : List Value} {f c' : Addr} {pm ctv : Value} {rs : List D} {key : D → Int} {Q : VK} {R0 : List D → Prop}
    (hr : Room (k + 3) X.A) (r : Rep X.K X.mg C env σ H Hs N) (M : Made X pins σ C.w.T H0 params body scope f c' pm ctv H s)
    (L : LamP X.env.scope scope par) (nd : X.N.Nodup) (hi : X.N[i]? = some par)
    (hb : ∀ (q : Str) (cl : List (Str × Addr)) (pm cv ctv u : Value), bindArgs (PySem.W.kla_fn "<lambda>" q params body scope cl pm cv ctv) ⟨[u], []⟩ = pure [(par, u)])
    (hbody : ∀ (A : Around) (s : Shared) (H : Hp) (f c' : Addr), A.guards = some [] → Room k (A.deeper (lamEnv X scope s.heap.objs.size f c')) → PEd (lamCx X A X.stack s H E0 scope f c') C body fb)
    (hG : X.A.in1.in1.guards = some []) (rv : Vals xs us) (ha : BvA X.K X.mg C.w H Hs xs [.lst rs])
    (hF : ∀ x ∈ rs, ∀ R : D → Nat → Prop, R (.int (key x)) N → fb (env.set i (.sh x)) N R)
    (hR : ∀ rs' : List D, rs'.Perm rs → rs'.Pairwise (fun x y => key x ≤ key y) → R0 rs')
    (out : ∀ ys, R0 ys → ∀ q vs H' Hs', Go C.w H Hs H' Hs' → Ms C.w H' N → Own C.w H' Hs' q vs → H q = none → DvA X.K X.mg C.w Hs' vs ys → Q (.ref q) H') :
    wpAny (model X.prog X.w) X.A (call (.builtin "sorted") us [(Str.ofString "key", .ref f)]) (EP X pins σ Q) X.xe s := by
  have I := M.inv
  have I1 : Inv X (pins ++ [(f, PySem.W.kla_obj "<lambda>" (X.env.qual ++ "<lambda>") params body scope (cloFrom X.env.cells scope.names []) pm c' ctv)]) σ H s := I.pins_of fun q hq => by
    rcases List.mem_append.mp hq with h | h
    · exact I.pin q (List.mem_append_right _ h)
    · rw [List.mem_singleton] at h
      subst h
      refine ⟨M.at_, M.out, fun z => ?_, M.fs, fun v z => by cases z⟩
      obtain ⟨m, ⟨o, es, ep, ho, hd, _⟩, _⟩ := I.loc
      have z : f = X.env.locals := z
      rw [← z, M.at_] at ho
      cases ho
      cases hd
  obtain ⟨v, rfl, b1⟩ := ha.one
  obtain ⟨a, vs, rfl, hl, hda⟩ := b1.list r.s
  rw [Vals.ref1 rv]
  obtain ⟨its, hv, hpl, hz⟩ := I.list (SqL.of hl)
  have hlen : vs.length = rs.length := hda.len
  have hil : i < env.length := by rw [r.len, I.len]; exact (List.getElem?_eq_some_iff.mp hi).1
  have cnd : c' ≠ C.w.d := fun z => by
    obtain ⟨⟨cs, gs, n, h1, _⟩, _⟩ := r.m
    have := M.code
    rw [z, h1] at this
    unfold CodeO at this
    cases this
  have cng : c' ≠ C.w.g := fun z => by
    obtain ⟨⟨cs, gs, n, _, _, h3, _⟩, _⟩ := r.m
    have := M.code
    rw [z, h3] at this
    unfold CodeO at this
    cases this
  refine wpAny_mono (Sk.sortkey_run (β := V × D) (R := fun v b => RelV b.1 v) (key := fun b => key b.2) (bs := vs.zip rs) (Pj := fun _ H' => ∃ Hs', Go C.w H Hs H' Hs' ∧ Ms C.w H' N) (Q := Q) I1 hpl.isList (by rw [← hv.length]; exact hz) (each_zip hv hlen) (by have := hr.un; omega) (fun x => ksk_t1 f x)
    ⟨Hs, Go.refl r.s, r.m⟩ ?_ ?_) (fun v s' ⟨w, H', J, q⟩ => ⟨w, H', Sk.unwatch J, q⟩) fun _ _ z => z
  · rintro j v' b pl s' H' hsub hbj hR' I' ⟨Hs', g1, m1⟩
    have hmem := List.mem_of_getElem? hbj
    have hdv := Dv.same g1.sh _ _ (dva_zip hda b hmem)
    have hmr : b.2 ∈ rs := (List.of_mem_zip (a := b.1) (b := b.2) hmem).2
    have hf' := (I'.pin (f, _) (List.mem_append_right _ (hsub _ (List.mem_append_right _ (List.mem_singleton.mpr rfl))))).1
    have hco := g1.keep c' _ cnd cng (fun ps z => codeO_ne ps z) M.code
    have r2 := (r.move g1 m1).set i hil hdv
    have hr2 : Room (k + 1) X.A.in1.in1 := Room.in1 (Room.in1 hr)
    have q := lam_run (k := k) (Q := fun u H'' => u = .int (key b.2) ∧ ∃ Hs'', Go C.w H Hs H'' Hs'' ∧ Ms C.w H'' N) I' L nd hi hR' hf' hco (hb _ _ _ _ _ _) I'.env0.in1.in1 hr2 ((hbody _ _ _ _ _ hG (hr2.deeper _)).pe)
      ⟨env.set i (.sh b.2), Hs', N, fun d n => d = .int (key b.2) ∧ n = N, r2, hF _ hmr _ ⟨rfl, rfl⟩, fun d n ⟨ed, en⟩ u H'' Hs'' g2 m2 d2 => by
        subst ed en
        exact ⟨by cases d2; rfl, Hs'', g1.trans g2, m2⟩⟩
    refine wpAny_call (codeAny_mono q fun rr s'' hq => ?_)
    match rr, hq with
    | .error _, z =>
      obtain ⟨_, _, _, _, _, _, _, _, _, _, _, _, z⟩ := z
      exact z.elim
    | .ok (.ret u), z =>
      obtain ⟨v2, H2, J2, r2, e2, P2⟩ := I'.after z
      subst e2
      obtain ⟨t, rfl⟩ := r2
      exact ⟨H2, t, J2, rfl, P2⟩
    | .ok .next, z => exact z.elim
    | .ok .brk, z => exact z.elim
    | .ok .cont, z => exact z.elim
  · rintro out' q H' ⟨Hs', g1, m1⟩ hn hn' he
    have hp := List.mergeSort_perm (vs.zip rs) fun x y => decide (key x.2 ≤ key y.2)
    have hs := sorted_keys (fun b : V × D => key b.2) (vs.zip rs)
    generalize (vs.zip rs).mergeSort (fun x y => decide (key x.2 ≤ key y.2)) = bs' at hp hs he
    have hsnd : ((vs.zip rs).map (·.2)) = rs := List.map_snd_zip (Nat.le_of_eq hlen.symm)
    have hd2 := dva_of (bs := bs') fun b hb => dva_zip hda b (hp.mem_iff.mp hb)
    refine ⟨bs'.map (·.1), by rw [List.length_map, hp.length_eq, List.length_zip]; exact Nat.le_trans (Nat.min_le_left _ _) hz, vals_each he, ?_⟩
    refine out (bs'.map (·.2)) (hR _ (by rw [← hsnd]; exact hp.map _) (List.pairwise_map.mpr hs)) q _ _ Hs' (g1.trans (Go.own1 g1.sub hn')) (m1.new hn') (Own.mk_new m1 g1.sub hn') hn (DvA.same g1.sh _ _ hd2)
theorem go_made {pins : List (Addr × Obj)} {σ : L2.St} {w : Dr} {H Hs H1 : Hp} {N : Nat} {f c' : Addr} {pm ctv : Value} {s' : Shared} (s0 : Same Hs H) (m : Ms w H N) (hg : OutT w Hs) (M : Made X pins σ w.T H params body scope f c' pm ctv H1 s') : Go w H Hs H1 Hs ∧ Ms w H1 N := by
  refine ⟨⟨fun b o _ _ hn e => M.ext b o e hn, fun b hb hz => hb (M.back b hz), Same.refl _, fun b o e => M.ext b o (s0 b o e) fun ps z => hg.2 b ps (z ▸ e), fun _ _ e => e, fun _ _ e => e⟩, ?_⟩
  obtain ⟨⟨cs, gs, n, h1, h2, h3, h4⟩, t⟩ := m
  exact ⟨⟨cs, gs, n, M.ext _ _ h1 (fun _ z => by cases z), M.ext _ _ h2 (fun _ z => by cases z), M.ext _ _ h3 (fun _ z => by cases z), h4⟩, M.tabs, t.2⟩
theorem pf_sortLam (hG : X.A.guards = some []) (hr : Room (k + 3) X.A) (hgs : Gl X "sorted") (hms : X.mg "sorted" = none) (h : PEb X C e fa)
    (TB : TabB X.base X.mg c P) (hc : X.env.code = .ref c) (hm : (P, X.env.qual ++ "<lambda>") ∈ C.w.T) (only : ∀ q ∈ C.w.T, q.1 = P → q.2 = X.env.qual ++ "<lambda>")
    (L : LamP X.env.scope scope par) (nd : X.N.Nodup) (hi : X.N[i]? = some par) (hdef : defaultsOf params X.env = ([], []))
    (hb : ∀ (q : Str) (cl : List (Str × Addr)) (pm cv ctv u : Value), bindArgs (PySem.W.kla_fn "<lambda>" q params body scope cl pm cv ctv) ⟨[u], []⟩ = pure [(par, u)])
    (hbody : ∀ (A : Around) (s : Shared) (H : Hp) (f c' : Addr), A.guards = some [] → Room k (A.deeper (lamEnv X scope s.heap.objs.size f c')) → PEd (lamCx X A X.stack s H E0 scope f c') C body fb)
    (he : backTo pos (starEach [e] X.env) = (false, eval e X.env) :: backTo pos (starEach [] X.env) := by rfl) (hpl : (backTo pos (starEach [e] X.env)).any (·.1) = false := by rfl)
    (na : starEach [e] X.env = (false, eval e X.env) :: starEach [] X.env := by rfl)
    (hall : (backToKw pos (keywordEach [⟨some "key", .Lambda params body scope lpos, p3⟩] X.env)).all (·.1.isSome) = true := by rfl) (hnone : (backToKw pos (keywordEach [⟨some "key", .Lambda params body scope lpos, p3⟩] X.env)).any (·.1.isNone) = false := by rfl) (hks : (backToKw pos (keywordEach [⟨some "key", .Lambda params body scope lpos, p3⟩] X.env)).filterMap (·.1) = [Str.ofString "key"] := by rfl) :
    PEf X C (.Call (.Name "sorted" p) [e] [⟨some "key", .Lambda params body scope lpos, p3⟩] pos) (eSortLam i fb fa) := by
  refine ⟨⟨fun pins s σ H Q I ⟨env, Hs, N, R, r, hf, kk⟩ => ?_⟩⟩
  refine wpAny_Call_Name_kw (ld_blt I hgs hms boot_sorted ?_ (by decide) (by decide))
  refine PyProof.Rows.callWith_kw (thn ((pab_cons h pab_nil na).pa.run pos pins s σ H (fun vs H1 => ∃ (Hs1 : Hp) (N1 : Nat) (rs : List D) (key : D → Int), Go C.w H Hs H1 Hs1 ∧ Ms C.w H1 N1 ∧ BvA X.K X.mg C.w H1 Hs1 vs [.lst rs] ∧ (∀ x ∈ rs, ∀ R : D → Nat → Prop, R (.int (key x)) N1 → fb (env.set i (.sh x)) N1 R) ∧
      ∀ rs' : List D, rs'.Perm rs → rs'.Pairwise (fun x y => key x ≤ key y) → R rs' N1) I
    ⟨env, Hs, N, slEnd i fb env R, r, hf, ?_⟩) fun us s1 ⟨vs, H1, I1, r1, ⟨Hs1, N1, rs, key, g1, m1, b1, hF, hR⟩⟩ => ?_) he hpl hall hnone
  · intro ds N1 h1 vs H1 Hs1 g1 m1 b1
    match ds, h1, b1 with
    | [_], ⟨rs, key, rfl, hF, hR⟩, b1 => exact ⟨Hs1, N1, rs, key, g1, m1, b1, hF, hR⟩
  · have rp := r.move g1 m1
    show wpAny _ _ (evalAll [(do let v ← eval (.Lambda params body scope lpos) X.env; standAt pos; pure v)]) _ _ s1
    refine wpAny_evalAll_cons (wpAny_bind (lam_mk I1 TB hc hm only m1.2.1 hdef (L.cells I1.ok) fun f c' pm ctv H2 s2 _ M => wpAny_bind (wpAny_standAt (wpAny_pure ?_))))
    obtain ⟨g2, m2⟩ := go_made g1.sub m1 rp.hg M
    rw [hks]
    refine wpAny_pure ?_
    exact sortlam_call hr (rp.move g2 m2) M L nd hi hb hbody hG r1 (b1.go g2) hF hR fun ys hy q vs' H' Hs' g3 m3 o3 hq d3 => kk ys N1 hy q vs' H' Hs' (g1.trans (g2.trans g3)) m3 o3 (by
      cases z : H q with
      | none => rfl
      | some u => exact absurd hq ((g1.trans g2).there q (by rw [z]; exact fun z => by cases z))) d3
end
end Pd
/-! ## Pd: a def that makes lambdas: its code object is known -/
namespace Rd
open PySem L2 PySem.Spec PyProof.Rows
/-- a def of the text whose code object is at c -/
structure FunC (K : PySem.W.Frag) (x qual : Str) (st : Stmt) (f : Addr) (fd : FuncData) (c : Addr) : Prop where
  ex : ∃ (oc : Value) (od : Option Addr) (kV doc pm : Value) (an : Option Addr) (ct : Value) (osl : Array (Option Value)),
    fd = PySem.W.fnOf x qual (defArgs st) (defBody st) (defScope st) .none kV doc pm an (.ref c) ct ∧ K.lookup f = some ⟨oc, od, .func fd, osl⟩ ∧ PySem.W.codeIn K (.ref c) qual = true
  kp : PySem.W.keepIn K (.ref f) = true
theorem funC_mk {K : PySem.W.Frag} {x qual : Str} {st : Stmt} {f c : Addr} {oc : Value} {od an : Option Addr} {osl : Array (Option Value)} {kV doc pm cdv ct : Value} (e : cdv = .ref c)
    (l : K.lookup f = some ⟨oc, od, .func (PySem.W.fnOf x qual (defArgs st) (defBody st) (defScope st) .none kV doc pm an cdv ct), osl⟩)
    (h : PySem.W.codeIn K cdv qual = true) (k : PySem.W.keepIn K (.ref f) = true) :
    FunC K x qual st f (PySem.W.fnOf x qual (defArgs st) (defBody st) (defScope st) .none kV doc pm an cdv ct) c := by
  subst e
  exact ⟨⟨oc, od, kV, doc, pm, an, ct, osl, rfl, l, h⟩, k⟩
theorem FunC.toFun {K : PySem.W.Frag} {x qual : Str} {st : Stmt} {f c : Addr} {fd : FuncData} (F : FunC K x qual st f fd c) : Fun K x qual st f fd := by
  obtain ⟨oc, od, kV, doc, pm, an, ct, osl, h1, h2, h3⟩ := F.ex
  exact ⟨⟨oc, od, kV, doc, pm, an, .ref c, ct, osl, h1, h2, h3⟩, F.kp⟩
theorem FunC.binds {K : PySem.W.Frag} {x qual : Str} {st : Stmt} {f c : Addr} {fd : FuncData} {ps : List Str} (F : FunC K x qual st f fd c)
    (h : ∀ (kV doc pm : Value) (an : Option Addr) (cdv ct : Value) (us : List Value), us.length = ps.length → bindArgs (PySem.W.fnOf x qual (defArgs st) (defBody st) (defScope st) .none kV doc pm an cdv ct) ⟨us, []⟩ = pure (ps.zip us)) : Binds K fd ps [] := F.toFun.binds h
theorem okGC {P : Program} {w : World} {K : PySem.W.Frag} {mg : Str → Option Value} {base : Heap} {nm qual : Str} {st : Stmt} {f c : Addr} {fd : FuncData} {N ps : List Str} {k : Nat} {sp : Sp} (F : FunC K nm qual st f fd c) (S : FnScope N ps (defScope st))
    (len : ∀ vs H Q E, sp vs H Q E → vs.length = ps.length)
    (body : ∀ (A : Around) (outer : List Env) (s : Shared) (H : Hp) (vs : List V) (Q : VK) (E : XK), A.guards = some [] → Room k (A.deeper (envOfC qual (defScope st) s.heap.objs.size f (.ref c))) → sp vs H Q E →
      ∃ t, PSs (cxOf CX0 P w K mg base N qual (defScope st) f (.ref c) A outer s H E).nox (defBody st) t ∧ t { nx := fun _ H' => Q .non H', rt := Q } (start N vs) H) : FnOkG P w K mg base CX0 (k + 1) f fd ps sp := by
  obtain ⟨oc, od, kV, doc, pm, an, ct, osl, rfl, lk, hcd⟩ := F.ex
  refine ⟨len, fun A outer s H args us vs Q E hG hr e0 hb r hsp => ?_⟩
  have KX : K.In s.heap := e0.mod.kin.keeps fun b o e => (e0.bs b o e).1
  have places : ∀ y ∈ ps.zip us, (defScope st).names.lookup y.1 = some .local ∨ ((defScope st).names.lookup y.1 = some .cell ∧ ((cellsFrom (s.heap.objs.size + 1) (defScope st).names []).lookup y.1).isSome = true) := fun y hy =>
    (S.par y.1 (List.of_mem_zip hy).1).imp id fun q => ⟨q, PySem.W.cellsFrom_some _ _ _ (.inl q)⟩
  refine codeAny_call_function hr.depth (KX _ _ lk) rfl S.co S.gen rfl (PySem.W.codeRec_of KX hcd) (hb _ _ _ _ (wpAny_newFunctionEnv_cells S.kind places fun env he s1 x => ?_))
  subst he
  refine ⟨(e0.mod.nolimit.keeps fun b o e => (e0.bs b o e).1).keeps x.toInCall.keep, codeAny_func ?_⟩
  obtain ⟨t, ht, hq⟩ := body A outer s H vs Q E hG (hr.deeper _) hsp
  refine wpAny_mono (ht.nox.run [] s1 (start N vs) H _ (inv_start S hr.hd e0 (len _ _ _ _ hsp) r x) hq) (fun fl s' hs => ?_) fun e s' hs => hs
  match fl, hs with
  | .ret u, ⟨v, σ', H', J, rv, q⟩ => exact ⟨v, H', J.os, J.bare, J.base, J.hok, rv, q⟩
  | .next, ⟨σ', H', J, q⟩ => exact ⟨.non, H', J.os, J.bare, J.base, J.hok, rfl, q⟩
  | .brk, ⟨_, _, _, q⟩ => exact q.elim
  | .cont, ⟨_, _, _, q⟩ => exact q.elim
end Rd
namespace Pd
open PySem L2 PySem.Spec PyProof.Rows
/-- okD for a def that makes lambdas -/
theorem okDC {T : LTabs} {P : Program} {w : World} {K : PySem.W.Frag} {mg : Str → Option Value} {base : Heap} {nm qual : Str} {st : Stmt} {f c : Addr} {fd : FuncData} {N ps : List Str} {k : Nat} {F : FD} (Fu : Rd.FunC K nm qual st f fd c) (S : FnScope N ps (defScope st))
    (body : ∀ (A : Around) (outer : List Env) (s : Shared) (H : Hp) (E : XK) (C : Cn), C.w.T = T → A.guards = some [] → Room k (A.deeper (envOfC qual (defScope st) s.heap.objs.size f (.ref c))) →
      ∃ g, PSsd (cxOf CX0 P w K mg base N qual (defScope st) f (.ref c) A outer s H E).nox C (defBody st) g ∧ ∀ ds M R, ds.length = ps.length → F ds M R → g (env0 N.length ds) M { nx := fun _ n => R .non n, rt := R }) :
    Rd.FnOkG P w K mg base CX0 (k + 1) f fd ps (spD T K mg ps.length F) :=
  Rd.okGC Fu S (fun vs H Q E ⟨_, _, _, _, _, _, hl, _⟩ => hl) fun A outer s H vs Q E hG hr ⟨dr, Hs, M, ds, R, hT, hl, s0, m, hd, hg, da, hF, kk⟩ => by
    obtain ⟨g, hp, hgo⟩ := body A outer s H E ⟨dr, H, Hs, 0⟩ hT hG hr
    refine ⟨_, hp.ps, env0 N.length ds, Hs, M, _, Hs, Rep.start s0 m hd hg da, Same.refl _, hgo ds M R (by rw [← da.len]; exact hl) hF, ⟨fun env' n σ' H' Hs' r' _ hn => ?_, fun q n v H' Hs' g' m' d' hr' => kk _ _ hr' _ _ _ g' m' d', fun _ _ _ _ _ _ _ z => z.elim, fun _ _ _ _ _ _ _ z => z.elim⟩⟩
    exact kk _ _ hn _ _ _ r'.go r'.m .non
end Pd
/-! ## Pd: lists of lists sorted -/
namespace Pd
open PySem PySem.Spec PyProof.Rows L2 Tmm PySem.W
def encL (b : V × List Nat) : PyData := .list (b.2.map fun n : Nat => .int (n : Int))
/-- sorted: lists of numbers, the one that comes first not behind -/
def lLe (xs ys : List Nat) : Prop := ∀ x y, xs.head? = some x → ys.head? = some y → x ≤ y
def oSortL : OF
  | [.lst xs], P => ∃ xss : List (List Nat), xs = xss.map nsD ∧ ∀ yss : List (List Nat), yss.Perm xss → yss.Pairwise lLe → P (yss.map nsD)
  | _, _ => False
theorem dataLt_heads {x y : Int} {xs ys : List PyData} (h : x < y) : dataLt (.list (.int x :: xs)) (.list (.int y :: ys)) = true := by
  rw [dataLt_list, dataLt_cons (by simp [alike])]
  have e : PyData.eqv (.int x) (.int y) = false := by
    simp [PyData.eqv]
    omega
  rw [e, if_neg Bool.false_ne_true, dataLt_int]
  exact decide_eq_true h
theorem depthAll_ints : ∀ ns : List Nat, PyData.depthAll (ns.map fun n : Nat => PyData.int (n : Int)) ≤ 1
  | [] => by simp [PyData.depthAll]
  | n :: ns => by
    have := depthAll_ints ns
    simp only [List.map_cons, PyData.depthAll, PyData.depth]
    omega
theorem depth_ints (ns : List Nat) : (PyData.list (ns.map fun n : Nat => PyData.int (n : Int))).depth ≤ 2 := by
  have := depthAll_ints ns
  simp only [PyData.depth]
  omega
/-- sorted by dataLe: pairwise -/
theorem sorted_le {β : Type} (enc : β → PyData) (bs : List β) (hl : ∀ b, ∃ xs, enc b = .list xs) : (bs.mergeSort (dataLe false enc)).Pairwise fun a b => dataLt (enc b) (enc a) = false := by
  have tot : ∀ a b : β, dataLt (enc b) (enc a) = false ∨ dataLt (enc a) (enc b) = false := fun a b => by
    obtain ⟨xs, e1⟩ := hl a
    obtain ⟨ys, e2⟩ := hl b
    rw [e1, e2, dataLt_list, dataLt_list]
    cases q1 : PyProof.Rows.lexLt itemOrd (keyToksAll ys) (keyToksAll xs) with
    | false => exact .inl rfl
    | true =>
      cases q2 : PyProof.Rows.lexLt itemOrd (keyToksAll xs) (keyToksAll ys) with
      | false => exact .inr rfl
      | true =>
        have := PyProof.Rows.lex_trans _ _ _ q1 q2
        rw [PyProof.Rows.lex_irrefl] at this
        cases this
  have tr : ∀ a b c : β, dataLt (enc b) (enc a) = false → dataLt (enc c) (enc b) = false → dataLt (enc c) (enc a) = false := fun a b c h1 h2 => by
    obtain ⟨xs, e1⟩ := hl a
    obtain ⟨ys, e2⟩ := hl b
    obtain ⟨zs, e3⟩ := hl c
    rw [e1, e2, dataLt_list] at h1
    rw [e2, e3, dataLt_list] at h2
    rw [e1, e3, dataLt_list]
    cases q : PyProof.Rows.lexLt itemOrd (keyToksAll zs) (keyToksAll xs) with
    | false => rfl
    | true =>
      cases q2 : PyProof.Rows.lexLt itemOrd (keyToksAll xs) (keyToksAll ys) with
      | true =>
        have := PyProof.Rows.lex_trans _ _ _ q q2
        rw [h2] at this
        cases this
      | false =>
        have e := PyProof.Rows.lex_total _ _ h1 q2
        rw [← e, h2] at q
        cases q
  have h := List.pairwise_mergeSort (le := dataLe false enc) (fun a b c h1 h2 => by
    simp only [dataLe_eq, cond_false, Bool.not_eq_true'] at h1 h2 ⊢
    exact tr a b c h1 h2) (fun a b => by
    simp only [dataLe_eq, cond_false, Bool.or_eq_true, Bool.not_eq_true']
    exact tot a b) bs
  exact h.imp fun {a b} h => by simpa only [dataLe_eq, cond_false, Bool.not_eq_true'] using h
theorem nats_of_dva {K : PySem.W.Frag} {mg : Str → Option Value} {w : Dr} {H : Hp} : ∀ {vs : List V} {ns : List Nat}, DvA K mg w H vs (ns.map nD) → vs = ns.map fun n : Nat => V.int (n : Int)
  | _, [], .nil => rfl
  | _, n :: ns, .cons h t => by
    cases h
    rw [nats_of_dva t]
    rfl
theorem reads_ints (h : Heap) : ∀ {ns : List Nat} {us : List Value}, Vals (ns.map fun n : Nat => V.int (n : Int)) us → ∃ as, ReadsAll h us (ns.map fun n : Nat => PyData.int (n : Int)) as
  | [], _, .nil => ⟨_, .nil⟩
  | n :: ns, _, .cons r t => by
    obtain ⟨as, q⟩ := reads_ints h t
    obtain ⟨tk, rfl⟩ := r
    exact ⟨_, .cons (.int _ _) q⟩
theorem cf_sortL {X : Cx} {w : Dr} (hu : X.A.units + 10 < cLine) : CallF X w (.builtin "sorted") oSortL := by
  intro pins s σ H xs us Q I rv ⟨Hs, N, rs, P, s0, m, ha, ho, out⟩
  match rs, ho with
  | [.lst ys], ⟨xss, eps, hP⟩ =>
    subst eps
    obtain ⟨v, rfl, b1⟩ := ha.one
    obtain ⟨a, vs, rfl, hl, hda⟩ := b1.list s0
    rw [Vals.ref1 rv]
    obtain ⟨its, hv, hpl, hz⟩ := I.list (SqL.of hl)
    have hlen : vs.length = xss.length := by rw [hda.len, List.length_map]
    have each : ∀ {us : List Value} {vs : List V} {xss : List (List Nat)}, Vals vs us → DvA X.K X.mg w Hs vs (xss.map nsD) → EachIs (fun (v : Value) (b : V × List Nat) => RelV b.1 v ∧ Dv X.K X.mg w Hs b.1 (nsD b.2)) us (vs.zip xss) := by
      intro us vs xss h
      induction h generalizing xss with
      | nil => intro _; exact .nil
      | cons r _ ih =>
        intro hd
        cases xss with
        | nil => cases hd
        | cons x xss =>
          cases hd with
          | cons h1 h2 => exact .cons ⟨r, h1⟩ (ih h2)
    have e := each hv hda
    have er : EachIs (fun v b => ∃ as, Reads s.heap v (encL b) as) its (vs.zip xss) := e.mono fun v b ⟨r, d⟩ => by
      obtain ⟨bv, bn⟩ := b
      cases d with
      | @lst a' xs' _ q1 q2 =>
        obtain ⟨its', hv', hpl', hz'⟩ := I.list (SqL.of (s0 _ _ q1))
        have ev := nats_of_dva q2
        subst ev
        obtain ⟨as, q⟩ := reads_ints s.heap hv'
        cases (show v = .ref a' from r)
        obtain ⟨o, h0, h1, n, h3⟩ := hpl'.isList
        exact ⟨_, .list h0 h1 h3 (by simpa using q)⟩
    refine PySem.W.sorted_data (enc := encL) (R := fun v b => RelV b.1 v ∧ Dv X.K X.mg w Hs b.1 (nsD b.2)) hpl.isList e er ?_ (Sortable.others fun b => ⟨(fun z => by cases z), fun xs z => by cases z⟩) ?_ (fun b _ => ?_) fun out' ho' eo => ?_
    · intro d hd d' hd'
      obtain ⟨b, _, rfl⟩ := List.mem_map.mp hd
      obtain ⟨b', _, rfl⟩ := List.mem_map.mp hd'
      have := alike_ints (b.2.map fun n : Nat => (n : Int)) (b'.2.map fun n : Nat => (n : Int))
      simp only [List.map_map, Function.comp_def] at this
      simp only [encL, alike]
      exact this
    · rw [List.length_zip]
      exact Nat.le_trans (Nat.min_le_left _ _) hz
    · have := depth_ints b.2
      show X.A.units + 2 + (encL b).depth < cLine
      unfold encL
      omega
    · have hp := List.mergeSort_perm (vs.zip xss) (dataLe false encL)
      have hs := sorted_le encL (vs.zip xss) fun b => ⟨_, rfl⟩
      generalize (vs.zip xss).mergeSort (dataLe false encL) = bs' at hp hs eo
      have hsnd : (vs.zip xss).map (·.2) = xss := List.map_snd_zip (Nat.le_of_eq hlen.symm)
      have hP' := hP (bs'.map (·.2)) (by rw [← hsnd]; exact hp.map _) (List.pairwise_map.mpr (hs.imp fun {b c} h x y hx hy => by
        unfold encL at h
        cases eb : b.2 with
        | nil => rw [eb] at hx; cases hx
        | cons x' l =>
          cases ec : c.2 with
          | nil => rw [ec] at hy; cases hy
          | cons y' l' =>
            rw [eb] at hx h
            rw [ec] at hy h
            cases hx
            cases hy
            refine Nat.le_of_not_lt fun hlt => ?_
            rw [List.map_cons, List.map_cons, dataLt_heads (by omega)] at h
            cases h))
      have vals : ∀ {us : List Value} {bs : List (V × List Nat)}, EachIs (fun (v : Value) (b : V × List Nat) => RelV b.1 v ∧ Dv X.K X.mg w Hs b.1 (nsD b.2)) us bs → Vals (bs.map (·.1)) us ∧ DvA X.K X.mg w Hs (bs.map (·.1)) ((bs.map (·.2)).map nsD) := by
        intro us bs h
        induction h with
        | nil => exact ⟨.nil, .nil⟩
        | cons r _ ih => exact ⟨.cons r.1 ih.1, .cons r.2 ih.2⟩
      obtain ⟨hv', hd'⟩ := vals eo
      have hn : H (s.heap.objs.size + 1) = none := I.hok.fresh (Nat.le_succ _)
      obtain ⟨e1, he1⟩ := sortedAll_at s.heap its out'.toArray
      refine ⟨.ref (s.heap.objs.size + 1), upd H (s.heap.objs.size + 1) (.lst (bs'.map (·.1))), ?_, rfl, OutF.mk out s0 m hP' hd' hn⟩
      refine I.laid (a := s.heap.objs.size + 1) (t' := s.toks) (fun b u q => sortedAll_old q) (Nat.le_succ _) ?_
      refine ⟨?_, _, _, hv', he1⟩
      rw [List.length_map, hp.length_eq, List.length_zip]
      exact Nat.le_trans (Nat.min_le_left _ _) hz
/-- ~ -/
def oInv : O1
  | .int i, P => P (.int (Builtin.bitNot i))
  | _, _ => False
theorem ud_inv {X : Cx} {w : Dr} : UnD X w (unaryOp .Invert) oInv := by
  intro pins s σ H x v Q I rx ⟨Hs, N, a, P, s0, m, ha, ho, out⟩
  match a, ho with
  | .int i, hp =>
    have e := ha.int
    subst e
    exact un_inv pins s σ H _ v Q I rx ⟨i, rfl, out.now s0 hp (.int _)⟩
theorem rest_bit : ∀ (i x y : Nat), (x - (x &&& y)).testBit i = (x.testBit i && !y.testBit i)
  | 0, x, y => by
    have h1 : (x &&& y) ≤ x := Nat.and_le_left
    have h2 : (x &&& y) % 2 = 1 ↔ x % 2 = 1 ∧ y % 2 = 1 := Nat.and_mod_two_eq_one
    have h3 : (x &&& y) / 2 = x / 2 &&& y / 2 := Nat.and_div_two
    have h4 : (x / 2 &&& y / 2) ≤ x / 2 := Nat.and_le_left
    rw [Bool.eq_iff_iff]
    simp only [Nat.testBit_zero, Bool.and_eq_true, Bool.not_eq_true', decide_eq_true_eq, decide_eq_false_iff_not]
    omega
  | i + 1, x, y => by
    have h1 : (x &&& y) ≤ x := Nat.and_le_left
    have h2 : (x &&& y) % 2 = 1 ↔ x % 2 = 1 ∧ y % 2 = 1 := Nat.and_mod_two_eq_one
    have h3 : (x &&& y) / 2 = x / 2 &&& y / 2 := Nat.and_div_two
    have e : (x - (x &&& y)) / 2 = x / 2 - (x / 2 &&& y / 2) := by
      rw [← h3]
      omega
    rw [Nat.testBit_succ, e, rest_bit i (x / 2) (y / 2), ← Nat.testBit_succ, ← Nat.testBit_succ]
theorem rest_int (x y : Nat) : Builtin.bitAnd (x : Int) (Builtin.bitNot (y : Int)) = ((x - (x &&& y) : Nat) : Int) := by
  have h1 : (x &&& y) ≤ x := Nat.and_le_left
  have e1 : decide ((0 : Int) ≤ (x : Int)) = true := decide_eq_true (Int.natCast_nonneg _)
  have e2 : decide ((0 : Int) ≤ Builtin.bitNot (y : Int)) = false := decide_eq_false (by unfold Builtin.bitNot; omega)
  have e3 : Builtin.bitNot (Builtin.bitNot (y : Int)) = y := by unfold Builtin.bitNot; omega
  unfold Builtin.bitAnd
  rw [e1, e2]
  dsimp only
  rw [e3, Int.toNat_natCast, Int.toNat_natCast]
  omega
end Pd
/-! ## Orders by relations, their closures (plain) -/
namespace Tmm
open Pd
/-- an order of n tasks -/
structure OrdN (n : Nat) (R : Nat → Nat → Bool) : Prop where
  o : Ordr R
  lt : ∀ {x y}, R x y = true → x < n ∧ y < n
/-- for each task those ahead of it -/
def befR (n : Nat) (R : Nat → Nat → Bool) : List (List Nat) := (List.range n).map fun k => (List.range n).filter fun x => R x k
theorem befR_len (n : Nat) (R : Nat → Nat → Bool) : (befR n R).length = n := by unfold befR; simp
theorem befR_get {n : Nat} {R : Nat → Nat → Bool} {k : Nat} {b : List Nat} : (befR n R)[k]? = some b ↔ k < n ∧ b = (List.range n).filter fun x => R x k := by
  unfold befR
  rw [List.getElem?_map]
  by_cases h : k < n
  · rw [List.getElem?_range h]
    simp only [Option.map_some, Option.some.injEq, h, true_and]
    exact eq_comm
  · rw [List.getElem?_eq_none (by rw [List.length_range]; omega)]
    simp [h]
theorem befR_small {n : Nat} {R : Nat → Nat → Bool} {m : Nat} (h : n ≤ m) : ∀ b ∈ befR n R, b.length ≤ m := fun b hb => by
  obtain ⟨k, _, rfl⟩ := List.mem_map.mp hb
  have := List.length_filter_le (fun x => R x k) (List.range n)
  rw [List.length_range] at this
  omega
theorem mem_listP_befR {n : Nat} {R : Nat → Nat → Bool} (h : OrdN n R) {x y : Nat} : (x, y) ∈ listP (befR n R) ↔ R x y = true := by
  rw [mem_listP]
  constructor
  · rintro ⟨b, hb, hx⟩
    obtain ⟨_, rfl⟩ := befR_get.mp hb
    exact (List.mem_filter.mp hx).2
  · intro e
    obtain ⟨hx, hy⟩ := h.lt e
    exact ⟨_, befR_get.mpr ⟨hy, rfl⟩, List.mem_filter.mpr ⟨List.mem_range.mpr hx, e⟩⟩
theorem listP_nodupR {n : Nat} {R : Nat → Nat → Bool} : (listP (befR n R)).Nodup := by
  unfold listP
  rw [List.nodup_iff_pairwise_ne, List.pairwise_flatMap]
  refine ⟨fun q hq => ?_, ?_⟩
  · refine List.pairwise_map.mpr ?_
    have h1 := List.mem_zipIdx_iff_getElem?.mp hq
    obtain ⟨_, e⟩ := befR_get.mp h1
    have nd : q.1.Nodup := by rw [e]; exact List.nodup_range.filter _
    exact List.Pairwise.imp (fun {a b} hne he => hne (congrArg Prod.fst he)) nd
  · have hz : (befR n R).zipIdx.Pairwise fun p q => p.2 ≠ q.2 := by
      rw [List.pairwise_iff_getElem]
      intro i j hi hj hij e
      simp only [List.getElem_zipIdx] at e
      omega
    refine List.Pairwise.imp (fun {p q} hne => ?_) hz
    intro x hx y hy e
    obtain ⟨a, _, rfl⟩ := List.mem_map.mp hx
    obtain ⟨b, _, rfl⟩ := List.mem_map.mp hy
    exact hne (Prod.mk.inj e).2
theorem listed_befR {n : Nat} {R : Nat → Nat → Bool} (h : OrdN n R) : srtP (listP (befR n R)) = toldR n R :=
  lex_ext (srtP_strict listP_nodupR) (toldR_sorted _ _) fun ⟨a, b⟩ => by
    rw [(srtP_perm _).mem_iff, mem_listP_befR h, mem_toldR]
    exact ⟨fun e => ⟨(h.lt e).1, (h.lt e).2, e⟩, fun e => e.2.2⟩
theorem befR_inj {n m : Nat} {R S : Nat → Nat → Bool} (hR : OrdN n R) (hS : OrdN m S) (e : befR n R = befR m S) : n = m ∧ R = S := by
  have en : n = m := by rw [← befR_len n R, e, befR_len]
  refine ⟨en, ?_⟩
  funext x y
  rw [Bool.eq_iff_iff, ← mem_listP_befR hR, e, mem_listP_befR hS]
/-- a term's -/
theorem full_ordN {t : Trm} (h : Full t) : OrdN t.tasks.length (Trm.ah t) := ⟨⟨Trm.ah_irr t h.nd, fun a b => Trm.ah_trans t h.nd a b⟩, fun e => ⟨h.lt.mp (Trm.ah_mem e).1, h.lt.mp (Trm.ah_mem e).2⟩⟩
theorem bef_befR {t : Trm} (h : Full t) : bef t = befR t.tasks.length (Trm.ah t) := by
  unfold bef befR
  refine List.map_congr_left fun k _ => sorted_extN (srt_strict (Trm.bef1_nodup h.nd)) (List.pairwise_lt_range.filter _) fun z => ?_
  rw [(srt_perm _).mem_iff, Trm.mem_bef1, List.mem_filter, List.mem_range]
  exact ⟨fun e => ⟨h.lt.mp (Trm.ah_mem e).1, e⟩, fun e => e.2⟩
/-! ### closures of pairs without a way round -/
theorem pth_of {ps : List (Nat × Nat)} {ρ : Nat → Nat} (hρ : ∀ p ∈ ps, ρ p.1 < ρ p.2) {x k : Nat} (c : TC ps x k) : ρ x < ρ k ∧ ∀ r, ρ k ≤ ρ x + r → Pth ps r x k := by
  induction c with
  | base q =>
    have := hρ _ q
    refine ⟨this, fun r hr => ?_⟩
    match r with
    | 0 => simp only at this; omega
    | r + 1 => exact ⟨_, q, .inl rfl⟩
  | step c q ih =>
    have h1 := hρ _ q
    simp only at h1
    refine ⟨by omega, fun r hr => ?_⟩
    match r with
    | 0 => omega
    | r + 1 => exact ⟨_, q, .inr (ih.2 r (by omega))⟩
theorem clo_R {n : Nat} {ps : List (Nat × Nat)} {fs : List (List Nat)} (c : Clo n ps n [] fs) (hp : ∀ p ∈ ps, p.1 < n ∧ p.2 < n) {ρ : Nat → Nat} (hρ : ∀ p ∈ ps, ρ p.1 < ρ p.2) (hb : ∀ x, x < n → ρ x < n) :
    ∃ R, OrdN n R ∧ fs = befR n R ∧ ∀ x y, R x y = true ↔ TC ps x y := by
  have key : ∀ x y, x ∈ fs.getD y [] ↔ TC ps x y := fun x y => by
    rw [List.getD_eq_getElem?_getD]
    by_cases hy : y < fs.length
    · have e := List.getElem?_eq_getElem hy
      rw [e, Option.getD_some]
      refine ⟨fun h => c.sound y _ e x h, fun h => c.old y _ e x ((pth_of hρ h).2 n ?_)⟩
      have := hb y (h.ends hp).2
      omega
    · rw [List.getElem?_eq_none (by omega), Option.getD_none]
      exact ⟨fun z => (by cases z), fun h => absurd (h.ends hp).2 (by rw [← c.len]; exact hy)⟩
  have kd : ∀ x y, decide (x ∈ fs.getD y []) = true ↔ TC ps x y := fun x y => by rw [decide_eq_true_eq]; exact key x y
  refine ⟨fun x y => decide (x ∈ fs.getD y []), ⟨⟨fun x => ?_, fun {x y z} h1 h2 => (kd x z).mpr (((kd x y).mp h1).trans ((kd y z).mp h2))⟩, fun {x y} h => ((kd x y).mp h).ends hp⟩, ?_, kd⟩
  · rw [decide_eq_false_iff_not, key]
    intro h
    have := (pth_of hρ h).1
    omega
  · refine List.ext_getElem? fun k => ?_
    by_cases hk : k < n
    · have hkf : k < fs.length := by rw [c.len]; exact hk
      have e1 : fs[k]? = some fs[k] := List.getElem?_eq_getElem hkf
      rw [e1, befR_get.mpr ⟨hk, rfl⟩]
      congr 1
      refine sorted_extN (c.asc _ (List.getElem_mem hkf)) (List.pairwise_lt_range.filter _) fun z => ?_
      have e2 : fs.getD k [] = fs[k] := by rw [List.getD_eq_getElem?_getD, e1]; rfl
      rw [List.mem_filter, List.mem_range, decide_eq_true_eq, e2]
      exact ⟨fun h => ⟨((c.sound k _ e1 z h).ends hp).1, h⟩, fun h => h.2⟩
    · rw [List.getElem?_eq_none (by rw [c.len]; omega), List.getElem?_eq_none (by rw [befR_len]; omega)]
/-- how many are ahead: greater behind -/
def rk (n : Nat) (R : Nat → Nat → Bool) (x : Nat) : Nat := ((List.range n).filter fun z => R z x).length
theorem filter_le {α : Type} {p q : α → Bool} : ∀ {xs : List α}, (∀ x ∈ xs, p x = true → q x = true) → (xs.filter p).length ≤ (xs.filter q).length
  | [], _ => Nat.le_refl _
  | z :: xs, h => by
    have i := filter_le (xs := xs) fun u hu => h u (List.mem_cons_of_mem _ hu)
    have hz := h z List.mem_cons_self
    rw [List.filter_cons, List.filter_cons]
    cases q1 : p z with
    | false => simp only [Bool.false_eq_true, if_false]; split <;> simp <;> omega
    | true => rw [hz q1]; simp only [if_true, List.length_cons]; omega
theorem filter_lt {α : Type} {p q : α → Bool} : ∀ {xs : List α}, (∀ x ∈ xs, p x = true → q x = true) → (∃ x ∈ xs, p x = false ∧ q x = true) → (xs.filter p).length < (xs.filter q).length
  | [], _, ⟨x, hx, _⟩ => by cases hx
  | x :: xs, h, ⟨y, hy, e1, e2⟩ => by
    have le : (xs.filter p).length ≤ (xs.filter q).length := filter_le fun z hz => h z (List.mem_cons_of_mem x hz)
    rcases List.mem_cons.mp hy with e | hy
    · subst e
      rw [List.filter_cons, List.filter_cons, e1, e2]
      simp only [Bool.false_eq_true, if_false, if_true, List.length_cons]
      omega
    · have i := filter_lt (fun z hz => h z (List.mem_cons_of_mem _ hz)) ⟨y, hy, e1, e2⟩
      have hx := h x List.mem_cons_self
      rw [List.filter_cons, List.filter_cons]
      cases q1 : p x with
      | false => simp only [Bool.false_eq_true, if_false]; split <;> simp <;> omega
      | true => rw [hx q1]; simp only [if_true, List.length_cons]; omega
theorem rk_lt {n : Nat} {R : Nat → Nat → Bool} (h : OrdN n R) {x y : Nat} (e : R x y = true) : rk n R x < rk n R y :=
  filter_lt (fun z _ hz => h.o.trans hz e) ⟨x, List.mem_range.mpr (h.lt e).1, h.o.irr x, e⟩
theorem rk_few {n : Nat} {R : Nat → Nat → Bool} (h : OrdN n R) {x : Nat} (hx : x < n) : rk n R x < n := by
  have := filter_lt (p := fun z => R z x) (q := fun _ => true) (xs := List.range n) (fun _ _ _ => rfl) ⟨x, List.mem_range.mpr hx, h.o.irr x, rfl⟩
  rw [List.filter_eq_self.mpr (fun _ _ => rfl), List.length_range] at this
  exact this
/-! ### four in an N -/
theorem InN.nd {R : Nat → Nat → Bool} (o : Ordr R) {a b c d : Nat} (h : InN R a b c d) : [a, b, c, d].Nodup := by
  have no : ∀ {p : Bool}, p = true → p = false → False := fun x y => by rw [x] at y; cases y
  have n1 : a ≠ b := fun e => by have := h.bd; rw [← e] at this; exact no this h.ad
  have n2 : a ≠ c := fun e => by have := h.ac; rw [e, o.irr] at this; cases this
  have n3 : a ≠ d := fun e => by have := h.bd; rw [← e] at this; exact no this h.ba
  have n4 : b ≠ c := fun e => by have := h.bc; rw [e, o.irr] at this; cases this
  have n5 : b ≠ d := fun e => by have := h.bd; rw [e, o.irr] at this; cases this
  have n6 : c ≠ d := fun e => by have := h.ac; rw [e] at this; exact no this h.ad
  simp only [List.nodup_cons, List.mem_cons, List.not_mem_nil, or_false, not_or, not_false_eq_true, List.nodup_nil, and_true]
  exact ⟨⟨n1, n2, n3⟩, ⟨n4, n5⟩, n6⟩
theorem InN.iff {R : Nat → Nat → Bool} (o : Ordr R) {a b c d : Nat} (h : InN R a b c d) : ∀ x y, x ∈ [a, b, c, d] → y ∈ [a, b, c, d] → (R x y = true ↔ (x, y) ∈ [(a, c), (b, c), (b, d)]) := by
  have nd := h.nd o
  simp only [List.nodup_cons, List.mem_cons, List.not_mem_nil, or_false, not_or, not_false_eq_true, List.nodup_nil, and_true] at nd
  obtain ⟨⟨n1, n2, n3⟩, ⟨n4, n5⟩, n6⟩ := nd
  have f : ∀ {x y : Nat}, R x y = false → (x, y) ∉ [(a, c), (b, c), (b, d)] → (R x y = true ↔ (x, y) ∈ [(a, c), (b, c), (b, d)]) := fun h1 h2 => ⟨fun z => (by rw [h1] at z; cases z), fun z => absurd z h2⟩
  have t : ∀ {x y : Nat}, R x y = true → (x, y) ∈ [(a, c), (b, c), (b, d)] → (R x y = true ↔ (x, y) ∈ [(a, c), (b, c), (b, d)]) := fun h1 h2 => ⟨fun _ => h2, fun _ => h1⟩
  intro x y hx hy
  simp only [List.mem_cons, List.not_mem_nil, or_false] at hx hy
  have s : ∀ x y : Nat, (x, y) ∉ [(a, c), (b, c), (b, d)] ↔ ¬ ((x = a ∧ y = c) ∨ (x = b ∧ y = c) ∨ (x = b ∧ y = d)) := fun x y => by simp [Prod.mk.injEq]
  rcases hx with rfl | rfl | rfl | rfl <;> rcases hy with rfl | rfl | rfl | rfl
  · exact f (o.irr _) (by rw [s]; omega)
  · exact f h.ab (by rw [s]; omega)
  · exact t h.ac (by simp)
  · exact f h.ad (by rw [s]; omega)
  · exact f h.ba (by rw [s]; omega)
  · exact f (o.irr _) (by rw [s]; omega)
  · exact t h.bc (by simp)
  · exact t h.bd (by simp)
  · exact f (o.asy h.ac) (by rw [s]; omega)
  · exact f (o.asy h.bc) (by rw [s]; omega)
  · exact f (o.irr _) (by rw [s]; omega)
  · exact f h.cd (by rw [s]; omega)
  · exact f h.da (by rw [s]; omega)
  · exact f (o.asy h.bd) (by rw [s]; omega)
  · exact f h.dc (by rw [s]; omega)
  · exact f (o.irr _) (by rw [s]; omega)
/-! ### the normal term of an order is one -/
theorem tov_uniq {R : Nat → Nat → Bool} {ts : List Nat} {t u : Trm} (nd : ts.Nodup) (h : TOv R ts t) (h' : TOv R ts u) : t = u := by
  have m1 : ∀ x, x ∈ t.tasks ↔ x ∈ ts := fun x => h.perm.mem_iff
  have m2 : ∀ x, x ∈ u.tasks ↔ x ∈ ts := fun x => h'.perm.mem_iff
  refine Trm.uniq t.tasks.length t u (Nat.le_refl _) h.nrm h'.nrm (h.perm.nodup_iff.mpr nd) (h'.perm.nodup_iff.mpr nd) (fun x => by rw [m1, m2]) fun x y hx hy => ?_
  rw [h.ah x ((m1 x).mp hx) y ((m1 y).mp hy), h'.ah x ((m1 x).mp hx) y ((m1 y).mp hy)]
/-- that of a range is of all tasks -/
theorem tov_full {R : Nat → Nat → Bool} {n : Nat} {t : Trm} (hn : n ≤ 12) (h : TOv R (List.range n) t) : Full t ∧ t.tasks.length = n := by
  have e : t.tasks.length = n := by rw [h.perm.length_eq, List.length_range]
  exact ⟨⟨h.ok, by omega, by rw [e]; exact h.perm⟩, e⟩
theorem tov_ah {R : Nat → Nat → Bool} {n : Nat} {t : Trm} (hR : OrdN n R) (h : TOv R (List.range n) t) : Trm.ah t = R := by
  funext x y
  by_cases hx : x < n ∧ y < n
  · exact h.ah x (List.mem_range.mpr hx.1) y (List.mem_range.mpr hx.2)
  · have e1 : R x y = false := by
      cases e : R x y with
      | false => rfl
      | true => exact absurd (hR.lt e) hx
    rw [e1]
    refine Trm.ah_out ?_
    have m : ∀ z, z ∈ t.tasks ↔ z < n := fun z => by rw [h.perm.mem_iff, List.mem_range]
    rw [m, m]
    omega
theorem tov_bef {R : Nat → Nat → Bool} {n : Nat} {t : Trm} (hn : n ≤ 12) (hR : OrdN n R) (h : TOv R (List.range n) t) : bef t = befR n R := by
  obtain ⟨f, e⟩ := tov_full hn h
  rw [bef_befR f, e, tov_ah hR h]
end Tmm
/-! ## Pd: lists of tuples of numbers sorted -/
namespace Pd
open PySem PySem.Spec PyProof.Rows L2 Tmm PySem.W
/-- a tuple of numbers that isn't empty -/
abbrev tupN (p : Nat × List Nat) : D := .tup (nD p.1 :: p.2.map nD)
def intsN (p : Nat × List Nat) : List Int := (p.1 :: p.2).map fun n : Nat => (n : Int)
def encT (b : V × (Nat × List Nat)) : PyData := .tuple ((b.2.1 :: b.2.2).map fun n : Nat => .int (n : Int))
def oSortT : OF
  | [.lst xs], P => ∃ L : List (Nat × List Nat), xs = L.map tupN ∧ ∀ L' : List (Nat × List Nat), L'.Perm L → (L'.Pairwise fun p q => ¬ intsN q < intsN p) → P (L'.map tupN)
  | _, _ => False
theorem encT_row (b : V × (Nat × List Nat)) : encT b = .tuple ((intsN b.2).map .int) := by
  unfold encT intsN
  rw [List.map_map]
  rfl
theorem sorted_leT (bs : List (V × (Nat × List Nat))) : (bs.mergeSort (dataLe false encT)).Pairwise fun a b => ¬ intsN b.2 < intsN a.2 := by
  have el : ∀ a b : V × (Nat × List Nat), dataLt (encT a) (encT b) = decide (intsN a.2 < intsN b.2) := fun a b => by
    rw [encT_row, encT_row, dataLt_tuple]
    exact dataLt_ints _ _
  have h := List.pairwise_mergeSort (le := dataLe false encT) (fun a b c h1 h2 => by
    simp only [dataLe_eq, cond_false, Bool.not_eq_true', el, decide_eq_false_iff_not, List.not_lt] at h1 h2 ⊢
    exact List.le_trans h1 h2) (fun a b => by
    simp only [dataLe_eq, cond_false, Bool.or_eq_true, Bool.not_eq_true', el, decide_eq_false_iff_not, List.not_lt]
    exact List.le_total _ _) bs
  exact h.imp fun {a b} h => by
    simpa only [dataLe_eq, cond_false, Bool.not_eq_true', el, decide_eq_false_iff_not] using h
theorem cf_sortT {X : Cx} {w : Dr} (hu : X.A.units + 10 < cLine) : CallF X w (.builtin "sorted") oSortT := by
  intro pins s σ H xs us Q I rv ⟨Hs, N, rs, P, s0, m, ha, ho, out⟩
  match rs, ho with
  | [.lst ys], ⟨xss, eps, hP⟩ =>
    subst eps
    obtain ⟨v, rfl, b1⟩ := ha.one
    obtain ⟨a, vs, rfl, hl, hda⟩ := b1.list s0
    rw [Vals.ref1 rv]
    obtain ⟨its, hv, hpl, hz⟩ := I.list (SqL.of hl)
    have hlen : vs.length = xss.length := by rw [hda.len, List.length_map]
    have each : ∀ {us : List Value} {vs : List V} {xss : List (Nat × List Nat)}, Vals vs us → DvA X.K X.mg w Hs vs (xss.map tupN) → EachIs (fun (v : Value) (b : V × (Nat × List Nat)) => RelV b.1 v ∧ Dv X.K X.mg w Hs b.1 (tupN b.2)) us (vs.zip xss) := by
      intro us vs xss h
      induction h generalizing xss with
      | nil => intro _; exact .nil
      | cons r _ ih =>
        intro hd
        cases xss with
        | nil => cases hd
        | cons x xss =>
          cases hd with
          | cons h1 h2 => exact .cons ⟨r, h1⟩ (ih h2)
    have e := each hv hda
    have er : EachIs (fun v b => ∃ as, Reads s.heap v (encT b) as) its (vs.zip xss) := e.mono fun v b ⟨r, d⟩ => by
      obtain ⟨bv, bn⟩ := b
      cases d with
      | @tup a' xs' _ q1 q2 =>
        obtain ⟨its', hv', hpl', hz'⟩ := I.tuple (SqT.of (s0 _ _ q1))
        have ev := nats_of_dva (ns := bn.1 :: bn.2) q2
        subst ev
        obtain ⟨as, q⟩ := reads_ints s.heap hv'
        cases (show v = .ref a' from r)
        obtain ⟨o, h0, h1, n, h3⟩ := hpl'
        exact ⟨_, .tuple h0 h1 h3 (by simpa using q)⟩
    refine PySem.W.sorted_data (enc := encT) (R := fun v b => RelV b.1 v ∧ Dv X.K X.mg w Hs b.1 (tupN b.2)) hpl.isList e er ?_ (Sortable.tuples fun b => ⟨_, _, rfl⟩) ?_ (fun b _ => ?_) fun out' ho' eo => ?_
    · intro d hd d' hd'
      obtain ⟨b, _, rfl⟩ := List.mem_map.mp hd
      obtain ⟨b', _, rfl⟩ := List.mem_map.mp hd'
      rw [encT_row, encT_row]
      simp only [alike]
      exact alike_ints _ _
    · rw [List.length_zip]
      exact Nat.le_trans (Nat.min_le_left _ _) hz
    · have := depthAll_ints (b.2.1 :: b.2.2)
      show X.A.units + 2 + (encT b).depth < cLine
      unfold encT
      simp only [PyData.depth]
      omega
    · have hp := List.mergeSort_perm (vs.zip xss) (dataLe false encT)
      have hs := sorted_leT (vs.zip xss)
      generalize (vs.zip xss).mergeSort (dataLe false encT) = bs' at hp hs eo
      have hsnd : (vs.zip xss).map (·.2) = xss := List.map_snd_zip (Nat.le_of_eq hlen.symm)
      have hP' := hP (bs'.map (·.2)) (by rw [← hsnd]; exact hp.map _) (List.pairwise_map.mpr hs)
      have vals : ∀ {us : List Value} {bs : List (V × (Nat × List Nat))}, EachIs (fun (v : Value) (b : V × (Nat × List Nat)) => RelV b.1 v ∧ Dv X.K X.mg w Hs b.1 (tupN b.2)) us bs → Vals (bs.map (·.1)) us ∧ DvA X.K X.mg w Hs (bs.map (·.1)) ((bs.map (·.2)).map tupN) := by
        intro us bs h
        induction h with
        | nil => exact ⟨.nil, .nil⟩
        | cons r _ ih => exact ⟨.cons r.1 ih.1, .cons r.2 ih.2⟩
      obtain ⟨hv', hd'⟩ := vals eo
      have hn : H (s.heap.objs.size + 1) = none := I.hok.fresh (Nat.le_succ _)
      obtain ⟨e1, he1⟩ := sortedAll_at s.heap its out'.toArray
      refine ⟨.ref (s.heap.objs.size + 1), upd H (s.heap.objs.size + 1) (.lst (bs'.map (·.1))), ?_, rfl, OutF.mk out s0 m hP' hd' hn⟩
      refine I.laid (a := s.heap.objs.size + 1) (t' := s.toks) (fun b u q => sortedAll_old q) (Nat.le_succ _) ?_
      refine ⟨?_, _, _, hv', he1⟩
      rw [List.length_map, hp.length_eq, List.length_zip]
      exact Nat.le_trans (Nat.min_le_left _ _) hz
end Pd
/-! ## Pd: a, b, c = x, y, z, by a tuple -/
namespace Pd
open PySem L2
theorem SlA.go {K : PySem.W.Frag} {mg : Str → Option Value} {w : Dr} {H0 H Hs H' Hs' : Hp} {vs : List V} {rs : List Sl} (h : SlA K mg w H0 H Hs vs rs) (g : Go w H Hs H' Hs') : SlA K mg w H0 H' Hs' vs rs := by
  induction h with
  | nil => exact .nil
  | sh d _ ih => exact .sh (Dv.same g.sh _ _ d) ih
  | ow o h0 d n _ ih => exact .ow (o.go g) h0 (DvA.same g.sh _ _ d) (fun b hb e1 e2 => n b hb e1 (none_of_same g.sh e2)) ih
section
variable {X : Cx} {C : Cn} {pos : Pos}
theorem psd_par3T {i j l : Nat} {x y z : Str} {es : List Expr} {f : MD} {px py pz pt : Pos} {kt k2 : Nat} {pt2 : Pos} (hc : X.calm = true) (hN : X.N.Nodup) (hi : X.N[i]? = some x) (hj : X.N[j]? = some y) (hl : X.N[l]? = some z)
    (hx : Loc X.env.scope x) (hy : Loc X.env.scope y) (hz : Loc X.env.scope z) (ha : PMd X C es f)
    (fx : X.fn x = true ∨ X.env.scope.names.lookup x = some .local := by first | exact .inl rfl | exact .inr rfl) (fy : X.fn y = true ∨ X.env.scope.names.lookup y = some .local := by first | exact .inl rfl | exact .inr rfl) (fz : X.fn z = true ∨ X.env.scope.names.lookup z = some .local := by first | exact .inl rfl | exact .inr rfl)
    (hs : swapsWithSole [.Tuple [.Name x px, .Name y py, .Name z pz] kt pt] (.Tuple es k2 pt2) pos.line X.env = pure false := by rfl) (hw : swappedStores [.Tuple [.Name x px, .Name y py, .Name z pz] kt pt] (.Tuple es k2 pt2) X.env = pure none := by rfl)
    (h1 : (assignEach [.Tuple [.Name x px, .Name y py, .Name z pz] kt pt] X.env).map (·.2) = [assign (.Tuple [.Name x px, .Name y py, .Name z pz] kt pt) X.env] := by rfl)
    (s1 : (assignEach [.Name x px, .Name y py, .Name z pz] X.env).map (·.2) = assign (.Name x px) X.env :: (assignEach [.Name y py, .Name z pz] X.env).map (·.2) := by rfl)
    (s2 : (assignEach [.Name y py, .Name z pz] X.env).map (·.2) = assign (.Name y py) X.env :: (assignEach [.Name z pz] X.env).map (·.2) := by rfl)
    (s3 : (assignEach [.Name z pz] X.env).map (·.2) = assign (.Name z pz) X.env :: (assignEach [] X.env).map (·.2) := by rfl)
    (hn : (assignEach [.Name x px, .Name y py, .Name z pz] X.env).length = 3 := by rfl) (hst : (assignEach [.Name x px, .Name y py, .Name z pz] X.env).findIdx? (·.1) = none := by rfl) :
    PSd X C (.Assign [.Tuple [.Name x px, .Name y py, .Name z pz] kt pt] (.Tuple es k2 pt2) pos) (fPar [i, j, l] f) :=
  ⟨⟨fun pins s σ H E I ⟨env, Hs, N, R, L, r, sl, hf, k⟩ => (ps_asg (pe_tup ha.pa) (pg_tup hc (pgs_cons (pg_name hN hi hx fx) (pgs_cons (pg_name hN hj hy fy) (pgs_cons (pg_name hN hl hz fz) pgs_nil s3) s2) s1) hn hst) hs hw h1).run pins s σ H E I
    ⟨env, Hs, N, _, r, hf, fun rs N1 ⟨hlen, h2⟩ vs H1 Hs1 g1 m1 d1 => by
      have lv := d1.len
      rw [hlen] at lv
      match vs, lv, d1 with
      | [v, u, t], _, d1 =>
        refine ⟨by simp [sizeLine_eq], fun p hp => ⟨p, [v, u, t], rfl, SqT.of upd_same, rfl, v, _, rfl, u, _, rfl, t, _, rfl, rfl, ?_⟩⟩
        have g2 : Go C.w H1 Hs1 (upd H1 p (.tup [v, u, t])) Hs1 := Go.own1 g1.sub hp
        have m2 := m1.new (o := .tup [v, u, t]) hp
        refine k.nx _ _ _ _ _ (Rep.sets (is := [i, j, l]) (r.move (g1.trans g2) m2) (d1.go g2) (fun p hp => free_back r.go hp) (fun q hq => ?_) (sla_fresh r (g1.trans g2) (d1.go g2))) (sl.trans g1.sh) h2
        have e : env.length = X.N.length := by rw [r.len, I.len]
        simp only [List.mem_cons, List.not_mem_nil, or_false] at hq
        rw [e]
        rcases hq with q | q | q
        · rw [q]; exact (List.getElem?_eq_some_iff.mp hi).1
        · rw [q]; exact (List.getElem?_eq_some_iff.mp hj).1
        · rw [q]; exact (List.getElem?_eq_some_iff.mp hl).1⟩⟩⟩
theorem psd_par3 {i j l : Nat} {x y z : Str} {a b c : Expr} {f : MD} {px py pz pt : Pos} {kt k2 : Nat} {pt2 : Pos} (hc : X.calm = true) (hN : X.N.Nodup) (hi : X.N[i]? = some x) (hj : X.N[j]? = some y) (hl : X.N[l]? = some z) (hij : i ≠ j) (hil : i ≠ l) (hjl : j ≠ l)
    (hx : X.env.scope.names.lookup x = some .local) (hy : X.env.scope.names.lookup y = some .local) (hz : X.env.scope.names.lookup z = some .local) (ha : PMd X C [a, b, c] f)
    (hw : swappedStores [.Tuple [.Name x px, .Name y py, .Name z pz] kt pt] (.Tuple [a, b, c] k2 pt2) X.env = pure (some [x, y, z]))
    (hs : swapsWithSole [.Tuple [.Name x px, .Name y py, .Name z pz] kt pt] (.Tuple [a, b, c] k2 pt2) pos.line X.env = pure false := by rfl) :
    PSd X C (.Assign [.Tuple [.Name x px, .Name y py, .Name z pz] kt pt] (.Tuple [a, b, c] k2 pt2) pos) (fPar [i, j, l] f) :=
  ⟨⟨fun pins s σ H E I ⟨env, Hs, N, R, L, r, sl, hf, k⟩ => (ps_par3 hc hN hi hj hl hij hil hjl hx hy hz ha.pa hw hs).run pins s σ H E I ⟨env, Hs, N, _, r, hf, fun rs N1 ⟨hlen, h1⟩ vs H1 Hs1 g1 m1 d1 => by
    have lv := d1.len
    rw [hlen] at lv
    match vs, lv, d1 with
    | [v, u, t], _, d1 =>
      refine ⟨v, u, t, rfl, k.nx _ _ _ _ _ (Rep.sets (is := [i, j, l]) (r.move g1 m1) d1 (fun p hp => free_back r.go hp) (fun q hq => ?_) (sla_fresh r g1 d1)) (sl.trans g1.sh) h1⟩
      have e : env.length = X.N.length := by rw [r.len, I.len]
      simp only [List.mem_cons, List.not_mem_nil, or_false] at hq
      rw [e]
      rcases hq with q | q | q
      · rw [q]; exact (List.getElem?_eq_some_iff.mp hi).1
      · rw [q]; exact (List.getElem?_eq_some_iff.mp hj).1
      · rw [q]; exact (List.getElem?_eq_some_iff.mp hl).1⟩⟩⟩
end
end Pd
/-! ## Pd: texts -/
namespace Pd
open PySem L2
/-- one sign in a text -/
def oInS (neg : Bool) : O2
  | .str x, .str z, P => ∃ c, x = ⟨#[c]⟩ ∧ P (.bl (decide (c ∈ z.cps.toList) != neg))
  | _, _, _ => False
def oNeS : O2
  | .str x, .str y, P => P (.bl (!decide (x = y)))
  | _, _, _ => False
section
variable {X : Cx} {w : Dr}
theorem od_inS : OpD X w (compareOp .In) (oInS false) := by
  intro pins s σ H x y v u Q I rx ry ⟨Hs, N, a, b, P, s0, m, ha, hb, ho, out⟩
  match a, b, ho with
  | .str i, .str j, ⟨c, ec, hp⟩ =>
    obtain rfl := ha.str
    obtain rfl := hb.str
    subst ec
    exact op_in_sign pins s σ H _ _ v u Q I rx ry ⟨c, j, rfl, rfl, out.now s0 (by rw [Bool.bne_false] at hp; exact hp) (.bl _)⟩
theorem od_notinS : OpD X w (compareOp .NotIn) (oInS true) := by
  intro pins s σ H x y v u Q I rx ry ⟨Hs, N, a, b, P, s0, m, ha, hb, ho, out⟩
  match a, b, ho with
  | .str i, .str j, ⟨c, ec, hp⟩ =>
    obtain rfl := ha.str
    obtain rfl := hb.str
    subst ec
    exact op_notIn_sign pins s σ H _ _ v u Q I rx ry ⟨c, j, rfl, rfl, out.now s0 (by rw [Bool.bne_true] at hp; exact hp) (.bl _)⟩
theorem od_neS : OpD X w (compareOp .NotEq) oNeS := by
  intro pins s σ H x y v u Q I rx ry ⟨Hs, N, a, b, P, s0, m, ha, hb, ho, out⟩
  match a, b, ho with
  | .str i, .str j, hp =>
    obtain rfl := ha.str
    obtain rfl := hb.str
    exact op_ne pins s σ H _ _ v u Q I rx ry (Rd.neS (out.now s0 hp (.bl _)))
def oStr1 : OL
  | [.int i], P => i.natAbs.log2 < 1920 ∧ P (.str (toString i))
  | _, _ => False
theorem cd_str : CallD X w (.type "str") oStr1 := by
  intro pins s σ H xs us Q I rv ⟨Hs, N, rs, P, s0, m, ha, ho, out⟩
  match rs, ho with
  | [.int i], ⟨hl, hp⟩ =>
    obtain ⟨v, rfl, b⟩ := ha.one
    have := b.int
    subst this
    exact call_str_int pins s σ H _ us Q I rv ⟨i, rfl, hl, out.now s0 hp (.str _)⟩
def oIntS : OL
  | [.str a], P => ∃ n, PySem.intText? a = some n ∧ a.length ≤ 640 ∧ P (.int n)
  | _, _ => False
theorem cd_intS : CallD X w (.type "int") oIntS := by
  intro pins s σ H xs us Q I rv ⟨Hs, N, rs, P, s0, m, ha, ho, out⟩
  match rs, ho with
  | [.str a], ⟨n, hn, hl, hp⟩ =>
    obtain ⟨v, rfl, b⟩ := ha.one
    have := b.str
    subst this
    exact call_int_str pins s σ H _ us Q I rv ⟨a, n, rfl, hn, hl, out.now s0 hp (.int _)⟩
def oLenS : OL
  | [.str a], P => a.length ≤ sizeLine ∧ P (.int a.length)
  | _, _ => False
theorem cd_lenS : CallD X w (.builtin "len") oLenS := by
  intro pins s σ H xs us Q I rv ⟨Hs, N, rs, P, s0, m, ha, ho, out⟩
  match rs, ho with
  | [.str a], ⟨hl, hp⟩ =>
    obtain ⟨v, rfl, b⟩ := ha.one
    have := b.str
    subst this
    exact call_len_str pins s σ H _ us Q I rv ⟨a, rfl, hl, out.now s0 hp (.int _)⟩
end
section
variable {X : Cx} {C : Cn} {e a b : Expr} {es : List Expr} {pos : Pos} {f fa fb : ED}
/-! ### z[i], z[lo:hi] -/
def oIxS : O2
  | .str x, .int i, P => x.length ≤ sizeLine ∧ ∃ c, atI x.cps.toList i = some c ∧ P (.str ⟨#[c]⟩)
  | _, _, _ => False
theorem pd_ixS (ha : PEb X C a fa) (hb : PEb X C b fb) (hs : PlainIx b := by exact fun _ _ => rfl) : PEd X C (.Subscript a b pos) (eOp oIxS fa fb) := ⟨PE.imp (pe_ix ix_str ha.pe hb.pe hs) fun σ H Q h => tOp_of (fun x y H Q ⟨Hs, N, rx, ry, P, s0, m, dx, dy, ho, out⟩ => by
  match rx, ry, ho with
  | .str z, .int i, ⟨hz, c, hc, hp⟩ =>
    obtain rfl := dx.str
    obtain rfl := dy.int
    exact ⟨z, i, c, rfl, rfl, hz, hc, out.now s0 hp (.str _)⟩) h⟩
def oSlS (lo hi : Option Int) : O1
  | .str x, P => x.length ≤ sizeLine ∧ P (.str (cutS x lo hi))
  | _, _ => False
def eSlS (fa : ED) (fl fh : PD) : ED := fun env N Q => fa env N fun x N1 => fl env N1 fun l N2 => fh env N2 fun h N3 => oSlS l h x fun z => Q z N3
theorem pd_sliceS {lo hi : Option Expr} {p2 : Pos} {fl fh : PD} (he : PEb X C e f) (hl : POd X C lo fl) (hu : POd X C hi fh) : PEd X C (.Subscript e (.Slice lo hi none p2) pos) (eSlS f fl fh) := ⟨PE.imp (pe_slice sl_str he.pe hl.po hu.po) fun σ H Q ⟨env, Hs, N, R, r, hf, k⟩ =>
  ⟨env, Hs, N, _, r, hf, fun x N1 h1 v H1 Hs1 g1 m1 d1 => ⟨env, Hs1, N1, _, r.move g1 m1, h1, fun l N2 h2 H2 Hs2 g2 m2 => ⟨env, Hs2, N2, _, (r.move g1 m1).move g2 m2, h2, fun u N3 h3 H3 Hs3 g3 m3 => by
    match x, h3 with
    | .str z, ⟨hz, h3⟩ =>
      obtain rfl := d1.str
      exact ⟨z, rfl, hz, k _ _ h3 _ _ _ ((g1.trans g2).trans g3) m3 (.str _)⟩⟩⟩⟩⟩
/-! ### sep.join(xs) -/
def eJoin (fo fe : ED) : ED := fun env N Q => fo env N fun x N1 => match x with
  | .str a => fe env N1 fun y N2 => (match y with | .lst ys => ∃ zs : List Str, ys = zs.map D.str ∧ (zs.map (·.length)).sum + zs.length * a.length ≤ 16777216 ∧ Q (.str (Txt.join a zs)) N2 | _ => False)
  | _ => False
theorem dva_strs {K : PySem.W.Frag} {mg : Str → Option Value} {w : Dr} {H : Hp} : ∀ {zs : List Str} {vs : List V}, DvA K mg w H vs (zs.map D.str) → vs = zs.map V.str
  | [], _, h => by cases h; rfl
  | n :: ns, _, h => by
    cases h with
    | cons a t => cases a; rw [dva_strs t]; rfl
theorem pd_join {o : Expr} {fo fe : ED} {apos : Pos} (ho : PEd X C o fo) (he : PEb X C e fe) (hs : starEach [e] X.env = [(false, eval e X.env)] := by rfl) (hbase : attributeBase o "join" X.env (eval o X.env) = eval o X.env := by rfl) (hline : (apos.endLine == pos.line) = true := by rfl) :
    PEd X C (.Call (.Attribute o "join" apos) [e] [] pos) (eJoin fo fe) := ⟨PE.imp (pe_join ho.pe he.pe hs hbase hline) fun σ H Q ⟨env, Hs, N, R, r, hf, k⟩ =>
  ⟨env, Hs, N, _, r, hf, fun x N1 h1 v H1 Hs1 g1 m1 d1 => by
    match x, h1 with
    | .str z, h1 =>
      cases d1
      refine ⟨⟨z, rfl⟩, env, Hs1, N1, _, r.move g1 m1, h1, fun y N2 h2 u H2 Hs2 g2 m2 d2 => ?_⟩
      match y, h2 with
      | .lst ys, ⟨zs, ey, hl, h2⟩ =>
        subst ey
        obtain ⟨p, vs, rfl, q1, q2⟩ := d2.list g2.sub
        rw [dva_strs q2] at q1
        exact ⟨z, p, zs, rfl, rfl, .inl (SqL.of q1), hl, k _ _ h2 _ _ _ (g1.trans g2) m2 (.str _)⟩⟩⟩
/-! ### f"a{e}b" -/
theorem empty_app (a : Str) : Str.empty ++ a = a := by
  show Str.append Str.empty a = a
  unfold Str.append Str.empty
  simp
theorem len_app (a b : Str) : (a ++ b).length = a.length + b.length := by
  show (Str.append a b).length = _
  unfold Str.append Str.length
  simp
def eF3 (a b : Str) (fe : ED) : ED := fun env N Q => fe env N fun r N1 => match r with | .str y => a.length + y.length + b.length ≤ sizeLine ∧ Q (.str (a ++ y ++ b)) N1 | _ => False
theorem pd_f3 {a b : Str} {j1 j2 : Nat} {p1 p2 p3 : Pos} {fe : ED} (he : PEd X C e fe) (ha : a.length ≤ sizeLine := by decide +kernel) : PEd X C (.JoinedStr [.Constant (.str a) j1 p1, .FormattedValue e (-1) none p2, .Constant (.str b) j2 p3] pos) (eF3 a b fe) :=
  ⟨PE.imp (pe_joined (PJ.cons (pe_str (x := a)) (PJ.cons (pe_fmt he.pe) (PJ.cons (pe_str (x := b)) PJ.nil)))) fun σ H Q ⟨env, Hs, N, R, r, hf, k⟩ => by
    refine ⟨a, rfl, by rw [empty_app]; exact ha, env, Hs, N, _, r, hf, fun x N1 h1 v H1 Hs1 g1 m1 d1 => ?_⟩
    match x, h1 with
    | .str y, ⟨hl, h1⟩ =>
      cases d1
      refine .inl ⟨y, rfl, by omega, y, rfl, ?_, b, rfl, ?_, ?_⟩
      · rw [empty_app, len_app]; omega
      · rw [empty_app, len_app, len_app]; omega
      · show Q (.str (Str.empty ++ a ++ y ++ b)) H1
        rw [empty_app]
        exact k _ _ h1 _ _ _ g1 m1 (.str _)⟩
/-! ### for c in text -/
def iStrD (f : ED) : AD := fun env N Q => f env N fun r N1 => match r with | .str z => Q (z.cps.toList.map fun c => .str ⟨#[c]⟩) N1 | _ => False
theorem pid_str {tg : Expr} (h : PEd X C e f) : PId X C tg e (iStrD f) := ⟨PI.imp (pi_str h.pe) fun σ H R ⟨env, Hs, N, R0, r, hf, k⟩ =>
  ⟨env, Hs, N, _, r, hf, fun x N1 h1 v H1 Hs1 g1 m1 d1 => by
    match x, h1 with
    | .str z, h1 =>
      cases d1
      refine ⟨z, rfl, k _ _ h1 _ _ _ g1 m1 ⟨fun i H Hs s g hi => walk_str.goes i H (by simpa using hi) trivial, fun H Hs s g => by simpa using walk_str.stops H trivial, fun i H Hs x H' s g hi y => ?_⟩⟩
      obtain ⟨e1, c, e2, e3⟩ := walk_str.yields i H x H' (by simpa using hi) trivial y
      subst e1 e3
      refine ⟨Hs, .str ⟨#[c]⟩, ?_, Go.refl s, fun _ m => m, .str _⟩
      rw [List.getElem?_map, Array.getElem?_toList, e2]
      rfl⟩⟩
/-! ### x += e, of ints -/
def fAug (i : Nat) (fe : ED) : SD := fun env N R => match env[i]? with | some (.sh (.int a)) => fe env N (fun r N1 => match r with | .int b => R.nx (env.set i (.sh (.int (a + b)))) N1 | _ => False) | _ => False
theorem psd_aug {i : Nat} {x : Str} {p : Pos} {fe : ED} (hN : X.N.Nodup) (hi : X.N[i]? = some x) (hx : Loc X.env.scope x) (h : PEd X C e fe) (hf : X.fn x = true ∨ X.env.scope.names.lookup x = some .local := by first | exact .inl rfl | exact .inr rfl) :
    PSd X C (.AugAssign (.Name x p) .Add e pos) (fAug i fe) :=
  ⟨⟨fun pins s σ H E I ⟨env, Hs, N, R, L, r, sl, hf', k⟩ => (ps_aug hN hi hx h.pe ip_add hf).run pins s σ H E I (by
    unfold fAug at hf'
    split at hf'
    · rename_i a ha
      obtain ⟨v, h1, h2⟩ := r.sh _ _ ha
      cases h2
      refine ⟨_, h1, env, Hs, N, _, r, hf', fun y N1 h1 u H1 Hs1 g1 m1 d1 => ?_⟩
      match y, h1 with
      | .int b, h1 =>
        cases d1
        exact ⟨a, b, rfl, rfl, k.nx _ _ _ _ _ ((r.move g1 m1).set i (by rw [r.len, I.len]; exact (List.getElem?_eq_some_iff.mp hi).1) (.int _)) (sl.trans g1.sh) h1⟩
    · exact hf'.elim)⟩⟩
/-! ### a written table of texts -/
def rInW (K : PySem.W.Frag) (w : World) : R2 := fun x y H Q => ∃ p z v, x = .str z ∧ y = .ref p ∧ (p == sysModules) = false ∧ KDct K w p z v ∧ Q (.bl false) H
theorem op_notinW : OpR X (compareOp .NotIn) (rInW X.K X.w) := by
  intro pins s σ H x y v u Q I rx ry h
  obtain ⟨p, z, r, rfl, rfl, hp, ⟨es, n, u0, hl, hk, e, ru⟩, q⟩ := h
  obtain rfl : u = Value.ref p := ry
  obtain ⟨t, rfl⟩ := rx
  have hm := PySem.W.mapOf_K (prog := X.prog) (w := X.w) I.kIn hl hk
  exact wpAny_notIn_of (strKind_is X.prog X.w z t) hp hm ⟨.bl false, H, I.tok _, by rw [PySem.W.find_K hl e]; rfl, q⟩
def eTab (tab : Str → Option Str) (fb : ED) : ED := fun env N Q => fb env N fun r N1 => match r with | .str x => (match tab x with | some y => Q (.str y) N1 | none => False) | _ => False
def eNotTab (tab : Str → Option Str) (fb : ED) : ED := fun env N Q => fb env N fun r N1 => match r with | .str x => (match tab x with | some y => Q (.bl false) N1 | none => False) | _ => False
/-- what a written table has -/
structure TabW (K : PySem.W.Frag) (w : World) (mg : Str → Option Value) (nm : Str) (tab : Str → Option Str) : Prop where
  at_ : ∃ a, mg nm = some (.ref a) ∧ (a == sysModules) = false ∧ ∀ x y, tab x = some y → KDct K w a x (.str y)
theorem pd_ixW {nm : Str} {tab : Str → Option Str} {p : Pos} (ht : TabW X.K X.w X.mg nm tab) (hb : PEd X C b fb) (hg : Gl X nm := by rfl) (hd : (nm == ("__debug__" : Str)) = false := by decide) (hs : PlainIx b := by exact fun _ _ => rfl) : PEd X C (.Subscript (.Name nm p) b pos) (eTab tab fb) := by
  obtain ⟨a, hm, h0, h1⟩ := ht.at_
  exact ⟨PE.imp (pe_ix ix_kdict (pe_glob (v := .ref a) hg hm rfl hd) hb.pe hs) fun σ H Q ⟨env, Hs, N, R, r, hf, k⟩ => ⟨env, Hs, N, _, r, hf, fun x N1 h2 v H1 Hs1 g1 m1 d1 => by
    match x, h2 with
    | .str z, h2 =>
      cases d1
      cases q : tab z with
      | none => simp only [q] at h2
      | some y =>
        simp only [q] at h2
        exact ⟨a, z, .str y, rfl, rfl, h1 _ _ q, k _ _ h2 _ _ _ g1 m1 (.str _)⟩⟩⟩
theorem pd_notinW {nm : Str} {tab : Str → Option Str} {p : Pos} (ht : TabW X.K X.w X.mg nm tab) (hb : PEd X C b fb) (hg : Gl X nm := by rfl) (hd : (nm == ("__debug__" : Str)) = false := by decide) (hm2 : behindInMarks .NotIn (.Name nm p) = false := by rfl) : PEd X C (.Compare b [.NotIn] [.Name nm p] pos) (eNotTab tab fb) := by
  obtain ⟨a, hm, h0, h1⟩ := ht.at_
  exact ⟨PE.imp (pe_cmpR op_notinW hb.pe (pe_glob (v := .ref a) hg hm rfl hd) hm2) fun σ H Q ⟨env, Hs, N, R, r, hf, k⟩ => ⟨env, Hs, N, _, r, hf, fun x N1 h2 v H1 Hs1 g1 m1 d1 => by
    match x, h2 with
    | .str z, h2 =>
      cases d1
      cases q : tab z with
      | none => simp only [q] at h2
      | some y =>
        simp only [q] at h2
        exact ⟨a, z, .str y, rfl, rfl, h0, h1 _ _ q, k _ _ h2 _ _ _ g1 m1 (.bl _)⟩⟩⟩
theorem ptd_notinW {nm : Str} {tab : Str → Option Str} {p : Pos} (ht : TabW X.K X.w X.mg nm tab) (hb : PEd X C b fb) (hg : Gl X nm := by rfl) (hd : (nm == ("__debug__" : Str)) = false := by decide) (hm2 : behindInMarks .NotIn (.Name nm p) = false := by rfl) : PTd X C (.Compare b [.NotIn] [.Name nm p] pos) (tVal (eNotTab tab fb)) := by
  obtain ⟨a, hm, h0, h1⟩ := ht.at_
  exact ⟨PT.imp (pt_cmpR op_notinW hb.pe (pe_glob (v := .ref a) hg hm rfl hd) hm2) fun σ H Q ⟨env, Hs, N, R, r, hf, k⟩ => ⟨env, Hs, N, _, r, hf, fun x N1 h2 v H1 Hs1 g1 m1 d1 => by
    match x, h2 with
    | .str z, h2 =>
      cases d1
      cases q : tab z with
      | none => simp only [q] at h2
      | some y =>
        simp only [q] at h2
        exact ⟨a, z, .str y, rfl, rfl, h0, h1 _ _ q, false, rfl, k _ _ h2 _ _ g1 m1⟩⟩⟩
/-! ### tuple(range(n)) -/
def eTupRg1 (fa : ED) : ED := fun env N Q => fa env N fun x N1 => match x with | .int n => (-1000000 ≤ n ∧ n ≤ 1000000) ∧ Q (.tup ((List.range n.toNat).map fun i => .int (i : Nat))) N1 | _ => False
theorem pd_tupRg1 {p p2 q : Pos} (hc : X.calm = true) (hg : Gl X "tuple") (hm : X.mg "tuple" = none) (hg2 : Gl X "range") (hm2 : X.mg "range" = none) (ha : PEb X C a fa) (na : starEach [a] X.env = (false, eval a X.env) :: starEach [] X.env := by rfl)
    (nb : starEach [.Call (.Name "range" p2) [a] [] q] X.env = (false, eval (.Call (.Name "range" p2) [a] [] q) X.env) :: starEach [] X.env := by rfl) : PEd X C (.Call (.Name "tuple" p) [.Call (.Name "range" p2) [a] [] q] [] pos) (eTupRg1 fa) :=
  ⟨PE.imp (pe_tupRg hc hg hm (prg_1 hg2 hm2 ha.pe na) nb) fun σ H Q ⟨env, Hs, N, R, r, hf, k⟩ => ⟨env, Hs, N, _, r, hf, fun x N1 h1 v H1 Hs1 g1 m1 d1 => by
    match x, h1 with
    | .int n, ⟨hb, h1⟩ =>
      have := d1.int
      subst this
      exact ⟨n, rfl, ⟨by omega, by omega, by omega, by omega, by omega⟩, fun q hq => k _ _ h1 _ _ _ (g1.trans (Go.new1 g1.sub hq)) (m1.new hq) (.tup upd_same (DvA.same (fun b u e => Rd.get_up e (g1.sub.free hq)) _ _ (by rw [← rgD_zero]; exact dva_rg 0 n)))⟩⟩⟩
end
end Pd
/-! ## The end of a law with tables of code objects, entered with no guard around -/
namespace Rd
open PySem L2 PySem.Spec PyProof.Rows LamX
section
variable {P : Program} {w : World} {K : PySem.W.Frag} {mg mb : Str → Option Value} {k : Nat} {fa a : Addr} {fd : FuncData} {x : Str} {sp : Sp} {s : Shared} {vs : List Value} {ns : List Int} {cs : List (Addr × Addr)}
/-- the defs' tables stand empty, and are none of the written part -/
def Empt (K : PySem.W.Frag) (cs : List (Addr × Addr)) (h : Heap) : Prop := ∀ p ∈ cs, h.get? p.2 = some (PySem.W.tabObj #[]) ∧ K.lookup p.2 = none ∧ PySem.W.codeHdIn K p.1 p.2 = true
/-- entered over an abstract heap that tracks the script and the tables -/
theorem enterT {H : Hp} (KX : K.In s.heap) (hns : s.heap.Ns mainGlobals mg) (hb : s.heap.Ns builtinsNs mb) (hbb : ∀ y : Str, y ≠ "__name__" → mb y = bootBuiltins y) (hlim : s.heap.NoLimit) (hg : s.gens = #[])
    (bmn : ∃ (m : Addr) (u : Obj), mg "__builtins__" = some (.ref m) ∧ m ≠ builtinsNs ∧ s.heap.get? m = some u ∧ u.cls = .type "module" ∧ u.dict = some builtinsNs ∧ u.data = .plain)
    (ha : s.heap.get? a = some { cls := .type "list", data := .seq vs.toArray }) (et : Empt K cs s.heap) (hr : Room k callerA)
    (F : ∀ base : Heap, K.In base → base.Ns mainGlobals mg → (∀ p ∈ cs, TabB base mg p.1 p.2) → FnOkG P w K mg base CX0 k fa fd [x] sp) (hbind : ∀ (s : Shared) (u : Value), BindsTo s fd ⟨[u], []⟩ [(x, u)])
    (only : ∀ b, H b = none ∨ (∃ o xs, H b = some (.frz o (.lst xs))) ∨ ((∃ p ∈ cs, p.2 = b) ∧ H b = some (.tbl #[]))) (at_ : ∀ b, H b ≠ none → (b = a ∧ K.lookup a = none) ∨ ∃ p ∈ cs, p.2 = b) (tb : ∀ p ∈ cs, H p.2 = some (.tbl #[]))
    (hok : HOk P w H s.heap) (hsp : sp [.ref a] H (fun v _ => v = .bl true) fun _ _ _ => False) :
    codeAny (model P w) callerA (.call (.ref fa) ⟨[.ref a], []⟩) (fun r s' => r = .ok (.ret (.bool true)) ∧ OldK s.heap s'.heap ∧ s'.os = s.os ∧ AllBare s'.gens) s := by
  -- what is neither a list nor empty fields isn't tracked
  have clear_of : ∀ {b : Addr} {o : Obj}, s.heap.get? b = some o → (∀ us n, o.data ≠ .seq us n) → o.data ≠ .fields #[] → H b = none := fun {b o} e1 e2 e3 => by
    cases q : H b with
    | none => rfl
    | some u =>
      rcases at_ b (by rw [q]; exact fun z => nomatch z) with ⟨rfl, _⟩ | ⟨p, hp, rfl⟩
      · rw [ha] at e1
        cases e1
        exact absurd rfl (e2 _ _)
      · rw [(et p hp).1] at e1
        cases e1
        exact absurd rfl e3
  have ns_of : ∀ {b : Addr} {m : Str → Option Value}, s.heap.Ns b m → (hidT s.heap H).Ns b m := fun ⟨o, es, ep, e, d, r⟩ => ⟨o, es, ep, hidT_get e (clear_of e (fun us n z => by rw [d] at z; cases z) fun z => by rw [d] at z; cases z), d, r⟩
  have kin : K.In (hidT s.heap H) := fun b o e => hidT_get (KX b o e) (by
    cases q : H b with
    | none => rfl
    | some u =>
      rcases at_ b (by rw [q]; exact fun z => nomatch z) with ⟨rfl, z⟩ | ⟨p, hp, rfl⟩
      · rw [z] at e; cases e
      · rw [(et p hp).2.1] at e; cases e)
  have lim : (hidT s.heap H).NoLimit := let ⟨mc, h1, h2⟩ := hlim; ⟨mc, ns_of h1, h2⟩
  have glob : ∀ {b : Addr}, (∃ o : Obj, s.heap.get? b = some o ∧ o.data = .plain) ∨ b ∈ cs.map (·.2) → b ≠ mainGlobals := fun {b} hb z => by
    obtain ⟨o, es, ep, e, hd, _⟩ := hns
    subst z
    rcases hb with ⟨u, e1, e2⟩ | hb
    · rw [e] at e1
      cases e1
      rw [hd] at e2
      cases e2
    · obtain ⟨p, hp, e2⟩ := List.mem_map.mp hb
      have e1 := (et p hp).1
      rw [e2, e] at e1
      cases e1
      cases hd
  have TB : ∀ p ∈ cs, TabB (hidT s.heap H) mg p.1 p.2 := fun p hp => by
    obtain ⟨m, u, b1, b2, b3, b4, b5, b6⟩ := bmn
    refine ⟨PySem.W.codeHd_of_K kin (et p hp).2.2, ⟨m, u, b1, b2, glob (.inl ⟨u, b3, b6⟩), fun z => ?_, hidT_get b3 (clear_of b3 (fun us n z => by rw [b6] at z; cases z) fun z => by rw [b6] at z; cases z), b4, b5, b6⟩, fun z => glob (.inr (List.mem_map.mpr ⟨p, hp, rfl⟩)) z.symm⟩
    rw [z, (et p hp).1] at b3
    cases b3
    cases b6
  have env : Env0 P w K mg (hidT s.heap H) callerA [] s H :=
    { frames := rfl
      mod := ⟨kin, ns_of hns, ⟨mb, ns_of hb, hbb⟩, lim⟩
      bs := fun b o e => of_hidT e
      bsz := Nat.le_of_eq (hidT_size _ _)
      funs := trivial
      frf := fun b z => nomatch z
      hok := hok
      bare := AllBare.of_eq hg }
  refine codeAny_mono ((F _ kin (ns_of hns) TB).run callerA [] s H ⟨[.ref a], []⟩ [.ref a] [.ref a] _ _ rfl hr env (hbind s (.ref a)) (.cons rfl .nil) hsp) fun r s' h => ?_
  match r, h with
  | .error _, h => exact h.elim
  | .ok .next, h => exact h.elim
  | .ok .brk, h => exact h.elim
  | .ok .cont, h => exact h.elim
  | .ok (.ret u), h =>
    obtain ⟨v, H', os, bare, un, hok', r', q⟩ := h
    have ev : v = .bl true := q
    subst ev
    cases (show u = Value.bool true from r')
    have kept : ∀ b o, b ∉ cs.map (·.2) → s.heap.get? b = some o → s'.heap.get? b = some o := fun b o nb e => by
      rcases only b with z | ⟨ob, xs, z⟩ | ⟨⟨p, hp, rfl⟩, _⟩
      · exact un.keep b o e z (fun z => nomatch z) (fun z => nomatch z)
      · have e1 := (hok b _ z).1
        have e2 := (hok' b _ (un.frzs b ob _ z)).1
        rw [e] at e1
        cases e1
        exact e2
      · exact absurd (List.mem_map.mpr ⟨p, hp, rfl⟩) nb
    have grew : ∀ p ∈ cs, ∃ more : Array Value, s'.heap.get? p.2 = some (PySem.W.tabObj (#[] ++ more)) := fun p hp => by
      obtain ⟨more, z⟩ := un.tbls p.2 #[] (tb p hp)
      exact ⟨more, hok' p.2 _ z⟩
    refine ⟨rfl, ⟨fun b o e => ?_, fun b o e => ?_⟩, os, bare⟩
    · by_cases nb : b ∈ cs.map (·.2)
      · obtain ⟨p, hp, rfl⟩ := List.mem_map.mp nb
        obtain ⟨more, gm⟩ := grew p hp
        have e1 := (et p hp).1
        rw [e] at e1
        cases e1
        exact .inr (.inl ⟨((PySem.W.codeHd_of_K KX (et p hp).2.2).tab (et p hp).1).isCodeTable, rfl, #[], more, rfl, gm⟩)
      · exact .inl (kept b o nb e)
    · by_cases nb : b ∈ cs.map (·.2)
      · obtain ⟨p, hp, rfl⟩ := List.mem_map.mp nb
        obtain ⟨more, gm⟩ := grew p hp
        exact ⟨_, gm⟩
      · exact ⟨o, kept b o nb e⟩
theorem callT (KX : K.In s.heap) (hns : s.heap.Ns mainGlobals mg) (hb : s.heap.Ns builtinsNs mb) (hbb : ∀ y : Str, y ≠ "__name__" → mb y = bootBuiltins y) (hlim : s.heap.NoLimit) (hg : s.gens = #[])
    (bmn : ∃ (m : Addr) (u : Obj), mg "__builtins__" = some (.ref m) ∧ m ≠ builtinsNs ∧ s.heap.get? m = some u ∧ u.cls = .type "module" ∧ u.dict = some builtinsNs ∧ u.data = .plain)
    (ha : s.heap.get? a = some { cls := .type "list", data := .seq vs.toArray }) (hi : IntsAre vs ns) (hl : ns.length ≤ sizeLine) (et : Empt K cs s.heap) (hr : Room k callerA)
    (F : ∀ base : Heap, K.In base → base.Ns mainGlobals mg → (∀ p ∈ cs, TabB base mg p.1 p.2) → FnOkG P w K mg base CX0 k fa fd [x] sp) (hbind : ∀ (s : Shared) (u : Value), BindsTo s fd ⟨[u], []⟩ [(x, u)])
    (hsp : ∀ H : Hp, (∀ p ∈ cs, H p.2 = some (.tbl #[])) → SqL K H a (ns.map V.int) → sp [.ref a] H (fun v _ => v = .bl true) fun _ _ _ => False) :
    codeAny (model P w) callerA (.call (.ref fa) ⟨[.ref a], []⟩) (fun r s' => r = .ok (.ret (.bool true)) ∧ OldK s.heap s'.heap ∧ s'.os = s.os ∧ AllBare s'.gens) s := by
  have rv := vals_ints hi
  have len := hi.length
  have tab : ∀ {b}, b ∈ cs.map (·.2) → s.heap.get? b = some (PySem.W.tabObj #[]) := fun {b} h => by
    obtain ⟨p, hp, rfl⟩ := List.mem_map.mp h
    exact (et p hp).1
  have aT : a ∉ cs.map (·.2) := fun z => by
    have q := tab z
    rw [ha] at q
    cases q
  have inT : ∀ p ∈ cs, p.2 ∈ cs.map (·.2) := fun p hp => List.mem_map.mpr ⟨p, hp, rfl⟩
  have outT : ∀ {b}, b ∈ cs.map (·.2) → ∃ p ∈ cs, p.2 = b := fun {b} h => by
    obtain ⟨p, hp, e⟩ := List.mem_map.mp h
    exact ⟨p, hp, e⟩
  cases hk : K.lookup a with
  | some o =>
    have e := KX a o hk
    rw [ha] at e
    cases e
    let H : Hp := fun b => if b ∈ cs.map (·.2) then some (.tbl #[]) else none
    have yes : ∀ {b}, b ∈ cs.map (·.2) → H b = some (.tbl #[]) := fun h => if_pos h
    have no : ∀ {b}, b ∉ cs.map (·.2) → H b = none := fun h => if_neg h
    refine enterT (H := H) KX hns hb hbb hlim hg bmn ha et hr F hbind (fun b => ?_) (fun b z => ?_) (fun p hp => yes (inT p hp)) (fun b u z => ?_) (hsp H (fun p hp => yes (inT p hp)) (.inr ⟨_, vs.toArray, _, hk, rfl, rfl, rfl, by rw [List.size_toArray, len]; exact hl, by simpa using rv⟩))
    · by_cases h : b ∈ cs.map (·.2)
      · exact .inr (.inr ⟨outT h, yes h⟩)
      · exact .inl (no h)
    · by_cases h : b ∈ cs.map (·.2)
      · exact .inr (outT h)
      · exact absurd (no h) z
    · by_cases h : b ∈ cs.map (·.2)
      · rw [yes h] at z
        cases z
        exact tab h
      · rw [no h] at z
        cases z
  | none =>
    let scr : HO := .frz { cls := .type "list", data := .seq vs.toArray } (.lst (ns.map V.int))
    let H : Hp := fun b => if b = a then some scr else if b ∈ cs.map (·.2) then some (.tbl #[]) else none
    have here : H a = some scr := if_pos rfl
    have yes : ∀ {b}, b ∈ cs.map (·.2) → H b = some (.tbl #[]) := fun {b} h => (if_neg fun (z : b = a) => aT (by rw [← z]; exact h)).trans (if_pos h)
    have no : ∀ {b}, b ≠ a → b ∉ cs.map (·.2) → H b = none := fun n h => (if_neg n).trans (if_neg h)
    refine enterT (H := H) KX hns hb hbb hlim hg bmn ha et hr F hbind (fun b => ?_) (fun b z => ?_) (fun p hp => yes (inT p hp)) (fun b u z => ?_) (hsp H (fun p hp => yes (inT p hp)) (.inl (.inr ⟨_, here⟩)))
    · by_cases h : b ∈ cs.map (·.2)
      · exact .inr (.inr ⟨outT h, yes h⟩)
      · by_cases e : b = a
        · exact .inr (.inl ⟨_, _, e ▸ here⟩)
        · exact .inl (no e h)
    · by_cases h : b ∈ cs.map (·.2)
      · exact .inr (outT h)
      · by_cases e : b = a
        · exact .inl ⟨e, hk⟩
        · exact absurd (no e h) z
    · by_cases h : b ∈ cs.map (·.2)
      · rw [yes h] at z
        cases z
        exact tab h
      · by_cases e : b = a
        · subst e
          rw [here] at z
          cases z
          exact ⟨ha, by rw [List.length_map]; exact hl, vs, _, rv, ha⟩
        · rw [no e h] at z
          cases z
end
theorem walkT {l : PySem.W.OpenLaw} {n k : Nat} {q : Program} {loose : List Str} {XP : (Str → Option Value) → Heap → Prop} {YP : World → Heap → Prop} {d : DefRec} {K : Params → PySem.W.Frag} {sp : List (Addr × Str) → PySem.W.Frag → Sp} {x : Str} (hn : l.most = some n) (hn2 : n ≤ sizeLine) (hdf : d.params.defaults = [])
    (hr : Room k callerA) (hY : ∀ (w : World) (h : Heap), YP w h → (K w.params).In h)
    (F : ∀ (w : World) (mg : Str → Option Value) (fa : Addr) (h : Heap), YP w h → (K w.params).In h → h.Ns mainGlobals mg → mg d.name = some (.ref fa) →
      ∃ (fd : FuncData) (cs : List (Addr × Addr)) (T : List (Addr × Str)), Empt (K w.params) cs h ∧ (∀ p ∈ T, ∃ c ∈ cs, c.2 = p.1) ∧ (∀ (s : Shared) (u : Value), BindsTo s fd ⟨[u], []⟩ [(x, u)]) ∧ ∀ base : Heap, (K w.params).In base → base.Ns mainGlobals mg → (∀ p ∈ cs, TabB base mg p.1 p.2) → FnOkG l.prog w (K w.params) mg base CX0 k fa fd [x] (sp T (K w.params)))
    (hsp : ∀ (T : List (Addr × Str)) (K : PySem.W.Frag) (H : Hp) (a : Addr) (ns : List Int), ns.length ≤ n → (∀ p ∈ T, H p.1 = some (.tbl #[])) → SqL K H a (ns.map V.int) → sp T K [.ref a] H (fun v _ => v = .bl true) fun _ _ _ => False) :
    PySem.W.WalkO q loose XP YP l.row.toRowW d [] (fun f vs => PySem.call f vs) :=
  Att.attach_call hn hdf fun w s₀ s₁ mg mb fa o pm cd doc a vs ns G Y ho hd hcd hmg hobj hints hlen hg => by
    obtain ⟨fd, cs, T, et, hT, hb, hF⟩ := F w mg fa _ Y (hY w _ Y) G.T.g hmg
    exact callT (hY w _ Y) G.T.g G.T.b G.T.builtins G.T.nolimit hg G.T.bmain hobj hints (Nat.le_trans hlen hn2) et hr hF hb fun H hH hS => hsp T _ H a ns hlen (fun p hp => by
      obtain ⟨c, hc, e⟩ := hT p hp
      rw [← e]
      exact hH c hc) hS
theorem tabs_empty {T : List (Addr × Str)} {H : Hp} (h : ∀ p ∈ T, H p.1 = some (.tbl #[])) : LamX.Tabs T H := fun p hp => ⟨#[], h p hp, by first | trivial | exact .nil | simp [TriplesOk], fun pos cv hc => by cases hc⟩
end Rd
/-! ## t[::-1] of a tuple -/
namespace HT
open PySem PySem.Spec PyProof.Rows L2
section
variable {prog : Program} {w : World} {A : Around} {E : Value → Shared → Prop} {s : Shared}
theorem sliceApplied_rev {sl : Addr} {vs : Value} {n : Nat} {Q : Int × Int × Nat → Shared → Prop} (hs : s.heap.IsSliceOf sl .none .none vs) (ps : IsPart vs (some (-1)))
    (h : Q ((n : Int) - 1, -1, n) s) : wpAny (model prog w) A (Builtin.Slice.sliceApplied (.ref sl) (pure (n : Int))) Q E s := by
  obtain ⟨os, hos, hcs, hds⟩ := id hs
  unfold Builtin.Slice.sliceApplied Builtin.Slice.sliceFields
  refine wpAny_bind (wpAny_bind (wpAny_field hos hds (x := .none) rfl (wpAny_bind (wpAny_field hos hds (x := .none) rfl (wpAny_bind (wpAny_field hos hds (x := vs) rfl (wpAny_pure ?_)))))))
  refine wpAny_bind (slicePart_ ps ?_)
  show wpAny _ _ (if ((-1 : Int) == 0) = true then _ else _) _ _ s
  rw [if_neg (by decide)]
  refine wpAny_bind (slicePart_none (wpAny_bind (slicePart_none (wpAny_bind (wpAny_pure ?_)))))
  have e : Builtin.Slice.sliceAdjust none none (-1) (n : Int) = ((n : Int) - 1, -1) := by
    simp [Builtin.Slice.sliceAdjust]
  show wpAny _ _ (match Builtin.Slice.sliceAdjust none none (-1) (n : Int) with | (lo, hi) => pure (lo, (-1 : Int), Builtin.Slice.slicePlaces lo hi (-1))) _ _ s
  rw [e]
  have e2 : Builtin.Slice.slicePlaces ((n : Int) - 1) (-1) (-1) = n := by
    unfold Builtin.Slice.slicePlaces
    simp
    try omega
  show wpAny _ _ (pure ((n : Int) - 1, (-1 : Int), Builtin.Slice.slicePlaces ((n : Int) - 1) (-1) (-1))) _ _ s
  rw [e2]
  exact wpAny_pure h
theorem pick_rev (xs : Array Value) : ((List.range xs.size).filterMap fun (m : Nat) => xs[(((xs.size : Int) - 1) + (m : Int) * (-1)).toNat]?).toArray = xs.toList.reverse.toArray := by
  congr 1
  have e : ∀ k, k ≤ xs.size → ((List.range k).filterMap fun (m : Nat) => xs[(((xs.size : Int) - 1) + (m : Int) * (-1)).toNat]?) = xs.toList.reverse.take k := by
    intro k
    induction k with
    | zero => intro _; simp
    | succ k ih =>
      intro hk
      rw [List.range_succ, List.filterMap_append, ih (by omega)]
      have e1 : (((xs.size : Int) - 1) + (k : Int) * (-1)).toNat = xs.size - 1 - k := by omega
      have e2 : xs.toList.reverse[k]? = xs[xs.size - 1 - k]? := by
        rw [List.getElem?_reverse (by simpa using (by omega : k < xs.size))]
        simp
      have hl : k < xs.toList.reverse.length := by simpa using (by omega : k < xs.size)
      rw [List.take_succ, e2]
      simp only [List.filterMap_cons, List.filterMap_nil, e1]
      cases xs[xs.size - 1 - k]? <;> rfl
  have := e xs.size (Nat.le_refl _)
  rw [this, List.take_of_length_le (by simp)]
theorem getItem_tuple_rev {t sl : Addr} {items : Array Value} {vs : Value} {Q : Value → Shared → Prop} (ht : IsTup s.heap t items) (hs : s.heap.IsSliceOf sl .none .none vs) (ps : IsPart vs (some (-1)))
    (h : Q (.ref s.heap.objs.size) { s with heap := s.heap.push { cls := .type "tuple", data := .seq items.toList.reverse.toArray } })
    (hsz : items.size ≤ sizeLine) : wpAny (model prog w) A (getItem (.ref t) (.ref sl)) Q E s := by
  have htake : sizeOk (.seq items.toList.reverse.toArray) := by
    show items.toList.reverse.toArray.size ≤ sizeLine
    rw [List.size_toArray, List.length_reverse, Array.length_toList]
    exact hsz
  obtain ⟨os, hos, hcs, hds⟩ := id hs
  have hTs : s.TypeIs (.ref sl) "slice" := ⟨os, hos, hcs⟩
  unfold getItem
  try with_reducible refine wpAny_holding ?_
  first | refine wpAny_bind (wpAny_pure ?_) | skip
  refine wpAny_bind (wpAny_sequenceKey ht.typeIs (by decide) ?_)
  refine wpAny_bind (wpAny_callSpecial?_slot (name := Str.ofString "__getitem__") ht.typeIs PyProof.Rows.slot_tuple_getitem
    (wpAny_call_entry PyProof.Rows.slot_tuple_getitem ht.typeIs entry_tuple_getitem ?_ (args_tuple_getitem _ _)))
  show wpAny _ _ (Builtin.Tuple.tupleItemsOf (.ref t) >>= _) _ _ s
  refine wpAny_bind (tupleItemsOf_ ht ?_)
  refine wpAny_bind (wpAny_typeOf hTs ?_)
  rw [if_pos (by decide)]
  refine wpAny_bind (sliceApplied_rev hs ps ?_)
  have hno : ¬ ((((items.size : Int) - 1) == 0 && (-1 : Int) == 1 && items.size == items.size) = true) := by
    intro q
    rw [Bool.and_eq_true, Bool.and_eq_true] at q
    exact absurd q.1.2 (by decide)
  show wpAny _ _ (if (((items.size : Int) - 1) == 0 && (-1 : Int) == 1 && items.size == items.size) = true then _ else _) _ _ s
  rw [if_neg hno, pick_rev]
  first
    | exact wpAny_bind (m := Builtin.Tuple.tupleExact _) (wpAny_newObj_type (wpAny_pure ⟨_, rfl, wpAny_pure h⟩) htake)
    | exact wpAny_bind (m := Builtin.Tuple.tupleExact _) (wpAny_newObj_type (wpAny_bind (wpAny_pure (wpAny_pure ⟨_, rfl, wpAny_pure h⟩))) htake)
    | exact wpAny_bind (wpAny_bind (m := Builtin.Tuple.tupleExact _) (wpAny_newObj_type (wpAny_pure (wpAny_pure ⟨_, rfl, wpAny_pure h⟩)) htake))
    | exact wpAny_bind (wpAny_bind (m := Builtin.Tuple.tupleExact _) (wpAny_newObj_type (wpAny_pure ⟨_, rfl, wpAny_pure h⟩) htake))
end
end HT
namespace L2
open PySem PySem.Spec PyProof.Rows
section
variable {X : Cx}
def tRevT (K : PySem.W.Frag) (te : TE) : TE := fun σ H Q => te σ H fun x H1 => ∃ a xs, x = .ref a ∧ SqT K H1 a xs ∧ ∀ p, H1 p = none → Q (.ref p) (upd H1 p (.tup xs.reverse))
theorem pe_revT {e : Expr} {te : TE} {k : Nat} {p1 p2 p3 pos : Pos} (he : PE X e te) : PE X (.Subscript e (.Slice none none (some (.UnaryOp .USub (.Constant (.int 1) k p1) p2)) p3) pos) (tRevT X.K te) := by
  refine ⟨fun pins s σ H Q I h => ?_⟩
  refine Subscript_ (thn (he.run pins s σ H _ I h) fun v s1 ⟨x, H1, I1, r1, q1⟩ => ?_)
  obtain ⟨a, xs, ex, hx, q⟩ := q1
  subst ex
  cases r1
  have hst : PO X (some (.UnaryOp .USub (.Constant (.int 1) k p1) p2)) (tPart (tUn (rU fun i => .int (-i)) (tC (.int 1)))) := po_some (pe_un un_neg pe_int)
  refine wpAny_Slice ?_
  rw [evalPart_none]
  refine wpAny_pure (wpAny_pure ?_)
  refine thn (hst.run pins s1 σ H1 (fun o H4 => o = some (-1) ∧ H4 = H1) I1 ⟨1, rfl, -1, rfl, rfl, rfl⟩) fun vs s4 ⟨o, H4, I4, ps, eo, e4⟩ => ?_
  subst eo e4
  have I5 : Inv X pins σ H4 { s4 with heap := s4.heap.push { cls := .type "slice", data := .fields #[.none, .none, vs] } } := I4.kept (t' := s4.toks) fun b ob q => Heap.get?_push_of_some _ q
  obtain ⟨its, r, ht, hz⟩ := I5.tuple hx
  have hlen := r.length
  show wpAny (model X.prog X.w) X.A (subscriptTail e (.Slice none none (some (.UnaryOp .USub (.Constant (.int 1) k p1) p2)) p3) (.ref a) (.ref s4.heap.objs.size)) (EP X pins σ Q) X.xe { s4 with heap := s4.heap.push { cls := .type "slice", data := .fields #[.none, .none, vs] } }
  refine tail_any (ops := [.ref a, .ref s4.heap.objs.size]) ht.typeIs (PyProof.Rows.slot_tuple_getitem.lookup) ?_ (by with_unfolding_all rfl)
  refine HT.getItem_tuple_rev ht (Heap.IsSliceOf.new _ .none .none vs) ps ?_ (by rw [List.size_toArray]; omega)
  refine ⟨.ref _, _, I5.laid (t' := s4.toks) (o := .tup xs.reverse) (fun b ob q => Heap.get?_push_of_some _ q) (Nat.le_refl _) ?_, rfl, q _ (I5.hok.fresh (Nat.le_refl _))⟩
  exact ⟨by rw [List.length_reverse]; exact hz, _, r.reverse, IsTup.new _ _⟩
end
end L2
namespace Pd
open PySem PySem.Spec PyProof.Rows L2
section
variable {X : Cx} {C : Cn} {e : Expr} {f : ED} {pos : Pos}
def oRevT : O1
  | .tup xs, P => P (.tup xs.reverse)
  | _, _ => False
theorem pd_revT {k : Nat} {p1 p2 p3 : Pos} (he : PEb X C e f) : PEd X C (.Subscript e (.Slice none none (some (.UnaryOp .USub (.Constant (.int 1) k p1) p2)) p3) pos) (eUn oRevT f) := ⟨PE.imp (pe_revT he.pe) fun σ H Q ⟨env, Hs, N, R, r, hf, k⟩ =>
  ⟨env, Hs, N, _, r, hf, fun x N1 h1 v H1 Hs1 g1 m1 d1 => by
    match x, h1 with
    | .tup xs, h1 =>
      obtain ⟨p, vs, rfl, e1, e1s, e2⟩ := d1.tup g1.sub
      exact ⟨p, vs, rfl, SqT.of e1, fun q hq => k _ _ h1 _ _ _ (g1.trans (Go.new1 g1.sub hq)) (m1.new hq) (.tup upd_same (DvA.same (fun b u e => Rd.get_up e (g1.sub.free hq)) _ _ e2.rev))⟩⟩⟩
end
end Pd
namespace Pd
open PySem PySem.Spec PyProof.Rows L2
section
variable {X : Cx} {C : Cn} {c a b : Expr} {pos : Pos}
/-- x if t else y, not unfolded by a walk -/
def eIfK (t : TD) (fa fb : ED) : ED := eIf t fa fb
theorem pd_ifExpK {ft : TD} {fa fb : ED} (hc : PTd X C c ft) (ha : PEd X C a fa) (hb : PEd X C b fb) : PEd X C (.IfExp c a b pos) (eIfK ft fa fb) := pd_ifExp hc ha hb
theorem ifK_gen {t : TD} {fa fb : ED} {env : PEnv} {N : Nat} {Q : D → Nat → Prop} (Ph : (D → Nat → Prop) → Prop) (h : ∀ Q, Ph Q → eIf t fa fb env N Q) (q : Ph Q) : eIfK t fa fb env N Q := h Q q
end
end Pd
namespace Pd
open PySem PySem.Spec PyProof.Rows L2
/-- an expression not unfolded by a walk -/
def eHide (f : ED) : ED := f
theorem pd_hide {X : Cx} {C : Cn} {e : Expr} {f : ED} (h : PEd X C e f) : PEd X C e (eHide f) := h
end Pd
namespace Pd
open PySem PySem.Spec PyProof.Rows L2
/-- an if not unfolded by a walk -/
def fIfK (t : TD) (f g : SD) : SD := fIf t f g
theorem psd_ifK {X : Cx} {C : Cn} {c : Expr} {a b : List Stmt} {t : TD} {f g : SD} {pos : Pos} (hc : PTd X C c t) (ha : PSsd X C a f) (hb : PSsd X C b g) : PSd X C (.If c a b pos) (fIfK t f g) := psd_if hc ha hb
theorem ifK_step {t : TD} {f g : SD} {env : PEnv} {N : Nat} {R : PEnds} (h : t env N fun b N1 => if b = true then f env N1 R else g env N1 R) : fIfK t f g env N R := h
theorem hide5 {f : ED} {env : PEnv} {N : Nat} {Q : D → Nat → Prop} (h : f env N Q) : eHide f env N Q := h
theorem ifQ5 {c : Prop} [Decidable c] {A B : Prop} (h1 : c → A) (h2 : ¬ c → B) : if c then A else B := by split <;> simp_all
end Pd
/-! ## Any data: what is a term, a paper; sizes (plain) -/
namespace Pd
open PySem PySem.Spec PyProof.Rows L2 Tmm
theorem isWord_wd {s : Str} (h : isWord s = true) : ∃ b, s = wd b := by
  unfold isWord at h
  rw [Bool.or_eq_true] at h
  rcases h with h | h
  · exact ⟨true, eq_of_beq h⟩
  · exact ⟨false, eq_of_beq h⟩
mutual
theorem trm_of : ∀ (v : D) (ns : List Int), lv v = some ns → (∀ i ∈ ns, 0 ≤ i) → ∃ t : Trm, t.toD = v ∧ t.ok = true ∧ (t.tasks.map fun n => ((n : Nat) : Int)).Perm ns
  | .int i, ns, h, h0 => by
    simp only [lv, Option.some.injEq] at h
    subst h
    have := h0 i (by simp)
    refine ⟨.task i.toNat, by simp only [Trm.toD, nD, D.int.injEq]; omega, by simp [Trm.ok], ?_⟩
    simp only [Trm.tasks, List.map_cons, List.map_nil, Int.toNat_of_nonneg this]
    exact List.Perm.refl _
  | .tup xs, ns, h, h0 => by
    simp only [lv] at h
    exact trm_ofT xs ns h h0
  | .non, ns, h, _ => by simp [lv] at h
  | .bl _, ns, h, _ => by simp [lv] at h
  | .str _, ns, h, _ => by simp [lv] at h
  | .lst _, ns, h, _ => by simp [lv] at h
  | .ins _ _, ns, h, _ => by simp [lv] at h
  | .exc _ _, ns, h, _ => by simp [lv] at h
  | .fn _, ns, h, _ => by simp [lv] at h
  | .mt, ns, h, _ => by simp [lv] at h
  | .drw, ns, h, _ => by simp [lv] at h
theorem trm_ofT : ∀ (xs : List D) (ns : List Int), lvT xs = some ns → (∀ i ∈ ns, 0 ≤ i) → ∃ t : Trm, t.toD = .tup xs ∧ t.ok = true ∧ (t.tasks.map fun n => ((n : Nat) : Int)).Perm ns
  | [], ns, h, _ => by simp [lvT] at h
  | x :: rest, ns, h, h0 => by
    cases x with
    | str s =>
      simp only [lvT] at h
      split at h
      · rename_i h2
        obtain ⟨b, rfl⟩ := isWord_wd h2.1
        obtain ⟨ts, e1, e2, e3⟩ := trm_ofA rest ns h h0
        refine ⟨.node b ts, by rw [Trm.toD, e1], ?_, by simpa only [Trm.tasks] using e3⟩
        simp only [Trm.ok, Bool.and_eq_true, decide_eq_true_eq]
        refine ⟨?_, e2⟩
        have := congrArg List.length e1
        rw [Trm.toDL_len] at this
        omega
      · cases h
    | _ => simp [lvT] at h
theorem trm_ofA : ∀ (xs : List D) (ns : List Int), lvA xs = some ns → (∀ i ∈ ns, 0 ≤ i) → ∃ ts : List Trm, Trm.toDL ts = xs ∧ Trm.okL ts = true ∧ ((Trm.tasksL ts).map fun n => ((n : Nat) : Int)).Perm ns
  | [], ns, h, _ => by
    simp only [lvA, Option.some.injEq] at h
    subst h
    exact ⟨[], by simp [Trm.toDL], by simp [Trm.okL], by simp [Trm.tasksL]⟩
  | x :: xs, ns, h, h0 => by
    simp only [lvA] at h
    cases h1 : lvA xs with
    | none => rw [h1] at h; simp at h
    | some b =>
      cases h2 : lv x with
      | none => rw [h1, h2] at h; simp at h
      | some a =>
        rw [h1, h2] at h
        simp only [Option.some.injEq] at h
        subst h
        obtain ⟨t, e1, e2, e3⟩ := trm_of x a h2 fun i hi => h0 i (by simp [hi])
        obtain ⟨ts, g1, g2, g3⟩ := trm_ofA xs b h1 fun i hi => h0 i (by simp [hi])
        refine ⟨t :: ts, by rw [Trm.toDL, e1, g1], by simp only [Trm.okL, e2, g2, Bool.and_self], ?_⟩
        rw [Trm.tasksL, List.map_append]
        exact (e3.append g3).trans List.perm_append_comm
end
theorem full_of {v : D} (h : IsTm v) : ∃ t : Trm, v = t.toD ∧ Full t := by
  obtain ⟨ns, h1, h2⟩ := h
  obtain ⟨t, e1, e2, e3⟩ := trm_of v ns h1 fun i hi => (isT_range h2 i hi).1
  have hl : t.tasks.length = ns.length := by
    have := e3.length_eq
    simpa using this
  have p : (t.tasks.map fun n => ((n : Nat) : Int)).Perm ((List.range t.tasks.length).map fun n => ((n : Nat) : Int)) := by
    rw [hl]
    exact e3.trans h2.1
  obtain ⟨ms, m1, m2⟩ := perm_nats p
  have em : t.tasks = ms := map_inj (fun _ _ z => Int.ofNat.inj z) m1
  subst em
  exact ⟨t, e1.symm, ⟨e2, by rw [hl]; exact h2.2, m2⟩⟩
theorem isTm_full {t : Trm} : IsTm t.toD → ∃ u : Trm, t.toD = u.toD ∧ Full u := full_of
theorem toldR_inj {n : Nat} {R S : Nat → Nat → Bool} (hR : OrdN n R) (hS : OrdN n S) : toldR n R = toldR n S ↔ R = S := by
  constructor
  · intro e
    funext x y
    rw [Bool.eq_iff_iff]
    constructor
    · intro h
      have : (x, y) ∈ toldR n R := mem_toldR.mpr ⟨(hR.lt h).1, (hR.lt h).2, h⟩
      rw [e] at this
      exact (mem_toldR.mp this).2.2
    · intro h
      have : (x, y) ∈ toldR n S := mem_toldR.mpr ⟨(hS.lt h).1, (hS.lt h).2, h⟩
      rw [← e] at this
      exact (mem_toldR.mp this).2.2
  · rintro rfl; rfl
/-! ### equal to a word, among words, an empty tuple -/
theorem eqv_word {s : Str} {x : D} (hx : x.fine 60 = true) : PyData.eqv (D.str s).py x.py = (match x with | .str z => s == z | _ => false) := by
  cases x <;> first | rfl | (simp [D.fine] at hx; done) | (simp [D.py, PyData.eqv]; done)
def isOne (s z : Str) : D → Bool
  | .str x => x == s || x == z
  | _ => false
theorem oIn_two {s z : Str} {x : D} {neg : Bool} {P : D → Prop} (hx : x.fine 60 = true) (h1 : PyData.strOk s = true) (h2 : PyData.strOk z = true) (h : P (.bl (isOne s z x != neg))) : oIn neg x (.tup [.str s, .str z]) P := by
  refine ⟨fine_eqOk hx (by omega), fine_eqOk (k := 60) (by simp [D.fine, D.fineA, h1, h2]) (by omega), ?_⟩
  have e : ([D.str s, D.str z].any fun q => PyData.eqv q.py x.py) = isOne s z x := by
    simp only [List.any_cons, List.any_nil, Bool.or_false, eqv_word hx]
    cases x <;> simp [isOne]
    rename_i q
    rw [BEq.comm (a := s), BEq.comm (a := z)]
  rw [e]
  exact h
theorem oEq_nilT {xs : List D} {neg : Bool} {P : D → Prop} (g : (D.tup xs).fine 60 = true) (h : P (.bl (xs.isEmpty != neg))) : oEq neg (.tup xs) (.tup []) P := by
  refine ⟨fine_eqOk g (by omega), fine_eqOk (k := 60) (by simp [D.fine, D.fineA]) (by omega), ?_⟩
  have e : PyData.eqv (D.tup xs).py (D.tup []).py = xs.isEmpty := by
    cases xs <;> simp [D.py, D.pyA, PyData.eqv, PyData.eqvAll]
  rw [e]
  exact h
/-! ### choosing from a display; sizes -/
theorem atI_pick {α : Type} {xs : List α} {j : Int} (h0 : 0 ≤ j) (h1 : j < xs.length) : ∃ d, d ∈ xs ∧ atI xs j = some d := by
  obtain ⟨k, rfl⟩ := Int.eq_ofNat_of_zero_le h0
  rw [atI_nat']
  have hk : k < xs.length := by omega
  exact ⟨xs[k], List.getElem_mem hk, List.getElem?_eq_getElem hk⟩
theorem szA_take (xs : List D) (k : Nat) : D.szA (xs.take k) + D.szA (xs.drop k) = D.szA xs := by
  rw [← szA_append, List.take_append_drop]
theorem szA_drop1 (xs : List D) (k : Nat) : D.szA (xs.drop (k + 1)) ≤ D.szA (xs.drop k) := by
  by_cases h : k < xs.length
  · rw [List.drop_eq_getElem_cons h]
    simp only [D.szA]
    omega
  · rw [List.drop_of_length_le (by omega)]
    simp [D.szA]
theorem szA_rev : ∀ xs : List D, D.szA xs.reverse = D.szA xs
  | [] => rfl
  | x :: xs => by
    rw [List.reverse_cons, szA_append, szA_rev xs]
    simp only [D.szA]
    omega
theorem cutL_sub {α : Type} {xs : List α} {lo hi : Option Int} {z : α} (h : z ∈ cutL xs lo hi) : z ∈ xs := List.mem_of_mem_drop (List.mem_of_mem_take h)
/-- fine, small -/
structure Sm (k m : Nat) (x : D) : Prop where
  f : x.fine k = true
  s : x.sz ≤ m
theorem Sm.up {k m k' m' : Nat} {x : D} (h : Sm k m x) (hk : k ≤ k') (hm : m ≤ m') : Sm k' m' x := ⟨fine_up h.f hk, Nat.le_trans h.s hm⟩
theorem sm_tup {k m : Nat} {xs : List D} (hf : ∀ x ∈ xs, x.fine k = true) (hs : D.szA xs + 1 ≤ m) : Sm (k + 1) m (.tup xs) := ⟨by simp only [D.fine]; exact fineA_mem.mpr hf, by simpa only [D.sz] using hs⟩
theorem sm_lst {k m : Nat} {xs : List D} (hf : ∀ x ∈ xs, x.fine k = true) (hs : D.szA xs + 1 ≤ m) : Sm (k + 1) m (.lst xs) := ⟨by simp only [D.fine]; exact fineA_mem.mpr hf, by simpa only [D.sz] using hs⟩
theorem tup_fine {k : Nat} {xs : List D} (h : (D.tup xs).fine (k + 1) = true) : ∀ x ∈ xs, x.fine k = true := by
  simp only [D.fine] at h
  exact fineA_mem.mp h
/-- all whole: they are tasks -/
theorem whole_nats {n : Nat} : ∀ {xs : List D}, (∀ x ∈ xs, ∃ i : Int, x = .int i ∧ 0 ≤ i ∧ i < n) → ∃ ns : List Nat, xs = ns.map nD ∧ ∀ a ∈ ns, a < n
  | [], _ => ⟨[], rfl, fun _ h => by cases h⟩
  | x :: xs, h => by
    obtain ⟨i, rfl, h0, h1⟩ := h x (by simp)
    obtain ⟨ns, rfl, hn⟩ := whole_nats (xs := xs) fun y hy => h y (by simp [hy])
    refine ⟨i.toNat :: ns, ?_, fun a ha => ?_⟩
    · simp only [List.map_cons, nD, Int.toNat_of_nonneg h0]
    · rcases List.mem_cons.mp ha with e | ha
      · omega
      · exact hn a ha
end Pd
/-! ## Defs over data that may raise -/
namespace Rd
open PySem L2 PySem.Spec PyProof.Rows
/-- a def that may raise, entered with no guard around -/
theorem okGX {P : Program} {w : World} {K : PySem.W.Frag} {mg : Str → Option Value} {base : Heap} {nm qual : Str} {st : Stmt} {f : Addr} {fd : FuncData} {N ps : List Str} {k : Nat} {sp : Sp} (F : Fun K nm qual st f fd) (S : FnScope N ps (defScope st))
    (len : ∀ vs H Q E, sp vs H Q E → vs.length = ps.length)
    (body : ∀ (cdv : Value) (A : Around) (outer : List Env) (s : Shared) (H : Hp) (vs : List V) (Q : VK) (E : XK), A.guards = some [] → Room k (A.deeper (envOfC qual (defScope st) s.heap.objs.size f cdv)) → sp vs H Q E →
      ∃ t, PSs (cxOf (L2.CX P w) P w K mg base N qual (defScope st) f cdv A outer s H E) (defBody st) t ∧ t { nx := fun _ H' => Q .non H', rt := Q } (start N vs) H) : FnOkG P w K mg base (L2.CX P w) (k + 1) f fd ps sp := by
  obtain ⟨oc, od, kV, doc, pm, an, cdv, ct, osl, rfl, lk, hcd⟩ := F.ex
  refine ⟨len, fun A outer s H args us vs Q E hG hr e0 hb r hsp => ?_⟩
  have KX : K.In s.heap := e0.mod.kin.keeps fun b o e => (e0.bs b o e).1
  have places : ∀ y ∈ ps.zip us, (defScope st).names.lookup y.1 = some .local ∨ ((defScope st).names.lookup y.1 = some .cell ∧ ((cellsFrom (s.heap.objs.size + 1) (defScope st).names []).lookup y.1).isSome = true) := fun y hy =>
    (S.par y.1 (List.of_mem_zip hy).1).imp id fun q => ⟨q, PySem.W.cellsFrom_some _ _ _ (.inl q)⟩
  refine codeAny_call_function hr.depth (KX _ _ lk) rfl S.co S.gen rfl (PySem.W.codeRec_of KX hcd) (hb _ _ _ _ (wpAny_newFunctionEnv_cells S.kind places fun env he s1 x => ?_))
  subst he
  refine ⟨(e0.mod.nolimit.keeps fun b o e => (e0.bs b o e).1).keeps x.toInCall.keep, codeAny_func ?_⟩
  obtain ⟨t, ht, hq⟩ := body cdv A outer s H vs Q E hG (hr.deeper _) hsp
  refine wpAny_mono (ht.run [] s1 (start N vs) H _ (inv_start S hr.hd e0 (len _ _ _ _ hsp) r x) hq) (fun fl s' hs => ?_) fun e s' hs => hs
  match fl, hs with
  | .ret u, ⟨v, σ', H', J, rv, q⟩ => exact ⟨v, H', J.os, J.bare, J.base, J.hok, rv, q⟩
  | .next, ⟨σ', H', J, q⟩ => exact ⟨.non, H', J.os, J.bare, J.base, J.hok, rfl, q⟩
  | .brk, ⟨_, _, _, q⟩ => exact q.elim
  | .cont, ⟨_, _, _, q⟩ => exact q.elim
theorem pe_callGX {X : Cx} {k : Nat} {x : Str} {ps : List Str} {sp : Sp} {p pos : Pos} {e : Expr} {es : List Expr} {t : TA} {E : L2.St → XK} (C : CalleeG X.prog X.w X.K X.mg X.base (L2.CX X.prog X.w) k x ps sp) (hG : X.A.guards = some []) (hr : Room k X.A) (hx : ∀ σ, PassesAt (L2.CX X.prog X.w) X σ (E σ))
    (ha : PA X (e :: es) t) (hg : Gl X x := by rfl) (hdb : (x == ("__debug__" : Str)) = false := by decide)
    (he : starEach (e :: es) X.env = (false, eval e X.env) :: starEach es X.env := by rfl) (hpl : (backTo pos (starEach es X.env)).any (·.1) = false := by rfl) : PE X (.Call (.Name x p) (e :: es) [] pos) (tCallS sp E t) := by
  obtain ⟨f, fd, hm, kp, b, F⟩ := C
  refine ⟨fun pins s σ H Q I h => wpAny_Call_Name_kw (ld_glob I hg hm (PySem.W.callWith_K (h₀ := X.base) I.ok.mod.kin kp (thn (ha.run pos pins s σ H _ I h) fun us s1 ⟨vs, H1, I1, r, q⟩ => ⟨I1.kIn, ?_⟩) he hpl) hdb)⟩
  have hb := b s1 us I1.kIn (by rw [List.append_nil]; exact r.length.symm.trans (F.len _ _ _ _ q))
  rw [List.append_nil] at hb
  refine wpAny_call (codeAny_mono (F.run X.A X.stack s1 H1 ⟨us, []⟩ us vs Q (E σ) hG hr I1.env0 hb r q) fun r s' hq => ?_)
  match r, hq with
  | .error e, z => exact hx σ pins H1 s1 e s' I1 z
  | .ok (.ret u), z => exact I1.after z
  | .ok .next, z => exact z.elim
  | .ok .brk, z => exact z.elim
  | .ok .cont, z => exact z.elim
end Rd
namespace Pd
open PySem L2 PySem.Spec PyProof.Rows Exv Exz Exs
/-- a way out by an exception: its class, its fields -/
abbrev ExD := Str → List (Str × D) → Nat → Prop
abbrev ExE := PEnv → ExD
def XFd (K : PySem.W.Frag) (mg : Str → Option Value) (w : Dr) (Hs : Hp) (d : Option Addr) (fs : List (Str × D)) : Prop := (d = none ∧ fs = []) ∨ ∃ dd fv, d = some dd ∧ Hs dd = some (.xd fv) ∧ DvF K mg w Hs fv fs
theorem XFd.same {K : PySem.W.Frag} {mg : Str → Option Value} {w : Dr} {Hs Hs' : Hp} {d : Option Addr} {fs : List (Str × D)} (h : XFd K mg w Hs d fs) (s : Same Hs Hs') : XFd K mg w Hs' d fs :=
  h.imp id fun ⟨dd, fv, e, h1, h2⟩ => ⟨dd, fv, e, s _ _ h1, DvF.same s _ _ h2⟩
/-- the wish of a def over data -/
def WD (K : PySem.W.Frag) (mg : Str → Option Value) (C : Cn) (Ex : ExE) : WX := fun cls d σ H => ∃ env Hs N c Ca fs, Rep K mg C env σ H Hs N ∧ mg c = some (.ref Ca) ∧ cls = .ref Ca ∧ XFd K mg C.w Hs d fs ∧ Ex env c fs N
abbrev FX := List D → Nat → (D → Nat → Prop) → ExD → Prop
/-- what a def promises that may raise -/
def spX (T : LTabs) (K : PySem.W.Frag) (mg : Str → Option Value) (n : Nat) (F : FX) : Sp := fun vs H Q E => ∃ (w : Dr) (Hs : Hp) (N : Nat) (ds : List D) (R : D → Nat → Prop) (Ex : ExD), w.T = T ∧ vs.length = n ∧ Same Hs H ∧ Ms w H N ∧ Hs w.d = none ∧ OutT w Hs ∧ DvA K mg w Hs vs ds ∧ F ds N R Ex ∧
  (∀ r N', R r N' → ∀ v H' Hs', Go w H Hs H' Hs' → Ms w H' N' → Dv K mg w Hs' v r → Q v H') ∧
  ∀ c fs N', Ex c fs N' → ∀ Ca d H' Hs', Go w H Hs H' Hs' → Ms w H' N' → mg c = some (.ref Ca) → XFd K mg w Hs' d fs → E (.ref Ca) d H'
abbrev CalleeX (T : LTabs) (P : Program) (w : World) (K : PySem.W.Frag) (mg : Str → Option Value) (base : Heap) (k : Nat) (x : Str) (ps : List Str) (F : FX) : Prop := Rd.CalleeG P w K mg base (L2.CX P w) k x ps (spX T K mg ps.length F)
def eFnX (n : Nat) (F : FX) (Ex : ExE) (fa : AD) : ED := fun env N Q => fa env N fun rs N1 => rs.length = n ∧ F rs N1 Q (fun c fs N2 => Ex env c fs N2)
def fRaise (Ex : ExE) (c f : Str) (fe : ED) : SD := fun env N _ => fe env N fun r N1 => Ex env c [(f, r)] N1
section
variable {X : Cx} {C : Cn} {e : Expr} {es : List Expr} {pos p pos' : Pos} {x f : Str} {fa : AD} {fe : ED} {k : Nat} {ps : List Str} {F : FX} {Ex : ExE} {Ca : Addr}
theorem pd_callX (Cl : CalleeX C.w.T X.prog X.w X.K X.mg X.base k x ps F) (tk : L2.Takes X (WD X.K X.mg C Ex)) (hG : X.A.guards = some []) (hr : Room k X.A) (ha : PAd X C (e :: es) fa) (hg : Gl X x := by rfl) (hdb : (x == ("__debug__" : Str)) = false := by decide)
    (he : starEach (e :: es) X.env = (false, eval e X.env) :: starEach es X.env := by rfl) (hpl : (backTo pos (starEach es X.env)).any (·.1) = false := by rfl) : PEd X C (.Call (.Name x p) (e :: es) [] pos) (eFnX ps.length F Ex fa) :=
  ⟨PE.imp (Rd.pe_callGX Cl hG hr (fun σ => passAt tk σ) ha.pa hg hdb he hpl) fun σ H Q ⟨env, Hs, N, R, r, hf, kk⟩ => ⟨env, Hs, N, _, r, hf, fun rs N1 ⟨hl, h1⟩ vs H1 Hs1 g1 m1 d1 => ⟨C.w, Hs1, N1, rs, R, _, rfl, by rw [d1.len]; exact hl, g1.sub, m1, (r.move g1 m1).hd, (r.move g1 m1).hg, d1, h1,
    fun q N2 hq v H2 Hs2 g2 m2 d2 => kk _ _ hq _ _ _ (g1.trans g2) m2 d2, fun c fs N2 hx Ca d H2 Hs2 g2 m2 hc xf => ⟨env, Hs2, N2, c, Ca, fs, (r.move g1 m1).move g2 m2, hc, rfl, xf, hx⟩⟩⟩⟩
theorem psd_raise (hc : X.calm = true) (tk : L2.Takes X (WD X.K X.mg C Ex)) (M : Maker X.prog X.w X.K X.mg X.base x f Ca) (ty : PySem.W.typeIn X.K (.ref Ca) = some (.type "type")) (hr : Room 2 X.A) (he : PEd X C e fe) (hg : Gl X x := by rfl) (hdb : (x == ("__debug__" : Str)) = false := by decide)
    (hst : starEach [e] X.env = (false, eval e X.env) :: starEach [] X.env := by rfl) (hpl : (backTo pos (starEach [] X.env)).any (·.1) = false := by rfl) : PSd X C (.Raise (some (.Call (.Name x p) [e] [] pos)) none pos') (fRaise Ex x f fe) :=
  ⟨PS.imp (L2.ps_raise hc tk (pmk_x M ty hr (pad_cons he pad_nil hst).pa hg hdb hst hpl)) fun E σ H ⟨env, Hs, N, R, L, r, s, hf, k⟩ => ⟨env, Hs, N, fun rs N' => match rs with | [q] => Ex env x [(f, q)] N' | _ => False, r, hf, fun rs N1 h1 vs H1 Hs1 g1 m1 d1 => by
    match rs, h1, d1 with
    | [q], h1, .cons (vs := []) dv .nil =>
      refine ⟨_, rfl, fun d hd => ⟨env, upd Hs1 d (.xd [(f, _)]), N1, x, Ca, [(f, q)], (r.move g1 m1).move (Go.new1 g1.sub hd) (m1.new hd), M.1, rfl, .inr ⟨d, _, rfl, upd_same, .cons (Dv.same (fun b u z => Rd.get_up z (g1.sub.free hd)) _ _ dv) .nil⟩, h1⟩⟩⟩⟩
end
/-- THE RULE for a def that may raise -/
theorem okDX {T : LTabs} {P : Program} {w : World} {K : PySem.W.Frag} {mg : Str → Option Value} {base : Heap} {nm qual : Str} {st : Stmt} {f : Addr} {fd : FuncData} {N ps : List Str} {k : Nat} {F : FX} (Fu : Fun K nm qual st f fd) (S : FnScope N ps (defScope st))
    (body : ∀ (cdv : Value) (A : Around) (outer : List Env) (s : Shared) (H : Hp) (E : XK) (C : Cn) (Ex : ExD), C.w.T = T → A.guards = some [] → Room k (A.deeper (envOfC qual (defScope st) s.heap.objs.size f cdv)) →
      L2.Takes (cxOf (L2.CX P w) P w K mg base N qual (defScope st) f cdv A outer s H E) (WD K mg C fun _ => Ex) →
      ∃ g, PSsd (cxOf (L2.CX P w) P w K mg base N qual (defScope st) f cdv A outer s H E) C (defBody st) g ∧ ∀ ds M R, ds.length = ps.length → F ds M R Ex → g (env0 N.length ds) M { nx := fun _ n => R .non n, rt := R }) :
    Rd.FnOkG P w K mg base (L2.CX P w) (k + 1) f fd ps (spX T K mg ps.length F) :=
  Rd.okGX Fu S (fun vs H Q E ⟨_, _, _, _, _, _, _, hl, _⟩ => hl) fun cdv A outer s H vs Q E hG hr ⟨dr, Hs, M, ds, R, Ex, hT, hl, s0, m, hd, hg, da, hF, kk, kx⟩ => by
    obtain ⟨g, hp, hgo⟩ := body cdv A outer s H E ⟨dr, H, Hs, 0⟩ Ex hT hG hr ((L2.takes_of rfl rfl rfl rfl).imp fun cls d σ H' ⟨env, Hs', N', c, Ca, fs, r, hc, e, xf, hx⟩ => by
      subst e
      exact kx c fs N' hx Ca d H' Hs' r.go r.m hc xf)
    refine ⟨_, hp.ps, env0 N.length ds, Hs, M, _, Hs, Rep.start s0 m hd hg da, Same.refl _, hgo ds M R (by rw [← da.len]; exact hl) hF, ⟨fun env' n σ' H' Hs' r' _ hn => ?_, fun q n v H' Hs' g' m' d' hr' => kk _ _ hr' _ _ _ g' m' d', fun _ _ _ _ _ _ _ z => z.elim, fun _ _ _ _ _ _ _ z => z.elim⟩⟩
    exact kk _ _ hn _ _ _ r'.go r'.m .non
/-- one that raises nothing here is as one that never raises -/
theorem callee_of {T : LTabs} {P : Program} {w : World} {K : PySem.W.Frag} {mg : Str → Option Value} {base : Heap} {k : Nat} {x : Str} {ps : List Str} {F : FX} {G : FD} (Cl : CalleeX T P w K mg base k x ps F) (h : ∀ ds N R, G ds N R → F ds N R fun _ _ _ => False) : CalleeD T P w K mg base k x ps G := by
  obtain ⟨f, fd, hm, kp, b, Fo⟩ := Cl
  refine ⟨f, fd, hm, kp, b, fun vs H Q E ⟨_, _, _, _, _, _, hl, _⟩ => hl, fun A outer s H args us vs Q E hG hr e0 hb r ⟨dr, Hs, M, ds, R, hT, hl, s0, m, hd, hg, da, hF, kk⟩ => ?_⟩
  refine codeAny_mono (Fo.run A outer s H args us vs Q (fun _ _ _ => False) hG hr e0 hb r ⟨dr, Hs, M, ds, R, _, hT, hl, s0, m, hd, hg, da, h _ _ _ hF, kk, fun _ _ _ z => z.elim⟩) fun rr s' q => ?_
  match rr, q with
  | .error _, ⟨_, _, _, _, _, _, _, _, _, _, _, _, z⟩ => exact z.elim
  | .ok (.ret u), z => exact z
  | .ok .next, z => exact z.elim
  | .ok .brk, z => exact z.elim
  | .ok .cont, z => exact z.elim
/-- called where nothing is caught: it raises nothing here -/
def FX.calm (F : FX) : FD := fun ds N Q => F ds N Q fun _ _ _ => False
theorem callee_calm {T : LTabs} {P : Program} {w : World} {K : PySem.W.Frag} {mg : Str → Option Value} {base : Heap} {k : Nat} {x : Str} {ps : List Str} {F : FX} (Cl : CalleeX T P w K mg base k x ps F) : CalleeD T P w K mg base k x ps (FX.calm F) := callee_of Cl fun _ _ _ h => h
end Pd
/-! ## try .. except over data; lambdas handed to a def -/
namespace Pd
open PySem L2 PySem.Spec PyProof.Rows Exv Exz Exs
def noOwn (env : PEnv) : PEnv := env.map fun s => match s with | .sh r => .sh r | _ => .no
theorem noOwn_get {env : PEnv} {i : Nat} {s : Sl} (h : (noOwn env)[i]? = some s) : s = .no ∨ ∃ r, s = .sh r ∧ env[i]? = some (.sh r) := by
  unfold noOwn at h
  rw [List.getElem?_map] at h
  cases q : env[i]? with
  | none => rw [q] at h; cases h
  | some x =>
    rw [q] at h
    cases x with
    | sh r => cases h; exact .inr ⟨r, rfl, rfl⟩
    | no => cases h; exact .inl rfl
    | ow _ => cases h; exact .inl rfl
    | ob _ _ => cases h; exact .inl rfl
section
variable {K : PySem.W.Frag} {mg : Str → Option Value} {C : Cn} {env : PEnv} {σ : L2.St} {H Hs H' Hs' : Hp} {N N' : Nat}
theorem Rep.base (r : Rep K mg C env σ H Hs N) : Rep K mg { C with H0 := H, HB := Hs } (noOwn env) σ H Hs N where
  m := r.m
  hd := r.hd
  hg := r.hg
  go := Go.refl r.s
  len := by unfold noOwn; rw [List.length_map]; exact r.len
  sh := fun i x e => by
    rcases noOwn_get e with z | ⟨r', z, q⟩
    · cases z
    · cases z; exact r.sh i _ q
  ow := fun i xs e => by rcases noOwn_get e with z | ⟨r', z, q⟩ <;> cases z
  ob := fun i c fs e => by rcases noOwn_get e with z | ⟨r', z, q⟩ <;> cases z
  sep := fun i j a _ h => by
    rcases h with ⟨_, z⟩ | ⟨_, _, z⟩ <;> (rcases noOwn_get z with z | ⟨r', z, q⟩ <;> cases z)
theorem Rep.unbase (r : Rep K mg { C with H0 := H, HB := Hs } env σ H' Hs' N') (g : Go C.w C.H0 C.HB H Hs) : Rep K mg C env σ H' Hs' N' := by
  have old : ∀ {a : Addr}, H a = none → C.H0 a = none := fun {a} h => by
    cases q : C.H0 a with
    | none => rfl
    | some o => exact absurd h (g.there a (by rw [q]; exact fun z => by cases z))
  exact
    { m := r.m, hd := r.hd, hg := r.hg, go := g.trans r.go, len := r.len, sh := r.sh, sep := r.sep
      ow := fun i xs e => by
        obtain ⟨a, vs, h1, h2, h3, h4⟩ := r.ow i xs e
        exact ⟨a, vs, h1, h2, old h3, h4⟩
      ob := fun i c fs e => by
        obtain ⟨a, C', dx, vs, h1, h2, h3, h4, h5, h6, h7, h8, h9, h10⟩ := r.ob i c fs e
        exact ⟨a, C', dx, vs, h1, h2, h3, h4, h5, h6, h7, h8, h9, old h10⟩ }
end
/-- try: body / except (..) as i: j = i -/
def fTry (i j : Nat) (hit : Str → Bool) (g : ExE → SD) : SD := fun env N R => g (fun env' c fs N' => hit c = true ∧ R.nx (((env'.set i (.sh (.exc c fs))).set j (.sh (.exc c fs))).set i .no) N') (noOwn env) N R
section
variable {X : Cx} {C : Cn} {y1 y2 n y : Str} {c1 c2 : Value} {i j kt : Nat} {body : List Stmt} {p1 p2 pt py pn' sp pos pos' : Pos} {hit : Str → Bool} {g : ExE → SD}
theorem psd_tryStore (hs : X.stack = X.env :: X.outer) (hf : X.env.frame = some X.env.locals) (hex : X.ex = []) (hN : X.N.Nodup) (hi : X.N[i]? = some n) (hln : X.env.kindOf n = some .local) (hj : X.N[j]? = some y) (hly : X.env.kindOf y = some .local)
    (h1 : Names X y1 c1) (h2 : Names X y2 c2) (hits : ∀ c Ca, hit c = true → X.mg c = some (.ref Ca) → PySem.W.exmAny X.K (.ref Ca) [c1, c2] = some true)
    (hb : ∀ (H0 HB : Hp) (N0 : Nat) (Ex : ExE) (pl : List (Addr × Obj)) (xe : Value → Shared → Prop), Go C.w C.H0 C.HB H0 HB → Ms C.w H0 N0 → L2.Takes (X.tr pl xe) (WD X.K X.mg { C with H0 := H0, HB := HB } Ex) → PSsd (X.tr pl xe) { C with H0 := H0, HB := HB } body (g Ex))
    (hsw : ∀ (a : Addr) (pl : List (Addr × Obj)), PS (X.suite a pl) (.Assign [.Name y py] (.Name n pn') sp) (tAsg (tVar i) (gName j))) :
    PSd X C (.Try body [.ExceptHandler (some (.Tuple [.Name y1 p1, .Name y2 p2] kt pt)) (some n) [.Assign [.Name y py] (.Name n pn') sp] pos'] [] [] pos) (fTry i j hit g) := by
  have hi' := (List.getElem?_eq_some_iff.mp hi).1
  have hj' := (List.getElem?_eq_some_iff.mp hj).1
  refine ⟨PS.imp (ps_try_store (Wout := fun _ _ _ _ => False) (tb := fun W D σ H => ∃ env Hs N R L Ex, Rep X.K X.mg C env σ H Hs N ∧ Same L Hs ∧ g Ex (noOwn env) N R ∧ Fits X.K X.mg { C with H0 := H, HB := Hs } L R D ∧ ∀ cls d σ' H', WD X.K X.mg { C with H0 := H, HB := Hs } Ex cls d σ' H' → W cls d σ' H')
    hs hf hex hN hi hln hj hly h1 h2 takes0 (fun W pl xe tk _ => ⟨fun pins s σ H D I ⟨env, Hs, N, R, L, Ex, r, sl, hg, fits, hW⟩ => (hb H Hs N Ex pl xe r.go r.m (L2.Takes.imp tk hW)).ps.run pins s σ H D I ⟨noOwn env, Hs, N, R, L, r.base, sl, hg, fits⟩⟩) hsw) ?_⟩
  rintro E σ H ⟨env, Hs, N, R, L, r, sl, hg, k⟩
  refine ⟨env, Hs, N, R, L, _, r, sl, hg, ⟨fun e' n' σ' H' Hs' r' s' q => k.nx _ _ _ _ _ (r'.unbase r.go) s' q, fun q n' v H' Hs' g' m' d' q' => k.rt _ _ _ _ _ (r.go.trans g') m' d' q', fun e' n' σ' H' Hs' r' s' q => k.bk _ _ _ _ _ (r'.unbase r.go) s' q, fun e' n' σ' H' Hs' r' s' q => k.ct _ _ _ _ _ (r'.unbase r.go) s' q⟩, ?_⟩
  rintro cls d σ' H' ⟨env', Hs', N', c, Ca, fs, r', hc, rfl, xf, hh, hn⟩
  refine ⟨true, hits c Ca hh hc, fun _ => ⟨Ca, rfl, fun a na hl => ?_⟩, fun z => by cases z⟩
  have lift : Same Hs' (upd Hs' a (exr a Ca d)) := fun b u z => Rd.get_up z (r'.s.free na)
  have dv : Dv X.K X.mg C.w (upd Hs' a (exr a Ca d)) (.ref a) (.exc c fs) := by
    rcases xf.same lift with ⟨rfl, rfl⟩ | ⟨dd, fv, rfl, h1, h2⟩
    · exact .exc0 upd_same hc
    · exact .exc upd_same h1 hc h2
  have r1 := (r'.unbase r.go).move (Go.new1 (o := exr a Ca d) r'.s na) (r'.m.new na)
  have hlen : env'.length = X.N.length := r'.len.trans hl
  have r2 := r1.set i (by rw [hlen]; exact hi') dv
  have r3 := r2.set j (by rw [List.length_set, hlen]; exact hj') dv
  have r4 := r3.clr i
  exact k.nx _ _ _ _ _ r4 ((sl.trans r'.go.sh).trans lift) hn
end
end Pd
/-! ## A lambda handed to a def that calls it -/
namespace Pd
open PySem L2 PySem.Spec PyProof.Rows Exv Exz Exs LamX
/-- a function object, as it is -/
def LamO (f : Addr) (o : Obj) : HO := .ext fun h => h.get? f = some o
theorem lamO_ok {P : Program} {w : World} {H : Hp} {h : Heap} {f : Addr} {o : Obj} (e : h.get? f = some o) : ObjOk P w H h f (LamO f o) := ⟨e, ⟨o, e⟩, fun _ _ z k => k _ z⟩
/-- the reading of a lambda that is called: ways on, ways out -/
abbrev FL := Nat → (D → Nat → Prop) → ExD → Prop
def eAct (i : Nat) (f : Addr) (fl : FL) (Ex : ExE) : ED := fun env N Q => env[i]? = some (.sh (.fn f)) ∧ ∃ Q' Ex', fl N Q' Ex' ∧ (∀ r N', Q' r N' → Q r N') ∧ ∀ c fs N', Ex' c fs N' → Ex env c fs N'
section
variable {X : Cx} {pins : List (Addr × Obj)} {σ : L2.St} {H : Hp} {s : Shared}
/-- the lambda is called, in the frame of the def that got it -/
theorem pe_actD {Ng : List Str} {qg : Str} {sg : Scope} {g f c' : Addr} {cdg pm ctv : Value} {params : Arguments} {body : Expr} {scope : Scope} {k i : Nat} {a : Str} {pl : List (Addr × Obj)} {xe : Value → Shared → Prop} {W : WX} {tb : XK → TE} {p1 p2 : Pos}
    (I : Inv X pins σ H s) (L : LamS X.env.scope scope)
    (hbind : bindArgs (PySem.W.kla_fn "<lambda>" (X.env.qual ++ "<lambda>") params body scope (cloFrom X.env.cells scope.names []) pm (.ref c') ctv) ⟨[], []⟩ = pure [])
    (tk : L2.Takes ((cxOf CX0 X.prog X.w X.K X.mg X.base Ng qg sg g cdg X.A X.stack s H E0).tr pl xe) W) (hG : X.A.guards = some []) (hr : Room (k + 1) (X.A.deeper (envOfC qg sg s.heap.objs.size g cdg)))
    (hbody : ∀ (A : Around) (outer : List Env) (s : Shared) (H : Hp) (E : XK), A.guards = some [] → Room k (A.deeper (lamEnv X scope s.heap.objs.size f c')) → PE (lamCx X A outer s H E scope f c') body (tb E))
    (hN : Ng[i]? = some a) (hv : Vis sg a) (hd : (a == ("__debug__" : Str)) = false := by decide) (hcd : (a == ("__classdict__" : Str)) = false := by decide) :
    PE ((cxOf CX0 X.prog X.w X.K X.mg X.base Ng qg sg g cdg X.A X.stack s H E0).tr pl xe) (.Call (.Name a p1) [] [] p2)
      (fun σZ HZ Q => σZ[i]? = some (some (.ref f)) ∧ HZ f = some (LamO f (PySem.W.kla_obj "<lambda>" (X.env.qual ++ "<lambda>") params body scope (cloFrom X.env.cells scope.names []) pm c' ctv)) ∧ HZ c' = some (CodeO c' (X.env.qual ++ "<lambda>")) ∧ tb (WE W σZ) σ HZ Q) := by
  refine ⟨fun pinsZ sZ σZ HZ Q IZ ⟨h1, h2, h3, h4⟩ => wpAny_Call_Name_kw (thn ((pe_var (pos := p1) (i := i) hN hv hd hcd).run pinsZ sZ σZ HZ (fun v H1 => v = .ref f ∧ H1 = HZ) IZ ⟨.ref f, h1, rfl, rfl⟩) fun u s1 ⟨v, H1, I1, r1, ev, eH⟩ => ?_)⟩
  subst ev eH
  obtain rfl : u = Value.ref f := r1
  have of1 : s1.heap.get? f = some _ := (I1.hok f _ h2).1
  refine PySem.W.callWith_F0 ⟨_, _, _, _, of1⟩ ?_
  have un : Un (frs X.stack) [] H H1 s.heap s1.heap := I1.base
  obtain ⟨⟨oc, vs, t, hoc, hdc, hvc⟩, _, _⟩ := I1.hok c' _ h3
  have rc : codeAny (model X.prog X.w) (X.A.deeper (envOfC qg sg s.heap.objs.size g cdg)) (.call (.ref f) ⟨[], []⟩) (CR (L2.CX X.prog X.w) (envOfC qg sg s.heap.objs.size g cdg :: X.stack) X.prog X.w H1 s1 Q (WE W σZ)) s1 := by
    refine PySem.W.kla_callFunE hr.depth of1 rfl L.co L.gen rfl ⟨c', oc, vs, t, rfl, hoc, hdc, hvc⟩ ?_
    rw [hbind]
    refine wpAny_pure (wpAny_newFunctionEnv (fun y hy => (L.own y hy).2) (fun y hy => by cases hy) (fun h₁ ns sb => ⟨I1.nolimit.fresh _ sb, ?_⟩) L.kind)
    show codeAny _ _ (.expr body (lamEnv X scope s1.heap.objs.size f c')) _ _
    have kp : ∀ b o, s1.heap.get? b = some o → h₁.get? b = some o := fun b o e => sb.extBut b o (Nat.ne_of_lt (Heap.lt_size e)) (Heap.get?_push_of_some _ e)
    have J := lam_start2 (E := WE W σZ) (f := f) (c' := c') (tk := s1.toks + ([] : List (Str × Value)).length) I L I1.env0 hr.hd un ns kp
    refine PySem.W.kla_codeExpr (wpAny_mono ((hbody (X.A.deeper (envOfC qg sg s.heap.objs.size g cdg)) _ s1 H1 (WE W σZ) (Rd.guards_deeper hG) (hr.deeper _)).run [] _ _ H1 Q J h4) (fun v s' hq => ?_) fun e s' hq => hq)
    obtain ⟨w', H', J', rv, q⟩ := hq
    exact ⟨w', H', J'.os, J'.bare, J'.base, J'.hok, rv, q⟩
  refine wpAny_call (codeAny_mono rc fun r s' hq => ?_)
  match r, hq with
  | .error e, z => exact passAt tk σZ pinsZ H1 s1 e s' I1 z
  | .ok (.ret u), z => exact I1.after z
  | .ok .next, z => exact z.elim
  | .ok .brk, z => exact z.elim
  | .ok .cont, z => exact z.elim
end
/-- what a def of one parameter promises that calls what it gets -/
def LamOk (T : LTabs) (P : Program) (w : World) (K : PySem.W.Frag) (mg : Str → Option Value) (base : Heap) (k : Nat) (x a : Str) (F : FL → Nat → (D → Nat → Prop) → Prop) : Prop :=
  ∃ (g : Addr) (fd : FuncData) (st : Stmt) (Ng : List Str), Fun K x x st g fd ∧ mg x = some (.ref g) ∧ PySem.W.keepIn K (.ref g) = true ∧ Binds K fd [a] [] ∧ FnScope Ng [a] (defScope st) ∧ Ng[0]? = some a ∧ Vis (defScope st) a ∧
    ∀ (cdv : Value) (A : Around) (outer : List Env) (s : Shared) (H : Hp) (C : Cn) (f : Addr) (fl : FL) (N : Nat) (R : D → Nat → Prop), C.w.T = T → A.guards = some [] → Room k (A.deeper (envOfC x (defScope st) s.heap.objs.size g cdv)) →
      (∀ (pl : List (Addr × Obj)) (xe : Value → Shared → Prop) (H0 HB : Hp) (N0 : Nat) (Ex : ExE) (p1 p2 : Pos), Go C.w C.H0 C.HB H0 HB → Ms C.w H0 N0 → L2.Takes ((cxOf CX0 P w K mg base Ng x (defScope st) g cdv A outer s H E0).nox.tr pl xe) (WD K mg { C with H0 := H0, HB := HB } Ex) →
        PEd ((cxOf CX0 P w K mg base Ng x (defScope st) g cdv A outer s H E0).nox.tr pl xe) { C with H0 := H0, HB := HB } (.Call (.Name a p1) [] [] p2) (eAct 0 f fl Ex)) →
      F fl N R → ∃ gS, PSsd (cxOf CX0 P w K mg base Ng x (defScope st) g cdv A outer s H E0).nox C (defBody st) gS ∧ gS (env0 Ng.length [.fn f]) N { nx := fun _ n => R .non n, rt := R }
def eLam (F : FL → Nat → (D → Nat → Prop) → Prop) (fb : ExD → ED) : ED := fun env N Q => F (fun N' R Ex => fb Ex (noOwn env) N' R) N Q
section
variable {X : Cx} {C : Cn} {x a : Str} {F : FL → Nat → (D → Nat → Prop) → Prop} {fb : ExD → ED} {k : Nat} {c P : Addr} {params : Arguments} {body : Expr} {scope : Scope} {p lpos pos : Pos}
theorem pd_lamcall (Lo : LamOk C.w.T X.prog X.w X.K X.mg X.base (k + 1) x a F) (hGu : X.A.guards = some []) (hr : Room (k + 2) X.A) (TB : TabB X.base X.mg c P) (hc : X.env.code = .ref c)
    (hm : (P, X.env.qual ++ "<lambda>") ∈ C.w.T) (only : ∀ q ∈ C.w.T, q.1 = P → q.2 = X.env.qual ++ "<lambda>") (L : LamS X.env.scope scope) (hdef : defaultsOf params X.env = ([], []))
    (hbind : ∀ (q : Str) (cl : List (Str × Addr)) (pm cv ctv : Value), bindArgs (PySem.W.kla_fn "<lambda>" q params body scope cl pm cv ctv) ⟨[], []⟩ = pure [])
    (hbody : ∀ (A : Around) (outer : List Env) (s : Shared) (H H0 HB : Hp) (E : XK) (f c' : Addr) (Ex : ExD), A.guards = some [] → Room k (A.deeper (lamEnv X scope s.heap.objs.size f c')) → L2.Takes (lamCx X A outer s H E scope f c') (WD X.K X.mg { C with H0 := H0, HB := HB } fun _ => Ex) →
      PEd (lamCx X A outer s H E scope f c') { C with H0 := H0, HB := HB } body (fb Ex))
    (hg : Gl X x := by rfl) (hdb : (x == ("__debug__" : Str)) = false := by decide) (hd : (a == ("__debug__" : Str)) = false := by decide) (hcd : (a == ("__classdict__" : Str)) = false := by decide) :
    PEd X C (.Call (.Name x p) [.Lambda params body scope lpos] [] pos) (eLam F fb) := by
  obtain ⟨g, fd, st, Ng, Fu, hmx, kp, bi, Sg, hNg, hva, ok⟩ := Lo
  obtain ⟨oc, od, kV, doc, pmg, an, cdv, ct, osl, rfl, lk, hcd'⟩ := Fu.ex
  refine ⟨⟨fun pins s σ H Q I ⟨env, Hs, N, R, r, hF, kk⟩ => wpAny_Call_Name_kw (ld_glob I hg hmx ?_ hdb)⟩⟩
  refine PySem.W.callWith_K (h₀ := X.base) I.ok.mod.kin kp ?_ (by rfl) (by rfl)
  show wpAny _ _ (spliced ((false, eval (.Lambda params body scope lpos) X.env) :: backTo pos (starEach [] X.env))) _ _ s
  refine Calls.spliced_cons (Lk.lam_mk I TB hc hm only r.m.2.1 hdef (L.has I.ok) fun f c' pm ctv H1 s1 big M => ?_)
  refine Calls.spliced_nil ⟨M.inv.kIn, ?_⟩
  obtain ⟨g1, m1⟩ := go_made r.s r.m r.hg M
  have newf : s.heap.get? f = none := by
    cases q : s.heap.get? f with
    | none => rfl
    | some o => exact absurd (Nat.lt_of_lt_of_le (Heap.lt_size q) big) (Nat.lt_irrefl _)
  have new0 : X.s_0.heap.get? f = none := by
    cases q : X.s_0.heap.get? f with
    | none => rfl
    | some o => exact absurd (Nat.lt_of_lt_of_le (Heap.lt_size q) (Nat.le_trans I.sz big)) (Nat.lt_irrefl _)
  have I2 : Inv X pins σ (upd H1 f (LamO f _)) s1 := trackO M.inv M.at_ (fun v z => by cases z) M.out (fun z => by
      have := I.lt
      rw [← z] at this
      exact absurd (Nat.lt_of_lt_of_le this big) (Nat.lt_irrefl _)) new0 (fun q hq z => by
      have := (I.pin q hq).1
      rw [z, newf] at this
      cases this) (lamO_ok M.at_)
  have g2 : Go C.w H Hs (upd H1 f (LamO f (PySem.W.kla_obj "<lambda>" (X.env.qual ++ "<lambda>") params body scope (cloFrom X.env.cells scope.names []) pm c' ctv))) (upd Hs f (LamO f (PySem.W.kla_obj "<lambda>" (X.env.qual ++ "<lambda>") params body scope (cloFrom X.env.cells scope.names []) pm c' ctv))) :=
    g1.trans (Go.new1 (r.move g1 m1).s M.out)
  have m2 := m1.new (o := LamO f (PySem.W.kla_obj "<lambda>" (X.env.qual ++ "<lambda>") params body scope (cloFrom X.env.cells scope.names []) pm c' ctv)) M.out
  have r2 := r.move g2 m2
  have nfd : f ≠ C.w.d := fun z => m1.some.1 (by rw [← z]; exact M.out)
  have nfg : f ≠ C.w.g := fun z => m1.some.2.1 (by rw [← z]; exact M.out)
  have hcode : upd H1 f (LamO f (PySem.W.kla_obj "<lambda>" (X.env.qual ++ "<lambda>") params body scope (cloFrom X.env.cells scope.names []) pm c' ctv)) c' = some (CodeO c' (X.env.qual ++ "<lambda>")) := (upd_ne (ne_of_none M.code M.out)).trans M.code
  have ncd : c' ≠ C.w.d := fun z => by
    obtain ⟨⟨cs, gs, n, h1, _⟩, _⟩ := m1
    have := M.code
    rw [z, h1] at this
    unfold CodeO at this
    cases this
  have ncg : c' ≠ C.w.g := fun z => by
    obtain ⟨⟨cs, gs, n, _, _, h3, _⟩, _⟩ := m1
    have := M.code
    rw [z, h3] at this
    unfold CodeO at this
    cases this
  have rc : codeAny (model X.prog X.w) X.A (.call (.ref g) ⟨[.ref f], []⟩) (CR CX0 X.stack X.prog X.w (upd H1 f (LamO f (PySem.W.kla_obj "<lambda>" (X.env.qual ++ "<lambda>") params body scope (cloFrom X.env.cells scope.names []) pm c' ctv))) s1 Q E0) s1 := by
    refine run_ofS (N := Ng) (ps := [a]) (us := [.ref f]) (vs := [.ref f]) lk hcd' Sg hr I2.env0 (bi s1 [.ref f] I2.kIn rfl) (.cons rfl .nil) rfl fun hr' => ?_
    have lo := ok cdv X.A X.stack s1 (upd H1 f (LamO f (PySem.W.kla_obj "<lambda>" (X.env.qual ++ "<lambda>") params body scope (cloFrom X.env.cells scope.names []) pm c' ctv))) ⟨C.w, upd H1 f (LamO f (PySem.W.kla_obj "<lambda>" (X.env.qual ++ "<lambda>") params body scope (cloFrom X.env.cells scope.names []) pm c' ctv)), upd Hs f (LamO f (PySem.W.kla_obj "<lambda>" (X.env.qual ++ "<lambda>") params body scope (cloFrom X.env.cells scope.names []) pm c' ctv)), 0⟩ f
      (fun N' R Ex => fb Ex (noOwn env) N' R) N R rfl hGu hr'
    obtain ⟨gS, hp, hgo⟩ := lo (by
      intro pl xe H0 HB N0 Ex p1 p2 gt mt tk
      refine ⟨PE.imp (pe_actD (f := f) (c' := c') (pm := pm) (ctv := ctv) (tb := fun E σM HZ Q' => ∃ HsZ NZ R' Ex', Rep X.K X.mg { C with H0 := HZ, HB := HsZ } (noOwn env) σM HZ HsZ NZ ∧ fb Ex' (noOwn env) NZ R' ∧ (∀ r N', R' r N' → ∀ v H' Hs', Go C.w HZ HsZ H' Hs' → Ms C.w H' N' → Dv X.K X.mg C.w Hs' v r → Q' v H') ∧
          ∀ c fs N', Ex' c fs N' → ∀ Ca d H' Hs', Go C.w HZ HsZ H' Hs' → Ms C.w H' N' → X.mg c = some (.ref Ca) → XFd X.K X.mg C.w Hs' d fs → E (.ref Ca) d H')
        I2 L (hbind _ _ _ _ _) tk hGu hr' (fun A outer s H E hG' hr2 => ⟨fun pins' s' σ' H' Q' I' ⟨HsZ, NZ, R', Ex', rZ, hfb, kn, kx⟩ => ?_⟩) hNg hva hd hcd) fun σZ HZ Q' ⟨envZ, HsZ, NZ, R', rZ, ⟨e0, R'', Ex'', hfl, iR, iE⟩, kk'⟩ => ?_⟩
      · exact (hbody A outer s H H' HsZ E f c' Ex' hG' hr2 (L2.Takes.imp (L2.takes_of rfl rfl rfl rfl) fun cls d σ2 H2 ⟨envL, HsL, NL, cL, CaL, fsL, rL, hcL, eL, xfL, hxL⟩ => by
          subst eL
          exact kx cL fsL NL hxL CaL d H2 HsL rL.go rL.m hcL xfL)).pe.run pins' s' σ' H' Q' I' ⟨noOwn env, HsZ, NZ, R', rZ, hfb, fun q n hq v H2 Hs2 g2 m2 d2 => kn q n hq v H2 Hs2 g2 m2 d2⟩
      · obtain ⟨v0, q1, q2⟩ := rZ.sh 0 _ e0
        cases q2
        have gZ := gt.trans rZ.go
        exact ⟨q1, gZ.keep f _ nfd nfg (fun ps z => by cases z) upd_same, gZ.keep c' _ ncd ncg (fun ps z => codeO_ne ps z) hcode, HsZ, NZ, R'', Ex'', (r2.move gZ rZ.m).base, hfl, fun q n hq => kk' q n (iR q n hq), fun c fs N' hx Ca d H' Hs' g' m' hc' xf => ⟨envZ, Hs', N', c, Ca, fs, rZ.move g' m', hc', rfl, xf, iE c fs N' hx⟩⟩) hF
    refine ⟨_, hp.ps.nox, env0 Ng.length [.fn f], _, N, _, _, Rep.start g2.sub m2 r2.hd r2.hg (.cons (.fn upd_same) .nil), Same.refl _, hgo, ⟨fun env' n σ' H' Hs' r' _ hn => ?_, fun q n v H' Hs' g' m' d' hr' => kk _ _ hr' _ _ _ (g2.trans g') m' d', fun _ _ _ _ _ _ _ z => z.elim, fun _ _ _ _ _ _ _ z => z.elim⟩⟩
    exact kk _ _ hn _ _ _ (g2.trans r'.go) r'.m .non
  refine wpAny_call (codeAny_mono rc fun rr s2 hq => ?_)
  match rr, hq with
  | .error e, z => exact z.elim
  | .ok (.ret u), z => exact I2.after z
  | .ok .next, z => exact z.elim
  | .ok .brk, z => exact z.elim
  | .ok .cont, z => exact z.elim
end
end Pd
/-! ## Caught exceptions over data: isinstance, a field -/
namespace Exz
open PySem L2 PySem.Spec PyProof.Rows Exv
def ExA (H : Hp) (a C : Addr) (fs : List (Str × V)) : Prop := (fs = [] ∧ H a = some (exr a C none)) ∨ ∃ dd, H a = some (exr a C (some dd)) ∧ H dd = some (.xd fs)
def rIsY (K : PySem.W.Frag) : List V → Hp → VK → Prop := fun xs H Q => ∃ (a C : Addr) (fs : List (Str × V)) (c : V) (u : Value) (b : Bool), xs = [.ref a, c] ∧ ClsV c u ∧ ExA H a C fs ∧ L2.ExcC K C ∧ PySem.W.kitOne K (.ref C) u = some b ∧ Q (.bl b) H
def tYF (K : PySem.W.Frag) (f : Str) (te : TE) : TE := fun σ H Q => te σ H fun x H1 => ∃ (a C dd : Addr) (fs : List (Str × V)) (v : V), x = .ref a ∧ L2.ExcC K C ∧ PySem.W.findIn K (.ref C) f = some none ∧ H1 a = some (exr a C (some dd)) ∧ H1 dd = some (.xd fs) ∧ fs.lookup f = some v ∧ Q v H1
section
variable {X : Cx} {e : Expr} {te : TE} {f : Str} {pos : Pos}
theorem call_isY : CallR X (.builtin "isinstance") (rIsY X.K) := fun pins s σ H xs us Q I r ⟨a, C, fs, c, u, b, ex, k, hx, T, e, q⟩ => by
  subst ex
  obtain ⟨u1, u2, rfl, r1, r2⟩ := vals2 r
  have e2 := k.eq r2
  subst e2
  cases (show u1 = Value.ref a from r1)
  have fin : ∀ {od : Option Obj} {ox : Obj}, PySem.W.InstAt s.heap a ox C od → wpAny (model X.prog X.w) X.A (call (.builtin "isinstance") [.ref a, u2]) (EP X pins σ Q) X.xe s := fun J =>
    PySem.W.kia_one (kitx_exc T.hg T.hk T.hs T.hd T.ha T.hn T.ht T.hm) I.kIn J e (fun z => nomatch z) fun tk => ⟨.bl b, H, I.tok tk, rfl, q⟩
  rcases hx with ⟨_, h1⟩ | ⟨dd, h1, h2⟩
  · obtain ⟨o, fs', e1, e2, e3, e4⟩ := exr_at I.hok h1
    exact fin (od := none) ⟨e1, e2, by unfold PySem.W.notCls; rw [e4], by rw [e3]; trivial⟩
  · obtain ⟨o, fs', e1, e2, e3, e4⟩ := exr_at I.hok h1
    obtain ⟨mA, hns, hr⟩ := (show ObjOk X.prog X.w H s.heap dd (.xd fs) from I.hok dd _ h2)
    obtain ⟨od, hod, hl⟩ := lookIn_ns hns
    exact fin (od := some od) ⟨e1, e2, by unfold PySem.W.notCls; rw [e4], by rw [e3]; exact hod⟩
theorem pe_yfld (he : PE X e te) (hb : attributeBase e f X.env (eval e X.env) = eval e X.env := by rfl) : PE X (.Attribute e f pos) (tYF X.K f te) :=
  ⟨fun pins s σ H Q I h => attr_of hb (thn (he.run pins s σ H _ I h) fun u s1 ⟨x, H1, I1, rx, a, C, dd, fs, v, ex, T, hno, h1, h2, hl, q⟩ => by
    subst ex
    cases rx
    obtain ⟨o, fs', e1, e2, e3, e4⟩ := exr_at I1.hok h1
    obtain ⟨mA, hns, hr⟩ := (show ObjOk X.prog X.w H1 s1.heap dd (.xd fs) from I1.hok dd _ h2)
    obtain ⟨od, hod, hlk⟩ := lookIn_ns hns
    obtain ⟨u, hu, ru⟩ := RelO.some_of (v := v) (o := mA f) (by rw [← hl]; exact hr f)
    exact HandSPX.exc_get I1.kIn (⟨e1, e2, by unfold PySem.W.notCls; rw [e4], by rw [e3]; exact hod⟩ : PySem.W.InstAt s1.heap a o C (some od)) T.hg T.hk T.hs (PySem.W.findObj_own T.hd hno rfl (by rw [hlk, hu])) (handed_of ru) ⟨v, H1, I1.tok _, ru, q⟩)⟩
end
end Exz
namespace Pd
open PySem L2 PySem.Spec PyProof.Rows Exv Exz
/-- which error class is a kind of which -/
def IsTab (K : PySem.W.Frag) (mg : Str → Option Value) (tab : Str → Str → Option Bool) : Prop := ∀ c x b, tab c x = some b → ∀ Ca, mg c = some (.ref Ca) → L2.ExcC K Ca ∧ (∀ Cx, mg x = some (.ref Cx) → PySem.W.kitOne K (.ref Ca) (.ref Cx) = some b) ∧
  (mg x = none → ∀ U, bootBuiltins x = some (.type U) → PySem.W.kitOne K (.ref Ca) (.type U) = some b)
/-- which fields are an error's own -/
def FlTab (K : PySem.W.Frag) (mg : Str → Option Value) (fl : Str → Str → Bool) : Prop := ∀ c f, fl c f = true → ∀ Ca, mg c = some (.ref Ca) → L2.ExcC K Ca ∧ PySem.W.findIn K (.ref Ca) f = some none
def eIsiE (tab : Str → Str → Option Bool) (x : Str) (fe : ED) : ED := fun env N Q => fe env N fun r N1 => match r with | .exc c _ => (match tab c x with | some b => Q (.bl b) N1 | none => False) | _ => False
def eFldE (fl : Str → Str → Bool) (f : Str) (fe : ED) : ED := fun env N Q => fe env N fun r N1 => match r with | .exc c fs => fl c f = true ∧ (match fs.lookup f with | some q => Q q N1 | none => False) | _ => False
section
variable {X : Cx} {C : Cn} {e : Expr} {fe : ED} {p p2 pos : Pos} {x f : Str} {tab : Str → Str → Option Bool} {fl : Str → Str → Bool}
theorem exA_of {w : Dr} {H Hs : Hp} {v : V} {c : Str} {fs : List (Str × D)} (s : Same Hs H) (h : Dv X.K X.mg w Hs v (.exc c fs)) : ∃ a Ca fv, v = .ref a ∧ X.mg c = some (.ref Ca) ∧ ExA H a Ca fv := by
  cases h with
  | exc h1 h2 h3 h4 => exact ⟨_, _, _, rfl, h3, .inr ⟨_, s _ _ h1, s _ _ h2⟩⟩
  | exc0 h1 h2 => exact ⟨_, _, [], rfl, h2, .inl ⟨rfl, s _ _ h1⟩⟩
theorem pd_isiE {Cx : Addr} (IT : IsTab X.K X.mg tab) (hg : Gl X "isinstance") (hm : X.mg "isinstance" = none) (hx : X.mg x = some (.ref Cx)) (h : PEd X C e fe) (hgx : Gl X x := by rfl) (hdx : (x == ("__debug__" : Str)) = false := by decide)
    (hs : starEach [e, .Name x p2] X.env = (false, eval e X.env) :: starEach [.Name x p2] X.env := by rfl) (hs2 : starEach [.Name x p2] X.env = (false, eval (.Name x p2) X.env) :: starEach [] X.env := by rfl)
    (hpl : (backTo pos (starEach [.Name x p2] X.env)).any (·.1) = false := by rfl) : PEd X C (.Call (.Name "isinstance" p) [e, .Name x p2] [] pos) (eIsiE tab x fe) :=
  ⟨PE.imp (pe_callB call_isY hg hm (by decide +kernel) (pa_cons h.pe (pa_cons (Rd.pe_cls hx hgx hdx) pa_nil hs2) hs) (by decide) (by decide) hs hpl) fun σ H Q ⟨env, Hs, N, R, r, hf, k⟩ => ⟨env, Hs, N, _, r, hf, fun y N1 h1 v H1 Hs1 g1 m1 d1 => by
    match y, h1 with
    | .exc c fs, h1 =>
      cases z : tab c x with
      | none => simp only [z] at h1
      | some b =>
        simp only [z] at h1
        obtain ⟨a, Ca, fv, rfl, hc, ea⟩ := exA_of g1.sub d1
        obtain ⟨ec, own, _⟩ := IT c x b z Ca hc
        exact ⟨a, Ca, fv, _, _, b, rfl, .own _, ea, ec, own _ hx, k _ _ h1 _ _ _ g1 m1 (.bl _)⟩⟩⟩
theorem pd_isiEb {U : String} (IT : IsTab X.K X.mg tab) (hg : Gl X "isinstance") (hm : X.mg "isinstance" = none) (hgx : Gl X x) (hmx : X.mg x = none) (hbx : bootBuiltins x = some (.type U)) (h : PEd X C e fe) (hnx : x ≠ "__name__" := by decide) (hdx : (x == ("__debug__" : Str)) = false := by decide)
    (hs : starEach [e, .Name x p2] X.env = (false, eval e X.env) :: starEach [.Name x p2] X.env := by rfl) (hs2 : starEach [.Name x p2] X.env = (false, eval (.Name x p2) X.env) :: starEach [] X.env := by rfl)
    (hpl : (backTo pos (starEach [.Name x p2] X.env)).any (·.1) = false := by rfl) : PEd X C (.Call (.Name "isinstance" p) [e, .Name x p2] [] pos) (eIsiE tab x fe) :=
  ⟨PE.imp (pe_callB call_isY hg hm (by decide +kernel) (pa_cons h.pe (pa_cons (pe_bltn (v := .ty U) hgx hmx hbx rfl hnx hdx) pa_nil hs2) hs) (by decide) (by decide) hs hpl) fun σ H Q ⟨env, Hs, N, R, r, hf, k⟩ => ⟨env, Hs, N, _, r, hf, fun y N1 h1 v H1 Hs1 g1 m1 d1 => by
    match y, h1 with
    | .exc c fs, h1 =>
      cases z : tab c x with
      | none => simp only [z] at h1
      | some b =>
        simp only [z] at h1
        obtain ⟨a, Ca, fv, rfl, hc, ea⟩ := exA_of g1.sub d1
        obtain ⟨ec, _, bl⟩ := IT c x b z Ca hc
        exact ⟨a, Ca, fv, _, _, b, rfl, .ty U, ea, ec, bl hmx U hbx, k _ _ h1 _ _ _ g1 m1 (.bl _)⟩⟩⟩
theorem pd_fldE (FT : FlTab X.K X.mg fl) (h : PEd X C e fe) (hb : attributeBase e f X.env (eval e X.env) = eval e X.env := by rfl) : PEd X C (.Attribute e f pos) (eFldE fl f fe) := ⟨PE.imp (pe_yfld h.pe hb) fun σ H Q ⟨env, Hs, N, R, r, hf, k⟩ =>
  ⟨env, Hs, N, _, r, hf, fun y N1 h1 v H1 Hs1 g1 m1 d1 => by
    match y, h1 with
    | .exc c fs, ⟨hfl, hq⟩ =>
      cases z : fs.lookup f with
      | none => simp only [z] at hq
      | some q =>
        simp only [z] at hq
        cases d1 with
        | exc q1 q2 q3 q4 =>
          obtain ⟨u, w1, w2⟩ := dvf_lookup q4 z
          obtain ⟨ec, no⟩ := FT c f hfl _ q3
          exact ⟨_, _, _, _, u, rfl, ec, no, g1.sub _ _ q1, g1.sub _ _ q2, w1, k _ _ hq _ _ _ g1 m1 w2⟩
        | exc0 _ _ => cases z⟩⟩
end
/-! ### tables of the error classes -/
/-- is an error of the class c of the kind x -/
def isB (c x : Str) : Bool := c == x || (x == Str.ofString "TaskError" || x == Str.ofString "ValueError") && !(c == Str.ofString "TooGreat") || x == Str.ofString "OverflowError" && c == Str.ofString "TooGreat"
def tabB (K : PySem.W.Frag) (es xs : List (Str × Addr)) (ts : List String) : Bool := es.all fun p => (xs.all fun q => PySem.W.kitOne K (.ref p.2) (.ref q.2) == some (isB p.1 q.1)) && ts.all fun t => PySem.W.kitOne K (.ref p.2) (.type t) == some (isB p.1 (Str.ofString t))
def exTab (es xs : List Str) (ts : List String) (c x : Str) : Option Bool := if es.contains c = true ∧ (xs.contains x = true ∨ (ts.map Str.ofString).contains x = true) then some (isB c x) else none
theorem isTab_of {K : PySem.W.Frag} {mg : Str → Option Value} {es xs : List (Str × Addr)} {ts : List String} (h1 : ∀ p ∈ es, mg p.1 = some (.ref p.2)) (h2 : ∀ q ∈ xs, mg q.1 = some (.ref q.2)) (h3 : ∀ t ∈ ts, mg (Str.ofString t) = none ∧ bootBuiltins (Str.ofString t) = some (.type t))
    (ec : ∀ p ∈ es, L2.ExcC K p.2) (tb : tabB K es xs ts = true) : IsTab K mg (exTab (es.map (·.1)) (xs.map (·.1)) ts) := by
  intro c x b e Ca hc
  unfold exTab at e
  split at e
  · rename_i hin
    cases e
    obtain ⟨hce, hx⟩ := hin
    obtain ⟨p, hp, rfl⟩ := List.mem_map.mp (List.contains_iff_mem.mp hce)
    have e1 := h1 p hp
    rw [e1] at hc
    cases hc
    have row := List.all_eq_true.mp tb p hp
    rw [Bool.and_eq_true] at row
    refine ⟨ec p hp, fun Cx hCx => ?_, fun hn U hU => ?_⟩
    · rcases hx with hx | hx
      · obtain ⟨q, hq, rfl⟩ := List.mem_map.mp (List.contains_iff_mem.mp hx)
        have e2 := h2 q hq
        rw [e2] at hCx
        cases hCx
        exact eq_of_beq (List.all_eq_true.mp row.1 q hq)
      · obtain ⟨t, ht, rfl⟩ := List.mem_map.mp (List.contains_iff_mem.mp hx)
        rw [(h3 t ht).1] at hCx
        cases hCx
    · rcases hx with hx | hx
      · obtain ⟨q, hq, rfl⟩ := List.mem_map.mp (List.contains_iff_mem.mp hx)
        rw [h2 q hq] at hn
        cases hn
      · obtain ⟨t, ht, rfl⟩ := List.mem_map.mp (List.contains_iff_mem.mp hx)
        have row' := eq_of_beq (List.all_eq_true.mp row.2 t ht)
        rw [(h3 t ht).2] at hU
        cases hU
        exact row'
  · cases e
end Pd
/-! ## A lambda with one default (an int), handed to a def that calls it -/
namespace Lk
open PySem L2 PySem.Spec PyProof.Rows LamX
section
variable {X : Cx} {pins : List (Addr × Obj)} {σ : L2.St} {H : Hp} {s : Shared}
/-- the lambda's frame begins, later than it was made -/
theorem lam_begin2 {HZ : Hp} {s1 : Shared} {A : Around} {outer : List Env} {E : XK} {scope : Scope} {par : Str} {i : Nat} {v : V} {u : Value} {f c' : Addr} {h₁ : Heap} {tk : Nat}
    (I : Inv X pins σ H s) (L : LamP X.env.scope scope par) (nd : X.N.Nodup) (hi : X.N[i]? = some par) (r : RelV v u)
    (e0 : Env0 X.prog X.w X.K X.mg X.base A outer s1 HZ) (hd : A.handled = none) (un : Un (frs X.stack) [] H HZ s.heap s1.heap)
    (ns : h₁.Ns s1.heap.objs.size fun y => ([(par, u)] : List (Str × Value)).reverse.lookup y)
    (kp : ∀ b o, s1.heap.get? b = some o → h₁.get? b = some o) :
    Inv (lamCx X A outer s1 HZ E scope f c') [] (σ.set i (some v)) HZ { s1 with heap := h₁, toks := tk } := by
  have cap : ∀ {y c}, (cloFrom X.env.cells scope.names []).lookup y = some c → X.env.cells.lookup y = some c := by
    intro y c e
    rcases cloFrom_mem (PySem.mem_of_lookup e) with z | ⟨z1, z2⟩
    · cases z
    · obtain ⟨c1, h1⟩ := L.cells I.ok _ z1 rfl
      have h1 : X.env.cells.lookup y = some c1 := h1
      have : c = c1 := by
        rw [z2, h1] <;> rfl
      rw [this]
      exact h1
  have has : ∀ {y}, scope.names.lookup y = some .free → ∃ c, (cloFrom X.env.cells scope.names []).lookup y = some c := fun {y} e => by
    have known : (y, NameKind.free) ∈ scope.names := PySem.mem_of_lookup e
    exact mem_lookup (cloFrom_has (acc := []) (cells := X.env.cells) known)
  have keepC : ∀ {c : Addr} {w : Option Value}, H c = none → s.heap.IsCell c w → h₁.IsCell c w := fun {c w} n ⟨o, ho, hd⟩ => by
    obtain ⟨sl, q⟩ := un.any ho n (by simp)
    exact ⟨_, kp _ _ q, hd⟩
  have none_ex : ∀ b : Addr, b ∉ (lamCx X A outer s1 HZ E scope f c').ex := fun b z => by cases (show b ∈ ([] : List Addr) from z)
  have nocell : ∀ {y}, scope.names.lookup y ≠ some .cell := fun {y} e => absurd rfl (L.nocell _ (PySem.mem_of_lookup e))
  constructor
  · constructor
    · exact e0.mod
    · exact L.kind
    · rfl
    · rfl
    · exact Nat.le_refl _
    · exact fun y z c e1 e2 => I.ok.inj y z c (cap e1) (cap e2)
    · intro y hy
      rcases (show scope.names.lookup y = some .cell ∨ scope.names.lookup y = some .free from hy) with h | h
      · exact absurd h nocell
      · exact has h
    · intro y c z _
      cases (show false = true from z)
    · exact fun _ => hd
    · exact Around.frames_deeper e0.frames
    · exact .inr ⟨rfl, rfl⟩
    · exact fun b z => absurd z (none_ex b)
    · exact e0.bs
    · exact e0.bsz
    · exact fun b _ _ => none_ex b
    · exact fun b z => absurd z (none_ex b)
    · exact e0.funs
    · exact e0.frf
  · rfl
  · exact e0.bare
  · exact Un.kept kp
  · refine ⟨_, ns, fun j y w e1 e2 e3 => ?_⟩
    have e1 : X.N[j]? = some y := e1
    have e3 : Vis scope y := e3
    by_cases ey : y = par
    · have ej : i = j := (List.getElem?_inj (List.getElem?_eq_some_iff.mp hi).1 nd).mp (hi.trans (by rw [e1, ey]))
      have hl : i < σ.length := by rw [I.len]; exact (List.getElem?_eq_some_iff.mp hi).1
      rw [← ej, List.getElem?_set_self hl] at e2
      have ew : v = w := Option.some.inj (Option.some.inj e2)
      refine ⟨u, ew ▸ r, .inl ⟨?_, ?_⟩⟩
      · show scope.names.lookup y = some .local
        rw [ey]; exact L.isPar
      · rw [ey]; simp
    · rcases e3 with h | h | h
      · exact absurd (L.only y h) ey
      · exact absurd h nocell
      · have nj : i ≠ j := fun z => ey (by rw [z, e1] at hi; exact Option.some.inj hi)
        rw [List.getElem?_set_ne nj] at e2
        obtain ⟨m, _, hl⟩ := I.loc
        have vis : Vis X.env.scope y := by
          rcases L.caught _ (PySem.mem_of_lookup h) rfl with z | z
          · exact .inr (.inl z)
          · exact .inr (.inr z)
        obtain ⟨u', r', q⟩ := hl j y w e1 e2 vis
        obtain ⟨c2, h2⟩ := has h
        refine ⟨u', r', .inr ⟨.inr h, c2, h2, ?_⟩⟩
        have c1 := cap h2
        rcases q with ⟨z, _⟩ | ⟨_, c3, z1, z2⟩
        · have z : X.env.scope.names.lookup y = some .local := z
          rcases L.caught _ (PySem.mem_of_lookup h) rfl with z' | z' <;> (have z' : X.env.scope.names.lookup y = _ := z'; rw [z] at z'; cases z')
        · rw [c1] at z1
          cases z1
          exact keepC (I.freeC y _ c1) z2
  · intro y c e
    obtain ⟨w, z⟩ := I.cell y c (cap e)
    exact ⟨w, keepC (I.freeC y c (cap e)) z⟩
  · exact e0.hok.fresh (Nat.le_refl _)
  · exact fun y c e => by
      obtain ⟨w, o, ho, hd⟩ := I.cell y c (cap e)
      exact un.free c o ho (I.freeC y c (cap e)) (by simp)
  · intro p hp
    cases (show p ∈ ([] : List (Addr × Obj)) ++ [] from hp)
  · exact e0.hok.kept kp
  · rw [List.length_set]; exact I.len
/-- the object of such a lambda -/
abbrev objD (q : Str) (params : Arguments) (body : Expr) (scope : Scope) (clo : List (Str × Addr)) (t : Addr) (doc pm : Value) (c' : Addr) (ctv : Value) : Obj := PySem.W.kdv_obj "<lambda>" q params (.expr body) scope clo (.ref t) doc pm c' ctv
structure MadeD (X : Cx) (pins : List (Addr × Obj)) (σ : L2.St) (T : List (Addr × Str)) (H : Hp) (params : Arguments) (body : Expr) (scope : Scope) (f c' t : Addr) (doc pm ctv dv : Value) (H1 : Hp) (s' : Shared) : Prop where
  inv : Inv X pins σ H1 s'
  ext : ExtN H H1
  back : ∀ b, H1 b = none → H b = none
  tabs : Tabs T H1
  at_ : s'.heap.get? f = some (objD (X.env.qual ++ "<lambda>") params body scope (cloFrom X.env.cells scope.names []) t doc pm c' ctv)
  dat : s'.heap.get? t = some (PySem.W.kdv_tup [dv])
  out : H1 f = none
  outT : H1 t = none
  nft : f ≠ t
  code : H1 c' = some (CodeO c' (X.env.qual ++ "<lambda>"))
theorem lam_mkD {T : List (Addr × Str)} {c P : Addr} {params : Arguments} {body : Expr} {scope : Scope} {pos p0 : Pos} {k0 : Nat} {i0 : Int} {E : Value → Shared → Prop} {Q : Value → Shared → Prop}
    (I : Inv X pins σ H s) (TB : TabB X.base X.mg c P) (hc : X.env.code = .ref c)
    (hm : (P, X.env.qual ++ "<lambda>") ∈ T) (only : ∀ p ∈ T, p.1 = P → p.2 = X.env.qual ++ "<lambda>") (t : Tabs T H)
    (hdef : params.defaults = [.Constant (.int i0) k0 p0]) (hk0 : params.kw_defaults = [])
    (free : ∀ y ∈ scope.names, y.2 = .free → ∃ c, X.env.cells.lookup y.1 = some c)
    (k : ∀ (f c' tp : Addr) (doc pm ctv dv : Value) (H1 : Hp) (s' : Shared), s.heap.objs.size ≤ f → s.heap.objs.size ≤ tp → RelV (.int i0) dv → MadeD X pins σ T H params body scope f c' tp doc pm ctv dv H1 s' → Q (.ref f) s') :
    wpAny (model X.prog X.w) X.A (eval (.Lambda params body scope pos) X.env) Q E s := by
  refine PySem.W.kdv_lam (by rw [hdef]; rfl) hk0 ?_
  rw [hdef]
  refine PySem.W.kdv_all1 (wpAny_Constant_int (PySem.W.kdv_all0 ?_))
  rw [makeFunction_eq]
  simp only [List.zip_nil_right, List.filterMap_nil, List.isEmpty_nil, List.isEmpty_cons, Bool.false_eq_true, if_true, if_false, pure_bind]
  refine wpAny_bind (wpAny_newTextTuple ?_)
  have I := (I.tok (s.toks + 1))
  have kp1 : ∀ b o, s.heap.get? b = some o → (s.heap.push (PySem.W.kdv_tup [.int i0 s.toks])).get? b = some o := fun b o e => Heap.get?_push_of_some _ e
  have dat1 : (s.heap.push (PySem.W.kdv_tup [.int i0 s.toks])).get? s.heap.objs.size = some (PySem.W.kdv_tup [.int i0 s.toks]) := Heap.get?_push_size _ rfl
  have nT : H s.heap.objs.size = none := I.hok.fresh (Nat.le_refl _)
  have I1 : Inv X pins σ H { s with heap := s.heap.push (PySem.W.kdv_tup [.int i0 s.toks]), toks := s.toks + 1 } := I.kept (t' := s.toks + 1) kp1
  have le1 : s.heap.objs.size ≤ (s.heap.push (PySem.W.kdv_tup [.int i0 s.toks])).objs.size := by rw [Heap.size_push]; omega
  obtain ⟨ps, tP, tr, known⟩ := t _ hm
  have oP : (s.heap.push (PySem.W.kdv_tup [.int i0 s.toks])).get? P = some { cls := .none, data := .fields ps } := kp1 _ _ (I.hok _ _ tP)
  have nPT : s.heap.objs.size ≠ P := Nat.ne_of_gt (Heap.lt_size (show s.heap.get? P = some _ from I.hok _ _ tP))
  rcases found : codeAmong pos ps.toList with _ | cv
  · refine PySem.W.kdv_makeTail (c := c) (P := P) (ps := ps) (closure_ok free) I1.ok.glob (I1.mod.glob.keeps I1.bk) hc (TB.code.keeps I1.bk) oP tr found TB.gP (TB.bm.keeps I1.bk) ?_
    intro c' ctv doc h' tk keep ge lt rec tab'
    obtain ⟨c2, oc, vs, tq, ec, r1, r2, r3⟩ := rec
    obtain rfl : c' = c2 := by cases ec; rfl
    have nf : H c' = none := I1.hok.fresh ge
    have nPc : P ≠ c' := ne_of_none tP nf
    have le : (s.heap.push (PySem.W.kdv_tup [.int i0 s.toks])).objs.size ≤ h'.objs.size := Nat.le_trans ge (Nat.le_of_lt lt)
    have J := inv_table (c := c') (q := X.env.qual ++ "<lambda>") (t' := tk) (h' := h'.push (objD (X.env.qual ++ "<lambda>") params body scope (cloFrom X.env.cells scope.names []) s.heap.objs.size doc ((X.mg "__name__").getD .none) c' ctv)) (more := #[rawInt pos.line, rawInt pos.col, .ref c']) I1 tP
      (fun b o nb e => Heap.get?_push_of_some _ (keep b o nb e)) (Heap.get?_push_of_some _ tab') ge ⟨oc, vs, tq, Heap.get?_push_of_some _ r1, r2, r3⟩
    have ex : ExtN H (upd (upd H P (.tbl (ps ++ #[rawInt pos.line, rawInt pos.col, .ref c']))) c' (CodeO c' (X.env.qual ++ "<lambda>"))) := by
      intro b o e nt
      have n1 : b ≠ c' := ne_of_none e nf
      have n2 : b ≠ P := fun z => by
        rw [z, tP] at e
        exact nt ps (Option.some.inj e).symm
      rw [upd_ne n1, upd_ne n2]
      exact e
    have out : ∀ {b : Addr}, H b = none → b ≠ c' → b ≠ P → upd (upd H P (.tbl (ps ++ #[rawInt pos.line, rawInt pos.col, .ref c']))) c' (CodeO c' (X.env.qual ++ "<lambda>")) b = none := fun n h1 h2 => (upd_ne h1).trans ((upd_ne h2).trans n)
    refine k h'.objs.size c' s.heap.objs.size doc ((X.mg "__name__").getD .none) ctv (.int i0 s.toks) _ _ (Nat.le_trans le1 le) (Nat.le_refl _) ⟨_, rfl⟩
      { inv := J, ext := ex, back := fun b hb => ?_, tabs := fun p hp => ?_, at_ := ?_, dat := ?_, out := ?_, outT := ?_, nft := Nat.ne_of_gt (Nat.lt_of_lt_of_le (Heap.lt_size dat1) le), code := upd_same }
    · by_cases n1 : b = c'
      · rw [n1, upd_same] at hb; cases hb
      · rw [upd_ne n1] at hb
        by_cases n2 : b = P
        · rw [n2, upd_same] at hb; cases hb
        · rwa [upd_ne n2] at hb
    · by_cases e : p.1 = P
      · rw [only p hp e, e]
        refine ⟨_, (upd_ne nPc).trans upd_same, ?_, fun p' w hw => ?_⟩
        · rw [Array.toList_append]
          exact PySem.TriplesOk_snoc _ _ _ _ tr
        · rw [Array.toList_append] at hw
          rcases among_app _ tr hw with z | z
          · obtain ⟨c3, q1, q2⟩ := known p' w z
            exact ⟨c3, q1, ex _ _ q2 codeO_ne⟩
          · exact ⟨c', z, upd_same⟩
      · obtain ⟨qs, a1, a2, a3⟩ := t p hp
        have n1 : p.1 ≠ c' := ne_of_none a1 nf
        refine ⟨qs, (upd_ne n1).trans ((upd_ne e).trans a1), a2, fun p' w hw => ?_⟩
        obtain ⟨c3, q1, q2⟩ := a3 p' w hw
        exact ⟨c3, q1, ex _ _ q2 codeO_ne⟩
    · exact Heap.get?_push_size _ rfl
    · exact Heap.get?_push_of_some _ (keep _ _ nPT dat1)
    · exact out (I1.hok.fresh le) (Nat.ne_of_gt lt) (Nat.ne_of_gt (Nat.lt_of_lt_of_le (Heap.lt_size oP) le))
    · exact out nT (Nat.ne_of_lt (Nat.lt_of_lt_of_le (Heap.lt_size dat1) ge)) nPT
  · obtain ⟨c', rfl, q⟩ := known pos cv found
    refine PySem.W.kdv_makeTailHit (c := c) (P := P) (ps := ps) (closure_ok free) I1.ok.glob (I1.mod.glob.keeps I1.bk) hc (TB.code.keeps I1.bk) oP tr found (TB.bm.keeps I1.bk) ?_
    intro ctv doc h' tk keep le
    refine k h'.objs.size c' s.heap.objs.size doc ((X.mg "__name__").getD .none) ctv (.int i0 s.toks) H _ (Nat.le_trans le1 le) (Nat.le_refl _) ⟨_, rfl⟩
      { inv := ?_, ext := ExtN.refl H, back := fun _ z => z, tabs := t, at_ := Heap.get?_push_size _ rfl, dat := ?_, out := I1.hok.fresh le, outT := nT, nft := Nat.ne_of_gt (Nat.lt_of_lt_of_le (Heap.lt_size dat1) le), code := q }
    · exact I1.kept fun b o e => Heap.get?_push_of_some _ (keep b o e)
    · exact Heap.get?_push_of_some _ (keep _ _ dat1)
end
end Lk
namespace Pd
open PySem L2 PySem.Spec PyProof.Rows Exv Exz Exs LamX Lk
section
variable {X : Cx} {pins : List (Addr × Obj)} {σ : L2.St} {H : Hp} {s : Shared}
theorem pe_actDD {Ng : List Str} {qg : Str} {sg : Scope} {g f c' t : Addr} {cdg doc pm ctv dv : Value} {v : V} {params : Arguments} {body : Expr} {scope : Scope} {k i iy : Nat} {a par : Str} {pl : List (Addr × Obj)} {xe : Value → Shared → Prop} {W : WX} {tb : XK → TE} {p1 p2 : Pos}
    (I : Inv X pins σ H s) (L : LamP X.env.scope scope par) (nd : X.N.Nodup) (hiy : X.N[iy]? = some par) (rv : L2.RelV v dv)
    (hbind : ∃ kk : Option (Array Value) → Sem (List (Str × Value)), bindArgs (PySem.W.kdv_fn "<lambda>" (X.env.qual ++ "<lambda>") params (.expr body) scope (cloFrom X.env.cells scope.names []) (.ref t) doc pm (.ref c') ctv) ⟨[], []⟩ = (seqItems? (.ref t) >>= kk) ∧ kk (some #[dv]) = pure [(par, dv)])
    (tk : L2.Takes ((cxOf CX0 X.prog X.w X.K X.mg X.base Ng qg sg g cdg X.A X.stack s H E0).tr pl xe) W) (hG : X.A.guards = some []) (hr : Room (k + 1) (X.A.deeper (envOfC qg sg s.heap.objs.size g cdg)))
    (hbody : ∀ (A : Around) (outer : List Env) (s : Shared) (H : Hp) (E : XK), A.guards = some [] → Room k (A.deeper (lamEnv X scope s.heap.objs.size f c')) → PE (lamCx X A outer s H E scope f c') body (tb E))
    (hN : Ng[i]? = some a) (hv : Vis sg a) (hd : (a == ("__debug__" : Str)) = false := by decide) (hcd : (a == ("__classdict__" : Str)) = false := by decide) :
    PE ((cxOf CX0 X.prog X.w X.K X.mg X.base Ng qg sg g cdg X.A X.stack s H E0).tr pl xe) (.Call (.Name a p1) [] [] p2)
      (fun σZ HZ Q => σZ[i]? = some (some (.ref f)) ∧ HZ f = some (LamO f (objD (X.env.qual ++ "<lambda>") params body scope (cloFrom X.env.cells scope.names []) t doc pm c' ctv)) ∧ HZ t = some (LamO t (PySem.W.kdv_tup [dv])) ∧ HZ c' = some (CodeO c' (X.env.qual ++ "<lambda>")) ∧ tb (WE W σZ) (σ.set iy (some v)) HZ Q) := by
  refine ⟨fun pinsZ sZ σZ HZ Q IZ ⟨h1, h2, h2t, h3, h4⟩ => wpAny_Call_Name_kw (thn ((pe_var (pos := p1) (i := i) hN hv hd hcd).run pinsZ sZ σZ HZ (fun v H1 => v = .ref f ∧ H1 = HZ) IZ ⟨.ref f, h1, rfl, rfl⟩) fun u s1 ⟨v, H1, I1, r1, ev, eH⟩ => ?_)⟩
  subst ev eH
  obtain rfl : u = Value.ref f := r1
  have of1 : s1.heap.get? f = some _ := (I1.hok f _ h2).1
  have ot1 : s1.heap.get? t = some _ := (I1.hok t _ h2t).1
  refine PySem.W.callWith_F0 ⟨_, _, _, _, of1⟩ ?_
  have un : Un (frs X.stack) [] H H1 s.heap s1.heap := I1.base
  obtain ⟨⟨oc, vs, tq, hoc, hdc, hvc⟩, _, _⟩ := I1.hok c' _ h3
  obtain ⟨kk, hb1, hb2⟩ := hbind
  have rc : codeAny (model X.prog X.w) (X.A.deeper (envOfC qg sg s.heap.objs.size g cdg)) (.call (.ref f) ⟨[], []⟩) (CR (L2.CX X.prog X.w) (envOfC qg sg s.heap.objs.size g cdg :: X.stack) X.prog X.w H1 s1 Q (WE W σZ)) s1 := by
    have bt : BindsTo s1 (PySem.W.kdv_fn "<lambda>" (X.env.qual ++ "<lambda>") params (.expr body) scope (cloFrom X.env.cells scope.names []) (.ref t) doc pm (.ref c') ctv) ⟨[], []⟩ [(par, dv)] := BindsTo.of_defaults rfl ot1 rfl hb1 hb2
    refine PySem.W.kla_callFunE hr.depth of1 rfl L.plain L.whole rfl ⟨c', oc, vs, tq, rfl, hoc, hdc, hvc⟩ (bt _ _ _ _ ?_)
    refine wpAny_newFunctionEnv L.nocell (fun y hy => ?_) (fun h₁ ns sb => ⟨I1.nolimit.fresh _ sb, ?_⟩) L.kind
    · rw [List.mem_singleton] at hy
      subst hy
      exact L.isPar
    show codeAny _ _ (.expr body (lamEnv X scope s1.heap.objs.size f c')) _ _
    have kp : ∀ b o, s1.heap.get? b = some o → h₁.get? b = some o := fun b o e => sb.extBut b o (Nat.ne_of_lt (Heap.lt_size e)) (Heap.get?_push_of_some _ e)
    have J := lam_begin2 (E := WE W σZ) (f := f) (c' := c') (tk := s1.toks + ([(par, dv)] : List (Str × Value)).length) I L nd hiy rv I1.env0 hr.hd un ns kp
    refine PySem.W.kla_codeExpr (wpAny_mono ((hbody (X.A.deeper (envOfC qg sg s.heap.objs.size g cdg)) _ s1 H1 (WE W σZ) (Rd.guards_deeper hG) (hr.deeper _)).run [] _ _ H1 Q J h4) (fun v s' hq => ?_) fun e s' hq => hq)
    obtain ⟨w', H', J', rv, q⟩ := hq
    exact ⟨w', H', J'.os, J'.bare, J'.base, J'.hok, rv, q⟩
  refine wpAny_call (codeAny_mono rc fun r s' hq => ?_)
  match r, hq with
  | .error e, z => exact passAt tk σZ pinsZ H1 s1 e s' I1 z
  | .ok (.ret u), z => exact I1.after z
  | .ok .next, z => exact z.elim
  | .ok .brk, z => exact z.elim
  | .ok .cont, z => exact z.elim
end
def eLamD (F : FL → Nat → (D → Nat → Prop) → Prop) (iy : Nat) (i0 : Int) (fb : ExD → ED) : ED := fun env N Q => F (fun N' R Ex => fb Ex ((noOwn env).set iy (.sh (.int i0))) N' R) N Q
section
variable {X : Cx} {C : Cn} {x a par : Str} {F : FL → Nat → (D → Nat → Prop) → Prop} {fb : ExD → ED} {k iy k0 : Nat} {i0 : Int} {c P : Addr} {params : Arguments} {body : Expr} {scope : Scope} {p p0 lpos pos : Pos}
theorem pd_lamcallD (Lo : LamOk C.w.T X.prog X.w X.K X.mg X.base (k + 1) x a F) (hGu : X.A.guards = some []) (hr : Room (k + 2) X.A) (TB : TabB X.base X.mg c P) (hc : X.env.code = .ref c)
    (hm : (P, X.env.qual ++ "<lambda>") ∈ C.w.T) (only : ∀ q ∈ C.w.T, q.1 = P → q.2 = X.env.qual ++ "<lambda>") (L : LamP X.env.scope scope par) (nd : X.N.Nodup) (hiy : X.N[iy]? = some par) (hdef : params.defaults = [.Constant (.int i0) k0 p0]) (hk0 : params.kw_defaults = [])
    (hbind : ∀ (q : Str) (cl : List (Str × Addr)) (t : Addr) (doc pm cv ctv dv : Value), ∃ kk : Option (Array Value) → Sem (List (Str × Value)), bindArgs (PySem.W.kdv_fn "<lambda>" q params (.expr body) scope cl (.ref t) doc pm cv ctv) ⟨[], []⟩ = (seqItems? (.ref t) >>= kk) ∧ kk (some #[dv]) = pure [(par, dv)])
    (hbody : ∀ (A : Around) (outer : List Env) (s : Shared) (H H0 HB : Hp) (E : XK) (f c' : Addr) (Ex : ExD), A.guards = some [] → Room k (A.deeper (lamEnv X scope s.heap.objs.size f c')) → L2.Takes (lamCx X A outer s H E scope f c') (WD X.K X.mg { C with H0 := H0, HB := HB } fun _ => Ex) →
      PEd (lamCx X A outer s H E scope f c') { C with H0 := H0, HB := HB } body (fb Ex))
    (hg : Gl X x := by rfl) (hdb : (x == ("__debug__" : Str)) = false := by decide) (hd : (a == ("__debug__" : Str)) = false := by decide) (hcd : (a == ("__classdict__" : Str)) = false := by decide) :
    PEd X C (.Call (.Name x p) [.Lambda params body scope lpos] [] pos) (eLamD F iy i0 fb) := by
  obtain ⟨g, fd, st, Ng, Fu, hmx, kp, bi, Sg, hNg, hva, ok⟩ := Lo
  obtain ⟨oc, od, kV, doc0, pmg, an, cdv, ct, osl, rfl, lk, hcd'⟩ := Fu.ex
  refine ⟨⟨fun pins s σ H Q I ⟨env, Hs, N, R, r, hF, kk⟩ => wpAny_Call_Name_kw (ld_glob I hg hmx ?_ hdb)⟩⟩
  refine PySem.W.callWith_K (h₀ := X.base) I.ok.mod.kin kp ?_ (by rfl) (by rfl)
  show wpAny _ _ (spliced ((false, eval (.Lambda params body scope lpos) X.env) :: backTo pos (starEach [] X.env))) _ _ s
  refine Calls.spliced_cons (lam_mkD I TB hc hm only r.m.2.1 hdef hk0 (L.cells I.ok) fun f c' t doc pm ctv dv H1 s1 big bigT rdv M => ?_)
  refine Calls.spliced_nil ⟨M.inv.kIn, ?_⟩
  have newAt : ∀ {b : Addr}, s.heap.objs.size ≤ b → s.heap.get? b = none := fun {b} hb => by
    cases q : s.heap.get? b with
    | none => rfl
    | some o => exact absurd (Nat.lt_of_lt_of_le (Heap.lt_size q) hb) (Nat.lt_irrefl _)
  have new0 : ∀ {b : Addr}, s.heap.objs.size ≤ b → X.s_0.heap.get? b = none := fun {b} hb => by
    cases q : X.s_0.heap.get? b with
    | none => rfl
    | some o => exact absurd (Nat.lt_of_lt_of_le (Heap.lt_size q) (Nat.le_trans I.sz hb)) (Nat.lt_irrefl _)
  have notL : ∀ {b : Addr}, s.heap.objs.size ≤ b → b ≠ X.env.locals := fun {b} hb z => by
    have := I.lt
    rw [← z] at this
    exact absurd (Nat.lt_of_lt_of_le this hb) (Nat.lt_irrefl _)
  have notP : ∀ {b : Addr}, s.heap.objs.size ≤ b → ∀ q ∈ X.pn ++ pins, q.1 ≠ b := fun {b} hb q hq z => by
    have := (I.pin q hq).1
    rw [z, newAt hb] at this
    cases this
  generalize hO : LamO f (objD (X.env.qual ++ "<lambda>") params body scope (cloFrom X.env.cells scope.names []) t doc pm c' ctv) = Of
  generalize hT : LamO t (PySem.W.kdv_tup [dv]) = Ot
  have I2 : Inv X pins σ (upd H1 f Of) s1 := trackO M.inv M.at_ (fun v z => by cases z) M.out (notL big) (new0 big) (notP big) (by rw [← hO]; exact lamO_ok M.at_)
  have outT : upd H1 f Of t = none := (upd_ne (Ne.symm M.nft)).trans M.outT
  have I3 : Inv X pins σ (upd (upd H1 f Of) t Ot) s1 := trackO I2 M.dat (fun v z => by cases z) outT (notL bigT) (new0 bigT) (notP bigT) (by rw [← hT]; exact lamO_ok M.dat)
  have nof : ∀ ps, Of ≠ .tbl ps := fun ps z => by rw [← hO] at z; cases z
  have not_ : ∀ ps, Ot ≠ .tbl ps := fun ps z => by rw [← hT] at z; cases z
  have g1 : Go C.w H Hs H1 Hs := ⟨fun b o _ _ hn e => M.ext b o e hn, fun b hb hz => hb (M.back b hz), Same.refl _, fun b o e => M.ext b o (r.s b o e) fun ps z => r.hg.2 b ps (z ▸ e), fun _ _ e => e, fun _ _ e => e⟩
  have m1 : Ms C.w H1 N := by
    obtain ⟨⟨cs, gs, n, h1, h2, h3, h4⟩, tt⟩ := r.m
    exact ⟨⟨cs, gs, n, M.ext _ _ h1 (fun _ z => by cases z), M.ext _ _ h2 (fun _ z => by cases z), M.ext _ _ h3 (fun _ z => by cases z), h4⟩, M.tabs, tt.2⟩
  have g2a : Go C.w H Hs (upd H1 f Of) (upd Hs f Of) := g1.trans (Go.new1 (r.move g1 m1).s M.out nof)
  have m2a := m1.new (o := Of) M.out
  have g2 : Go C.w H Hs (upd (upd H1 f Of) t Ot) (upd (upd Hs f Of) t Ot) := g2a.trans (Go.new1 g2a.sub outT not_)
  have m2 := m2a.new (o := Ot) outT
  have r2 := r.move g2 m2
  have atf : upd (upd H1 f Of) t Ot f = some Of := (upd_ne M.nft).trans upd_same
  have att : upd (upd H1 f Of) t Ot t = some Ot := upd_same
  have hcode : upd (upd H1 f Of) t Ot c' = some (CodeO c' (X.env.qual ++ "<lambda>")) := (upd_ne (ne_of_none M.code M.outT)).trans ((upd_ne (ne_of_none M.code M.out)).trans M.code)
  have nd' : ∀ {b : Addr}, H1 b = none → b ≠ C.w.d ∧ b ≠ C.w.g := fun {b} hb => ⟨fun z => m1.some.1 (by rw [← z]; exact hb), fun z => m1.some.2.1 (by rw [← z]; exact hb)⟩
  have ncd : c' ≠ C.w.d := fun z => by
    obtain ⟨⟨cs, gs, n, h1, _⟩, _⟩ := m1
    have := M.code
    rw [z, h1] at this
    unfold CodeO at this
    cases this
  have ncg : c' ≠ C.w.g := fun z => by
    obtain ⟨⟨cs, gs, n, _, _, h3, _⟩, _⟩ := m1
    have := M.code
    rw [z, h3] at this
    unfold CodeO at this
    cases this
  have rc : codeAny (model X.prog X.w) X.A (.call (.ref g) ⟨[.ref f], []⟩) (CR CX0 X.stack X.prog X.w (upd (upd H1 f Of) t Ot) s1 Q E0) s1 := by
    refine run_ofS (N := Ng) (ps := [a]) (us := [.ref f]) (vs := [.ref f]) lk hcd' Sg hr I3.env0 (bi s1 [.ref f] I3.kIn rfl) (.cons rfl .nil) rfl fun hr' => ?_
    have lo := ok cdv X.A X.stack s1 (upd (upd H1 f Of) t Ot) ⟨C.w, upd (upd H1 f Of) t Ot, upd (upd Hs f Of) t Ot, 0⟩ f (fun N' R Ex => fb Ex ((noOwn env).set iy (.sh (.int i0))) N' R) N R rfl hGu hr'
    obtain ⟨gS, hp, hgo⟩ := lo (by
      intro pl xe H0 HB N0 Ex p1 p2 gt mt tk
      refine ⟨PE.imp (pe_actDD (f := f) (c' := c') (t := t) (doc := doc) (pm := pm) (ctv := ctv) (dv := dv) (v := .int i0) (iy := iy) (tb := fun E σM HZ Q' => ∃ HsZ NZ R' Ex', Rep X.K X.mg { C with H0 := HZ, HB := HsZ } ((noOwn env).set iy (.sh (.int i0))) σM HZ HsZ NZ ∧ fb Ex' ((noOwn env).set iy (.sh (.int i0))) NZ R' ∧ (∀ r N', R' r N' → ∀ v H' Hs', Go C.w HZ HsZ H' Hs' → Ms C.w H' N' → Dv X.K X.mg C.w Hs' v r → Q' v H') ∧
          ∀ c fs N', Ex' c fs N' → ∀ Ca d H' Hs', Go C.w HZ HsZ H' Hs' → Ms C.w H' N' → X.mg c = some (.ref Ca) → XFd X.K X.mg C.w Hs' d fs → E (.ref Ca) d H')
        I3 L nd hiy rdv (hbind _ _ _ _ _ _ _ _) tk hGu hr' (fun A outer s H E hG' hr2 => ⟨fun pins' s' σ' H' Q' I' ⟨HsZ, NZ, R', Ex', rZ, hfb, kn, kx⟩ => ?_⟩) hNg hva hd hcd) fun σZ HZ Q' ⟨envZ, HsZ, NZ, R', rZ, ⟨e0, R'', Ex'', hfl, iR, iE⟩, kk'⟩ => ?_⟩
      · exact (hbody A outer s H H' HsZ E f c' Ex' hG' hr2 (L2.Takes.imp (L2.takes_of rfl rfl rfl rfl) fun cls d σ2 H2 ⟨envL, HsL, NL, cL, CaL, fsL, rL, hcL, eL, xfL, hxL⟩ => by
          subst eL
          exact kx cL fsL NL hxL CaL d H2 HsL rL.go rL.m hcL xfL)).pe.run pins' s' σ' H' Q' I' ⟨(noOwn env).set iy (.sh (.int i0)), HsZ, NZ, R', rZ, hfb, fun q n hq v H2 Hs2 g2 m2 d2 => kn q n hq v H2 Hs2 g2 m2 d2⟩
      · obtain ⟨v0, q1, q2⟩ := rZ.sh 0 _ e0
        cases q2
        have gZ := gt.trans rZ.go
        have rb := (r2.move gZ rZ.m).base
        have hl : iy < (noOwn env).length := by rw [rb.len, I.len]; exact (List.getElem?_eq_some_iff.mp hiy).1
        exact ⟨q1, by rw [hO]; exact gZ.keep f _ (nd' M.out).1 (nd' M.out).2 nof atf, by rw [hT]; exact gZ.keep t _ (nd' M.outT).1 (nd' M.outT).2 not_ att, gZ.keep c' _ ncd ncg (fun ps z => codeO_ne ps z) hcode, HsZ, NZ, R'', Ex'', rb.set iy hl (.int i0), hfl, fun q n hq => kk' q n (iR q n hq), fun c fs N' hx Ca d H' Hs' g' m' hc' xf => ⟨envZ, Hs', N', c, Ca, fs, rZ.move g' m', hc', rfl, xf, iE c fs N' hx⟩⟩) hF
    refine ⟨_, hp.ps.nox, env0 Ng.length [.fn f], _, N, _, _, Rep.start g2.sub m2 r2.hd r2.hg (.cons (.fn ((upd_ne M.nft).trans upd_same)) .nil), Same.refl _, hgo, ⟨fun env' n σ' H' Hs' r' _ hn => ?_, fun q n v H' Hs' g' m' d' hr' => kk _ _ hr' _ _ _ (g2.trans g') m' d', fun _ _ _ _ _ _ _ z => z.elim, fun _ _ _ _ _ _ _ z => z.elim⟩⟩
    exact kk _ _ hn _ _ _ (g2.trans r'.go) r'.m .non
  refine wpAny_call (codeAny_mono rc fun rr s2 hq => ?_)
  match rr, hq with
  | .error e, z => exact z.elim
  | .ok (.ret u), z => exact I3.after z
  | .ok .next, z => exact z.elim
  | .ok .brk, z => exact z.elim
  | .ok .cont, z => exact z.elim
end
end Pd
/-! ## Data of short texts and small numbers: how long its text is -/
namespace Pd
open PySem PySem.Spec PyProof.Rows L2
mutual
def D.tiny : D → Bool
  | .non | .bl _ => true
  | .int i => decide (-1000 < i ∧ i < 1000)
  | .str x => decide ((PySem.reprText x).length ≤ 16)
  | .lst xs => D.tinyA xs
  | .tup xs => D.tinyA xs
  | _ => false
def D.tinyA : List D → Bool
  | [] => true
  | x :: xs => D.tiny x && D.tinyA xs
end
theorem tinyA_append (xs ys : List D) : D.tinyA (xs ++ ys) = (D.tinyA xs && D.tinyA ys) := by
  induction xs with
  | nil => simp [D.tinyA]
  | cons x xs ih => simp [D.tinyA, ih, Bool.and_assoc]
theorem tinyA_mem : ∀ {xs : List D}, D.tinyA xs = true ↔ ∀ x ∈ xs, x.tiny = true
  | [] => by simp [D.tinyA]
  | x :: xs => by simp [D.tinyA, tinyA_mem (xs := xs)]
mutual
theorem tiny_ok : ∀ (d : D), d.tiny = true → d.shw = true ∧ d.rl + 2 ≤ 20 * d.sz
  | .non, _ => by simp [D.shw, D.rl, D.sz]
  | .bl b, _ => by simp [D.shw, D.rl, D.sz]
  | .int i, h => by
    simp only [D.tiny, decide_eq_true_eq] at h
    refine ⟨?_, ?_⟩
    · simp only [D.shw, decide_eq_true_eq]
      have : i.natAbs < 2 ^ 1920 := Nat.lt_of_lt_of_le (show i.natAbs < 2 ^ 10 by omega) (Nat.pow_le_pow_right (by omega) (by omega))
      by_cases z : i.natAbs = 0
      · rw [z]; decide
      · exact (Nat.log2_lt z).mpr this
    · simp only [D.rl, if_pos h, D.sz]
      omega
  | .str x, h => by
    simp only [D.tiny, decide_eq_true_eq] at h
    simp only [D.shw, D.rl, D.sz, true_and]
    omega
  | .lst xs, h => by
    simp only [D.tiny] at h
    obtain ⟨a, b⟩ := tinyA_ok xs h
    simp only [D.shw, D.rl, D.sz]
    exact ⟨a, by omega⟩
  | .tup xs, h => by
    simp only [D.tiny] at h
    obtain ⟨a, b⟩ := tinyA_ok xs h
    simp only [D.shw, D.rl, D.sz]
    exact ⟨a, by omega⟩
  | .ins _ _, h => by simp [D.tiny] at h
  | .exc _ _, h => by simp [D.tiny] at h
  | .fn _, h => by simp [D.tiny] at h
  | .mt, h => by simp [D.tiny] at h
  | .drw, h => by simp [D.tiny] at h
theorem tinyA_ok : ∀ (xs : List D), D.tinyA xs = true → D.shwA xs = true ∧ D.rlA xs ≤ 20 * D.szA xs
  | [], _ => by simp [D.shwA, D.rlA, D.szA]
  | x :: xs, h => by
    simp only [D.tinyA, Bool.and_eq_true] at h
    obtain ⟨a1, a2⟩ := tiny_ok x h.1
    obtain ⟨b1, b2⟩ := tinyA_ok xs h.2
    simp only [D.shwA, D.rlA, D.szA, a1, b1, Bool.and_self, true_and]
    omega
end
/-- small tiny data can be shown -/
theorem tiny_repr {k m : Nat} {d : D} (h : Sm k m d) (t : d.tiny = true) (hk : k ≤ 40) (hm : m ≤ 800000) : d.plain = true ∧ reprOk d.py := by
  obtain ⟨a, b⟩ := tiny_ok d t
  have := h.s
  exact repr_ok a h.f hk (by omega)
end Pd
namespace Tmm
open PySem PySem.Spec PyProof.Rows L2 Pd
mutual
theorem Trm.toD_tiny : ∀ (t : Trm), (∀ x ∈ t.tasks, x < 1000) → t.toD.tiny = true
  | .task n, h => by
    have := h n (by simp [Trm.tasks])
    simp only [Trm.toD, nD, D.tiny, decide_eq_true_eq]
    omega
  | .node b ps, h => by
    simp only [Trm.toD, D.tiny, D.tinyA, Bool.and_eq_true]
    refine ⟨by cases b <;> decide +kernel, Trm.toDL_tiny ps fun x hx => h x (by simpa only [Trm.tasks] using hx)⟩
theorem Trm.toDL_tiny : ∀ (ps : List Trm), (∀ x ∈ Trm.tasksL ps, x < 1000) → D.tinyA (Trm.toDL ps) = true
  | [], _ => by simp [Trm.toDL, D.tinyA]
  | p :: ps, h => by
    simp only [Trm.tasksL, List.mem_append] at h
    simp only [Trm.toDL, D.tinyA, Bool.and_eq_true]
    exact ⟨Trm.toD_tiny p fun x hx => h x (.inl hx), Trm.toDL_tiny ps fun x hx => h x (.inr hx)⟩
end
end Tmm
/-! ## Pd: the empty dict among data: repr -/
namespace Pd
open PySem PySem.Spec PyProof.Rows L2
mutual
def D.pyM : D → PyData
  | .bl b => .bool b
  | .int i => .int i
  | .str x => .str x
  | .lst xs => .list (D.pyMA xs)
  | .tup xs => .tuple (D.pyMA xs)
  | .mt => .dict []
  | .non | .ins _ _ | .exc _ _ | .fn _ | .drw => .none
def D.pyMA : List D → List PyData
  | [] => []
  | x :: xs => D.pyM x :: D.pyMA xs
end
mutual
/-- plain data, {} in it too, of some depth at most; texts as they may be -/
def D.fineM : Nat → D → Bool
  | _, .non => true
  | _, .bl _ => true
  | _, .int _ => true
  | _, .mt => true
  | _, .str x => PyData.strOk x
  | 0, .lst _ => false
  | 0, .tup _ => false
  | k + 1, .lst xs => D.fineMA k xs
  | k + 1, .tup xs => D.fineMA k xs
  | _, _ => false
def D.fineMA : Nat → List D → Bool
  | _, [] => true
  | k, x :: xs => D.fineM k x && D.fineMA k xs
end
theorem fineMA_mem {k : Nat} : ∀ {xs : List D}, D.fineMA k xs = true ↔ ∀ x ∈ xs, x.fineM k = true
  | [] => by simp [D.fineMA]
  | x :: xs => by simp [D.fineMA, fineMA_mem (xs := xs)]
mutual
theorem fineM_of : ∀ (k : Nat) (d : D), d.fine k = true → d.fineM k = true
  | k, .non, _ => by cases k <;> rfl
  | k, .bl _, _ => by cases k <;> rfl
  | k, .int _, _ => by cases k <;> rfl
  | k, .mt, _ => by cases k <;> rfl
  | k, .str x, h => by cases k <;> simpa only [D.fine, D.fineM] using h
  | 0, .lst _, h => by simp [D.fine] at h
  | 0, .tup _, h => by simp [D.fine] at h
  | k + 1, .lst xs, h => by
    simp only [D.fine, D.fineM] at h ⊢
    exact fineMA_of k xs h
  | k + 1, .tup xs, h => by
    simp only [D.fine, D.fineM] at h ⊢
    exact fineMA_of k xs h
  | k, .ins _ _, h => by cases k <;> simp [D.fine] at h
  | k, .exc _ _, h => by cases k <;> simp [D.fine] at h
  | k, .fn _, h => by cases k <;> simp [D.fine] at h
  | k, .drw, h => by cases k <;> simp [D.fine] at h
theorem fineMA_of : ∀ (k : Nat) (ds : List D), D.fineA k ds = true → D.fineMA k ds = true
  | k, [], _ => by simp [D.fineMA]
  | k, x :: xs, h => by
    simp only [D.fineA, D.fineMA, Bool.and_eq_true] at h ⊢
    exact ⟨fineM_of k x h.1, fineMA_of k xs h.2⟩
end
theorem fineM_ty {k : Nat} {v : D} (h : v.fineM k = true) : v.tyN.isSome = true := by cases v <;> cases k <;> first | rfl | (simp [D.fineM] at h)
theorem fineM_up : ∀ {k j : Nat} {v : D}, v.fineM k = true → k ≤ j → v.fineM j = true := by
  intro k
  induction k with
  | zero =>
    intro j v h hj
    cases v <;> cases j <;> simp_all [D.fineM]
  | succ k ih =>
    intro j v h hj
    obtain ⟨j, rfl⟩ : ∃ i, j = i + 1 := ⟨j - 1, by omega⟩
    cases v <;> simp_all [D.fineM]
    all_goals exact fineMA_mem.mpr fun x hx => ih (fineMA_mem.mp h x hx) (by omega)
section
variable {X : Cx} {pins : List (Addr × Obj)} {σ : L2.St} {H : Hp} {s : Shared} {w : Dr}
mutual
/-- what is read of such data, and shown of it -/
theorem rk_dv (I : Inv X pins σ H s) : ∀ (d : D) (v : V) (u : Value) (k : Nat), d.fineM k = true → Dv X.K X.mg w H v d → RelV v u → d.pyM.showable = true → d.pyM.shown.length ≤ sizeLine →
    ∃ as bs, Reads s.heap u d.pyM as ∧ ReadAtMost s.heap d.pyM.depth bs ∧ ReprK X.prog X.w bs s.heap d.pyM.depth u d.pyM.shown
  | .non, v, u, k, _, dv, r, _, _ => by
    cases dv
    cases r
    simp only [D.pyM, PyData.shown]
    exact ⟨[], [], .none, (fun _ h => nomatch h), .of_is ReprIs.none _ _ _⟩
  | .bl b, v, u, k, _, dv, r, _, _ => by
    cases dv
    cases r
    simp only [D.pyM, PyData.shown]
    exact ⟨[], [], .bool b, (fun _ h => nomatch h), .of_is (ReprIs.bool b) _ _ _⟩
  | .int i, v, u, k, _, dv, r, hs, _ => by
    cases dv
    obtain ⟨t, rfl⟩ := r
    simp only [D.pyM, PyData.shown] at hs ⊢
    exact ⟨[], [], .int i t, (fun _ h => nomatch h), .of_is (ReprIs.int t (by simpa [PyData.showable] using hs)) _ _ _⟩
  | .str x, v, u, k, _, dv, r, _, hz => by
    cases dv
    obtain ⟨t, rfl⟩ := r
    simp only [D.pyM, PyData.shown] at hz ⊢
    exact ⟨[], [], .str x t, (fun _ h => nomatch h), .of_is (ReprIs.str x t hz) _ _ _⟩
  | .lst ds, v, u, 0, hp, dv, r, hs, hz => by simp [D.fineM] at hp
  | .tup ds, v, u, 0, hp, dv, r, hs, hz => by simp [D.fineM] at hp
  | .lst ds, v, u, k + 1, hp, dv, r, hs, hz => by
    cases dv with
    | @lst a xs _ h hds =>
      cases r
      obtain ⟨_, its, n, rv, ho⟩ := (show ObjOk X.prog X.w H s.heap _ (.lst _) from I.hok _ _ h)
      simp only [D.pyM, PyData.shown, PyData.showable, PyData.depth, D.fineM] at hs hz hp ⊢
      obtain ⟨as, bs, rd, hb, hk⟩ := rkA_dv I ds xs its k hp hds rv hs (fun t ht => Nat.le_trans (listText_mem_le ht) hz)
      have rr := Reads.list ho rfl rfl rd
      have out := not_mem_of_deeper rr (by simp only [PyData.depth]; omega) hb
      refine ⟨_, a :: bs, rr, ReadAtMost.cons rr (by simp only [PyData.depth]; omega) hb, ?_⟩
      cases its with
      | nil =>
        cases rv
        cases hds
        exact ReprK.listEmpty ho rfl rfl
      | cons y ys => exact ReprK.list ho rfl rfl out (by simpa using hk.length_eq) fun i y e => hk.item i y (by simpa using e)
  | .tup ds, v, u, k + 1, hp, dv, r, hs, hz => by
    cases dv with
    | @tup a xs _ h hds =>
      cases r
      obtain ⟨_, its, rv, o, ho, hc, n, ht⟩ := (show ObjOk X.prog X.w H s.heap _ (.tup _) from I.hok _ _ h)
      simp only [D.pyM, PyData.shown, PyData.showable, PyData.depth, D.fineM] at hs hz hp ⊢
      obtain ⟨as, bs, rd, hb, hk⟩ := rkA_dv I ds xs its k hp hds rv hs (fun t ht => Nat.le_trans (tupleText_mem_le ht) hz)
      have rr := Reads.tuple ho hc ht rd
      have out := not_mem_of_deeper rr (by simp only [PyData.depth]; omega) hb
      exact ⟨_, a :: bs, rr, ReadAtMost.cons rr (by simp only [PyData.depth]; omega) hb, ReprK.tuple ho hc ht out hk⟩
  | .mt, v, u, k, _, dv, r, _, _ => by
    cases dv with
    | @mt a h =>
      cases r
      obtain ⟨_, hns, vs, kv, o, es, ep, h1, h2, h3, h4⟩ := (show ObjOk X.prog X.w H s.heap a (.dK []) from I.hok a _ h)
      cases kv
      have e0 : es.toList = [] := by
        have z := h4.2.1
        cases hl : es.toList with
        | nil => rfl
        | cons y ys => rw [hl] at z; cases z
      have rr : Reads s.heap (.ref a) (.dict []) (a :: [] ++ []) := .dict h1 h2.1 h3 (by rw [e0]; exact .nil) (by rw [e0]; exact .nil)
      simp only [D.pyM]
      refine ⟨_, [a], rr, ReadAtMost.cons rr (Nat.le_refl _) (fun _ h => (nomatch h)), ?_⟩
      have hsys : (a == sysModules) = false := by simpa using hns
      have en : ReprEntriesK X.prog X.w [] s.heap (PyData.depthKv []) es.toList (PyData.shownKv []) := by
        rw [e0]
        exact .nil
      simpa only [PyData.shown, PyData.depth, PyData.shownKv] using ReprK.dict h1 h2.1 h3 hsys (by simp) en
  | .ins _ _, _, _, k, h, _, _, _, _ => by cases k <;> simp [D.fineM] at h
  | .exc _ _, _, _, k, h, _, _, _, _ => by cases k <;> simp [D.fineM] at h
  | .fn _, _, _, k, h, _, _, _, _ => by cases k <;> simp [D.fineM] at h
  | .drw, _, _, k, h, _, _, _, _ => by cases k <;> simp [D.fineM] at h
theorem rkA_dv (I : Inv X pins σ H s) : ∀ (ds : List D) (vs : List V) (us : List Value) (k : Nat), D.fineMA k ds = true → DvA X.K X.mg w H vs ds → Vals vs us → PyData.showableAll (D.pyMA ds) = true → (∀ t ∈ PyData.shownAll (D.pyMA ds), t.length ≤ sizeLine) →
    ∃ as bs, ReadsAll s.heap us (D.pyMA ds) as ∧ ReadAtMost s.heap (PyData.depthAll (D.pyMA ds)) bs ∧ ReprAllK X.prog X.w bs s.heap (PyData.depthAll (D.pyMA ds)) us (PyData.shownAll (D.pyMA ds))
  | [], _, _, k, _, dv, r, _, _ => by
    cases dv
    cases r
    simp only [D.pyMA, PyData.shownAll]
    exact ⟨[], [], .nil, (fun _ h => nomatch h), .nil⟩
  | x :: xs, _, _, k, hp, dv, r, hs, hz => by
    cases dv with
    | cons d1 d2 =>
      cases r with
      | cons r1 r2 =>
        simp only [D.fineMA, Bool.and_eq_true] at hp
        simp only [D.pyMA, PyData.showableAll, Bool.and_eq_true] at hs
        simp only [D.pyMA, PyData.shownAll, List.mem_cons] at hz
        obtain ⟨a1, b1, q1, m1, k1⟩ := rk_dv I x _ _ k hp.1 d1 r1 hs.1 (hz _ (.inl rfl))
        obtain ⟨a2, b2, q2, m2, k2⟩ := rkA_dv I xs _ _ k hp.2 d2 r2 hs.2 fun t ht => hz t (.inr ht)
        refine ⟨_, b1 ++ b2, .cons q1 q2, fun b hm => ?_, ?_⟩
        · simp only [D.pyMA, PyData.depthAll]
          rcases List.mem_append.mp hm with z | z
          · obtain ⟨d, as, rd, hd⟩ := m1 b z
            exact ⟨d, as, rd, by omega⟩
          · obtain ⟨d, as, rd, hd⟩ := m2 b z
            exact ⟨d, as, rd, by omega⟩
        · simp only [D.pyMA, PyData.depthAll, PyData.shownAll]
          exact .cons ((k1.more fun b hb => List.mem_append.mpr (.inl hb)).level_le (by omega)) (k2.more_le (fun b hb => List.mem_append.mpr (.inr hb)) (by omega))
end
end
/-- a list not empty, {} in it too: what repr shows -/
def rReprM (X : Cx) (w : Dr) : List V → Hp → VK → Prop := fun xs H Q => ∃ a ds vs k, xs = [.ref a] ∧ H a = some (.lst vs) ∧ DvA X.K X.mg w H vs ds ∧ ds ≠ [] ∧ D.fineMA k ds = true ∧ PyData.showableAll (D.pyMA ds) = true ∧ PyData.depthAll (D.pyMA ds) ≤ 40 ∧ (listText (PyData.shownAll (D.pyMA ds))).length ≤ sizeLine ∧ Q (.str (listText (PyData.shownAll (D.pyMA ds)))) H
theorem call_reprM {X : Cx} {w : Dr} {k : Nat} (hr : Room k X.A) (hG : X.A.guards = some []) : CallR X (.builtin "repr") (rReprM X w) := by
  intro pins s σ H xs us Q I r h
  obtain ⟨a, ds, vs, k, rfl, h, hds, ne, hp, hs, hd, ln, q⟩ := h
  have hu := hr.un
  obtain ⟨u, rfl, ru⟩ := vals1 r
  cases ru
  obtain ⟨_, its, n, rv, ho⟩ := (show ObjOk X.prog X.w H s.heap _ (.lst _) from I.hok _ _ h)
  obtain ⟨as, bs, rd, hb, kk⟩ := rkA_dv I ds vs its k hp hds rv hs (fun t ht => Nat.le_trans (listText_mem_le ht) ln)
  have out := not_mem_of_deeper (Reads.list ho rfl rfl rd) (by simp only [PyData.depth]; omega) hb
  cases its with
  | nil => cases rv; cases hds; exact absurd rfl ne
  | cons y ys =>
    refine call_repr_slot (T := "list") (by omega) ⟨_, ho, rfl⟩ F.slot_list_repr.toG (call_list_reprK (A := X.A.in1) ho rfl rfl out (by simpa using kk.length_eq) (fun i y e => kk.item i y (by simpa using e)) hG (fun b _ => Clear.nil b) (by show X.A.units + 1 + _ < cLine; omega) (fun _ _ z => z) (fun h' u tk kp => ⟨_, _, rfl, .str _, H, I.kept kp, ⟨_, rfl⟩, q⟩) ln)
section
variable {X : Cx} {C : Cn} {e : Expr} {f : ED} {p pos : Pos}
def reprOkM (ds : List D) : Prop := ds ≠ [] ∧ (∃ k, D.fineMA k ds = true) ∧ PyData.showableAll (D.pyMA ds) = true ∧ PyData.depthAll (D.pyMA ds) ≤ 40 ∧ (listText (PyData.shownAll (D.pyMA ds))).length ≤ sizeLine
def eReprM (f : ED) : ED := fun env N Q => f env N fun r N1 => match r with | .lst ds => reprOkM ds ∧ Q (.str (listText (PyData.shownAll (D.pyMA ds)))) N1 | _ => False
theorem pd_reprM {j : Nat} (hg : Gl X "repr") (hm : X.mg "repr" = none) (hr : Room j X.A) (hG : X.A.guards = some []) (h : PEb X C e f) (hs : starEach [e] X.env = (false, eval e X.env) :: starEach [] X.env := by rfl) : PEd X C (.Call (.Name "repr" p) [e] [] pos) (eReprM f) :=
  ⟨PE.imp (pe_callB (id := "repr") (r := rReprM X C.w) (call_reprM hr hG) hg hm (by decide +kernel) (pa_cons h.pe pa_nil hs) (by decide) (by decide) hs rfl) fun σ H Q ⟨env, Hs, N, R, r, hf, k⟩ => ⟨env, Hs, N, _, r, hf, fun y N1 h1 v H1 Hs1 g1 m1 d1 => by
    match y, h1 with
    | .lst ds, ⟨⟨a1, ⟨kk, a2⟩, a3, a4, a5⟩, h1⟩ =>
      obtain ⟨a, vs, rfl, ha, hds⟩ := d1.list g1.sub
      exact ⟨a, ds, vs, kk, rfl, ha, DvA.same g1.sub _ _ hds, a1, a2, a3, a4, a5, k _ _ h1 _ _ _ g1 m1 (.str _)⟩⟩⟩
end
end Pd
namespace Pd
open PySem PySem.Spec PyProof.Rows L2
mutual
def D.rlM : D → Nat
  | .non => 4
  | .bl _ => 5
  | .int i => (D.int i).rl
  | .str x => (reprText x).length
  | .lst xs => D.rlMA xs + 3
  | .tup xs => D.rlMA xs + 4
  | .mt => 2
  | _ => 4
def D.rlMA : List D → Nat
  | [] => 0
  | x :: xs => D.rlM x + 2 + D.rlMA xs
end
mutual
def D.shwM : D → Bool
  | .non | .bl _ | .str _ | .mt => true
  | .int i => decide (i.natAbs.log2 < 1920)
  | .lst xs => D.shwMA xs
  | .tup xs => D.shwMA xs
  | _ => false
def D.shwMA : List D → Bool
  | [] => true
  | x :: xs => D.shwM x && D.shwMA xs
end
mutual
theorem shwM_of : ∀ (d : D), d.shw = true → d.shwM = true ∧ d.rlM = d.rl
  | .non, _ => ⟨rfl, rfl⟩
  | .bl _, _ => ⟨rfl, rfl⟩
  | .int _, h => ⟨by simpa only [D.shw, D.shwM] using h, by simp only [D.rlM]⟩
  | .str _, _ => ⟨rfl, by simp only [D.rlM, D.rl]⟩
  | .lst xs, h => by
    simp only [D.shw, D.shwM, D.rl, D.rlM] at h ⊢
    have := shwMA_of xs h
    exact ⟨this.1, by rw [this.2]⟩
  | .tup xs, h => by
    simp only [D.shw, D.shwM, D.rl, D.rlM] at h ⊢
    have := shwMA_of xs h
    exact ⟨this.1, by rw [this.2]⟩
  | .ins _ _, h => by simp [D.shw] at h
  | .exc _ _, h => by simp [D.shw] at h
  | .fn _, h => by simp [D.shw] at h
  | .mt, h => by simp [D.shw] at h
  | .drw, h => by simp [D.shw] at h
theorem shwMA_of : ∀ (ds : List D), D.shwA ds = true → D.shwMA ds = true ∧ D.rlMA ds = D.rlA ds
  | [], _ => ⟨rfl, rfl⟩
  | x :: xs, h => by
    simp only [D.shwA, Bool.and_eq_true] at h
    have h1 := shwM_of x h.1
    have h2 := shwMA_of xs h.2
    simp only [D.shwMA, D.rlMA, D.rlA, h1, h2, Bool.and_self, and_self]
end
mutual
theorem fineM_deep : ∀ (k : Nat) (d : D), d.fineM k = true → d.pyM.depth ≤ k + 1
  | k, .non, _ => by simp [D.pyM, PyData.depth]
  | k, .bl _, _ => by simp [D.pyM, PyData.depth]
  | k, .int _, _ => by simp [D.pyM, PyData.depth]
  | k, .str _, _ => by simp [D.pyM, PyData.depth]
  | k, .mt, _ => by simp [D.pyM, PyData.depth, PyData.depthKv]
  | 0, .lst _, h => by simp [D.fineM] at h
  | 0, .tup _, h => by simp [D.fineM] at h
  | k + 1, .lst xs, h => by
    simp only [D.fineM, D.pyM, PyData.depth] at h ⊢
    have := fineMA_deep k xs h
    omega
  | k + 1, .tup xs, h => by
    simp only [D.fineM, D.pyM, PyData.depth] at h ⊢
    have := fineMA_deep k xs h
    omega
  | k, .ins _ _, h => by cases k <;> simp [D.fineM] at h
  | k, .exc _ _, h => by cases k <;> simp [D.fineM] at h
  | k, .fn _, h => by cases k <;> simp [D.fineM] at h
  | k, .drw, h => by cases k <;> simp [D.fineM] at h
theorem fineMA_deep : ∀ (k : Nat) (ds : List D), D.fineMA k ds = true → PyData.depthAll (D.pyMA ds) ≤ k + 1
  | k, [], _ => by simp [D.pyMA, PyData.depthAll]
  | k, x :: xs, h => by
    simp only [D.fineMA, Bool.and_eq_true] at h
    have h1 := fineM_deep k x h.1
    have h2 := fineMA_deep k xs h.2
    simp only [D.pyMA, PyData.depthAll]
    omega
end
mutual
theorem shownM_len : ∀ (d : D), d.shwM = true → d.pyM.showable = true ∧ d.pyM.shown.length ≤ d.rlM
  | .non, _ => by simp only [D.pyM, D.rlM]; decide
  | .bl b, _ => by cases b <;> (simp only [D.pyM, D.rlM]; decide)
  | .int i, h => by
    have e := shown_len (.int i) rfl
    simp only [D.py] at e
    simp only [D.shwM, D.pyM, PyData.showable, D.rlM] at h ⊢
    exact ⟨h, e⟩
  | .str x, _ => by simp only [D.pyM, D.rlM, PyData.shown, PyData.showable]; exact ⟨trivial, Nat.le_refl _⟩
  | .mt, _ => by simp only [D.pyM, D.rlM]; decide
  | .lst xs, h => by
    simp only [D.shwM, D.pyM, D.rlM, PyData.shown, PyData.showable] at h ⊢
    have a := listText_len_le (PyData.shownAll (D.pyMA xs))
    have b := shownM_lenA xs h
    exact ⟨b.1, by omega⟩
  | .tup xs, h => by
    simp only [D.shwM, D.pyM, D.rlM, PyData.shown, PyData.showable] at h ⊢
    have a := tupleText_len_le (PyData.shownAll (D.pyMA xs))
    have b := shownM_lenA xs h
    exact ⟨b.1, by omega⟩
  | .ins _ _, h => by simp [D.shwM] at h
  | .exc _ _, h => by simp [D.shwM] at h
  | .fn _, h => by simp [D.shwM] at h
  | .drw, h => by simp [D.shwM] at h
theorem shownM_lenA : ∀ (ds : List D), D.shwMA ds = true → PyData.showableAll (D.pyMA ds) = true ∧ ((PyData.shownAll (D.pyMA ds)).map (·.length)).sum + 2 * (PyData.shownAll (D.pyMA ds)).length ≤ D.rlMA ds
  | [], _ => by simp [D.pyMA, PyData.shownAll, D.rlMA, PyData.showableAll]
  | x :: xs, h => by
    simp only [D.shwMA, Bool.and_eq_true] at h
    have a := shownM_len x h.1
    have b := shownM_lenA xs h.2
    simp only [D.pyMA, PyData.shownAll, PyData.showableAll, D.rlMA, List.map_cons, List.sum_cons, List.length_cons, a.1, b.1, Bool.and_self, true_and]
    omega
end
/-- data with {} in it that repr shows: how deep, how long -/
structure ShM (k m : Nat) (d : D) : Prop where
  f : d.fineM k = true
  s : d.shwM = true
  r : d.rlM ≤ m
theorem ShM.up {k m j n : Nat} {d : D} (h : ShM k m d) (h1 : k ≤ j) (h2 : m ≤ n) : ShM j n d := ⟨fineM_up h.f h1, h.s, Nat.le_trans h.r h2⟩
theorem ShM.of {k m : Nat} {d : D} (h1 : d.fine k = true) (h2 : d.shw = true) (h3 : d.rl ≤ m) : ShM k m d := ⟨fineM_of k d h1, (shwM_of d h2).1, by rw [(shwM_of d h2).2]; exact h3⟩
theorem shMA {k m : Nat} : ∀ {ds : List D}, (∀ x ∈ ds, ShM k m x) → D.fineMA k ds = true ∧ D.shwMA ds = true ∧ D.rlMA ds ≤ (m + 2) * ds.length
  | [], _ => ⟨rfl, rfl, by simp [D.rlMA]⟩
  | x :: xs, h => by
    have h1 := h x (by simp)
    have h2 := shMA (ds := xs) fun y hy => h y (List.mem_cons_of_mem _ hy)
    have := h1.r
    simp only [D.fineMA, D.shwMA, D.rlMA, h1.f, h1.s, h2.1, h2.2.1, List.length_cons, Nat.mul_add, Bool.and_self, true_and]
    omega
theorem ShM.tup {k m : Nat} {ds : List D} (h : ∀ x ∈ ds, ShM k m x) : ShM (k + 1) ((m + 2) * ds.length + 4) (.tup ds) := by
  obtain ⟨a, b, c⟩ := shMA h
  exact ⟨by simpa only [D.fineM] using a, by simpa only [D.shwM] using b, by simp only [D.rlM]; omega⟩
theorem ShM.lst {k m : Nat} {ds : List D} (h : ∀ x ∈ ds, ShM k m x) : ShM (k + 1) ((m + 2) * ds.length + 3) (.lst ds) := by
  obtain ⟨a, b, c⟩ := shMA h
  exact ⟨by simpa only [D.fineM] using a, by simpa only [D.shwM] using b, by simp only [D.rlM]; omega⟩
theorem ShM.repr {k m : Nat} {ds : List D} (h : ∀ x ∈ ds, ShM k m x) (ne : ds ≠ []) (hk : k ≤ 39) (hm : (m + 2) * ds.length ≤ 10000000) : reprOkM ds := by
  obtain ⟨a, b, c⟩ := shMA h
  have e := shownM_lenA ds b
  have l := listText_len_le (PyData.shownAll (D.pyMA ds))
  have d := fineMA_deep k ds a
  exact ⟨ne, ⟨k, a⟩, e.1, by omega, by rw [sizeLine_eq]; omega⟩
end Pd
/-! ## Pd: a tuple times an int, of any size from below nought on -/
namespace Pd
open PySem PySem.Spec PyProof.Rows L2
theorem tmul_none (l : Addr) (items : Array Value) (n : Nat) (dd : Option Addr) (sl : Array (Option Value)) (x : Int) (u : Tok) (h0 : (decide (x < -(2 ^ 63)) || decide (x ≥ 2 ^ 63)) = false) (h1 : (items.isEmpty || x == 1) = false) (h2 : (decide (x ≤ 0) || items.isEmpty) = true) :
    Meets (Builtin.«tuple.__mul__» ⟨[.ref l, .int x u], []⟩) (fun _ R s => s.heap.get? l = some { cls := .type "tuple", dict := dd, data := .seq items n, slots := sl } ∧
      R (.ok (.ret (Value.ref s.heap.objs.size))) { s with heap := s.heap.push { cls := Value.type "tuple", data := Data.seq #[] }, toks := s.toks }) :=
  .of_wp fun prog w A R s h => by
    obtain ⟨hp, g, d, tk, os⟩ := s
    obtain ⟨hl, h⟩ := h
    have f1 := AutoSeq1.idx_int
    wp_walk using wpAny_loadPart' hl
    repeat (first
      | (refine wpAny_ite_false (decide_eq_false (by rw [h0]; exact Bool.false_ne_true)) ?_; wp_walk using wpAny_loadPart' hl)
      | (refine wpAny_ite_false (decide_eq_false (by rw [h1]; exact Bool.false_ne_true)) ?_; wp_walk using wpAny_loadPart' hl)
      | (refine wpAny_ite_true (decide_eq_true h2) ?_; wp_walk using wpAny_loadPart' hl))
    exact ⟨_, rfl, h⟩
theorem tmul_same (l : Addr) (items : Array Value) (n : Nat) (dd : Option Addr) (sl : Array (Option Value)) (x : Int) (u : Tok) (h0 : (decide (x < -(2 ^ 63)) || decide (x ≥ 2 ^ 63)) = false) (h1 : (items.isEmpty || x == 1) = true) :
    Meets (Builtin.«tuple.__mul__» ⟨[.ref l, .int x u], []⟩) (fun _ R s => s.heap.get? l = some { cls := .type "tuple", dict := dd, data := .seq items n, slots := sl } ∧
      R (.ok (.ret (Value.ref l))) s) :=
  .of_wp fun prog w A R s h => by
    obtain ⟨hp, g, d, tk, os⟩ := s
    obtain ⟨hl, h⟩ := h
    have f1 := AutoSeq1.idx_int
    wp_walk using wpAny_loadPart' hl
    repeat (first
      | (refine wpAny_ite_false (decide_eq_false (by rw [h0]; exact Bool.false_ne_true)) ?_; wp_walk using wpAny_loadPart' hl)
      | (refine wpAny_ite_true (decide_eq_true h1) ?_; wp_walk using wpAny_loadPart' hl))
    exact ⟨_, rfl, h⟩
def oMulT : O2
  | .tup xs, .int k, P => (xs ≠ [] ∧ -1000000 ≤ k ∧ k ≤ 1000 ∧ xs.length ≤ 1000) ∧ P (.tup (List.replicate k.toNat xs).flatten)
  | _, _, _ => False
section
variable {X : Cx} {w : Dr}
theorem od_mulT : OpD X w (binaryOp .Mult) oMulT := by
  intro pins s σ H x y v u Q I rx ry ⟨Hs, N, a, b, P, s0, m, ha, hb, ho, out⟩
  match a, b, ho with
  | .tup xs, .int k, ⟨⟨k0, k1, k2, hc⟩, hp⟩ =>
    obtain ⟨p, vs, rfl, g1, g1s, d1⟩ := ha.tup s0
    have e2 := hb.int
    subst e2
    have vne : vs ≠ [] := fun z => k0 (by
      have := d1.len
      rw [z] at this
      exact List.eq_nil_of_length_eq_zero this.symm)
    have dr : ∀ n : Nat, DvA X.K X.mg w Hs (List.replicate n vs).flatten (List.replicate n xs).flatten := fun n => by
      induction n with
      | zero => exact .nil
      | succ n ih =>
        rw [List.replicate_succ, List.replicate_succ, List.flatten_cons, List.flatten_cons]
        exact d1.app ih
    by_cases hk2 : 2 ≤ k
    · exact op_repT pins s σ H _ _ v u Q I rx ry ⟨p, k, vs, rfl, rfl, SqT.of g1, vne, hk2, k2, by rw [d1.len]; exact hc, fun l hl => out.tup s0 hp (dr _) hl⟩
    · cases rx
      obtain ⟨t, rfl⟩ := ry
      obtain ⟨its, r, ⟨⟨cls, dd, data, sl⟩, ho, hc', n, hd⟩, hs⟩ := I.tuple (SqT.of g1)
      simp only at hc' hd
      subst hc' hd
      have hi : its.toArray.isEmpty = false := by
        cases its with
        | nil => exact absurd (List.eq_nil_of_length_eq_zero r.length) vne
        | cons a b => rfl
      have c0 : (decide (k < -(2 ^ 63)) || decide (k ≥ 2 ^ 63)) = false := by
        rw [decide_eq_false (by omega), decide_eq_false (by omega)] <;> rfl
      by_cases hk1 : k = 1
      · subst hk1
        have c1 : (its.toArray.isEmpty || (1 : Int) == 1) = true := by rw [hi]; rfl
        refine wpAny_binaryOp_repeat_ref (T := "tuple") (U := "int") (by decide) ⟨_, ho, rfl⟩ (fun s' => typeIs_int s' 1 t) noFill_tuple_mul F.fills_int_mul F.slot_int_rmul repeat_tuple F.slot_int_index.lookup
          (call_meets F.slot_int_rmul (typeIs_int s 1 t) F.entry_int_rmul (F.args_int_rmul_2 _ _) (int_rmul_tuple 1 t p its.toArray n dd sl)
            ⟨ho, rfl, ⟨_, ho, rfl⟩, call_meets F.slot_tuple_mul ⟨_, ho, rfl⟩ F.entry_tuple_mul (F.args_tuple_mul_2 _ _) (tmul_same p its.toArray n dd sl 1 t c0 c1) ⟨ho, ?_⟩⟩)
        refine ⟨.ref p, H, I, rfl, out.now s0 hp ?_⟩
        have e : (List.replicate (Int.toNat 1) xs).flatten = xs := by simp [List.replicate]
        rw [e]
        exact .tup g1s d1
      · have hk0 : k ≤ 0 := by omega
        have c1 : (its.toArray.isEmpty || k == 1) = false := by
          rw [hi, Bool.false_or]
          exact beq_eq_false_iff_ne.mpr hk1
        have c2 : (decide (k ≤ 0) || its.toArray.isEmpty) = true := by rw [decide_eq_true hk0]; rfl
        refine wpAny_binaryOp_repeat_ref (T := "tuple") (U := "int") (by decide) ⟨_, ho, rfl⟩ (fun s' => typeIs_int s' k t) noFill_tuple_mul F.fills_int_mul F.slot_int_rmul repeat_tuple F.slot_int_index.lookup
          (call_meets F.slot_int_rmul (typeIs_int s k t) F.entry_int_rmul (F.args_int_rmul_2 _ _) (int_rmul_tuple k t p its.toArray n dd sl)
            ⟨ho, rfl, ⟨_, ho, rfl⟩, call_meets F.slot_tuple_mul ⟨_, ho, rfl⟩ F.entry_tuple_mul (F.args_tuple_mul_2 _ _) (tmul_none p its.toArray n dd sl k t c0 c1 c2) ⟨ho, ?_⟩⟩)
        have e : (List.replicate k.toNat xs).flatten = [] := by rw [show k.toNat = 0 by omega]; rfl
        rw [e] at hp
        exact ⟨.ref s.heap.objs.size, _, I.laid (t' := s.toks) (o := .tup []) (fun b ob q => Heap.get?_push_of_some _ q) (Nat.le_refl _) ⟨by decide, [], .nil, IsTup.new _ _⟩, rfl, out.tup s0 hp .nil (I.hok.fresh (Nat.le_refl _))⟩
end
end Pd
/-! ## Methods over data that may raise -/
namespace Rd
open PySem L2 PySem.Spec PyProof.Rows
def tMethS (C : Addr) (m : Str) (sp : Sp) (E : L2.St → XK) (ta : TE) (t : TA) : TE := fun σ H Q => ta σ H fun x H1 => ∃ a dx fs, x = .ref a ∧ H1 a = some (.ins C dx fs) ∧ fs.lookup m = none ∧ t σ H1 fun vs H2 => sp (x :: vs) H2 Q (E σ)
theorem pe_methGX {X : Cx} {k : Nat} {C f : Addr} {fd : FuncData} {m : Str} {ps : List Str} {sp : Sp} {apos pos : Pos} {o e : Expr} {es : List Expr} {ta : TE} {t : TA} {E : L2.St → XK} {pl : Sem Bool} (he : PE X o ta) (c : Cls X.K C) (hm : Meth X.K C m f) (b : Binds X.K fd ps [])
    (F : FnOkG X.prog X.w X.K X.mg X.base (L2.CX X.prog X.w) k f fd ps sp) (hG : X.A.guards = some []) (hr : Room k X.A) (hx : ∀ σ, PassesAt (L2.CX X.prog X.w) X σ (E σ)) (ha : PA X (e :: es) t)
    (hst : starEach (e :: es) X.env = (false, eval e X.env) :: starEach es X.env := by rfl) (hpl : (backTo pos (starEach es X.env)).any (·.1) = false := by rfl)
    (ht : eval (.Call (.Attribute o m apos) (e :: es) [] pos) X.env = (do
      let ov ← eval o X.env
      standAt apos.atName
      let (f, first) ← holding [ov] (getMethod ov m pl)
      callWith pos f first (backTo pos (starEach (e :: es) X.env)) (backToKw pos (keywordEach [] X.env))) := by rfl) :
    PE X (.Call (.Attribute o m apos) (e :: es) [] pos) (tMethS C m sp E ta t) := by
  refine ⟨fun pins s σ H Q I h => ?_⟩
  refine PySem.W.methodCall_KW (pl := pl) (thn (he.run pins s σ H _ I h) fun u s1 ⟨x, H1, I1, rx, a, dx, fs, ex, ea, l, q⟩ => ?_) ht
  subst ex
  obtain rfl : u = Value.ref a := rx
  refine getmeth_ok I1 ea c hm l ?_
  refine PySem.W.callWith_K (first := [.ref a]) (h₀ := X.base) I.ok.mod.kin hm.kp (thn (ha.run pos pins s1 σ H1 _ I1 q) fun us s2 ⟨vs, H2, I2, r, q2⟩ => ⟨I2.kIn, ?_⟩) hst hpl
  have r2 : Vals (.ref a :: vs) (.ref a :: us) := .cons (show RelV (.ref a) (.ref a) from rfl) r
  have hb := b s2 (.ref a :: us) I2.kIn (by rw [List.append_nil]; exact r2.length.symm.trans (F.len _ _ _ _ q2))
  rw [List.append_nil] at hb
  refine wpAny_call (codeAny_mono (F.run X.A X.stack s2 H2 ⟨.ref a :: us, []⟩ (.ref a :: us) (.ref a :: vs) Q (E σ) hG hr I2.env0 hb r2 q2) fun r s' hq => ?_)
  match r, hq with
  | .error e, z => exact hx σ pins H2 s2 e s' I2 z
  | .ok (.ret u), z => exact I2.after z
  | .ok .next, z => exact z.elim
  | .ok .brk, z => exact z.elim
  | .ok .cont, z => exact z.elim
def tMethG (C : Addr) (m : Str) (sp : Sp) (ta : TE) (t : TA) : TE := fun σ H Q => ta σ H fun x H1 => ∃ a dx fs, x = .ref a ∧ H1 a = some (.ins C dx fs) ∧ fs.lookup m = none ∧ t σ H1 fun vs H2 => sp (x :: vs) H2 Q E0
theorem pe_methG {X : Cx} {k : Nat} {C f : Addr} {fd : FuncData} {m : Str} {ps : List Str} {sp : Sp} {apos pos : Pos} {o e : Expr} {es : List Expr} {ta : TE} {t : TA} {pl : Sem Bool} (he : PE X o ta) (c : Cls X.K C) (hm : Meth X.K C m f) (b : Binds X.K fd ps [])
    (F : FnOkG X.prog X.w X.K X.mg X.base CX0 k f fd ps sp) (hG : X.A.guards = some []) (hr : Room k X.A) (ha : PA X (e :: es) t)
    (hst : starEach (e :: es) X.env = (false, eval e X.env) :: starEach es X.env := by rfl) (hpl : (backTo pos (starEach es X.env)).any (·.1) = false := by rfl)
    (ht : eval (.Call (.Attribute o m apos) (e :: es) [] pos) X.env = (do
      let ov ← eval o X.env
      standAt apos.atName
      let (f, first) ← holding [ov] (getMethod ov m pl)
      callWith pos f first (backTo pos (starEach (e :: es) X.env)) (backToKw pos (keywordEach [] X.env))) := by rfl) :
    PE X (.Call (.Attribute o m apos) (e :: es) [] pos) (tMethG C m sp ta t) := by
  refine ⟨fun pins s σ H Q I h => ?_⟩
  refine PySem.W.methodCall_KW (pl := pl) (thn (he.run pins s σ H _ I h) fun u s1 ⟨x, H1, I1, rx, a, dx, fs, ex, ea, l, q⟩ => ?_) ht
  subst ex
  obtain rfl : u = Value.ref a := rx
  refine getmeth_ok I1 ea c hm l ?_
  refine PySem.W.callWith_K (first := [.ref a]) (h₀ := X.base) I.ok.mod.kin hm.kp (thn (ha.run pos pins s1 σ H1 _ I1 q) fun us s2 ⟨vs, H2, I2, r, q2⟩ => ⟨I2.kIn, ?_⟩) hst hpl
  have r2 : Vals (.ref a :: vs) (.ref a :: us) := .cons (show RelV (.ref a) (.ref a) from rfl) r
  have hb := b s2 (.ref a :: us) I2.kIn (by rw [List.append_nil]; exact r2.length.symm.trans (F.len _ _ _ _ q2))
  rw [List.append_nil] at hb
  refine wpAny_call (codeAny_mono (F.run X.A X.stack s2 H2 ⟨.ref a :: us, []⟩ (.ref a :: us) (.ref a :: vs) Q E0 hG hr I2.env0 hb r2 q2) fun r s' hq => ?_)
  match r, hq with
  | .error e, z => exact z.elim
  | .ok (.ret u), z => exact I2.after z
  | .ok .next, z => exact z.elim
  | .ok .brk, z => exact z.elim
  | .ok .cont, z => exact z.elim
end Rd
namespace Pd
open PySem L2 PySem.Spec PyProof.Rows Exv Exz Exs
/-- a method that may raise -/
def MethX (T : LTabs) (P : Program) (w : World) (K : PySem.W.Frag) (mg : Str → Option Value) (base : Heap) (k : Nat) (c m : Str) (ps : List Str) (F : FX) : Prop :=
  ∃ (C f : Addr) (fd : FuncData), mg c = some (.ref C) ∧ Cls K C ∧ Meth K C m f ∧ Binds K fd ps [] ∧ Rd.FnOkG P w K mg base (L2.CX P w) k f fd ps (spX T K mg ps.length F)
def eMethX (c m : Str) (n : Nat) (F : FX) (Ex : ExE) (fo : ED) (fa : AD) : ED := fun env N Q => fo env N fun r N1 => match r with
  | .ins c' gs => c' = c ∧ gs.lookup m = none ∧ fa env N1 fun rs N2 => rs.length + 1 = n ∧ F (.ins c' gs :: rs) N2 Q fun c fs N3 => Ex env c fs N3
  | _ => False
theorem DvF.look {K : PySem.W.Frag} {mg : Str → Option Value} {w : Dr} {H : Hp} {m : Str} : ∀ {fs : List (Str × V)} {gs : List (Str × D)}, DvF K mg w H fs gs → gs.lookup m = none → fs.lookup m = none
  | _, _, .nil, _ => rfl
  | _, _, .cons (f := f) h t, e => by
    simp only [List.lookup] at e ⊢
    cases q : (m == f) with
    | true => rw [q] at e; cases e
    | false => rw [q] at e; exact DvF.look t e
section
variable {X : Cx} {C : Cn} {o e : Expr} {es : List Expr} {pos apos : Pos} {c m : Str} {fo : ED} {fa : AD} {k : Nat} {ps : List Str} {F : FX} {Ex : ExE} {pl : Sem Bool}
theorem pd_methX (Me : MethX C.w.T X.prog X.w X.K X.mg X.base k c m ps F) (tk : L2.Takes X (WD X.K X.mg C Ex)) (hG : X.A.guards = some []) (hr : Room k X.A) (ho : PEd X C o fo) (ha : PAd X C (e :: es) fa)
    (hst : starEach (e :: es) X.env = (false, eval e X.env) :: starEach es X.env := by rfl) (hpl : (backTo pos (starEach es X.env)).any (·.1) = false := by rfl)
    (ht : eval (.Call (.Attribute o m apos) (e :: es) [] pos) X.env = (do
      let ov ← eval o X.env
      standAt apos.atName
      let (f, first) ← holding [ov] (getMethod ov m pl)
      callWith pos f first (backTo pos (starEach (e :: es) X.env)) (backToKw pos (keywordEach [] X.env))) := by rfl) : PEd X C (.Call (.Attribute o m apos) (e :: es) [] pos) (eMethX c m ps.length F Ex fo fa) := by
  obtain ⟨CC, f, fd, hmc, cl, mt, b, Fo⟩ := Me
  exact ⟨PE.imp (Rd.pe_methGX (pl := pl) ho.pe cl mt b Fo hG hr (fun σ => passAt tk σ) ha.pa hst hpl ht) fun σ H Q ⟨env, Hs, N, R, r, hf, kk⟩ => ⟨env, Hs, N, _, r, hf, fun q N1 h1 v H1 Hs1 g1 m1 d1 => by
    cases d1 with
    | @ins a C' dx c' fs gs e1 e2 e3 =>
      obtain ⟨ec, hl, h1⟩ := h1
      subst ec
      have eC : C' = CC := by
        rw [hmc] at e2
        cases e2
        rfl
      subst eC
      refine ⟨a, dx, fs, rfl, g1.sub _ _ e1, DvF.look e3 hl, env, Hs1, N1, _, r.move g1 m1, h1, fun rs N2 ⟨hn, h2⟩ vs H2 Hs2 g2 m2 d2 => ?_⟩
      have dself : Dv X.K X.mg C.w Hs2 (.ref a) (.ins _ gs) := Dv.same g2.sh _ _ (.ins e1 hmc e3)
      refine ⟨C.w, Hs2, N2, .ins _ gs :: rs, R, _, rfl, by simp only [List.length_cons, d2.len]; exact hn, g2.sub, m2, ((r.move g1 m1).move g2 m2).hd, ((r.move g1 m1).move g2 m2).hg, .cons dself d2, h2,
        fun q N3 hq v H3 Hs3 g3 m3 d3 => kk _ _ hq _ _ _ ((g1.trans g2).trans g3) m3 d3, fun c fs N3 hx Ca d H3 Hs3 g3 m3 hc xf => ⟨env, Hs3, N3, c, Ca, fs, ((r.move g1 m1).move g2 m2).move g3 m3, hc, rfl, xf, hx⟩⟩
    | _ => exact h1.elim⟩⟩
/-- one that raises nothing here -/
def MethD (T : LTabs) (P : Program) (w : World) (K : PySem.W.Frag) (mg : Str → Option Value) (base : Heap) (k : Nat) (c m : Str) (ps : List Str) (F : FD) : Prop :=
  ∃ (C f : Addr) (fd : FuncData), mg c = some (.ref C) ∧ Cls K C ∧ Meth K C m f ∧ Binds K fd ps [] ∧ Rd.FnOkG P w K mg base CX0 k f fd ps (spD T K mg ps.length F)
theorem meth_calm {T : LTabs} {P : Program} {w : World} {K : PySem.W.Frag} {mg : Str → Option Value} {base : Heap} {k : Nat} {c m : Str} {ps : List Str} {F : FX} (Me : MethX T P w K mg base k c m ps F) : MethD T P w K mg base k c m ps (FX.calm F) := by
  obtain ⟨C, f, fd, hmc, cl, mt, b, Fo⟩ := Me
  refine ⟨C, f, fd, hmc, cl, mt, b, fun vs H Q E ⟨_, _, _, _, _, _, hl, _⟩ => hl, fun A outer s H args us vs Q E hG hr e0 hb r ⟨dr, Hs, M, ds, R, hT, hl, s0, m, hd, hg, da, hF, kk⟩ => ?_⟩
  refine codeAny_mono (Fo.run A outer s H args us vs Q (fun _ _ _ => False) hG hr e0 hb r ⟨dr, Hs, M, ds, R, _, hT, hl, s0, m, hd, hg, da, hF, kk, fun _ _ _ z => z.elim⟩) fun rr s' q => ?_
  match rr, q with
  | .error _, ⟨_, _, _, _, _, _, _, _, _, _, _, _, z⟩ => exact z.elim
  | .ok (.ret u), z => exact z
  | .ok .next, z => exact z.elim
  | .ok .brk, z => exact z.elim
  | .ok .cont, z => exact z.elim
def eMeth (c m : Str) (n : Nat) (F : FD) (fo : ED) (fa : AD) : ED := fun env N Q => fo env N fun r N1 => match r with
  | .ins c' gs => c' = c ∧ gs.lookup m = none ∧ fa env N1 fun rs N2 => rs.length + 1 = n ∧ F (.ins c' gs :: rs) N2 Q
  | _ => False
theorem pd_meth {F : FD} (Me : MethD C.w.T X.prog X.w X.K X.mg X.base k c m ps F) (hG : X.A.guards = some []) (hr : Room k X.A) (ho : PEd X C o fo) (ha : PAd X C (e :: es) fa)
    (hst : starEach (e :: es) X.env = (false, eval e X.env) :: starEach es X.env := by rfl) (hpl : (backTo pos (starEach es X.env)).any (·.1) = false := by rfl)
    (ht : eval (.Call (.Attribute o m apos) (e :: es) [] pos) X.env = (do
      let ov ← eval o X.env
      standAt apos.atName
      let (f, first) ← holding [ov] (getMethod ov m pl)
      callWith pos f first (backTo pos (starEach (e :: es) X.env)) (backToKw pos (keywordEach [] X.env))) := by rfl) : PEd X C (.Call (.Attribute o m apos) (e :: es) [] pos) (eMeth c m ps.length F fo fa) := by
  obtain ⟨CC, f, fd, hmc, cl, mt, b, Fo⟩ := Me
  exact ⟨PE.imp (Rd.pe_methG (pl := pl) ho.pe cl mt b Fo hG hr ha.pa hst hpl ht) fun σ H Q ⟨env, Hs, N, R, r, hf, kk⟩ => ⟨env, Hs, N, _, r, hf, fun q N1 h1 v H1 Hs1 g1 m1 d1 => by
    cases d1 with
    | @ins a C' dx c' fs gs e1 e2 e3 =>
      obtain ⟨ec, hl, h1⟩ := h1
      subst ec
      have eC : C' = CC := by
        rw [hmc] at e2
        cases e2
        rfl
      subst eC
      refine ⟨a, dx, fs, rfl, g1.sub _ _ e1, DvF.look e3 hl, env, Hs1, N1, _, r.move g1 m1, h1, fun rs N2 ⟨hn, h2⟩ vs H2 Hs2 g2 m2 d2 => ?_⟩
      have dself : Dv X.K X.mg C.w Hs2 (.ref a) (.ins _ gs) := Dv.same g2.sh _ _ (.ins e1 hmc e3)
      exact ⟨C.w, Hs2, N2, .ins _ gs :: rs, R, rfl, by simp only [List.length_cons, d2.len]; exact hn, g2.sub, m2, ((r.move g1 m1).move g2 m2).hd, ((r.move g1 m1).move g2 m2).hg, .cons dself d2, h2,
        fun q N3 hq v H3 Hs3 g3 m3 d3 => kk _ _ hq _ _ _ ((g1.trans g2).trans g3) m3 d3⟩
    | _ => exact h1.elim⟩⟩
theorem od_pow {w : Dr} : OpD X w (binaryOp .Pow) (oInt CPow fun i j => i ^ j.toNat) := od_int op_pow
end
end Pd
local macro_rules | `(tactic| walk_at "cd") => `(tactic| first | decide | omega | (with_unfolding_all exact Or.inl ⟨by omega, by omega⟩) | (with_unfolding_all exact Or.inr ⟨by omega, by omega⟩) | (with_unfolding_all exact ⟨by decide, by decide⟩) | (with_unfolding_all exact ⟨by omega, by omega⟩) | (with_unfolding_all exact ⟨by omega, by omega, by omega⟩) | (show (0 : Int) < _; omega) | (show (0 : Int) ≤ _; omega) | (with_unfolding_all exact ⟨by decide, by decide, by decide⟩))
local macro_rules | `(tactic| walk_at "rd") => `(tactic| with_reducible first
  | refine Rd.var (by with_unfolding_all rfl) ?_ | refine Rd.c ?_ | refine Rd.op ?_ | refine Rd.un ?_ | refine Rd.rI0_ ?_ | refine Rd.rU_ ?_
  | refine Rd.cb ?_ | refine Rd.nil ?_ | refine Rd.cons ?_ | refine Rd.int1 ?_ | refine Rd.lst ?_ | refine Rd.tup ?_ | refine Rd.test ?_ | refine Rd.tb ?_ | refine Rd.bl ?_
  | refine Rd.ifE ?_ | refine Rd.asg ?_ | refine Rd.name ?_ | refine Rd.gsub ?_ | refine Rd.seq ?_ | refine Rd.nxt ?_ | refine Rd.ret ?_ | refine Rd.drop ?_ | refine Rd.ifs ?_
  | refine Rd.dget ?_ | refine Rd.dput ?_ | refine Rd.call ?_ | refine Rd.tnot ?_ | refine Rd.tand ?_ | refine Rd.tor ?_
  | refine Rd.tfor ?_ | refine Rd.tlc ?_ | refine Rd.tlc2 ?_ | refine Rd.ilist ?_ | refine Rd.itup ?_ | refine Rd.irng1 ?_ | refine Rd.irng2 ?_ | refine Rd.ienum ?_ | refine Rd.ienA ?_ | refine Rd.izip ?_ | refine Rd.pair2n (by with_unfolding_all rfl) ?_ | refine Rd.yes ?_ | refine Rd.fld ?_ | refine Rd.setF ?_ | refine Rd.make ?_ | refine Rd.ifNT ?_ | refine Rd.ifNF ?_ | refine Rd.chain ?_ | refine Rd.chainE ?_ | refine Rd.andV ?_ | refine Rd.andVE ?_ | refine Rd.listRg ?_ | refine Rd.rg1 ?_ | refine Rd.rg1E ?_ | refine Exv.mk ?_ | refine Exv.fld ?_ | refine Rd.eqI ?_ | refine Rd.neI ?_ | refine Rd.eqS ?_ | refine Rd.neS ?_ | refine Rd.eqB ?_ | refine Rd.neB ?_ | refine Rd.disp ?_ | refine Rd.pnil ?_ | refine Rd.pcons ?_ | refine Rd.ift ?_ | refine Rd.iff_ ?_
  | (refine Rd.rI_ ?rdc ?_; (case rdc => with_unfolding_all walk_at "cd")))
local macro_rules | `(tactic| walk_at "go") => `(tactic| (repeat walk_at "rd"))
/-- what stands at an address behind new objects -/
local macro_rules | `(tactic| walk_at "hp") => `(tactic| first | assumption | exact L2.upd_same | (refine Rd.get_up ?_ (by assumption); walk_at "hp") | (refine Rd.get_ne (by assumption) ?_; walk_at "hp"))
/-- all that was tracked is as it was, behind new objects -/
local macro_rules | `(tactic| walk_at "sm") => `(tactic| first | assumption | exact L2.Same.refl _ | (refine Rd.sameN ?_ (by assumption); walk_at "sm"))
local macro_rules | `(tactic| walk_at "pd") => `(tactic| simp only [Pd.env0, Pd.eVar, Pd.eVarB, Pd.eC, Pd.aNil, Pd.aCons, Pd.eOp, Pd.eUn, Pd.eCall, Pd.eCallF, Pd.eFrz, Pd.tVal, Pd.tAndD, Pd.tOrD, Pd.tNotD, Pd.tTru, Pd.D.tru, Pd.eAndV, Pd.eOrV, Pd.eNotV, Pd.eIf, Pd.eChain, Pd.eTup, Pd.eLst, Pd.aStar, Pd.eSl, Pd.eSlF, Pd.pNo, Pd.pAt, Pd.oSl, Pd.eCatF, Pd.eIfF, Pd.eFld, Pd.eIsi, Pd.eIsi2, Pd.D.isTy, Pd.eFn, Pd.eListRg1, Pd.eListRg2, Pd.eSortSet, Pd.D.intsL, Pd.eRepr, Pd.eReprM, Pd.eMeth, Pd.eMethX, Pd.oMulT, Pd.mNil, Pd.mSh, Pd.mOw,
  Pd.fNil, Pd.fSeq, Pd.fFrz, Pd.fBrk, Pd.fCont, Pd.fDrop, Pd.fRet, Pd.fRetV, Pd.fRetN, Pd.fNever, Pd.eFnX, Pd.fRaise, Pd.fTry, Pd.eAct, Pd.eIsiE, Pd.eFldE, Pd.noOwn, Pd.fIf, Pd.fSet, Pd.fSetO, Pd.fAsg, Pd.fApp, Pd.fExt, Pd.fPop, Pd.fAppPop, Pd.fPar, Pd.setsE, Pd.fSetIx, Pd.gdName, Pd.gdNil, Pd.gdCons, Pd.gdTup, Pd.tYesD,
  Pd.oAdd, Pd.oMul, Pd.oInt, Pd.oCmp, Pd.oLt, Pd.oLe, Pd.oGt, Pd.oGe, Pd.oSub, Pd.oMod, Pd.oFdiv, Pd.oShl, Pd.oShr, Pd.oAnd, Pd.oOr, Pd.oXor, Pd.oIs, Pd.D.isNon, Pd.oNeg, Pd.oIx, Pd.oRevL, Pd.oLen, Pd.oListF, Pd.oTuple, Pd.oInt1, Pd.oMin2, Pd.oMax2, Pd.iSeq, Pd.iRange1, Pd.iRange2, Pd.iEnumD, Pd.iZipD, Pd.wipeE, Pd.fFor, Pd.eLc, Pd.eLc2,
  List.map_cons, List.map_nil, List.length_cons, List.length_nil, List.replicate, List.cons_append, List.nil_append, List.append_nil, List.set_cons_zero, List.set_cons_succ, List.getElem?_cons_zero, List.getElem?_cons_succ, Nat.reduceSub, Nat.reduceAdd, Nat.zero_add, if_true, if_false, Bool.false_eq_true, ite_true, ite_false, true_and, and_true, Bool.not_true, Bool.not_false, Bool.true_and, Bool.false_and, Bool.and_true, Bool.and_false, Bool.or_false, Bool.false_or, Bool.or_true, Bool.true_or, Bool.bne_false, Bool.bne_true, String.reduceBEq, Nat.reduceLeDiff, Bool.or_self, Bool.and_self])
namespace Bb
open PySem L2
open Pd (Cells mD)
def top (i : Nat) : Stmt := PySem.Challenge.pw_behindbeside_k02_what_orders_tell.main.body.getD i (.Pass ⟨0, 0, 0, 0⟩)
abbrev sMixed : Stmt := top 21
abbrev sFolded : Stmt := top 22
abbrev sDraw : Stmt := top 23
abbrev sBegun : Stmt := top 24
section
variable {P : Program} {w : World} {K : PySem.W.Frag} {mg : Str → Option Value} {base : Heap}
theorem scMixed : FnScope ["cell", "n", "blend"] ["cell", "n"] (defScope sMixed) := ⟨rfl, rfl, rfl, by decide +kernel, rfl, by decide +kernel, by decide +kernel⟩
def spMixed : Sp := fun vs H Q _ => ∃ c n : Int, vs = [.int c, .int n] ∧ (0 ≤ c ∧ c < 1099511627776) ∧ (0 ≤ n ∧ n < 1048576) ∧ ∀ r : Int, 0 ≤ r → r < 2147483648 → Q (.int r) H
theorem ok_mixed {f : Addr} {fd : FuncData} (F : Fun K "_law_mixed" "_law_mixed" sMixed f fd) (t_int : mg "int" = none) : FnOk P w K mg base CX0 1 f fd ["cell", "n"] spMixed := by
  refine F.ok scMixed (fun vs H Q E h => ?_) (fun cdv A outer s H vs Q E hr h => ?_)
  · obtain ⟨c, n, rfl, _⟩ := h
    rfl
  · obtain ⟨c, n, rfl, ⟨hc0, hc1⟩, ⟨hn0, hn1⟩, k⟩ := h
    refine ⟨_, 
      (pss_cons (ps_set (i := 2) scMixed.nd rfl (Or.inl rfl) (pe_op op_add (pe_op op_add (pe_op op_mod (pe_callTy Rd.call_intI (by rfl) t_int (by decide +kernel) (pa_cons (pe_op op_mul (pe_op op_mul (pv 0) (pe_op op_add pe_int (pe_op op_mul pe_int (pv 1)))) pe_int) pa_nil)) pe_int) (pe_op op_mul (pe_op op_mul pe_int (pv 1)) (pv 1))) (pe_op op_mul pe_int (pv 1))))
      (pss_one (ps_ret (pe_op op_fdiv (pe_op op_mod (pe_callTy Rd.call_intI (by rfl) t_int (by decide +kernel) (pa_cons (pe_op op_mul (pv 2) pe_int) pa_nil)) pe_int) pe_int)))), ?_⟩
    walk_at "go"
    exact k _ (by omega) (by omega)
theorem _root_.Pd.Cells.set {cs : List Int} (h : Cells cs) (j : Nat) {z : Int} (h0 : 0 ≤ z) (h1 : z < 2147483647) : Cells (cs.set j z) :=
  ⟨by rw [List.length_set]; exact h.1, fun c hc => (List.mem_or_eq_of_mem_set hc).elim (h.2 c) fun e => by subst e; exact ⟨h0, h1⟩⟩
theorem _root_.Pd.Cells.get {cs : List Int} (h : Cells cs) {j : Nat} (hj : j < 64) : ∃ z, (cs.map V.int)[j]? = some (V.int z) ∧ 0 ≤ z ∧ z < 2147483647 := by
  have hl : j < cs.length := by rw [h.1]; exact hj
  exact ⟨cs[j], by rw [List.getElem?_map, List.getElem?_eq_getElem hl]; rfl, h.2 _ (List.getElem_mem hl)⟩
theorem map_set (cs : List Int) (j : Nat) (z : Int) : (cs.map V.int).set j (.int z) = (cs.set j z).map V.int := by rw [List.map_set]
theorem ixN_nat {n j : Nat} {i : Int} (hi : i = (j : Int)) (h : j < n) : ixN n i = some j := by
  unfold ixN
  rw [if_pos (by omega), if_pos (by omega)]
  congr 1
  omega
theorem scFolded : FnScope ["script", "found", "n", "cell"] ["script"] (defScope sFolded) := ⟨rfl, rfl, rfl, by decide +kernel, rfl, by decide +kernel, by decide +kernel⟩
def spFolded (K : PySem.W.Frag) : Sp := fun vs H Q _ => ∃ (a : Addr) (ns : List Int), vs = [.ref a] ∧ SqL K H a (ns.map V.int) ∧ ns.length ≤ 63 ∧ ∀ (H' : Hp) (p : Addr) (cs : List Int), Same H H' → H p = none → H' p = some (.lst (cs.map V.int)) → Cells cs → Q (.ref p) H'
theorem same_up {H H' : Hp} {p : Addr} {o : HO} (h : Same H H') (hp : H p = none) : Same H (upd H' p o) := fun b u e => (upd_ne (ne_of_none e hp)).trans (h b u e)
theorem same_new {H H' : Hp} {p : Addr} {o : HO} (h : Same H H') (hp : H' p = none) : Same H (upd H' p o) := same_up h (h.free hp)
theorem ok_folded {f : Addr} {fd : FuncData} (F : Fun K "_law_folded" "_law_folded" sFolded f fd) (t_int : mg "int" = none) (t_range : mg "range" = none) (t_enumerate : mg "enumerate" = none) : FnOk P w K mg base CX0 1 f fd ["script"] (spFolded K) := by
  refine F.ok scFolded (fun vs H Q E h => ?_) (fun cdv A outer s H vs Q E hr h => ?_)
  · obtain ⟨a, ns, rfl, _⟩ := h
    rfl
  · obtain ⟨a, ns, rfl, hS, hlen, k⟩ := h
    refine ⟨_, 
      (pss_cons (ps_setLc (i := 1) (own := [("n", 2)]) (g := gName 2) (tt := tYes) rfl scFolded.nd rfl rfl (sw_true rfl rfl rfl (by decide +kernel)) (pi_range1 (by rfl) t_range (pa_cons pe_int pa_nil)) (blkOk_by (own := [("n", 2)]) (N := ["script", "found", "n", "cell"]) (sc := defScope sFolded) (by decide +kernel)) (fun _ _ _ _ _ => (pg_name (i := 2) scFolded.nd rfl (Or.inl rfl))) (fun _ _ _ _ _ => pts_nil) (fun _ _ _ _ _ => (pe_op op_add pe_int (pv 2))))
      (pss_cons (ps_for PassesOwn.never rfl (pi_enum (by rfl) t_enumerate (pa_cons (pv 0) pa_nil)) (pg_tup rfl (pgs_cons (pg_name (i := 2) scFolded.nd rfl (Or.inl rfl)) (pgs_cons (pg_name (i := 3) scFolded.nd rfl (Or.inl rfl)) pgs_nil))) 
        (pss_one (ps_asg (pe_op op_mod (pe_callTy Rd.call_intI (by rfl) t_int (by decide +kernel) (pa_cons (pe_op op_add (pe_op op_mul (pe_ix (r := rIxL K) (by exact ix_list) (pv 1) (pe_op op_mod (pe_callTy Rd.call_intI (by rfl) t_int (by decide +kernel) (pa_cons (pv 2) pa_nil)) pe_int) (fun _ _ => rfl)) pe_int) (pv 3)) pa_nil)) pe_int) (pg_sub (pv 1) (pe_op op_mod (pe_callTy Rd.call_intI (by rfl) t_int (by decide +kernel) (pa_cons (pv 2) pa_nil)) pe_int) set_list))))
      (pss_cons (ps_for PassesOwn.never rfl (pi_range2 (by rfl) t_range (pa_cons pe_int (pa_cons pe_int pa_nil))) (pg_name (i := 2) scFolded.nd rfl (Or.inl rfl)) 
        (pss_one (ps_asg (pe_op op_mod (pe_callTy Rd.call_intI (by rfl) t_int (by decide +kernel) (pa_cons (pe_op op_add (pe_ix (r := rIxL K) (by exact ix_list) (pv 1) (pv 2) (fun _ _ => rfl)) (pe_op op_mul (pe_ix (r := rIxL K) (by exact ix_list) (pv 1) (pe_op op_sub (pv 2) pe_int) (fun _ _ => rfl)) pe_int)) pa_nil)) pe_int) (pg_sub (pv 1) (pv 2) set_list))))
      (pss_one (ps_ret (pv 1)))))), ?_⟩
    walk_at "go"
    refine Rd.lcRng1 64 rfl (by decide) fun D hD => ⟨fun i H' => ∃ cs : List Int, H' = upd H D (.lst (cs.map V.int)) ∧ cs.length = i ∧ ∀ c ∈ cs, 0 ≤ c ∧ c < 2147483647, ⟨[], rfl, rfl, fun c hc => by cases hc⟩, ?_, ?_⟩
    · rintro i H' hi ⟨cs, rfl, hl, hb⟩
      walk_at "go"
      refine ⟨rfl, ?_⟩
      walk_at "go"
      refine Rd.item upd_same (by rw [List.length_map, sizeLine_eq]; omega) ⟨cs ++ [17 + (i : Int)], ?_, by rw [List.length_append, hl]; rfl, fun c hc => ?_⟩
      · rw [upd_upd, List.map_append]
        rfl
      · rcases List.mem_append.mp hc with q | q
        · exact hb c q
        · rw [List.mem_singleton.mp q]
          omega
    · rintro H' ⟨cs, rfl, hl, hb⟩
      have hC : Cells cs := ⟨hl, hb⟩
      walk_at "go"
      refine Rd.forEnum (hS.elim (fun h => by first | exact .inl (h.imp (fun q => Rd.get_up q hD) fun ⟨o, q⟩ => ⟨o, Rd.get_up q hD⟩)) .inr)
        (fun _ σ H' => ∃ (cs : List Int) (v2 v3 : Option V), σ = [some (.ref a), some (.ref D), v2, v3] ∧ Same H H' ∧ H' D = some (.lst (cs.map V.int)) ∧ Cells cs) ⟨cs, none, none, rfl, same_new (Same.refl H) hD, upd_same, hC⟩ (fun i σ H' _ h => ?_) ?_ ?_
      · obtain ⟨_, _, _, _, s0, _⟩ := h
        exact s0.seq hS
      · rintro i x σ H' T hi hx ⟨cs, v2, v3, rfl, s0, hL, hC⟩ hT
        obtain ⟨z, rfl⟩ : ∃ z, x = V.int z := by
          rw [List.getElem?_map] at hx
          cases e : ns[i]? with
          | none => rw [e] at hx; cases hx
          | some z => rw [e] at hx; exact ⟨z, (Option.some.inj hx).symm⟩
        have hi63 : i < 63 := by rw [List.length_map] at hi; omega
        walk_at "go"
        obtain ⟨c, hc, hc0, hc1⟩ := hC.get (j := i % 64) (Nat.mod_lt _ (by decide))
        refine Rd.ixL (i := (i : Int) % 64) (SqL.of (Rd.get_up hL hT)) (at_of (j := i % 64) (by omega) hc) ?_
        walk_at "go"
        refine Rd.setL (i % 64) (Rd.get_up hL hT) (ixN_nat (by omega) (by rw [List.length_map, hC.1]; omega)) ?_
        rw [map_set]
        exact ⟨_, _, _, rfl, same_up (same_new s0 hT) hD, upd_same, hC.set _ (by omega) (by omega)⟩
      · rintro σ H' ⟨cs, v2, v3, rfl, s0, hL, hC⟩
        walk_at "go"
        refine Rd.forRng2 63 rfl ⟨by decide, by decide, by decide, by decide⟩ (fun _ σ H' => ∃ (cs : List Int) (v2 v3 : Option V), σ = [some (.ref a), some (.ref D), v2, v3] ∧ Same H H' ∧ H' D = some (.lst (cs.map V.int)) ∧ Cells cs) ⟨cs, v2, v3, rfl, s0, hL, hC⟩ ?_ ?_
        · rintro i σ H' hi ⟨cs, v2, v3, rfl, s0, hL, hC⟩
          walk_at "go"
          obtain ⟨c, hc, hc0, hc1⟩ := hC.get (j := i + 1) (by omega)
          obtain ⟨c', hc', hc0', hc1'⟩ := hC.get (j := i) (by omega)
          refine Rd.ixL (SqL.of hL) (at_of (j := i + 1) (by omega) hc) ?_
          walk_at "go"
          refine Rd.ixL (SqL.of hL) (at_of (j := i) (by omega) hc') ?_
          walk_at "go"
          refine Rd.setL (i + 1) hL (ixN_nat (by omega) (by rw [List.length_map, hC.1]; omega)) ?_
          rw [map_set]
          exact ⟨_, _, _, rfl, same_up s0 hD, upd_same, hC.set _ (by omega) (by omega)⟩
        · rintro σ H' ⟨cs, v2, v3, rfl, s0, hL, hC⟩
          walk_at "go"
          exact k H' D cs s0 hD hL hC
end
end Bb
namespace Bb
open PySem L2
open Pd (Cells mD Ms Ms0 Dr)
section
variable {P : Program} {w : World} {K : PySem.W.Frag} {mg : Str → Option Value} {base : Heap}
/-- all but the draws' own state is as it was -/
def Kp (d g : Addr) (H H' : Hp) : Prop := ∀ b o, b ≠ d → b ≠ g → H b = some o → H' b = some o
theorem Kp.refl {d g : Addr} {H : Hp} : Kp d g H H := fun _ _ _ _ h => h
theorem Kp.trans {d g : Addr} {H H1 H2 : Hp} (a : Kp d g H H1) (b : Kp d g H1 H2) : Kp d g H H2 := fun c o h1 h2 h => b c o h1 h2 (a c o h1 h2 h)
theorem Kp.new {d g p : Addr} {o : HO} {H H' : Hp} (a : Kp d g H H') (hp : H' p = none) : Kp d g H (upd H' p o) := fun c u h1 h2 h => Rd.get_up (a c u h1 h2 h) hp
theorem Kp.own {d g p : Addr} {o : HO} {H H' : Hp} (a : Kp d g H H') (hp : p = d ∨ p = g) : Kp d g H (upd H' p o) := fun c u h1 h2 h => (upd_ne (fun z => hp.elim (fun e => h1 (z.trans e)) fun e => h2 (z.trans e))).trans (a c u h1 h2 h)
theorem Kp.same {d g : Addr} {H H' : Hp} (a : Same H H') : Kp d g H H' := fun b o _ _ h => a b o h
theorem same1 {H : Hp} {p : Addr} {o : HO} (hp : H p = none) : Same H (upd H p o) := fun b u e => Rd.get_up e hp
theorem scDraw : FnScope ["m", "limit", "n", "lot", "here", "cell"] ["m", "limit"] (defScope sDraw) := ⟨rfl, rfl, rfl, by decide +kernel, rfl, by decide +kernel, by decide +kernel⟩
def spDraw : Sp := fun vs H Q _ => ∃ (d g c : Addr) (N : Nat) (lim : Int), vs = [.ref d, .int lim] ∧ Ms0 ⟨d, g, c, []⟩ H N ∧ N < 1000000 ∧ (0 < lim ∧ lim < 1000000000) ∧ ∀ (H' : Hp) (r : Int), Kp d g H H' → Ms0 ⟨d, g, c, []⟩ H' (N + 1) → 0 ≤ r → r < lim → Q (.int r) H'
theorem ok_draw {f : Addr} {fd : FuncData} (F : Fun K "_law_draw" "_law_draw" sDraw f fd) (t_int : mg "int" = none) (t_len : mg "len" = none) (c__law_mixed : Rd.Callee P w K mg base CX0 1 "_law_mixed" ["cell", "n"] spMixed) : FnOk P w K mg base CX0 2 f fd ["m", "limit"] spDraw := by
  refine F.ok scDraw (fun vs H Q E h => ?_) (fun cdv A outer s H vs Q E hr h => ?_)
  · obtain ⟨d, g, c, N, lim, rfl, _⟩ := h
    rfl
  · obtain ⟨d, g, c, N, lim, rfl, ⟨cs, gs, n, hd, hc, hg, hC, hn, dg, dc, gc, hgl⟩, hN, ⟨hl0, hl1⟩, k⟩ := h
    have hd : H d = _ := hd
    have hc : H c = _ := hc
    have hg : H g = _ := hg
    have dg : d ≠ g := dg
    have dc : d ≠ c := dc
    have gc : g ≠ c := gc
    refine ⟨_, 
      (pss_cons (ps_set (i := 2) scDraw.nd rfl (Or.inl rfl) (pe_dget (hu_of hr) (pv 0) pe_str (fun _ _ => rfl)))
      (pss_cons (ps_dput (hu_of hr) (pv 0) pe_str (pe_op op_add (pv 2) pe_int) rfl)
      (pss_cons (ps_if (pt_cmpR (op_neD (Rd.hu64 hr)) (pe_dget (hu_of hr) (pv 0) pe_str (fun _ _ => rfl)) (pe_lst pa_nil) (nomark _)) 
        (pss_cons (ps_set (i := 3) scDraw.nd rfl (Or.inl rfl) (pe_dget (hu_of hr) (pv 0) pe_str (fun _ _ => rfl)))
        (pss_cons (ps_set (i := 4) scDraw.nd rfl (Or.inl rfl) (pe_op op_mod (pe_callTy Rd.call_intI (by rfl) t_int (by decide +kernel) (pa_cons (pv 2) pa_nil)) (pe_callB Rd.call_lenS (by rfl) t_len (by decide +kernel) (pa_cons (pv 3) pa_nil))))
        (pss_cons (ps_set (i := 5) scDraw.nd rfl (Or.inl rfl) (pe_ix (r := rIxL K) (by exact ix_list) (pv 3) (pv 4) (fun _ _ => rfl)))
        (pss_one (ps_if (pt_cmpR op_gt (pv 5) pe_int (nomark _)) 
          (pss_cons (ps_asg (pe_op op_fdiv (pv 5) (pv 1)) (pg_sub (pv 3) (pv 4) set_list))
          (pss_one (ps_ret (pe_op op_mod (pe_callTy Rd.call_intI (by rfl) t_int (by decide +kernel) (pa_cons (pv 5) pa_nil)) (pv 1))))) pss_nil))))) pss_nil)
      (pss_cons (ps_set (i := 3) scDraw.nd rfl (Or.inl rfl) (pe_dget (hu_of hr) (pv 0) pe_str (fun _ _ => rfl)))
      (pss_one (ps_ret (pe_op op_mod (pe_callTy Rd.call_intI (by rfl) t_int (by decide +kernel) (pa_cons (Rd.pe_callC c__law_mixed (hr.mono (by decide)) (pa_cons (Rd.pe_callC c__law_mixed (hr.mono (by decide)) (pa_cons (pe_op op_add (pe_ix (r := rIxL K) (by exact ix_list) (pv 3) (pe_op op_mod (pe_callTy Rd.call_intI (by rfl) t_int (by decide +kernel) (pa_cons (pv 2) pa_nil)) pe_int) (fun _ _ => rfl)) (pe_op op_mul pe_int (pe_op op_fdiv (pv 2) pe_int))) (pa_cons (pv 2) pa_nil))) (pa_cons (pe_op op_add (pv 2) pe_int) pa_nil))) pa_nil)) (pv 1)))))))), ?_⟩
    have k1 : ∀ x y z : V, valV (mD x y z) (Sum.inr ("cells" : Str) : Key) = some x := fun _ _ _ => rfl
    have k2 : ∀ x y z : V, valV (mD x y z) (Sum.inr ("great" : Str) : Key) = some y := fun _ _ _ => rfl
    have k3 : ∀ x y z : V, valV (mD x y z) (Sum.inr ("spot" : Str) : Key) = some z := fun _ _ _ => rfl
    have k4 : ∀ x y z u : V, putK (mD x y z) (Sum.inr ("spot" : Str) : Key) u = mD x y u := fun _ _ _ _ => rfl
    walk_at "go"
    refine Rd.dgS hd (k3 _ _ _) ?_
    walk_at "go"
    refine Rd.dpS hd (show 3 < 1000 by decide) ?_
    rw [k4]
    have hd1 : upd H d (.dK (mD (.ref c) (.ref g) (.int ((n : Int) + 1)))) d = _ := upd_same
    generalize eH : upd H d (.dK (mD (.ref c) (.ref g) (.int ((n : Int) + 1)))) = H1 at hd1 ⊢
    have kp1 : Kp d g H H1 := by rw [← eH]; exact Kp.refl.own (.inl rfl)
    have hc1 : H1 c = some (.lst (cs.map V.int)) := by rw [← eH]; exact (upd_ne dc.symm).trans hc
    have hg1 : H1 g = some (.lst (gs.map V.int)) := by rw [← eH]; exact (upd_ne dg.symm).trans hg
    clear eH
    walk_at "go"
    refine Rd.dgS hd1 (k2 _ _ _) ?_
    walk_at "go"
    refine ⟨Nat.zero_le _, fun q hq => ?_⟩
    refine ⟨_, _, Rd.dpInts (SqL.of (Rd.get_up hg1 hq)), .lst (SqL.of upd_same) .nil, Rd.shInts gs, by decide +kernel, ?_⟩
    rw [Rd.eqvNil]
    generalize eH : upd H1 q (.lst []) = H2
    have sm : Same H1 H2 := by rw [← eH]; exact same1 hq
    have hd2 := sm _ _ hd1
    have hc2 := sm _ _ hc1
    have hg2 := sm _ _ hg1
    have kp2 : Kp d g H H2 := kp1.trans (Kp.same sm)
    clear eH hd1 hc1 hg1 sm hq kp1 hd hc hg
    walk_at "go"
    refine Rd.ifN (fun hgs => ?_) fun hgs => ?_
    · walk_at "go"
      refine Rd.dgS hd2 (k2 _ _ _) ?_
      walk_at "go"
      have hpos : 0 < gs.length := by
        cases gs with
        | nil => cases hgs
        | cons _ _ => exact Nat.succ_pos _
      refine ⟨g, _, rfl, .inl (SqL.of hg2), ?_⟩
      rw [List.length_map]
      walk_at "go"
      have hj : n % gs.length < gs.length := Nat.mod_lt _ hpos
      have ej : (n : Int) % (gs.length : Int) = ((n % gs.length : Nat) : Int) := (Int.natCast_emod _ _).symm
      have hat : (gs.map V.int)[n % gs.length]? = some (V.int gs[n % gs.length]) := by rw [List.getElem?_map, List.getElem?_eq_getElem hj]; rfl
      refine Rd.ixL (SqL.of hg2) (at_of ej hat) ?_
      walk_at "go"
      refine Rd.ifD (fun hz => ?_) fun hz => ?_
      · walk_at "go"
        refine Rd.setL (n % gs.length) hg2 (ixN_nat ej (by rw [List.length_map]; exact hj)) ?_
        rw [map_set]
        walk_at "go"
        refine k _ _ (kp2.own (.inr rfl)) ⟨cs, gs.set _ _, n + 1, (upd_ne dg).trans hd2, (upd_ne gc.symm).trans hc2, upd_same, hC, by omega, dg, dc, gc, by rw [List.length_set]; exact hgl⟩ (Int.emod_nonneg _ (by omega)) (Int.emod_lt_of_pos _ hl0)
      · walk_at "go"
        refine Rd.dgS hd2 (k1 _ _ _) ?_
        walk_at "go"
        obtain ⟨z, hz, hz0, hz1⟩ := hC.get (j := n % 64) (Nat.mod_lt _ (by decide))
        refine Rd.ixL (i := (n : Int) % 64) (SqL.of hc2) (at_of (j := n % 64) (by omega) hz) ?_
        walk_at "go"
        refine ⟨_, _, rfl, ⟨by omega, by omega⟩, ⟨by omega, by omega⟩, fun r1 h1 h2 => ?_⟩
        walk_at "go"
        refine ⟨_, _, rfl, ⟨by omega, by omega⟩, ⟨by omega, by omega⟩, fun r2 h3 h4 => ?_⟩
        walk_at "go"
        exact k _ _ kp2 ⟨cs, gs, n + 1, hd2, hc2, hg2, hC, by omega, dg, dc, gc, hgl⟩ (Int.emod_nonneg _ (by omega)) (Int.emod_lt_of_pos _ hl0)
    · walk_at "go"
      refine Rd.dgS hd2 (k1 _ _ _) ?_
      walk_at "go"
      obtain ⟨z, hz, hz0, hz1⟩ := hC.get (j := n % 64) (Nat.mod_lt _ (by decide))
      refine Rd.ixL (i := (n : Int) % 64) (SqL.of hc2) (at_of (j := n % 64) (by omega) hz) ?_
      walk_at "go"
      refine ⟨_, _, rfl, ⟨by omega, by omega⟩, ⟨by omega, by omega⟩, fun r1 h1 h2 => ?_⟩
      walk_at "go"
      refine ⟨_, _, rfl, ⟨by omega, by omega⟩, ⟨by omega, by omega⟩, fun r2 h3 h4 => ?_⟩
      walk_at "go"
      exact k _ _ kp2 ⟨cs, gs, n + 1, hd2, hc2, hg2, hC, by omega, dg, dc, gc, hgl⟩ (Int.emod_nonneg _ (by omega)) (Int.emod_lt_of_pos _ hl0)
theorem scBegun : FnScope ["script", "m", "cell"] ["script"] (defScope sBegun) := ⟨rfl, rfl, rfl, by decide +kernel, rfl, by decide +kernel, by decide +kernel⟩
def spBegun (K : PySem.W.Frag) : Sp := fun vs H Q _ => ∃ (a : Addr) (ns : List Int), vs = [.ref a] ∧ SqL K H a (ns.map V.int) ∧ ns.length ≤ 63 ∧ ∀ (H' : Hp) (d g c : Addr), Same H H' → H d = none → H g = none → Ms0 ⟨d, g, c, []⟩ H' 0 → Q (.ref d) H'
theorem ok_begun {f : Addr} {fd : FuncData} (F : Fun K "_law_begun" "_law_begun" sBegun f fd) (c__law_folded : Rd.Callee P w K mg base CX0 1 "_law_folded" ["script"] (spFolded K)) : FnOk P w K mg base CX0 2 f fd ["script"] (spBegun K) := by
  refine F.ok scBegun (fun vs H Q E h => ?_) (fun cdv A outer s H vs Q E hr h => ?_)
  · obtain ⟨a, ns, rfl, _⟩ := h
    rfl
  · obtain ⟨a, ns, rfl, hS, hlen, k⟩ := h
    refine ⟨_, 
      (pss_cons (ps_set (i := 1) scBegun.nd rfl (Or.inl rfl) (pe_disp (pps_cons pe_str (Rd.pe_callC c__law_folded (hr.mono (by decide)) (pa_cons (pv 0) pa_nil)) (pps_cons pe_str (pe_lst pa_nil) (pps_cons pe_str pe_int pps_nil))) (by rfl) (by rfl) (fun z => by cases z) (by decide)))
      (pss_cons (ps_dput (hu_of hr) (pv 1) pe_str (pe_lc (own := [("cell", 2)]) (g := gName 2) (tt := tYes) rfl scBegun.nd (pi_list (pv 0)) (blkOk_by (own := [("cell", 2)]) (N := ["script", "m", "cell"]) (sc := defScope sBegun) (by decide +kernel)) (fun _ _ _ _ _ => (pg_name (i := 2) scBegun.nd rfl (Or.inl rfl))) (fun _ _ _ _ _ => pts_nil) (fun _ _ _ _ _ => (pe_ifExp (pt_cmpR op_ge (pv 2) (pe_op op_pow pe_int pe_int) (nomark _)) (pv 2) pe_int))) rfl)
      (pss_one (ps_ret (pv 1))))), ?_⟩
    walk_at "go"
    intro d hd
    walk_at "go"
    refine ⟨a, ns, rfl, (same1 hd).seq hS, hlen, fun H1 c cs s1 hc0 hc hC => ?_⟩
    walk_at "go"
    refine ⟨Nat.zero_le _, fun g0 hg0 => ?_⟩
    walk_at "go"
    have hd1 : upd H1 g0 (.lst []) d = some (.dK []) := Rd.get_up (s1 _ _ upd_same) hg0
    refine ⟨hd1, [(Sum.inr ("cells" : Str), .ref c), (Sum.inr ("great" : Str), .ref g0), (Sum.inr ("spot" : Str), .int 0)], rfl, (show 3 ≤ 15 by decide), ?_⟩
    have em : mergeK [] [((Sum.inr ("cells" : Str) : Key), V.ref c), (Sum.inr ("great" : Str), .ref g0), (Sum.inr ("spot" : Str), .int 0)] = mD (.ref c) (.ref g0) (.int 0) := rfl
    rw [em]
    generalize eH : upd (upd H1 g0 (.lst [])) d (.dK (mD (.ref c) (.ref g0) (.int 0))) = H2
    have s2 : Same H H2 := by rw [← eH]; exact same_up (same_new ((same1 hd).trans s1) hg0) hd
    have dc : d ≠ c := fun z => by rw [← z, upd_same] at hc0; cases hc0
    have hd2 : H2 d = some (.dK (mD (.ref c) (.ref g0) (.int 0))) := by rw [← eH]; exact upd_same
    have hc2 : H2 c = some (.lst (cs.map V.int)) := by rw [← eH]; exact (upd_ne dc.symm).trans (Rd.get_up hc hg0)
    walk_at "go"
    refine Rd.lcList (s2.seq hS) fun D hD => ⟨fun i H' => ∃ gs : List Int, H' = upd H2 D (.lst (gs.map V.int)) ∧ gs.length = i, ⟨[], rfl, rfl⟩, ?_, ?_, ?_⟩
    · rintro i H' hi ⟨gs, rfl, _⟩
      exact (same_new s2 hD).seq hS
    · rintro i x H' hi hx ⟨gs, rfl, hl⟩
      obtain ⟨z, rfl⟩ : ∃ z, x = V.int z := by
        rw [List.getElem?_map] at hx
        cases e : ns[i]? with
        | none => rw [e] at hx; cases hx
        | some z => rw [e] at hx; exact ⟨z, (Option.some.inj hx).symm⟩
      rw [List.length_map] at hi
      walk_at "go"
      refine ⟨rfl, ?_⟩
      walk_at "go"
      have fin : ∀ y : Int, Rd.itemEnd D (fun H' => ∃ gs : List Int, H' = upd H2 D (.lst (gs.map V.int)) ∧ gs.length = i + 1) (.int y) (upd H2 D (.lst (gs.map V.int))) := fun y =>
        Rd.item upd_same (by rw [List.length_map, sizeLine_eq]; omega) ⟨gs ++ [y], by rw [upd_upd, List.map_append]; rfl, by rw [List.length_append, hl]; rfl⟩
      refine Rd.ifD (fun _ => ?_) fun _ => ?_
      · walk_at "go"
        exact fin _
      · walk_at "go"
        exact fin _
    · rintro H' ⟨gs, rfl, hl⟩
      have nDd : D ≠ d := fun z => by rw [z, hd2] at hD; cases hD
      have nDc : D ≠ c := fun z => by rw [z, hc2] at hD; cases hD
      walk_at "go"
      refine Rd.dpS (Rd.get_up hd2 hD) (show 3 < 1000 by decide) ?_
      have ep : putK (mD (.ref c) (.ref g0) (.int 0)) (Sum.inr ("great" : Str) : Key) (V.ref D) = mD (.ref c) (.ref D) (.int 0) := rfl
      rw [ep]
      walk_at "go"
      rw [List.length_map] at hl
      exact k _ d D c (same_up (same_new s2 hD) hd) hd (s2.free hD) ⟨cs, gs, 0, upd_same, (upd_ne dc.symm).trans (Rd.get_up hc2 hD), (upd_ne nDd).trans upd_same, hC, Nat.le_refl _, nDd.symm, dc, nDc, by omega⟩
theorem _root_.Rd.FnOkG.of {CX : CXT} {k : Nat} {f : Addr} {fd : FuncData} {ps : List Str} {sp sp' : Sp} (h : FnOk P w K mg base CX k f fd ps sp) (i : ∀ vs H Q E, sp' vs H Q E → sp vs H Q E) : Rd.FnOkG P w K mg base CX k f fd ps sp' :=
  ⟨fun vs H Q E q => h.len vs H Q E (i _ _ _ _ q), fun A outer s H args us vs Q E _ hr e0 hb r q => h.run A outer s H args us vs Q E hr e0 hb r (i _ _ _ _ q)⟩
theorem _root_.Rd.FnOkG.mono {CX : CXT} {j k : Nat} {f : Addr} {fd : FuncData} {ps : List Str} {sp : Sp} (h : Rd.FnOkG P w K mg base CX j f fd ps sp) (l : j ≤ k) : Rd.FnOkG P w K mg base CX k f fd ps sp :=
  ⟨h.len, fun A outer s H args us vs Q E hG hr => h.run A outer s H args us vs Q E hG (hr.mono l)⟩
theorem _root_.Rd.FnOkG.imp {CX : CXT} {k : Nat} {f : Addr} {fd : FuncData} {ps : List Str} {sp sp' : Sp} (h : Rd.FnOkG P w K mg base CX k f fd ps sp) (i : ∀ vs H Q E, sp' vs H Q E → sp vs H Q E) : Rd.FnOkG P w K mg base CX k f fd ps sp' :=
  ⟨fun vs H Q E q => h.len vs H Q E (i _ _ _ _ q), fun A outer s H args us vs Q E hG hr e0 hb r q => h.run A outer s H args us vs Q E hG hr e0 hb r (i _ _ _ _ q)⟩
/-- a draw: some number below the limit -/
def FDraw : Pd.FD := fun ds N Q => ∃ lim : Int, ds = [.drw, .int lim] ∧ N < 1000000 ∧ (0 < lim ∧ lim < 1000000000) ∧ ∀ r : Int, 0 ≤ r → r < lim → Q (.int r) (N + 1)
theorem okD_draw {T : Pd.LTabs} {f : Addr} {fd : FuncData} {ps : List Str} (h : FnOk P w K mg base CX0 2 f fd ps spDraw) : Rd.FnOkG P w K mg base CX0 2 f fd ps (Pd.spD T K mg 2 FDraw) := Rd.FnOkG.of h fun vs H Q E ⟨dr, Hs, N, ds, R, _, hl, s0, m, hd, hg, da, ⟨lim, e, hN, hb, k⟩, kk⟩ => by
  subst e
  match vs, da with
  | [_, _], .cons .drw (.cons (.int _) .nil) =>
    refine ⟨dr.d, dr.g, dr.c, N, lim, rfl, m.1, hN, hb, fun H' r kp m' h1 h2 => kk _ _ (k r h1 h2) _ H' Hs ⟨fun b o n1 n2 _ e => kp b o n1 n2 e, fun b e => ?_, Same.refl _, fun b o e => kp b o (fun z => by rw [z, hd] at e; cases e) (fun z => by rw [z, hg.1] at e; cases e) (s0 _ _ e), fun _ _ e => e, fun _ _ e => e⟩ ⟨m', m.kept kp⟩ (.int _)⟩
    by_cases e1 : b = dr.d
    · rw [e1]; exact (Pd.Ms.some (w := dr) (H := H') (N := N + 1) ⟨m', m.kept kp⟩).1
    · by_cases e2 : b = dr.g
      · rw [e2]; exact (Pd.Ms.some (w := dr) (H := H') (N := N + 1) ⟨m', m.kept kp⟩).2.1
      · cases q : H b with
        | none => exact absurd q e
        | some o => rw [kp b o e1 e2 q]; exact fun z => by cases z
end
end Bb
namespace Bb
open PySem L2
section
variable {P : Program} {w : World} {K : PySem.W.Frag} {mg : Str → Option Value} {base : Heap}
abbrev sIBadNumber : Stmt := inClass (top 6) 0
theorem scsIBadNumber : FnScope ["self", "value"] ["self", "value"] (defScope sIBadNumber) := ⟨rfl, rfl, rfl, by decide +kernel, rfl, by decide +kernel, by decide +kernel⟩
theorem ok_BadNumber {f C : Addr} {fd : FuncData} (F : Fun K "__init__" "BadNumber.__init__" sIBadNumber f fd) (T : Exv.EC K C "ValueError" "ValueError.__new__" "ValueError.__init__" Exv.veMro) (hf : PySem.W.takerIn K C "value" = some none) {CT : Addr} (gT : mg "TaskError" = some (.ref CT)) (sT : PySem.W.specialIn K (.ref CT) "__getattribute__" = some (some (.builtin "type.__getattribute__"))) (rT : PySem.W.readsIn K CT (.type "type") = true) (vT : PySem.W.findCls K (.ref CT) (.type "type") "__init__" = some (.val (.builtin "ValueError.__init__"))) :
    FnOk P w K mg base CX0 1 f fd ["self", "value"] (Exv.spXI C "value") := by
  refine F.ok scsIBadNumber (fun vs H Q E h => ?_) (fun cdv A outer s H vs Q E hr h => ?_)
  · obtain ⟨a, v, rfl, _⟩ := h
    rfl
  · obtain ⟨a, v, rfl, ha, k⟩ := h
    refine ⟨_, pss_cons (ps_expr (Exv.pe_xinit (B := "ValueError") (newId := "ValueError.__new__") (initId := "ValueError.__init__") (bmB := Exv.veMro) (by rfl) gT sT rT vT (pa_cons (pv 0) (pa_cons pe_str pa_nil)))) (pss_one (Exv.ps_xset (B := "ValueError") (newId := "ValueError.__new__") (initId := "ValueError.__init__") (bmB := Exv.veMro) (pv 0) (pv 1))), ?_⟩
    exact ⟨_, rfl, a, C, [.str _], rfl, (by decide : 1 ≤ 1000), T, ha, _, rfl, _, rfl, a, C, rfl, T, hf, ha, k⟩
end
end Bb
namespace Bb
open PySem L2
abbrev sIsWhole : Stmt := top 1
abbrev sHasTask : Stmt := top 15
abbrev sIsTaskPair : Stmt := top 16
abbrev sBitsBehind : Stmt := top 17
abbrev sPutAhead : Stmt := top 18
abbrev sPairsTold : Stmt := top 19
section
variable {P : Program} {w : World} {K : PySem.W.Frag} {mg : Str → Option Value} {base : Heap}
theorem scIsWhole : FnScope ["value", "low", "high"] ["value", "low", "high"] (defScope sIsWhole) := ⟨rfl, rfl, rfl, by decide +kernel, rfl, by decide +kernel, by decide +kernel⟩
/-- of an int: whether it lies between; of anything else: no -/
def spIsWhole (K : PySem.W.Frag) : Sp := fun vs H Q _ => ∃ (v : V) (lo hi : Int), vs = [v, .int lo, .int hi] ∧ ((∃ i, v = .int i ∧ Q (.bl (decide (lo ≤ i) && decide (i ≤ hi))) H) ∨
  ∃ t, TyX K H v t ∧ (PySem.W.kitOne K t (.type "int") = some false ∨ (PySem.W.kitOne K t (.type "int") = some true ∧ PySem.W.kitOne K t (.type "bool") = some true)) ∧ Q (.bl false) H)
theorem ok_is_whole {f : Addr} {fd : FuncData} (F : Fun K "is_whole" "is_whole" sIsWhole f fd) (t_isinstance : mg "isinstance" = none) (t_int : mg "int" = none) (t_bool : mg "bool" = none) : FnOk P w K mg base CX0 1 f fd ["value", "low", "high"] (spIsWhole K) := by
  refine F.ok scIsWhole (fun vs H Q E h => ?_) (fun cdv A outer s H vs Q E hr h => ?_)
  · obtain ⟨v, lo, hi, rfl, _⟩ := h
    rfl
  · obtain ⟨v, lo, hi, rfl, h⟩ := h
    refine ⟨_, 
      (pss_cons (ps_if (PW.pt (pw_or (pt_not (pt_val (pe_callB call_isi (by rfl) t_isinstance (by decide +kernel) (pa_cons (pv 0) (pa_cons (pe_bltn (v := .ty "int") (by rfl) t_int (by decide +kernel) rfl) pa_nil))))) (pw_or1 (pt_val (pe_callB call_isi (by rfl) t_isinstance (by decide +kernel) (pa_cons (pv 0) (pa_cons (pe_bltn (v := .ty "bool") (by rfl) t_bool (by decide +kernel) rfl) pa_nil))))))) 
        (pss_one (ps_ret pe_bl)) pss_nil)
      (pss_one (ps_ret (pe_chain op_le op_le (pv 1) (pv 0) (pv 2))))), ?_⟩
    walk_at "go"
    rcases h with ⟨i, rfl, k⟩ | ⟨t, ty, h | ⟨h1, h2⟩, k⟩
    · refine Rd.isi (.ty _) (.base (.int i)) (kit_ty (r := true) (by decide +kernel)) ?_
      walk_at "go"
      refine Rd.isi (.ty _) (.base (.int i)) (kit_ty (r := false) (by decide +kernel)) ?_
      walk_at "go"
      cases h1 : decide (lo ≤ i) with
      | true =>
        walk_at "go"
        rw [h1] at k
        exact k
      | false =>
        walk_at "go"
        rw [h1] at k
        exact k
    · refine Rd.isi (.ty _) ty h ?_
      walk_at "go"
      exact k
    · refine Rd.isi (.ty _) ty h1 ?_
      walk_at "go"
      refine Rd.isi (.ty _) ty h2 ?_
      walk_at "go"
      exact k
theorem scHasTask : FnScope ["bits", "task"] ["bits", "task"] (defScope sHasTask) := ⟨rfl, rfl, rfl, by decide +kernel, rfl, by decide +kernel, by decide +kernel⟩
def spHasTask : Sp := fun vs H Q _ => ∃ n t : Nat, vs = [.int n, .int t] ∧ Q (.bl (n.testBit t)) H
theorem bit_of (n t : Nat) : decide (Builtin.bitAnd ((n : Int) / 2 ^ ((t : Int)).toNat) 1 = 1) = n.testBit t := by
  have e : ((n : Int) / 2 ^ ((t : Int)).toNat) = ((n / 2 ^ t : Nat) : Int) := by
    rw [Int.toNat_natCast]
    simp
  rw [e, show (1 : Int) = ((1 : Nat) : Int) from rfl, PySem.W.os_band, Nat.and_one_is_mod, Nat.testBit_eq_decide_div_mod_eq]
  exact decide_eq_decide.mpr (by omega)
theorem ok_has_task {f : Addr} {fd : FuncData} (F : Fun K "has_task" "has_task" sHasTask f fd) : FnOk P w K mg base CX0 1 f fd ["bits", "task"] spHasTask := by
  refine F.ok scHasTask (fun vs H Q E h => ?_) (fun cdv A outer s H vs Q E hr h => ?_)
  · obtain ⟨n, t, rfl, _⟩ := h
    rfl
  · obtain ⟨n, t, rfl, k⟩ := h
    refine ⟨_, 
      (pss_one (ps_ret (pe_cmpR op_eq (pe_op op_and (pe_op op_shr (pv 0) (pv 1)) pe_int) pe_int (nomark _)))), ?_⟩
    walk_at "go"
    rw [bit_of]
    exact k
end
end Bb
namespace Bb
open PySem L2
/-- for each task the bits of the tasks behind it -/
def bitsV (B : List Nat) : List V := B.map fun (n : Nat) => V.int (n : Int)
def putAt (B : List Nat) (a b t : Nat) : Nat := if (decide (t = a) || (B.getD t 0).testBit a) = true then B.getD t 0 ||| (B.getD b 0 ||| 2 ^ b) else B.getD t 0
def put (B : List Nat) (a b : Nat) : List Nat := (List.range B.length).map (putAt B a b)
theorem put_len (B : List Nat) (a b : Nat) : (put B a b).length = B.length := by unfold put; rw [List.length_map, List.length_range]
theorem bitsV_get {B : List Nat} {i : Nat} (h : i < B.length) : (bitsV B)[i]? = some (V.int ((B.getD i 0 : Nat) : Int)) := by
  unfold bitsV
  rw [List.getElem?_map, List.getElem?_eq_getElem h, List.getD_eq_getElem?_getD, List.getElem?_eq_getElem h]
  rfl
theorem bor (a b : Nat) : Builtin.bitOr (a : Int) (b : Int) = ((a ||| b : Nat) : Int) := by
  rw [Bits.bitOr_pp (Int.natCast_nonneg _) (Int.natCast_nonneg _), Int.toNat_natCast, Int.toNat_natCast]
section
variable {P : Program} {w : World} {K : PySem.W.Frag} {mg : Str → Option Value} {base : Heap}
theorem scPutAhead : FnScope ["behind", "one", "other", "more", "task", "bits"] ["behind", "one", "other"] (defScope sPutAhead) := ⟨rfl, rfl, rfl, by decide +kernel, rfl, by decide +kernel, by decide +kernel⟩
def spPutAhead (K : PySem.W.Frag) : Sp := fun vs H Q _ => ∃ (l : Addr) (B : List Nat) (a b : Nat), vs = [.ref l, .int a, .int b] ∧ SqL K H l (bitsV B) ∧ b < B.length ∧ B.length ≤ 12 ∧ ∀ (H' : Hp) (p : Addr), Same H H' → H p = none → H' p = some (.lst (bitsV (put B a b))) → Q (.ref p) H'
theorem ok_put_ahead {f : Addr} {fd : FuncData} (F : Fun K "put_ahead" "put_ahead" sPutAhead f fd) (t_enumerate : mg "enumerate" = none) (c_has_task : Rd.Callee P w K mg base CX0 1 "has_task" ["bits", "task"] spHasTask) : FnOk P w K mg base CX0 2 f fd ["behind", "one", "other"] (spPutAhead K) := by
  refine F.ok scPutAhead (fun vs H Q E h => ?_) (fun cdv A outer s H vs Q E hr h => ?_)
  · obtain ⟨l, B, a, b, rfl, _⟩ := h
    rfl
  · obtain ⟨l, B, a, b, rfl, hS, hb, hB, k⟩ := h
    refine ⟨_, 
      (pss_cons (ps_set (i := 3) scPutAhead.nd rfl (Or.inr rfl) (pe_op op_or (pe_ix (r := rIxL K) (by exact ix_list) (pv 0) (pv 2) (fun _ _ => rfl)) (pe_op op_shl pe_int (pv 2))))
      (pss_one (ps_ret (pe_lc (own := [("task", 4), ("bits", 5)]) (g := gTup K 2 (gCons (gName 4) (gCons (gName 5) gNil))) (tt := tYes) rfl scPutAhead.nd (pi_enum (by rfl) t_enumerate (pa_cons (pv 0) pa_nil)) (blkOk_by (own := [("task", 4), ("bits", 5)]) (N := ["behind", "one", "other", "more", "task", "bits"]) (sc := defScope sPutAhead) (by decide +kernel)) (fun _ _ _ _ _ => (pg_tup rfl (pgs_cons (pg_name (i := 4) scPutAhead.nd rfl (Or.inl rfl)) (pgs_cons (pg_name (i := 5) scPutAhead.nd rfl (Or.inl rfl)) pgs_nil)))) (fun _ _ _ _ _ => pts_nil) (fun _ _ _ _ _ => (pe_ifExp (PW.pt (pw_or (pt_cmpR op_eq (pv 4) (pv 1) (nomark _)) (pw_or1 (pt_val (Rd.pe_callC c_has_task (hr.mono (by decide)) (pa_cons (pv 5) (pa_cons (pv 1) pa_nil))))))) (pe_op op_or (pv 5) (pv 3)) (pv 5))))))), ?_⟩
    walk_at "go"
    refine Rd.ixL (i := (b : Int)) hS (at_of (j := b) rfl (bitsV_get hb)) ?_
    walk_at "go"
    have e2 : (1 : Int) * 2 ^ ((b : Int)).toNat = ((2 ^ b : Nat) : Int) := by rw [Int.toNat_natCast]; simp
    rw [e2, bor]
    refine Rd.lcEnum hS fun D hD => ⟨fun i H' => Same H H' ∧ H' D = some (.lst ((List.range i).map fun t => V.int ((putAt B a b t : Nat) : Int))), ⟨same1 hD, upd_same⟩, ?_, ?_, ?_⟩
    · rintro i H' hi ⟨s0, _⟩
      exact s0.seq hS
    · rintro i x H' T hi hx ⟨s0, hL⟩ hT
      have hi' : i < B.length := by unfold bitsV at hi; rw [List.length_map] at hi; exact hi
      rw [bitsV_get hi'] at hx
      cases hx
      walk_at "go"
      refine ⟨rfl, ?_⟩
      walk_at "go"
      have fin : ∀ y : Nat, y = putAt B a b i → Rd.itemEnd D (fun H' => Same H H' ∧ H' D = some (.lst ((List.range (i + 1)).map fun t => V.int ((putAt B a b t : Nat) : Int)))) (.int (y : Int)) (upd H' T (.tup [.int (i : Int), .int ((B.getD i 0 : Nat) : Int)])) := by
        intro y hy
        refine Rd.item (Rd.get_up hL hT) (by rw [List.length_map, List.length_range, sizeLine_eq]; omega) ⟨same_up (same_new s0 hT) hD, ?_⟩
        rw [upd_same, hy, List.range_succ, List.map_append]
        rfl
      refine Rd.ifD (fun ht => ?_) fun ht => ?_
      · have et : i = a := by omega
        walk_at "go"
        rw [bor]
        exact fin _ (by unfold putAt; rw [if_pos (by simp [et])])
      · have et : ¬ i = a := by omega
        walk_at "go"
        refine ⟨_, _, rfl, ?_⟩
        walk_at "go"
        refine Rd.ifB (fun hb => ?_) fun hb => ?_
        · walk_at "go"
          rw [bor]
          exact fin _ (by unfold putAt; rw [if_pos (by simp only [hb, Bool.or_true])])
        · walk_at "go"
          exact fin _ (by unfold putAt; rw [if_neg (by simp only [hb, et, decide_false, Bool.or_false]; decide)])
    · rintro H' ⟨s0, hL⟩
      walk_at "go"
      have e : (bitsV B).length = B.length := by unfold bitsV; rw [List.length_map]
      rw [e] at hL
      refine k _ _ s0 hD ?_
      rw [hL]
      unfold bitsV put
      rw [List.map_map]
      rfl
/-- a pair of tasks as it lies in the heap -/
def PairV (K : PySem.W.Frag) (H : Hp) (v : V) (p : Nat × Nat) : Prop := ∃ t, v = .ref t ∧ SqT K H t [.int (p.1 : Int), .int (p.2 : Int)]
theorem SqT_same {H H' : Hp} {a : Addr} {xs : List V} (h : SqT K H a xs) (s : Same H H') : SqT K H' a xs := SqT.ext h s
theorem PairV.same {H H' : Hp} {v : V} {p : Nat × Nat} (h : PairV K H v p) (s : Same H H') : PairV K H' v p := h.imp fun t q => ⟨q.1, SqT.ext q.2 s⟩
theorem tyT {H : Hp} {t : Addr} {xs : List V} (h : SqT K H t xs) : TyX K H (.ref t) (.type "tuple") := by
  rcases h with (h | ⟨o, h⟩) | ⟨o, its, n, h1, h2, _⟩
  · exact .base (.tup h)
  · exact .fTuple h
  · exact .kTuple h1 h2
theorem between (i n : Nat) : (decide ((0 : Int) ≤ (i : Int)) && decide ((i : Int) ≤ (n : Int) - 1)) = decide (i < n) := by
  rw [decide_eq_true (Int.natCast_nonneg i), Bool.true_and]
  exact decide_eq_decide.mpr (by omega)
theorem scIsTaskPair : FnScope ["many", "value", "one", "other"] ["many", "value"] (defScope sIsTaskPair) := ⟨rfl, rfl, rfl, by decide +kernel, rfl, by decide +kernel, by decide +kernel⟩
def spIsTaskPair (K : PySem.W.Frag) : Sp := fun vs H Q _ => ∃ (n : Nat) (v : V) (p : Nat × Nat), vs = [.int n, v] ∧ PairV K H v p ∧ Q (.bl (decide (p.1 < n) && (decide (p.2 < n) && !decide (p.1 = p.2)))) H
theorem ok_is_task_pair {f : Addr} {fd : FuncData} (F : Fun K "is_task_pair" "is_task_pair" sIsTaskPair f fd) (t_isinstance : mg "isinstance" = none) (t_tuple : mg "tuple" = none) (t_len : mg "len" = none) (c_is_whole : Rd.Callee P w K mg base CX0 1 "is_whole" ["value", "low", "high"] (spIsWhole K)) : FnOk P w K mg base CX0 2 f fd ["many", "value"] (spIsTaskPair K) := by
  refine F.ok scIsTaskPair (fun vs H Q E h => ?_) (fun cdv A outer s H vs Q E hr h => ?_)
  · obtain ⟨n, v, p, rfl, _⟩ := h
    rfl
  · obtain ⟨n, v, p, rfl, ⟨t, rfl, hT⟩, k⟩ := h
    refine ⟨_, 
      (pss_cons (ps_if (PW.pt (pw_or (pt_not (pt_val (pe_callB call_isi (by rfl) t_isinstance (by decide +kernel) (pa_cons (pv 1) (pa_cons (pe_bltn (v := .ty "tuple") (by rfl) t_tuple (by decide +kernel) rfl) pa_nil))))) (pw_or1 (pt_cmpR op_ne (pe_callB Rd.call_lenS (by rfl) t_len (by decide +kernel) (pa_cons (pv 1) pa_nil)) pe_int (nomark _))))) 
        (pss_one (ps_ret pe_bl)) pss_nil)
      (pss_cons (ps_asg (pv 1) (pg_tup rfl (pgs_cons (pg_name (i := 2) scIsTaskPair.nd rfl (Or.inl rfl)) (pgs_cons (pg_name (i := 3) scIsTaskPair.nd rfl (Or.inl rfl)) pgs_nil))))
      (pss_one (ps_ret (pe_and (Rd.pe_callC c_is_whole (hr.mono (by decide)) (pa_cons (pv 2) (pa_cons pe_int (pa_cons (pe_op op_sub (pv 0) pe_int) pa_nil)))) (pe_and (Rd.pe_callC c_is_whole (hr.mono (by decide)) (pa_cons (pv 3) (pa_cons pe_int (pa_cons (pe_op op_sub (pv 0) pe_int) pa_nil)))) (pe_one (pe_cmpR op_ne (pv 2) (pv 3) (nomark _))))))))), ?_⟩
    walk_at "go"
    refine Rd.isi (.ty _) (tyT hT) (kit_ty (r := true) (by decide +kernel)) ?_
    walk_at "go"
    refine Rd.lenT hT ?_
    walk_at "go"
    refine Rd.ifN (fun z => by simp at z) fun _ => ?_
    walk_at "go"
    refine Rd.pair2 (by with_unfolding_all rfl) hT ?_
    walk_at "go"
    refine ⟨_, _, _, rfl, .inl ⟨_, rfl, ?_⟩⟩
    rw [between]
    walk_at "go"
    cases h1 : decide (p.1 < n) with
    | false =>
      walk_at "go"
      rw [h1] at k
      exact k
    | true =>
      walk_at "go"
      refine ⟨_, _, _, rfl, .inl ⟨_, rfl, ?_⟩⟩
      rw [between]
      walk_at "go"
      cases h2 : decide (p.2 < n) with
      | false =>
        walk_at "go"
        rw [h1, h2] at k
        exact k
      | true =>
        walk_at "go"
        rw [h1, h2] at k
        rw [show decide ((p.1 : Int) = (p.2 : Int)) = decide (p.1 = p.2) from decide_eq_decide.mpr (by omega)]
        exact k
/-- all pairs told, one after another -/
def putAll (B : List Nat) (ps : List (Nat × Nat)) : List Nat := ps.foldl (fun B p => put B p.1 p.2) B
/-- each pair may be told there -/
def GoodP (n : Nat) : List Nat → List (Nat × Nat) → Prop
  | _, [] => True
  | B, p :: ps => p.1 < n ∧ p.2 < n ∧ p.1 ≠ p.2 ∧ (B.getD p.2 0).testBit p.1 = false ∧ GoodP n (put B p.1 p.2) ps
theorem putAll_len : ∀ (ps : List (Nat × Nat)) (B : List Nat), (putAll B ps).length = B.length
  | [], _ => rfl
  | p :: ps, B => (putAll_len ps (put B p.1 p.2)).trans (put_len B p.1 p.2)
theorem GoodP.at_ {n : Nat} : ∀ {ps : List (Nat × Nat)} {B : List Nat} {i : Nat} {p : Nat × Nat}, GoodP n B ps → ps[i]? = some p →
    p.1 < n ∧ p.2 < n ∧ p.1 ≠ p.2 ∧ ((putAll B (ps.take i)).getD p.2 0).testBit p.1 = false ∧ putAll B (ps.take (i + 1)) = put (putAll B (ps.take i)) p.1 p.2
  | q :: ps, B, 0, p, g, e => by
    cases e
    exact ⟨g.1, g.2.1, g.2.2.1, g.2.2.2.1, rfl⟩
  | q :: ps, B, i + 1, p, g, e => by
    obtain ⟨h1, h2, h3, h4, h5⟩ := GoodP.at_ (B := put B q.1 q.2) g.2.2.2.2 (show ps[i]? = some p from e)
    exact ⟨h1, h2, h3, h4, h5⟩
theorem scBitsBehind : FnScope ["many", "pairs", "behind", "place", "pair", "one", "other"] ["many", "pairs"] (defScope sBitsBehind) := ⟨rfl, rfl, rfl, by decide +kernel, rfl, by decide +kernel, by decide +kernel⟩
def spBitsBehind (K : PySem.W.Frag) : Sp := fun vs H Q _ => ∃ (n : Nat) (a : Addr) (xs : List V) (ps : List (Nat × Nat)), vs = [.int n, .ref a] ∧ Rd.SqA K H a xs ∧ Paired (PairV K H) xs ps ∧ (0 < n ∧ n ≤ 12) ∧ GoodP n (List.replicate n 0) ps ∧
  ∀ (H' : Hp) (p : Addr), Same H H' → H p = none → H' p = some (.lst (bitsV (putAll (List.replicate n 0) ps))) → Q (.ref p) H'
theorem ok_bits_behind {f : Addr} {fd : FuncData} (F : Fun K "bits_behind" "bits_behind" sBitsBehind f fd) (t_enumerate : mg "enumerate" = none) (c_is_task_pair : Rd.Callee P w K mg base CX0 2 "is_task_pair" ["many", "value"] (spIsTaskPair K)) (c_has_task : Rd.Callee P w K mg base CX0 1 "has_task" ["bits", "task"] spHasTask)
    (c_put_ahead : Rd.Callee P w K mg base CX0 2 "put_ahead" ["behind", "one", "other"] (spPutAhead K)) : FnOk P w K mg base CX0 3 f fd ["many", "pairs"] (spBitsBehind K) := by
  refine F.ok scBitsBehind (fun vs H Q E h => ?_) (fun cdv A outer s H vs Q E hr h => ?_)
  · obtain ⟨n, a, xs, ps, rfl, _⟩ := h
    rfl
  · obtain ⟨n, a, xs, ps, rfl, hS, hP, ⟨hn0, hn⟩, hG, k⟩ := h
    refine ⟨_, 
      (pss_cons (ps_set (i := 2) scBitsBehind.nd rfl (Or.inl rfl) (pe_op op_rep (pe_lst (pa_cons pe_int pa_nil)) (pv 0)))
      (pss_cons (ps_for PassesOwn.never rfl (Rd.pi_enumA (by rfl) t_enumerate (pa_cons (pv 1) pa_nil)) (pg_tup rfl (pgs_cons (pg_name (i := 3) scBitsBehind.nd rfl (Or.inl rfl)) (pgs_cons (pg_name (i := 4) scBitsBehind.nd rfl (Or.inl rfl)) pgs_nil))) 
        (pss_cons (ps_if (pt_not (pt_val (Rd.pe_callC c_is_task_pair (hr.mono (by decide)) (pa_cons (pv 0) (pa_cons (pv 4) pa_nil))))) 
          (pss_one ps_never) pss_nil)
        (pss_cons (ps_asg (pv 4) (pg_tup rfl (pgs_cons (pg_name (i := 5) scBitsBehind.nd rfl (Or.inl rfl)) (pgs_cons (pg_name (i := 6) scBitsBehind.nd rfl (Or.inl rfl)) pgs_nil))))
        (pss_cons (ps_if (pt_val (Rd.pe_callC c_has_task (hr.mono (by decide)) (pa_cons (pe_ix (r := rIxL K) (by exact ix_list) (pv 2) (pv 6) (fun _ _ => rfl)) (pa_cons (pv 5) pa_nil)))) 
          (pss_one ps_never) pss_nil)
        (pss_one (ps_set (i := 2) scBitsBehind.nd rfl (Or.inl rfl) (Rd.pe_callC c_put_ahead (hr.mono (by decide)) (pa_cons (pv 2) (pa_cons (pv 5) (pa_cons (pv 6) pa_nil))))))))))
      (pss_one (ps_ret (pv 2))))), ?_⟩
    walk_at "go"
    refine ⟨(show 1 ≤ 16777216 by decide), fun l0 hl0 => ?_⟩
    walk_at "go"
    refine Rd.rep upd_same (by omega) fun q0 hq0 => ?_
    walk_at "go"
    have b0 : bitsV (List.replicate n 0) = List.replicate n (V.int 0) := by unfold bitsV; rw [List.map_replicate]; rfl
    rw [← b0]
    have sA : Same H (upd (upd H l0 (.lst [.int 0])) q0 (.lst (bitsV (List.replicate n 0)))) := same_new (same1 hl0) hq0
    have hq0' : H q0 = none := (same1 (o := .lst [.int 0]) hl0).free hq0
    have lenP : ∀ i, (putAll (List.replicate n 0) (ps.take i)).length = n := fun i => by rw [putAll_len, List.length_replicate]
    refine Rd.forEnumA hS sA (fun i σ H' => ∃ (q : Addr) (v3 v4 v5 v6 : Option V), σ = [some (.int n), some (.ref a), some (.ref q), v3, v4, v5, v6] ∧ Same H H' ∧ H q = none ∧ H' q = some (.lst (bitsV (putAll (List.replicate n 0) (ps.take i)))))
      ⟨q0, none, none, none, none, rfl, sA, hq0', upd_same⟩ (fun i σ H' _ h => ?_) ?_ ?_
    · obtain ⟨_, _, _, _, _, _, s0, _⟩ := h
      exact s0
    · rintro i x σ H' T hi hx ⟨q, v3, v4, v5, v6, rfl, s0, hqn, hq⟩ hT
      obtain ⟨p, hp, hxp⟩ := Rd.paired_get hP hx
      obtain ⟨g1, g2, g3, g4, g5⟩ := hG.at_ hp
      have sT : Same H (upd H' T (.tup [.int (i : Int), x])) := same_new s0 hT
      have hq1 := Rd.get_up (u := .tup [.int (i : Int), x]) hq hT
      walk_at "go"
      refine ⟨n, x, p, rfl, hxp.same sT, ?_⟩
      rw [show (decide (p.1 < n) && (decide (p.2 < n) && !decide (p.1 = p.2))) = true by simp [g1, g2, g3]]
      walk_at "go"
      obtain ⟨t, rfl, ht⟩ := hxp.same sT
      refine Rd.pair2 (by with_unfolding_all rfl) ht ?_
      walk_at "go"
      refine Rd.ixL (i := (p.2 : Int)) (SqL.of hq1) (at_of (j := p.2) rfl (bitsV_get (by rw [lenP]; exact g2))) ?_
      walk_at "go"
      refine ⟨_, _, rfl, ?_⟩
      rw [g4]
      walk_at "go"
      refine ⟨q, _, p.1, p.2, rfl, SqL.of hq1, by rw [lenP]; exact g2, by rw [lenP]; exact hn, fun H2 r s2 hr0 hr1 => ?_⟩
      walk_at "go"
      exact ⟨r, _, _, _, _, rfl, sT.trans s2, sT.free hr0, by rw [g5]; exact hr1⟩
    · rintro σ H' ⟨q, v3, v4, v5, v6, rfl, s0, hqn, hq⟩
      walk_at "go"
      have el : xs.length = ps.length := Paired.length hP
      rw [el, List.take_length] at hq
      exact k _ _ s0 hqn hq
end
end Bb
namespace Bb
open PySem L2
/-- the pairs with a first task below i -/
def row (B : List Nat) (n a j : Nat) : List (Nat × Nat) := ((List.range j).filter fun b => (B.getD a 0).testBit b).map fun b => (a, b)
def upto (B : List Nat) (n i : Nat) : List (Nat × Nat) := (List.range i).flatMap fun a => row B n a n
def told (B : List Nat) : List (Nat × Nat) := upto B B.length B.length
theorem upto_succ (B : List Nat) (n i : Nat) : upto B n (i + 1) = upto B n i ++ row B n i n := by
  unfold upto
  rw [List.range_succ, List.flatMap_append]
  simp
theorem row_succ (B : List Nat) (n a j : Nat) : row B n a (j + 1) = row B n a j ++ (if (B.getD a 0).testBit j = true then [(a, j)] else []) := by
  unfold row
  rw [List.range_succ, List.filter_append, List.map_append]
  by_cases h : (B.getD a 0).testBit j = true
  · rw [if_pos h]; simp only [List.filter_cons, h, if_true, List.filter_nil, List.map_cons, List.map_nil]
  · rw [if_neg h]; simp only [List.filter_cons, h, List.filter_nil, List.map_nil]; rfl
theorem paired_same {K : PySem.W.Frag} {H H' : Hp} {xs : List V} {ps : List (Nat × Nat)} (h : Paired (PairV K H) xs ps) (s : Same H H') : Paired (PairV K H') xs ps := by
  induction h with
  | nil => exact .nil
  | cons r _ ih => exact .cons (r.same s) ih
theorem paired_app {α β : Type} {R : α → β → Prop} {xs xs' : List α} {ys ys' : List β} (h : Paired R xs ys) (h' : Paired R xs' ys') : Paired R (xs ++ xs') (ys ++ ys') := by
  induction h with
  | nil => exact h'
  | cons r _ ih => exact .cons r ih
/-- a pair that is new since H0 -/
def PairN (H0 H : Hp) (v : V) (p : Nat × Nat) : Prop := ∃ t, v = .ref t ∧ H t = some (.tup [.int (p.1 : Int), .int (p.2 : Int)]) ∧ H0 t = none
theorem PairN.same {H0 H H' : Hp} {v : V} {p : Nat × Nat} (h : PairN H0 H v p) (s : Same H H') : PairN H0 H' v p := h.imp fun t q => ⟨q.1, s _ _ q.2.1, q.2.2⟩
theorem PairN.v {K : PySem.W.Frag} {H0 H : Hp} {v : V} {p : Nat × Nat} (h : PairN H0 H v p) : PairV K H v p := h.imp fun t q => ⟨q.1, SqT.of q.2.1⟩
theorem pairedN_same {H0 H H' : Hp} {xs : List V} {ps : List (Nat × Nat)} (h : Paired (PairN H0 H) xs ps) (s : Same H H') : Paired (PairN H0 H') xs ps := by
  induction h with
  | nil => exact .nil
  | cons r _ ih => exact .cons (r.same s) ih
theorem pairedN_v {K : PySem.W.Frag} {H0 H : Hp} {xs : List V} {ps : List (Nat × Nat)} (h : Paired (PairN H0 H) xs ps) : Paired (PairV K H) xs ps := by
  induction h with
  | nil => exact .nil
  | cons r _ ih => exact .cons r.v ih
theorem PairN.lst {H0 H : Hp} {v : V} {p : Nat × Nat} {D : Addr} {acc acc' : List V} (h : PairN H0 H v p) (hD : H D = some (.lst acc)) : PairN H0 (upd H D (.lst acc')) v p := by
  obtain ⟨t, e, q, f⟩ := h
  exact ⟨t, e, (upd_ne (ne_of q hD fun z => by cases z)).trans q, f⟩
theorem pairedN_lst {H0 H : Hp} {xs : List V} {ps : List (Nat × Nat)} {D : Addr} {acc acc' : List V} (h : Paired (PairN H0 H) xs ps) (hD : H D = some (.lst acc)) : Paired (PairN H0 (upd H D (.lst acc'))) xs ps := by
  induction h with
  | nil => exact .nil
  | cons r _ ih => exact .cons (r.lst hD) ih
theorem rg_get {n i : Nat} (h : i < n) : (rgV 0 (n : Int))[i]? = some (V.int (i : Int)) := by
  unfold rgV
  rw [Int.sub_zero, Int.toNat_natCast, List.getElem?_map, List.getElem?_range h, Option.map_some, Int.zero_add]
theorem rg_len (n : Nat) : (rgV 0 (n : Int)).length = n := by rw [rgV_length, Int.sub_zero, Int.toNat_natCast]
section
variable {P : Program} {w : World} {K : PySem.W.Frag} {mg : Str → Option Value} {base : Heap}
theorem scPairsTold : FnScope ["behind", "tasks", "one", "other"] ["behind"] (defScope sPairsTold) := ⟨rfl, rfl, rfl, by decide +kernel, rfl, by decide +kernel, by decide +kernel⟩
def spPairsTold (K : PySem.W.Frag) : Sp := fun vs H Q _ => ∃ (l : Addr) (B : List Nat), vs = [.ref l] ∧ SqL K H l (bitsV B) ∧ B.length ≤ 12 ∧ ∀ (H' : Hp) (p : Addr) (xs : List V), Same H H' → H p = none → H' p = some (.lst xs) → Paired (PairN H H') xs (told B) → xs.length ≤ 144 → Q (.ref p) H'
theorem ok_pairs_told {f : Addr} {fd : FuncData} (F : Fun K "pairs_told" "pairs_told" sPairsTold f fd) (t_list : mg "list" = none) (t_range : mg "range" = none) (t_len : mg "len" = none) (c_has_task : Rd.Callee P w K mg base CX0 1 "has_task" ["bits", "task"] spHasTask) : FnOk P w K mg base CX0 2 f fd ["behind"] (spPairsTold K) := by
  refine F.ok scPairsTold (fun vs H Q E h => ?_) (fun cdv A outer s H vs Q E hr h => ?_)
  · obtain ⟨l, B, rfl, _⟩ := h
    rfl
  · obtain ⟨l, B, rfl, hS, hB, k⟩ := h
    refine ⟨_, 
      (pss_cons (ps_set (i := 1) scPairsTold.nd rfl (Or.inr rfl) (pe_listRg rfl (by rfl) t_list (prg_1 (by rfl) t_range (pe_callB Rd.call_lenS (by rfl) t_len (by decide +kernel) (pa_cons (pv 0) pa_nil)))))
      (pss_one (ps_ret (pe_lc2 (own := [("one", 2), ("other", 3)]) (vs1 := [3]) (g := gName 2) (g1 := gName 3) (wi1 := iList K (tVar 1)) (tt := tYes) rfl scPairsTold.nd (pi_list (pv 1)) (blkOk_by (own := [("one", 2), ("other", 3)]) (N := ["behind", "tasks", "one", "other"]) (sc := defScope sPairsTold) (by decide +kernel)) (by decide) (fun _ _ _ _ _ => (pg_name (i := 2) scPairsTold.nd rfl (Or.inl rfl))) (fun _ _ _ _ _ => pts_nil) (fun _ _ _ _ _ => (pi_list (pv 1))) (fun _ _ _ _ _ => (pg_name (i := 3) scPairsTold.nd rfl (Or.inl rfl))) (fun _ _ _ _ _ => (pts_one (pt_val (Rd.pe_callC c_has_task (hr.mono (by decide)) (pa_cons (pe_ix (r := rIxL K) (by exact ix_list) (pv 0) (pv 2) (fun _ _ => rfl)) (pa_cons (pv 3) pa_nil)))))) (fun _ _ _ _ _ => (pe_tup (pa_cons (pv 2) (pa_cons (pv 3) pa_nil)))))))), ?_⟩
    walk_at "go"
    refine Rd.lenL hS ?_
    rw [show (bitsV B).length = B.length by unfold bitsV; rw [List.length_map]]
    walk_at "go"
    refine ⟨RgOk.of_le (by decide) (by omega) (by decide) (by omega), fun ta hta => ?_⟩
    have s1 : Same H (upd H ta (.lst (rgV 0 (B.length : Int)))) := same1 hta
    have h1 : upd H ta (.lst (rgV 0 (B.length : Int))) ta = _ := upd_same
    generalize upd H ta (.lst (rgV 0 (B.length : Int))) = H1 at s1 h1 ⊢
    walk_at "go"
    refine Rd.lcList2 (SqL.of h1) fun D hD => ⟨fun i H' => Same H1 H' ∧ ∃ acc, H' D = some (.lst acc) ∧ Paired (PairN H H') acc (upto B B.length i) ∧ acc.length ≤ i * B.length, ⟨same1 hD, [], upd_same, .nil, Nat.zero_le _⟩, ?_, ?_, ?_⟩
    · rintro i H' hi ⟨s0, _⟩
      exact SqL.of (s0 _ _ h1)
    · rintro i x H' hi hx ⟨s0, acc, hL, hP, hl⟩
      have hi' : i < B.length := by rw [rg_len] at hi; exact hi
      rw [rg_get hi'] at hx
      cases hx
      walk_at "go"
      refine ⟨rfl, ?_⟩
      walk_at "go"
      refine Rd.lcIList (SqL.of (s0 _ _ h1)) (fun j H' => Same H1 H' ∧ ∃ acc, H' D = some (.lst acc) ∧ Paired (PairN H H') acc (upto B B.length i ++ row B B.length i j) ∧ acc.length ≤ i * B.length + j) ⟨s0, acc, hL, by unfold row; simpa using hP, hl⟩ ?_ ?_ ?_
      · rintro j H2 hj ⟨s2, _⟩
        exact SqL.of (s2 _ _ h1)
      · rintro j x H2 hj hx ⟨s2, acc2, hL2, hP2, hl2⟩
        have hj' : j < B.length := by rw [rg_len] at hj; exact hj
        rw [rg_get hj'] at hx
        cases hx
        walk_at "go"
        refine ⟨rfl, ?_⟩
        walk_at "go"
        refine Rd.ixL (i := (i : Int)) ((s1.trans s2).seq hS) (at_of (j := i) rfl (bitsV_get hi')) ?_
        walk_at "go"
        refine ⟨_, _, rfl, ?_⟩
        walk_at "go"
        refine Rd.ifB (fun hb => ?_) fun hb => ?_
        · walk_at "go"
          refine ⟨(show 2 ≤ 16777216 by decide), fun t ht => ?_⟩
          have hb12 : i * B.length ≤ 12 * 12 := Nat.mul_le_mul (by omega) hB
          have hL3 := Rd.get_up (u := .tup [.int (i : Int), .int (j : Int)]) hL2 ht
          refine Rd.item hL3 (by rw [sizeLine_eq]; omega) ⟨same_up (same_new s2 ht) hD, _, upd_same, ?_, by rw [List.length_append, List.length_singleton]; omega⟩
          rw [row_succ, if_pos hb, ← List.append_assoc]
          exact pairedN_lst (paired_app (pairedN_same hP2 (same1 ht)) (.cons ⟨t, rfl, upd_same, (s1.trans s2).free ht⟩ .nil)) hL3
        · refine ⟨s2, acc2, hL2, ?_, by omega⟩
          rw [row_succ, if_neg (by rw [hb]; decide), List.append_nil]
          exact hP2
      · rintro H2 ⟨s2, acc2, hL2, hP2, hl2⟩
        rw [rg_len] at hP2 hl2
        rw [← upto_succ] at hP2
        exact ⟨s2, acc2, hL2, hP2, by rw [Nat.add_mul]; omega⟩
    · rintro H' ⟨s0, acc, hL, hP, hl⟩
      rw [rg_len] at hP hl
      walk_at "go"
      exact k H' D acc (s1.trans s0) (s1.free hD) hL hP (Nat.le_trans hl (Nat.mul_le_mul hB hB))
end
end Bb
namespace Bb
open PySem L2
abbrev sOrdInit : Stmt := inClass (top 14) 0
abbrev sOrdEq : Stmt := inClass (top 14) 2
/-- the attributes of an order -/
def oF (n : Int) (tb tp : Addr) : List (Str × V) := putF "pairs" (.ref tp) (putF "behind" (.ref tb) (putF "many" (.int n) []))
theorem oF_many (n : Int) (tb tp : Addr) : (oF n tb tp).lookup ("many" : Str) = some (.int n) := by
  unfold oF
  rw [lookup_putF, if_neg (by decide +kernel), lookup_putF, if_neg (by decide +kernel), lookup_putF, if_pos rfl]
theorem oF_behind (n : Int) (tb tp : Addr) : (oF n tb tp).lookup ("behind" : Str) = some (.ref tb) := by
  unfold oF
  rw [lookup_putF, if_neg (by decide +kernel), lookup_putF, if_pos rfl]
theorem oF_pairs (n : Int) (tb tp : Addr) : (oF n tb tp).lookup ("pairs" : Str) = some (.ref tp) := by
  unfold oF
  rw [lookup_putF, if_pos rfl]
/-- what the written part says of the class -/
structure OrdC (K : PySem.W.Frag) (C : Addr) : Prop where
  cl : Cls K C
  n1 : NoAttr K C "many"
  n2 : NoAttr K C "behind"
  n3 : NoAttr K C "pairs"
  ha : PySem.W.findIn K (.ref C) "__class__" = some (some (.builtin "object.__class__"))
  hn : PySem.W.specialIn K (.builtin "object.__class__") "__get__" = some (some (.builtin "getset_descriptor.__get__"))
  ht : PySem.W.takesIn K (.builtin "object.__class__") = some true
  hm : PySem.W.mroIn K C (.type "object") = some true
/-- an order stands at o: of n tasks, B tells the bits behind each -/
def OrdAt (K : PySem.W.Frag) (C : Addr) (H : Hp) (o : Addr) (n : Nat) (B : List Nat) : Prop :=
  ∃ (dx tb tp : Addr) (xs : List V), H o = some (.ins C dx (oF n tb tp)) ∧ H tb = some (.tup (bitsV B)) ∧ H tp = some (.tup xs) ∧ Paired (PairV K H) xs (told B) ∧ xs.length ≤ 144
/-- .. that is new since H0 -/
def OrdAtN (C : Addr) (H0 H : Hp) (o : Addr) (n : Nat) (B : List Nat) : Prop :=
  ∃ (dx tb tp : Addr) (xs : List V), H o = some (.ins C dx (oF n tb tp)) ∧ (H tb = some (.tup (bitsV B)) ∧ H0 tb = none) ∧ (H tp = some (.tup xs) ∧ H0 tp = none) ∧ Paired (PairN H0 H) xs (told B) ∧ xs.length ≤ 144
theorem OrdAt.same {K : PySem.W.Frag} {C o : Addr} {H H' : Hp} {n : Nat} {B : List Nat} (h : OrdAt K C H o n B) (s : Same H H') : OrdAt K C H' o n B := by
  obtain ⟨dx, tb, tp, xs, h1, h2, h3, h4, h5⟩ := h
  exact ⟨dx, tb, tp, xs, s _ _ h1, s _ _ h2, s _ _ h3, paired_same h4 s, h5⟩
theorem OrdAt.ty {K : PySem.W.Frag} {C o : Addr} {H : Hp} {n : Nat} {B : List Nat} (h : OrdAt K C H o n B) (T : OrdC K C) : TyX K H (.ref o) (.ref C) := by
  obtain ⟨dx, tb, tp, xs, h1, _⟩ := h
  exact .base (.ins h1 T.cl T.ha T.hn T.ht T.hm)
theorem tyL {K : PySem.W.Frag} {H : Hp} {t : Addr} {xs : List V} (h : SqL K H t xs) : TyX K H (.ref t) (.type "list") := by
  rcases h with (h | ⟨o, h⟩) | ⟨o, its, n, h1, h2, _⟩
  · exact .base (.lst h)
  · exact .base (.frz h)
  · exact .kList h1 h2
theorem PairN.ins {H0 H : Hp} {v : V} {p : Nat × Nat} {D C dx : Addr} {fs : List (Str × V)} {u : HO} (h : PairN H0 H v p) (hD : H D = some (.ins C dx fs)) : PairN H0 (upd H D u) v p := by
  obtain ⟨t, e, q, f⟩ := h
  exact ⟨t, e, (upd_ne (ne_of q hD fun z => by cases z)).trans q, f⟩
theorem pairedN_ins {H0 H : Hp} {xs : List V} {ps : List (Nat × Nat)} {D C dx : Addr} {fs : List (Str × V)} {u : HO} (h : Paired (PairN H0 H) xs ps) (hD : H D = some (.ins C dx fs)) : Paired (PairN H0 (upd H D u)) xs ps := by
  induction h with
  | nil => exact .nil
  | cons r _ ih => exact .cons (r.ins hD) ih
theorem pairedN_old {H0 H1 H : Hp} {xs : List V} {ps : List (Nat × Nat)} (h : Paired (PairN H1 H) xs ps) (f : ∀ t, H1 t = none → H0 t = none) : Paired (PairN H0 H) xs ps := by
  induction h with
  | nil => exact .nil
  | cons r _ ih =>
    obtain ⟨t, e, q, n⟩ := r
    exact .cons ⟨t, e, q, f t n⟩ ih
/-- what is free now was free -/
theorem KpX_free {x t : Addr} {H H' : Hp} (k : ∀ b o, b ≠ x → H b = some o → H' b = some o) (hx : ∃ u, H' x = some u) (ht : H' t = none) : H t = none := by
  cases q : H t with
  | none => rfl
  | some u =>
    have n : t ≠ x := fun z => by
      obtain ⟨v, e⟩ := hx
      rw [← z, ht] at e
      cases e
    rw [k t u n q] at ht
    cases ht
/-- all but x is as it was -/
theorem tyA {K : PySem.W.Frag} {H : Hp} {a : Addr} {xs : List V} (h : Rd.SqA K H a xs) : ∃ T, TyX K H (.ref a) T ∧ PySem.W.kitAny K T [.type "list", .type "tuple"] = some true := by
  rcases h with h | h
  · exact ⟨_, tyL h, kitAny_cons (b := true) (kit_ty (by decide +kernel)) (fun z => by cases z) fun _ => rfl⟩
  · exact ⟨_, tyT h, kitAny_cons (b := false) (kit_ty (by decide +kernel)) (fun _ => kitAny_cons (b := true) (kit_ty (by decide +kernel)) (fun z => by cases z) fun _ => rfl) fun z => by cases z⟩
def KpX (x : Addr) (H H' : Hp) : Prop := ∀ b o, b ≠ x → H b = some o → H' b = some o
theorem KpX.same {x : Addr} {H H1 H2 : Hp} (k : KpX x H H1) (s : Same H1 H2) : KpX x H H2 := fun b o n h => s b o (k b o n h)
theorem KpX.own {x : Addr} {H H1 : Hp} {u : HO} (k : KpX x H H1) : KpX x H (upd H1 x u) := fun b o n h => (upd_ne n).trans (k b o n h)
section
variable {P : Program} {w : World} {K : PySem.W.Frag} {mg : Str → Option Value} {base : Heap}
theorem scInit : FnScope ["self", "many", "pairs", "behind"] ["self", "many", "pairs"] (defScope sOrdInit) := ⟨rfl, rfl, rfl, by decide +kernel, rfl, by decide +kernel, by decide +kernel⟩
def spOrdInit (K : PySem.W.Frag) (C : Addr) : Sp := fun vs H Q _ => ∃ (x dx : Addr) (n : Nat) (a : Addr) (xs : List V) (ps : List (Nat × Nat)), vs = [.ref x, .int n, .ref a] ∧ H x = some (.ins C dx []) ∧ Rd.SqA K H a xs ∧ Paired (PairV K H) xs ps ∧ (0 < n ∧ n ≤ 12) ∧ GoodP n (List.replicate n 0) ps ∧
  ∀ H' : Hp, (∀ b o, b ≠ x → H b = some o → H' b = some o) → OrdAtN C H H' x n (putAll (List.replicate n 0) ps) → Q .non H'
theorem ok_ord_init {f C : Addr} {fd : FuncData} (F : Fun K "__init__" "Order.__init__" sOrdInit f fd) (T : OrdC K C) (t_isinstance : mg "isinstance" = none) (t_list : mg "list" = none) (t_tuple : mg "tuple" = none) {tk : Tok} (m_MOST_TASKS : mg "MOST_TASKS" = some (.int 12 tk))
    (c_is_whole : Rd.Callee P w K mg base CX0 1 "is_whole" ["value", "low", "high"] (spIsWhole K)) (c_bits_behind : Rd.Callee P w K mg base CX0 3 "bits_behind" ["many", "pairs"] (spBitsBehind K)) (c_pairs_told : Rd.Callee P w K mg base CX0 2 "pairs_told" ["behind"] (spPairsTold K)) :
    FnOk P w K mg base CX0 4 f fd ["self", "many", "pairs"] (spOrdInit K C) := by
  refine F.ok scInit (fun vs H Q E h => ?_) (fun cdv A outer s H vs Q E hr h => ?_)
  · obtain ⟨x, dx, n, a, xs, ps, rfl, _⟩ := h
    rfl
  · obtain ⟨x, dx, n, a, xs, ps, rfl, hx, hS, hP, ⟨hn0, hn⟩, hG, k⟩ := h
    refine ⟨_, 
      (pss_cons (ps_if (pt_not (pt_val (Rd.pe_callC c_is_whole (hr.mono (by decide)) (pa_cons (pv 1) (pa_cons pe_int (pa_cons (pe_glob (v := .int 12) (by rfl) m_MOST_TASKS ⟨_, rfl⟩) pa_nil)))))) 
        (pss_one ps_never) pss_nil)
      (pss_cons (ps_if (pt_not (pt_val (pe_callB call_isiT (by rfl) t_isinstance (by decide +kernel) (pa_cons (pv 2) (pa_cons (pe_tup (pa_cons (pe_bltn (v := .ty "list") (by rfl) t_list (by decide +kernel) rfl) (pa_cons (pe_bltn (v := .ty "tuple") (by rfl) t_tuple (by decide +kernel) rfl) pa_nil))) pa_nil))))) 
        (pss_one ps_never) pss_nil)
      (pss_cons (ps_set (i := 3) scInit.nd rfl (Or.inl rfl) (Rd.pe_callC c_bits_behind (hr.mono (by decide)) (pa_cons (pv 1) (pa_cons (pv 2) pa_nil))))
      (pss_cons (ps_fld (pv 0) (pv 1) rfl)
      (pss_cons (ps_fld (pv 0) (pe_callTy Rd.call_tupleL (by rfl) t_tuple (by decide +kernel) (pa_cons (pv 3) pa_nil)) rfl)
      (pss_one (ps_fld (pv 0) (pe_callTy Rd.call_tupleL (by rfl) t_tuple (by decide +kernel) (pa_cons (Rd.pe_callC c_pairs_told (hr.mono (by decide)) (pa_cons (pv 3) pa_nil)) pa_nil)) rfl))))))), ?_⟩
    walk_at "go"
    refine ⟨_, _, _, rfl, .inl ⟨_, rfl, ?_⟩⟩
    rw [show (decide ((1 : Int) ≤ (n : Int)) && decide ((n : Int) ≤ 12)) = true by simp; omega]
    walk_at "go"
    refine ⟨(show 2 ≤ 16777216 by decide), fun t0 ht0 => ?_⟩
    obtain ⟨T0, ty0, ka0⟩ := tyA (hS.same (same1 ht0))
    refine Rd.isiT upd_same (.cons (.ty _) (.cons (.ty _) .nil)) ty0 ka0 ?_
    walk_at "go"
    refine ⟨n, a, xs, ps, rfl, hS.same (same1 ht0), paired_same hP (same1 ht0), ⟨hn0, hn⟩, hG, fun H2 lb s2 hlb0 hlb => ?_⟩
    have hB : (putAll (List.replicate n 0) ps).length ≤ 12 := by rw [putAll_len, List.length_replicate]; exact hn
    generalize putAll (List.replicate n 0) ps = B at k hlb hB
    have x2 : H2 x = some (.ins C dx []) := s2 _ _ (Rd.get_up hx ht0)
    have kp2 : KpX x H H2 := fun b o _ h => s2 _ _ (Rd.get_up h ht0)
    have nlx : lb ≠ x := ne_of hlb x2 fun z => by cases z
    walk_at "go"
    refine Rd.setFE x2 T.cl T.n1 (show 0 < 1000 by decide) ?_
    have x3 : upd H2 x (.ins C dx (putF "many" (.int n) [])) x = some (.ins C dx (putF "many" (.int n) [])) := upd_same
    have b3 : upd H2 x (.ins C dx (putF "many" (.int n) [])) lb = _ := (upd_ne nlx).trans hlb
    have kp3 : KpX x H (upd H2 x (.ins C dx (putF "many" (.int n) []))) := kp2.own
    generalize upd H2 x (.ins C dx (putF "many" (.int n) [])) = H3 at x3 b3 kp3 ⊢
    walk_at "go"
    refine Rd.tupE (SqL.of b3) fun tb htb => ?_
    walk_at "go"
    have nbx : tb ≠ x := fun z => by rw [z, x3] at htb; cases htb
    refine Rd.setFE (Rd.get_up x3 htb) T.cl T.n2 (show 1 < 1000 by decide) ?_
    have kp4 : KpX x H (upd (upd H3 tb (.tup (bitsV B))) x (.ins C dx (putF "behind" (.ref tb) (putF "many" (.int n) [])))) := (kp3.same (same1 htb)).own
    have x4 : upd (upd H3 tb (.tup (bitsV B))) x (.ins C dx (putF "behind" (.ref tb) (putF "many" (.int n) []))) x = some (.ins C dx (putF "behind" (.ref tb) (putF "many" (.int n) []))) := upd_same
    have t4 : upd (upd H3 tb (.tup (bitsV B))) x (.ins C dx (putF "behind" (.ref tb) (putF "many" (.int n) []))) tb = some (.tup (bitsV B)) := (upd_ne nbx).trans upd_same
    have b4 : upd (upd H3 tb (.tup (bitsV B))) x (.ins C dx (putF "behind" (.ref tb) (putF "many" (.int n) []))) lb = some (.lst (bitsV B)) := (upd_ne nlx).trans (Rd.get_up b3 htb)
    generalize upd (upd H3 tb (.tup (bitsV B))) x (.ins C dx (putF "behind" (.ref tb) (putF "many" (.int n) []))) = H4 at kp4 x4 t4 b4 ⊢
    walk_at "go"
    refine ⟨lb, B, rfl, SqL.of b4, hB, fun H5 lp zs s5 hlp0 hlp hPp hlen => ?_⟩
    walk_at "go"
    refine Rd.tupE (SqL.of hlp) fun tp htp => ?_
    walk_at "go"
    have x5 := s5 _ _ x4
    have npx : tp ≠ x := fun z => by rw [z, x5] at htp; cases htp
    refine Rd.setFE (Rd.get_up x5 htp) T.cl T.n3 (by rw [show (putF "behind" (V.ref tb) (putF "many" (V.int n) [])).length = 2 from rfl]; decide) ?_
    walk_at "go"
    exact k _ ((kp4.same (s5.trans (same1 htp))).own) ⟨dx, tb, tp, zs, upd_same, ⟨(upd_ne nbx).trans (Rd.get_up (s5 _ _ t4) htp), KpX_free kp3 ⟨_, x3⟩ htb⟩, ⟨(upd_ne npx).trans upd_same, KpX_free (kp4.same s5) ⟨_, x5⟩ htp⟩, pairedN_ins (pairedN_old (pairedN_same hPp (same1 htp)) fun t ht => KpX_free kp4 ⟨_, x4⟩ ht) (Rd.get_up x5 htp), hlen⟩
end
end Bb
namespace Bb
open PySem L2
/-! ## ==: pairs as data -/
def prPy (p : Nat × Nat) : PyData := .tuple [.int p.1, .int p.2]
section
variable {K : PySem.W.Frag} {H : Hp}
theorem dp_pairs {xs : List V} {ps : List (Nat × Nat)} (h : Paired (PairV K H) xs ps) : DpAll K H xs (ps.map prPy) := by
  induction h with
  | nil => exact .nil
  | cons r _ ih =>
    obtain ⟨t, rfl, q⟩ := r
    exact .cons (.tup q (.cons (.int _) (.cons (.int _) .nil))) ih
theorem lay_pairs : ∀ ps : List (Nat × Nat), PyData.canLayAll0 (ps.map prPy) = true
  | [] => by simp [PyData.canLayAll0]
  | p :: ps => by simp [PyData.canLayAll0, PyData.canLay0, prPy, lay_pairs ps]
theorem deep_pairs : ∀ ps : List (Nat × Nat), PyData.depthAll (ps.map prPy) ≤ 1
  | [] => by simp [PyData.depthAll]
  | p :: ps => by
    have := deep_pairs ps
    simp only [List.map_cons, PyData.depthAll, prPy, PyData.depth]
    omega
theorem sh_pairs (ps : List (Nat × Nat)) : SeqAt.shaped (.tuple (ps.map prPy)) = true := by
  have := deep_pairs ps
  unfold SeqAt.shaped
  rw [show PyData.canLay0 (.tuple (ps.map prPy)) = true by simp [PyData.canLay0, lay_pairs], Bool.true_and]
  refine decide_eq_true ?_
  simp only [PyData.depth]
  omega
theorem eqv_pairs : ∀ ps qs : List (Nat × Nat), PyData.eqvAll (ps.map prPy) (qs.map prPy) = decide (ps = qs)
  | [], [] => by simp [PyData.eqvAll]
  | [], _ :: _ => by simp [PyData.eqvAll]
  | _ :: _, [] => by simp [PyData.eqvAll]
  | (a, b) :: ps, (c, d) :: qs => by
    simp only [List.map_cons, PyData.eqvAll, prPy, PyData.eqv, eqv_pairs ps qs, Bool.and_true]
    by_cases h1 : a = c <;> by_cases h2 : b = d <;> by_cases h3 : ps = qs <;> simp [h1, h2, h3] <;> omega
end
section
variable {P : Program} {w : World} {K : PySem.W.Frag} {mg : Str → Option Value} {base : Heap}
theorem scEq : FnScope ["self", "other"] ["self", "other"] (defScope sOrdEq) := ⟨rfl, rfl, rfl, by decide +kernel, rfl, by decide +kernel, by decide +kernel⟩
def spOrdEq (K : PySem.W.Frag) (C : Addr) : Sp := fun vs H Q _ => ∃ (o n : Nat) (B : List Nat) (y : V), vs = [.ref o, y] ∧ OrdAt K C H o n B ∧
  ((∃ (o' n' : Nat) (B' : List Nat), y = .ref o' ∧ OrdAt K C H o' n' B' ∧ PySem.W.kitOne K (.ref C) (.ref C) = some true ∧ Q (.bl (decide (n = n') && decide (told B = told B'))) H) ∨ ∃ t, TyX K H y t ∧ PySem.W.kitOne K t (.ref C) = some false ∧ Q (.bl false) H)
theorem ok_ord_eq {f C : Addr} {fd : FuncData} (F : Fun K "__eq__" "Order.__eq__" sOrdEq f fd) (T : OrdC K C) (t_isinstance : mg "isinstance" = none) (g_Order : mg "Order" = some (.ref C)) : FnOk P w K mg base CX0 1 f fd ["self", "other"] (spOrdEq K C) := by
  refine F.ok scEq (fun vs H Q E h => ?_) (fun cdv A outer s H vs Q E hr h => ?_)
  · obtain ⟨o, n, B, y, rfl, _⟩ := h
    rfl
  · obtain ⟨o, n, B, y, rfl, hO, h⟩ := h
    refine ⟨_, 
      (pss_one (ps_ret (pe_and (pe_callB call_isi (by rfl) t_isinstance (by decide +kernel) (pa_cons (pv 1) (pa_cons (Rd.pe_cls g_Order) pa_nil))) (pe_and (pe_cmpR op_eq (pe_fld (pv 0) rfl) (pe_fld (pv 1) rfl) (nomark _)) (pe_one (pe_cmpR (op_eqD (Rd.hu64 hr)) (pe_fld (pv 0) rfl) (pe_fld (pv 1) rfl) (nomark _))))))), ?_⟩
    walk_at "go"
    rcases h with ⟨o', n', B', rfl, hO', kk, k⟩ | ⟨t, ty, hk, k⟩
    · refine Rd.isi (.own _) (hO'.ty T) kk ?_
      obtain ⟨dx, tb, tp, xs, h1, h2, h3, h4, h5⟩ := hO
      obtain ⟨dx', tb', tp', xs', h1', h2', h3', h4', h5'⟩ := hO'
      walk_at "go"
      refine Rd.fldE h1 T.cl T.n1 (oF_many _ _ _) ?_
      walk_at "go"
      refine Rd.fldE h1' T.cl T.n1 (oF_many _ _ _) ?_
      walk_at "go"
      rw [show decide ((n : Int) = (n' : Int)) = decide (n = n') from decide_eq_decide.mpr (by omega)]
      cases hn : decide (n = n') with
      | false =>
        walk_at "go"
        rw [hn] at k
        exact k
      | true =>
        walk_at "go"
        refine Rd.fldE h1 T.cl T.n3 (oF_pairs _ _ _) ?_
        walk_at "go"
        refine Rd.fldE h1' T.cl T.n3 (oF_pairs _ _ _) ?_
        refine Rd.eqD (.tup (SqT.of h3) (dp_pairs h4)) (.tup (SqT.of h3') (dp_pairs h4')) (sh_pairs _) (sh_pairs _) ?_
        rw [hn] at k
        rw [show PyData.eqv (.tuple ((told B).map prPy)) (.tuple ((told B').map prPy)) = decide (told B = told B') by simp only [PyData.eqv, eqv_pairs]]
        exact k
    · refine Rd.isi (.own _) ty hk ?_
      walk_at "go"
      exact k
end
end Bb
namespace Bb
open PySem PySem.Spec PyProof.Rows L2 Pd Tmm
/-- an order as data: of n tasks, B tells the bits behind each -/
abbrev ordD (n : Nat) (B : List Nat) : D := .ins "Order" [(("many" : Str), nD n), (("behind" : Str), .tup (B.map nD)), (("pairs" : Str), .tup ((told B).map Pd.prD))]
/-- what is known of the class Order -/
structure OrdI (P : Program) (w : World) (K : PySem.W.Frag) (mg : Str → Option Value) (base : Heap) (C : Addr) : Prop where
  m : mg "Order" = some (.ref C)
  T : OrdC K C
  made : ∃ (fI : Addr) (fd : FuncData) (ps : List Str), Mk K C fI ∧ Binds K fd ps [] ∧ FnOk P w K mg base CX0 4 fI fd ps (spOrdInit K C)
  eq : ∃ ps : List Str, Cmq.Eqr P w K mg base 1 C ps (spOrdEq K C)
  self : PySem.W.notFirst K C (.ref C) = true ∧ PySem.W.kitOne K (.ref C) (.ref C) = some true
theorem oF_eq (n : Nat) (tb tp : Addr) : oF (n : Int) tb tp = [(("many" : Str), V.int (n : Int)), (("behind" : Str), V.ref tb), (("pairs" : Str), V.ref tp)] := by
  unfold oF
  rfl
theorem told_len {B : List Nat} (h : B.length ≤ 12) : (told B).length ≤ 144 := by
  have key : ∀ i, (upto B B.length i).length ≤ i * B.length := by
    intro i
    induction i with
    | zero => simp [upto]
    | succ i ih =>
      rw [upto_succ, List.length_append, Nat.add_mul]
      have : (row B B.length i B.length).length ≤ B.length := by
        unfold row
        rw [List.length_map]
        exact Nat.le_trans (List.length_filter_le _ _) (by rw [List.length_range]; exact Nat.le_refl _)
      omega
  exact Nat.le_trans (key _) (Nat.le_trans (Nat.mul_le_mul h h) (by decide))
section
variable {K : PySem.W.Frag} {mg : Str → Option Value} {w : Dr}
theorem dva_bits {H : Hp} : ∀ B : List Nat, DvA K mg w H (bitsV B) (B.map nD)
  | [] => .nil
  | n :: B => .cons (.int _) (dva_bits B)
/-- what is new becomes shared -/
def noTbl : Option HO → Option HO
  | some (.tbl _) => none
  | o => o
theorem noTbl_some {x : Option HO} {o : HO} (h : noTbl x = some o) : x = some o := by
  unfold noTbl at h
  split at h
  · cases h
  · exact h
theorem noTbl_of {o : HO} (h : ∀ ps, o ≠ .tbl ps) : noTbl (some o) = some o := by
  unfold noTbl
  split
  · rename_i e; cases e; exact absurd rfl (h _)
  · rfl
def shareN (H Hs H' : Hp) : Hp := fun b => match H b with | none => noTbl (H' b) | some _ => Hs b
theorem shareN_new {H Hs H' : Hp} {b : Addr} {o : HO} (h : H b = none) (q : H' b = some o) (n : ∀ ps, o ≠ .tbl ps := by intro _ z; cases z) : shareN H Hs H' b = some o := by unfold shareN; rw [h, q]; exact noTbl_of n
theorem go_shareN {H Hs H' : Hp} (s : Same Hs H) (t : Same H H') : Go w H Hs H' (shareN H Hs H') := by
  refine ⟨fun b o _ _ _ e => t _ _ e, fun b e => ?_, fun b o e => ?_, fun b o e => ?_, fun b h1 h2 => ?_, fun b ps e => ?_⟩
  · cases q : H b with
    | none => exact absurd q e
    | some u => rw [t _ _ q]; exact fun z => by cases z
  · unfold shareN
    rw [s _ _ e]
    exact e
  · unfold shareN at e
    cases q : H b with
    | none => rw [q] at e; exact noTbl_some e
    | some u =>
      rw [q] at e
      exact t _ _ (s _ _ e)
  · unfold shareN
    cases q : H b with
    | none => exact absurd q h1
    | some u => exact h2
  · unfold shareN at e
    cases q : H b with
    | none =>
      rw [q] at e
      dsimp only at e
      have := noTbl_some e
      rw [this] at e
      cases e
    | some u => rw [q] at e; exact e
theorem dva_pairsN {H Hs H' : Hp} {xs : List V} {ps : List (Nat × Nat)} (h : Paired (PairN H H') xs ps) : DvA K mg w (shareN H Hs H') xs (ps.map Pd.prD) := by
  induction h with
  | nil => exact .nil
  | cons r _ ih =>
    obtain ⟨t, rfl, q, f⟩ := r
    exact .cons (.tup (shareN_new f q) (.cons (.int _) (.cons (.int _) .nil))) ih
theorem dv_ordN {C : Addr} {H Hs H' : Hp} {x : Addr} {n : Nat} {B : List Nat} (h : OrdAtN C H H' x n B) (hx : H x = none) (hm : mg "Order" = some (.ref C)) : Dv K mg w (shareN H Hs H') (.ref x) (ordD n B) := by
  obtain ⟨dx, tb, tp, xs, h1, ⟨h2, f2⟩, ⟨h3, f3⟩, h4, _⟩ := h
  rw [oF_eq] at h1
  exact .ins (shareN_new hx h1) hm (.cons (.int _) (.cons (.tup (shareN_new f2 h2) (dva_bits B)) (.cons (.tup (shareN_new f3 h3) (dva_pairsN h4)) .nil)))
theorem pairV_of {H Hs : Hp} (s : Same Hs H) : ∀ {xs : List V} {ps : List (Nat × Nat)}, DvA K mg w Hs xs (ps.map Pd.prD) → Paired (PairV K H) xs ps
  | _, [], .nil => .nil
  | _, p :: ps, .cons h t => by
    cases h with
    | tup h1 h2 =>
      cases h2 with
      | cons a h2 =>
        cases a
        cases h2 with
        | cons b h2 =>
          cases b
          cases h2
          exact .cons ⟨_, rfl, SqT.of (s _ _ h1)⟩ (pairV_of s t)
theorem bitsV_of {H : Hp} : ∀ {xs : List V} {B : List Nat}, DvA K mg w H xs (B.map nD) → xs = bitsV B
  | _, [], .nil => rfl
  | _, n :: B, .cons h t => by
    cases h
    rw [bitsV_of t]
    rfl
theorem ordAt_of {C : Addr} {H Hs : Hp} {v : V} {n : Nat} {B : List Nat} (s : Same Hs H) (hm : mg "Order" = some (.ref C)) (hB : B.length ≤ 12) (h : Dv K mg w Hs v (ordD n B)) : ∃ o dx fs, v = .ref o ∧ H o = some (.ins C dx fs) ∧ OrdAt K C H o n B := by
  cases h with
  | @ins a C' dx _ fs _ h1 h2 h3 =>
    rw [hm] at h2
    cases h2
    cases h3 with
    | cons a1 t1 =>
      cases a1
      cases t1 with
      | cons a2 t2 =>
        cases t2 with
        | cons a3 t3 =>
          cases t3
          cases a2 with
          | @tup tb xb _ b1 b2 =>
            cases a3 with
            | @tup tp xp _ c1 c2 =>
              refine ⟨_, dx, _, rfl, s _ _ h1, dx, tb, tp, xp, ?_, ?_, s _ _ c1, pairV_of s c2, ?_⟩
              · rw [oF_eq]; exact s _ _ h1
              · rw [← bitsV_of b2]; exact s _ _ b1
              · rw [c2.len, List.length_map]; exact told_len hB
end
/-- an order made of good pairs -/
def eOrd (f : AD) : ED := fun env N Q => f env N fun rs N1 => ∃ (n : Nat) (ps : List (Nat × Nat)), (rs = [nD n, .lst (ps.map Pd.prD)] ∨ rs = [nD n, .tup (ps.map Pd.prD)]) ∧ (0 < n ∧ n ≤ 12) ∧ GoodP n (List.replicate n 0) ps ∧ Q (ordD n (putAll (List.replicate n 0) ps)) N1
section
variable {X : Cx} {C : Cn} {e : Expr} {es : List Expr} {pos p : Pos} {f : AD} {CO : Addr}
theorem pd_ord (M : OrdI X.prog X.w X.K X.mg X.base CO) (hr : Room 5 X.A) (ha : PAd X C (e :: es) f) (hg : Gl X "Order" := by rfl) (he : starEach (e :: es) X.env = (false, eval e X.env) :: starEach es X.env := by rfl)
    (hpl : (backTo pos (starEach es X.env)).any (·.1) = false := by rfl) : PEd X C (.Call (.Name "Order" p) (e :: es) [] pos) (eOrd f) := by
  obtain ⟨fI, fd, ps, Mk', b, F⟩ := M.made
  refine ⟨PE.imp (pe_make Mk' F hr hg M.m b .nil pass0 ha.pa (by decide) he hpl) fun σ H Q ⟨env, Hs, N, R, r, hf, k⟩ => ⟨env, Hs, N, _, r, hf, fun rs N1 ⟨n, qs, hrs, hn, hG, h1⟩ vs H1 Hs1 g1 m1 d1 => fun x dx hx hdx hne => ?_⟩⟩
  have s : Same H1 (upd (upd H1 dx (.own x)) x (.ins CO dx [])) := fun b u e => (upd_ne (ne_of_none e hx)).trans ((upd_ne (ne_of_none e hdx)).trans e)
  have fin : ∀ (a : Addr) (xs : List V), vs = [.int n, .ref a] → Rd.SqA X.K H1 a xs → Paired (PairV X.K H1) xs qs → spOrdInit X.K CO (.ref x :: (vs ++ [])) (upd (upd H1 dx (.own x)) x (.ins CO dx [])) (fun v H2 => v = .non ∧ Q (.ref x) H2) E0 := fun a xs ev hS hP => by
    subst ev
    refine ⟨x, dx, n, a, xs, qs, rfl, upd_same, hS.same s, paired_same hP s, hn, hG, fun H' kk o => ⟨rfl, ?_⟩⟩
    have t : Same H1 H' := fun b u e => kk b u (ne_of_none e hx) (s b u e)
    have fr : ∀ t, upd (upd H1 dx (.own x)) x (.ins CO dx []) t = none → H1 t = none := fun t ht => by
      by_cases e1 : t = x
      · rw [e1]; exact hx
      · rw [upd_ne e1] at ht
        by_cases e2 : t = dx
        · rw [e2]; exact hdx
        · rw [upd_ne e2] at ht; exact ht
    obtain ⟨dy, tb, tp, ys, o1, ⟨o2, f2⟩, ⟨o3, f3⟩, o4, o5⟩ := o
    have o' : OrdAtN CO H1 H' x n (putAll (List.replicate n 0) qs) := ⟨dy, tb, tp, ys, o1, ⟨o2, fr _ f2⟩, ⟨o3, fr _ f3⟩, pairedN_old o4 fr, o5⟩
    exact k _ _ h1 _ _ _ (g1.trans (go_shareN g1.sub t)) (m1.same t) (dv_ordN o' hx M.m)
  rcases hrs with rfl | rfl
  · cases d1 with
    | cons a1 t1 =>
      cases a1
      cases t1 with
      | cons a2 t2 =>
        cases t2
        cases a2 with
        | lst b1 b2 => exact fin _ _ rfl (.inl (SqL.of (g1.sub _ _ b1))) (pairV_of g1.sub b2)
  · cases d1 with
    | cons a1 t1 =>
      cases a1
      cases t1 with
      | cons a2 t2 =>
        cases t2
        cases a2 with
        | tup b1 b2 => exact fin _ _ rfl (.inr (SqT.of (g1.sub _ _ b1))) (pairV_of g1.sub b2)
/-- two orders compared -/
def oEqO (neg : Bool) : O2 := fun x y P => ∃ (n m : Nat) (B B' : List Nat), x = ordD n B ∧ y = ordD m B' ∧ B.length ≤ 12 ∧ B'.length ≤ 12 ∧ P (.bl ((decide (n = m) && decide (told B = told B')) != neg))
theorem od_eqO {w : Dr} (M : OrdI X.prog X.w X.K X.mg X.base CO) (hr : Room 1 X.A) : OpD X w (compareOp .Eq) (oEqO false) := by
  obtain ⟨ps, E⟩ := M.eq
  intro pins s σ H x y v u Q I rx ry ⟨Hs, N, a, b, P, s0, m, ha, hb, ⟨n, n', B, B', ea, eb, lB, lB', hp⟩, out⟩
  subst ea eb
  obtain ⟨o, dx, fs, rfl, o1, o2⟩ := ordAt_of s0 M.m lB (ha.dv fun _ z => by cases z)
  obtain ⟨o', dx', fs', rfl, o1', o2'⟩ := ordAt_of s0 M.m lB' (hb.dv fun _ z => by cases z)
  exact Cmq.opEq E hr pins s σ H _ _ v u Q I rx ry ⟨o, dx, fs, .ref CO, rfl, o1, o2'.ty M.T, M.self.1, o, n, B, _, rfl, o2, .inl ⟨o', n', B', rfl, o2', M.self.2, _, rfl, by
    rw [Bool.bne_false] at hp
    exact out.now s0 hp (.bl _)⟩⟩
theorem od_neO {w : Dr} (M : OrdI X.prog X.w X.K X.mg X.base CO) (hr : Room 2 X.A) : OpD X w (compareOp .NotEq) (oEqO true) := by
  obtain ⟨ps, E⟩ := M.eq
  intro pins s σ H x y v u Q I rx ry ⟨Hs, N, a, b, P, s0, m, ha, hb, ⟨n, n', B, B', ea, eb, lB, lB', hp⟩, out⟩
  subst ea eb
  obtain ⟨o, dx, fs, rfl, o1, o2⟩ := ordAt_of s0 M.m lB (ha.dv fun _ z => by cases z)
  obtain ⟨o', dx', fs', rfl, o1', o2'⟩ := ordAt_of s0 M.m lB' (hb.dv fun _ z => by cases z)
  exact Cmq.opNe E hr pins s σ H _ _ v u Q I rx ry ⟨o, dx, fs, .ref CO, rfl, o1, o2'.ty M.T, M.self.1, o, n, B, _, rfl, o2, .inl ⟨o', n', B', rfl, o2', M.self.2, _, rfl, by
    rw [Bool.bne_true] at hp
    exact out.now s0 hp (.bl _)⟩⟩
/-- isinstance(x, Order), x an order -/
def eIsO (f : ED) : ED := fun env N Q => f env N fun r N1 => ∃ (n : Nat) (B : List Nat), r = ordD n B ∧ B.length ≤ 12 ∧ Q (.bl true) N1
theorem pd_isO {f : ED} {p2 : Pos} (M : OrdI X.prog X.w X.K X.mg X.base CO) (hg : Gl X "isinstance") (hm : X.mg "isinstance" = none) (h : PEb X C e f) (hgO : Gl X "Order" := by rfl)
    (hs : starEach [e, .Name "Order" p2] X.env = (false, eval e X.env) :: starEach [.Name "Order" p2] X.env := by rfl) (hs2 : starEach [.Name "Order" p2] X.env = (false, eval (.Name "Order" p2) X.env) :: starEach [] X.env := by rfl)
    (hpl : (backTo pos (starEach [.Name "Order" p2] X.env)).any (·.1) = false := by rfl) : PEd X C (.Call (.Name "isinstance" p) [e, .Name "Order" p2] [] pos) (eIsO f) :=
  ⟨PE.imp (pe_callB call_isi hg hm (by decide +kernel) (pa_cons h.pe (pa_cons (pe_glob (v := .ref CO) hgO M.m rfl (by decide)) pa_nil hs2) hs) (by decide) (by decide) hs hpl) fun σ H Q ⟨env, Hs, N, R, r, hf, k⟩ => ⟨env, Hs, N, _, r, hf, fun y N1 ⟨n, B, ey, lB, h1⟩ v H1 Hs1 g1 m1 d1 => by
    subst ey
    obtain ⟨o, dx, fs, rfl, o1, o2⟩ := ordAt_of g1.sub M.m lB (d1.dv fun _ z => by cases z)
    exact ⟨.ref o, .ref CO, _, _, true, rfl, .own CO, o2.ty M.T, M.self.2, k _ _ h1 _ _ _ g1 m1 (.bl _)⟩⟩⟩
end
theorem fo_of {K : PySem.W.Frag} {mg : Str → Option Value} {C : Addr} {f : Str} (T : OrdC K C) (hm : mg "Order" = some (.ref C)) (n : NoAttr K C f) : FldOk K mg "Order" f := fun D hD => by
  rw [hm] at hD
  cases hD
  exact ⟨T.cl, n⟩
end Bb
namespace Bb
open PySem PySem.Spec PyProof.Rows L2 Pd
section
variable {P : Program} {w : World} {K : PySem.W.Frag} {mg : Str → Option Value} {base : Heap}
/-- whether it is an int between two -/
def wholeD (v : D) (lo hi : Int) : Bool := match v with | .int i => decide (lo ≤ i) && decide (i ≤ hi) | _ => false
def FIsWhole : FD := fun ds N Q => ∃ (v : D) (lo hi : Int), ds = [v, .int lo, .int hi] ∧ v.tyN.isSome = true ∧ Q (.bl (wholeD v lo hi)) N
abbrev sdIsWhole : Stmt := top 1
theorem scdIsWhole : FnScope ["value", "low", "high"] ["value", "low", "high"] (defScope sdIsWhole) := ⟨rfl, rfl, rfl, by decide +kernel, rfl, by decide +kernel, by decide +kernel⟩
theorem okd_is_whole {T : LTabs} {f : Addr} {fd : FuncData} (Fu : Fun K "is_whole" "is_whole" sdIsWhole f fd) (B : Bts mg) :
    Rd.FnOkG P w K mg base CX0 1 f fd ["value", "low", "high"] (spD T K mg 3 FIsWhole) := by
  refine okD Fu scdIsWhole fun cdv A outer s H E C hT hG hr => ?_
  subst hT
  refine ⟨_, 
    (pssd_cons (psd_if (PWd.ptd (pwd_or (ptd_not (ptd_val (pd_isi (U := "int") (by decide) (by rfl) B.isinstance (by rfl) B.int (by decide +kernel) (PEd.pb (pd_var 0))))) (pwd_or1 (ptd_val (pd_isi (U := "bool") (by decide) (by rfl) B.isinstance (by rfl) B.bool (by decide +kernel) (PEd.pb (pd_var 0))))))) 
      (pssd_one (psd_ret pd_bl)) pssd_nil)
    (pssd_one (psd_ret (pd_chain od_le od_le (PEd.pb (pd_var 1)) (PEd.pb (pd_var 0)) (PEd.pb (pd_var 2)))))), fun ds M R hl h => ?_⟩
  obtain ⟨v, lo, hi, rfl, hv, h⟩ := h
  walk_at "pd"
  cases v <;> (first | (simp [D.tyN] at hv; done) | skip)
  all_goals (simp [wholeD] at h ⊢; try exact h)
  split <;> simp_all
end
end Bb
namespace Bb
open PySem PySem.Spec PyProof.Rows L2 Pd Tmm
section
variable {P : Program} {w : World} {K : PySem.W.Frag} {mg : Str → Option Value} {base : Heap}
theorem told_R (B : List Nat) : told B = toldR B.length fun a b => (B.getD a 0).testBit b := rfl
theorem put_get {B : List Nat} {a b t : Nat} (ht : t < B.length) : (put B a b).getD t 0 = putAt B a b t := by
  unfold put
  rw [List.getD_eq_getElem?_getD, List.getElem?_map, List.getElem?_range ht]
  rfl
theorem put_bit {B : List Nat} {a b t c : Nat} (ht : t < B.length) : ((put B a b).getD t 0).testBit c = ((B.getD t 0).testBit c || ((decide (t = a) || (B.getD t 0).testBit a) && ((B.getD b 0).testBit c || decide (b = c)))) := by
  rw [put_get ht]
  unfold putAt
  split
  · rename_i h
    rw [h, Bool.true_and, Nat.testBit_or, Nat.testBit_or, Nat.testBit_two_pow]
  · rename_i h
    rw [Bool.eq_false_iff.mpr h, Bool.false_and, Bool.or_false]
/-- the bits tell no more than the relation -/
def Snd (n : Nat) (R : Nat → Nat → Bool) (B : List Nat) : Prop := B.length = n ∧ ∀ t c, t < n → (B.getD t 0).testBit c = true → R t c = true
theorem putAll_R {n : Nat} {R : Nat → Nat → Bool} (tr : ∀ {x y z}, R x y = true → R y z = true → R x z = true) (ir : ∀ x, R x x = false) : ∀ (ps : List (Nat × Nat)) (B : List Nat), (∀ p ∈ ps, p.1 < n ∧ p.2 < n ∧ R p.1 p.2 = true) → Snd n R B →
    GoodP n B ps ∧ Snd n R (putAll B ps) ∧ (∀ t c, t < n → (B.getD t 0).testBit c = true → ((putAll B ps).getD t 0).testBit c = true) ∧ ∀ p ∈ ps, ((putAll B ps).getD p.1 0).testBit p.2 = true
  | [], B, _, hB => ⟨trivial, hB, fun _ _ _ h => h, fun p hp => by cases hp⟩
  | p :: ps, B, hp, hB => by
    obtain ⟨h1, h2, h3⟩ := hp p (by simp)
    have hS : Snd n R (put B p.1 p.2) := by
      refine ⟨by rw [put_len]; exact hB.1, fun t c ht h => ?_⟩
      rw [put_bit (by rw [hB.1]; exact ht)] at h
      simp only [Bool.or_eq_true, Bool.and_eq_true, decide_eq_true_eq] at h
      rcases h with h | ⟨h, h'⟩
      · exact hB.2 t c ht h
      · have a1 : R t p.2 = true := by
          rcases h with e | h
          · rw [e]; exact h3
          · exact tr (hB.2 t _ ht h) h3
        rcases h' with h' | e
        · exact tr a1 (hB.2 _ _ h2 h')
        · rw [← e]; exact a1
    obtain ⟨g1, g2, g3, g4⟩ := putAll_R (R := R) (fun h h' => tr h h') ir ps (put B p.1 p.2) (fun q hq => hp q (by simp [hq])) hS
    have up : ∀ t c, t < n → (B.getD t 0).testBit c = true → ((put B p.1 p.2).getD t 0).testBit c = true := fun t c ht h => by
      rw [put_bit (by rw [hB.1]; exact ht), h, Bool.true_or]
    refine ⟨⟨h1, h2, fun e => ?_, ?_, g1⟩, g2, fun t c ht h => g3 t c ht (up t c ht h), fun q hq => ?_⟩
    · rw [e, ir] at h3; cases h3
    · cases e : (B.getD p.2 0).testBit p.1 with
      | false => rfl
      | true =>
        have := tr h3 (hB.2 _ _ h2 e)
        rw [ir] at this
        cases this
    · rcases List.mem_cons.mp hq with e | hq
      · subst e
        refine g3 _ _ h1 ?_
        rw [put_bit (by rw [hB.1]; exact h1)]
        simp
      · exact g4 q hq
theorem snd_zero (n : Nat) (R : Nat → Nat → Bool) : Snd n R (List.replicate n 0) := ⟨List.length_replicate, fun t c ht h => by
  rw [List.getD_eq_getElem?_getD, List.getElem?_replicate, if_pos ht] at h
  simp at h⟩
/-- pairs that tell a whole relation make its order -/
theorem ord_R {n : Nat} {R : Nat → Nat → Bool} {ps : List (Nat × Nat)} (tr : ∀ {x y z}, R x y = true → R y z = true → R x z = true) (ir : ∀ x, R x x = false) (hp : ∀ p ∈ ps, p.1 < n ∧ p.2 < n ∧ R p.1 p.2 = true) (all : ∀ a b, R a b = true → (a, b) ∈ ps) :
    GoodP n (List.replicate n 0) ps ∧ (putAll (List.replicate n 0) ps).length = n ∧ told (putAll (List.replicate n 0) ps) = toldR n R := by
  obtain ⟨g1, g2, g3, g4⟩ := putAll_R (R := R) (fun h h' => tr h h') ir ps (List.replicate n 0) hp (snd_zero n R)
  refine ⟨g1, g2.1, ?_⟩
  rw [told_R, g2.1]
  refine toldR_congr fun a b ha hb => ?_
  rw [Bool.eq_iff_iff]
  exact ⟨fun h => g2.2 a b ha h, fun h => g4 (a, b) (all a b h)⟩
end
end Bb
namespace Bb
open PySem PySem.Spec PyProof.Rows L2 Pd
/-- the error classes, their fields -/
def exFls : List (Str × Str) := [("BadPairs", "place"), ("BadTerm", "value"), ("BadNumber", "value"), ("BadExchange", "place"), ("NoTerm", "four"), ("Lacks", "pair"), ("TooGreat", "most")]
def exNames : List Str := ["BadPairs", "BadTerm", "BadNumber", "BadExchange", "NoTerm", "OtherTasks", "Lacks", "TooGreat"]
abbrev exTb : Str → Str → Option Bool := exTab exNames exNames ["ValueError"]
def exFl (c f : Str) : Bool := exFls.contains (c, f)
def hitB (c : Str) : Bool := exNames.contains c
theorem tb_BadPairs_BadPairs : exTb (Str.ofString "BadPairs") (Str.ofString "BadPairs") = some true := by decide +kernel
theorem tb_BadPairs_BadTerm : exTb (Str.ofString "BadPairs") (Str.ofString "BadTerm") = some false := by decide +kernel
theorem tb_BadPairs_BadNumber : exTb (Str.ofString "BadPairs") (Str.ofString "BadNumber") = some false := by decide +kernel
theorem tb_BadPairs_BadExchange : exTb (Str.ofString "BadPairs") (Str.ofString "BadExchange") = some false := by decide +kernel
theorem tb_BadPairs_NoTerm : exTb (Str.ofString "BadPairs") (Str.ofString "NoTerm") = some false := by decide +kernel
theorem tb_BadPairs_OtherTasks : exTb (Str.ofString "BadPairs") (Str.ofString "OtherTasks") = some false := by decide +kernel
theorem tb_BadPairs_Lacks : exTb (Str.ofString "BadPairs") (Str.ofString "Lacks") = some false := by decide +kernel
theorem tb_BadPairs_TooGreat : exTb (Str.ofString "BadPairs") (Str.ofString "TooGreat") = some false := by decide +kernel
theorem tb_BadPairs_ValueError : exTb (Str.ofString "BadPairs") (Str.ofString "ValueError") = some true := by decide +kernel
theorem tb_BadTerm_BadPairs : exTb (Str.ofString "BadTerm") (Str.ofString "BadPairs") = some false := by decide +kernel
theorem tb_BadTerm_BadTerm : exTb (Str.ofString "BadTerm") (Str.ofString "BadTerm") = some true := by decide +kernel
theorem tb_BadTerm_BadNumber : exTb (Str.ofString "BadTerm") (Str.ofString "BadNumber") = some false := by decide +kernel
theorem tb_BadTerm_BadExchange : exTb (Str.ofString "BadTerm") (Str.ofString "BadExchange") = some false := by decide +kernel
theorem tb_BadTerm_NoTerm : exTb (Str.ofString "BadTerm") (Str.ofString "NoTerm") = some false := by decide +kernel
theorem tb_BadTerm_OtherTasks : exTb (Str.ofString "BadTerm") (Str.ofString "OtherTasks") = some false := by decide +kernel
theorem tb_BadTerm_Lacks : exTb (Str.ofString "BadTerm") (Str.ofString "Lacks") = some false := by decide +kernel
theorem tb_BadTerm_TooGreat : exTb (Str.ofString "BadTerm") (Str.ofString "TooGreat") = some false := by decide +kernel
theorem tb_BadTerm_ValueError : exTb (Str.ofString "BadTerm") (Str.ofString "ValueError") = some true := by decide +kernel
theorem tb_BadNumber_BadPairs : exTb (Str.ofString "BadNumber") (Str.ofString "BadPairs") = some false := by decide +kernel
theorem tb_BadNumber_BadTerm : exTb (Str.ofString "BadNumber") (Str.ofString "BadTerm") = some false := by decide +kernel
theorem tb_BadNumber_BadNumber : exTb (Str.ofString "BadNumber") (Str.ofString "BadNumber") = some true := by decide +kernel
theorem tb_BadNumber_BadExchange : exTb (Str.ofString "BadNumber") (Str.ofString "BadExchange") = some false := by decide +kernel
theorem tb_BadNumber_NoTerm : exTb (Str.ofString "BadNumber") (Str.ofString "NoTerm") = some false := by decide +kernel
theorem tb_BadNumber_OtherTasks : exTb (Str.ofString "BadNumber") (Str.ofString "OtherTasks") = some false := by decide +kernel
theorem tb_BadNumber_Lacks : exTb (Str.ofString "BadNumber") (Str.ofString "Lacks") = some false := by decide +kernel
theorem tb_BadNumber_TooGreat : exTb (Str.ofString "BadNumber") (Str.ofString "TooGreat") = some false := by decide +kernel
theorem tb_BadNumber_ValueError : exTb (Str.ofString "BadNumber") (Str.ofString "ValueError") = some true := by decide +kernel
theorem tb_BadExchange_BadPairs : exTb (Str.ofString "BadExchange") (Str.ofString "BadPairs") = some false := by decide +kernel
theorem tb_BadExchange_BadTerm : exTb (Str.ofString "BadExchange") (Str.ofString "BadTerm") = some false := by decide +kernel
theorem tb_BadExchange_BadNumber : exTb (Str.ofString "BadExchange") (Str.ofString "BadNumber") = some false := by decide +kernel
theorem tb_BadExchange_BadExchange : exTb (Str.ofString "BadExchange") (Str.ofString "BadExchange") = some true := by decide +kernel
theorem tb_BadExchange_NoTerm : exTb (Str.ofString "BadExchange") (Str.ofString "NoTerm") = some false := by decide +kernel
theorem tb_BadExchange_OtherTasks : exTb (Str.ofString "BadExchange") (Str.ofString "OtherTasks") = some false := by decide +kernel
theorem tb_BadExchange_Lacks : exTb (Str.ofString "BadExchange") (Str.ofString "Lacks") = some false := by decide +kernel
theorem tb_BadExchange_TooGreat : exTb (Str.ofString "BadExchange") (Str.ofString "TooGreat") = some false := by decide +kernel
theorem tb_BadExchange_ValueError : exTb (Str.ofString "BadExchange") (Str.ofString "ValueError") = some true := by decide +kernel
theorem tb_NoTerm_BadPairs : exTb (Str.ofString "NoTerm") (Str.ofString "BadPairs") = some false := by decide +kernel
theorem tb_NoTerm_BadTerm : exTb (Str.ofString "NoTerm") (Str.ofString "BadTerm") = some false := by decide +kernel
theorem tb_NoTerm_BadNumber : exTb (Str.ofString "NoTerm") (Str.ofString "BadNumber") = some false := by decide +kernel
theorem tb_NoTerm_BadExchange : exTb (Str.ofString "NoTerm") (Str.ofString "BadExchange") = some false := by decide +kernel
theorem tb_NoTerm_NoTerm : exTb (Str.ofString "NoTerm") (Str.ofString "NoTerm") = some true := by decide +kernel
theorem tb_NoTerm_OtherTasks : exTb (Str.ofString "NoTerm") (Str.ofString "OtherTasks") = some false := by decide +kernel
theorem tb_NoTerm_Lacks : exTb (Str.ofString "NoTerm") (Str.ofString "Lacks") = some false := by decide +kernel
theorem tb_NoTerm_TooGreat : exTb (Str.ofString "NoTerm") (Str.ofString "TooGreat") = some false := by decide +kernel
theorem tb_NoTerm_ValueError : exTb (Str.ofString "NoTerm") (Str.ofString "ValueError") = some true := by decide +kernel
theorem tb_OtherTasks_BadPairs : exTb (Str.ofString "OtherTasks") (Str.ofString "BadPairs") = some false := by decide +kernel
theorem tb_OtherTasks_BadTerm : exTb (Str.ofString "OtherTasks") (Str.ofString "BadTerm") = some false := by decide +kernel
theorem tb_OtherTasks_BadNumber : exTb (Str.ofString "OtherTasks") (Str.ofString "BadNumber") = some false := by decide +kernel
theorem tb_OtherTasks_BadExchange : exTb (Str.ofString "OtherTasks") (Str.ofString "BadExchange") = some false := by decide +kernel
theorem tb_OtherTasks_NoTerm : exTb (Str.ofString "OtherTasks") (Str.ofString "NoTerm") = some false := by decide +kernel
theorem tb_OtherTasks_OtherTasks : exTb (Str.ofString "OtherTasks") (Str.ofString "OtherTasks") = some true := by decide +kernel
theorem tb_OtherTasks_Lacks : exTb (Str.ofString "OtherTasks") (Str.ofString "Lacks") = some false := by decide +kernel
theorem tb_OtherTasks_TooGreat : exTb (Str.ofString "OtherTasks") (Str.ofString "TooGreat") = some false := by decide +kernel
theorem tb_OtherTasks_ValueError : exTb (Str.ofString "OtherTasks") (Str.ofString "ValueError") = some true := by decide +kernel
theorem tb_Lacks_BadPairs : exTb (Str.ofString "Lacks") (Str.ofString "BadPairs") = some false := by decide +kernel
theorem tb_Lacks_BadTerm : exTb (Str.ofString "Lacks") (Str.ofString "BadTerm") = some false := by decide +kernel
theorem tb_Lacks_BadNumber : exTb (Str.ofString "Lacks") (Str.ofString "BadNumber") = some false := by decide +kernel
theorem tb_Lacks_BadExchange : exTb (Str.ofString "Lacks") (Str.ofString "BadExchange") = some false := by decide +kernel
theorem tb_Lacks_NoTerm : exTb (Str.ofString "Lacks") (Str.ofString "NoTerm") = some false := by decide +kernel
theorem tb_Lacks_OtherTasks : exTb (Str.ofString "Lacks") (Str.ofString "OtherTasks") = some false := by decide +kernel
theorem tb_Lacks_Lacks : exTb (Str.ofString "Lacks") (Str.ofString "Lacks") = some true := by decide +kernel
theorem tb_Lacks_TooGreat : exTb (Str.ofString "Lacks") (Str.ofString "TooGreat") = some false := by decide +kernel
theorem tb_Lacks_ValueError : exTb (Str.ofString "Lacks") (Str.ofString "ValueError") = some true := by decide +kernel
theorem tb_TooGreat_BadPairs : exTb (Str.ofString "TooGreat") (Str.ofString "BadPairs") = some false := by decide +kernel
theorem tb_TooGreat_BadTerm : exTb (Str.ofString "TooGreat") (Str.ofString "BadTerm") = some false := by decide +kernel
theorem tb_TooGreat_BadNumber : exTb (Str.ofString "TooGreat") (Str.ofString "BadNumber") = some false := by decide +kernel
theorem tb_TooGreat_BadExchange : exTb (Str.ofString "TooGreat") (Str.ofString "BadExchange") = some false := by decide +kernel
theorem tb_TooGreat_NoTerm : exTb (Str.ofString "TooGreat") (Str.ofString "NoTerm") = some false := by decide +kernel
theorem tb_TooGreat_OtherTasks : exTb (Str.ofString "TooGreat") (Str.ofString "OtherTasks") = some false := by decide +kernel
theorem tb_TooGreat_Lacks : exTb (Str.ofString "TooGreat") (Str.ofString "Lacks") = some false := by decide +kernel
theorem tb_TooGreat_TooGreat : exTb (Str.ofString "TooGreat") (Str.ofString "TooGreat") = some true := by decide +kernel
theorem tb_TooGreat_ValueError : exTb (Str.ofString "TooGreat") (Str.ofString "ValueError") = some false := by decide +kernel
theorem fl_BadPairs : exFl (Str.ofString "BadPairs") (Str.ofString "place") = true := by decide +kernel
theorem fl_BadTerm : exFl (Str.ofString "BadTerm") (Str.ofString "value") = true := by decide +kernel
theorem fl_BadNumber : exFl (Str.ofString "BadNumber") (Str.ofString "value") = true := by decide +kernel
theorem fl_BadExchange : exFl (Str.ofString "BadExchange") (Str.ofString "place") = true := by decide +kernel
theorem fl_NoTerm : exFl (Str.ofString "NoTerm") (Str.ofString "four") = true := by decide +kernel
theorem fl_Lacks : exFl (Str.ofString "Lacks") (Str.ofString "pair") = true := by decide +kernel
theorem fl_TooGreat : exFl (Str.ofString "TooGreat") (Str.ofString "most") = true := by decide +kernel
end Bb
namespace Bb
open PySem PySem.Spec PyProof.Rows L2 Pd Tmm
section
variable {P : Program} {w : World} {K : PySem.W.Frag} {mg : Str → Option Value} {base : Heap}
def FRow : FD := fun ds N Q => ∃ n : Nat, ds = [.drw, nD n] ∧ n ≤ 150 ∧ N + n < 1000000 ∧ ∀ xs : List Nat, xs.Perm (List.range n) → Q (nsD xs) (N + n)
abbrev sdLRow : Stmt := top 26
theorem scdLRow : FnScope ["m", "many", "rest", "found"] ["m", "many"] (defScope sdLRow) := ⟨rfl, rfl, rfl, by decide +kernel, rfl, by decide +kernel, by decide +kernel⟩
theorem okd__law_row {T : LTabs} {f : Addr} {fd : FuncData} (Fu : Fun K "_law_row" "_law_row" sdLRow f fd) (B : Bts mg) (c__law_draw : CalleeD T P w K mg base 2 "_law_draw" ["m", "limit"] FDraw) :
    Rd.FnOkG P w K mg base CX0 3 f fd ["m", "many"] (spD T K mg 2 FRow) := by
  refine okD Fu scdLRow fun cdv A outer s H E C hT hG hr => ?_
  subst hT
  refine ⟨_, 
    (pssd_cons (psd_par (i := 2) (j := 3) rfl scdLRow.nd rfl rfl (by decide) rfl rfl (pmd_ow (pf_listRg1 rfl rfl B.list rfl B.range (PEd.pb (pd_var 1))) (pmd_ow (pf_lst pad_nil) pmd_nil)) (by rfl))
    (pssd_cons (psd_while PassesOwn.never (ptd_cmp (od_ne (Rd.hu64 hr)) (pd_varB 2) (PEd.pb (PEf.pd (pf_lst pad_nil))) (nomark _)) 
      (pssd_one (psd_appPop 3 2 (by decide) (pd_call c__law_draw hG (hr.mono (by omega)) (pad_cons (pd_var 0) (pad_cons (pd_callB cd_len (by rfl) B.len (by decide +kernel) (pab_cons (pd_varB 2) pab_nil)) pad_nil))))))
    (pssd_one (psd_retV 3)))), fun ds M R hl h => ?_⟩
  obtain ⟨n, rfl, hn, hN, h⟩ := h
  walk_at "pd"
  refine ⟨⟨by omega, by omega⟩, fun m env N' => ∃ rs fs : List Nat, env = [.sh .drw, .sh (nD n), .ow (rs.map nD), .ow (fs.map nD)] ∧ m = rs.length ∧ N' = M + fs.length ∧ (fs ++ rs).Perm (List.range n), ⟨n, List.range n, [], by simp [nD], by simp, by simp, by simp⟩, ?_⟩
  rintro m env N' ⟨rs, fs, rfl, rfl, rfl, hp⟩
  have hl := hp.length_eq
  rw [List.length_append, List.length_range] at hl
  walk_at "pd"
  refine oEq_nilR (gk_ns rs) (by omega) ?_
  cases rs with
  | nil =>
    simp only [List.length_nil, Nat.add_zero, List.append_nil] at hl hp
    have := h fs hp
    simpa [hl] using this
  | cons r rs =>
    simp only [List.map_cons, List.isEmpty_cons, Bool.false_bne, if_true]
    simp only [List.length_cons] at hl
    refine ⟨_, rfl, by omega, ⟨by (try simp) <;> omega, by (try simp) <;> omega⟩, fun k h0 h1 => ?_⟩
    simp only [List.length_cons, List.length_map] at h1 ⊢
    rw [ixN_int h0 (by omega)]
    have hk : k.toNat < (r :: rs).length := by (try simp) <;> omega
    have hg : (r :: rs)[k.toNat]? = some (r :: rs)[k.toNat] := List.getElem?_eq_getElem hk
    generalize (r :: rs)[k.toNat] = x at hg
    have e1 : (nD r :: List.map nD rs)[k.toNat]? = some (nD x) := by rw [← List.map_cons, List.getElem?_map, hg]; rfl
    have pe := eraseIdx_perm hg
    simp only [e1]
    refine ⟨⟨by (try simp) <;> omega, by (try simp) <;> omega⟩, _, ?_, (r :: rs).eraseIdx k.toNat, fs ++ [x], ?_, rfl, by (try simp) <;> omega, ?_⟩
    · have := pe.length_eq
      simp only [List.length_cons] at this
      (try simp only [List.length_cons]) <;> omega
    · rw [← List.map_cons, map_eraseIdx, List.map_append]
      rfl
    · rw [List.append_assoc]
      exact (List.Perm.append_left fs pe).trans hp
end
end Bb
namespace Bb
open PySem PySem.Spec PyProof.Rows L2 Pd Tmm
section
variable {P : Program} {w : World} {K : PySem.W.Frag} {mg : Str → Option Value} {base : Heap}
def FClosed : FD := fun ds N Q => ∃ (n : Nat) (ps : List (Nat × Nat)), ds = [nD n, prsD ps] ∧ n ≤ 12 ∧ (∀ p ∈ ps, p.1 < n ∧ p.2 < n) ∧ ∀ fs, Clo n ps n [] fs → Q (nssD fs) N
abbrev sdLClosed : Stmt := top 27
theorem scdLClosed : FnScope ["many", "pairs", "found", "task", "again", "one", "other"] ["many", "pairs"] (defScope sdLClosed) := ⟨rfl, rfl, rfl, by decide +kernel, rfl, by decide +kernel, by decide +kernel⟩
theorem okd__law_closed {T : LTabs} {f : Addr} {fd : FuncData} (Fu : Fun K "_law_closed" "_law_closed" sdLClosed f fd) (B : Bts mg) :
    Rd.FnOkG P w K mg base CX0 1 f fd ["many", "pairs"] (spD T K mg 2 FClosed) := by
  refine okD Fu scdLClosed fun cdv A outer s H E C hT hG hr => ?_
  subst hT
  refine ⟨_, 
    (pssd_cons (psd_setLcO (i := 2) (own := [("task", 3)]) rfl scdLClosed.nd rfl rfl (sw_true rfl rfl rfl (by decide +kernel)) (PId.pib (pid_range1 (by rfl) B.range (PEd.pb (pd_var 0)))) (blkOk_by (own := [("task", 3)]) (N := ["many", "pairs", "found", "task", "again", "one", "other"]) (sc := defScope sdLClosed) (by decide +kernel)) (fun _ _ _ _ _ => (pgd_name 3 scdLClosed.nd rfl (Or.inl rfl) (by decide))) (fun _ _ _ _ _ => ptsd_nil) (fun _ _ _ _ _ => (PEf.pd (pf_lst pad_nil))))
    (pssd_cons (psd_for (ws := [4]) PassesOwn.never rfl (pid_range1 (by rfl) B.range (PEd.pb (pd_var 0))) (pgd_name 4 scdLClosed.nd rfl (Or.inl rfl) (by decide)) 
      (pssd_one (psd_for (ws := [5, 6]) PassesOwn.never rfl (pid_seq (pd_var 1)) (pgd_tup (n := 2) rfl (pgsd_cons (pgd_name 5 scdLClosed.nd rfl (Or.inl rfl) (by decide)) (pgsd_cons (pgd_name 6 scdLClosed.nd rfl (Or.inl rfl) (by decide)) pgsd_nil))) 
        (pssd_one (psd_setIx 2 (PEf.pd (pf_sortSetI rfl (by rfl) B.sorted (by rfl) B.set (PEd.pb (pd_op od_add (PEd.pb (pd_op od_add (PEd.pb (pd_ix (pd_varB 2) (PEd.pb (pd_var 6)))) (PEd.pb (pd_ix (pd_varB 2) (PEd.pb (pd_var 5)))))) (PEd.pb (PEf.pd (pf_lst (pad_cons (pd_var 5) pad_nil)))))))) (pd_var 6))))))
    (pssd_one (psd_retV 2)))), fun ds M R hl h => ?_⟩
  obtain ⟨n, ps, rfl, hn, hp, h⟩ := h
  walk_at "pd"
  refine ⟨by omega, by omega, ?_⟩
  simp only [Int.toNat_natCast]
  refine lcD_mapM _ (fun _ => nsD []) _ _ _ _ (by simp only [List.length_range, List.length_nil]; omega) (fun k hk N Q q => ?_) ?_
  · walk_at "pd"
    exact q
  · have e0 : List.map (fun _ => nsD []) (List.range n) = (List.replicate n ([] : List Nat)).map nsD := by
      rw [List.map_replicate]
      rw [List.map_const', List.length_range]
    rw [List.nil_append, e0]
    try walk_at "pd"
    refine ⟨by omega, by omega, ?_⟩
    try simp only [Int.toNat_natCast]
    refine loop_inv (fun rest env N => N = M ∧ rest.length ≤ n ∧ ∃ (fs : List (List Nat)) (u4 u5 u6 : Sl), env = [.sh (nD n), .sh (prsD ps), .ow (fs.map nsD), .no, u4, u5, u6] ∧ Clo n ps (n - rest.length) [] fs) ?_ ?_ _ _ _ ⟨rfl, by simp only [List.length_map, List.length_range]; omega, List.replicate n [], .no, .no, .no, rfl, by simp only [List.length_map, List.length_range, Nat.sub_self]; exact Clo.start⟩
    · rintro x rest env N R' ⟨rfl, hr, fs, u4, u5, u6, rfl, hc⟩ hnx hct hrt hbk
      clear hct hrt hbk
      simp only [List.length_cons] at hr hc
      walk_at "pd"
      refine loop_map (fun ps1 ps2 env N' => N' = N ∧ ∃ (fs : List (List Nat)) (u5 u6 : Sl), env = [.sh (nD n), .sh (prsD ps), .ow (fs.map nsD), .no, .sh x, u5, u6] ∧ Clo n ps (n - (rest.length + 1)) ps1 fs) ?_ ?_ ⟨rfl, fs, u5, u6, rfl, hc⟩
      · rintro ⟨a, b⟩ ps1 ps2 env N' R2 e ⟨rfl, fs, u5, u6, rfl, hc⟩ hnx hct hrt
        clear hct hrt
        have hab : (a, b) ∈ ps := by rw [← e]; exact List.mem_append_right _ List.mem_cons_self
        obtain ⟨ha, hb⟩ := hp _ hab
        simp only at ha hb
        have hfl := hc.len
        obtain ⟨fa, ea⟩ : ∃ f, fs[a]? = some f := ⟨fs[a], List.getElem?_eq_getElem (by omega)⟩
        obtain ⟨fb, eb⟩ : ∃ f, fs[b]? = some f := ⟨fs[b], List.getElem?_eq_getElem (by omega)⟩
        have ga : atI (fs.map nsD) (a : Int) = some (nsD fa) := by rw [atI_nat', List.getElem?_map, ea]; rfl
        have gb : atI (fs.map nsD) (b : Int) = some (nsD fb) := by rw [atI_nat', List.getElem?_map, eb]; rfl
        have few : ∀ (k : Nat) (f : List Nat), fs[k]? = some f → f.length ≤ 12 := fun k f hf => by
          have h1 := hc.asc f (List.mem_of_getElem? hf)
          have := asc_few (n := n) f 0 (fun c hc' => ⟨by omega, ((hc.sound k f hf c hc').ends hp).1⟩) h1 (by omega)
          omega
        have la := few a fa ea
        have lb := few b fb eb
        walk_at "pd"
        simp only [ga, gb]
        try walk_at "pd"
        have e1 : List.map nD fb ++ List.map nD fa ++ [nD a] = (fb ++ fa ++ [a]).map nD := by simp only [List.map_append, List.map_cons, List.map_nil]
        rw [e1, intsOf_ns]
        simp only [List.length_append, List.length_map, List.length_cons, List.length_nil]
        refine ⟨by omega, by omega, by omega, fun ns hns hmem => ?_⟩
        obtain ⟨g, rfl⟩ := nats_of (ks := ns) fun z hz => by
          obtain ⟨j, _, rfl⟩ := List.mem_map.mp ((hmem z).mp hz)
          omega
        have hg : g.Pairwise (· < ·) := (List.pairwise_map.mp hns).imp fun {a b} h => by omega
        have hgm : ∀ y, y ∈ g ↔ y ∈ fb ∨ y ∈ fa ∨ y = a := fun y => by
          have h1 : y ∈ g ↔ (y : Int) ∈ g.map fun n => ((n : Nat) : Int) := by
            rw [List.mem_map]
            exact ⟨fun h => ⟨y, h, rfl⟩, fun ⟨z, hz, e⟩ => by
              have : z = y := by omega
              exact this ▸ hz⟩
          rw [h1, hmem, List.mem_map]
          constructor
          · rintro ⟨z, hz, e⟩
            have : z = y := by omega
            subst this
            simp only [List.mem_append, List.mem_singleton] at hz
            rcases hz with (h | h) | h
            · exact .inl h
            · exact .inr (.inl h)
            · exact .inr (.inr h)
          · intro h
            refine ⟨y, ?_, rfl⟩
            simp only [List.mem_append, List.mem_singleton]
            rcases h with h | h | h
            · exact .inl (.inl h)
            · exact .inl (.inr h)
            · exact .inr h
        rw [ixN_nat' (by omega)]
        refine hnx _ _ ⟨rfl, fs.set b g, .sh (nD a), .sh (nD b), ?_, hc.put hab ea eb hg hgm⟩
        rw [List.map_set, ← map_int]
      · rintro env N' ⟨rfl, fs, u5, u6, rfl, hc⟩
        refine hnx _ _ ⟨rfl, by omega, fs, _, u5, u6, rfl, ?_⟩
        have := hc.next
        rw [show n - (rest.length + 1) + 1 = n - rest.length by omega] at this
        exact this
    · rintro env N ⟨rfl, hr, fs, u4, u5, u6, rfl, hc⟩
      simp only [List.length_nil, Nat.sub_zero] at hc
      exact h fs hc
end
end Bb
namespace Bb
open PySem PySem.Spec PyProof.Rows L2 Pd Tmm
section
variable {P : Program} {w : World} {K : PySem.W.Frag} {mg : Str → Option Value} {base : Heap}
def FListed : FD := fun ds N Q => ∃ (bs : List (List Nat)), ds = [nssD bs] ∧ bs.length ≤ 12 ∧ (∀ b ∈ bs, b.length ≤ 12) ∧ Q (prsD (srtP (listP bs))) N
theorem enum_map (bs : List (List Nat)) : enumL (bs.map nsD) = bs.zipIdx.map fun q => D.tup [nD q.2, nsD q.1] := by
  unfold enumL
  rw [List.zipIdx_map, List.map_map]
  rfl
abbrev sdLListed : Stmt := top 29
theorem scdLListed : FnScope ["before", "found", "task", "ahead", "one"] ["before"] (defScope sdLListed) := ⟨rfl, rfl, rfl, by decide +kernel, rfl, by decide +kernel, by decide +kernel⟩
theorem okd__law_listed {T : LTabs} {f : Addr} {fd : FuncData} (Fu : Fun K "_law_listed" "_law_listed" sdLListed f fd) (B : Bts mg) :
    Rd.FnOkG P w K mg base CX0 1 f fd ["before"] (spD T K mg 1 FListed) := by
  refine okD Fu scdLListed fun cdv A outer s H E C hT hG hr => ?_
  subst hT
  refine ⟨_, 
    (pssd_cons (psd_set (i := 1) scdLListed.nd rfl (Or.inl rfl) (PEf.pd (pf_lst pad_nil)))
    (pssd_cons (psd_for (ws := [2, 3]) PassesOwn.never rfl (pid_enum (by rfl) B.enumerate (pd_var 0)) (pgd_tup (n := 2) rfl (pgsd_cons (pgd_name 2 scdLListed.nd rfl (Or.inr rfl) (by decide)) (pgsd_cons (pgd_name 3 scdLListed.nd rfl (Or.inl rfl) (by decide)) pgsd_nil))) 
      (pssd_one (psd_set (i := 1) scdLListed.nd rfl (Or.inl rfl) (pd_op od_add (PEd.pb (pd_var 1)) (PEd.pb (PEf.pd (pf_lc (own := [("one", 4)]) rfl scdLListed.nd (pib_seq (PEd.pb (pd_var 3))) (blkOk_by (own := [("one", 4)]) (N := ["before", "found", "task", "ahead", "one"]) (sc := defScope sdLListed) (by decide +kernel)) (fun _ _ _ _ _ => (pgd_name 4 scdLListed.nd rfl (Or.inl rfl) (by decide))) (fun _ _ _ _ _ => ptsd_nil) (fun _ _ _ _ _ => (pd_tup (pad_cons (pd_var 4) (pad_cons (pd_var 2) pad_nil)))))))))))
    (pssd_one (psd_ret (PEf.pd (pf_callB cf_sortP (by rfl) B.sorted (by decide +kernel) (pab_cons (PEd.pb (pd_var 1)) pab_nil))))))), fun ds M R hl h => ?_⟩
  obtain ⟨bs, rfl, hl, hb, h⟩ := h
  walk_at "pd"
  rw [enum_map]
  refine loop_map (fun q1 q2 env N => N = M ∧ ∃ (u2 u3 : Sl), env = [.sh (nssD bs), .sh (prsD (q1.flatMap fun q => q.1.map fun x => (x, q.2))), u2, u3, .no]) ?_ ?_ ⟨rfl, .no, .no, rfl⟩
  · rintro ⟨b, k⟩ q1 q2 env N R' e ⟨rfl, u2, u3, rfl⟩ hnx hct hrt
    clear hct hrt
    have hbm : b ∈ bs := by
      have : (b, k) ∈ bs.zipIdx := by rw [← e]; exact List.mem_append_right _ List.mem_cons_self
      exact List.mem_of_getElem? (List.mem_zipIdx_iff_getElem?.mp this)
    have hbl := hb b hbm
    have hq1 : (q1.flatMap fun q => q.1.map fun x => (x, q.2)).length ≤ 1000 := by
      have h1 : ∀ q ∈ q1, q.1.length ≤ 12 := fun q hq => by
        have : q ∈ bs.zipIdx := by rw [← e]; exact List.mem_append_left _ hq
        exact hb _ (List.mem_of_getElem? (List.mem_zipIdx_iff_getElem?.mp this))
      have h2 : q1.length ≤ 12 := by
        have := congrArg List.length e
        rw [List.length_append, List.length_zipIdx] at this
        omega
      clear e hbm
      have key : ∀ qs : List (List Nat × Nat), (∀ q ∈ qs, q.1.length ≤ 12) → (qs.flatMap fun q => q.1.map fun x => (x, q.2)).length ≤ 12 * qs.length := by
        intro qs
        induction qs with
        | nil => intro _; simp
        | cons q qs ih =>
          intro h
          have h1 := ih fun z hz => h z (List.mem_cons_of_mem _ hz)
          have h2 := h q List.mem_cons_self
          rw [List.flatMap_cons, List.length_append, List.length_map, List.length_cons]
          omega
      have := key q1 h1
      omega
    walk_at "pd"
    refine lcD_mapM nD (fun x => Pd.prD (x, k)) _ _ _ _ (by simp only [List.length_nil]; omega) (fun x hx N Q q => ?_) ?_
    · walk_at "pd"
      exact q
    · have e1 : List.map (fun x => Pd.prD (x, k)) b = (b.map fun x => (x, k)).map Pd.prD := by rw [List.map_map]; rfl
      rw [List.nil_append, e1]
      simp only [List.length_map, prsD]
      refine ⟨by omega, hnx _ _ ⟨rfl, .sh (nD k), .sh (nsD b), ?_⟩⟩
      rw [List.flatMap_append]
      simp only [List.flatMap_cons, List.flatMap_nil, List.append_nil, prsD, List.map_append]
  · rintro env N ⟨rfl, u2, u3, rfl⟩
    walk_at "pd"
    exact oSort_prs h
abbrev ordR (B : List Nat) : Nat → Nat → Bool := fun a b => (B.getD a 0).testBit b
theorem ord_RB {n : Nat} {R : Nat → Nat → Bool} {ps : List (Nat × Nat)} (h : OrdN n R) (hp : ∀ p ∈ ps, R p.1 p.2 = true) (all : ∀ a b, R a b = true → (a, b) ∈ ps) :
    GoodP n (List.replicate n 0) ps ∧ (putAll (List.replicate n 0) ps).length = n ∧ told (putAll (List.replicate n 0) ps) = toldR n R ∧ ordR (putAll (List.replicate n 0) ps) = R := by
  obtain ⟨g1, g2, g3, g4⟩ := putAll_R (R := R) (fun h1 h2 => h.o.trans h1 h2) h.o.irr ps (List.replicate n 0) (fun p hm => ⟨(h.lt (hp p hm)).1, (h.lt (hp p hm)).2, hp p hm⟩) (snd_zero n R)
  have e : ∀ a b, ((putAll (List.replicate n 0) ps).getD a 0).testBit b = R a b := fun a b => by
    by_cases ha : a < n
    · rw [Bool.eq_iff_iff]
      exact ⟨fun q => g2.2 a b ha q, fun q => g4 (a, b) (all a b q)⟩
    · rw [List.getD_eq_getElem?_getD, List.getElem?_eq_none (by rw [g2.1]; omega), Option.getD_none, Nat.zero_testBit]
      cases q : R a b with
      | false => rfl
      | true => exact absurd (h.lt q).1 ha
  refine ⟨g1, g2.1, ?_, ?_⟩
  · rw [told_R, g2.1]
    exact toldR_congr fun a b _ _ => e a b
  · funext a b
    exact e a b
/-- the order of a relation -/
def FMade : FD := fun ds N Q => ∃ (n : Nat) (R : Nat → Nat → Bool), ds = [nssD (befR n R)] ∧ 1 ≤ n ∧ n ≤ 12 ∧ OrdN n R ∧ ∀ B : List Nat, B.length = n → ordR B = R → told B = toldR n R → Q (ordD n B) N
abbrev sdLMade : Stmt := top 30
theorem scdLMade : FnScope ["before"] ["before"] (defScope sdLMade) := ⟨rfl, rfl, rfl, by decide +kernel, rfl, by decide +kernel, by decide +kernel⟩
theorem okd__law_made {T : LTabs} {f : Addr} {fd : FuncData} (Fu : Fun K "_law_made" "_law_made" sdLMade f fd) (B : Bts mg) {CO : Addr} (OI : OrdI P w K mg base CO) (c__law_listed : CalleeD T P w K mg base 1 "_law_listed" ["before"] FListed) :
    Rd.FnOkG P w K mg base CX0 20 f fd ["before"] (spD T K mg 1 FMade) := by
  refine okD Fu scdLMade fun cdv A outer s H E C hT hG hr => ?_
  subst hT
  refine ⟨_, 
    (pssd_one (psd_ret (pd_ord OI (hr.mono (by omega)) (pad_cons (pd_callB cd_len (by rfl) B.len (by decide +kernel) (pab_cons (PEd.pb (pd_var 0)) pab_nil)) (pad_cons (pd_call c__law_listed hG (hr.mono (by omega)) (pad_cons (pd_var 0) pad_nil)) pad_nil))))), fun ds M R hl h => ?_⟩
  obtain ⟨n, R1, rfl, h1, h2, hR, h⟩ := h
  unfold eOrd
  walk_at "pd"
  refine ⟨befR n R1, rfl, by rw [befR_len]; exact h2, befR_small h2, ?_⟩
  try walk_at "pd"
  rw [listed_befR hR]
  obtain ⟨g1, g2, g3, g4⟩ := ord_RB (ps := toldR n R1) hR (fun p hp => (mem_toldR.mp (show (p.1, p.2) ∈ toldR n R1 from hp)).2.2) fun a b e => mem_toldR.mpr ⟨(hR.lt e).1, (hR.lt e).2, e⟩
  refine ⟨n, toldR n R1, .inl ?_, ⟨by omega, h2⟩, g1, h _ g2 g4 g3⟩
  rw [List.length_map, befR_len]
end
end Bb
namespace Bb
open PySem PySem.Spec PyProof.Rows L2 Pd Tmm
section
variable {P : Program} {w : World} {K : PySem.W.Frag} {mg : Str → Option Value} {base : Heap}
/-- pairs of n tasks without a way round -/
def Acy (n : Nat) (ps : List (Nat × Nat)) : Prop := (∀ p ∈ ps, p.1 < n ∧ p.2 < n) ∧ ∃ ρ : Nat → Nat, (∀ p ∈ ps, ρ p.1 < ρ p.2) ∧ ∀ x, x < n → ρ x < n
def FLPairs : FD := fun ds N Q => ∃ n : Nat, ds = [.drw, nD n] ∧ 1 ≤ n ∧ n ≤ 12 ∧ N + 400 < 1000000 ∧ ∀ (ps : List (Nat × Nat)) (N' : Nat), Acy n ps → ps.length ≤ 144 → N' ≤ N + 400 → Q (prsD ps) N'
theorem idx_of {row : List Nat} (nd : row.Nodup) {i j : Nat} {x y : Nat} (hi : row[i]? = some x) (hj : row[j]? = some y) (h : i < j) : row.idxOf x < row.idxOf y := by
  obtain ⟨li, ei⟩ := List.getElem?_eq_some_iff.mp hi
  obtain ⟨lj, ej⟩ := List.getElem?_eq_some_iff.mp hj
  rw [← ei, ← ej, nd.idxOf_getElem, nd.idxOf_getElem]
  exact h
abbrev sdLPairs : Stmt := top 28
theorem scdLPairs : FnScope ["m", "many", "row", "thick", "found", "at", "far"] ["m", "many"] (defScope sdLPairs) := ⟨rfl, rfl, rfl, by decide +kernel, rfl, by decide +kernel, by decide +kernel⟩
theorem okd__law_pairs {T : LTabs} {f : Addr} {fd : FuncData} (Fu : Fun K "_law_pairs" "_law_pairs" sdLPairs f fd) (B : Bts mg) (c__law_draw : CalleeD T P w K mg base 2 "_law_draw" ["m", "limit"] FDraw) (c__law_row : CalleeD T P w K mg base 3 "_law_row" ["m", "many"] FRow) :
    Rd.FnOkG P w K mg base CX0 4 f fd ["m", "many"] (spD T K mg 2 FLPairs) := by
  refine okD Fu scdLPairs fun cdv A outer s H E C hT hG hr => ?_
  subst hT
  refine ⟨_, 
    (pssd_cons (psd_par3T (i := 2) (j := 3) (l := 4) rfl scdLPairs.nd rfl rfl rfl (Or.inl rfl) (Or.inl rfl) (Or.inr rfl) (pmd_sh (pd_call c__law_row hG (hr.mono (by omega)) (pad_cons (pd_var 0) (pad_cons (pd_var 1) pad_nil))) (pmd_sh (pd_op od_add (PEd.pb pd_int) (PEd.pb (pd_call c__law_draw hG (hr.mono (by omega)) (pad_cons (pd_var 0) (pad_cons pd_int pad_nil))))) (pmd_ow (pf_lst pad_nil) pmd_nil))))
    (pssd_cons (psd_for (ws := [5]) PassesOwn.never rfl (pid_range1 (by rfl) B.range (PEd.pb (pd_var 1))) (pgd_name 5 scdLPairs.nd rfl (Or.inl rfl) (by decide)) 
      (pssd_one (psd_for (ws := [6]) PassesOwn.never rfl (pid_range2 (by rfl) B.range (PEd.pb (pd_op od_add (PEd.pb (pd_var 5)) (PEd.pb pd_int))) (PEd.pb (pd_var 1))) (pgd_name 6 scdLPairs.nd rfl (Or.inl rfl) (by decide)) 
        (pssd_one (psd_if (ptd_cmp (od_eq (Rd.hu64 hr)) (PEd.pb (pd_call c__law_draw hG (hr.mono (by omega)) (pad_cons (pd_var 0) (pad_cons (pd_op od_add (PEd.pb (pd_var 3)) (PEd.pb pd_int)) pad_nil)))) (PEd.pb pd_int) (nomark _)) 
          (pssd_one (psd_app 4 (pd_tup (pad_cons (pd_ix (PEd.pb (pd_var 2)) (PEd.pb (pd_var 5))) (pad_cons (pd_ix (PEd.pb (pd_var 2)) (PEd.pb (pd_var 6))) pad_nil))))) pssd_nil)))))
    (pssd_one (psd_ret (PEf.pd (pf_lc (own := [("at", 5)]) rfl scdLPairs.nd (pib_seq (PEd.pb (pd_call c__law_row hG (hr.mono (by omega)) (pad_cons (pd_var 0) (pad_cons (pd_callB cd_len (by rfl) B.len (by decide +kernel) (pab_cons (pd_varB 4) pab_nil)) pad_nil))))) (blkOk_by (own := [("at", 5)]) (N := ["m", "many", "row", "thick", "found", "at", "far"]) (sc := defScope sdLPairs) (by decide +kernel)) (fun _ _ _ _ _ => (pgd_name 5 scdLPairs.nd rfl (Or.inl rfl) (by decide))) (fun _ _ _ _ _ => ptsd_nil) (fun _ _ _ _ _ => (pd_ix (pd_varB 4) (PEd.pb (pd_var 5)))))))))), fun ds M R hl h => ?_⟩
  obtain ⟨n, rfl, h1, h2, hN, h⟩ := h
  walk_at "pd"
  refine ⟨n, rfl, by omega, by omega, fun row hrow => ?_⟩
  have hrl : row.length = n := by rw [hrow.length_eq, List.length_range]
  have hnd : row.Nodup := hrow.nodup_iff.mpr List.nodup_range
  have hlt : ∀ x ∈ row, x < n := fun x hx => List.mem_range.mp (hrow.mem_iff.mp hx)
  refine ⟨5, rfl, by omega, ⟨by decide, by decide⟩, fun k k0 k1 => ?_⟩
  obtain ⟨k, rfl⟩ := Int.eq_ofNat_of_zero_le k0
  try walk_at "pd"
  refine ⟨by omega, by omega, ?_⟩
  rw [Int.toNat_natCast]
  refine loop_map (f := fun i : Nat => D.int (i : Int)) (fun q1 q2 env N => N ≤ M + n + 1 + 12 * q1.length ∧ ∃ (ps : List (Nat × Nat)) (u5 u6 : Sl), env = [.sh .drw, .sh (nD n), .sh (nsD row), .sh (.int (1 + (k : Int))), .ow (ps.map Pd.prD), u5, u6] ∧ ps.length ≤ 12 * q1.length ∧ ∀ p ∈ ps, ∃ i j : Nat, i < j ∧ row[i]? = some p.1 ∧ row[j]? = some p.2) ?_ ?_ ⟨by simp, [], .no, .no, rfl, by simp, fun p hp => by cases hp⟩
  · rintro i q1 q2 env N R' e ⟨hN1, ps, u5, u6, rfl, hpl, hps⟩ hnx hct hrt
    clear hct hrt
    have hi : i < n := List.mem_range.mp (by rw [← e]; simp)
    have hq1 : q1.length + 1 ≤ n := by
      have := congrArg List.length e
      simp only [List.length_append, List.length_cons, List.length_range] at this
      omega
    walk_at "pd"
    refine ⟨⟨by omega, by omega, by omega, by omega⟩, ?_⟩
    refine loop_map (f := fun j : Nat => D.int ((i : Int) + 1 + (j : Int))) (fun r1 r2 env N2 => N2 ≤ N + r1.length ∧ ∃ (ps2 : List (Nat × Nat)) (u6 : Sl), env = [.sh .drw, .sh (nD n), .sh (nsD row), .sh (.int (1 + (k : Int))), .ow (ps2.map Pd.prD), .sh (.int (i : Int)), u6] ∧ ps2.length ≤ ps.length + r1.length ∧ ∀ p ∈ ps2, ∃ i j : Nat, i < j ∧ row[i]? = some p.1 ∧ row[j]? = some p.2) ?_ ?_ ⟨by simp, ps, u6, rfl, by simp, hps⟩
    · rintro j r1 r2 env N2 R2 e2 ⟨hN2, ps2, u6, rfl, hpl2, hps2⟩ hnx2 hct2 hrt2
      clear hct2 hrt2
      have hj : j < ((n : Int) - ((i : Int) + 1)).toNat := List.mem_range.mp (by rw [← e2]; simp)
      have hr1 : r1.length + 1 ≤ ((n : Int) - ((i : Int) + 1)).toNat := by
        have := congrArg List.length e2
        simp only [List.length_append, List.length_cons, List.length_range] at this
        omega
      walk_at "pd"
      refine ⟨_, rfl, by omega, ⟨by omega, by omega⟩, fun c c0 c1 => ?_⟩
      refine oEq_int ?_
      rw [Bool.bne_false]
      try walk_at "pd"
      by_cases hc : c = 0
      · rw [if_pos (decide_eq_true hc)]
        have ei : atI (row.map nD) (i : Int) = some (nD row[i]) := by rw [atI_nat', List.getElem?_map, List.getElem?_eq_getElem (by omega)]; rfl
        have ej : atI (row.map nD) ((i : Int) + 1 + (j : Int)) = some (nD (row[i + 1 + j]'(by omega))) := by rw [show (i : Int) + 1 + (j : Int) = ((i + 1 + j : Nat) : Int) by omega, atI_nat', List.getElem?_map, List.getElem?_eq_getElem (by omega)]; rfl
        simp only [ei, ej]
        try walk_at "pd"
        refine ⟨by rw [List.length_map]; omega, hnx2 _ _ ⟨by rw [List.length_append]; simp only [List.length_cons, List.length_nil]; omega, ps2 ++ [(row[i], row[i + 1 + j]'(by omega))], .sh (.int ((i : Int) + 1 + (j : Int))), by simp [Pd.prD], by simp only [List.length_append, List.length_cons, List.length_nil]; omega, fun p hp => ?_⟩⟩
        rcases List.mem_append.mp hp with hp | hp
        · exact hps2 p hp
        · rw [List.mem_singleton.mp hp]
          exact ⟨i, i + 1 + j, by omega, List.getElem?_eq_getElem (by omega), List.getElem?_eq_getElem (by omega)⟩
      · rw [if_neg (by rw [decide_eq_true_eq]; exact hc)]
        refine hnx2 _ _ ⟨by rw [List.length_append]; simp only [List.length_cons, List.length_nil]; omega, ps2, .sh (.int ((i : Int) + 1 + (j : Int))), rfl, by rw [List.length_append]; omega, hps2⟩
    · rintro env N2 ⟨hN2, ps2, u6, rfl, hpl2, hps2⟩
      rw [List.length_range] at hN2 hpl2
      refine hnx _ _ ⟨by rw [List.length_append]; simp only [List.length_cons, List.length_nil]; omega, ps2, _, u6, rfl, by rw [List.length_append]; simp only [List.length_cons, List.length_nil]; omega, hps2⟩
  · rintro env N ⟨hN1, ps, u5, u6, rfl, hpl, hps⟩
    rw [List.length_range] at hN1 hpl
    walk_at "pd"
    refine ⟨ps.length, by simp, by omega, by omega, fun xs hxs => ?_⟩
    have hxl : xs.length = ps.length := by rw [hxs.length_eq, List.length_range]
    have hxm : ∀ x ∈ xs, x < ps.length := fun x hx => List.mem_range.mp (hxs.mem_iff.mp hx)
    try walk_at "pd"
    refine lcD_mapM nD (fun x => Pd.prD (ps.getD x (0, 0))) xs [] _ _ (by simp only [List.length_nil]; omega) (fun x hx N3 Q q => ?_) ?_
    · walk_at "pd"
      have ex : atI (ps.map Pd.prD) (x : Int) = some (Pd.prD (ps.getD x (0, 0))) := by
        rw [atI_nat', List.getElem?_map, List.getD_eq_getElem?_getD, List.getElem?_eq_getElem (hxm x hx)]
        rfl
      simp only [ex]
      exact q
    · have hm : ∀ p ∈ xs.map fun x => ps.getD x (0, 0), p ∈ ps := fun p hp => by
        obtain ⟨x, hx, rfl⟩ := List.mem_map.mp hp
        rw [List.getD_eq_getElem?_getD, List.getElem?_eq_getElem (hxm x hx)]
        exact List.getElem_mem _
      have := h (xs.map fun x => ps.getD x (0, 0)) (N + ps.length) ⟨fun p hp => ?_, fun x => if x ∈ row then row.idxOf x else 0, fun p hp => ?_, fun x hx => ?_⟩ (by rw [List.length_map]; omega) (by omega)
      · simpa only [List.nil_append, prsD, List.map_map, Function.comp_def] using this
      · obtain ⟨i, j, hij, ei, ej⟩ := hps p (hm p hp)
        exact ⟨hlt _ (List.mem_of_getElem? ei), hlt _ (List.mem_of_getElem? ej)⟩
      · obtain ⟨i, j, hij, ei, ej⟩ := hps p (hm p hp)
        dsimp only
        rw [if_pos (List.mem_of_getElem? ei), if_pos (List.mem_of_getElem? ej)]
        exact idx_of hnd ei ej hij
      · have hxr : x ∈ row := hrow.mem_iff.mpr (List.mem_range.mpr hx)
        dsimp only
        rw [if_pos hxr, ← hrl]
        exact List.idxOf_lt_length_iff.mpr hxr
end
end Bb
namespace Bb
open PySem PySem.Spec PyProof.Rows L2 Pd Tmm
section
variable {P : Program} {w : World} {K : PySem.W.Frag} {mg : Str → Option Value} {base : Heap}
/-- repr of both, the same -/
def FLikeM : FD := fun ds N Q => ∃ xs : List D, ds = [.lst xs, .lst xs] ∧ reprOkM xs ∧ Q (.bl true) N
abbrev sdLLike : Stmt := top 25
theorem scdLLike : FnScope ["told", "due"] ["told", "due"] (defScope sdLLike) := ⟨rfl, rfl, rfl, by decide +kernel, rfl, by decide +kernel, by decide +kernel⟩
theorem okd__law_like {T : LTabs} {f : Addr} {fd : FuncData} (Fu : Fun K "_law_like" "_law_like" sdLLike f fd) (B : Bts mg) :
    Rd.FnOkG P w K mg base CX0 1 f fd ["told", "due"] (spD T K mg 2 FLikeM) := by
  refine okD Fu scdLLike fun cdv A outer s H E C hT hG hr => ?_
  subst hT
  refine ⟨_, 
    (pssd_one (psd_ret (pd_cmp od_eqS (pd_reprM (by rfl) B.repr hr hG ((pd_var 0)).pb).pb (pd_reprM (by rfl) B.repr hr hG ((pd_var 1)).pb).pb (nomark _)))), fun ds M R hl h => ?_⟩
  obtain ⟨xs, rfl, rx, h⟩ := h
  unfold eReprM
  walk_at "pd"
  refine ⟨rx, rx, ?_⟩
  simp only [oEqS]
  simpa using h
end
end Bb
namespace Bb
open PySem PySem.Spec PyProof.Rows L2 Pd Tmm
/-- the kinds of other things: none is an order, none has its == asked first -/
def othTys : List String := ["NoneType", "bool", "int", "str", "list", "tuple", "dict"]
def OrdOth (K : PySem.W.Frag) (C : Addr) : Prop := ∀ U ∈ othTys, PySem.W.kitOne K (.type U) (.ref C) = some false ∧ PySem.W.notFirst K C (.type U) = true
theorem oth_ty {v : D} {U : String} (h : v.tyN = some U) : U ∈ othTys := by
  cases v <;> simp [D.tyN] at h <;> subst h <;> simp [othTys]
/-- an order compared with another thing -/
def oEqOth (neg : Bool) : O2 := fun x y P => ∃ (n : Nat) (B : List Nat), x = ordD n B ∧ B.length ≤ 12 ∧ y.tyN.isSome = true ∧ P (.bl neg)
def leftD : D → Bool
  | .non | .int _ | .str _ | .lst _ | .tup _ | .mt => true
  | _ => false
def oEqOthR : O2 := fun x y P => ∃ (n : Nat) (B : List Nat), y = ordD n B ∧ B.length ≤ 12 ∧ leftD x = true ∧ P (.bl false)
theorem left_ty {v : D} (h : leftD v = true) : v.tyN.isSome = true := by cases v <;> simp [leftD, D.tyN] at h ⊢
section
variable {X : Cx} {w : Dr} {CO : Addr}
theorem od_eqOth (M : OrdI X.prog X.w X.K X.mg X.base CO) (hO : OrdOth X.K CO) (hr : Room 1 X.A) : OpD X w (compareOp .Eq) (oEqOth false) := by
  obtain ⟨ps, E⟩ := M.eq
  intro pins s σ H x y v u Q I rx ry ⟨Hs, N, a, b, P, s0, m, ha, hb, ⟨n, B, ea, lB, ty, hp⟩, out⟩
  subst ea
  obtain ⟨o, dx, fs, rfl, o1, o2⟩ := ordAt_of s0 M.m lB (ha.dv fun _ z => by cases z)
  obtain ⟨U, eU⟩ := Option.isSome_iff_exists.mp ty
  have tyx := dv_ty s0 hb eU
  obtain ⟨k1, k2⟩ := hO U (oth_ty eU)
  exact Cmq.opEq E hr pins s σ H _ _ v u Q I rx ry ⟨o, dx, fs, .type U, rfl, o1, tyx, k2, o, n, B, _, rfl, o2, .inr ⟨.type U, tyx, k1, _, rfl, out.now s0 hp (.bl _)⟩⟩
theorem od_neOth (M : OrdI X.prog X.w X.K X.mg X.base CO) (hO : OrdOth X.K CO) (hr : Room 2 X.A) : OpD X w (compareOp .NotEq) (oEqOth true) := by
  obtain ⟨ps, E⟩ := M.eq
  intro pins s σ H x y v u Q I rx ry ⟨Hs, N, a, b, P, s0, m, ha, hb, ⟨n, B, ea, lB, ty, hp⟩, out⟩
  subst ea
  obtain ⟨o, dx, fs, rfl, o1, o2⟩ := ordAt_of s0 M.m lB (ha.dv fun _ z => by cases z)
  obtain ⟨U, eU⟩ := Option.isSome_iff_exists.mp ty
  have tyx := dv_ty s0 hb eU
  obtain ⟨k1, k2⟩ := hO U (oth_ty eU)
  exact Cmq.opNe E hr pins s σ H _ _ v u Q I rx ry ⟨o, dx, fs, .type U, rfl, o1, tyx, k2, o, n, B, _, rfl, o2, .inr ⟨.type U, tyx, k1, _, rfl, out.now s0 hp (.bl _)⟩⟩
theorem od_eqOthR (M : OrdI X.prog X.w X.K X.mg X.base CO) (hO : OrdOth X.K CO) (hr : Room 1 X.A) : OpD X w (compareOp .Eq) oEqOthR := by
  obtain ⟨ps, E⟩ := M.eq
  intro pins s σ H x y v u Q I rx ry ⟨Hs, N, a, b, P, s0, m, ha, hb, ⟨n, B, eb, lB, hl, hp⟩, out⟩
  subst eb
  obtain ⟨o, dx, fs, rfl, o1, o2⟩ := ordAt_of s0 M.m lB (hb.dv fun _ z => by cases z)
  obtain ⟨U, eU⟩ := Option.isSome_iff_exists.mp (left_ty hl)
  have tyx := dv_ty s0 ha eU
  obtain ⟨k1, k2⟩ := hO U (oth_ty eU)
  have lt : Cmq.LeftT H x := by
    cases a with
    | non => rw [ha.non]; exact .non
    | int i => rw [ha.int]; exact .int i
    | str z => rw [ha.str]; exact .str z
    | lst xs =>
      obtain ⟨p, vs, rfl, h1, _⟩ := ha.list s0
      exact .lst h1
    | tup xs =>
      obtain ⟨p, vs, rfl, h1, _⟩ := ha.tup s0
      exact .tup h1
    | mt =>
      have d := ha.dv fun _ z => by cases z
      cases d with
      | mt h1 => exact .dict (s0 _ _ h1)
    | _ => simp [leftD] at hl
  exact Cmq.opEqR E hr pins s σ H _ _ v u Q I rx ry ⟨o, dx, fs, rfl, o1, lt, o, n, B, _, rfl, o2, .inr ⟨.type U, tyx, k1, _, rfl, out.now s0 hp (.bl _)⟩⟩
end
section
variable {P : Program} {w : World} {K : PySem.W.Frag} {mg : Str → Option Value} {base : Heap}
def FHasTask : FD := fun ds N Q => ∃ n t : Nat, ds = [nD n, nD t] ∧ Q (.bl (n.testBit t)) N
abbrev sdHasTask : Stmt := top 15
theorem scdHasTask : FnScope ["bits", "task"] ["bits", "task"] (defScope sdHasTask) := ⟨rfl, rfl, rfl, by decide +kernel, rfl, by decide +kernel, by decide +kernel⟩
theorem okd_has_task {T : LTabs} {f : Addr} {fd : FuncData} (Fu : Fun K "has_task" "has_task" sdHasTask f fd)  :
    Rd.FnOkG P w K mg base CX0 1 f fd ["bits", "task"] (spD T K mg 2 FHasTask) := by
  refine okD Fu scdHasTask fun cdv A outer s H E C hT hG hr => ?_
  subst hT
  refine ⟨_, 
    (pssd_one (psd_ret (pd_cmp (od_eq (Rd.hu64 hr)) (PEd.pb (pd_op od_and (PEd.pb (pd_op od_shr (PEd.pb (pd_var 0)) (PEd.pb (pd_var 1)))) (PEd.pb pd_int))) (PEd.pb pd_int) (nomark _)))), fun ds M R hl h => ?_⟩
  obtain ⟨n, t, rfl, h⟩ := h
  walk_at "pd"
  refine ⟨by omega, ?_⟩
  refine oEq_int ?_
  rw [Bool.bne_false, bit_of]
  exact h
/-- of any two things -/
def FIsAheadX : FX := fun ds N Q E => ∃ (B : List Nat) (x y : D), ds = [ordD B.length B, x, y] ∧ 1 ≤ B.length ∧ B.length ≤ 12 ∧ x.tyN.isSome = true ∧ y.tyN.isSome = true ∧
  (wholeD x 0 (B.length - 1) = false → E "BadNumber" [("value", x)] N) ∧ (wholeD x 0 (B.length - 1) = true → wholeD y 0 (B.length - 1) = false → E "BadNumber" [("value", y)] N) ∧
  ∀ a b : Nat, x = nD a → y = nD b → a < B.length → b < B.length → Q (.bl (ordR B a b)) N
theorem whole_nat {x : D} {n : Nat} (h : wholeD x 0 ((n : Int) - 1) = true) : ∃ a : Nat, x = nD a ∧ a < n := by
  cases x <;> simp [wholeD] at h
  rename_i i
  obtain ⟨a, rfl⟩ := Int.eq_ofNat_of_zero_le h.1
  exact ⟨a, rfl, by omega⟩
abbrev sdOrderIsAhead : Stmt := inClass (top 14) 3
theorem scdOrderIsAhead : FnScope ["self", "one", "other", "task"] ["self", "one", "other"] (defScope sdOrderIsAhead) := ⟨rfl, rfl, rfl, by decide +kernel, rfl, by decide +kernel, by decide +kernel⟩
theorem okd_Order_is_ahead {T : LTabs} {f : Addr} {fd : FuncData} (Fu : Fun K "is_ahead" "Order.is_ahead" sdOrderIsAhead f fd) (fo_Order_behind : FldOk K mg "Order" "behind") (fo_Order_many : FldOk K mg "Order" "many") {C_BadNumber : Addr} (M_BadNumber : Exv.Maker P w K mg base "BadNumber" "value" C_BadNumber) (ty_BadNumber : PySem.W.typeIn K (.ref C_BadNumber) = some (.type "type")) (c_is_whole : CalleeD T P w K mg base 1 "is_whole" ["value", "low", "high"] FIsWhole) (c_has_task : CalleeD T P w K mg base 1 "has_task" ["bits", "task"] FHasTask) :
    Rd.FnOkG P w K mg base (L2.CX P w) 3 f fd ["self", "one", "other"] (spX T K mg 3 FIsAheadX) := by
  refine okDX Fu scdOrderIsAhead fun cdv A outer s H E C Ex hT hG hr tk => ?_
  subst hT
  refine ⟨_, 
    (pssd_cons (psd_for (ws := [3]) (L2.passes_of rfl) rfl (pid_seq (pd_tup (pad_cons (pd_var 1) (pad_cons (pd_var 2) pad_nil)))) (pgd_name 3 scdOrderIsAhead.nd rfl (Or.inl rfl) (by decide)) 
      (pssd_one (psd_if (ptd_not (ptd_val (pd_call c_is_whole hG (hr.mono (by omega)) (pad_cons (pd_var 3) (pad_cons pd_int (pad_cons (pd_op od_sub (PEd.pb (pd_fld fo_Order_many (pd_var 0))) (PEd.pb pd_int)) pad_nil)))))) 
        (pssd_one (psd_raise rfl tk M_BadNumber ty_BadNumber (hr.mono (by omega)) (pd_var 3))) pssd_nil)))
    (pssd_one (psd_ret (pd_call c_has_task hG (hr.mono (by omega)) (pad_cons (pd_ix (PEd.pb (pd_fld fo_Order_behind (pd_var 0))) (PEd.pb (pd_var 1))) (pad_cons (pd_var 2) pad_nil)))))), fun ds M R hl h => ?_⟩
  obtain ⟨B, x, y, rfl, hB1, hB, tx, ty, h1, h2, h3⟩ := h
  walk_at "pd"
  refine loop_inv (fun rest env N' => N' = M ∧ ∃ u3 : Sl, env = [.sh (ordD B.length B), .sh x, .sh y, u3] ∧ (rest = [x, y] ∨ (rest = [y] ∧ wholeD x 0 (B.length - 1) = true) ∨ (rest = [] ∧ wholeD x 0 (B.length - 1) = true ∧ wholeD y 0 (B.length - 1) = true))) ?_ ?_ _ _ _ ⟨rfl, .no, rfl, .inl rfl⟩
  · rintro z rest env N' R2 ⟨rfl, u3, rfl, hr⟩ hnx hct hrt hbk
    clear hct hrt hbk
    walk_at "pd"
    rcases hr with hr | ⟨hr, hx⟩ | ⟨hr, _⟩
    · obtain ⟨rfl, rfl⟩ := List.cons.inj hr
      refine ⟨z, 0, (B.length : Int) - 1, rfl, tx, ?_⟩
      cases hw : wholeD z 0 ((B.length : Int) - 1) with
      | false => exact h1 hw
      | true => exact hnx _ _ ⟨rfl, _, rfl, .inr (.inl ⟨rfl, hw⟩)⟩
    · obtain ⟨rfl, rfl⟩ := List.cons.inj hr
      refine ⟨z, 0, (B.length : Int) - 1, rfl, ty, ?_⟩
      cases hw : wholeD z 0 ((B.length : Int) - 1) with
      | false => exact h2 hx hw
      | true => exact hnx _ _ ⟨rfl, _, rfl, .inr (.inr ⟨rfl, hx, hw⟩)⟩
    · cases hr
  · rintro env N' ⟨rfl, u3, rfl, hr⟩
    rcases hr with hr | ⟨hr, hx⟩ | ⟨_, hx, hy⟩
    · cases hr
    · cases hr
    · obtain ⟨a, rfl, ha⟩ := whole_nat hx
      obtain ⟨b, rfl, hb⟩ := whole_nat hy
      walk_at "pd"
      have ea : atI (B.map nD) (a : Int) = some (nD (B.getD a 0)) := by
        rw [atI_nat', List.getElem?_map, List.getD_eq_getElem?_getD, List.getElem?_eq_getElem ha]
        rfl
      have em : List.lookup (Str.ofString "behind") [(Str.ofString "many", nD B.length), (Str.ofString "behind", D.tup (B.map nD)), (Str.ofString "pairs", D.tup ((told B).map Pd.prD))] = some (D.tup (B.map nD)) := by rfl
      simp only [em]
      rw [ea]
      exact ⟨_, _, rfl, h3 a b rfl rfl ha hb⟩
end
end Bb
namespace Bb
open PySem PySem.Spec PyProof.Rows L2 Pd Tmm
open Classical in
/-- what follows of pairs -/
noncomputable def tcR (ps : List (Nat × Nat)) : Nat → Nat → Bool := fun x y => decide (TC ps x y)
theorem tcR_iff {ps : List (Nat × Nat)} {x y : Nat} : tcR ps x y = true ↔ TC ps x y := by
  unfold tcR
  exact @decide_eq_true_iff _ (Classical.propDecidable _)
theorem TC.sub {ps qs : List (Nat × Nat)} (h : ∀ p ∈ ps, p ∈ qs) {x y : Nat} (t : TC ps x y) : TC qs x y := by
  induction t with
  | base q => exact .base (h _ q)
  | step _ q ih => exact .step ih (h _ q)
theorem tcR_congr {ps qs : List (Nat × Nat)} (h : ∀ p, p ∈ ps ↔ p ∈ qs) : tcR ps = tcR qs := by
  funext x y
  rw [Bool.eq_iff_iff, tcR_iff, tcR_iff]
  exact ⟨TC.sub fun p hp => (h p).mp hp, TC.sub fun p hp => (h p).mpr hp⟩
theorem Acy.sub {n : Nat} {ps qs : List (Nat × Nat)} (a : Acy n qs) (h : ∀ p ∈ ps, p ∈ qs) : Acy n ps := by
  obtain ⟨hp, ρ, hρ, hb⟩ := a
  exact ⟨fun p q => hp p (h p q), ρ, fun p q => hρ p (h p q), hb⟩
theorem Acy.up {n : Nat} {ps : List (Nat × Nat)} (a : Acy n ps) : Acy (n + 1) ps := by
  obtain ⟨hp, ρ, hρ, hb⟩ := a
  refine ⟨fun p q => ⟨by have := (hp p q).1; omega, by have := (hp p q).2; omega⟩, fun x => if x < n then ρ x else n, fun p q => ?_, fun x hx => ?_⟩
  · have h1 := hp p q
    simp only
    rw [if_pos h1.1, if_pos h1.2]
    exact hρ p q
  · simp only
    split
    · rename_i h
      have := hb x h
      omega
    · omega
theorem tcR_ord {n : Nat} {ps : List (Nat × Nat)} (a : Acy n ps) : OrdN n (tcR ps) := by
  obtain ⟨hp, ρ, hρ, hb⟩ := a
  refine ⟨⟨fun x => ?_, fun h1 h2 => tcR_iff.mpr ((tcR_iff.mp h1).trans (tcR_iff.mp h2))⟩, fun h => (tcR_iff.mp h).ends hp⟩
  cases e : tcR ps x x with
  | false => rfl
  | true =>
    have := (pth_of hρ (tcR_iff.mp e)).1
    omega
theorem clo_tc {n : Nat} {ps : List (Nat × Nat)} {fs : List (List Nat)} (c : Clo n ps n [] fs) (a : Acy n ps) : fs = befR n (tcR ps) := by
  obtain ⟨hp, ρ, hρ, hb⟩ := a
  obtain ⟨R, _, e, h⟩ := clo_R c hp hρ hb
  have : R = tcR ps := by
    funext x y
    rw [Bool.eq_iff_iff, h, tcR_iff]
  rw [e, this]
/-- the bits tell what follows -/
def TrB (n : Nat) (B : List Nat) : Prop := ∀ a b c, a < n → b < n → (B.getD a 0).testBit b = true → (B.getD b 0).testBit c = true → (B.getD a 0).testBit c = true
theorem put_tr {n : Nat} {B : List Nat} {a b : Nat} (hl : B.length = n) (ha : a < n) (hb : b < n) (h : TrB n B) : TrB n (put B a b) := by
  intro t c d ht hc h1 h2
  rw [put_bit (by omega)] at h1 h2 ⊢
  simp only [Bool.or_eq_true, Bool.and_eq_true, decide_eq_true_eq] at h1 h2 ⊢
  rcases h1 with h1 | ⟨h1, h1'⟩
  · rcases h2 with h2 | ⟨h2, h2'⟩
    · exact .inl (h t c d ht hc h1 h2)
    · refine .inr ⟨.inr ?_, h2'⟩
      rcases h2 with e | h2
      · rw [← e]; exact h1
      · exact h t c a ht hc h1 h2
  · rcases h2 with h2 | ⟨h2, h2'⟩
    · refine .inr ⟨h1, .inl ?_⟩
      rcases h1' with h1' | e
      · exact h b c d hb hc h1' h2
      · rw [e]; exact h2
    · exact .inr ⟨h1, h2'⟩
theorem putAll_tr {n : Nat} : ∀ (ps : List (Nat × Nat)) (B : List Nat), (∀ p ∈ ps, p.1 < n ∧ p.2 < n) → B.length = n → TrB n B → TrB n (putAll B ps)
  | [], _, _, _, h => h
  | p :: ps, B, hp, hl, h => putAll_tr ps (put B p.1 p.2) (fun q hq => hp q (by simp [hq])) (by rw [put_len]; exact hl) (put_tr hl (hp p (by simp)).1 (hp p (by simp)).2 h)
/-- the order made of pairs without a way round -/
theorem ord_tc {n : Nat} {ps : List (Nat × Nat)} (a : Acy n ps) :
    GoodP n (List.replicate n 0) ps ∧ (putAll (List.replicate n 0) ps).length = n ∧ told (putAll (List.replicate n 0) ps) = toldR n (tcR ps) ∧ ordR (putAll (List.replicate n 0) ps) = tcR ps := by
  have hR := tcR_ord a
  obtain ⟨g1, g2, g3, g4⟩ := putAll_R (R := tcR ps) (fun h1 h2 => hR.o.trans h1 h2) hR.o.irr ps (List.replicate n 0) (fun p hm => ⟨(a.1 p hm).1, (a.1 p hm).2, tcR_iff.mpr (.base hm)⟩) (snd_zero n (tcR ps))
  have tr : TrB n (putAll (List.replicate n 0) ps) := putAll_tr ps _ a.1 List.length_replicate fun x y z hx hy h _ => by
    rw [List.getD_eq_getElem?_getD, List.getElem?_replicate, if_pos hx, Option.getD_some, Nat.zero_testBit] at h
    cases h
  have e : ∀ x y, ((putAll (List.replicate n 0) ps).getD x 0).testBit y = tcR ps x y := fun x y => by
    by_cases hx : x < n
    · rw [Bool.eq_iff_iff]
      refine ⟨fun q => g2.2 x y hx q, fun q => ?_⟩
      have t := tcR_iff.mp q
      clear q
      induction t with
      | base q => exact g4 _ q
      | step t q ih => exact tr _ _ _ hx ((t.ends a.1).2) ih (g4 _ q)
    · rw [List.getD_eq_getElem?_getD, List.getElem?_eq_none (by rw [g2.1]; omega), Option.getD_none, Nat.zero_testBit]
      cases q : tcR ps x y with
      | false => rfl
      | true => exact absurd (hR.lt q).1 hx
  refine ⟨g1, g2.1, ?_, ?_⟩
  · rw [told_R, g2.1]
    exact toldR_congr fun a b _ _ => e a b
  · funext a b
    exact e a b
theorem befR_inj {n : Nat} {R S : Nat → Nat → Bool} (hR : OrdN n R) (hS : OrdN n S) : befR n R = befR n S ↔ R = S := by
  refine ⟨fun e => ?_, fun e => by rw [e]⟩
  funext x y
  rw [Bool.eq_iff_iff, ← mem_listP_befR hR, ← mem_listP_befR hS, e]
theorem toldR_inj {n : Nat} {R S : Nat → Nat → Bool} (hR : OrdN n R) (hS : OrdN n S) : toldR n R = toldR n S ↔ R = S := by
  refine ⟨fun e => ?_, fun e => by rw [e]⟩
  funext x y
  have h1 : ∀ {T : Nat → Nat → Bool}, OrdN n T → (T x y = true ↔ (x, y) ∈ toldR n T) := fun {T} hT => ⟨fun h => mem_toldR.mpr ⟨(hT.lt h).1, (hT.lt h).2, h⟩, fun h => (mem_toldR.mp h).2.2⟩
  rw [Bool.eq_iff_iff, h1 hR, h1 hS, e]
theorem befR_get1 {n : Nat} {R : Nat → Nat → Bool} (k : Nat) (hk : k < n) : atI ((befR n R).map nsD) (k : Int) = some (nsD ((List.range n).filter fun x => R x k)) := by
  rw [atI_nat', List.getElem?_map, befR_get.mpr ⟨hk, rfl⟩]
  rfl
end Bb
namespace Bb
open PySem PySem.Spec PyProof.Rows L2 Pd Tmm
local macro_rules | `(tactic| walk_at "tb") => `(tactic| simp only [tb_BadPairs_BadPairs, tb_BadPairs_BadTerm, tb_BadPairs_BadNumber, tb_BadPairs_BadExchange, tb_BadPairs_NoTerm, tb_BadPairs_OtherTasks, tb_BadPairs_Lacks, tb_BadPairs_TooGreat, tb_BadPairs_ValueError, tb_BadTerm_BadPairs, tb_BadTerm_BadTerm, tb_BadTerm_BadNumber, tb_BadTerm_BadExchange, tb_BadTerm_NoTerm, tb_BadTerm_OtherTasks, tb_BadTerm_Lacks, tb_BadTerm_TooGreat, tb_BadTerm_ValueError, tb_BadNumber_BadPairs, tb_BadNumber_BadTerm, tb_BadNumber_BadNumber, tb_BadNumber_BadExchange, tb_BadNumber_NoTerm, tb_BadNumber_OtherTasks, tb_BadNumber_Lacks, tb_BadNumber_TooGreat, tb_BadNumber_ValueError, tb_BadExchange_BadPairs, tb_BadExchange_BadTerm, tb_BadExchange_BadNumber, tb_BadExchange_BadExchange, tb_BadExchange_NoTerm, tb_BadExchange_OtherTasks, tb_BadExchange_Lacks, tb_BadExchange_TooGreat, tb_BadExchange_ValueError, tb_NoTerm_BadPairs, tb_NoTerm_BadTerm, tb_NoTerm_BadNumber, tb_NoTerm_BadExchange, tb_NoTerm_NoTerm, tb_NoTerm_OtherTasks, tb_NoTerm_Lacks, tb_NoTerm_TooGreat, tb_NoTerm_ValueError, tb_OtherTasks_BadPairs, tb_OtherTasks_BadTerm, tb_OtherTasks_BadNumber, tb_OtherTasks_BadExchange, tb_OtherTasks_NoTerm, tb_OtherTasks_OtherTasks, tb_OtherTasks_Lacks, tb_OtherTasks_TooGreat, tb_OtherTasks_ValueError, tb_Lacks_BadPairs, tb_Lacks_BadTerm, tb_Lacks_BadNumber, tb_Lacks_BadExchange, tb_Lacks_NoTerm, tb_Lacks_OtherTasks, tb_Lacks_Lacks, tb_Lacks_TooGreat, tb_Lacks_ValueError, tb_TooGreat_BadPairs, tb_TooGreat_BadTerm, tb_TooGreat_BadNumber, tb_TooGreat_BadExchange, tb_TooGreat_NoTerm, tb_TooGreat_OtherTasks, tb_TooGreat_Lacks, tb_TooGreat_TooGreat, tb_TooGreat_ValueError, fl_BadPairs, fl_BadTerm, fl_BadNumber, fl_BadExchange, fl_NoTerm, fl_Lacks, fl_TooGreat])
def heardTab : List (Str × Str × Str) := [("BadPairs", "place", "pairs"), ("BadTerm", "value", "term"), ("BadNumber", "value", "number"), ("BadExchange", "place", "exchange"), ("NoTerm", "four", "four"), ("Lacks", "pair", "lacks"), ("TooGreat", "most", "great")]
theorem oEqS_yes {x y : Str} {neg : Bool} {P : D → Prop} (hx : PyData.strOk x = true) (hy : PyData.strOk y = true) (e : (x == y) = true) (h : P (.bl (!neg))) : oEq neg (.str x) (.str y) P := oEq_str hx hy (by rw [e]; cases neg <;> exact h)
theorem oEqS_no {x y : Str} {neg : Bool} {P : D → Prop} (hx : PyData.strOk x = true) (hy : PyData.strOk y = true) (e : (x == y) = false) (h : P (.bl neg)) : oEq neg (.str x) (.str y) P := oEq_str hx hy (by rw [e]; cases neg <;> exact h)
theorem oIn2_yes {x s z : Str} {neg : Bool} {P : D → Prop} (hx : PyData.strOk x = true) (h1 : PyData.strOk s = true) (h2 : PyData.strOk z = true) (e : isOne s z (.str x) = true) (h : P (.bl (!neg))) : oIn neg (.str x) (.tup [.str s, .str z]) P := oIn_two (by simpa [D.fine] using hx) h1 h2 (by rw [e]; cases neg <;> exact h)
theorem oIn2_no {x s z : Str} {neg : Bool} {P : D → Prop} (hx : PyData.strOk x = true) (h1 : PyData.strOk s = true) (h2 : PyData.strOk z = true) (e : isOne s z (.str x) = false) (h : P (.bl neg)) : oIn neg (.str x) (.tup [.str s, .str z]) P := oIn_two (by simpa [D.fine] using hx) h1 h2 (by rw [e]; cases neg <;> exact h)
local macro_rules | `(tactic| walk_at "hd") => `(tactic| (first
  | refine oEqS_no (by decide +kernel) (by decide +kernel) (by decide +kernel) ?_
  | refine oEqS_yes (by decide +kernel) (by decide +kernel) (by decide +kernel) ?_
  | refine oIn2_no (by decide +kernel) (by decide +kernel) (by decide +kernel) (by decide +kernel) ?_
  | refine oIn2_yes (by decide +kernel) (by decide +kernel) (by decide +kernel) (by decide +kernel) ?_))
def wordB (q : Str × Bool) : D := .tup [.str q.1, .bl q.2]
/-- what is told of a refusal -/
def HeardR (c : Str) (fs : List (Str × D)) (r : D) : Prop := (∃ p ∈ heardTab, ∃ x, c = p.1 ∧ fs = [(p.2.1, x)] ∧ r = .tup [.str p.2.2, x]) ∨ (c = Str.ofString "OtherTasks" ∧ fs = [] ∧ r = .str (Str.ofString "other"))
section
variable {P : Program} {w : World} {K : PySem.W.Frag} {mg : Str → Option Value} {base : Heap}
def FHeard : FL → Nat → (D → Nat → Prop) → Prop := fun fl N R => ∃ Q' Ex', fl N Q' Ex' ∧ (∀ r N', Q' r N' → R (.lst [r]) N') ∧ ∀ c fs N', Ex' c fs N' → ∃ r, HeardR c fs r ∧ R r N'
abbrev sdLHeard : Stmt := top 31
theorem scdLHeard : FnScope ["call", "told", "error", "e", "kinds_so", "words", "found", "word", "is_so"] ["call"] (defScope sdLHeard) := ⟨rfl, rfl, rfl, by decide +kernel, rfl, by decide +kernel, by decide +kernel⟩
theorem okd__law_heard {T : LTabs} {g : Addr} {fd : FuncData} (Fu : Fun K "_law_heard" "_law_heard" sdLHeard g fd) (hm : mg "_law_heard" = some (.ref g)) (kp : PySem.W.keepIn K (.ref g) = true) (bd : Binds K fd ["call"] []) (B : Bts mg) {C_BadExchange : Addr} (g_BadExchange : mg "BadExchange" = some (.ref C_BadExchange)) {C_BadNumber : Addr} (g_BadNumber : mg "BadNumber" = some (.ref C_BadNumber)) {C_BadPairs : Addr} (g_BadPairs : mg "BadPairs" = some (.ref C_BadPairs)) {C_BadTerm : Addr} (g_BadTerm : mg "BadTerm" = some (.ref C_BadTerm)) {C_Lacks : Addr} (g_Lacks : mg "Lacks" = some (.ref C_Lacks)) {C_NoTerm : Addr} (g_NoTerm : mg "NoTerm" = some (.ref C_NoTerm)) {C_OtherTasks : Addr} (g_OtherTasks : mg "OtherTasks" = some (.ref C_OtherTasks)) {C_TaskError : Addr} (g_TaskError : mg "TaskError" = some (.ref C_TaskError)) {C_TooGreat : Addr} (g_TooGreat : mg "TooGreat" = some (.ref C_TooGreat)) (n_ValueError : mg "ValueError" = none) (IT : IsTab K mg exTb) (FT : FlTab K mg exFl) (HT : ∀ c Ca, hitB c = true → mg c = some (.ref Ca) → PySem.W.exmAny K (.ref Ca) [.ref C_TaskError, .ref C_TooGreat] = some true) (k : Nat) (hk : 1 ≤ k) :
    LamOk T P w K mg base k "_law_heard" "call" FHeard := by
  refine ⟨g, fd, sdLHeard, ["call", "told", "error", "e", "kinds_so", "words", "found", "word", "is_so"], Fu, hm, kp, bd, scdLHeard, rfl, Or.inl rfl, fun cdv A outer s H C f fl M R hT hG hr act h => ?_⟩
  subst hT
  refine ⟨_, 
    (pssd_cons (psd_par (i := 1) (j := 2) rfl scdLHeard.nd rfl rfl (by decide) rfl rfl (pmd_sh (PEf.pd (pf_lst pad_nil)) (pmd_sh pd_non pmd_nil)) (by rfl))
    (pssd_cons (psd_tryStore (i := 3) (j := 2) (hit := hitB) rfl rfl rfl scdLHeard.nd rfl rfl rfl rfl ⟨rfl, by decide, .inl g_TaskError⟩ ⟨rfl, by decide, .inl g_TooGreat⟩ HT (fun H0 HB N0 Ex pl xe gt mt tk => 
      (pssd_one (psd_set (i := 1) scdLHeard.nd rfl (Or.inl rfl) (PEf.pd (pf_lst (pad_cons (act pl xe H0 HB N0 Ex _ _ gt mt tk) pad_nil)))))) (fun a pl => ps_set scdLHeard.nd rfl (Or.inl rfl) (pe_var rfl (Or.inl rfl))))
    (pssd_cons (psd_if (ptd_cmp od_is (PEd.pb (pd_var 2)) (PEd.pb pd_non) (nomark _)) 
      (pssd_one (psd_retV 1)) pssd_nil)
    (pssd_cons (psd_if (ptd_val (pd_isiE IT (by rfl) B.isinstance g_TooGreat (pd_var 2))) 
      (pssd_one (psd_ret (pd_ifExp (ptd_not (ptd_val (pd_isiEb (U := "ValueError") IT (by rfl) B.isinstance (by rfl) n_ValueError (by rfl) (pd_var 2)))) (pd_tup (pad_cons pd_str (pad_cons (pd_fldE FT (pd_var 2)) pad_nil))) pd_str))) pssd_nil)
    (pssd_cons (psd_setO (i := 4) scdLHeard.nd rfl (Or.inl rfl) (pf_lst (pad_cons (pd_isiE IT (by rfl) B.isinstance g_BadPairs (pd_var 2)) (pad_cons (pd_isiE IT (by rfl) B.isinstance g_BadTerm (pd_var 2)) (pad_cons (pd_isiE IT (by rfl) B.isinstance g_BadNumber (pd_var 2)) pad_nil)))))
    (pssd_cons (psd_setO (i := 4) scdLHeard.nd rfl (Or.inl rfl) (pf_cat (pd_varB 4) (PEd.pb (PEf.pd (pf_lst (pad_cons (pd_isiE IT (by rfl) B.isinstance g_BadExchange (pd_var 2)) (pad_cons (pd_isiE IT (by rfl) B.isinstance g_NoTerm (pd_var 2)) (pad_cons (pd_isiE IT (by rfl) B.isinstance g_OtherTasks (pd_var 2)) pad_nil))))))))
    (pssd_cons (psd_app 4 (pd_isiE IT (by rfl) B.isinstance g_Lacks (pd_var 2)))
    (pssd_cons (psd_set (i := 5) scdLHeard.nd rfl (Or.inl rfl) (PEf.pd (pf_lst (pad_cons pd_str (pad_cons pd_str (pad_cons pd_str (pad_cons pd_str (pad_cons pd_str (pad_cons pd_str (pad_cons pd_str pad_nil))))))))))
    (pssd_cons (psd_setLc (i := 6) (own := [("word", 7), ("is_so", 8)]) rfl scdLHeard.nd rfl rfl (sw_true rfl rfl rfl (by decide +kernel)) (pib_zip (by rfl) B.zip (PEd.pb (pd_var 5)) (pd_varB 4)) (blkOk_by (own := [("word", 7), ("is_so", 8)]) (N := ["call", "told", "error", "e", "kinds_so", "words", "found", "word", "is_so"]) (sc := defScope sdLHeard) (by decide +kernel)) (fun _ _ _ _ _ => (pgd_tup (n := 2) rfl (pgsd_cons (pgd_name 7 scdLHeard.nd rfl (Or.inl rfl) (by decide)) (pgsd_cons (pgd_name 8 scdLHeard.nd rfl (Or.inl rfl) (by decide)) pgsd_nil)))) (fun _ _ _ _ _ => (ptsd_one (ptd_tru (PEd.pb (pd_var 8))))) (fun _ _ _ _ _ => (pd_var 7)))
    (pssd_cons (psd_if (PWd.ptd (pwd_or (ptd_cmp (od_ne (Rd.hu64 hr)) (PEd.pb (pd_callB cd_len (by rfl) B.len (by decide +kernel) (pab_cons (PEd.pb (pd_var 6)) pab_nil))) (PEd.pb pd_int) (nomark _)) (pwd_or1 (ptd_not (ptd_val (pd_isiEb (U := "ValueError") IT (by rfl) B.isinstance (by rfl) n_ValueError (by rfl) (pd_var 2))))))) 
      (pssd_one (psd_ret pd_str)) pssd_nil)
    (pssd_cons (psd_if (ptd_cmp (od_eq (Rd.hu64 hr)) (PEd.pb (pd_ix (PEd.pb (pd_var 6)) (PEd.pb pd_int))) (PEd.pb pd_str) (nomark _)) 
      (pssd_one (psd_ret pd_str)) pssd_nil)
    (pssd_cons (psd_if (ptd_cmp (od_in (hu65 hr)) (PEd.pb (pd_ix (PEd.pb (pd_var 6)) (PEd.pb pd_int))) (PEd.pb (pd_tup (pad_cons pd_str (pad_cons pd_str pad_nil)))) (by rfl)) 
      (pssd_one (psd_ret (pd_tup (pad_cons (pd_ix (PEd.pb (pd_var 6)) (PEd.pb pd_int)) (pad_cons (pd_fldE FT (pd_var 2)) pad_nil))))) pssd_nil)
    (pssd_cons (psd_if (ptd_cmp (od_in (hu65 hr)) (PEd.pb (pd_ix (PEd.pb (pd_var 6)) (PEd.pb pd_int))) (PEd.pb (pd_tup (pad_cons pd_str (pad_cons pd_str pad_nil)))) (by rfl)) 
      (pssd_one (psd_ret (pd_tup (pad_cons (pd_ix (PEd.pb (pd_var 6)) (PEd.pb pd_int)) (pad_cons (pd_ifExp (ptd_cmp (od_eq (Rd.hu64 hr)) (PEd.pb (pd_ix (PEd.pb (pd_var 6)) (PEd.pb pd_int))) (PEd.pb pd_str) (nomark _)) (pd_fldE FT (pd_var 2)) (pd_fldE FT (pd_var 2))) pad_nil))))) pssd_nil)
    (pssd_one (psd_ret (pd_tup (pad_cons (pd_ix (PEd.pb (pd_var 6)) (PEd.pb pd_int)) (pad_cons (pd_fldE FT (pd_var 2)) pad_nil)))))))))))))))))), ?_⟩
  obtain ⟨Q', Ex', h1, h2, h3⟩ := h
  unfold env0
  walk_at "pd"
  refine ⟨Q', Ex', h1, h2, fun c fs N' hx => ?_⟩
  obtain ⟨r, hr', hR⟩ := h3 c fs N' hx
  clear h3 h2 h1 hx
  rcases hr' with ⟨p, hp, x, rfl, rfl, rfl⟩ | ⟨rfl, rfl, rfl⟩
  · simp only [heardTab, List.mem_cons, List.not_mem_nil, or_false] at hp
    rcases hp with rfl | rfl | rfl | rfl | rfl | rfl | rfl
    · refine ⟨by decide +kernel, ?_⟩
      walk_at "tb"
      try walk_at "pd"
      refine ⟨by decide, ?_⟩
      refine lcD_filterM wordB (fun q => q.2) (fun q => .str q.1) [(Str.ofString "pairs", true), (Str.ofString "term", false), (Str.ofString "number", false), (Str.ofString "exchange", false), (Str.ofString "four", false), (Str.ofString "other", false), (Str.ofString "lacks", false)] [] _ _ (by decide) (fun q hq N Q1 Q0 q1 q0 => ?_) ?_
      · unfold wordB
        walk_at "pd"
        cases e : q.2 with
        | true => rw [if_pos rfl]; exact q1 e
        | false => rw [if_neg (by decide)]; exact q0 e
      · simp only [List.nil_append, List.filter, List.map_cons, List.map_nil, List.length_cons, List.length_nil, atI_0, List.getElem?_cons_zero]
        refine oEq_int ?_
        try walk_at "pd"
        rw [if_neg (by decide)]
        try walk_at "tb"
        repeat (walk_at "hd"; try walk_at "pd")
        try walk_at "tb"
        try walk_at "pd"
        first | exact hR | exact ⟨rfl, hR⟩
    · refine ⟨by decide +kernel, ?_⟩
      walk_at "tb"
      try walk_at "pd"
      refine ⟨by decide, ?_⟩
      refine lcD_filterM wordB (fun q => q.2) (fun q => .str q.1) [(Str.ofString "pairs", false), (Str.ofString "term", true), (Str.ofString "number", false), (Str.ofString "exchange", false), (Str.ofString "four", false), (Str.ofString "other", false), (Str.ofString "lacks", false)] [] _ _ (by decide) (fun q hq N Q1 Q0 q1 q0 => ?_) ?_
      · unfold wordB
        walk_at "pd"
        cases e : q.2 with
        | true => rw [if_pos rfl]; exact q1 e
        | false => rw [if_neg (by decide)]; exact q0 e
      · simp only [List.nil_append, List.filter, List.map_cons, List.map_nil, List.length_cons, List.length_nil, atI_0, List.getElem?_cons_zero]
        refine oEq_int ?_
        try walk_at "pd"
        rw [if_neg (by decide)]
        try walk_at "tb"
        repeat (walk_at "hd"; try walk_at "pd")
        try walk_at "tb"
        try walk_at "pd"
        first | exact hR | exact ⟨rfl, hR⟩
    · refine ⟨by decide +kernel, ?_⟩
      walk_at "tb"
      try walk_at "pd"
      refine ⟨by decide, ?_⟩
      refine lcD_filterM wordB (fun q => q.2) (fun q => .str q.1) [(Str.ofString "pairs", false), (Str.ofString "term", false), (Str.ofString "number", true), (Str.ofString "exchange", false), (Str.ofString "four", false), (Str.ofString "other", false), (Str.ofString "lacks", false)] [] _ _ (by decide) (fun q hq N Q1 Q0 q1 q0 => ?_) ?_
      · unfold wordB
        walk_at "pd"
        cases e : q.2 with
        | true => rw [if_pos rfl]; exact q1 e
        | false => rw [if_neg (by decide)]; exact q0 e
      · simp only [List.nil_append, List.filter, List.map_cons, List.map_nil, List.length_cons, List.length_nil, atI_0, List.getElem?_cons_zero]
        refine oEq_int ?_
        try walk_at "pd"
        rw [if_neg (by decide)]
        try walk_at "tb"
        repeat (walk_at "hd"; try walk_at "pd")
        try walk_at "tb"
        try walk_at "pd"
        first | exact hR | exact ⟨rfl, hR⟩
    · refine ⟨by decide +kernel, ?_⟩
      walk_at "tb"
      try walk_at "pd"
      refine ⟨by decide, ?_⟩
      refine lcD_filterM wordB (fun q => q.2) (fun q => .str q.1) [(Str.ofString "pairs", false), (Str.ofString "term", false), (Str.ofString "number", false), (Str.ofString "exchange", true), (Str.ofString "four", false), (Str.ofString "other", false), (Str.ofString "lacks", false)] [] _ _ (by decide) (fun q hq N Q1 Q0 q1 q0 => ?_) ?_
      · unfold wordB
        walk_at "pd"
        cases e : q.2 with
        | true => rw [if_pos rfl]; exact q1 e
        | false => rw [if_neg (by decide)]; exact q0 e
      · simp only [List.nil_append, List.filter, List.map_cons, List.map_nil, List.length_cons, List.length_nil, atI_0, List.getElem?_cons_zero]
        refine oEq_int ?_
        try walk_at "pd"
        rw [if_neg (by decide)]
        try walk_at "tb"
        repeat (walk_at "hd"; try walk_at "pd")
        try walk_at "tb"
        try walk_at "pd"
        first | exact hR | exact ⟨rfl, hR⟩
    · refine ⟨by decide +kernel, ?_⟩
      walk_at "tb"
      try walk_at "pd"
      refine ⟨by decide, ?_⟩
      refine lcD_filterM wordB (fun q => q.2) (fun q => .str q.1) [(Str.ofString "pairs", false), (Str.ofString "term", false), (Str.ofString "number", false), (Str.ofString "exchange", false), (Str.ofString "four", true), (Str.ofString "other", false), (Str.ofString "lacks", false)] [] _ _ (by decide) (fun q hq N Q1 Q0 q1 q0 => ?_) ?_
      · unfold wordB
        walk_at "pd"
        cases e : q.2 with
        | true => rw [if_pos rfl]; exact q1 e
        | false => rw [if_neg (by decide)]; exact q0 e
      · simp only [List.nil_append, List.filter, List.map_cons, List.map_nil, List.length_cons, List.length_nil, atI_0, List.getElem?_cons_zero]
        refine oEq_int ?_
        try walk_at "pd"
        rw [if_neg (by decide)]
        try walk_at "tb"
        repeat (walk_at "hd"; try walk_at "pd")
        try walk_at "tb"
        try walk_at "pd"
        first | exact hR | exact ⟨rfl, hR⟩
    · refine ⟨by decide +kernel, ?_⟩
      walk_at "tb"
      try walk_at "pd"
      refine ⟨by decide, ?_⟩
      refine lcD_filterM wordB (fun q => q.2) (fun q => .str q.1) [(Str.ofString "pairs", false), (Str.ofString "term", false), (Str.ofString "number", false), (Str.ofString "exchange", false), (Str.ofString "four", false), (Str.ofString "other", false), (Str.ofString "lacks", true)] [] _ _ (by decide) (fun q hq N Q1 Q0 q1 q0 => ?_) ?_
      · unfold wordB
        walk_at "pd"
        cases e : q.2 with
        | true => rw [if_pos rfl]; exact q1 e
        | false => rw [if_neg (by decide)]; exact q0 e
      · simp only [List.nil_append, List.filter, List.map_cons, List.map_nil, List.length_cons, List.length_nil, atI_0, List.getElem?_cons_zero]
        refine oEq_int ?_
        try walk_at "pd"
        rw [if_neg (by decide)]
        try walk_at "tb"
        repeat (walk_at "hd"; try walk_at "pd")
        try walk_at "tb"
        try walk_at "pd"
        first | exact hR | exact ⟨rfl, hR⟩
    · refine ⟨by decide +kernel, ?_⟩
      walk_at "tb"
      try walk_at "pd"
      first | exact hR | exact ⟨rfl, hR⟩
  · refine ⟨by decide +kernel, ?_⟩
    walk_at "tb"
    try walk_at "pd"
    refine ⟨by decide, ?_⟩
    refine lcD_filterM wordB (fun q => q.2) (fun q => .str q.1) [(Str.ofString "pairs", false), (Str.ofString "term", false), (Str.ofString "number", false), (Str.ofString "exchange", false), (Str.ofString "four", false), (Str.ofString "other", true), (Str.ofString "lacks", false)] [] _ _ (by decide) (fun q hq N Q1 Q0 q1 q0 => ?_) ?_
    · unfold wordB
      walk_at "pd"
      cases e : q.2 with
      | true => rw [if_pos rfl]; exact q1 e
      | false => rw [if_neg (by decide)]; exact q0 e
    · simp only [List.nil_append, List.filter, List.map_cons, List.map_nil, List.length_cons, List.length_nil, atI_0, List.getElem?_cons_zero]
      refine oEq_int ?_
      try walk_at "pd"
      rw [if_neg (by decide)]
      try walk_at "tb"
      repeat (walk_at "hd"; try walk_at "pd")
      try walk_at "tb"
      try walk_at "pd"
      first | exact hR | exact ⟨rfl, hR⟩
end
end Bb
namespace Bb
open PySem PySem.Spec PyProof.Rows L2 Pd Tmm
section
variable {P : Program} {w : World} {K : PySem.W.Frag} {mg : Str → Option Value} {base : Heap}
theorem ifK_skip {t : TD} {f : SD} {env : PEnv} {N : Nat} {R : PEnds} (hc : ∀ Q : Bool → Nat → Prop, Q false N → t env N Q) (h : R.nx env N) : fIfK t f fNil env N R := hc _ (by
  show (if false = true then _ else fNil env N R)
  rw [if_neg (by decide)]
  exact h)
theorem oEq_dec {x y : D} {neg b : Bool} {P : D → Prop} (h1 : x.eqOk = true) (h2 : y.eqOk = true) (e : (PyData.eqv x.py y.py != neg) = b) (h : P (.bl b)) : oEq neg x y P := ⟨h1, h2, by rw [e]; exact h⟩
theorem oEq_bl {b c neg : Bool} {P : D → Prop} (h : P (.bl ((b == c) != neg))) : oEq neg (.bl b) (.bl c) P := by
  cases b <;> cases c <;> exact ⟨by decide, by decide, h⟩
theorem heard_bad {fl : FL} {N : Nat} {x : D} {R : D → Nat → Prop} (h0 : fl N (fun _ _ => False) (fun c fs N' => N' = N ∧ c = Str.ofString "BadNumber" ∧ fs = [(Str.ofString "value", x)])) (h : R (.tup [.str (Str.ofString "number"), x]) N) : FHeard fl N R :=
  ⟨_, _, h0, fun _ _ z => z.elim, fun c fs N' ⟨e, ec, ef⟩ => ⟨_, .inl ⟨("BadNumber", "value", "number"), by simp [heardTab], x, ec, ef, rfl⟩, e ▸ h⟩⟩
theorem shm_bools {bs : List Bool} (h : bs ≠ []) (hl : bs.length ≤ 100) : reprOkM (bs.map D.bl) := ShM.repr (k := 0) (m := 10) (fun x hx => by
  obtain ⟨b, _, rfl⟩ := List.mem_map.mp hx
  exact ⟨rfl, rfl, by simp [D.rlM]⟩) (by simpa using h) (by decide) (by rw [List.length_map]; omega)
theorem bad02 {n : Nat} (h : n ≤ 12) : ∀ x ∈ [D.non, D.int (-1), nD n, D.bl true, D.str (Str.ofString "0"), D.tup [D.int 0], D.int (10 ^ (Int.toNat 30)), D.mt], wholeD x 0 ((n : Int) - 1) = false ∧ x.tyN.isSome = true ∧ ShM 3 100 x := by
  intro x hx
  simp only [List.mem_cons, List.not_mem_nil, or_false] at hx
  rcases hx with rfl | rfl | rfl | rfl | rfl | rfl | rfl | rfl
  · exact ⟨rfl, rfl, by decide +kernel, by decide +kernel, by decide +kernel⟩
  · exact ⟨by simp [wholeD], rfl, by decide +kernel, by decide +kernel, by decide +kernel⟩
  · refine ⟨by simp [wholeD]; omega, rfl, ShM.of (k := 3) rfl ?_ ?_⟩
    · simp only [nD, D.shw, Int.natAbs_natCast, decide_eq_true_eq]
      by_cases hn : n = 0
      · subst hn; decide
      · exact (Nat.log2_lt hn).mpr (Nat.lt_of_lt_of_le (Nat.lt_of_le_of_lt h (by decide : 12 < 2 ^ 10)) (Nat.pow_le_pow_right (by decide) (by decide)))
    · simp only [nD, D.rl]
      rw [if_pos (by omega)]
      decide
  · exact ⟨rfl, rfl, by decide +kernel, by decide +kernel, by decide +kernel⟩
  · exact ⟨rfl, rfl, by decide +kernel, by decide +kernel, by decide +kernel⟩
  · exact ⟨rfl, rfl, by decide +kernel, by decide +kernel, by decide +kernel⟩
  · refine ⟨?_, rfl, by decide +kernel, by decide +kernel, by decide +kernel⟩
    simp only [wholeD, Bool.and_eq_false_iff, decide_eq_false_iff_not]
    exact .inr (by have : (12 : Int) < 10 ^ Int.toNat 30 := by decide +kernel
                   omega)
  · exact ⟨rfl, rfl, by decide +kernel, by decide +kernel, by decide +kernel⟩
abbrev sdLaw : Stmt := top 32
theorem scdLaw : FnScope ["script", "m", "turn", "many", "pairs", "order", "before", "one", "told", "other", "odd", "y", "less", "is_so"] ["script"] (defScope sdLaw) := ⟨rfl, rfl, rfl, by decide +kernel, rfl, by decide +kernel, by decide +kernel⟩
def spLaw (T : LTabs) (K : PySem.W.Frag) : Sp := fun vs H Q _ => ∃ (a : Addr) (ns : List Int), vs = [.ref a] ∧ SqL K H a (ns.map V.int) ∧ ns.length ≤ 63 ∧ LamX.Tabs T H ∧ ∀ H', Q (.bl true) H'
theorem ok_law {T : LTabs} {f c cT : Addr} {fd : FuncData} (Fu : Rd.FunC K "law" "law" sdLaw f fd c) (TBl : LamX.TabB base mg c cT) (hmT : (cT, (envOfC "law" (defScope sdLaw) 0 0 (.ref c)).qual ++ "<lambda>") ∈ T) (hu : ∀ q ∈ T, q.1 = cT → q.2 = (envOfC "law" (defScope sdLaw) 0 0 (.ref c)).qual ++ "<lambda>") (B : Bts mg) (fo_Order_pairs : FldOk K mg "Order" "pairs") (mx_Order_is_ahead : MethX T P w K mg base 3 "Order" "is_ahead" ["self", "one", "other"] FIsAheadX) (md_Order_is_ahead : MethD T P w K mg base 3 "Order" "is_ahead" ["self", "one", "other"] (FX.calm FIsAheadX)) {CO : Addr} (OI : OrdI P w K mg base CO) (OO : OrdOth K CO) (c__law_draw : CalleeD T P w K mg base 2 "_law_draw" ["m", "limit"] FDraw) (c__law_pairs : CalleeD T P w K mg base 4 "_law_pairs" ["m", "many"] FLPairs) (c__law_closed : CalleeD T P w K mg base 1 "_law_closed" ["many", "pairs"] FClosed) (c__law_like : CalleeD T P w K mg base 1 "_law_like" ["told", "due"] FLikeM) (c__law_made : CalleeD T P w K mg base 20 "_law_made" ["before"] FMade) (h__law_heard : ∀ k, 1 ≤ k → LamOk T P w K mg base k "_law_heard" "call" FHeard) (c__law_begun : Rd.Callee P w K mg base CX0 2 "_law_begun" ["script"] (spBegun K)) : Rd.FnOkG P w K mg base CX0 24 f fd ["script"] (spLaw T K) := by
  refine Rd.okGC Fu scdLaw (fun vs H Q E h => ?_) (fun A outer s H vs Q E hG hr h => ?_)
  · obtain ⟨a, ns, rfl, _⟩ := h
    rfl
  obtain ⟨a, ns, rfl, hS, hlen, tb, k⟩ := h
  refine ⟨_, (pss_cons (ps_set (i := 1) scdLaw.nd rfl (Or.inl rfl) (Rd.pe_callC c__law_begun (hr.mono (by decide)) (pa_cons (pv 0) pa_nil)))
    (PSsd.anyC (T := T) fun C hT => by subst hT; exact 
    (pssd_cons (psd_for (ws := [2]) PassesOwn.never rfl (pid_range1 (by rfl) B.range (PEd.pb pd_int)) (pgd_name 2 scdLaw.nd rfl (Or.inl rfl) (by decide)) 
      (pssd_cons (psd_set (i := 3) scdLaw.nd rfl (Or.inl rfl) (pd_op od_add (PEd.pb pd_int) (PEd.pb (pd_call c__law_draw hG (hr.mono (by omega)) (pad_cons (pd_var 1) (pad_cons pd_int pad_nil))))))
      (pssd_cons (psd_set (i := 4) scdLaw.nd rfl (Or.inl rfl) (pd_call c__law_pairs hG (hr.mono (by omega)) (pad_cons (pd_var 1) (pad_cons (pd_var 3) pad_nil))))
      (pssd_cons (psd_asg (ws := [5, 6]) (pd_tup (pad_cons (pd_ord OI (hr.mono (by omega)) (pad_cons (pd_var 3) (pad_cons (pd_var 4) pad_nil))) (pad_cons (pd_call c__law_closed hG (hr.mono (by omega)) (pad_cons (pd_var 3) (pad_cons (pd_var 4) pad_nil))) pad_nil))) (pgd_tup (n := 2) rfl (pgsd_cons (pgd_name 5 scdLaw.nd rfl (Or.inr rfl) (by decide)) (pgsd_cons (pgd_name 6 scdLaw.nd rfl (Or.inr rfl) (by decide)) pgsd_nil))))
      (pssd_cons (psd_for (ws := [7]) PassesOwn.never rfl (pid_range1 (by rfl) B.range (PEd.pb (pd_var 3))) (pgd_name 7 scdLaw.nd rfl (Or.inr rfl) (by decide)) 
        (pssd_cons (psd_setLc (i := 8) (own := [("other", 9)]) rfl scdLaw.nd rfl rfl (sw_true rfl rfl rfl (by decide +kernel)) (PId.pib (pid_range1 (by rfl) B.range (PEd.pb (pd_var 3)))) (blkOk_by (own := [("other", 9)]) (N := ["script", "m", "turn", "many", "pairs", "order", "before", "one", "told", "other", "odd", "y", "less", "is_so"]) (sc := defScope sdLaw) (by decide +kernel)) (fun _ _ _ _ _ => (pgd_name 9 scdLaw.nd rfl (Or.inl rfl) (by decide))) (fun _ _ _ _ _ => ptsd_nil) (fun _ _ _ _ _ => (pd_meth md_Order_is_ahead hG (hr.mono (by omega)) (pd_var 5) (pad_cons (pd_var 7) (pad_cons (pd_var 9) pad_nil)))))
        (pssd_one (psd_ifK (ptd_not (ptd_val (pd_call c__law_like hG (hr.mono (by omega)) (pad_cons (pd_var 8) (pad_cons (PEf.pd (pf_lc (own := [("other", 9)]) rfl scdLaw.nd (PId.pib (pid_range1 (by rfl) B.range (PEd.pb (pd_var 3)))) (blkOk_by (own := [("other", 9)]) (N := ["script", "m", "turn", "many", "pairs", "order", "before", "one", "told", "other", "odd", "y", "less", "is_so"]) (sc := defScope sdLaw) (by decide +kernel)) (fun _ _ _ _ _ => (pgd_name 9 scdLaw.nd rfl (Or.inl rfl) (by decide))) (fun _ _ _ _ _ => ptsd_nil) (fun _ _ _ _ _ => (pd_cmp (od_in (hu65 hr)) (PEd.pb (pd_var 7)) (PEd.pb (pd_ix (PEd.pb (pd_var 6)) (PEd.pb (pd_var 9)))) (by rfl))))) pad_nil))))) 
          (pssd_one (psd_ret (pd_hide pd_bl))) pssd_nil))))
      (pssd_cons (psd_set (i := 10) scdLaw.nd rfl (Or.inr rfl) (pd_ix (PEd.pb (PEf.pd (pf_lst (pad_cons pd_non (pad_cons (pd_un ud_neg (PEd.pb pd_int)) (pad_cons (pd_var 3) (pad_cons pd_bl (pad_cons pd_str (pad_cons (pd_tup (pad_cons pd_int pad_nil)) (pad_cons (pd_op od_pow (PEd.pb pd_int) (PEd.pb pd_int)) (pad_cons pd_mt pad_nil))))))))))) (PEd.pb (pd_call c__law_draw hG (hr.mono (by omega)) (pad_cons (pd_var 1) (pad_cons pd_int pad_nil))))))
      (pssd_cons (psd_set (i := 8) scdLaw.nd rfl (Or.inl rfl) (PEf.pd (pf_lst (pad_cons (pd_lamcall (k := 3) (h__law_heard _ (by omega)) hG (hr.mono (by omega)) TBl rfl hmT hu (LamX.lamS_by (sc := defScope sdLaw) (by decide +kernel)) rfl (fun _ _ _ _ _ => rfl) (fun A outer s H H0 HB E f c1 Ex hG hr tk => (pd_methX mx_Order_is_ahead tk hG (hr.mono (by omega)) (pd_var 5) (pad_cons (pd_var 10) (pad_cons pd_non pad_nil))))) (pad_cons (pd_lamcallD (k := 3) (iy := 11) (h__law_heard _ (by omega)) hG (hr.mono (by omega)) TBl rfl hmT hu (Lk.lamP_by (sc := defScope sdLaw) (by decide +kernel)) scdLaw.nd rfl rfl rfl (fun _ _ _ _ _ _ _ _ => ⟨_, rfl, rfl⟩) (fun A outer s H H0 HB E f c1 Ex hG hr tk => (pd_methX mx_Order_is_ahead tk hG (hr.mono (by omega)) (pd_var 5) (pad_cons pd_int (pad_cons (pd_var 10) pad_nil))))) pad_nil)))))
      (pssd_cons (psd_ifK (ptd_not (ptd_val (pd_call c__law_like hG (hr.mono (by omega)) (pad_cons (pd_var 8) (pad_cons (pd_op od_mul (PEd.pb (PEf.pd (pf_lst (pad_cons (pd_tup (pad_cons pd_str (pad_cons (pd_var 10) pad_nil))) pad_nil)))) (PEd.pb pd_int)) pad_nil))))) 
        (pssd_one (psd_ret (pd_hide pd_bl))) pssd_nil)
      (pssd_cons (psd_ifK (PWd.ptd (pwd_or (ptd_not (ptd_cmp (od_eqO OI (hr.mono (by omega))) (PEd.pb (pd_var 5)) (PEd.pb (pd_call c__law_made hG (hr.mono (by omega)) (pad_cons (pd_var 6) pad_nil))) (nomark _))) (pwd_or1 (ptd_cmp (od_neO OI (hr.mono (by omega))) (PEd.pb (pd_var 5)) (PEd.pb (pd_ord OI (hr.mono (by omega)) (pad_cons (pd_var 3) (pad_cons (pd_rev (PEd.pb (pd_var 4))) pad_nil)))) (nomark _))))) 
        (pssd_one (psd_ret (pd_hide pd_bl))) pssd_nil)
      (pssd_cons (psd_set (i := 12) scdLaw.nd rfl (Or.inl rfl) (pd_slice (PEd.pb (pd_var 4)) pod_none (pod_some (pd_un ud_neg (PEd.pb pd_int)))))
      (pssd_cons (psd_set (i := 13) scdLaw.nd rfl (Or.inl rfl) (pd_cmp (od_eq (Rd.hu64 hr)) (PEd.pb (pd_call c__law_closed hG (hr.mono (by omega)) (pad_cons (pd_var 3) (pad_cons (pd_var 12) pad_nil)))) (PEd.pb (pd_var 6)) (nomark _)))
      (pssd_cons (psd_ifK (PWd.ptd (pwd_or (ptd_cmp (od_ne (Rd.hu64 hr)) (PEd.pb (pd_cmp (od_eqO OI (hr.mono (by omega))) (PEd.pb (pd_var 5)) (PEd.pb (pd_ord OI (hr.mono (by omega)) (pad_cons (pd_var 3) (pad_cons (pd_var 12) pad_nil)))) (nomark _))) (PEd.pb (pd_var 13)) (nomark _)) (pwd_or1 (ptd_cmp (od_eq (Rd.hu64 hr)) (PEd.pb (pd_cmp (od_neO OI (hr.mono (by omega))) (PEd.pb (pd_var 5)) (PEd.pb (pd_ord OI (hr.mono (by omega)) (pad_cons (pd_var 3) (pad_cons (pd_var 12) pad_nil)))) (nomark _))) (PEd.pb (pd_var 13)) (nomark _))))) 
        (pssd_one (psd_ret (pd_hide pd_bl))) pssd_nil)
      (pssd_cons (psd_ifK (PWd.ptd (pwd_and (ptd_cmp od_lt (PEd.pb (pd_var 3)) (PEd.pb pd_int) (nomark _)) (pwd_and1 (ptd_cmp (od_eqO OI (hr.mono (by omega))) (PEd.pb (pd_var 5)) (PEd.pb (pd_ord OI (hr.mono (by omega)) (pad_cons (pd_op od_add (PEd.pb (pd_var 3)) (PEd.pb pd_int)) (pad_cons (pd_var 4) pad_nil)))) (nomark _))))) 
        (pssd_one (psd_ret (pd_hide pd_bl))) pssd_nil)
      (pssd_cons (psd_set (i := 10) scdLaw.nd rfl (Or.inr rfl) (pd_ix (PEd.pb (PEf.pd (pf_lst (pad_cons pd_non (pad_cons (pd_var 4) (pad_cons (pd_var 6) (pad_cons pd_int (pad_cons pd_str (pad_cons pd_mt (pad_cons (pd_fld fo_Order_pairs (pd_var 5)) pad_nil)))))))))) (PEd.pb (pd_call c__law_draw hG (hr.mono (by omega)) (pad_cons (pd_var 1) (pad_cons pd_int pad_nil))))))
      (pssd_one (psd_ifK (ptd_cmp (od_ne (Rd.hu64 hr)) (PEd.pb (PEf.pd (pf_lst (pad_cons (pd_cmp (od_eqOth OI OO (hr.mono (by omega))) (PEd.pb (pd_var 5)) (PEd.pb (pd_var 10)) (nomark _)) (pad_cons (pd_cmp (od_eqOthR OI OO (hr.mono (by omega))) (PEd.pb (pd_var 10)) (PEd.pb (pd_var 5)) (nomark _)) (pad_cons (pd_cmp (od_neOth OI OO (hr.mono (by omega))) (PEd.pb (pd_var 5)) (PEd.pb (pd_var 10)) (nomark _)) pad_nil)))))) (PEd.pb (PEf.pd (pf_lst (pad_cons pd_bl (pad_cons pd_bl (pad_cons pd_bl pad_nil)))))) (nomark _)) 
        (pssd_one (psd_ret (pd_hide pd_bl))) pssd_nil))))))))))))))))
    (pssd_one (psd_ret (pd_hide (pd_cmp od_is (PEd.pb (pd_meth md_Order_is_ahead hG (hr.mono (by omega)) (pd_ord OI (hr.mono (by omega)) (pad_cons pd_int (pad_cons (PEf.pd (pf_lst (pad_cons (pd_tup (pad_cons pd_int (pad_cons pd_int pad_nil))) pad_nil))) pad_nil))) (pad_cons pd_int (pad_cons pd_int pad_nil)))) (PEd.pb pd_bl) (nomark _)))))))), ?_⟩
  walk_at "go"
  refine ⟨a, ns, rfl, hS, hlen, fun H1 d g c s1 hd0 hg0 ms => ?_⟩
  refine law_go (T := T) (n := 12) (tabs_begun tb ms s1) rfl rfl k ?_
  clear k hS hlen ms hd0 hg0 s1 tb
  simp only [envL]
  walk_at "pd"
  refine ⟨by decide, by decide, ?_⟩
  refine loop_inv (fun rest env N => N + 500 * rest.length ≤ 2000 ∧ ∃ u2 u3 u4 u5 u6 u7 u8 u9 u10 u11 u12 u13 : Sl, env = [.no, .sh .drw, u2, u3, u4, u5, u6, u7, u8, u9, u10, u11, u12, u13]) ?_ ?_ _ _ _ ⟨by simp, .no, .no, .no, .no, .no, .no, .no, .no, .no, .no, .no, .no, rfl⟩
  · rintro tu rest env N R' ⟨hN, u2, u3, u4, u5, u6, u7, u8, u9, u10, u11, u12, u13, rfl⟩ hnx hct hrt hbk
    clear hct hrt hbk
    simp only [List.length_cons] at hN
    walk_at "pd"
    refine ⟨10, rfl, by omega, ⟨by decide, by decide⟩, fun k k0 k1 => ?_⟩
    obtain ⟨k, rfl⟩ := Int.eq_ofNat_of_zero_le k0
    try walk_at "pd"
    have e1 : D.int (1 + (k : Int)) = nD (1 + k) := by simp [nD]
    rw [e1]
    generalize hn : 1 + k = n
    have n1 : 1 ≤ n := by omega
    have n10 : n ≤ 10 := by omega
    clear e1 k0
    refine ⟨n, rfl, by omega, by omega, by omega, fun ps N1 hac hpl hN1 => ?_⟩
    unfold eOrd
    try walk_at "pd"
    obtain ⟨gP, gL, gT, gR⟩ := ord_tc hac
    refine ⟨n, ps, .inl rfl, ⟨by omega, by omega⟩, gP, ?_⟩
    generalize putAll (List.replicate n 0) ps = B at gL gT gR ⊢
    subst gL
    have hR := tcR_ord hac
    refine ⟨B.length, ps, rfl, by omega, hac.1, fun fs hclo => ?_⟩
    rw [clo_tc hclo hac]
    clear hclo fs
    try walk_at "pd"
    refine ⟨by omega, by omega, ?_⟩
    rw [show (1 + (k : Int)).toNat = B.length by omega]
    refine loop_map (f := fun i : Nat => D.int (i : Int)) (fun q1 q2 env N2 => N2 = N1 ∧ ∃ u7 u8 u9 : Sl, env = [.no, .sh .drw, .sh tu, .sh (nD B.length), .sh (prsD ps), .sh (ordD B.length B), .sh (nssD (befR B.length (tcR ps))), u7, u8, u9, u10, u11, u12, u13]) ?_ ?_ ⟨rfl, _, _, _, rfl⟩
    · rintro i q1 q2 env N2 R2 e ⟨rfl, u7, u8, u9, rfl⟩ hnx2 hct2 hrt2
      clear hct2 hrt2
      have hi : i < B.length := List.mem_range.mp (by rw [← e]; simp)
      walk_at "pd"
      refine ⟨by omega, by omega, ?_⟩
      rw [Int.toNat_natCast]
      refine lcD_mapM (fun i : Nat => D.int (i : Int)) (fun j : Nat => D.bl (tcR ps i j)) (List.range B.length) _ _ _ (by simp only [List.length_nil, List.length_range]; omega) (fun j hj N3 Q q => ?_) ?_
      · have hj := List.mem_range.mp hj
        walk_at "pd"
        refine ⟨rfl, B, D.int (i : Int), D.int (j : Int), rfl, by omega, by omega, rfl, rfl, fun h => absurd h (by simp [wholeD]; omega), fun _ h => absurd h (by simp [wholeD]; omega), fun a b ea eb _ _ => ?_⟩
        obtain rfl : i = a := by simp only [D.int.injEq] at ea; omega
        obtain rfl : j = b := by simp only [D.int.injEq] at eb; omega
        rw [gR]
        exact q
      · rw [List.nil_append]
        refine ifK_skip (fun Q q => ?_) ?_
        · walk_at "pd"
          refine ⟨by omega, by omega, ?_⟩
          rw [Int.toNat_natCast]
          refine lcD_mapM (fun i : Nat => D.int (i : Int)) (fun j : Nat => D.bl (tcR ps i j)) (List.range B.length) _ _ _ (by simp only [List.length_nil, List.length_range]; omega) (fun j hj N3 Q q => ?_) ?_
          · have hj := List.mem_range.mp hj
            walk_at "pd"
            rw [befR_get1 j hj]
            try dsimp only
            have ei : D.int (i : Int) = D.int (i : Int) := rfl
            have em : nsD ((List.range B.length).filter fun x => tcR ps x j) = D.lst ((((List.range B.length).filter fun x => tcR ps x j).map fun n => ((n : Nat) : Int)).map D.int) := by simp only [nsD]; rw [List.map_map]; rfl
            rw [em]
            refine oIn_ints ?_
            rw [Bool.bne_false]
            have eb : decide ((i : Int) ∈ ((List.range B.length).filter fun x => tcR ps x j).map fun n => ((n : Nat) : Int)) = tcR ps i j := by
              rw [Bool.eq_iff_iff, decide_eq_true_eq, List.mem_map]
              constructor
              · rintro ⟨z, hz, ez⟩
                obtain rfl : z = i := by omega
                exact (List.mem_filter.mp hz).2
              · intro h
                exact ⟨i, List.mem_filter.mpr ⟨List.mem_range.mpr hi, h⟩, rfl⟩
            rw [eb]
            exact q
          · rw [List.nil_append]
            refine ⟨_, rfl, ?_, ?_⟩
            · have : List.map (fun j : Nat => D.bl (tcR ps i j)) (List.range B.length) = ((List.range B.length).map fun j => tcR ps i j).map D.bl := by rw [List.map_map]; rfl
              rw [this]
              exact shm_bools (by intro z; have := congrArg List.length z; simp only [List.length_map, List.length_range, List.length_nil] at this; omega) (by rw [List.length_map, List.length_range]; omega)
            · exact q
        · exact hnx2 _ _ ⟨rfl, _, _, _, rfl⟩
    · rintro env N2 ⟨rfl, u7, u8, u9, rfl⟩
      walk_at "pd"
      refine ⟨⟨by decide, by decide, by decide⟩, 8, rfl, by omega, ⟨by decide, by decide⟩, fun r r0 r1 => ?_⟩
      obtain ⟨odd, hodd, eodd⟩ := atI_pick (xs := [D.non, D.int (-1), nD B.length, D.bl true, D.str (Str.ofString "0"), D.tup [D.int 0], D.int (10 ^ (Int.toNat 30)), D.mt]) r0 (by simpa using r1)
      simp only [eodd]
      obtain ⟨w1, ty1, sh1⟩ := bad02 (by omega) odd hodd
      clear hodd eodd r0 r1
      have noN : ∀ a : Nat, odd = nD a → a < B.length → False := fun a ea ha => by
        rw [ea] at w1
        simp only [wholeD, Bool.and_eq_false_iff, decide_eq_false_iff_not] at w1
        omega
      unfold eLam
      refine heard_bad (x := odd) ?_ ?_
      · walk_at "pd"
        exact ⟨rfl, B, odd, .non, rfl, by omega, by omega, ty1, rfl, fun _ => ⟨rfl, rfl, rfl⟩, fun h => absurd h (by rw [w1]; decide), fun a b ea _ ha _ => (noN a ea ha).elim⟩
      try dsimp only
      unfold eLamD
      refine heard_bad (x := odd) ?_ ?_
      · walk_at "pd"
        exact ⟨rfl, B, .int 0, odd, rfl, by omega, by omega, rfl, ty1, fun h => absurd h (by simp [wholeD]; omega), fun _ _ => ⟨rfl, rfl, rfl⟩, fun a b _ eb _ hb => (noN b eb hb).elim⟩
      try dsimp only
      refine ifK_skip (fun Q q => ?_) ?_
      · walk_at "pd"
        refine ⟨⟨by decide, by decide, by decide⟩, _, rfl, ?_, ?_⟩
        · have sP : ShM 4 300 (D.tup [D.str (Str.ofString "number"), odd]) := (ShM.tup (k := 3) (m := 100) fun x hx => by
            simp only [List.mem_cons, List.not_mem_nil, or_false] at hx
            rcases hx with rfl | rfl
            · exact (show ShM 0 50 (D.str (Str.ofString "number")) from ⟨by decide +kernel, by decide +kernel, by decide +kernel⟩).up (by decide) (by decide)
            · exact sh1).up (by decide) (by simp)
          exact ShM.repr (k := 4) (m := 300) (fun x hx => by
            simp only [List.mem_cons, List.not_mem_nil, or_false] at hx
            rcases hx with rfl | rfl <;> exact sP) (by simp) (by decide) (by simp)
        · exact q
      try walk_at "pd"
      have orTc : ∀ {qs : List (Nat × Nat)}, (∀ p ∈ qs, p ∈ ps) → GoodP B.length (List.replicate B.length 0) qs ∧ (putAll (List.replicate B.length 0) qs).length = B.length ∧ told (putAll (List.replicate B.length 0) qs) = toldR B.length (tcR qs) := fun {qs} h => by
        obtain ⟨a1, a2, a3, _⟩ := ord_tc (hac.sub h)
        exact ⟨a1, a2, a3⟩
      refine ifK_skip (fun Q q => ?_) ?_
      · walk_at "pd"
        refine ⟨B.length, tcR ps, rfl, by omega, by omega, hR, fun B2 h1 h2 h3 => ?_⟩
        refine ⟨B.length, B.length, B, B2, rfl, rfl, by omega, by omega, ?_⟩
        rw [gT, h3, decide_eq_true rfl, decide_eq_true rfl]
        try walk_at "pd"
        obtain ⟨a1, a2, a3⟩ := orTc (qs := ps.reverse) fun p hp => List.mem_reverse.mp hp
        refine ⟨B.length, ps.reverse, .inl (by rw [List.map_reverse]), ⟨by omega, by omega⟩, a1, ?_⟩
        refine ⟨B.length, B.length, B, _, rfl, rfl, by omega, by omega, ?_⟩
        rw [gT, a3, tcR_congr (ps := ps.reverse) (qs := ps) fun p => List.mem_reverse, decide_eq_true rfl, decide_eq_true rfl]
        exact q
      try walk_at "pd"
      rw [cutL_map]
      have hls : ∀ p ∈ cutL ps none (some (-1)), p ∈ ps := fun p hp => cutL_sub hp
      generalize cutL ps none (some (-1)) = less at hls ⊢
      refine ⟨B.length, less, rfl, by omega, fun p hp => hac.1 p (hls p hp), fun fs hclo => ?_⟩
      rw [clo_tc hclo (hac.sub hls)]
      clear hclo fs
      have hL := tcR_ord (hac.sub hls)
      obtain ⟨a1, a2, a3⟩ := orTc hls
      refine oEq_good (decide (befR B.length (tcR less) = befR B.length (tcR ps))) (gk_nss _).good (gk_nss _).good (by rw [decide_eq_true_eq]; exact nssD_inj.symm) ?_
      rw [Bool.bne_false]
      have eT : decide (told B = toldR B.length (tcR less)) = decide (befR B.length (tcR less) = befR B.length (tcR ps)) := by
        rw [gT]
        refine decide_eq_decide.mpr ?_
        rw [toldR_inj hR hL, befR_inj hL hR]
        exact ⟨fun e => e.symm, fun e => e.symm⟩
      generalize decide (befR B.length (tcR less) = befR B.length (tcR ps)) = b at eT ⊢
      refine ifK_skip (fun Q q => ?_) ?_
      · walk_at "pd"
        refine ⟨B.length, less, .inl rfl, ⟨by omega, by omega⟩, a1, ?_⟩
        refine ⟨B.length, B.length, B, _, rfl, rfl, by omega, by omega, ?_⟩
        rw [a3, eT, decide_eq_true rfl]
        refine oEq_bl ?_
        have e1 : ((((true && b) != false) == b) != true) = false := by cases b <;> rfl
        rw [e1]
        try walk_at "pd"
        refine ⟨B.length, less, .inl rfl, ⟨by omega, by omega⟩, a1, ?_⟩
        refine ⟨B.length, B.length, B, _, rfl, rfl, by omega, by omega, ?_⟩
        rw [a3, eT, decide_eq_true rfl]
        refine oEq_bl ?_
        have e2 : ((((true && b) != true) == b) != false) = false := by cases b <;> rfl
        rw [e2]
        exact q
      try walk_at "pd"
      refine ifK_skip (fun Q q => ?_) ?_
      · walk_at "pd"
        refine ifQ5 (fun hc => ?_) fun hc => q
        obtain ⟨b1, b2, b3, _⟩ := ord_tc hac.up
        refine ⟨B.length + 1, ps, .inl (by simp [nD]), ⟨by omega, by omega⟩, b1, ?_⟩
        refine ⟨B.length, B.length + 1, B, _, rfl, rfl, by omega, by omega, ?_⟩
        rw [decide_eq_false (by omega)]
        exact q
      try walk_at "pd"
      refine ⟨7, rfl, by omega, ⟨by decide, by decide⟩, fun r r0 r1 => ?_⟩
      obtain ⟨oth, hoth, eoth⟩ := atI_pick (xs := [D.non, prsD ps, nssD (befR B.length (tcR ps)), D.int 5, D.str (Str.ofString "order"), D.mt, D.tup (List.map Pd.prD (told B))]) r0 (by simpa using r1)
      try dsimp only
      simp only [eoth]
      have hlo : leftD oth = true := by
        simp only [List.mem_cons, List.not_mem_nil, or_false] at hoth
        rcases hoth with rfl | rfl | rfl | rfl | rfl | rfl | rfl <;> rfl
      refine ifK_skip (fun Q q => ?_) ?_
      · walk_at "pd"
        refine ⟨_, B, rfl, by omega, left_ty hlo, ?_⟩
        refine ⟨_, B, rfl, by omega, hlo, ?_⟩
        refine ⟨_, B, rfl, by omega, left_ty hlo, ?_⟩
        refine oEq_dec (b := false) (by decide +kernel) (by decide +kernel) (by decide +kernel) ?_
        exact q
      · exact hnx _ _ ⟨by omega, _, _, _, _, _, _, _, _, _, _, _, _, rfl⟩
  · rintro env N ⟨hN, u2, u3, u4, u5, u6, u7, u8, u9, u10, u11, u12, u13, rfl⟩
    have hac : Acy 2 [(0, 1)] := ⟨fun p hp => by rw [List.mem_singleton.mp hp]; decide, fun x => x, fun p hp => by rw [List.mem_singleton.mp hp]; decide, fun x hx => hx⟩
    obtain ⟨gP, gL, gT, gR⟩ := ord_tc hac
    walk_at "pd"
    refine hide5 ?_
    walk_at "pd"
    unfold eOrd
    walk_at "pd"
    refine ⟨2, [(0, 1)], .inl (by simp [Pd.prD, nD]), ⟨by omega, by omega⟩, gP, ?_⟩
    generalize putAll (List.replicate 2 0) [(0, 1)] = B at gL gT gR ⊢
    refine ⟨by rfl, B, .int 0, .int 0, by rw [gL], by omega, by omega, rfl, rfl, fun h => absurd h (by simp [wholeD]; omega), fun _ h => absurd h (by simp [wholeD]; omega), fun a b ea eb _ _ => ?_⟩
    obtain rfl : 0 = a := by simp only [D.int.injEq] at ea; omega
    obtain rfl : 0 = b := by simp only [D.int.injEq] at eb; omega
    rw [gR, (tcR_ord hac).o.irr]
    rfl
end
end Bb
namespace Bb
open PySem L2 PyProof.Rows Pd
theorem all_mk {l : PySem.W.OpenLaw} {w : World} {K : PySem.W.Frag} {h : Heap} {mg : Str → Option Value} {fa : Addr} {tsl : List Addr} (X : K.In h) (G : h.Ns mainGlobals mg) (hfa : mg "law" = some (.ref fa)) (hT8 : ∀ P ∈ tsl, h.get? P = some (PySem.W.tabObj #[]))
    {gb0 : Addr} {odb0 anb0 : Option Addr} {slb0 : Array (Option Value)} {ocb0 kVb0 dcb0 pmb0 cdb0 ctb0 : Value}
    {gb1 : Addr} {odb1 anb1 : Option Addr} {slb1 : Array (Option Value)} {ocb1 kVb1 dcb1 pmb1 cdb1 ctb1 : Value}
    {gb2 : Addr} {odb2 anb2 : Option Addr} {slb2 : Array (Option Value)} {ocb2 kVb2 dcb2 pmb2 cdb2 ctb2 : Value}
    {gb3 : Addr} {odb3 anb3 : Option Addr} {slb3 : Array (Option Value)} {ocb3 kVb3 dcb3 pmb3 cdb3 ctb3 : Value}
    {go1 : Addr} {odo1 ano1 : Option Addr} {slo1 : Array (Option Value)} {oco1 kVo1 dco1 pmo1 cdo1 cto1 : Value}
    {go2 : Addr} {odo2 ano2 : Option Addr} {slo2 : Array (Option Value)} {oco2 kVo2 dco2 pmo2 cdo2 cto2 : Value}
    {go3 : Addr} {odo3 ano3 : Option Addr} {slo3 : Array (Option Value)} {oco3 kVo3 dco3 pmo3 cdo3 cto3 : Value}
    {go4 : Addr} {odo4 ano4 : Option Addr} {slo4 : Array (Option Value)} {oco4 kVo4 dco4 pmo4 cdo4 cto4 : Value}
    {go5 : Addr} {odo5 ano5 : Option Addr} {slo5 : Array (Option Value)} {oco5 kVo5 dco5 pmo5 cdo5 cto5 : Value}
    {go6 : Addr} {odo6 ano6 : Option Addr} {slo6 : Array (Option Value)} {oco6 kVo6 dco6 pmo6 cdo6 cto6 : Value}
    {CO : Addr}
    {gOI : Addr} {odOI anOI : Option Addr} {slOI : Array (Option Value)} {ocOI kVOI dcOI pmOI cdOI ctOI : Value}
    {gOE : Addr} {odOE anOE : Option Addr} {slOE : Array (Option Value)} {ocOE kVOE dcOE pmOE cdOE ctOE : Value}
    {tk_MOST_TASKS : Tok}
    {C_TaskError : Addr}
    {C_BadPairs : Addr}
    {C_BadTerm : Addr}
    {C_BadNumber : Addr}
    {gC_BadNumber : Addr} {odC_BadNumber anC_BadNumber : Option Addr} {slC_BadNumber : Array (Option Value)} {ocC_BadNumber kVC_BadNumber dcC_BadNumber pmC_BadNumber cdC_BadNumber ctC_BadNumber : Value}
    {C_BadExchange : Addr}
    {C_NoTerm : Addr}
    {C_OtherTasks : Addr}
    {C_Lacks : Addr}
    {C_TooGreat : Addr}
    {gd1 : Addr} {odd1 and1 : Option Addr} {sld1 : Array (Option Value)} {ocd1 kVd1 dcd1 pmd1 cdd1 ctd1 : Value}
    {gd2 : Addr} {odd2 and2 : Option Addr} {sld2 : Array (Option Value)} {ocd2 kVd2 dcd2 pmd2 cdd2 ctd2 : Value}
    {gd3 : Addr} {odd3 and3 : Option Addr} {sld3 : Array (Option Value)} {ocd3 kVd3 dcd3 pmd3 cdd3 ctd3 : Value}
    {gd4 : Addr} {odd4 and4 : Option Addr} {sld4 : Array (Option Value)} {ocd4 kVd4 dcd4 pmd4 cdd4 ctd4 : Value}
    {gd5 : Addr} {odd5 and5 : Option Addr} {sld5 : Array (Option Value)} {ocd5 kVd5 dcd5 pmd5 cdd5 ctd5 : Value}
    {gd6 : Addr} {odd6 and6 : Option Addr} {sld6 : Array (Option Value)} {ocd6 kVd6 dcd6 pmd6 cdd6 ctd6 : Value}
    {gd7 : Addr} {odd7 and7 : Option Addr} {sld7 : Array (Option Value)} {ocd7 kVd7 dcd7 pmd7 cdd7 ctd7 : Value}
    {gd8 : Addr} {odd8 and8 : Option Addr} {sld8 : Array (Option Value)} {ocd8 kVd8 dcd8 pmd8 cdd8 ctd8 : Value}
    {gd9 : Addr} {odd9 and9 : Option Addr} {sld9 : Array (Option Value)} {ocd9 kVd9 dcd9 pmd9 cdd9 ctd9 : Value}
    {gM0 : Addr} {odM0 anM0 : Option Addr} {slM0 : Array (Option Value)} {ocM0 kVM0 dcM0 pmM0 cdM0 ctM0 : Value}
    {gL : Addr} {odL anL : Option Addr} {slL : Array (Option Value)} {ocL kVL dcL pmL cdL ctL : Value}
    {eL tL : Addr}
    (n_int : PySem.W.nsIn K mainGlobals "int" = some none)
    (n_str : PySem.W.nsIn K mainGlobals "str" = some none)
    (n_bool : PySem.W.nsIn K mainGlobals "bool" = some none)
    (n_list : PySem.W.nsIn K mainGlobals "list" = some none)
    (n_tuple : PySem.W.nsIn K mainGlobals "tuple" = some none)
    (n_dict : PySem.W.nsIn K mainGlobals "dict" = some none)
    (n_set : PySem.W.nsIn K mainGlobals "set" = some none)
    (n_len : PySem.W.nsIn K mainGlobals "len" = some none)
    (n_range : PySem.W.nsIn K mainGlobals "range" = some none)
    (n_enumerate : PySem.W.nsIn K mainGlobals "enumerate" = some none)
    (n_zip : PySem.W.nsIn K mainGlobals "zip" = some none)
    (n_isinstance : PySem.W.nsIn K mainGlobals "isinstance" = some none)
    (n_sorted : PySem.W.nsIn K mainGlobals "sorted" = some none)
    (n_min : PySem.W.nsIn K mainGlobals "min" = some none)
    (n_max : PySem.W.nsIn K mainGlobals "max" = some none)
    (n_any : PySem.W.nsIn K mainGlobals "any" = some none)
    (n_all : PySem.W.nsIn K mainGlobals "all" = some none)
    (n_sum : PySem.W.nsIn K mainGlobals "sum" = some none)
    (n_repr : PySem.W.nsIn K mainGlobals "repr" = some none)
    (ab0 : PySem.W.nsIn K mainGlobals "_law_mixed" = some (some (.ref gb0)))
    (lb0 : K.lookup gb0 = some ⟨ocb0, odb0, .func (PySem.W.fnOf "_law_mixed" "_law_mixed" (defArgs sMixed) (defBody sMixed) (defScope sMixed) .none kVb0 dcb0 pmb0 anb0 cdb0 ctb0), slb0⟩)
    (cb0 : PySem.W.codeIn K cdb0 "_law_mixed" = true)
    (kb0 : PySem.W.keepIn K (.ref gb0) = true)
    (ab1 : PySem.W.nsIn K mainGlobals "_law_folded" = some (some (.ref gb1)))
    (lb1 : K.lookup gb1 = some ⟨ocb1, odb1, .func (PySem.W.fnOf "_law_folded" "_law_folded" (defArgs sFolded) (defBody sFolded) (defScope sFolded) .none kVb1 dcb1 pmb1 anb1 cdb1 ctb1), slb1⟩)
    (cb1 : PySem.W.codeIn K cdb1 "_law_folded" = true)
    (kb1 : PySem.W.keepIn K (.ref gb1) = true)
    (ab2 : PySem.W.nsIn K mainGlobals "_law_draw" = some (some (.ref gb2)))
    (lb2 : K.lookup gb2 = some ⟨ocb2, odb2, .func (PySem.W.fnOf "_law_draw" "_law_draw" (defArgs sDraw) (defBody sDraw) (defScope sDraw) .none kVb2 dcb2 pmb2 anb2 cdb2 ctb2), slb2⟩)
    (cb2 : PySem.W.codeIn K cdb2 "_law_draw" = true)
    (kb2 : PySem.W.keepIn K (.ref gb2) = true)
    (ab3 : PySem.W.nsIn K mainGlobals "_law_begun" = some (some (.ref gb3)))
    (lb3 : K.lookup gb3 = some ⟨ocb3, odb3, .func (PySem.W.fnOf "_law_begun" "_law_begun" (defArgs sBegun) (defBody sBegun) (defScope sBegun) .none kVb3 dcb3 pmb3 anb3 cdb3 ctb3), slb3⟩)
    (cb3 : PySem.W.codeIn K cdb3 "_law_begun" = true)
    (kb3 : PySem.W.keepIn K (.ref gb3) = true)
    (ao1 : PySem.W.nsIn K mainGlobals "is_whole" = some (some (.ref go1)))
    (lo1 : K.lookup go1 = some ⟨oco1, odo1, .func (PySem.W.fnOf "is_whole" "is_whole" (defArgs sIsWhole) (defBody sIsWhole) (defScope sIsWhole) .none kVo1 dco1 pmo1 ano1 cdo1 cto1), slo1⟩)
    (co1 : PySem.W.codeIn K cdo1 "is_whole" = true)
    (ko1 : PySem.W.keepIn K (.ref go1) = true)
    (ao2 : PySem.W.nsIn K mainGlobals "has_task" = some (some (.ref go2)))
    (lo2 : K.lookup go2 = some ⟨oco2, odo2, .func (PySem.W.fnOf "has_task" "has_task" (defArgs sHasTask) (defBody sHasTask) (defScope sHasTask) .none kVo2 dco2 pmo2 ano2 cdo2 cto2), slo2⟩)
    (co2 : PySem.W.codeIn K cdo2 "has_task" = true)
    (ko2 : PySem.W.keepIn K (.ref go2) = true)
    (ao3 : PySem.W.nsIn K mainGlobals "put_ahead" = some (some (.ref go3)))
    (lo3 : K.lookup go3 = some ⟨oco3, odo3, .func (PySem.W.fnOf "put_ahead" "put_ahead" (defArgs sPutAhead) (defBody sPutAhead) (defScope sPutAhead) .none kVo3 dco3 pmo3 ano3 cdo3 cto3), slo3⟩)
    (co3 : PySem.W.codeIn K cdo3 "put_ahead" = true)
    (ko3 : PySem.W.keepIn K (.ref go3) = true)
    (ao4 : PySem.W.nsIn K mainGlobals "is_task_pair" = some (some (.ref go4)))
    (lo4 : K.lookup go4 = some ⟨oco4, odo4, .func (PySem.W.fnOf "is_task_pair" "is_task_pair" (defArgs sIsTaskPair) (defBody sIsTaskPair) (defScope sIsTaskPair) .none kVo4 dco4 pmo4 ano4 cdo4 cto4), slo4⟩)
    (co4 : PySem.W.codeIn K cdo4 "is_task_pair" = true)
    (ko4 : PySem.W.keepIn K (.ref go4) = true)
    (ao5 : PySem.W.nsIn K mainGlobals "bits_behind" = some (some (.ref go5)))
    (lo5 : K.lookup go5 = some ⟨oco5, odo5, .func (PySem.W.fnOf "bits_behind" "bits_behind" (defArgs sBitsBehind) (defBody sBitsBehind) (defScope sBitsBehind) .none kVo5 dco5 pmo5 ano5 cdo5 cto5), slo5⟩)
    (co5 : PySem.W.codeIn K cdo5 "bits_behind" = true)
    (ko5 : PySem.W.keepIn K (.ref go5) = true)
    (ao6 : PySem.W.nsIn K mainGlobals "pairs_told" = some (some (.ref go6)))
    (lo6 : K.lookup go6 = some ⟨oco6, odo6, .func (PySem.W.fnOf "pairs_told" "pairs_told" (defArgs sPairsTold) (defBody sPairsTold) (defScope sPairsTold) .none kVo6 dco6 pmo6 ano6 cdo6 cto6), slo6⟩)
    (co6 : PySem.W.codeIn K cdo6 "pairs_told" = true)
    (ko6 : PySem.W.keepIn K (.ref go6) = true)
    (aO : PySem.W.nsIn K mainGlobals "Order" = some (some (.ref CO)))
    (hn : PySem.W.specialIn K (.builtin "object.__class__") "__get__" = some (some (.builtin "getset_descriptor.__get__")))
    (ht : PySem.W.takesIn K (.builtin "object.__class__") = some true)
    (pg : PySem.W.plainGet K CO Str.empty = true)
    (hdO : PySem.W.hasDictIn K CO = true)
    (po : PySem.W.plainOver K CO = true)
    (saO : PySem.W.findIn K (.ref CO) "__setattr__" = some (some (.builtin "object.__setattr__")))
    (n1 : PySem.W.findIn K (.ref CO) "many" = some none)
    (n2 : PySem.W.findIn K (.ref CO) "behind" = some none)
    (n3 : PySem.W.findIn K (.ref CO) "pairs" = some none)
    (haO : PySem.W.findIn K (.ref CO) "__class__" = some (some (.builtin "object.__class__")))
    (hmO : PySem.W.mroIn K CO (.type "object") = some true)
    (mkO : PySem.W.makesIn K CO = true)
    (kO : PySem.W.keepIn K (.ref CO) = true)
    (iO : PySem.W.findIn K (.ref CO) "__init__" = some (some (.ref gOI)))
    (jO : PySem.W.isFn K (.ref gOI) = true)
    (qO : PySem.W.findIn K (.ref CO) "__eq__" = some (some (.ref gOE)))
    (rO : PySem.W.isFn K (.ref gOE) = true)
    (neO : PySem.W.findIn K (.ref CO) "__ne__" = some (some (.builtin "object.__ne__")))
    (s_object : PySem.W.subIn K (.ref CO) (.type "object") = some true)
    (s_list : PySem.W.subIn K (.ref CO) (.type "list") = some false)
    (s_tuple : PySem.W.subIn K (.ref CO) (.type "tuple") = some false)
    (s_dict : PySem.W.subIn K (.ref CO) (.type "dict") = some false)
    (s_NoneType : PySem.W.subIn K (.ref CO) (.type "NoneType") = some false)
    (s_int : PySem.W.subIn K (.ref CO) (.type "int") = some false)
    (s_str : PySem.W.subIn K (.ref CO) (.type "str") = some false)
    (lOI : K.lookup gOI = some ⟨ocOI, odOI, .func (PySem.W.fnOf "__init__" "Order.__init__" (defArgs sOrdInit) (defBody sOrdInit) (defScope sOrdInit) .none kVOI dcOI pmOI anOI cdOI ctOI), slOI⟩)
    (cOI : PySem.W.codeIn K cdOI "Order.__init__" = true)
    (kOI : PySem.W.keepIn K (.ref gOI) = true)
    (lOE : K.lookup gOE = some ⟨ocOE, odOE, .func (PySem.W.fnOf "__eq__" "Order.__eq__" (defArgs sOrdEq) (defBody sOrdEq) (defScope sOrdEq) .none kVOE dcOE pmOE anOE cdOE ctOE), slOE⟩)
    (cOE : PySem.W.codeIn K cdOE "Order.__eq__" = true)
    (kOE : PySem.W.keepIn K (.ref gOE) = true)
    (T5 : PySem.W.notFirst K CO (.ref CO) = true)
    (T6 : PySem.W.kitOne K (.ref CO) (.ref CO) = some true)
    (a_MOST_TASKS : PySem.W.nsIn K mainGlobals "MOST_TASKS" = some (some (.int 12 tk_MOST_TASKS)))
    (nn_ValueError : PySem.W.nsIn K mainGlobals "ValueError" = some none)
    (nn_OverflowError : PySem.W.nsIn K mainGlobals "OverflowError" = some none)
    (aC_TaskError : PySem.W.nsIn K mainGlobals "TaskError" = some (some (.ref C_TaskError)))
    (sT : PySem.W.specialIn K (.ref C_TaskError) "__getattribute__" = some (some (.builtin "type.__getattribute__")))
    (rT : PySem.W.readsIn K C_TaskError (.type "type") = true)
    (vT : PySem.W.findCls K (.ref C_TaskError) (.type "type") "__init__" = some (.val (.builtin "ValueError.__init__")))
    (vO : PySem.W.findCls K (.type "OverflowError") (.type "type") "__init__" = some (.val (.builtin "OverflowError.__init__")))
    (aC_BadPairs : PySem.W.nsIn K mainGlobals "BadPairs" = some (some (.ref C_BadPairs)))
    (hgC_BadPairs : PySem.W.findIn K (.ref C_BadPairs) "__getattribute__" = some (some (.builtin "BaseException.__getattribute__")))
    (hkC_BadPairs : PySem.W.findIn K (.ref C_BadPairs) "__getattr__" = some none)
    (hsC_BadPairs : PySem.W.subIn K (.ref C_BadPairs) (.type "BaseException") = some true)
    (hdC_BadPairs : PySem.W.hasDictIn K C_BadPairs = true)
    (haC_BadPairs : PySem.W.findIn K (.ref C_BadPairs) "__class__" = some (some (.builtin "object.__class__")))
    (hmC_BadPairs : PySem.W.mroIn K C_BadPairs (.type "object") = some true)
    (nfC_BadPairs : PySem.W.findIn K (.ref C_BadPairs) "place" = some none)
    (aC_BadTerm : PySem.W.nsIn K mainGlobals "BadTerm" = some (some (.ref C_BadTerm)))
    (hgC_BadTerm : PySem.W.findIn K (.ref C_BadTerm) "__getattribute__" = some (some (.builtin "BaseException.__getattribute__")))
    (hkC_BadTerm : PySem.W.findIn K (.ref C_BadTerm) "__getattr__" = some none)
    (hsC_BadTerm : PySem.W.subIn K (.ref C_BadTerm) (.type "BaseException") = some true)
    (hdC_BadTerm : PySem.W.hasDictIn K C_BadTerm = true)
    (haC_BadTerm : PySem.W.findIn K (.ref C_BadTerm) "__class__" = some (some (.builtin "object.__class__")))
    (hmC_BadTerm : PySem.W.mroIn K C_BadTerm (.type "object") = some true)
    (nfC_BadTerm : PySem.W.findIn K (.ref C_BadTerm) "value" = some none)
    (aC_BadNumber : PySem.W.nsIn K mainGlobals "BadNumber" = some (some (.ref C_BadNumber)))
    (hgC_BadNumber : PySem.W.findIn K (.ref C_BadNumber) "__getattribute__" = some (some (.builtin "BaseException.__getattribute__")))
    (hkC_BadNumber : PySem.W.findIn K (.ref C_BadNumber) "__getattr__" = some none)
    (hsC_BadNumber : PySem.W.subIn K (.ref C_BadNumber) (.type "BaseException") = some true)
    (hdC_BadNumber : PySem.W.hasDictIn K C_BadNumber = true)
    (haC_BadNumber : PySem.W.findIn K (.ref C_BadNumber) "__class__" = some (some (.builtin "object.__class__")))
    (hmC_BadNumber : PySem.W.mroIn K C_BadNumber (.type "object") = some true)
    (nfC_BadNumber : PySem.W.findIn K (.ref C_BadNumber) "value" = some none)
    (ty_BadNumber : PySem.W.typeIn K (.ref C_BadNumber) = some (.type "type"))
    (kCC_BadNumber : PySem.W.keepIn K (.ref C_BadNumber) = true)
    (eiC_BadNumber : PySem.W.excInitIn K C_BadNumber Exv.veMro "ValueError.__new__" = true)
    (eoC_BadNumber : PySem.W.excOver K C_BadNumber Exv.veMro = true)
    (saC_BadNumber : PySem.W.findIn K (.ref C_BadNumber) "__setattr__" = some (some (.builtin "object.__setattr__")))
    (tfC_BadNumber : PySem.W.takerIn K C_BadNumber "value" = some none)
    (iC_BadNumber : PySem.W.findIn K (.ref C_BadNumber) "__init__" = some (some (.ref gC_BadNumber)))
    (tC_BadNumber : PySem.W.typeIn K (.ref gC_BadNumber) = some (.type "function"))
    (lC_BadNumber : K.lookup gC_BadNumber = some ⟨ocC_BadNumber, odC_BadNumber, .func (PySem.W.fnOf "__init__" "BadNumber.__init__" (defArgs sIBadNumber) (defBody sIBadNumber) (defScope sIBadNumber) .none kVC_BadNumber dcC_BadNumber pmC_BadNumber anC_BadNumber cdC_BadNumber ctC_BadNumber), slC_BadNumber⟩)
    (cC_BadNumber : PySem.W.codeIn K cdC_BadNumber "BadNumber.__init__" = true)
    (kC_BadNumber : PySem.W.keepIn K (.ref gC_BadNumber) = true)
    (aC_BadExchange : PySem.W.nsIn K mainGlobals "BadExchange" = some (some (.ref C_BadExchange)))
    (hgC_BadExchange : PySem.W.findIn K (.ref C_BadExchange) "__getattribute__" = some (some (.builtin "BaseException.__getattribute__")))
    (hkC_BadExchange : PySem.W.findIn K (.ref C_BadExchange) "__getattr__" = some none)
    (hsC_BadExchange : PySem.W.subIn K (.ref C_BadExchange) (.type "BaseException") = some true)
    (hdC_BadExchange : PySem.W.hasDictIn K C_BadExchange = true)
    (haC_BadExchange : PySem.W.findIn K (.ref C_BadExchange) "__class__" = some (some (.builtin "object.__class__")))
    (hmC_BadExchange : PySem.W.mroIn K C_BadExchange (.type "object") = some true)
    (nfC_BadExchange : PySem.W.findIn K (.ref C_BadExchange) "place" = some none)
    (aC_NoTerm : PySem.W.nsIn K mainGlobals "NoTerm" = some (some (.ref C_NoTerm)))
    (hgC_NoTerm : PySem.W.findIn K (.ref C_NoTerm) "__getattribute__" = some (some (.builtin "BaseException.__getattribute__")))
    (hkC_NoTerm : PySem.W.findIn K (.ref C_NoTerm) "__getattr__" = some none)
    (hsC_NoTerm : PySem.W.subIn K (.ref C_NoTerm) (.type "BaseException") = some true)
    (hdC_NoTerm : PySem.W.hasDictIn K C_NoTerm = true)
    (haC_NoTerm : PySem.W.findIn K (.ref C_NoTerm) "__class__" = some (some (.builtin "object.__class__")))
    (hmC_NoTerm : PySem.W.mroIn K C_NoTerm (.type "object") = some true)
    (nfC_NoTerm : PySem.W.findIn K (.ref C_NoTerm) "four" = some none)
    (aC_OtherTasks : PySem.W.nsIn K mainGlobals "OtherTasks" = some (some (.ref C_OtherTasks)))
    (hgC_OtherTasks : PySem.W.findIn K (.ref C_OtherTasks) "__getattribute__" = some (some (.builtin "BaseException.__getattribute__")))
    (hkC_OtherTasks : PySem.W.findIn K (.ref C_OtherTasks) "__getattr__" = some none)
    (hsC_OtherTasks : PySem.W.subIn K (.ref C_OtherTasks) (.type "BaseException") = some true)
    (hdC_OtherTasks : PySem.W.hasDictIn K C_OtherTasks = true)
    (haC_OtherTasks : PySem.W.findIn K (.ref C_OtherTasks) "__class__" = some (some (.builtin "object.__class__")))
    (hmC_OtherTasks : PySem.W.mroIn K C_OtherTasks (.type "object") = some true)
    (aC_Lacks : PySem.W.nsIn K mainGlobals "Lacks" = some (some (.ref C_Lacks)))
    (hgC_Lacks : PySem.W.findIn K (.ref C_Lacks) "__getattribute__" = some (some (.builtin "BaseException.__getattribute__")))
    (hkC_Lacks : PySem.W.findIn K (.ref C_Lacks) "__getattr__" = some none)
    (hsC_Lacks : PySem.W.subIn K (.ref C_Lacks) (.type "BaseException") = some true)
    (hdC_Lacks : PySem.W.hasDictIn K C_Lacks = true)
    (haC_Lacks : PySem.W.findIn K (.ref C_Lacks) "__class__" = some (some (.builtin "object.__class__")))
    (hmC_Lacks : PySem.W.mroIn K C_Lacks (.type "object") = some true)
    (nfC_Lacks : PySem.W.findIn K (.ref C_Lacks) "pair" = some none)
    (aC_TooGreat : PySem.W.nsIn K mainGlobals "TooGreat" = some (some (.ref C_TooGreat)))
    (hgC_TooGreat : PySem.W.findIn K (.ref C_TooGreat) "__getattribute__" = some (some (.builtin "BaseException.__getattribute__")))
    (hkC_TooGreat : PySem.W.findIn K (.ref C_TooGreat) "__getattr__" = some none)
    (hsC_TooGreat : PySem.W.subIn K (.ref C_TooGreat) (.type "BaseException") = some true)
    (hdC_TooGreat : PySem.W.hasDictIn K C_TooGreat = true)
    (haC_TooGreat : PySem.W.findIn K (.ref C_TooGreat) "__class__" = some (some (.builtin "object.__class__")))
    (hmC_TooGreat : PySem.W.mroIn K C_TooGreat (.type "object") = some true)
    (nfC_TooGreat : PySem.W.findIn K (.ref C_TooGreat) "most" = some none)
    (tb : Pd.tabB K [("BadPairs", C_BadPairs), ("BadTerm", C_BadTerm), ("BadNumber", C_BadNumber), ("BadExchange", C_BadExchange), ("NoTerm", C_NoTerm), ("OtherTasks", C_OtherTasks), ("Lacks", C_Lacks), ("TooGreat", C_TooGreat)] [("BadPairs", C_BadPairs), ("BadTerm", C_BadTerm), ("BadNumber", C_BadNumber), ("BadExchange", C_BadExchange), ("NoTerm", C_NoTerm), ("OtherTasks", C_OtherTasks), ("Lacks", C_Lacks), ("TooGreat", C_TooGreat)] ["ValueError"] = true)
    (ex_BadPairs : PySem.W.exmAny K (.ref C_BadPairs) [.ref C_TaskError, .ref C_TooGreat] = some true)
    (ex_BadTerm : PySem.W.exmAny K (.ref C_BadTerm) [.ref C_TaskError, .ref C_TooGreat] = some true)
    (ex_BadNumber : PySem.W.exmAny K (.ref C_BadNumber) [.ref C_TaskError, .ref C_TooGreat] = some true)
    (ex_BadExchange : PySem.W.exmAny K (.ref C_BadExchange) [.ref C_TaskError, .ref C_TooGreat] = some true)
    (ex_NoTerm : PySem.W.exmAny K (.ref C_NoTerm) [.ref C_TaskError, .ref C_TooGreat] = some true)
    (ex_OtherTasks : PySem.W.exmAny K (.ref C_OtherTasks) [.ref C_TaskError, .ref C_TooGreat] = some true)
    (ex_Lacks : PySem.W.exmAny K (.ref C_Lacks) [.ref C_TaskError, .ref C_TooGreat] = some true)
    (ex_TooGreat : PySem.W.exmAny K (.ref C_TooGreat) [.ref C_TaskError, .ref C_TooGreat] = some true)
    (ko_NoneType : PySem.W.kitOne K (.type "NoneType") (.ref CO) = some false)
    (nf_NoneType : PySem.W.notFirst K CO (.type "NoneType") = true)
    (ko_bool : PySem.W.kitOne K (.type "bool") (.ref CO) = some false)
    (nf_bool : PySem.W.notFirst K CO (.type "bool") = true)
    (ko_int : PySem.W.kitOne K (.type "int") (.ref CO) = some false)
    (nf_int : PySem.W.notFirst K CO (.type "int") = true)
    (ko_str : PySem.W.kitOne K (.type "str") (.ref CO) = some false)
    (nf_str : PySem.W.notFirst K CO (.type "str") = true)
    (ko_list : PySem.W.kitOne K (.type "list") (.ref CO) = some false)
    (nf_list : PySem.W.notFirst K CO (.type "list") = true)
    (ko_tuple : PySem.W.kitOne K (.type "tuple") (.ref CO) = some false)
    (nf_tuple : PySem.W.notFirst K CO (.type "tuple") = true)
    (ko_dict : PySem.W.kitOne K (.type "dict") (.ref CO) = some false)
    (nf_dict : PySem.W.notFirst K CO (.type "dict") = true)
    (ad1 : PySem.W.nsIn K mainGlobals "is_whole" = some (some (.ref gd1)))
    (ld1 : K.lookup gd1 = some ⟨ocd1, odd1, .func (PySem.W.fnOf "is_whole" "is_whole" (defArgs sdIsWhole) (defBody sdIsWhole) (defScope sdIsWhole) .none kVd1 dcd1 pmd1 and1 cdd1 ctd1), sld1⟩)
    (cd1 : PySem.W.codeIn K cdd1 "is_whole" = true)
    (kd1 : PySem.W.keepIn K (.ref gd1) = true)
    (ad2 : PySem.W.nsIn K mainGlobals "_law_row" = some (some (.ref gd2)))
    (ld2 : K.lookup gd2 = some ⟨ocd2, odd2, .func (PySem.W.fnOf "_law_row" "_law_row" (defArgs sdLRow) (defBody sdLRow) (defScope sdLRow) .none kVd2 dcd2 pmd2 and2 cdd2 ctd2), sld2⟩)
    (cd2 : PySem.W.codeIn K cdd2 "_law_row" = true)
    (kd2 : PySem.W.keepIn K (.ref gd2) = true)
    (ad3 : PySem.W.nsIn K mainGlobals "_law_closed" = some (some (.ref gd3)))
    (ld3 : K.lookup gd3 = some ⟨ocd3, odd3, .func (PySem.W.fnOf "_law_closed" "_law_closed" (defArgs sdLClosed) (defBody sdLClosed) (defScope sdLClosed) .none kVd3 dcd3 pmd3 and3 cdd3 ctd3), sld3⟩)
    (cd3 : PySem.W.codeIn K cdd3 "_law_closed" = true)
    (kd3 : PySem.W.keepIn K (.ref gd3) = true)
    (ad4 : PySem.W.nsIn K mainGlobals "_law_listed" = some (some (.ref gd4)))
    (ld4 : K.lookup gd4 = some ⟨ocd4, odd4, .func (PySem.W.fnOf "_law_listed" "_law_listed" (defArgs sdLListed) (defBody sdLListed) (defScope sdLListed) .none kVd4 dcd4 pmd4 and4 cdd4 ctd4), sld4⟩)
    (cd4 : PySem.W.codeIn K cdd4 "_law_listed" = true)
    (kd4 : PySem.W.keepIn K (.ref gd4) = true)
    (ad5 : PySem.W.nsIn K mainGlobals "_law_made" = some (some (.ref gd5)))
    (ld5 : K.lookup gd5 = some ⟨ocd5, odd5, .func (PySem.W.fnOf "_law_made" "_law_made" (defArgs sdLMade) (defBody sdLMade) (defScope sdLMade) .none kVd5 dcd5 pmd5 and5 cdd5 ctd5), sld5⟩)
    (cd5 : PySem.W.codeIn K cdd5 "_law_made" = true)
    (kd5 : PySem.W.keepIn K (.ref gd5) = true)
    (ad6 : PySem.W.nsIn K mainGlobals "_law_pairs" = some (some (.ref gd6)))
    (ld6 : K.lookup gd6 = some ⟨ocd6, odd6, .func (PySem.W.fnOf "_law_pairs" "_law_pairs" (defArgs sdLPairs) (defBody sdLPairs) (defScope sdLPairs) .none kVd6 dcd6 pmd6 and6 cdd6 ctd6), sld6⟩)
    (cd6 : PySem.W.codeIn K cdd6 "_law_pairs" = true)
    (kd6 : PySem.W.keepIn K (.ref gd6) = true)
    (ad7 : PySem.W.nsIn K mainGlobals "_law_like" = some (some (.ref gd7)))
    (ld7 : K.lookup gd7 = some ⟨ocd7, odd7, .func (PySem.W.fnOf "_law_like" "_law_like" (defArgs sdLLike) (defBody sdLLike) (defScope sdLLike) .none kVd7 dcd7 pmd7 and7 cdd7 ctd7), sld7⟩)
    (cd7 : PySem.W.codeIn K cdd7 "_law_like" = true)
    (kd7 : PySem.W.keepIn K (.ref gd7) = true)
    (ad8 : PySem.W.nsIn K mainGlobals "has_task" = some (some (.ref gd8)))
    (ld8 : K.lookup gd8 = some ⟨ocd8, odd8, .func (PySem.W.fnOf "has_task" "has_task" (defArgs sdHasTask) (defBody sdHasTask) (defScope sdHasTask) .none kVd8 dcd8 pmd8 and8 cdd8 ctd8), sld8⟩)
    (cd8 : PySem.W.codeIn K cdd8 "has_task" = true)
    (kd8 : PySem.W.keepIn K (.ref gd8) = true)
    (ad9 : PySem.W.nsIn K mainGlobals "_law_heard" = some (some (.ref gd9)))
    (ld9 : K.lookup gd9 = some ⟨ocd9, odd9, .func (PySem.W.fnOf "_law_heard" "_law_heard" (defArgs sdLHeard) (defBody sdLHeard) (defScope sdLHeard) .none kVd9 dcd9 pmd9 and9 cdd9 ctd9), sld9⟩)
    (cd9 : PySem.W.codeIn K cdd9 "_law_heard" = true)
    (kd9 : PySem.W.keepIn K (.ref gd9) = true)
    (jM0 : PySem.W.findIn K (.ref CO) "is_ahead" = some (some (.ref gM0)))
    (xM0 : PySem.W.isFn K (.ref gM0) = true)
    (lM0 : K.lookup gM0 = some ⟨ocM0, odM0, .func (PySem.W.fnOf "is_ahead" "Order.is_ahead" (defArgs sdOrderIsAhead) (defBody sdOrderIsAhead) (defScope sdOrderIsAhead) .none kVM0 dcM0 pmM0 anM0 cdM0 ctM0), slM0⟩)
    (cM0 : PySem.W.codeIn K cdM0 "Order.is_ahead" = true)
    (kM0 : PySem.W.keepIn K (.ref gM0) = true)
    (aL : PySem.W.nsIn K mainGlobals "law" = some (some (.ref gL)))
    (lL : K.lookup gL = some ⟨ocL, odL, .func (PySem.W.fnOf "law" "law" (defArgs sdLaw) (defBody sdLaw) (defScope sdLaw) .none kVL dcL pmL anL cdL ctL), slL⟩)
    (cL : PySem.W.codeIn K cdL "law" = true)
    (kL : PySem.W.keepIn K (.ref gL) = true)
    (hCL : cdL = .ref eL)
    (hML : tL ∈ tsl)
    (hNL : K.lookup tL = none)
    (hHL : PySem.W.codeHdIn K eL tL = true)
    : ∃ (fd : FuncData) (cs : List (Addr × Addr)) (T : List (Addr × Str)), Rd.Empt K cs h ∧ (∀ p ∈ T, ∃ c ∈ cs, c.2 = p.1) ∧ (∀ (s : Shared) (u : Value), BindsTo s fd ⟨[u], []⟩ [("script", u)]) ∧ ∀ base : Heap, K.In base → base.Ns mainGlobals mg → (∀ p ∈ cs, LamX.TabB base mg p.1 p.2) → Rd.FnOkG l.prog w K mg base CX0 24 fa fd ["script"] (spLaw T K) := by
  have e := hfa.symm.trans (PySem.W.mg_of X G aL)
  cases e
  refine ⟨PySem.W.fnOf "law" "law" (defArgs sdLaw) (defBody sdLaw) (defScope sdLaw) .none kVL dcL pmL anL cdL ctL, [(eL, tL)], [(tL, (envOfC "law" (defScope sdLaw) 0 0 (.ref eL)).qual ++ "<lambda>")], fun p hp => ?_, fun p hp => ?_, fun s v => .of_eq rfl, fun base _ _ TBs => ?_⟩
  · simp only [List.mem_cons, List.not_mem_nil, or_false] at hp
    rcases hp with rfl
    · exact ⟨hT8 _ hML, hNL, hHL⟩
  · simp only [List.mem_cons, List.not_mem_nil, or_false] at hp
    rcases hp with rfl
    · exact ⟨(eL, tL), by simp, rfl⟩
  have z_int := PySem.W.mg_none_of X G n_int
  have z_str := PySem.W.mg_none_of X G n_str
  have z_bool := PySem.W.mg_none_of X G n_bool
  have z_list := PySem.W.mg_none_of X G n_list
  have z_tuple := PySem.W.mg_none_of X G n_tuple
  have z_dict := PySem.W.mg_none_of X G n_dict
  have z_set := PySem.W.mg_none_of X G n_set
  have z_len := PySem.W.mg_none_of X G n_len
  have z_range := PySem.W.mg_none_of X G n_range
  have z_enumerate := PySem.W.mg_none_of X G n_enumerate
  have z_zip := PySem.W.mg_none_of X G n_zip
  have z_isinstance := PySem.W.mg_none_of X G n_isinstance
  have z_sorted := PySem.W.mg_none_of X G n_sorted
  have z_min := PySem.W.mg_none_of X G n_min
  have z_max := PySem.W.mg_none_of X G n_max
  have z_any := PySem.W.mg_none_of X G n_any
  have z_all := PySem.W.mg_none_of X G n_all
  have z_sum := PySem.W.mg_none_of X G n_sum
  have z_repr := PySem.W.mg_none_of X G n_repr
  have B : Pd.Bts mg := ⟨z_int, z_str, z_bool, z_list, z_tuple, z_dict, z_set, z_len, z_range, z_enumerate, z_zip, z_isinstance, z_sorted, z_min, z_max, z_any, z_all, z_sum, z_repr⟩
  have Fb0 := fun_mk (st := sMixed) lb0 cb0 kb0
  have mb0 := PySem.W.mg_of X G ab0
  have Fb1 := fun_mk (st := sFolded) lb1 cb1 kb1
  have mb1 := PySem.W.mg_of X G ab1
  have Fb2 := fun_mk (st := sDraw) lb2 cb2 kb2
  have mb2 := PySem.W.mg_of X G ab2
  have Fb3 := fun_mk (st := sBegun) lb3 cb3 kb3
  have mb3 := PySem.W.mg_of X G ab3
  have c__law_mixed : Rd.Callee l.prog w K mg base CX0 1 "_law_mixed" ["cell", "n"] spMixed := ⟨_, _, mb0, kb0, Fb0.binds (ps := ["cell", "n"]) fun _ _ _ _ _ _ us hl => match us, hl with | [_, _], _ => rfl, ok_mixed Fb0 z_int⟩
  have c__law_folded : Rd.Callee l.prog w K mg base CX0 1 "_law_folded" ["script"] (spFolded K) := ⟨_, _, mb1, kb1, Fb1.binds (ps := ["script"]) fun _ _ _ _ _ _ us hl => match us, hl with | [_], _ => rfl, ok_folded Fb1 z_int z_range z_enumerate⟩
  have c__law_begun : Rd.Callee l.prog w K mg base CX0 2 "_law_begun" ["script"] (spBegun K) := ⟨_, _, mb3, kb3, Fb3.binds (ps := ["script"]) fun _ _ _ _ _ _ us hl => match us, hl with | [_], _ => rfl, ok_begun Fb3 c__law_folded⟩
  have c__law_draw : Pd.CalleeD [(tL, (envOfC "law" (defScope sdLaw) 0 0 (.ref eL)).qual ++ "<lambda>")] l.prog w K mg base 2 "_law_draw" ["m", "limit"] FDraw := ⟨_, _, mb2, kb2, Fb2.binds (ps := ["m", "limit"]) fun _ _ _ _ _ _ us hl => match us, hl with | [_, _], _ => rfl, okD_draw (ok_draw Fb2 z_int z_len c__law_mixed)⟩
  have Fo1 := fun_mk (st := sIsWhole) lo1 co1 ko1
  have mo1 := PySem.W.mg_of X G ao1
  have Fo2 := fun_mk (st := sHasTask) lo2 co2 ko2
  have mo2 := PySem.W.mg_of X G ao2
  have Fo3 := fun_mk (st := sPutAhead) lo3 co3 ko3
  have mo3 := PySem.W.mg_of X G ao3
  have Fo4 := fun_mk (st := sIsTaskPair) lo4 co4 ko4
  have mo4 := PySem.W.mg_of X G ao4
  have Fo5 := fun_mk (st := sBitsBehind) lo5 co5 ko5
  have mo5 := PySem.W.mg_of X G ao5
  have Fo6 := fun_mk (st := sPairsTold) lo6 co6 ko6
  have mo6 := PySem.W.mg_of X G ao6
  have c_is_whole : Rd.Callee l.prog w K mg base CX0 1 "is_whole" ["value", "low", "high"] (spIsWhole K) := ⟨_, _, mo1, ko1, Fo1.binds (ps := ["value", "low", "high"]) fun _ _ _ _ _ _ us hl => match us, hl with | [_, _, _], _ => rfl, ok_is_whole Fo1 z_isinstance z_int z_bool⟩
  have c_has_task : Rd.Callee l.prog w K mg base CX0 1 "has_task" ["bits", "task"] spHasTask := ⟨_, _, mo2, ko2, Fo2.binds (ps := ["bits", "task"]) fun _ _ _ _ _ _ us hl => match us, hl with | [_, _], _ => rfl, ok_has_task Fo2⟩
  have c_put_ahead : Rd.Callee l.prog w K mg base CX0 2 "put_ahead" ["behind", "one", "other"] (spPutAhead K) := ⟨_, _, mo3, ko3, Fo3.binds (ps := ["behind", "one", "other"]) fun _ _ _ _ _ _ us hl => match us, hl with | [_, _, _], _ => rfl, ok_put_ahead Fo3 z_enumerate c_has_task⟩
  have c_is_task_pair : Rd.Callee l.prog w K mg base CX0 2 "is_task_pair" ["many", "value"] (spIsTaskPair K) := ⟨_, _, mo4, ko4, Fo4.binds (ps := ["many", "value"]) fun _ _ _ _ _ _ us hl => match us, hl with | [_, _], _ => rfl, ok_is_task_pair Fo4 z_isinstance z_tuple z_len c_is_whole⟩
  have c_bits_behind : Rd.Callee l.prog w K mg base CX0 3 "bits_behind" ["many", "pairs"] (spBitsBehind K) := ⟨_, _, mo5, ko5, Fo5.binds (ps := ["many", "pairs"]) fun _ _ _ _ _ _ us hl => match us, hl with | [_, _], _ => rfl, ok_bits_behind Fo5 z_enumerate c_is_task_pair c_has_task c_put_ahead⟩
  have c_pairs_told : Rd.Callee l.prog w K mg base CX0 2 "pairs_told" ["behind"] (spPairsTold K) := ⟨_, _, mo6, ko6, Fo6.binds (ps := ["behind"]) fun _ _ _ _ _ _ us hl => match us, hl with | [_], _ => rfl, ok_pairs_told Fo6 z_list z_range z_len c_has_task⟩
  have m_MOST_TASKS := PySem.W.mg_of X G a_MOST_TASKS
  have mCO := PySem.W.mg_of X G aO
  have TO : OrdC K CO := ⟨⟨pg, hdO, po, saO⟩, n1, n2, n3, haO, hn, ht, hmO⟩
  have FOI := fun_mk (st := sOrdInit) lOI cOI kOI
  have FOE := fun_mk (st := sOrdEq) lOE cOE kOE
  have OI : OrdI l.prog w K mg base CO := ⟨mCO, TO, ⟨_, _, ["self", "many", "pairs"], ⟨mkO, iO, jO, kO⟩, FOI.binds (ps := ["self", "many", "pairs"]) fun _ _ _ _ _ _ us hl => match us, hl with | [_, _, _], _ => rfl, ok_ord_init FOI TO z_isinstance z_list z_tuple m_MOST_TASKS c_is_whole c_bits_behind c_pairs_told⟩, ⟨["self", "other"], ⟨_, _, ⟨qO, neO, rO, s_object, s_list, s_tuple, s_dict, s_NoneType, s_int, s_str⟩, FOE.binds (ps := ["self", "other"]) fun _ _ _ _ _ _ us hl => match us, hl with | [_, _], _ => rfl, ok_ord_eq FOE TO z_isinstance mCO⟩⟩, T5, T6⟩
  have fo_Order_many := fo_of TO mCO n1
  have fo_Order_pairs := fo_of TO mCO n3
  have fo_Order_behind := fo_of TO mCO n2
  have n_ValueError := PySem.W.mg_none_of X G nn_ValueError
  have n_OverflowError := PySem.W.mg_none_of X G nn_OverflowError
  have g_TaskError := PySem.W.mg_of X G aC_TaskError
  have g_BadPairs := PySem.W.mg_of X G aC_BadPairs
  have isC_BadPairs : L2.ExcC K C_BadPairs := ⟨hgC_BadPairs, hkC_BadPairs, hsC_BadPairs, hdC_BadPairs, haC_BadPairs, hn, ht, hmC_BadPairs⟩
  have g_BadTerm := PySem.W.mg_of X G aC_BadTerm
  have isC_BadTerm : L2.ExcC K C_BadTerm := ⟨hgC_BadTerm, hkC_BadTerm, hsC_BadTerm, hdC_BadTerm, haC_BadTerm, hn, ht, hmC_BadTerm⟩
  have g_BadNumber := PySem.W.mg_of X G aC_BadNumber
  have isC_BadNumber : L2.ExcC K C_BadNumber := ⟨hgC_BadNumber, hkC_BadNumber, hsC_BadNumber, hdC_BadNumber, haC_BadNumber, hn, ht, hmC_BadNumber⟩
  have FC_BadNumber := fun_mk (st := sIBadNumber) lC_BadNumber cC_BadNumber kC_BadNumber
  have EC_BadNumber : Exv.EC K C_BadNumber "ValueError" "ValueError.__new__" "ValueError.__init__" Exv.veMro := ⟨Exv.baseVE, eiC_BadNumber, eoC_BadNumber, saC_BadNumber, kCC_BadNumber, isC_BadNumber⟩
  have M_BadNumber : Exv.Maker l.prog w K mg base "BadNumber" "value" C_BadNumber := ⟨g_BadNumber, nfC_BadNumber, "ValueError", "ValueError.__new__", "ValueError.__init__", Exv.veMro, _, _, ["self", "value"], EC_BadNumber, iC_BadNumber, tC_BadNumber, ok_BadNumber FC_BadNumber EC_BadNumber tfC_BadNumber g_TaskError sT rT vT, FC_BadNumber.binds (ps := ["self", "value"]) fun _ _ _ _ _ _ us hl => match us, hl with | [_, _], _ => rfl, fun _ _ _ => .of_eq rfl, rfl⟩
  have g_BadExchange := PySem.W.mg_of X G aC_BadExchange
  have isC_BadExchange : L2.ExcC K C_BadExchange := ⟨hgC_BadExchange, hkC_BadExchange, hsC_BadExchange, hdC_BadExchange, haC_BadExchange, hn, ht, hmC_BadExchange⟩
  have g_NoTerm := PySem.W.mg_of X G aC_NoTerm
  have isC_NoTerm : L2.ExcC K C_NoTerm := ⟨hgC_NoTerm, hkC_NoTerm, hsC_NoTerm, hdC_NoTerm, haC_NoTerm, hn, ht, hmC_NoTerm⟩
  have g_OtherTasks := PySem.W.mg_of X G aC_OtherTasks
  have isC_OtherTasks : L2.ExcC K C_OtherTasks := ⟨hgC_OtherTasks, hkC_OtherTasks, hsC_OtherTasks, hdC_OtherTasks, haC_OtherTasks, hn, ht, hmC_OtherTasks⟩
  have g_Lacks := PySem.W.mg_of X G aC_Lacks
  have isC_Lacks : L2.ExcC K C_Lacks := ⟨hgC_Lacks, hkC_Lacks, hsC_Lacks, hdC_Lacks, haC_Lacks, hn, ht, hmC_Lacks⟩
  have g_TooGreat := PySem.W.mg_of X G aC_TooGreat
  have isC_TooGreat : L2.ExcC K C_TooGreat := ⟨hgC_TooGreat, hkC_TooGreat, hsC_TooGreat, hdC_TooGreat, haC_TooGreat, hn, ht, hmC_TooGreat⟩
  have IT : Pd.IsTab K mg exTb := Pd.isTab_of (es := [("BadPairs", C_BadPairs), ("BadTerm", C_BadTerm), ("BadNumber", C_BadNumber), ("BadExchange", C_BadExchange), ("NoTerm", C_NoTerm), ("OtherTasks", C_OtherTasks), ("Lacks", C_Lacks), ("TooGreat", C_TooGreat)]) (xs := [("BadPairs", C_BadPairs), ("BadTerm", C_BadTerm), ("BadNumber", C_BadNumber), ("BadExchange", C_BadExchange), ("NoTerm", C_NoTerm), ("OtherTasks", C_OtherTasks), ("Lacks", C_Lacks), ("TooGreat", C_TooGreat)]) (ts := ["ValueError"]) (fun p hp => by
    simp only [List.mem_cons, List.not_mem_nil, or_false] at hp
    rcases hp with rfl | rfl | rfl | rfl | rfl | rfl | rfl | rfl <;> assumption) (fun p hp => by
    simp only [List.mem_cons, List.not_mem_nil, or_false] at hp
    rcases hp with rfl | rfl | rfl | rfl | rfl | rfl | rfl | rfl <;> assumption) (fun t ht => by
    obtain rfl := List.mem_singleton.mp ht
    exact ⟨n_ValueError, by rfl⟩) (fun p hp => by
    simp only [List.mem_cons, List.not_mem_nil, or_false] at hp
    rcases hp with rfl | rfl | rfl | rfl | rfl | rfl | rfl | rfl <;> assumption) tb
  have FT : Pd.FlTab K mg exFl := fun c f hf Ca hc => by
    have hm := List.contains_iff_mem.mp hf
    unfold exFls at hm
    simp only [List.mem_cons, List.not_mem_nil, or_false, Prod.mk.injEq] at hm
    rcases hm with ⟨rfl, rfl⟩ | ⟨rfl, rfl⟩ | ⟨rfl, rfl⟩ | ⟨rfl, rfl⟩ | ⟨rfl, rfl⟩ | ⟨rfl, rfl⟩ | ⟨rfl, rfl⟩
    · obtain rfl : C_BadPairs = Ca := by have := g_BadPairs.symm.trans hc; cases this; rfl
      exact ⟨isC_BadPairs, nfC_BadPairs⟩
    · obtain rfl : C_BadTerm = Ca := by have := g_BadTerm.symm.trans hc; cases this; rfl
      exact ⟨isC_BadTerm, nfC_BadTerm⟩
    · obtain rfl : C_BadNumber = Ca := by have := g_BadNumber.symm.trans hc; cases this; rfl
      exact ⟨isC_BadNumber, nfC_BadNumber⟩
    · obtain rfl : C_BadExchange = Ca := by have := g_BadExchange.symm.trans hc; cases this; rfl
      exact ⟨isC_BadExchange, nfC_BadExchange⟩
    · obtain rfl : C_NoTerm = Ca := by have := g_NoTerm.symm.trans hc; cases this; rfl
      exact ⟨isC_NoTerm, nfC_NoTerm⟩
    · obtain rfl : C_Lacks = Ca := by have := g_Lacks.symm.trans hc; cases this; rfl
      exact ⟨isC_Lacks, nfC_Lacks⟩
    · obtain rfl : C_TooGreat = Ca := by have := g_TooGreat.symm.trans hc; cases this; rfl
      exact ⟨isC_TooGreat, nfC_TooGreat⟩
  have HT : ∀ c Ca, hitB c = true → mg c = some (.ref Ca) → PySem.W.exmAny K (.ref Ca) [.ref C_TaskError, .ref C_TooGreat] = some true := fun c Ca hc e => by
    have hm := List.contains_iff_mem.mp hc
    unfold exNames at hm
    simp only [List.mem_cons, List.not_mem_nil, or_false] at hm
    rcases hm with rfl | rfl | rfl | rfl | rfl | rfl | rfl | rfl
    · obtain rfl : C_BadPairs = Ca := by have := g_BadPairs.symm.trans e; cases this; rfl
      exact ex_BadPairs
    · obtain rfl : C_BadTerm = Ca := by have := g_BadTerm.symm.trans e; cases this; rfl
      exact ex_BadTerm
    · obtain rfl : C_BadNumber = Ca := by have := g_BadNumber.symm.trans e; cases this; rfl
      exact ex_BadNumber
    · obtain rfl : C_BadExchange = Ca := by have := g_BadExchange.symm.trans e; cases this; rfl
      exact ex_BadExchange
    · obtain rfl : C_NoTerm = Ca := by have := g_NoTerm.symm.trans e; cases this; rfl
      exact ex_NoTerm
    · obtain rfl : C_OtherTasks = Ca := by have := g_OtherTasks.symm.trans e; cases this; rfl
      exact ex_OtherTasks
    · obtain rfl : C_Lacks = Ca := by have := g_Lacks.symm.trans e; cases this; rfl
      exact ex_Lacks
    · obtain rfl : C_TooGreat = Ca := by have := g_TooGreat.symm.trans e; cases this; rfl
      exact ex_TooGreat
  have OO : OrdOth K CO := fun U hU => by
    simp only [othTys, List.mem_cons, List.not_mem_nil, or_false] at hU
    rcases hU with rfl | rfl | rfl | rfl | rfl | rfl | rfl
    · exact ⟨ko_NoneType, nf_NoneType⟩
    · exact ⟨ko_bool, nf_bool⟩
    · exact ⟨ko_int, nf_int⟩
    · exact ⟨ko_str, nf_str⟩
    · exact ⟨ko_list, nf_list⟩
    · exact ⟨ko_tuple, nf_tuple⟩
    · exact ⟨ko_dict, nf_dict⟩
  have Fd1 := fun_mk (st := sdIsWhole) ld1 cd1 kd1
  have md1 := PySem.W.mg_of X G ad1
  have c_is_whole : Pd.CalleeD [(tL, (envOfC "law" (defScope sdLaw) 0 0 (.ref eL)).qual ++ "<lambda>")] l.prog w K mg base 1 "is_whole" ["value", "low", "high"] FIsWhole := ⟨_, _, md1, kd1, Fd1.binds (ps := ["value", "low", "high"]) fun _ _ _ _ _ _ us hl => match us, hl with | [_, _, _], _ => rfl, okd_is_whole Fd1 B⟩
  have Fd2 := fun_mk (st := sdLRow) ld2 cd2 kd2
  have md2 := PySem.W.mg_of X G ad2
  have c__law_row : Pd.CalleeD [(tL, (envOfC "law" (defScope sdLaw) 0 0 (.ref eL)).qual ++ "<lambda>")] l.prog w K mg base 3 "_law_row" ["m", "many"] FRow := ⟨_, _, md2, kd2, Fd2.binds (ps := ["m", "many"]) fun _ _ _ _ _ _ us hl => match us, hl with | [_, _], _ => rfl, okd__law_row Fd2 B c__law_draw⟩
  have Fd3 := fun_mk (st := sdLClosed) ld3 cd3 kd3
  have md3 := PySem.W.mg_of X G ad3
  have c__law_closed : Pd.CalleeD [(tL, (envOfC "law" (defScope sdLaw) 0 0 (.ref eL)).qual ++ "<lambda>")] l.prog w K mg base 1 "_law_closed" ["many", "pairs"] FClosed := ⟨_, _, md3, kd3, Fd3.binds (ps := ["many", "pairs"]) fun _ _ _ _ _ _ us hl => match us, hl with | [_, _], _ => rfl, okd__law_closed Fd3 B⟩
  have Fd4 := fun_mk (st := sdLListed) ld4 cd4 kd4
  have md4 := PySem.W.mg_of X G ad4
  have c__law_listed : Pd.CalleeD [(tL, (envOfC "law" (defScope sdLaw) 0 0 (.ref eL)).qual ++ "<lambda>")] l.prog w K mg base 1 "_law_listed" ["before"] FListed := ⟨_, _, md4, kd4, Fd4.binds (ps := ["before"]) fun _ _ _ _ _ _ us hl => match us, hl with | [_], _ => rfl, okd__law_listed Fd4 B⟩
  have Fd5 := fun_mk (st := sdLMade) ld5 cd5 kd5
  have md5 := PySem.W.mg_of X G ad5
  have c__law_made : Pd.CalleeD [(tL, (envOfC "law" (defScope sdLaw) 0 0 (.ref eL)).qual ++ "<lambda>")] l.prog w K mg base 20 "_law_made" ["before"] FMade := ⟨_, _, md5, kd5, Fd5.binds (ps := ["before"]) fun _ _ _ _ _ _ us hl => match us, hl with | [_], _ => rfl, okd__law_made Fd5 B OI c__law_listed⟩
  have Fd6 := fun_mk (st := sdLPairs) ld6 cd6 kd6
  have md6 := PySem.W.mg_of X G ad6
  have c__law_pairs : Pd.CalleeD [(tL, (envOfC "law" (defScope sdLaw) 0 0 (.ref eL)).qual ++ "<lambda>")] l.prog w K mg base 4 "_law_pairs" ["m", "many"] FLPairs := ⟨_, _, md6, kd6, Fd6.binds (ps := ["m", "many"]) fun _ _ _ _ _ _ us hl => match us, hl with | [_, _], _ => rfl, okd__law_pairs Fd6 B c__law_draw c__law_row⟩
  have Fd7 := fun_mk (st := sdLLike) ld7 cd7 kd7
  have md7 := PySem.W.mg_of X G ad7
  have c__law_like : Pd.CalleeD [(tL, (envOfC "law" (defScope sdLaw) 0 0 (.ref eL)).qual ++ "<lambda>")] l.prog w K mg base 1 "_law_like" ["told", "due"] FLikeM := ⟨_, _, md7, kd7, Fd7.binds (ps := ["told", "due"]) fun _ _ _ _ _ _ us hl => match us, hl with | [_, _], _ => rfl, okd__law_like Fd7 B⟩
  have Fd8 := fun_mk (st := sdHasTask) ld8 cd8 kd8
  have md8 := PySem.W.mg_of X G ad8
  have c_has_task : Pd.CalleeD [(tL, (envOfC "law" (defScope sdLaw) 0 0 (.ref eL)).qual ++ "<lambda>")] l.prog w K mg base 1 "has_task" ["bits", "task"] FHasTask := ⟨_, _, md8, kd8, Fd8.binds (ps := ["bits", "task"]) fun _ _ _ _ _ _ us hl => match us, hl with | [_, _], _ => rfl, okd_has_task Fd8 ⟩
  have Fd9 := fun_mk (st := sdLHeard) ld9 cd9 kd9
  have md9 := PySem.W.mg_of X G ad9
  have h__law_heard : ∀ k, 1 ≤ k → Pd.LamOk [(tL, (envOfC "law" (defScope sdLaw) 0 0 (.ref eL)).qual ++ "<lambda>")] l.prog w K mg base k "_law_heard" "call" FHeard := fun k hk => okd__law_heard Fd9 md9 kd9 (Fd9.binds (ps := ["call"]) fun _ _ _ _ _ _ us hl => match us, hl with | [_], _ => rfl) B g_BadExchange g_BadNumber g_BadPairs g_BadTerm g_Lacks g_NoTerm g_OtherTasks g_TaskError g_TooGreat n_ValueError IT FT HT k hk
  have FM0 := fun_mk (st := sdOrderIsAhead) lM0 cM0 kM0
  have mx_Order_is_ahead : Pd.MethX [(tL, (envOfC "law" (defScope sdLaw) 0 0 (.ref eL)).qual ++ "<lambda>")] l.prog w K mg base 3 "Order" "is_ahead" ["self", "one", "other"] FIsAheadX := ⟨CO, _, _, mCO, TO.cl, ⟨jM0, xM0, kM0⟩, FM0.binds (ps := ["self", "one", "other"]) fun _ _ _ _ _ _ us hl => match us, hl with | [_, _, _], _ => rfl, okd_Order_is_ahead FM0 fo_Order_behind fo_Order_many M_BadNumber ty_BadNumber c_is_whole c_has_task⟩
  have md_Order_is_ahead := Pd.meth_calm mx_Order_is_ahead
  have mL := PySem.W.mg_of X G aL
  have FL := Rd.funC_mk (st := sdLaw) hCL lL cL kL
  have TBl := TBs (eL, tL) (by simp)
  have hmT : (tL, (envOfC "law" (defScope sdLaw) 0 0 (.ref eL)).qual ++ "<lambda>") ∈ ([(tL, (envOfC "law" (defScope sdLaw) 0 0 (.ref eL)).qual ++ "<lambda>")] : List (Addr × Str)) := by simp
  have hu : ∀ q ∈ ([(tL, (envOfC "law" (defScope sdLaw) 0 0 (.ref eL)).qual ++ "<lambda>")] : List (Addr × Str)), q.1 = tL → q.2 = (envOfC "law" (defScope sdLaw) 0 0 (.ref eL)).qual ++ "<lambda>" := fun q hq _ => by simp only [List.mem_singleton] at hq; rw [hq]
  exact ok_law FL TBl hmT hu B fo_Order_pairs mx_Order_is_ahead md_Order_is_ahead OI OO c__law_draw c__law_pairs c__law_closed c__law_like c__law_made h__law_heard c__law_begun
end Bb
open PySem PySem.W PyProof.Rows in
set_option maxRecDepth 100000 in
set_option maxHeartbeats 0 in
theorem PySem.Challenge.cw_behindbeside_k02_what_orders_tell_holds : PySem.Challenge.rw_behindbeside_k02_what_orders_tell.Holds := by
  w_on; o_law; k_head; (case hw => w_witness2)
  k_fill
  refine Rd.walkT (l := PySem.Challenge.rw_behindbeside_k02_what_orders_tell) (n := 63) (k := 24) (x := "script") (sp := Bb.spLaw) rfl (by decide) rfl ⟨rfl, by decide, by decide⟩ (fun w h Y => PySem.W.km_in_of Y) ?F (fun T K H a ns hl hH hS => ⟨a, ns, rfl, hS, hl, Rd.tabs_empty hH, fun _ => rfl⟩)
  case F =>
    intro w mg fa h Y KX G hmg
    refine' Bb.all_mk KX G hmg (PySem.W.km_tabs_of Y) ?n_int ?n_str ?n_bool ?n_list ?n_tuple ?n_dict ?n_set ?n_len ?n_range ?n_enumerate ?n_zip ?n_isinstance ?n_sorted ?n_min ?n_max ?n_any ?n_all ?n_sum ?n_repr ?ab0 ?lb0 ?cb0 ?kb0 ?ab1 ?lb1 ?cb1 ?kb1 ?ab2 ?lb2 ?cb2 ?kb2 ?ab3 ?lb3 ?cb3 ?kb3 ?ao1 ?lo1 ?co1 ?ko1 ?ao2 ?lo2 ?co2 ?ko2 ?ao3 ?lo3 ?co3 ?ko3 ?ao4 ?lo4 ?co4 ?ko4 ?ao5 ?lo5 ?co5 ?ko5 ?ao6 ?lo6 ?co6 ?ko6 ?aO ?hn ?ht ?pg ?hdO ?po ?saO ?n1 ?n2 ?n3 ?haO ?hmO ?mkO ?kO ?iO ?jO ?qO ?rO ?neO ?s_object ?s_list ?s_tuple ?s_dict ?s_NoneType ?s_int ?s_str ?lOI ?cOI ?kOI ?lOE ?cOE ?kOE ?T5 ?T6 ?a_MOST_TASKS ?nn_ValueError ?nn_OverflowError ?aC_TaskError ?sT ?rT ?vT ?vO ?aC_BadPairs ?hgC_BadPairs ?hkC_BadPairs ?hsC_BadPairs ?hdC_BadPairs ?haC_BadPairs ?hmC_BadPairs ?nfC_BadPairs ?aC_BadTerm ?hgC_BadTerm ?hkC_BadTerm ?hsC_BadTerm ?hdC_BadTerm ?haC_BadTerm ?hmC_BadTerm ?nfC_BadTerm ?aC_BadNumber ?hgC_BadNumber ?hkC_BadNumber ?hsC_BadNumber ?hdC_BadNumber ?haC_BadNumber ?hmC_BadNumber ?nfC_BadNumber ?ty_BadNumber ?kCC_BadNumber ?eiC_BadNumber ?eoC_BadNumber ?saC_BadNumber ?tfC_BadNumber ?iC_BadNumber ?tC_BadNumber ?lC_BadNumber ?cC_BadNumber ?kC_BadNumber ?aC_BadExchange ?hgC_BadExchange ?hkC_BadExchange ?hsC_BadExchange ?hdC_BadExchange ?haC_BadExchange ?hmC_BadExchange ?nfC_BadExchange ?aC_NoTerm ?hgC_NoTerm ?hkC_NoTerm ?hsC_NoTerm ?hdC_NoTerm ?haC_NoTerm ?hmC_NoTerm ?nfC_NoTerm ?aC_OtherTasks ?hgC_OtherTasks ?hkC_OtherTasks ?hsC_OtherTasks ?hdC_OtherTasks ?haC_OtherTasks ?hmC_OtherTasks ?aC_Lacks ?hgC_Lacks ?hkC_Lacks ?hsC_Lacks ?hdC_Lacks ?haC_Lacks ?hmC_Lacks ?nfC_Lacks ?aC_TooGreat ?hgC_TooGreat ?hkC_TooGreat ?hsC_TooGreat ?hdC_TooGreat ?haC_TooGreat ?hmC_TooGreat ?nfC_TooGreat ?tb ?ex_BadPairs ?ex_BadTerm ?ex_BadNumber ?ex_BadExchange ?ex_NoTerm ?ex_OtherTasks ?ex_Lacks ?ex_TooGreat ?ko_NoneType ?nf_NoneType ?ko_bool ?nf_bool ?ko_int ?nf_int ?ko_str ?nf_str ?ko_list ?nf_list ?ko_tuple ?nf_tuple ?ko_dict ?nf_dict ?ad1 ?ld1 ?cd1 ?kd1 ?ad2 ?ld2 ?cd2 ?kd2 ?ad3 ?ld3 ?cd3 ?kd3 ?ad4 ?ld4 ?cd4 ?kd4 ?ad5 ?ld5 ?cd5 ?kd5 ?ad6 ?ld6 ?cd6 ?kd6 ?ad7 ?ld7 ?cd7 ?kd7 ?ad8 ?ld8 ?cd8 ?kd8 ?ad9 ?ld9 ?cd9 ?kd9 ?jM0 ?xM0 ?lM0 ?cM0 ?kM0 ?aL ?lL ?cL ?kL ?hCL ?hML ?hNL ?hHL
    (case n_int => k_is)
    (case n_str => k_is)
    (case n_bool => k_is)
    (case n_list => k_is)
    (case n_tuple => k_is)
    (case n_dict => k_is)
    (case n_set => k_is)
    (case n_len => k_is)
    (case n_range => k_is)
    (case n_enumerate => k_is)
    (case n_zip => k_is)
    (case n_isinstance => k_is)
    (case n_sorted => k_is)
    (case n_min => k_is)
    (case n_max => k_is)
    (case n_any => k_is)
    (case n_all => k_is)
    (case n_sum => k_is)
    (case n_repr => k_is)
    (case ab0 => k_is)
    (case lb0 => k_is)
    (case cb0 => k_is)
    (case kb0 => k_is)
    (case ab1 => k_is)
    (case lb1 => k_is)
    (case cb1 => k_is)
    (case kb1 => k_is)
    (case ab2 => k_is)
    (case lb2 => k_is)
    (case cb2 => k_is)
    (case kb2 => k_is)
    (case ab3 => k_is)
    (case lb3 => k_is)
    (case cb3 => k_is)
    (case kb3 => k_is)
    (case ao1 => k_is)
    (case lo1 => k_is)
    (case co1 => k_is)
    (case ko1 => k_is)
    (case ao2 => k_is)
    (case lo2 => k_is)
    (case co2 => k_is)
    (case ko2 => k_is)
    (case ao3 => k_is)
    (case lo3 => k_is)
    (case co3 => k_is)
    (case ko3 => k_is)
    (case ao4 => k_is)
    (case lo4 => k_is)
    (case co4 => k_is)
    (case ko4 => k_is)
    (case ao5 => k_is)
    (case lo5 => k_is)
    (case co5 => k_is)
    (case ko5 => k_is)
    (case ao6 => k_is)
    (case lo6 => k_is)
    (case co6 => k_is)
    (case ko6 => k_is)
    (case aO => k_is)
    (case hn => k_is)
    (case ht => k_is)
    (case pg => k_is)
    (case hdO => k_is)
    (case po => k_is)
    (case saO => k_is)
    (case n1 => k_is)
    (case n2 => k_is)
    (case n3 => k_is)
    (case haO => k_is)
    (case hmO => k_is)
    (case mkO => k_is)
    (case kO => k_is)
    (case iO => k_is)
    (case jO => k_is)
    (case qO => k_is)
    (case rO => k_is)
    (case neO => k_is)
    (case s_object => k_is)
    (case s_list => k_is)
    (case s_tuple => k_is)
    (case s_dict => k_is)
    (case s_NoneType => k_is)
    (case s_int => k_is)
    (case s_str => k_is)
    (case lOI => k_is)
    (case cOI => k_is)
    (case kOI => k_is)
    (case lOE => k_is)
    (case cOE => k_is)
    (case kOE => k_is)
    (case T5 => k_is)
    (case T6 => kernel_rfl)
    (case a_MOST_TASKS => k_is)
    (case nn_ValueError => k_is)
    (case nn_OverflowError => k_is)
    (case aC_TaskError => k_is)
    (case sT => k_is)
    (case rT => k_is)
    (case vT => k_is)
    (case vO => k_is)
    (case aC_BadPairs => k_is)
    (case hgC_BadPairs => k_is)
    (case hkC_BadPairs => k_is)
    (case hsC_BadPairs => k_is)
    (case hdC_BadPairs => k_is)
    (case haC_BadPairs => k_is)
    (case hmC_BadPairs => k_is)
    (case nfC_BadPairs => k_is)
    (case aC_BadTerm => k_is)
    (case hgC_BadTerm => k_is)
    (case hkC_BadTerm => k_is)
    (case hsC_BadTerm => k_is)
    (case hdC_BadTerm => k_is)
    (case haC_BadTerm => k_is)
    (case hmC_BadTerm => k_is)
    (case nfC_BadTerm => k_is)
    (case aC_BadNumber => k_is)
    (case hgC_BadNumber => k_is)
    (case hkC_BadNumber => k_is)
    (case hsC_BadNumber => k_is)
    (case hdC_BadNumber => k_is)
    (case haC_BadNumber => k_is)
    (case hmC_BadNumber => k_is)
    (case nfC_BadNumber => k_is)
    (case ty_BadNumber => k_is)
    (case kCC_BadNumber => k_is)
    (case eiC_BadNumber => kernel_rfl)
    (case eoC_BadNumber => kernel_rfl)
    (case saC_BadNumber => k_is)
    (case tfC_BadNumber => k_is)
    (case iC_BadNumber => k_is)
    (case tC_BadNumber => k_is)
    (case lC_BadNumber => k_is)
    (case cC_BadNumber => k_is)
    (case kC_BadNumber => k_is)
    (case aC_BadExchange => k_is)
    (case hgC_BadExchange => k_is)
    (case hkC_BadExchange => k_is)
    (case hsC_BadExchange => k_is)
    (case hdC_BadExchange => k_is)
    (case haC_BadExchange => k_is)
    (case hmC_BadExchange => k_is)
    (case nfC_BadExchange => k_is)
    (case aC_NoTerm => k_is)
    (case hgC_NoTerm => k_is)
    (case hkC_NoTerm => k_is)
    (case hsC_NoTerm => k_is)
    (case hdC_NoTerm => k_is)
    (case haC_NoTerm => k_is)
    (case hmC_NoTerm => k_is)
    (case nfC_NoTerm => k_is)
    (case aC_OtherTasks => k_is)
    (case hgC_OtherTasks => k_is)
    (case hkC_OtherTasks => k_is)
    (case hsC_OtherTasks => k_is)
    (case hdC_OtherTasks => k_is)
    (case haC_OtherTasks => k_is)
    (case hmC_OtherTasks => k_is)
    (case aC_Lacks => k_is)
    (case hgC_Lacks => k_is)
    (case hkC_Lacks => k_is)
    (case hsC_Lacks => k_is)
    (case hdC_Lacks => k_is)
    (case haC_Lacks => k_is)
    (case hmC_Lacks => k_is)
    (case nfC_Lacks => k_is)
    (case aC_TooGreat => k_is)
    (case hgC_TooGreat => k_is)
    (case hkC_TooGreat => k_is)
    (case hsC_TooGreat => k_is)
    (case hdC_TooGreat => k_is)
    (case haC_TooGreat => k_is)
    (case hmC_TooGreat => k_is)
    (case nfC_TooGreat => k_is)
    (case tb => kernel_rfl)
    (case ex_BadPairs => kernel_rfl)
    (case ex_BadTerm => kernel_rfl)
    (case ex_BadNumber => kernel_rfl)
    (case ex_BadExchange => kernel_rfl)
    (case ex_NoTerm => kernel_rfl)
    (case ex_OtherTasks => kernel_rfl)
    (case ex_Lacks => kernel_rfl)
    (case ex_TooGreat => kernel_rfl)
    (case ko_NoneType => kernel_rfl)
    (case nf_NoneType => k_is)
    (case ko_bool => kernel_rfl)
    (case nf_bool => k_is)
    (case ko_int => kernel_rfl)
    (case nf_int => k_is)
    (case ko_str => kernel_rfl)
    (case nf_str => k_is)
    (case ko_list => kernel_rfl)
    (case nf_list => k_is)
    (case ko_tuple => kernel_rfl)
    (case nf_tuple => k_is)
    (case ko_dict => kernel_rfl)
    (case nf_dict => k_is)
    (case ad1 => k_is)
    (case ld1 => k_is)
    (case cd1 => k_is)
    (case kd1 => k_is)
    (case ad2 => k_is)
    (case ld2 => k_is)
    (case cd2 => k_is)
    (case kd2 => k_is)
    (case ad3 => k_is)
    (case ld3 => k_is)
    (case cd3 => k_is)
    (case kd3 => k_is)
    (case ad4 => k_is)
    (case ld4 => k_is)
    (case cd4 => k_is)
    (case kd4 => k_is)
    (case ad5 => k_is)
    (case ld5 => k_is)
    (case cd5 => k_is)
    (case kd5 => k_is)
    (case ad6 => k_is)
    (case ld6 => k_is)
    (case cd6 => k_is)
    (case kd6 => k_is)
    (case ad7 => k_is)
    (case ld7 => k_is)
    (case cd7 => k_is)
    (case kd7 => k_is)
    (case ad8 => k_is)
    (case ld8 => k_is)
    (case cd8 => k_is)
    (case kd8 => k_is)
    (case ad9 => k_is)
    (case ld9 => k_is)
    (case cd9 => k_is)
    (case kd9 => k_is)
    (case jM0 => k_is)
    (case xM0 => k_is)
    (case lM0 => k_is)
    (case cM0 => k_is)
    (case kM0 => k_is)
    (case aL => k_is)
    (case lL => k_is)
    (case cL => k_is)
    (case kL => k_is)
    (case hCL => rfl)
    (case hML => k_mem)
    (case hNL => kernel_rfl)
    (case hHL => kernel_rfl)
