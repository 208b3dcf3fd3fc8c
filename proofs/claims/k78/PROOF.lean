import PyProof.Rows.All
import Wide.All
import OpenK.AllK
import Wide.FinOn
import HandS.ForMost
import HandS.Walk
import HandS.ForExc
import HandS.Conv
import HandS.ExcInit
import HandS.ExcField
import HandS.ExcIs
import HandS.ExcOwn
import HandS.ExcValue
import HandS.IsInst
import HandS.RaiseMore
import HandS.OwnEq
import HandS.Style
import HandS.Ends
import KE.KExcInit
import KE.OsArith
import KE.GoesMore
import PyProof.ReprRoads
import PySem.Challenge.RW_behindbeside_k78_exceptions_of_both_part
set_option Elab.async false
set_option linter.all false
set_option maxRecDepth 100000
set_option maxHeartbeats 4000000
namespace Rd
open PySem L2
section
variable {K : PySem.W.Frag} {σ : St} {H : Hp} {Q : VK} {D : Ends}
theorem var {i : Nat} {v : V} (h : σ[i]? = some (some v)) (q : Q v H) : tVar i σ H Q := ⟨v, h, q⟩
theorem c {v : V} (q : Q v H) : tC v σ H Q := q
theorem op {r : R2} {ta tb : TE} (q : ta σ H fun x H1 => tb σ H1 fun y H2 => r x y H2 Q) : tOp r ta tb σ H Q := q
theorem un {r : V → Hp → VK → Prop} {ta : TE} (q : ta σ H fun x H1 => r x H1 Q) : tUn r ta σ H Q := q
theorem rI_ {C : Int → Int → Prop} {g : Int → Int → V} {i j : Int} (hc : C i j) (q : Q (g i j) H) : rI C g (.int i) (.int j) H Q := ⟨i, j, rfl, rfl, hc, q⟩
theorem rI0_ {g : Int → Int → V} {i j : Int} (q : Q (g i j) H) : rI0 g (.int i) (.int j) H Q := ⟨i, j, rfl, rfl, q⟩
theorem rU_ {g : Int → V} {i : Int} (q : Q (g i) H) : rU g (.int i) H Q := ⟨i, rfl, q⟩
theorem cb {r : List V → Hp → VK → Prop} {t : TA} (q : t σ H fun vs H1 => r vs H1 Q) : tCB r t σ H Q := q
theorem nil {Q : List V → Hp → Prop} (q : Q [] H) : tNil σ H Q := q
theorem cons {ta : TE} {tr : TA} {Q : List V → Hp → Prop} (q : ta σ H fun x H1 => tr σ H1 fun xs H2 => Q (x :: xs) H2) : tCons ta tr σ H Q := q
def rInt1 : List V → Hp → VK → Prop := fun xs H Q => ∃ i, xs = [.int i] ∧ Q (.int i) H
theorem call_intI {X : Cx} : CallR X (.type "int") rInt1 := fun pins s σ H xs us Q I r h => call_int1 pins s σ H xs us Q I r (.inl h)
theorem int1 {i : Int} (q : Q (.int i) H) : rInt1 [.int i] H Q := ⟨i, rfl, q⟩
theorem lst {t : TA} (q : t σ H fun xs H1 => xs.length ≤ sizeLine ∧ ∀ p, H1 p = none → Q (.ref p) (upd H1 p (.lst xs))) : tLst t σ H Q := q
theorem tup {t : TA} (q : t σ H fun xs H1 => xs.length ≤ sizeLine ∧ ∀ p, H1 p = none → Q (.ref p) (upd H1 p (.tup xs))) : tTup t σ H Q := q
def rTest (Q : Bool → Hp → Prop) (x : V) (H : Hp) : Prop := ∃ k, x = .bl k ∧ Q k H
theorem test {t : TE} {Q : Bool → Hp → Prop} (q : t σ H fun x H' => rTest Q x H') : tTest t σ H Q := q
theorem tb {t : TE} {Q : Bool → Hp → Prop} (q : t σ H fun x H' => rTest Q x H') : tB t σ H Q := q
theorem bl {k : Bool} {Q : Bool → Hp → Prop} (q : Q k H) : rTest Q (.bl k) H := ⟨k, rfl, q⟩
theorem ifN {b : Bool} {A B : Prop} (h1 : b = false → A) (h2 : b = true → B) : if (!b) = true then A else B := by
  cases b with
  | true => rw [if_neg (by decide)]; exact h2 rfl
  | false => rw [if_pos (by decide)]; exact h1 rfl
theorem ifB {b : Bool} {A B : Prop} (h1 : b = true → A) (h2 : b = false → B) : if b = true then A else B := by
  cases b with
  | true => rw [if_pos rfl]; exact h1 rfl
  | false => rw [if_neg (by decide)]; exact h2 rfl
theorem ifD {p : Prop} [Decidable p] {A B : Prop} (h1 : p → A) (h2 : ¬ p → B) : if decide p = true then A else B := by
  by_cases h : p
  · rw [if_pos (decide_eq_true h)]; exact h1 h
  · rw [if_neg (by rw [decide_eq_false h]; decide)]; exact h2 h
theorem ifE {t : TT} {ta tb : TE} (q : t σ H fun c H1 => if c = true then ta σ H1 Q else tb σ H1 Q) : tIf t ta tb σ H Q := q
theorem asg {te : TE} {g : TG} (q : te σ H fun x H1 => g x σ H1 D.nx) : tAsg te g D σ H := q
theorem name {i : Nat} {v : V} {Q : St → Hp → Prop} (q : Q (σ.set i (some v)) H) : gName i v σ H Q := q
theorem gsub {to ti : TE} {t : TSet} {v : V} {Q : St → Hp → Prop} (q : to σ H fun o H1 => ti σ H1 fun i H2 => t o i v H2 fun H3 => Q σ H3) : gSub to ti t v σ H Q := q
theorem seq {t u : TS} (q : t { D with nx := u D } σ H) : tSeq t u D σ H := q
theorem nxt (q : D.nx σ H) : tNext D σ H := q
theorem ret {te : TE} (q : te σ H D.rt) : tRet te D σ H := q
theorem drop {te : TE} (q : te σ H fun _ H1 => D.nx σ H1) : tDrop te D σ H := q
theorem ifs {c : TT} {t u : TS} (q : c σ H fun b H1 => if b = true then t D σ H1 else u D σ H1) : tIfS c t u D σ H := q
def rDGet : R2 := fun x y H Q => ∃ a v, x = .ref a ∧ DGet H a y (some v) ∧ Q v H
def rDPut (x y v : V) (H : Hp) (P : Hp → Prop) : Prop := ∃ a H4, x = .ref a ∧ DPut H a y v H4 ∧ P H4
theorem dget {td ty : TE} (q : td σ H fun x H1 => ty σ H1 fun y H2 => rDGet x y H2 Q) : tDGet td ty σ H Q := q
theorem dput {td ty tv : TE} (q : tv σ H fun v H1 => td σ H1 fun x H2 => ty σ H2 fun y H3 => rDPut x y v H3 (D.nx σ)) : sDPut td ty tv D σ H := q
theorem dgS {a : Addr} {kvs : List (Key × V)} {k : Str} {v : V} (h : H a = some (.dK kvs)) (hk : valV kvs (Sum.inr k) = some v) (q : Q v H) : rDGet (.ref a) (.str k) H Q :=
  ⟨a, v, rfl, by rw [← hk]; exact DGet.k (k := Sum.inr k) h, q⟩
theorem dpS {a : Addr} {kvs : List (Key × V)} {k : Str} {v : V} {P : Hp → Prop} (h : H a = some (.dK kvs)) (hl : kvs.length < 1000) (q : P (upd H a (.dK (putK kvs (Sum.inr k) v)))) : rDPut (.ref a) (.str k) v H P :=
  ⟨a, _, rfl, DPut.k (k := Sum.inr k) h (small1000 (Nat.le_of_lt hl)), q⟩
theorem call {sp : Sp} {dvs : List V} {E : XK} {t : TA} (q : t σ H fun vs H1 => sp (vs ++ dvs) H1 Q E) : tCall sp dvs E t σ H Q := q
theorem tnot {t : TT} {Q : Bool → Hp → Prop} (q : t σ H fun c H1 => Q (!c) H1) : tNot t σ H Q := q
theorem tand {t u : TT} {Q : Bool → Hp → Prop} (q : t σ H fun c H1 => if c = true then u σ H1 Q else Q false H1) : tAnd t u σ H Q := q
theorem tor {t u : TT} {Q : Bool → Hp → Prop} (q : t σ H fun c H1 => if c = true then Q true H1 else u σ H1 Q) : tOr t u σ H Q := q
theorem disp {trs : List (TE × TE)} (q : ∀ p, H p = none → tPairs trs σ (upd H p (.dK [])) fun ps H2 => H2 p = some (.dK []) ∧ ∃ kvs : List (Key × V), ps = kvs.map (fun kv => (kV kv.1, kv.2)) ∧ kvs.length ≤ 15 ∧ Q (.ref p) (upd H2 p (.dK (mergeK [] kvs)))) : tDisp trs σ H Q := q
theorem pnil {Q : List (V × V) → Hp → Prop} (q : Q [] H) : tPairs [] σ H Q := q
theorem pcons {tk tv : TE} {r : List (TE × TE)} {Q : List (V × V) → Hp → Prop} (q : tk σ H fun x H1 => tv σ H1 fun y H2 => tPairs r σ H2 fun ps H3 => Q ((x, y) :: ps) H3) : tPairs ((tk, tv) :: r) σ H Q := q
end
end Rd

namespace Rd
open PySem L2
/-- a for's loop over J -/
def forW (J : It) (g : TG) (tb : TS) (D : Ends) (σ : St) (H1 : Hp) : Prop := ∃ W : Nat → Nat → St → Hp → Prop, (∃ m, W 0 m σ H1) ∧ ∀ i m σ H, W i m σ H →
  (J.stop i H ∧ D.nx σ H) ∨ (J.go i H ∧ ∃ N : St → Hp → Prop, (∀ σ' H', N σ' H' → ∃ m', m' < m ∧ W (i + 1) m' σ' H') ∧ ∀ x H', J.yld i H x H' → g x σ H' fun σ2 H2 => tb { D with nx := N, ct := N, bk := D.nx } σ2 H2)
/-- a comprehension's -/
def lcW (J : It) (g : TG) (tt : TT) (te : TE) (vs : List Nat) (σ : St) (H1 : Hp) (Q : VK) : Prop := ∀ D, H1 D = none → ∃ W : Nat → Nat → Hp → Prop, (∃ m, W 0 m (upd H1 D (.lst []))) ∧ ∀ i m H, W i m H →
  (J.stop i H ∧ Q (.ref D) H) ∨ (J.go i H ∧ ∃ Nx : Hp → Prop, (∀ H', Nx H' → ∃ m', m' < m ∧ W (i + 1) m' H') ∧ ∀ x H', J.yld i H x H' → g x (wipe σ vs) H' fun σ2 H2 => wipe σ2 vs = wipe σ vs ∧ tt σ2 H2 fun b H3 =>
    if b = true then te σ2 H3 fun y H4 => ∃ acc, H4 D = some (.lst acc) ∧ acc.length < sizeLine ∧ Nx (upd H4 D (.lst (acc ++ [y]))) else Nx H3)
/-- what a comprehension's item wants at its end -/
def itemEnd (D : Addr) (P : Hp → Prop) (y : V) (H : Hp) : Prop := ∃ acc, H D = some (.lst acc) ∧ acc.length < sizeLine ∧ P (upd H D (.lst (acc ++ [y])))
section
variable {K : PySem.W.Frag} {σ : St} {H : Hp} {Q : VK} {D : Ends} {wi : TI} {g : TG} {tb : TS} {tt : TT} {te : TE} {vs : List Nat} {ta : TA} {tl : TE} {a b : Addr} {xs ys : List V}
theorem tfor (q : wi σ H fun J H1 => forW J g tb D σ H1) : tFor wi g tb D σ H := q
theorem tlc (q : wi σ H fun J H1 => lcW J g tt te vs σ H1 Q) : tLc wi g tt te vs σ H Q := q
theorem ilist {R : It → Hp → Prop} (q : tl σ H fun x H1 => ∃ a, x = .ref a ∧ (∃ xs, SqL K H1 a xs) ∧ R (Itl K a) H1) : iList K tl σ H R := q
theorem itup {R : It → Hp → Prop} (q : tl σ H fun x H1 => ∃ a, x = .ref a ∧ (∃ xs, SqT K H1 a xs) ∧ R (Itt K a) H1) : iTup K tl σ H R := q
theorem irng1 {R : It → Hp → Prop} (q : ta σ H fun vs H1 => ∃ j : Int, vs = [.int j] ∧ -(2 ^ 62) ≤ j ∧ j < 2 ^ 62 ∧ R (Itr 0 j.toNat) H1) : iRng1 ta σ H R := q
theorem irng2 {R : It → Hp → Prop} (q : ta σ H fun vs H1 => ∃ i j : Int, vs = [.int i, .int j] ∧ (-(2 ^ 62) ≤ i ∧ i < 2 ^ 62 ∧ -(2 ^ 62) ≤ j ∧ j < 2 ^ 62) ∧ R (Itr i (j - i).toNat) H1) : iRng2 ta σ H R := q
theorem ienum {R : It → Hp → Prop} (q : ta σ H fun vs H1 => ∃ a xs, vs = [.ref a] ∧ SqL K H1 a xs ∧ R (Ite K a) H1) : iEnum K ta σ H R := q
theorem izip {R : It → Hp → Prop} (q : ta σ H fun vs H1 => ∃ a b xs ys, vs = [.ref a, .ref b] ∧ SqL K H1 a xs ∧ SqL K H1 b ys ∧ R (Itz K a b) H1) : iZip K ta σ H R := q
/-! loops: by an invariant over the turn, the slots and the heap -/
theorem forList (hS : SqL K H a xs) (Pv : Nat → St → Hp → Prop) (h0 : Pv 0 σ H) (hG : ∀ i σ H, i ≤ xs.length → Pv i σ H → SqL K H a xs)
    (hs : ∀ i x σ H, i < xs.length → xs[i]? = some x → Pv i σ H → g x σ H fun σ2 H2 => tb { D with nx := Pv (i + 1), ct := Pv (i + 1), bk := D.nx } σ2 H2) (hd : ∀ σ H, Pv xs.length σ H → D.nx σ H) :
    ∃ a', V.ref a = .ref a' ∧ (∃ xs, SqL K H a' xs) ∧ forW (Itl K a') g tb D σ H :=
  ⟨a, rfl, ⟨xs, hS⟩, for_it walk_list Pv h0 hG (fun i x σ H H' hi p y => by obtain ⟨rfl, e⟩ := y; exact hs i x σ H' hi e p) hd⟩
theorem forTup (hS : SqT K H a xs) (Pv : Nat → St → Hp → Prop) (h0 : Pv 0 σ H) (hG : ∀ i σ H, i ≤ xs.length → Pv i σ H → SqT K H a xs)
    (hs : ∀ i x σ H, i < xs.length → xs[i]? = some x → Pv i σ H → g x σ H fun σ2 H2 => tb { D with nx := Pv (i + 1), ct := Pv (i + 1), bk := D.nx } σ2 H2) (hd : ∀ σ H, Pv xs.length σ H → D.nx σ H) :
    ∃ a', V.ref a = .ref a' ∧ (∃ xs, SqT K H a' xs) ∧ forW (Itt K a') g tb D σ H :=
  ⟨a, rfl, ⟨xs, hS⟩, for_it walk_tup Pv h0 hG (fun i x σ H H' hi p y => by obtain ⟨rfl, e⟩ := y; exact hs i x σ H' hi e p) hd⟩
theorem forRng1 {j : Int} (n : Nat) (hj : j = (n : Int)) (hn : n < 4611686018427387904) (Pv : Nat → St → Hp → Prop) (h0 : Pv 0 σ H)
    (hs : ∀ i σ H, i < n → Pv i σ H → g (.int (i : Int)) σ H fun σ2 H2 => tb { D with nx := Pv (i + 1), ct := Pv (i + 1), bk := D.nx } σ2 H2) (hd : ∀ σ H, Pv n σ H → D.nx σ H) :
    ∃ j' : Int, ([V.int j] : List V) = [.int j'] ∧ -(2 ^ 62) ≤ j' ∧ j' < 2 ^ 62 ∧ forW (Itr 0 j'.toNat) g tb D σ H :=
  ⟨j, rfl, by omega, by omega, by
    subst hj
    rw [Int.toNat_natCast]
    exact for_it walk_range Pv h0 (fun _ _ _ _ _ => trivial) (fun i x σ H H' hi p y => by obtain ⟨rfl, e⟩ := y; (have e' : x = V.int (i : Int) := by rw [e]; show V.int (0 + (i : Int)) = _; rw [Int.zero_add]); subst e'; exact hs i σ H' hi p) hd⟩
theorem forRng2 {l j : Int} (n : Nat) (hj : (j - l).toNat = n) (hl : -(2 ^ 62) ≤ l ∧ l < 2 ^ 62 ∧ -(2 ^ 62) ≤ j ∧ j < 2 ^ 62) (Pv : Nat → St → Hp → Prop) (h0 : Pv 0 σ H)
    (hs : ∀ i σ H, i < n → Pv i σ H → g (.int (l + (i : Int))) σ H fun σ2 H2 => tb { D with nx := Pv (i + 1), ct := Pv (i + 1), bk := D.nx } σ2 H2) (hd : ∀ σ H, Pv n σ H → D.nx σ H) :
    ∃ i' j' : Int, ([V.int l, V.int j] : List V) = [.int i', .int j'] ∧ (-(2 ^ 62) ≤ i' ∧ i' < 2 ^ 62 ∧ -(2 ^ 62) ≤ j' ∧ j' < 2 ^ 62) ∧ forW (Itr i' (j' - i').toNat) g tb D σ H :=
  ⟨l, j, rfl, hl, by
    rw [hj]
    exact for_it walk_range Pv h0 (fun _ _ _ _ _ => trivial) (fun i x σ H H' hi p y => by obtain ⟨rfl, rfl⟩ := y; exact hs i σ H' hi p) hd⟩
theorem forEnum (hS : SqL K H a xs) (Pv : Nat → St → Hp → Prop) (h0 : Pv 0 σ H) (hG : ∀ i σ H, i ≤ xs.length → Pv i σ H → SqL K H a xs)
    (hs : ∀ i x σ H T, i < xs.length → xs[i]? = some x → Pv i σ H → H T = none → g (.ref T) σ (upd H T (.tup [.int (i : Int), x])) fun σ2 H2 => tb { D with nx := Pv (i + 1), ct := Pv (i + 1), bk := D.nx } σ2 H2) (hd : ∀ σ H, Pv xs.length σ H → D.nx σ H) :
    ∃ a' xs', ([V.ref a] : List V) = [.ref a'] ∧ SqL K H a' xs' ∧ forW (Ite K a') g tb D σ H :=
  ⟨a, xs, rfl, hS, for_it walk_enum Pv h0 hG (fun i x σ H H' hi p y => by obtain ⟨T, x', y', rfl, hT, rfl, e1, e2⟩ := y; cases e1; exact hs i y' σ H T hi e2 p hT) hd⟩
theorem forZip (hS : SqL K H a xs) (hS2 : SqL K H b ys) (n : Nat) (hn : n = min xs.length ys.length) (Pv : Nat → St → Hp → Prop) (h0 : Pv 0 σ H) (hG : ∀ i σ H, i ≤ n → Pv i σ H → SqL K H a xs ∧ SqL K H b ys)
    (hs : ∀ i x y σ H T, i < n → xs[i]? = some x → ys[i]? = some y → Pv i σ H → H T = none → g (.ref T) σ (upd H T (.tup [x, y])) fun σ2 H2 => tb { D with nx := Pv (i + 1), ct := Pv (i + 1), bk := D.nx } σ2 H2) (hd : ∀ σ H, Pv n σ H → D.nx σ H) :
    ∃ a' b' xs' ys', ([V.ref a, V.ref b] : List V) = [.ref a', .ref b'] ∧ SqL K H a' xs' ∧ SqL K H b' ys' ∧ forW (Itz K a' b') g tb D σ H :=
  ⟨a, b, xs, ys, rfl, hS, hS2, for_it (walk_zip hn) Pv h0 hG (fun i x σ H H' hi p y => by obtain ⟨T, x', y', rfl, hT, rfl, e1, e2⟩ := y; exact hs i x' y' σ H T hi e1 e2 p hT) hd⟩
/-- a target a, b of a pair at T -/
theorem pair2 {i j n : Nat} {T : Addr} {x y : V} {Q : St → Hp → Prop} (hn : 2 = n) (h : SqT K H T [x, y]) (q : Q ((σ.set i (some x)).set j (some y)) H) : gTup K n (gCons (gName i) (gCons (gName j) gNil)) (.ref T) σ H Q :=
  ⟨T, [x, y], rfl, h, hn, x, [y], rfl, y, [], rfl, rfl, q⟩
theorem pair2n {i j n : Nat} {T : Addr} {x y : V} {Q : St → Hp → Prop} (hn : 2 = n) (q : Q ((σ.set i (some x)).set j (some y)) (upd H T (.tup [x, y]))) : gTup K n (gCons (gName i) (gCons (gName j) gNil)) (.ref T) σ (upd H T (.tup [x, y])) Q :=
  pair2 hn (SqT.of upd_same) q
/-! comprehensions: the invariant over the turn and the heap, the new list at D -/
theorem lcList (hS : SqL K H a xs) (q : ∀ D, H D = none → ∃ Pv : Nat → Hp → Prop, Pv 0 (upd H D (.lst [])) ∧ (∀ i H, i ≤ xs.length → Pv i H → SqL K H a xs) ∧
      (∀ i x H, i < xs.length → xs[i]? = some x → Pv i H → g x (wipe σ vs) H fun σ2 H2 => wipe σ2 vs = wipe σ vs ∧ tt σ2 H2 fun b H3 => if b = true then te σ2 H3 (itemEnd D (Pv (i + 1))) else Pv (i + 1) H3) ∧ ∀ H, Pv xs.length H → Q (.ref D) H) :
    ∃ a', V.ref a = .ref a' ∧ (∃ xs, SqL K H a' xs) ∧ lcW (Itl K a') g tt te vs σ H Q :=
  ⟨a, rfl, ⟨xs, hS⟩, fun D hD => by
    obtain ⟨Pv, h0, hG, hs, hd⟩ := q D hD
    exact lc_it walk_list Pv h0 hG (fun i x H H' hi p y => by obtain ⟨rfl, e⟩ := y; exact hs i x H' hi e p) hd⟩
theorem lcTup (hS : SqT K H a xs) (q : ∀ D, H D = none → ∃ Pv : Nat → Hp → Prop, Pv 0 (upd H D (.lst [])) ∧ (∀ i H, i ≤ xs.length → Pv i H → SqT K H a xs) ∧
      (∀ i x H, i < xs.length → xs[i]? = some x → Pv i H → g x (wipe σ vs) H fun σ2 H2 => wipe σ2 vs = wipe σ vs ∧ tt σ2 H2 fun b H3 => if b = true then te σ2 H3 (itemEnd D (Pv (i + 1))) else Pv (i + 1) H3) ∧ ∀ H, Pv xs.length H → Q (.ref D) H) :
    ∃ a', V.ref a = .ref a' ∧ (∃ xs, SqT K H a' xs) ∧ lcW (Itt K a') g tt te vs σ H Q :=
  ⟨a, rfl, ⟨xs, hS⟩, fun D hD => by
    obtain ⟨Pv, h0, hG, hs, hd⟩ := q D hD
    exact lc_it walk_tup Pv h0 hG (fun i x H H' hi p y => by obtain ⟨rfl, e⟩ := y; exact hs i x H' hi e p) hd⟩
theorem lcRng1 {j : Int} (n : Nat) (hj : j = (n : Int)) (hn : n < 4611686018427387904) (q : ∀ D, H D = none → ∃ Pv : Nat → Hp → Prop, Pv 0 (upd H D (.lst [])) ∧
      (∀ i H, i < n → Pv i H → g (.int (i : Int)) (wipe σ vs) H fun σ2 H2 => wipe σ2 vs = wipe σ vs ∧ tt σ2 H2 fun b H3 => if b = true then te σ2 H3 (itemEnd D (Pv (i + 1))) else Pv (i + 1) H3) ∧ ∀ H, Pv n H → Q (.ref D) H) :
    ∃ j' : Int, ([V.int j] : List V) = [.int j'] ∧ -(2 ^ 62) ≤ j' ∧ j' < 2 ^ 62 ∧ lcW (Itr 0 j'.toNat) g tt te vs σ H Q :=
  ⟨j, rfl, by omega, by omega, fun D hD => by
    obtain ⟨Pv, h0, hs, hd⟩ := q D hD
    subst hj
    rw [Int.toNat_natCast]
    exact lc_it walk_range Pv h0 (fun _ _ _ _ => trivial) (fun i x H H' hi p y => by obtain ⟨rfl, e⟩ := y; (have e' : x = V.int (i : Int) := by rw [e]; show V.int (0 + (i : Int)) = _; rw [Int.zero_add]); subst e'; exact hs i H' hi p) hd⟩
theorem lcEnum (hS : SqL K H a xs) (q : ∀ D, H D = none → ∃ Pv : Nat → Hp → Prop, Pv 0 (upd H D (.lst [])) ∧ (∀ i H, i ≤ xs.length → Pv i H → SqL K H a xs) ∧
      (∀ i x H T, i < xs.length → xs[i]? = some x → Pv i H → H T = none → g (.ref T) (wipe σ vs) (upd H T (.tup [.int (i : Int), x])) fun σ2 H2 => wipe σ2 vs = wipe σ vs ∧ tt σ2 H2 fun b H3 => if b = true then te σ2 H3 (itemEnd D (Pv (i + 1))) else Pv (i + 1) H3) ∧ ∀ H, Pv xs.length H → Q (.ref D) H) :
    ∃ a' xs', ([V.ref a] : List V) = [.ref a'] ∧ SqL K H a' xs' ∧ lcW (Ite K a') g tt te vs σ H Q :=
  ⟨a, xs, rfl, hS, fun D hD => by
    obtain ⟨Pv, h0, hG, hs, hd⟩ := q D hD
    exact lc_it walk_enum Pv h0 hG (fun i x H H' hi p y => by obtain ⟨T, x', y', rfl, hT, rfl, e1, e2⟩ := y; cases e1; exact hs i y' H T hi e2 p hT) hd⟩
theorem item {D : Addr} {P : Hp → Prop} {y : V} {acc : List V} (h : H D = some (.lst acc)) (hl : acc.length < sizeLine) (q : P (upd H D (.lst (acc ++ [y])))) : itemEnd D P y H := ⟨acc, h, hl, q⟩
/-- a comprehension's item where nothing but the list at D is changed -/
theorem itemP {D : Addr} {H1 : Hp} {f : Nat → V} {i : Nat} {y : V} {P : Hp → Prop} (hy : y = f i) (hl : i < 1000000) (q : P (upd H1 D (.lst ((List.range (i + 1)).map f)))) : itemEnd D P y (upd H1 D (.lst ((List.range i).map f))) := by
  refine ⟨_, upd_same, ?_, ?_⟩
  · rw [List.length_map, List.length_range, sizeLine_eq]
    omega
  · rw [upd_upd, hy, show (List.range i).map f ++ [f i] = (List.range (i + 1)).map f by rw [List.range_succ, List.map_append]; rfl]
    exact q
theorem yes {Q : Bool → Hp → Prop} (q : Q true H) : tYes σ H Q := q
theorem ift {A B : Prop} (h : A) : if true = true then A else B := by rw [if_pos rfl]; exact h
theorem iff_ {A B : Prop} (h : B) : if false = true then A else B := by rw [if_neg Bool.false_ne_true]; exact h
theorem ifNT {A B : Prop} (h : B) : if (!true) = true then A else B := by rw [if_neg (by decide)]; exact h
theorem ifNF {A B : Prop} (h : A) : if (!false) = true then A else B := by rw [if_pos (by decide)]; exact h
def rChain (r' : R2) (tc : TE) (y : V) (σ : St) (Q : VK) : VK := fun z H3 => ∃ k, z = .bl k ∧ if k = true then tc σ H3 fun w' H4 => r' y w' H4 Q else Q (.bl false) H3
theorem chain {r r' : R2} {ta tb tc : TE} (q : ta σ H fun x H1 => tb σ H1 fun y H2 => r x y H2 (rChain r' tc y σ Q)) : tChain r r' ta tb tc σ H Q := q
theorem chainE {r' : R2} {tc : TE} {y : V} {k : Bool} (q : if k = true then tc σ H fun w' H4 => r' y w' H4 Q else Q (.bl false) H) : rChain r' tc y σ Q (.bl k) H := ⟨k, rfl, q⟩
def rAndV (tb : TE) (σ : St) (Q : VK) : VK := fun x H1 => ∃ c, x = .bl c ∧ if c = true then tb σ H1 Q else Q (.bl false) H1
theorem andV {ta tb : TE} (q : ta σ H fun x H1 => rAndV tb σ Q x H1) : tAndV ta tb σ H Q := q
theorem andVE {tb : TE} {c : Bool} (q : if c = true then tb σ H Q else Q (.bl false) H) : rAndV tb σ Q (.bl c) H := ⟨c, rfl, q⟩
theorem listRg {te : St → Hp → (Int → Int → Hp → Prop) → Prop} (q : te σ H fun a b H1 => RgOk a b ∧ ∀ q, H1 q = none → Q (.ref q) (upd H1 q (.lst (rgV a b)))) : tLstRg te σ H Q := q
def rRg1 (Q : Int → Int → Hp → Prop) : VK := fun x H1 => ∃ n, x = .int n ∧ Q 0 n H1
theorem rg1 {ta : TE} {Q : Int → Int → Hp → Prop} (q : ta σ H fun x H1 => rRg1 Q x H1) : tRg1 ta σ H Q := q
theorem rg1E {n : Int} {Q : Int → Int → Hp → Prop} (q : Q 0 n H) : rRg1 Q (.int n) H := ⟨n, rfl, q⟩
theorem rep {l : Addr} {v : V} {n : Nat} (h : H l = some (.lst [v])) (hn : n ≤ 1000) (q : ∀ p, H p = none → Q (.ref p) (upd H p (.lst (List.replicate n v)))) : rRep (.ref l) (.int n) H Q :=
  ⟨l, n, [v], rfl, rfl, h, by omega, by omega, by rw [sizeLine_eq]; show 1 * ((n : Int)).toNat ≤ _; omega, fun p hp => by
    rw [Int.toNat_natCast, show (List.replicate n [v]).flatten = List.replicate n v by simp]
    exact q p hp⟩
theorem paired_get {α β : Type} {R : α → β → Prop} {xs : List α} {ys : List β} (h : Paired R xs ys) : ∀ {i : Nat} {x : α}, xs[i]? = some x → ∃ y, ys[i]? = some y ∧ R x y := by
  induction h with
  | nil => intro i x e; simp at e
  | cons r _ ih =>
    intro i x e
    cases i with
    | zero => cases e; exact ⟨_, rfl, r⟩
    | succ i => exact ih (i := i) e
def rFld (K : PySem.W.Frag) (f : Str) : VK → V → Hp → Prop := fun Q x H1 => ∃ a C dx fs v, x = .ref a ∧ H1 a = some (.ins C dx fs) ∧ Cls K C ∧ NoAttr K C f ∧ fs.lookup f = some v ∧ Q v H1
theorem fld {ta : TE} {f : Str} (q : ta σ H fun x H1 => rFld K f Q x H1) : tFld K ta f σ H Q := q
theorem fldE {a C dx : Addr} {fs : List (Str × V)} {f : Str} {v : V} (h : H a = some (.ins C dx fs)) (cl : Cls K C) (na : NoAttr K C f) (l : fs.lookup f = some v) (q : Q v H) : rFld K f Q (.ref a) H := ⟨a, C, dx, fs, v, rfl, h, cl, na, l, q⟩
def rSetF (K : PySem.W.Frag) (f : Str) (x y : V) (H2 : Hp) (P : Hp → Prop) : Prop := ∃ a C dx fs, x = .ref a ∧ H2 a = some (.ins C dx fs) ∧ Cls K C ∧ NoAttr K C f ∧ fs.length < 1000 ∧ P (upd H2 a (.ins C dx (putF f y fs)))
theorem setF {ta tv : TE} {f : Str} (q : tv σ H fun y H1 => ta σ H1 fun x H2 => rSetF K f x y H2 (D.nx σ)) : sFld K ta tv f D σ H := q
theorem setFE {a C dx : Addr} {fs : List (Str × V)} {f : Str} {y : V} {P : Hp → Prop} (h : H a = some (.ins C dx fs)) (cl : Cls K C) (na : NoAttr K C f) (l : fs.length < 1000) (q : P (upd H a (.ins C dx (putF f y fs)))) : rSetF K f (.ref a) y H P := ⟨a, C, dx, fs, rfl, h, cl, na, l, q⟩
def rMake (C : Addr) (sp : Sp) (vs : List V) (H1 : Hp) (Q : VK) : Prop := ∀ x dx, H1 x = none → H1 dx = none → dx ≠ x → sp (.ref x :: (vs ++ [])) (upd (upd H1 dx (.own x)) x (.ins C dx [])) (fun v H2 => v = .non ∧ Q (.ref x) H2) E0
theorem make {C : Addr} {sp : Sp} {t : TA} (q : t σ H fun vs H1 => rMake C sp vs H1 Q) : tMake C sp [] E0 t σ H Q := q
theorem tupOf {p : Addr} {ys : List V} (h : SqL K H p ys) (q : ∀ l, H l = none → Q (.ref l) (upd H l (.tup ys))) : ∃ p' ys', ([V.ref p] : List V) = [.ref p'] ∧ ((SqL K H p' ys' ∧ ∀ l, H l = none → Q (.ref l) (upd H l (.tup ys'))) ∨ (SqT K H p' ys' ∧ Q (.ref p') H)) := ⟨p, ys, rfl, .inl ⟨h, q⟩⟩
theorem ixL {p : Addr} {xs : List V} {i : Int} {v : V} (hS : SqL K H p xs) (ha : atI xs i = some v) (q : Q v H) : rIxL K (.ref p) (.int i) H Q := ⟨p, xs, i, v, rfl, rfl, hS, ha, q⟩
theorem ixT {p : Addr} {xs : List V} {i : Int} {v : V} (hS : SqT K H p xs) (ha : atI xs i = some v) (q : Q v H) : rIxT K (.ref p) (.int i) H Q := ⟨p, xs, i, v, rfl, rfl, hS, ha, q⟩
theorem setL {p : Addr} {xs : List V} {k : Int} {v : V} {Q : Hp → Prop} (j : Nat) (hp : H p = some (.lst xs)) (hj : ixN xs.length k = some j) (q : Q (upd H p (.lst (xs.set j v)))) : rSetL (.ref p) (.int k) v H Q := ⟨p, xs, k, j, rfl, rfl, hp, hj, q⟩
theorem eqI {i j : Int} (q : Q (.bl (decide (i = j))) H) : rEq (.int i) (.int j) H Q := ⟨rfl, by rw [show decide (V.int i = V.int j) = decide (i = j) by simp]; exact q⟩
theorem neI {i j : Int} (q : Q (.bl (!decide (i = j))) H) : rNe (.int i) (.int j) H Q := ⟨rfl, by rw [show decide (V.int i = V.int j) = decide (i = j) by simp]; exact q⟩
theorem eqS {i j : Str} (q : Q (.bl (decide (i = j))) H) : rEq (.str i) (.str j) H Q := ⟨rfl, by rw [show decide (V.str i = V.str j) = decide (i = j) by simp]; exact q⟩
theorem neS {i j : Str} (q : Q (.bl (!decide (i = j))) H) : rNe (.str i) (.str j) H Q := ⟨rfl, by rw [show decide (V.str i = V.str j) = decide (i = j) by simp]; exact q⟩
theorem eqB {i j : Bool} (q : Q (.bl (i == j)) H) : rEq (.bl i) (.bl j) H Q := ⟨rfl, by rw [show decide (V.bl i = V.bl j) = (i == j) by cases i <;> cases j <;> rfl]; exact q⟩
theorem neB {i j : Bool} (q : Q (.bl (!(i == j))) H) : rNe (.bl i) (.bl j) H Q := ⟨rfl, by rw [show decide (V.bl i = V.bl j) = (i == j) by cases i <;> cases j <;> rfl]; exact q⟩
theorem cat {l b : Addr} (h1 : H l = some (.lst xs)) (h2 : H b = some (.lst ys)) (hl : xs.length + ys.length ≤ 1000) (q : ∀ p, H p = none → Q (.ref p) (upd H p (.lst (xs ++ ys)))) : rCat (.ref l) (.ref b) H Q :=
  ⟨l, b, xs, ys, rfl, rfl, h1, h2, Nat.le_trans hl (by decide), q⟩
theorem eqD {x y : V} {d e : PyData} (hd : Dp K H x d) (he : Dp K H y e) (sd : SeqAt.shaped d = true) (se : SeqAt.shaped e = true) (q : Q (.bl (PyData.eqv d e)) H) : rEqD K x y H Q := ⟨d, e, hd, he, sd, se, q⟩
theorem neD {x y : V} {d e : PyData} (hd : Dp K H x d) (he : Dp K H y e) (sd : SeqAt.shaped d = true) (se : SeqAt.shaped e = true) (q : Q (.bl (!PyData.eqv d e)) H) : rNeD K x y H Q := ⟨d, e, hd, he, sd, se, q⟩
/-! the heap -/
theorem get_up {H : Hp} {q c : Addr} {o u : HO} (h : H q = some o) (hc : H c = none) : upd H c u q = some o := (upd_ne (ne_of_none h hc)).trans h
theorem get_ne {H : Hp} {q d : Addr} {o u : HO} (hn : q ≠ d) (h : H q = some o) : upd H d u q = some o := (upd_ne hn).trans h
theorem sameN {H H' : Hp} {p : Addr} {o : HO} (h : Same H H') (hp : H' p = none) : Same H (upd H' p o) := fun b u e => get_up (h b u e) hp
theorem free_up {H : Hp} {p c : Addr} {u : HO} (h : upd H c u p = none) : H p = none ∧ p ≠ c := by
  by_cases e : p = c
  · rw [e, upd_same] at h
    cases h
  · rw [upd_ne e] at h
    exact ⟨h, e⟩
end
end Rd

namespace Rd
open PySem L2
/-- a comprehension's inner for -/
def lcI (J1 : It) (g1 : TG) (tt1 : TT) (te : TE) (vs1 : List Nat) (σ2 : St) (D : Addr) (Nx : Hp → Prop) (H4 : Hp) : Prop := ∃ W1 : Nat → Nat → Hp → Prop, (∃ m, W1 0 m H4) ∧ ∀ j k H, W1 j k H →
  (J1.stop j H ∧ Nx H) ∨ (J1.go j H ∧ ∃ Nx1 : Hp → Prop, (∀ H', Nx1 H' → ∃ k', k' < k ∧ W1 (j + 1) k' H') ∧ ∀ x H', J1.yld j H x H' → g1 x (wipe σ2 vs1) H' fun σ3 H5 => wipe σ3 vs1 = wipe σ2 vs1 ∧ tt1 σ3 H5 fun b H6 =>
    if b = true then te σ3 H6 fun y H7 => ∃ acc, H7 D = some (.lst acc) ∧ acc.length < sizeLine ∧ Nx1 (upd H7 D (.lst (acc ++ [y]))) else Nx1 H6)
def lcW2 (J : It) (g : TG) (tt : TT) (wi1 : TI) (g1 : TG) (tt1 : TT) (te : TE) (vs vs1 : List Nat) (σ : St) (H1 : Hp) (Q : VK) : Prop := ∀ D, H1 D = none → ∃ W : Nat → Nat → Hp → Prop, (∃ m, W 0 m (upd H1 D (.lst []))) ∧ ∀ i m H, W i m H →
  (J.stop i H ∧ Q (.ref D) H) ∨ (J.go i H ∧ ∃ Nx : Hp → Prop, (∀ H', Nx H' → ∃ m', m' < m ∧ W (i + 1) m' H') ∧ ∀ x H', J.yld i H x H' → g x (wipe σ vs) H' fun σ2 H2 => wipe σ2 vs = wipe σ vs ∧ tt σ2 H2 fun b H3 =>
    if b = true then wi1 σ2 H3 (fun J1 H4 => lcI J1 g1 tt1 te vs1 σ2 D Nx H4) else Nx H3)
section
variable {K : PySem.W.Frag} {σ : St} {H : Hp} {Q : VK} {wi wi1 : TI} {g g1 : TG} {tt tt1 : TT} {te : TE} {vs vs1 : List Nat} {a : Addr} {xs : List V}
theorem tlc2 (q : wi σ H fun J H1 => lcW2 J g tt wi1 g1 tt1 te vs vs1 σ H1 Q) : tLc2 wi g tt wi1 g1 tt1 te vs vs1 σ H Q := q
theorem lcList2 (hS : SqL K H a xs) (q : ∀ D, H D = none → ∃ Pv : Nat → Hp → Prop, Pv 0 (upd H D (.lst [])) ∧ (∀ i H, i ≤ xs.length → Pv i H → SqL K H a xs) ∧
      (∀ i x H, i < xs.length → xs[i]? = some x → Pv i H → g x (wipe σ vs) H fun σ2 H2 => wipe σ2 vs = wipe σ vs ∧ tt σ2 H2 fun b H3 => if b = true then wi1 σ2 H3 (fun J1 H4 => lcI J1 g1 tt1 te vs1 σ2 D (Pv (i + 1)) H4) else Pv (i + 1) H3) ∧ ∀ H, Pv xs.length H → Q (.ref D) H) :
    ∃ a', V.ref a = .ref a' ∧ (∃ xs, SqL K H a' xs) ∧ lcW2 (Itl K a') g tt wi1 g1 tt1 te vs vs1 σ H Q :=
  ⟨a, rfl, ⟨xs, hS⟩, fun D hD => by
    obtain ⟨Pv, h0, hG, hs, hd⟩ := q D hD
    have w := walk_list (K := K) (a := a) (xs := xs)
    refine ⟨fun i m H => m = xs.length - i ∧ i ≤ xs.length ∧ Pv i H, ⟨xs.length, by simp, Nat.zero_le _, h0⟩, ?_⟩
    rintro i m H ⟨rfl, hi, p⟩
    by_cases hlt : i < xs.length
    · exact .inr ⟨w.goes i H hlt (hG i H hi p), Pv (i + 1), fun H' p' => ⟨xs.length - (i + 1), by omega, rfl, hlt, p'⟩, fun x H' y => by
        obtain ⟨rfl, e⟩ := w.yields i H x H' hlt (hG i H hi p) y
        exact hs i x H' hlt e p⟩
    · have e : i = xs.length := by omega
      subst e
      exact .inl ⟨w.stops H (hG _ H hi p), hd H p⟩⟩
theorem lcIList {D : Addr} {Nx : Hp → Prop} (hS : SqL K H a xs) (Pv : Nat → Hp → Prop) (h0 : Pv 0 H) (hG : ∀ i H, i ≤ xs.length → Pv i H → SqL K H a xs)
    (hs : ∀ i x H, i < xs.length → xs[i]? = some x → Pv i H → g1 x (wipe σ vs1) H fun σ3 H5 => wipe σ3 vs1 = wipe σ vs1 ∧ tt1 σ3 H5 fun b H6 => if b = true then te σ3 H6 (itemEnd D (Pv (i + 1))) else Pv (i + 1) H6) (hd : ∀ H, Pv xs.length H → Nx H) :
    ∃ a', V.ref a = .ref a' ∧ (∃ xs, SqL K H a' xs) ∧ lcI (Itl K a') g1 tt1 te vs1 σ D Nx H :=
  ⟨a, rfl, ⟨xs, hS⟩, by
    have w := walk_list (K := K) (a := a) (xs := xs)
    refine ⟨fun i m H => m = xs.length - i ∧ i ≤ xs.length ∧ Pv i H, ⟨xs.length, by simp, Nat.zero_le _, h0⟩, ?_⟩
    rintro i m H ⟨rfl, hi, p⟩
    by_cases hlt : i < xs.length
    · exact .inr ⟨w.goes i H hlt (hG i H hi p), Pv (i + 1), fun H' p' => ⟨xs.length - (i + 1), by omega, rfl, hlt, p'⟩, fun x H' y => by
        obtain ⟨rfl, e⟩ := w.yields i H x H' hlt (hG i H hi p) y
        exact hs i x H' hlt e p⟩
    · have e : i = xs.length := by omega
      subst e
      exact .inl ⟨w.stops H (hG _ H hi p), hd H p⟩⟩
end
end Rd
/-! ## Callees by name; defs that are entered with no guard around (repr of containers); repr, len. -/
namespace Rd
open PySem L2 PySem.Spec PyProof.Rows
theorem hu64 {k : Nat} {A : Around} (hr : Room k A) : A.units + 64 < cLine := by have := hr.un; omega
/-- a def of the top by its name, and what it promises -/
def Callee (P : Program) (w : World) (K : PySem.W.Frag) (mg : Str → Option Value) (base : Heap) (CX : CXT) (k : Nat) (x : Str) (ps : List Str) (sp : Sp) : Prop :=
  ∃ (f : Addr) (fd : FuncData), mg x = some (.ref f) ∧ PySem.W.keepIn K (.ref f) = true ∧ Binds K fd ps [] ∧ FnOk P w K mg base CX k f fd ps sp
/-- the same where no guard is around -/
structure FnOkG (P : Program) (w : World) (K : PySem.W.Frag) (mg : Str → Option Value) (base : Heap) (CX : CXT) (k : Nat) (f : Addr) (fd : FuncData) (ps : List Str) (sp : Sp) : Prop where
  len : ∀ vs H Q E, sp vs H Q E → vs.length = ps.length
  run : ∀ (A : Around) (outer : List Env) (s : Shared) (H : Hp) (args : Args) (us : List Value) (vs : List V) (Q : VK) (E : XK), A.guards = some [] → Room k A → Env0 P w K mg base A outer s H → BindsTo s fd args (ps.zip us) → Vals vs us → sp vs H Q E →
    codeAny (model P w) A (.call (.ref f) args) (CR CX outer P w H s Q E) s
def CalleeG (P : Program) (w : World) (K : PySem.W.Frag) (mg : Str → Option Value) (base : Heap) (CX : CXT) (k : Nat) (x : Str) (ps : List Str) (sp : Sp) : Prop :=
  ∃ (f : Addr) (fd : FuncData), mg x = some (.ref f) ∧ PySem.W.keepIn K (.ref f) = true ∧ Binds K fd ps [] ∧ FnOkG P w K mg base CX k f fd ps sp
section
variable {X : Cx} {k : Nat} {x : Str} {ps : List Str} {sp : Sp} {p pos : Pos} {e : Expr} {es : List Expr} {t : TA}
theorem pe_callC (C : Callee X.prog X.w X.K X.mg X.base CX0 k x ps sp) (hr : Room k X.A) (ha : PA X (e :: es) t) (hg : Gl X x := by rfl) (hdb : (x == ("__debug__" : Str)) = false := by decide)
    (he : starEach (e :: es) X.env = (false, eval e X.env) :: starEach es X.env := by rfl) (hpl : (backTo pos (starEach es X.env)).any (·.1) = false := by rfl) : PE X (.Call (.Name x p) (e :: es) [] pos) (tCall sp [] E0 t) := by
  obtain ⟨f, fd, hm, kp, b, F⟩ := C
  exact pe_call F hr hg hm kp b .nil pass0 ha hdb he hpl
theorem pe_callC0 (C : Callee X.prog X.w X.K X.mg X.base CX0 k x ps sp) (hr : Room k X.A) (hg : Gl X x := by rfl) (hdb : (x == ("__debug__" : Str)) = false := by decide) : PE X (.Call (.Name x p) [] [] pos) (tCall sp [] E0 tNil) := by
  obtain ⟨f, fd, hm, kp, b, F⟩ := C
  exact pe_call0 F hr hg hm kp b .nil pass0 hdb
theorem pe_callG (C : CalleeG X.prog X.w X.K X.mg X.base CX0 k x ps sp) (hG : X.A.guards = some []) (hr : Room k X.A) (ha : PA X (e :: es) t) (hg : Gl X x := by rfl) (hdb : (x == ("__debug__" : Str)) = false := by decide)
    (he : starEach (e :: es) X.env = (false, eval e X.env) :: starEach es X.env := by rfl) (hpl : (backTo pos (starEach es X.env)).any (·.1) = false := by rfl) : PE X (.Call (.Name x p) (e :: es) [] pos) (tCall sp [] E0 t) := by
  obtain ⟨f, fd, hm, kp, b, F⟩ := C
  refine ⟨fun pins s σ H Q I h => wpAny_Call_Name_kw (ld_glob I hg hm (PySem.W.callWith_K (h₀ := X.base) I.ok.mod.kin kp (thn (ha.run pos pins s σ H _ I h) fun us s1 ⟨vs, H1, I1, r, q⟩ => ⟨I1.kIn, ?_⟩) he hpl) hdb)⟩
  have q : sp vs H1 Q E0 := by
    have q0 : sp (vs ++ []) H1 Q E0 := q
    rwa [List.append_nil] at q0
  have hb := b s1 us I1.kIn (by rw [List.append_nil]; exact r.length.symm.trans (F.len _ _ _ _ q))
  rw [List.append_nil] at hb
  refine wpAny_call (codeAny_mono (F.run X.A X.stack s1 H1 ⟨us, []⟩ us vs Q E0 hG hr I1.env0 hb r q) fun r s' hq => ?_)
  match r, hq with
  | .error _, z => exact z.elim
  | .ok (.ret u), z => exact I1.after z
  | .ok .next, z => exact z.elim
  | .ok .brk, z => exact z.elim
  | .ok .cont, z => exact z.elim
end
/-- a def that is entered with no guard around: its body as a term, and the term's reading -/
theorem okG {P : Program} {w : World} {K : PySem.W.Frag} {mg : Str → Option Value} {base : Heap} {nm qual : Str} {st : Stmt} {f : Addr} {fd : FuncData} {N ps : List Str} {k : Nat} {sp : Sp} (F : Fun K nm qual st f fd) (S : FnScope N ps (defScope st))
    (len : ∀ vs H Q E, sp vs H Q E → vs.length = ps.length)
    (body : ∀ (cdv : Value) (A : Around) (outer : List Env) (s : Shared) (H : Hp) (vs : List V) (Q : VK) (E : XK), A.guards = some [] → Room k (A.deeper (envOfC qual (defScope st) s.heap.objs.size f cdv)) → sp vs H Q E →
      ∃ t, PSs (cxOf CX0 P w K mg base N qual (defScope st) f cdv A outer s H E).nox (defBody st) t ∧ t { nx := fun _ H' => Q .non H', rt := Q } (start N vs) H) : FnOkG P w K mg base CX0 (k + 1) f fd ps sp := by
  obtain ⟨oc, od, kV, doc, pm, an, cdv, ct, osl, rfl, lk, hcd⟩ := F.ex
  refine ⟨len, fun A outer s H args us vs Q E hG hr e0 hb r hsp => ?_⟩
  have KX : K.In s.heap := e0.mod.kin.keeps fun b o e => (e0.bs b o e).1
  have places : ∀ y ∈ ps.zip us, (defScope st).names.lookup y.1 = some .local ∨ ((defScope st).names.lookup y.1 = some .cell ∧ ((cellsFrom (s.heap.objs.size + 1) (defScope st).names []).lookup y.1).isSome = true) := fun y hy =>
    (S.par y.1 (List.of_mem_zip hy).1).imp id fun q => ⟨q, PySem.W.cellsFrom_some _ _ _ (.inl q)⟩
  refine codeAny_call_function hr.depth (KX _ _ lk) rfl S.co S.gen rfl (PySem.W.codeRec_of KX hcd) (hb _ _ _ _ (wpAny_newFunctionEnv_cells S.kind places fun env he s1 x => ?_))
  subst he
  refine ⟨(e0.mod.nolimit.keeps fun b o e => (e0.bs b o e).1).keeps x.toInCall.keep, codeAny_func ?_⟩
  obtain ⟨t, ht, hq⟩ := body cdv A outer s H vs Q E hG (hr.deeper _) hsp
  refine wpAny_mono (ht.nox.run [] s1 (start N vs) H _ (inv_start S hr.hd e0 (len _ _ _ _ hsp) r x) hq) (fun fl s' hs => ?_) fun e s' hs => hs
  match fl, hs with
  | .ret u, ⟨v, σ', H', J, rv, q⟩ => exact ⟨v, H', J.os, J.bare, J.base, J.hok, rv, q⟩
  | .next, ⟨σ', H', J, q⟩ => exact ⟨.non, H', J.os, J.bare, J.base, J.hok, rfl, q⟩
  | .brk, ⟨_, _, _, q⟩ => exact q.elim
  | .cont, ⟨_, _, _, q⟩ => exact q.elim
theorem guards_deeper {A : Around} {env : Env} (h : A.guards = some []) : (A.deeper env).guards = some [] := h
/-- a class of the top as a value -/
theorem pe_cls {X : Cx} {x : Str} {C : Addr} {pos : Pos} (hm : X.mg x = some (.ref C)) (hg : Gl X x := by rfl) (hd : (x == ("__debug__" : Str)) = false := by decide) : PE X (.Name x pos) (tC (.ref C)) := pe_glob hg hm rfl hd
/-! ### len, repr -/
def rLen (K : PySem.W.Frag) : List V → Hp → VK → Prop := fun xs H Q => ∃ p ys, xs = [.ref p] ∧ (SqL K H p ys ∨ SqT K H p ys) ∧ Q (.int ys.length) H
theorem call_lenS {X : Cx} : CallR X (.builtin "len") (rLen X.K) := fun pins s σ H xs us Q I r h => call_len_seq pins s σ H xs us Q I r h
/-- what repr shows -/
structure Shows (d : PyData) : Prop where
  ok : d.showable = true
  nod : d.hasDict = false
  deep : d.depth ≤ 40
  len : d.shown.length ≤ sizeLine
/-- the empty dict, beside all other data -/
inductive Dr (K : PySem.W.Frag) (H : Hp) : V → PyData → Prop
  | dat {v : V} {d : PyData} (h : Dp K H v d) (s : Shows d) : Dr K H v d
  | dict {a : Addr} (h : H a = some (.dK [])) : Dr K H (.ref a) (.dict [])
def rRepr (K : PySem.W.Frag) : List V → Hp → VK → Prop := fun xs H Q => ∃ x d, xs = [x] ∧ Dr K H x d ∧ Q (.str d.shown) H
theorem call_reprD {X : Cx} {k : Nat} (hr : Room k X.A) (hG : X.A.guards = some []) : CallR X (.builtin "repr") (rRepr X.K) := by
  intro pins s σ H xs us Q I r h
  obtain ⟨x, d, rfl, hd, q⟩ := h
  obtain ⟨u, rfl, ru⟩ := vals1 r
  have hu := hr.un
  cases hd with
  | dat hd S =>
    obtain ⟨as, rd⟩ := Dp.reads I d x u hd ru
    cases rd with
    | none => exact PySem.P.repr_of_none ⟨.str _, H, I.tok _, ⟨_, rfl⟩, q⟩
    | bool b => exact PySem.P.repr_of_bool ⟨.str _, H, I.tok _, ⟨_, rfl⟩, q⟩
    | int i t => exact PySem.P.repr_of_int (of_decide_eq_true S.ok) ⟨.str _, H, I.tok _, ⟨_, rfl⟩, q⟩
    | str z t => exact PySem.P.repr_of_str (h := ⟨.str _, H, I.tok _, ⟨_, rfl⟩, q⟩) S.len
    | list h1 h2 h3 h4 =>
      exact repr_of_reads' (.list h1 h2 h3 h4) S.ok (fun z => by rw [S.nod] at z; cases z) hG (by have := S.deep; omega) (fun _ _ z => z) (fun h' u tk kp => ⟨.str _, H, I.kept kp, ⟨_, rfl⟩, q⟩) S.len
    | tuple h1 h2 h3 h4 =>
      exact repr_of_reads' (.tuple h1 h2 h3 h4) S.ok (fun z => by rw [S.nod] at z; cases z) hG (by have := S.deep; omega) (fun _ _ z => z) (fun h' u tk kp => ⟨.str _, H, I.kept kp, ⟨_, rfl⟩, q⟩) S.len
    | dict => cases hd
  | @dict a h =>
    cases ru
    obtain ⟨_, hns, vs, kv, o, es, ep, h1, h2, h3, h4⟩ := (show ObjOk X.prog X.w H s.heap a (.dK []) from I.hok a _ h)
    cases kv
    have e0 : es.toList = [] := by
      have z := h4.2.1
      cases hl : es.toList with
      | nil => rfl
      | cons y ys => rw [hl] at z; cases z
    have rd : Reads s.heap (.ref a) (.dict []) (a :: [] ++ []) := .dict h1 h2.1 h3 (by rw [e0]; exact .nil) (by rw [e0]; exact .nil)
    exact repr_of_reads' rd rfl (fun _ z => by
      have e1 : sysModules = a := by simpa using z
      rw [e1, beq_self_eq_true] at hns
      cases hns) hG (show X.A.units + (1 + 1) < cLine by omega) (fun _ _ z => z) (fun h' u tk kp => ⟨.str _, H, I.kept kp, ⟨_, rfl⟩, q⟩) (by decide +kernel)
theorem repr_ {K : PySem.W.Frag} {H : Hp} {Q : VK} {x : V} {d : PyData} (h : Dr K H x d) (q : Q (.str d.shown) H) : rRepr K [x] H Q := ⟨x, d, rfl, h, q⟩
theorem lenL {K : PySem.W.Frag} {H : Hp} {Q : VK} {p : Addr} {ys : List V} (h : SqL K H p ys) (q : Q (.int ys.length) H) : rLen K [.ref p] H Q := ⟨p, ys, rfl, .inl h, q⟩
theorem lenT {K : PySem.W.Frag} {H : Hp} {Q : VK} {p : Addr} {ys : List V} (h : SqT K H p ys) (q : Q (.int ys.length) H) : rLen K [.ref p] H Q := ⟨p, ys, rfl, .inr h, q⟩
theorem isi {K : PySem.W.Frag} {H : Hp} {Q : VK} {x c : V} {t u : Value} {b : Bool} (hc : ClsV c u) (ty : TyX K H x t) (hk : PySem.W.kitOne K t u = some b) (q : Q (.bl b) H) : rIsi K [x, c] H Q := ⟨x, c, t, u, b, rfl, hc, ty, hk, q⟩
theorem isiT {K : PySem.W.Frag} {H : Hp} {Q : VK} {x : V} {tp : Addr} {cs : List V} {t : Value} {us : List Value} {b : Bool} (hT : H tp = some (.tup cs)) (hc : Paired ClsV cs us) (ty : TyX K H x t) (hk : PySem.W.kitAny K t us = some b) (q : Q (.bl b) H) : rIsiT K [x, .ref tp] H Q := ⟨x, tp, cs, t, us, b, rfl, hT, hc, ty, hk, q⟩
def rTup (K : PySem.W.Frag) : List V → Hp → VK → Prop := fun xs H Q => ∃ p ys, xs = [.ref p] ∧ SqL K H p ys ∧ ∀ l, H l = none → Q (.ref l) (upd H l (.tup ys))
theorem call_tupleL {X : Cx} : CallR X (.type "tuple") (rTup X.K) := fun pins s σ H xs us Q I r h => call_tuple_of pins s σ H xs us Q I r (by
  obtain ⟨p, ys, rfl, hs, q⟩ := h
  exact ⟨p, ys, rfl, .inl ⟨hs, q⟩⟩)
theorem tupE {K : PySem.W.Frag} {H : Hp} {Q : VK} {p : Addr} {ys : List V} (h : SqL K H p ys) (q : ∀ l, H l = none → Q (.ref l) (upd H l (.tup ys))) : rTup K [.ref p] H Q := ⟨p, ys, rfl, h, q⟩
/-! ### data: lists of bools, of ints -/
section
variable {K : PySem.W.Frag} {H : Hp} {a : Addr}
theorem dpBlsAll : ∀ ns : List Bool, DpAll K H (ns.map V.bl) (ns.map PyData.bool)
  | [] => .nil
  | n :: ns => .cons (.bl n) (dpBlsAll ns)
theorem dpBls {ns : List Bool} (h : SqL K H a (ns.map V.bl)) : Dp K H (.ref a) (.list (ns.map PyData.bool)) := .lst h (dpBlsAll ns)
theorem layBls : ∀ ns : List Bool, PyData.canLayAll0 (ns.map PyData.bool) = true
  | [] => by simp [PyData.canLayAll0]
  | n :: ns => by simp [PyData.canLayAll0, PyData.canLay0, layBls ns]
theorem deepBls : ∀ ns : List Bool, PyData.depthAll (ns.map PyData.bool) = 0
  | [] => by simp [PyData.depthAll]
  | n :: ns => by simp [PyData.depthAll, PyData.depth, deepBls ns]
theorem shBls (ns : List Bool) : SeqAt.shaped (.list (ns.map PyData.bool)) = true := by
  simp [SeqAt.shaped, PyData.canLay0, layBls, PyData.depth, deepBls]
theorem eqvBls : ∀ ns : List Bool, PyData.eqvAll (ns.map PyData.bool) (ns.map PyData.bool) = true
  | [] => by simp [PyData.eqvAll]
  | n :: ns => by simp [PyData.eqvAll, PyData.eqv, eqvBls ns]
end

section
variable {K : PySem.W.Frag} {H : Hp} {a : Addr}
theorem dpIntsAll : ∀ ns : List Int, DpAll K H (ns.map V.int) (ns.map PyData.int)
  | [] => .nil
  | n :: ns => .cons (.int n) (dpIntsAll ns)
theorem dpInts {ns : List Int} (h : SqL K H a (ns.map V.int)) : Dp K H (.ref a) (.list (ns.map PyData.int)) := .lst h (dpIntsAll ns)
theorem layInts : ∀ ns : List Int, PyData.canLayAll0 (ns.map PyData.int) = true
  | [] => by simp [PyData.canLayAll0]
  | n :: ns => by simp [PyData.canLayAll0, PyData.canLay0, layInts ns]
theorem deepInts : ∀ ns : List Int, PyData.depthAll (ns.map PyData.int) = 0
  | [] => by simp [PyData.depthAll]
  | n :: ns => by simp [PyData.depthAll, PyData.depth, deepInts ns]
theorem shInts (ns : List Int) : SeqAt.shaped (.list (ns.map PyData.int)) = true := by
  simp [SeqAt.shaped, PyData.canLay0, layInts, PyData.depth, deepInts]
theorem eqvNil (ns : List Int) : PyData.eqv (.list (ns.map PyData.int)) (.list []) = ns.isEmpty := by
  cases ns <;> simp [PyData.eqv, PyData.eqvAll]
end
end Rd
/-! ## repr of tuples and lists that hold empty dicts -/
namespace Rd
open PySem L2 PySem.Spec PyProof.Rows
/-- a text or an empty dict -/
inductive De (K : PySem.W.Frag) (H : Hp) : V → PyData → Prop
  | str (z : Str) : De K H (.str z) (.str z)
  | dict {a : Addr} (h : H a = some (.dK [])) : De K H (.ref a) (.dict [])
theorem De.reads {X : Cx} {pins : List (Addr × Obj)} {σ : L2.St} {H : Hp} {s : Shared} (I : Inv X pins σ H s) {v : V} {d : PyData} {u : Value} (h : De X.K H v d) (r : RelV v u) : ∃ as, Reads s.heap u d as ∧ sysModules ∉ as := by
  cases h with
  | str z => obtain ⟨t, rfl⟩ := r; exact ⟨[], .str z t, by simp⟩
  | @dict a h =>
    cases r
    obtain ⟨_, hns, vs, kv, o, es, ep, h1, h2, h3, h4⟩ := (show ObjOk X.prog X.w H s.heap a (.dK []) from I.hok a _ h)
    cases kv
    have e0 : es.toList = [] := by
      have z := h4.2.1
      cases hl : es.toList with
      | nil => rfl
      | cons y ys => rw [hl] at z; cases z
    refine ⟨a :: [] ++ [], .dict h1 h2.1 h3 (by rw [e0]; exact .nil) (by rw [e0]; exact .nil), fun z => ?_⟩
    have e1 : sysModules = a := by simpa using z
    rw [e1, beq_self_eq_true] at hns
    cases hns
theorem De.all {X : Cx} {pins : List (Addr × Obj)} {σ : L2.St} {H : Hp} {s : Shared} (I : Inv X pins σ H s) : ∀ {vs : List V} {ds : List PyData} {us : List Value}, Paired (De X.K H) vs ds → Vals vs us → ∃ as, ReadsAll s.heap us ds as ∧ sysModules ∉ as
  | _, _, _, .nil, .nil => ⟨[], .nil, by simp⟩
  | _, _, _, .cons h hs, .cons r rs => by
    obtain ⟨as, q, n⟩ := h.reads I r
    obtain ⟨bs, qs, ns⟩ := De.all I hs rs
    exact ⟨as ++ bs, .cons q qs, fun z => (List.mem_append.mp z).elim n ns⟩
/-- what repr shows, {} within a tuple or a list too -/
inductive DrE (K : PySem.W.Frag) (H : Hp) : V → PyData → Prop
  | dr {v : V} {d : PyData} (h : Dr K H v d) : DrE K H v d
  | tup {a : Addr} {xs : List V} {ds : List PyData} (h : H a = some (.tup xs)) (hs : Paired (De K H) xs ds) (ok : (PyData.tuple ds).showable = true) (dp : (PyData.tuple ds).depth ≤ 40) (ln : (PyData.tuple ds).shown.length ≤ sizeLine) : DrE K H (.ref a) (.tuple ds)
  | lst {a : Addr} {xs : List V} {ds : List PyData} (h : H a = some (.lst xs)) (hs : Paired (De K H) xs ds) (ne : xs ≠ []) (ok : (PyData.list ds).showable = true) (dp : (PyData.list ds).depth ≤ 40) (ln : (PyData.list ds).shown.length ≤ sizeLine) : DrE K H (.ref a) (.list ds)
def rReprE (K : PySem.W.Frag) : List V → Hp → VK → Prop := fun xs H Q => ∃ x d, xs = [x] ∧ DrE K H x d ∧ Q (.str d.shown) H
theorem call_reprE {X : Cx} {k : Nat} (hr : Room k X.A) (hG : X.A.guards = some []) : CallR X (.builtin "repr") (rReprE X.K) := by
  intro pins s σ H xs us Q I r h
  obtain ⟨x, d, rfl, hd, q⟩ := h
  have hu := hr.un
  cases hd with
  | dr hd => exact call_reprD hr hG pins s σ H _ us Q I r ⟨x, d, rfl, hd, q⟩
  | tup h hs ok dp ln =>
    obtain ⟨u, rfl, ru⟩ := vals1 r
    cases ru
    obtain ⟨_, its, rv, o, ho, hc, n, ht⟩ := (show ObjOk X.prog X.w H s.heap _ (.tup _) from I.hok _ _ h)
    obtain ⟨as, rd, no⟩ := De.all I hs rv
    exact repr_of_reads' (.tuple ho hc ht rd) ok (fun _ => no) hG (by omega) (fun _ _ z => z) (fun h' u tk kp => ⟨.str _, H, I.kept kp, ⟨_, rfl⟩, q⟩) ln
  | lst h hs ne ok dp ln =>
    obtain ⟨u, rfl, ru⟩ := vals1 r
    cases ru
    obtain ⟨_, its, n, rv, ho⟩ := (show ObjOk X.prog X.w H s.heap _ (.lst _) from I.hok _ _ h)
    obtain ⟨as, rd, no⟩ := De.all I hs rv
    rename_i a xs ds
    simp only [PyData.shown] at q ln
    simp only [PyData.depth] at dp
    obtain ⟨bs, hb, kk⟩ := ReprAllK.of_readsAll (prog := X.prog) (w := X.w) rd (by simpa [PyData.showable] using ok) (fun _ => no) (fun t ht => Nat.le_trans (listText_mem_le ht) ln)
    have out := not_mem_of_deeper (Reads.list ho rfl rfl rd) (by simp only [PyData.depth]; omega) hb
    cases its with
    | nil => cases rv; exact absurd rfl ne
    | cons y ys =>
      refine call_repr_slot (T := "list") (by omega) ⟨_, ho, rfl⟩ F.slot_list_repr.toG (call_list_reprK (A := X.A.in1) ho rfl rfl out (by simpa using kk.length_eq) (fun i y e => kk.item i y (by simpa using e)) hG (fun b _ => Clear.nil b) (by show X.A.units + 1 + _ < cLine; omega) (fun _ _ z => z) (fun h' u tk kp => ⟨_, _, rfl, .str _, H, I.kept kp, ⟨_, rfl⟩, q⟩) ln)
theorem reprE_ {K : PySem.W.Frag} {H : Hp} {Q : VK} {x : V} {d : PyData} (h : DrE K H x d) (q : Q (.str d.shown) H) : rReprE K [x] H Q := ⟨x, d, rfl, h, q⟩
end Rd
/-! ## Exceptions of own classes as VALUES: made by a call, a field read, isinstance. Over the layer's exo, exd (an exception and its dict). -/
namespace Exv
open PySem PySem.W PyProof.Rows
/-- the built-in class under an own error class -/
structure BaseE (B newId initId : String) (bmB : List Value) : Prop where
  ex : ExcBaseFacts B newId initId bmB
  st : StoreFacts B bmB "object.__setattr__" "object"
abbrev veMro : List Value := [.type "ValueError", .type "Exception", .type "BaseException", .type "object"]
abbrev oeMro : List Value := [.type "OverflowError", .type "ArithmeticError", .type "Exception", .type "BaseException", .type "object"]
theorem baseVE : BaseE "ValueError" "ValueError.__new__" "ValueError.__init__" veMro := ⟨F.excBase_ValueError, F.store_ValueError⟩
theorem baseOE : BaseE "OverflowError" "OverflowError.__new__" "OverflowError.__init__" oeMro := ⟨F.excBase_OverflowError, F.store_OverflowError⟩
/-- the first field of an exception: its dict is made; all else is kept -/
theorem firstField {prog : Program} {w : World} {A : Around} {R : Result → Shared → Prop} {s : Shared} {B newId initId : String} {bmB : List Value} (T : BaseE B newId initId bmB) {K : Frag} {name : Str} {tk : Tok} {v : Value} {x C t1 : Addr} (X : K.In s.heap)
    (hx : s.heap.get? x = some (excObj C t1 none .none)) (hov : excOver K C bmB = true) (hdC : hasDictIn K C = true) (htk : takerIn K C name = some none)
    (hq : ∀ h' tk' dx, (∀ b o, b ≠ x → s.heap.get? b = some o → h'.get? b = some o) → s.heap.objs.size ≤ dx → dx ≠ x → h'.get? x = some (excObj C t1 (some dx) .none) →
      h'.Ns1 dx (fun y => if y = name then some v else none) → R (.ok (.ret .none)) { s with heap := h', toks := tk' }) :
    codeAny (model prog w) A (.call (.builtin "object.__setattr__") ⟨[.ref x, .str name tk, v], []⟩) R s := by
  have hxl : x < s.heap.objs.size := Heap.lt_size hx
  refine osa_openX (od := none) T.st X ⟨hx, rfl, rfl, trivial⟩ hov htk fun _ => ?_
  obtain ⟨cd, hc, hd⟩ := any_some hdC
  refine wpAny_bind (wpAny_pure (wpAny_bind (instanceDict_exc hx (looks_clsIn X hc) hd ?_)))
  have e1 : ∀ b o, b ≠ x → s.heap.get? b = some o → ((s.heap.push (dictOf [] 0)).update x fun o => { o with dict := some s.heap.objs.size }).get? b = some o := fun b o hb ho =>
    (Heap.get?_update_ne _ _ _ _ hb).trans (Heap.get?_push_of_some _ ho)
  have e2 : ((s.heap.push (dictOf [] 0)).update x fun o => { o with dict := some s.heap.objs.size }).get? x = some (excObj C t1 (some s.heap.objs.size) .none) :=
    Heap.get?_update_self _ (Heap.get?_push_of_some _ hx) rfl
  have e3 : ((s.heap.push (dictOf [] 0)).update x fun o => { o with dict := some s.heap.objs.size }).Ns s.heap.objs.size fun _ => none :=
    ⟨_, #[], 0, (Heap.get?_update_ne _ _ _ _ (Nat.ne_of_gt hxl)).trans (Heap.get?_push_at rfl rfl), rfl, fun e he => absurd he (by simp), fun _ => rfl⟩
  exact HandSPX.store_in_new e3 fun h' tk' n1 sb => hq h' tk' _ (fun b o hb ho => (sb.2 b (Nat.ne_of_lt (Heap.lt_size ho))).trans (e1 b o hb ho)) (Nat.le_refl _) (Nat.ne_of_gt hxl)
    ((sb.2 x (Nat.ne_of_lt hxl)).trans e2) n1
end Exv

namespace Exv
open PySem L2 PySem.Spec PyProof.Rows
/-- what the written part says of the error class at C -/
structure EC (K : PySem.W.Frag) (C : Addr) (B newId initId : String) (bmB : List Value) : Prop where
  base : BaseE B newId initId bmB
  ini : PySem.W.excInitIn K C bmB newId = true
  ov : PySem.W.excOver K C bmB = true
  sa : PySem.W.findIn K (.ref C) "__setattr__" = some (some (.builtin "object.__setattr__"))
  kC : PySem.W.keepIn K (.ref C) = true
  is : L2.ExcC K C
section
variable {X : Cx} {pins : List (Addr × Obj)} {σ : L2.St} {H : Hp} {s : Shared} {a C dx : Addr} {f : Str} {y : V} {u : Value} {fs : List (Str × V)} {Q : Unit → Shared → Prop} {E : Value → Shared → Prop} {A : Around}
  {B newId initId : String} {bmB : List Value}
theorem exo_only {H : Hp} {o : HO} {b : Addr} {d : Option Addr} (e : H a = some (exo a C d)) (q : H b = some o) (h : ∀ φ, o ≠ .ext φ) : b ≠ a := fun z => by
  rw [z, e] at q
  exact h _ (Option.some.inj q).symm
/-- self.f = y, the first one -/
theorem set_first (T : EC X.K C B newId initId bmB) (I : Inv X pins σ H s) (e : H a = some (exo a C none)) (htk : PySem.W.takerIn X.K C f = some none) (ry : RelV y u)
    (h : ∀ dx s', H dx = none → dx ≠ a → Inv X pins σ (upd (upd H dx (exd dx [(f, y)])) a (exo a C (some dx))) s' → Q () s') : wpAny (model X.prog X.w) A (setAttr (.ref a) f u) Q E s := by
  obtain ⟨t1, ho⟩ := exo_at I.hok e
  refine PySem.W.set_plain I.kIn (ox := PySem.W.excObj C t1 none .none) (od := none) ⟨ho, rfl, rfl, trivial⟩ T.sa ?_
  refine firstField T.base I.kIn ho T.ov T.is.hd htk fun h' tk' dx k dn dne hx hn => ?_
  have hnd : H dx = none := I.hok.fresh dn
  have notdx : ∀ {b : Addr} {o : Obj}, s.heap.get? b = some o → b ≠ dx := fun q => Nat.ne_of_lt (Nat.lt_of_lt_of_le (Heap.lt_size q) dn)
  have nota : ∀ {b : Addr}, H b = none → b ≠ a := fun n z => by rw [z, e] at n; cases n
  have old : ∀ {b : Addr} {o : HO}, (∀ φ, o ≠ .ext φ) → H b = some o → upd (upd H dx (exd dx [(f, y)])) a (exo a C (some dx)) b = some o := fun n q =>
    (upd_ne (exo_only e q n)).trans ((upd_ne (ne_of_none q hnd)).trans q)
  refine h dx _ hnd dne (I.un (t' := tk') ⟨fun b o q n _ _ => k b o (nota n) q, fun b o q n _ _ => ⟨o.slots, k b o (nota n) q⟩, fun b o q n _ => (upd_ne (nota n)).trans ((upd_ne (notdx q)).trans n), fun b o q _ => ?_,
    fun b xs q => old (fun _ z => by cases z) q, fun b o v q => old (fun _ z => by cases z) q, fun b ps q => ⟨#[], by rw [old (fun _ z => by cases z) q]; simp⟩⟩ fun b o q => ?_)
  · by_cases hb : b = a
    · exact ⟨_, hb ▸ hx⟩
    · exact ⟨o, k b o hb q⟩
  · by_cases hb : b = a
    · subst hb
      rw [upd_same] at q
      cases q
      exact exo_ok hx
    rw [upd_ne hb] at q
    by_cases hd : b = dx
    · subst hd
      rw [upd_same] at q
      cases q
      exact exd_ok hn (relO_put (fs := []) ry fun _ => True.intro)
    rw [upd_ne hd] at q
    refine (I.hok b o q).stay (fun c v hc z => k c v ?_ z) (fun c hc => old (fun _ z => by cases z) hc) fun c xs hc => old (fun _ z => by cases z) hc
    rcases hc with rfl | hc
    · exact hb
    · exact exo_only e hc fun _ z => by cases z
/-- the base's __init__: nothing of it is told -/
theorem base_init {us : List Value} {Q : Value → Shared → Prop} (T : EC X.K C B newId initId bmB) (I : Inv X pins σ H s) (e : H a = some (exo a C none)) (hl : us.length ≤ sizeLine) (h : ∀ s', Inv X pins σ H s' → Q .none s') :
    wpAny (model X.prog X.w) A (call (.builtin initId) (.ref a :: us)) Q E s := by
  obtain ⟨_, _, _, _, _, _, _, _, _, _, _, _, _, _, _, _, hC, hT⟩ := PySem.W.excInit_of I.kIn T.ini
  obtain ⟨t1, ho⟩ := exo_at I.hok e
  refine wpAny_call (PySem.HandSPX.init_base T.base.ex hT hC ho hl fun h' t2 k hx => h _ ?_)
  have J := I.write (t' := s.toks) (x := a) (e := a) (o := exo a C none) (by rw [e]; exact True.intro) (.inl rfl) k ⟨_, hx⟩ (exo_ok hx)
  rwa [show upd H a (exo a C none) = H from funext fun b => by
    by_cases hb : b = a
    · rw [hb, upd_same, e]
    · exact upd_ne hb] at J
end
/-! ### readings and rules -/
/-- Base.__init__(self, ..) -/
def tXI (K : PySem.W.Frag) (B newId initId : String) (bmB : List Value) (ta : TA) : TE := fun σ H Q => ta σ H fun vs H1 => ∃ (a C : Addr) (ws : List V), vs = .ref a :: ws ∧ ws.length ≤ 1000 ∧ EC K C B newId initId bmB ∧ H1 a = some (exo a C none) ∧ Q .non H1
/-- self.f = e -/
def tXS (K : PySem.W.Frag) (B newId initId : String) (bmB : List Value) (f : Str) (to te : TE) : TS := fun D σ H => te σ H fun y H1 => to σ H1 fun x H2 => ∃ a C : Addr, x = .ref a ∧ EC K C B newId initId bmB ∧ PySem.W.takerIn K C f = some none ∧
  H2 a = some (exo a C none) ∧ ∀ dx, H2 dx = none → dx ≠ a → D.nx σ (upd (upd H2 dx (exd dx [(f, y)])) a (exo a C (some dx)))
/-- C(e, ..) as a value, C's own __init__ keeping sp -/
def tXM (C : Addr) (sp : Sp) (ta : TA) : TE := fun σ H Q => ta σ H fun vs H1 => vs.length ≤ 1000 ∧ ∀ a, H1 a = none → sp (.ref a :: vs) (upd H1 a (exo a C none)) (fun v H2 => v = .non ∧ Q (.ref a) H2) fun _ _ _ => False
/-- C() of a class without an own __init__ -/
def tX0 (C : Addr) : TE := fun _ H Q => ∀ a, H a = none → Q (.ref a) (upd H a (exo a C none))
/-- e.f of an exception that has its dict -/
def tXF (K : PySem.W.Frag) (f : Str) (te : TE) : TE := fun σ H Q => te σ H fun x H1 => ∃ (a C dd : Addr) (fs : List (Str × V)) (v : V), x = .ref a ∧ L2.ExcC K C ∧ PySem.W.findIn K (.ref C) f = some none ∧
  H1 a = some (exo a C (some dd)) ∧ H1 dd = some (exd dd fs) ∧ fs.lookup f = some v ∧ Q v H1
/-- an exception value at a: of the class at C, its fields -/
def ExAt (H : Hp) (a C : Addr) (fs : List (Str × V)) : Prop := (fs = [] ∧ H a = some (exo a C none)) ∨ ∃ dd, H a = some (exo a C (some dd)) ∧ H dd = some (exd dd fs)
/-- isinstance(e, c) of such -/
def rIsX (K : PySem.W.Frag) : List V → Hp → VK → Prop := fun xs H Q => ∃ (a C : Addr) (fs : List (Str × V)) (c : V) (u : Value) (b : Bool), xs = [.ref a, c] ∧ ClsV c u ∧ ExAt H a C fs ∧ L2.ExcC K C ∧ PySem.W.kitOne K (.ref C) u = some b ∧ Q (.bl b) H
section
variable {X : Cx} {o e : Expr} {es : List Expr} {to te : TE} {ta : TA} {f : Str} {p p' p1 p2 pos : Pos} {B newId initId : String} {bmB : List Value}
theorem init_args {us : List Value} {s : Shared} {pins : List (Addr × Obj)} {σ : L2.St} {H : Hp} {Q : VK} (I : Inv X pins σ H s) {vs : List V} (r : Vals vs us) (h : ∃ (a C : Addr) (ws : List V), vs = .ref a :: ws ∧ ws.length ≤ 1000 ∧ EC X.K C B newId initId bmB ∧ H a = some (exo a C none) ∧ Q .non H) :
    wpAny (model X.prog X.w) X.A (call (.builtin initId) ([] ++ us)) (EP X pins σ Q) X.xe s := by
  obtain ⟨a, C, ws, rfl, hl, T, ea, q⟩ := h
  cases r with
  | cons ra rw' =>
    cases ra
    exact base_init T I ea (by rw [← Paired.length rw', sizeLine_eq]; omega) fun s' J => ⟨.non, H, J, rfl, q⟩
/-- TaskError.__init__(self, ..), an own class without an __init__ of its own -/
theorem pe_xinit {pl : Sem Bool} {x : Str} {CT : Addr} (hg : Gl X x) (hm : X.mg x = some (.ref CT)) (hs : PySem.W.specialIn X.K (.ref CT) "__getattribute__" = some (some (.builtin "type.__getattribute__"))) (hr : PySem.W.readsIn X.K CT (.type "type") = true)
    (vV : PySem.W.findCls X.K (.ref CT) (.type "type") "__init__" = some (.val (.builtin initId))) (ha : PA X (e :: es) ta) (hh : PySem.W.handedIn (.builtin initId) = true := by decide +kernel) (hdb : (x == ("__debug__" : Str)) = false := by decide)
    (hc : eval (.Call (.Attribute (.Name x p1) "__init__" p2) (e :: es) [] pos) X.env = (do
      let ov ← eval (.Name x p1) X.env
      standAt p2.atName
      let (f, first) ← holding [ov] (getMethod ov "__init__" pl)
      callWith pos f first (backTo pos (starEach (e :: es) X.env)) (backToKw pos (keywordEach [] X.env))) := by rfl)
    (he : starEach (e :: es) X.env = (false, eval e X.env) :: starEach es X.env := by rfl) (hpl : (backTo pos (starEach es X.env)).any (·.1) = false := by rfl) :
    PE X (.Call (.Attribute (.Name x p1) "__init__" p2) (e :: es) [] pos) (tXI X.K B newId initId bmB ta) :=
  ⟨fun pins s σ H Q I h => PySem.W.methodCall_KW (ld_glob I hg hm (PySem.W.method_cls I.kIn hs (PySem.W.cls_value I.kIn hr vV hh
    (callWith_method1 (thn (ha.run pos pins _ σ H _ (I.tok _) h) fun us s1 ⟨vs, H1, I1, r1, q⟩ => init_args I1 r1 q) he hpl))) hdb) hc⟩
theorem typ_OE : typeOf (.type "OverflowError") = pure (.type "type") := by kernel_rfl
/-- OverflowError.__init__(self, ..) -/
theorem pe_oeinit {pl : Sem Bool} (hg : Gl X "OverflowError") (hm : X.mg "OverflowError" = none) (vV : PySem.W.findCls X.K (.type "OverflowError") (.type "type") "__init__" = some (.val (.builtin "OverflowError.__init__"))) (ha : PA X (e :: es) ta)
    (hc : eval (.Call (.Attribute (.Name "OverflowError" p1) "__init__" p2) (e :: es) [] pos) X.env = (do
      let ov ← eval (.Name "OverflowError" p1) X.env
      standAt p2.atName
      let (f, first) ← holding [ov] (getMethod ov "__init__" pl)
      callWith pos f first (backTo pos (starEach (e :: es) X.env)) (backToKw pos (keywordEach [] X.env))) := by rfl)
    (he : starEach (e :: es) X.env = (false, eval e X.env) :: starEach es X.env := by rfl) (hpl : (backTo pos (starEach es X.env)).any (·.1) = false := by rfl) :
    PE X (.Call (.Attribute (.Name "OverflowError" p1) "__init__" p2) (e :: es) [] pos) (tXI X.K "OverflowError" newId "OverflowError.__init__" bmB ta) :=
  ⟨fun pins s σ H Q I h => PySem.W.methodCall_KW (ld_blt I hg hm PyProof.Rows.Boot.«OverflowError» (by
    obtain ⟨m, fr⟩ := I.fr
    exact PySem.W.method_type fr I.ok.mod.kin typ_OE (by decide +kernel) vV (by decide +kernel) (callWith_method1 (thn (ha.run pos pins _ σ H _ (I.tok _) h) fun us s1 ⟨vs, H1, I1, r1, q⟩ => init_args I1 r1 q) he hpl)) (by decide) (by decide)) hc⟩
theorem ps_xset (ho : PE X o to) (he : PE X e te) (hs : swapsWith e (some (.Attribute o f p')) pos.line X.env = pure false := by rfl) : PS X (.Assign [.Attribute o f p'] e pos) (tXS X.K B newId initId bmB f to te) :=
  ⟨fun pins s σ H D I h => plainObj_wpAny_Assign_Attribute (thn (he.run pins s σ H _ I h) fun v s1 ⟨y, H1, I1, r1, q1⟩ => thn (ho.run pins s1 σ H1 _ I1 q1) fun u s2 ⟨x, H2, I2, r2, a, C, ex, T, hno, ea, q⟩ => by
    subst ex
    cases r2
    exact set_first T I2 ea hno r1 fun dx s' n ne J => ⟨σ, _, J, q dx n ne⟩) hs⟩
theorem pe_xfld (he : PE X e te) (hb : attributeBase e f X.env (eval e X.env) = eval e X.env := by rfl) : PE X (.Attribute e f pos) (tXF X.K f te) :=
  ⟨fun pins s σ H Q I h => attr_of hb (thn (he.run pins s σ H _ I h) fun u s1 ⟨x, H1, I1, rx, a, C, dd, fs, v, ex, T, hno, ha, ea, l, q⟩ => by
    subst ex
    cases rx
    obtain ⟨t1, hoe⟩ := exo_at I1.hok ha
    obtain ⟨mA, hns, hr⟩ := exd_at I1.hok ea
    obtain ⟨od, ho, hl⟩ := lookIn_ns hns
    obtain ⟨u, hu, ru⟩ := RelO.some_of (v := v) (o := mA f) (by rw [← l]; exact hr f)
    exact HandSPX.exc_get I1.kIn (⟨hoe, rfl, rfl, ho⟩ : PySem.W.InstAt s1.heap a _ C (some od)) T.hg T.hk T.hs (PySem.W.findObj_own T.hd hno rfl (by rw [hl, hu])) (handed_of ru) ⟨v, H1, I1.tok _, ru, q⟩)⟩
/-- C(e, ..): a new exception, then C's own __init__ -/
theorem pe_xmake {x : Str} {C fI : Addr} {k : Nat} {fd : FuncData} {ps : List Str} {sp : Sp} (T : EC X.K C B newId initId bmB) (iC : PySem.W.findIn X.K (.ref C) "__init__" = some (some (.ref fI))) (tI : PySem.W.typeIn X.K (.ref fI) = some (.type "function"))
    (F1 : FnOk X.prog X.w X.K X.mg X.base CX0 k fI fd ps sp) (hr : Room (k + 1) X.A) (hb : Binds X.K fd ps []) (hg : Gl X x) (hm : X.mg x = some (.ref C)) (ha : PA X (e :: es) ta)
    (hdb : (x == ("__debug__" : Str)) = false := by decide) (he : starEach (e :: es) X.env = (false, eval e X.env) :: starEach es X.env := by rfl) (hpl : (backTo pos (starEach es X.env)).any (·.1) = false := by rfl) :
    PE X (.Call (.Name x p) (e :: es) [] pos) (tXM C sp ta) := by
  refine ⟨fun pins s σ H Q I h => wpAny_Call_Name_kw (ld_glob I hg hm (PySem.W.callWith_K (h₀ := X.base) I.ok.mod.kin T.kC (thn (ha.run pos pins s σ H _ I h) fun us s1 ⟨vs, H1, I1, r1, hz, q1⟩ => ⟨I1.kIn, ?_⟩) he hpl) hdb)⟩
  obtain ⟨_, _, _, _, _, _, _, _, _, _, _, _, _, _, _, _, hC, hT⟩ := PySem.W.excInit_of I1.kIn T.ini
  have hsz : s1.heap.objs.size ≤ s1.heap.objs.size + 1 := Nat.le_succ _
  have hq := q1 (s1.heap.objs.size + 1) (I1.hok.fresh hsz)
  have hget : ((s1.heap.push (PySem.W.kdv_tup us)).push (PySem.HandSPX.excO C s1.heap.objs.size)).get? (s1.heap.objs.size + 1) = some (PySem.HandSPX.excO C s1.heap.objs.size) := by
    obtain ⟨hp, g, dr, tk, os⟩ := s1
    heap_get
  have I2 := I1.laid (t' := s1.toks) (o := exo (s1.heap.objs.size + 1) C none) (fun b o e => Heap.get?_push_of_some _ (Heap.get?_push_of_some _ e)) hsz (exo_ok hget)
  have r2 : Vals (V.ref (s1.heap.objs.size + 1) :: vs) (Value.ref (s1.heap.objs.size + 1) :: us) := .cons rfl r1
  have hl : (Value.ref (s1.heap.objs.size + 1) :: us).length = ps.length := r2.length.symm.trans (F1.len _ _ _ _ hq)
  have hbb := hb { s1 with heap := (s1.heap.push (PySem.W.kdv_tup us)).push (PySem.HandSPX.excO C s1.heap.objs.size) } (Value.ref (s1.heap.objs.size + 1) :: us) I2.kIn (by rw [List.append_nil]; exact hl)
  rw [List.append_nil] at hbb
  refine wpAny_call (PySem.HandSPX.call_own T.base.ex hT hC (PySem.W.looks_findIn I1.kIn iC) (fun self => PySem.W.bind_fn I1.kIn self tI) (show us.length ≤ sizeLine by rw [← Paired.length r1, sizeLine_eq]; omega)
    (codeAny_mono (F1.run _ X.stack _ _ ⟨Value.ref (s1.heap.objs.size + 1) :: us, []⟩ _ _ _ _ (hr.make C us []) (I2.env0.make C us []) hbb r2 hq) fun r s' hq' => ?_))
  match r, hq' with
  | .error _, z => exact z.elim
  | .ok .next, z => exact z.elim
  | .ok .brk, z => exact z.elim
  | .ok .cont, z => exact z.elim
  | .ok (.ret u), z =>
    obtain ⟨v, H', I3, rv, ev, q3⟩ := I2.after z
    subst ev
    exact ⟨rv, ⟨V.ref (s1.heap.objs.size + 1), H', I3, rfl, q3⟩⟩
/-- C(), an own exception class without an __init__ of its own -/
theorem pe_xmake0 {C : Addr} {x : Str} (F : ExcBaseFacts B newId initId bmB) (q : PySem.W.excIn X.K C bmB newId = true) (gC : X.mg x = some (.ref C)) (kC : PySem.W.keepIn X.K (.ref C) = true) (hg : Gl X x)
    (hdb : (x == ("__debug__" : Str)) = false := by decide) : PE X (.Call (.Name x p) [] [] pos) (tX0 C) := by
  refine ⟨fun pins s σ H Q I h => wpAny_Call_Name_kw (ld_glob I hg gC (PySem.W.callWith_K0 I.kIn kC ?_) hdb)⟩
  obtain ⟨_, _, _, _, _, _, _, _, _, _, _, _, _, _, _, _, _, hC, hN, hni, T⟩ := exc_obj I.kIn q
  refine wpAny_call_exc_subT F T hC hN hni (fun h' a hm => ?_) (Nat.zero_le _)
  obtain ⟨t, ht, _, _⟩ := hm.there
  exact ⟨.ref a, _, I.laidN hm.keeps hm.new (I.hok.gone hm.new) (exo_ok (d := none) ht), rfl, h a (I.hok.gone hm.new)⟩
end
end Exv
namespace Exv
open PySem PySem.W PySem.Calls PyProof.Rows PySem.Spec
section
variable {prog : Program} {w : World} {A : Around} {E : Value → Shared → Prop} {s : Shared} {K : Frag} {x D : Addr} {ox : Obj} {od : Option Obj}
theorem findObj_any {C : Addr} {name : Str} {a g : Value} (hc : (clsIn K C).isSome = true) (ha : findIn K (.ref C) name = some (some a)) (hg : specialIn K a "__get__" = some (some g)) (ht : takesIn K a = some true) : findObj K C od name = some (.bind g a) := by
  obtain ⟨cd, hc⟩ := Option.isSome_iff_exists.mp hc
  unfold findObj
  rw [hc, Option.bind_some, ha, Option.bind_some]
  simp [hg, ht]
theorem kin_classX {Q : Option Value → Shared → Prop} (hga : findIn K (.ref D) "__getattribute__" = some (some (.builtin "BaseException.__getattribute__"))) (hgt : findIn K (.ref D) "__getattr__" = some none) (hsub : subIn K (.ref D) (.type "BaseException") = some true)
    (hdct : hasDictIn K D = true) (ha : findIn K (.ref D) "__class__" = some (some (.builtin "object.__class__")))
    (hn : specialIn K (.builtin "object.__class__") "__get__" = some (some (.builtin "getset_descriptor.__get__"))) (htk : takesIn K (.builtin "object.__class__") = some true) (hm : mroIn K D (.type "object") = some true)
    (X : K.In s.heap) (I : InstAt s.heap x ox D od) (h : Q (some (.ref D)) { s with toks := s.toks + 1 }) : wpAny (model prog w) A (getAttr? (.ref x) "__class__") Q E s := by
  have hf : findObj K D od "__class__" = some (.bind (.builtin "getset_descriptor.__get__") (.builtin "object.__class__")) := findObj_any (by obtain ⟨cd, hc, _⟩ := any_some hdct; rw [hc]; rfl) ha hn htk
  obtain ⟨hp, g, d, t, os⟩ := s
  have L0 := I.type (M := model prog w)
  have L1 := looks_findIn (M := model prog w) X hga
  have L2 := looks_findIn (M := model prog w) X hgt
  have L3 := looks_find (M := model prog w) X I hf
  have sub : Looks (model prog w) hp (isInstance (.ref x) (.type "BaseException")) true := L0.andThen (looks_subIn X hsub)
  have hx0 : (false && onTheHeap (Value.builtin "BaseException.__getattribute__")) = false := rfl
  have hx2 : (Value.builtin "BaseException.__getattribute__" == Value.builtin "object.__getattribute__") = false := by decide +kernel
  have hx1 : (onTheHeap (Value.ref D) && Value.builtin "BaseException.__getattribute__" == Value.builtin "object.__getattribute__") = false := by rw [hx2]; rfl
  unfold getAttr? getAttrBy? getAttrBy
  refine wpAny_bind (wpAny_mkText (wpAny_bind (wpAny_attempt (wpAny_holding (wpAny_bind (L0.at (wpAny_bind (L1.at ?_))))))))
  show wpAny _ _ (if (onTheHeap (Value.ref D) && Value.builtin "BaseException.__getattribute__" == Value.builtin "object.__getattribute__") = true then _ else _) _ _ _
  rw [hx1, if_neg Bool.false_ne_true]
  unfold getAttrByItsOwn hookBefore
  refine wpAny_bind ?_
  rw [if_pos (show onTheHeap (Value.ref D) = true from rfl)]
  refine L2.at ?_
  refine wpAny_bind (wpAny_attempt (wpAny_holding ?_))
  unfold callGetattribute
  rw [hx0, if_neg Bool.false_ne_true]
  unfold boundAndCalled
  rw [PySem.F.excAttr_ValueError.ga.bind (.ref x)]
  refine wpAny_bind (wpAny_pure ?_)
  show wpAny _ _ (call (.builtin "BaseException.__getattribute__") [.ref x, .str "__class__" t]) _ _ _
  refine wpAny_call (codeAny_call_builtin PySem.F.excAttr_ValueError.ga.plain PySem.F.entry_bexc_ga ?_)
  refine @check_slot (model prog w) _ _ ⟨hp, g, d, t + 1, os⟩ "BaseException.__getattribute__" "BaseException" "__getattribute__" (.ref x) [.str "__class__" t] [] _ (by decide +kernel) (by decide +kernel) sub (PySem.F.args_bexc_ga (.ref x) (.str "__class__" t)) ?_
  unfold Builtin.«object.__getattribute__»
  refine wpAny_bind (wpAny_of_eq (a := ((Value.ref x : Value), [Value.str "__class__" t])) (by first | rfl | (simp only [slotArgs]; rfl)) ?_)
  refine wpAny_bind (wpAny_pure (wpAny_bind (L0.at (wpAny_bind (L3.at ?_)))))
  show wpAny _ _ (holding [Value.builtin "object.__class__"] (call (.builtin "getset_descriptor.__get__") [.builtin "object.__class__", .ref x, .ref D]) >>= ret) _ _ _
  refine wpAny_bind (wpAny_holding (wpAny_call (class_get (s := ⟨hp, g, d, t + 1, os⟩) (ox := ox) (od := od) X I hm ?_)))
  refine wpAny_pure ?_
  show wpAny _ _ (handedOut (.ref D)) _ _ _
  rw [handedOut_of (v := .ref D) rfl]
  first
    | exact wpAny_pure (wpAny_pure h)
    | exact wpAny_pure h
    | exact wpAny_pure (wpAny_bind (wpAny_pure (wpAny_pure h)))
theorem kitx_exc (hga : findIn K (.ref D) "__getattribute__" = some (some (.builtin "BaseException.__getattribute__"))) (hgt : findIn K (.ref D) "__getattr__" = some none) (hsub : subIn K (.ref D) (.type "BaseException") = some true) (hdct : hasDictIn K D = true) (ha : findIn K (.ref D) "__class__" = some (some (.builtin "object.__class__")))
    (hn : specialIn K (.builtin "object.__class__") "__get__" = some (some (.builtin "getset_descriptor.__get__"))) (htk : takesIn K (.builtin "object.__class__") = some true) (hm : mroIn K D (.type "object") = some true) :
    KitX K (.ref x) (.ref D) (fun h => InstAt h x ox D od) where
  ty := fun _ _ _ I => I.type
  it := fun _ _ X _ => by
    obtain ⟨cdD, hcD, _⟩ := any_some hdct
    unfold clsIn at hcD
    split at hcD
    · rename_i c' d' cd' sl' ho
      intro A' Q' E' s' k q
      unfold isType loadHead
      exact wpAny_bind (wpAny_loadPart (k _ _ (X _ _ ho)) (wpAny_pure q))
    · cases hcD
  ne := fun h tp dd its n sl X htp => by
    obtain ⟨cdD, hcD, _⟩ := any_some hdct
    refine Bool.eq_false_iff.mpr fun q => ?_
    have e : D = tp := Value.ref.inj (beq_iff_eq.mp q)
    subst e
    unfold clsIn at hcD
    split at hcD
    · rename_i c' d' cd' sl' ho
      have z := (X _ _ ho).symm.trans htp
      cases z
    · cases hcD
  ca := fun X I k => kin_classX hga hgt hsub hdct ha hn htk hm X I k
end
end Exv
namespace Exv
open PySem L2 PySem.Spec PyProof.Rows
section
variable {X : Cx}
theorem call_isX : CallR X (.builtin "isinstance") (rIsX X.K) := by
  intro pins s σ H xs us Q I r h
  obtain ⟨a, C, fs, c, u, b, rfl, k, ex, T, e, q⟩ := h
  obtain ⟨u1, u2, rfl, r1, r2⟩ := vals2 r
  have e2 := k.eq r2
  subst e2
  cases (show u1 = Value.ref a from r1)
  rcases ex with ⟨rfl, ha⟩ | ⟨dd, ha, hd⟩
  · obtain ⟨t1, ho⟩ := exo_at I.hok ha
    have J : PySem.W.InstAt s.heap a _ C none := ⟨ho, rfl, rfl, trivial⟩
    exact PySem.W.kia_one (kitx_exc T.hg T.hk T.hs T.hd T.ha T.hn T.ht T.hm) I.kIn J e (fun z => nomatch z) fun tk => ⟨.bl b, H, I.tok tk, rfl, q⟩
  · obtain ⟨t1, ho⟩ := exo_at I.hok ha
    obtain ⟨mA, hns, hr⟩ := exd_at I.hok hd
    obtain ⟨od, hod, hl⟩ := lookIn_ns hns
    have J : PySem.W.InstAt s.heap a _ C (some od) := ⟨ho, rfl, rfl, hod⟩
    exact PySem.W.kia_one (kitx_exc T.hg T.hk T.hs T.hd T.ha T.hn T.ht T.hm) I.kIn J e (fun z => nomatch z) fun tk => ⟨.bl b, H, I.tok tk, rfl, q⟩
end
end Exv
/-! ## An own exception class called with keywords -/
namespace Exv
open PySem PySem.W PySem.HandSPX Builtin Builtin.ObjectAttr
section
variable {prog : Program} {w : World} {A : Around} {E : Value → Shared → Prop} {R : Result → Shared → Prop} {h : Heap} {g : Array GenState} {d : Drawn} {t : Nat} {os : OsState}
variable {nm q : Str} {C N : Addr} {bs bm bmB : List Value} {hdct : Bool} {sn : List Str} {sub : List Value} {ab : Bool} {col : Option Bool} {dd : Option Addr} {k0 k1 k2 k3 k5 : Option Value} {B newId initId : String}
theorem kw_check_new (F : ExcBaseFacts B newId initId bmB) (hT : ∀ X : String, bm.contains (.type X) = bmB.contains (.type X)) {kw : List (Str × Value)} {Q : Unit → Shared → Prop}
    (hC : h.get? C = some (excClassObj nm q C N bs bm hdct sn sub ab col dd k0 k1 k2 k3 k5 newId)) (hq : Q () ⟨h, g, d, t, os⟩) : wpAny (model prog w) A (checkBuiltinCall newId ⟨[.ref C], kw⟩) Q E ⟨h, g, d, t, os⟩ := by
  have inB : (Value.ref C :: bm).contains (.type B) = true := by rw [List.contains_cons, hT, F.hasB, Bool.or_true]
  have := F.noStar
  simp only [checkBuiltinCall, F.newKind, F.newSplit, F.newRow]
  repeat (first | refine wpAny_loadPart_at hC ?_ | (refine wpAny_isSubtype_exc hC ?_; rw [inB]) | refine wpAny_staticBase_exc hC ?_ | refine wpAny_madeBy_exc hC ?_ | simp only [bne_self_eq_false, Bool.false_eq_true, if_false] | wp_step)
  exact hq
theorem kw_new (F : ExcBaseFacts B newId initId bmB) (hT : ∀ X : String, bm.contains (.type X) = bmB.contains (.type X)) {kw : List (Str × Value)}
    (hC : h.get? C = some (excClassObj nm q C N bs bm hdct sn sub ab col dd k0 k1 k2 k3 k5 newId))
    (hq : R (.ok (.ret (.ref (h.objs.size + 1)))) ⟨(h.push (kdv_tup [])).push (excO C h.objs.size), g, d, t, os⟩) :
    codeAny (model prog w) A (.builtin newId ⟨[.ref C], kw⟩) R ⟨h, g, d, t, os⟩ := by
  have := F.ends
  have inB : (Value.ref C :: bm).contains (.type B) = true := by rw [List.contains_cons, hT, F.hasB, Bool.or_true]
  have noA : (Value.ref C :: bm).contains (.type "AttributeError") = false := by rw [List.contains_cons, hT, F.noAttr]; rfl
  have noN : (Value.ref C :: bm).contains (.type "NameError") = false := by rw [List.contains_cons, hT, F.noName]; rfl
  refine codeAny_builtinAt F.entry ?_
  unfold Builtin.«BaseException.__new__»
  refine wpAt_bind (wpAt_bind (wpAt_stack fun p below => wpAt_of_wpAny ?_))
  wp_walk
  refine wpAt_of_wpAny ?_
  rw [F.owner]
  repeat (first | with_reducible refine wpAny_madeHere_exc F.canon hC ?_ | with_reducible refine wpAny_loadPart_at hC ?_ | (with_reducible refine wpAny_isSubtype_exc hC ?_; first | rw [inB] | rw [noA] | rw [noN]) | wp_step)
  show R _ _
  rw [Heap.size_push]
  exact hq
theorem kw_tree (F : ExcBaseFacts B newId initId bmB) (hT : ∀ X : String, bm.contains (.type X) = bmB.contains (.type X)) {kw : List (Str × Value)} {fI : Addr} {Q : Fin → Shared → Prop}
    (hC : h.get? C = some (excClassObj nm q C N bs bm hdct sn sub ab col dd k0 k1 k2 k3 k5 newId))
    (hi : Looks (model prog w) h (typeLookup (.ref C) "__init__") (some (.ref fI))) (hb : ∀ self, Looks (model prog w) h (bindSpecial (.ref fI) self) (.ref fI, [self]))
    (hq : codeAny (model prog w) A (.call (.ref fI) ⟨[.ref (h.objs.size + 1)], kw⟩)
      (fun r s' => match r with | .ok (.ret v) => v = .none ∧ Q (.done (.ret (.ref (h.objs.size + 1)))) s' | .ok _ => False | .error e => E e s') ⟨(h.push (kdv_tup [])).push (excO C h.objs.size), g, d, t, os⟩) :
    wpAny (model prog w) A (Builtin.«type.__call__» ⟨[.ref C], kw⟩) Q E ⟨h, g, d, t, os⟩ := by
  repeat (first | with_reducible refine wpAny_loadPart_at hC ?_ | with_reducible refine wpAny_madeBy_exc hC ?_ | wp_step)
  refine codeAny_call_builtin_code (Code.quiet_builtin _ F.quiet) (kw_check_new F hT hC (kw_new F hT hC ?_))
  show wpAny _ _ _ _ _ _
  have old : ∀ b o, h.get? b = some o → ((h.push (kdv_tup [])).push (excO C h.objs.size)).get? b = some o := fun b o e => Heap.get?_push_of_some _ (Heap.get?_push_of_some _ e)
  have newC := old _ _ hC
  have made : ((h.push (kdv_tup [])).push (excO C h.objs.size)).get? (h.objs.size + 1) = some (excO C h.objs.size) := by heap_get
  have own : (Value.ref C :: bm).contains (.ref C) = true := by simp
  unfold isInstance
  repeat (first | with_reducible refine wpAny_loadPart_at made ?_ | (with_reducible refine wpAny_isSubtype_exc newC ?_; rw [own]) | wp_step)
  refine (hi.keeps old).at (wpAny_holding (wpAny_bind (((hb (.ref (h.objs.size + 1))).keeps old).at (wpAny_bind (wpAny_call (codeAny_mono hq fun r s' z => ?_))))))
  match r, z with
  | .error _, z => exact z
  | .ok .next, z => exact z.elim
  | .ok .brk, z => exact z.elim
  | .ok .cont, z => exact z.elim
  | .ok (.ret v), z =>
    obtain ⟨e, z⟩ := z
    subst e
    first
      | exact wpAny_pure (wpAny_pure z)
      | (wp_walk; exact z)
theorem kw_call (F : ExcBaseFacts B newId initId bmB) (hT : ∀ X : String, bm.contains (.type X) = bmB.contains (.type X)) {kw : List (Str × Value)} {fI : Addr}
    (hC : h.get? C = some (excClassObj nm q C N bs bm hdct sn sub ab col dd k0 k1 k2 k3 k5 newId))
    (hi : Looks (model prog w) h (typeLookup (.ref C) "__init__") (some (.ref fI))) (hb : ∀ self, Looks (model prog w) h (bindSpecial (.ref fI) self) (.ref fI, [self]))
    (hq : codeAny (model prog w) (A.under (.builtin "type.__call__" ⟨[.ref C], kw⟩)) (.call (.ref fI) ⟨[.ref (h.objs.size + 1)], kw⟩) (InitBack (h.objs.size + 1) R) ⟨(h.push (kdv_tup [])).push (excO C h.objs.size), g, d, t, os⟩) :
    codeAny (model prog w) A (.call (.ref C) ⟨[], kw⟩) R ⟨h, g, d, t, os⟩ := by
  have := tc_lookup
  have := tc_bind (.ref C)
  have isT : (⟨h, g, d, t, os⟩ : Shared).TypeIs (.ref C) "type" := ⟨_, hC, rfl⟩
  refine codeAny_of_tree ?_
  show wpAny _ _ (callAny (.ref C) _) _ _ _
  repeat (any_goals (first | assumption | with_reducible refine wpAny_loadPart_at hC ?_ | wp_step))
  refine ⟨rfl, codeAny_call_builtin_at (Code.quiet_builtin _ (by decide +kernel)) entry_typeCall (wpAny_check_type_call_sub hC (kw_tree F hT hC hi hb (codeAny_mono hq fun r s' z => ?_)))⟩
  match r, z with
  | .error _, z => exact z
  | .ok .next, z => exact z
  | .ok .brk, z => exact z
  | .ok .cont, z => exact z
  | .ok (.ret v), z => exact z
end
end Exv
namespace Exv
open PySem L2 PySem.Spec PyProof.Rows
/-- how one keyword goes to the parameters of an __init__(self, nm) -/
def KwOne (K : PySem.W.Frag) (fd : FuncData) (ps : List Str) (nm : Str) : Prop := ∀ (s : Shared) (a : Value) (v : Value), BindsTo s fd ⟨[a], [(nm, v)]⟩ (ps.zip [a, v])
/-- C(nm = e): a new exception, then C's own __init__ -/
theorem pe_xmakeK {X : Cx} {e : Expr} {te : TE} {p pos kpos : Pos} {B newId initId : String} {bmB : List Value} {x nm : Str} {C fI : Addr} {k : Nat} {fd : FuncData} {ps : List Str} {sp : Sp} (T : EC X.K C B newId initId bmB) (iC : PySem.W.findIn X.K (.ref C) "__init__" = some (some (.ref fI))) (tI : PySem.W.typeIn X.K (.ref fI) = some (.type "function"))
    (F1 : FnOk X.prog X.w X.K X.mg X.base CX0 k fI fd ps sp) (hr : Room (k + 1) X.A) (hb : KwOne X.K fd ps nm) (hg : Gl X x) (hm : X.mg x = some (.ref C)) (he : PE X e te)
    (hdb : (x == ("__debug__" : Str)) = false := by decide) (hall : (backToKw pos (keywordEach [⟨some nm, e, kpos⟩] X.env)).all (·.1.isSome) = true := by rfl) (hks : (backToKw pos (keywordEach [⟨some nm, e, kpos⟩] X.env)).filterMap (·.1) = [nm] := by rfl)
    (hpl : ((backTo pos (starEach [] X.env)).any (·.1) || (backToKw pos (keywordEach [⟨some nm, e, kpos⟩] X.env)).any (·.1.isNone)) = false := by rfl) (hps : ps.length = 2 := by rfl) :
    PE X (.Call (.Name x p) [] [⟨some nm, e, kpos⟩] pos) (tXM C sp (tCons te tNil)) := by
  refine ⟨fun pins s σ H Q I h => wpAny_Call_Name_kw (ld_glob I hg hm ?_ hdb)⟩
  refine PySem.W.callWith_KW0 (h₀ := X.base) I.ok.mod.kin T.kC hall (thn ((pk_cons he pk_nil).run pos pins s σ H _ I h) fun ws s1 ⟨zs, H1, I1, rz, hz, q1⟩ => ⟨I1.kIn, ?_⟩) hpl
  rw [hks]
  show wpAny _ _ (call (.ref C) [] _) _ _ _
  obtain ⟨_, _, _, _, _, _, _, _, _, _, _, _, _, _, _, _, hC, hT⟩ := PySem.W.excInit_of I1.kIn T.ini
  have hsz : s1.heap.objs.size ≤ s1.heap.objs.size + 1 := Nat.le_succ _
  have hq := q1 (s1.heap.objs.size + 1) (I1.hok.fresh hsz)
  have hl : zs.length = 1 := by
    have z := F1.len _ _ _ _ hq
    rw [hps, List.length_cons] at z
    omega
  obtain ⟨z, rfl⟩ : ∃ z, zs = [z] := List.length_eq_one_iff.mp hl
  cases rz with
  | @cons _ u _ _ ru rr =>
    cases rr
    have hget : ((s1.heap.push (PySem.W.kdv_tup [])).push (PySem.HandSPX.excO C s1.heap.objs.size)).get? (s1.heap.objs.size + 1) = some (PySem.HandSPX.excO C s1.heap.objs.size) := by
      obtain ⟨hp, g, dr, tk, os⟩ := s1
      heap_get
    have I2 := I1.laid (t' := s1.toks) (o := exo (s1.heap.objs.size + 1) C none) (fun b o e => Heap.get?_push_of_some _ (Heap.get?_push_of_some _ e)) hsz (exo_ok hget)
    refine wpAny_call (kw_call T.base.ex hT hC (PySem.W.looks_findIn I1.kIn iC) (fun self => PySem.W.bind_fn I1.kIn self tI)
      (codeAny_mono (F1.run _ X.stack _ _ ⟨[Value.ref (s1.heap.objs.size + 1)], [(nm, u)]⟩ [Value.ref (s1.heap.objs.size + 1), u] [V.ref (s1.heap.objs.size + 1), z] _ _ (hr.make C [] _) (I2.env0.make C [] _) (hb _ _ _) (.cons rfl (.cons ru .nil)) hq) fun r s' hq' => ?_))
    match r, hq' with
    | .error _, z => exact z.elim
    | .ok .next, z => exact z.elim
    | .ok .brk, z => exact z.elim
    | .ok .cont, z => exact z.elim
    | .ok (.ret u), z =>
      obtain ⟨v, H', I3, rv, ev, q3⟩ := I2.after z
      subst ev
      exact ⟨rv, ⟨V.ref (s1.heap.objs.size + 1), H', I3, rfl, q3⟩⟩
end Exv
namespace Exv
open PySem L2 PySem.Spec PyProof.Rows
/-- an exception value at a with one field -/
def ExV (H : Hp) (a C : Addr) (f : Str) (v : V) : Prop := ∃ dx, H a = some (exo a C (some dx)) ∧ H dx = some (exd dx [(f, v)])
theorem ExV.same {H H' : Hp} {a C : Addr} {f : Str} {v : V} (e : ExV H a C f v) (s : Same H H') : ExV H' a C f v := e.imp fun _ h => ⟨s _ _ h.1, s _ _ h.2⟩
theorem ExV.at_ {H : Hp} {a C : Addr} {f : Str} {v : V} (e : ExV H a C f v) : ExAt H a C [(f, v)] := .inr e
theorem ExAt.same {H H' : Hp} {a C : Addr} {fs : List (Str × V)} (e : ExAt H a C fs) (s : Same H H') : ExAt H' a C fs :=
  e.imp (fun h => ⟨h.1, s _ _ h.2⟩) fun h => h.imp fun _ h => ⟨s _ _ h.1, s _ _ h.2⟩
/-- what the __init__ of such a class promises -/
def spXI (C : Addr) (f : Str) : Sp := fun vs H Q _ => ∃ (a : Addr) (v : V), vs = [.ref a, v] ∧ H a = some (exo a C none) ∧ ∀ dx, H dx = none → dx ≠ a → Q .non (upd (upd H dx (exd dx [(f, v)])) a (exo a C (some dx)))
/-- an own error class with one field -/
def Maker (P : Program) (w : World) (K : PySem.W.Frag) (mg : Str → Option Value) (base : Heap) (x f : Str) (C : Addr) : Prop :=
  mg x = some (.ref C) ∧ PySem.W.findIn K (.ref C) f = some none ∧ ∃ (B newId initId : String) (bmB : List Value) (fI : Addr) (fd : FuncData) (ps : List Str), EC K C B newId initId bmB ∧ PySem.W.findIn K (.ref C) "__init__" = some (some (.ref fI)) ∧ PySem.W.typeIn K (.ref fI) = some (.type "function") ∧
    FnOk P w K mg base CX0 1 fI fd ps (spXI C f) ∧ Binds K fd ps [] ∧ KwOne K fd ps f ∧ ps.length = 2
theorem Maker.is {P : Program} {w : World} {K : PySem.W.Frag} {mg : Str → Option Value} {base : Heap} {x f : Str} {C : Addr} (M : Maker P w K mg base x f C) : L2.ExcC K C := by
  obtain ⟨_, _, _, _, _, _, _, _, _, T, _⟩ := M
  exact T.is
def rXM (C : Addr) (f : Str) (vs : List V) (H1 : Hp) (Q : VK) : Prop := vs.length ≤ 1000 ∧ ∀ a, H1 a = none → spXI C f (.ref a :: vs) (upd H1 a (exo a C none)) (fun v H2 => v = .non ∧ Q (.ref a) H2) fun _ _ _ => False
def tMk (C : Addr) (f : Str) (ta : TA) : TE := fun σ H Q => ta σ H fun vs H1 => rXM C f vs H1 Q
def rXF (K : PySem.W.Frag) (f : Str) (x : V) (H1 : Hp) (Q : VK) : Prop := ∃ (a C dd : Addr) (fs : List (Str × V)) (v : V), x = .ref a ∧ L2.ExcC K C ∧ PySem.W.findIn K (.ref C) f = some none ∧ H1 a = some (exo a C (some dd)) ∧ H1 dd = some (exd dd fs) ∧ fs.lookup f = some v ∧ Q v H1
section
variable {X : Cx} {e : Expr} {te : TE} {x f : Str} {C : Addr} {p pos kpos : Pos}
theorem pe_mk {ta : TA} (M : Maker X.prog X.w X.K X.mg X.base x f C) (hr : Room 2 X.A) (ha : PA X (e :: []) ta) (hg : Gl X x := by rfl) (hdb : (x == ("__debug__" : Str)) = false := by decide) (hs : starEach (e :: []) X.env = (false, eval e X.env) :: starEach [] X.env := by rfl) (hpl : (backTo pos (starEach [] X.env)).any (·.1) = false := by rfl) :
    PE X (.Call (.Name x p) (e :: []) [] pos) (tMk C f ta) := by
  obtain ⟨hm, _, B, newId, initId, bmB, fI, fd, ps, T, iC, tI, F, b, kb, hl⟩ := M
  exact pe_xmake T iC tI F hr b hg hm ha hdb hs hpl
theorem pe_mkK (M : Maker X.prog X.w X.K X.mg X.base x f C) (hr : Room 2 X.A) (he : PE X e te) (hg : Gl X x := by rfl) (hdb : (x == ("__debug__" : Str)) = false := by decide)
    (hall : (backToKw pos (keywordEach [⟨some f, e, kpos⟩] X.env)).all (·.1.isSome) = true := by rfl) (hks : (backToKw pos (keywordEach [⟨some f, e, kpos⟩] X.env)).filterMap (·.1) = [f] := by rfl)
    (hpl : ((backTo pos (starEach [] X.env)).any (·.1) || (backToKw pos (keywordEach [⟨some f, e, kpos⟩] X.env)).any (·.1.isNone)) = false := by rfl) :
    PE X (.Call (.Name x p) [] [⟨some f, e, kpos⟩] pos) (tMk C f (tCons te tNil)) := by
  obtain ⟨hm, _, B, newId, initId, bmB, fI, fd, ps, T, iC, tI, F, b, kb, hl⟩ := M
  exact pe_xmakeK T iC tI F hr kb hg hm he hdb hall hks hpl hl
end
section
variable {K : PySem.W.Frag} {σ : L2.St} {H : Hp} {Q : VK} {C a : Addr} {f : Str} {v : V}
theorem mk {ta : TA} (q : ta σ H fun vs H1 => rXM C f vs H1 Q) : tMk C f ta σ H Q := q
theorem mkE (q : ∀ a H', Same H H' → H a = none → ExV H' a C f v → Q (.ref a) H') : rXM C f [v] H Q :=
  ⟨(by decide : 1 ≤ 1000), fun a ha => ⟨a, v, rfl, upd_same, fun dx hd hne => ⟨rfl, q a _ (fun b o hb => by
    have n1 : b ≠ a := ne_of_none hb ha
    have h1 : upd H a (exo a C none) b = some o := (upd_ne n1).trans hb
    exact (upd_ne n1).trans ((upd_ne (ne_of_none h1 hd)).trans h1)) ha ⟨dx, upd_same, (upd_ne hne).trans upd_same⟩⟩⟩⟩
theorem mk0 (q : ∀ a H', Same H H' → H a = none → ExAt H' a C [] → Q (.ref a) H') : tX0 C σ H Q := fun a ha => q a _ (fun b o hb => (upd_ne (ne_of_none hb ha)).trans hb) ha (.inl ⟨rfl, upd_same⟩)
theorem fld {te : TE} (q : te σ H fun x H1 => rXF K f x H1 Q) : tXF K f te σ H Q := q
theorem fldE (T : L2.ExcC K C) (hn : PySem.W.findIn K (.ref C) f = some none) (e : ExV H a C f v) (q : Q v H) : rXF K f (.ref a) H Q := by
  obtain ⟨dx, h1, h2⟩ := e
  exact ⟨a, C, dx, _, v, rfl, T, hn, h1, h2, by simp [List.lookup], q⟩
theorem isE {fs : List (Str × V)} {c : V} {u : Value} {b : Bool} (hc : ClsV c u) (e : ExAt H a C fs) (T : L2.ExcC K C) (hk : PySem.W.kitOne K (.ref C) u = some b) (q : Q (.bl b) H) : rIsX K [.ref a, c] H Q :=
  ⟨a, C, fs, c, u, b, rfl, hc, e, T, hk, q⟩
end
end Exv
namespace Exv
open PySem L2 PySem.Spec PyProof.Rows
/-- an own error class without fields -/
def Maker0 (K : PySem.W.Frag) (mg : Str → Option Value) (x : Str) (C : Addr) : Prop :=
  mg x = some (.ref C) ∧ PySem.W.keepIn K (.ref C) = true ∧ L2.ExcC K C ∧ ∃ (B newId initId : String) (bmB : List Value), ExcBaseFacts B newId initId bmB ∧ PySem.W.excIn K C bmB newId = true
theorem pe_mk0 {X : Cx} {x : Str} {C : Addr} {p pos : Pos} (M : Maker0 X.K X.mg x C) (hg : Gl X x := by rfl) (hdb : (x == ("__debug__" : Str)) = false := by decide) : PE X (.Call (.Name x p) [] [] pos) (tX0 C) := by
  obtain ⟨hm, kC, _, B, newId, initId, bmB, F, q⟩ := M
  exact pe_xmake0 F q hm kC hg hdb
end Exv
/-! ## == and != of an instance with an own == and of anything else -/
namespace Cmq
open PySem PySem.W
section
variable {prog : Program} {w : World} {A : Around} {E : Value → Shared → Prop} {s : Shared} {K : Frag} {x C f : Addr} {ox : Obj} {od : Option Obj} {u : Value} {T id : String}
/-- a built-in's own == declines -/
def Declines (prog : Program) (w : World) (K : Frag) (C x : Addr) (ox : Obj) (od : Option Obj) (u : Value) (id : String) : Prop := ∀ (A : Around) (E : Value → Shared → Prop) (s : Shared) (Q : Value → Shared → Prop), K.In s.heap → InstAt s.heap x ox C od →
  Q .notImplemented s → wpAny (model prog w) A (call (.builtin id) [u, .ref x]) Q E s
theorem eq_right {Q : Value → Shared → Prop} (hu : A.units < cLine) (X : K.In s.heap) (I : InstAt s.heap x ox C od) (hT : ∀ s' : Shared, s'.heap = s.heap → s'.TypeIs u T) (hsub : subIn K (.ref C) (.type T) = some false) (h1 : Slot T (cmpInfo .Eq).2.1 id)
    (hd : ∀ (A : Around) (E : Value → Shared → Prop) (Q : Value → Shared → Prop), Q .notImplemented s → wpAny (model prog w) A (call (.builtin id) [u, .ref x]) Q E s) (hone : oneThing? .Eq u (.ref x) = none) (hs : findIn K (.ref C) "__eq__" = some (some (.ref f))) (hf : isFn K (.ref f) = true)
    (h : wpAny (model prog w) A (call (.ref f) [.ref x, u]) (CmpBack Q) E s) : wpAny (model prog w) A (richCompare .Eq u (.ref x)) Q E s := by
  unfold richCompare
  simp only [hone]
  refine wpAny_holding (wpAny_bind (wpAny_cRoomFor hu ?_))
  refine wpAny_bind (wpAny_typeOf (hT s rfl) (wpAny_bind (I.type.here ?_)))
  rw [show (Value.type T != Value.ref C) = true from rfl]
  simp only [if_true]
  refine wpAny_bind ((looks_subIn X hsub).here ?_)
  simp only [Bool.false_eq_true, if_false, Bool.not_false, if_true]
  refine wpAny_bind (wpAny_tryCompare_declines (hT s rfl) h1 (hd _ _ _ ⟨rfl, ?_⟩))
  have one : wpAny (model prog w) A (tryCompare (.ref x) (cmpInfo .Eq).2.2 u) (fun r s' => ∃ v, r = some v ∧ Q v s') E s := by
    unfold tryCompare
    refine wpAny_bind (ifBound_K X I hs hf (wpAny_mono h (fun v s' hv => ?_) fun _ _ e => e))
    cases v <;> first | exact hv.elim | exact wpAny_pure ⟨_, rfl, hv⟩
  refine wpAny_bind (wpAny_mono one (fun r s' z => ?_) fun _ _ e => e)
  obtain ⟨v, rfl, hq⟩ := z
  exact wpAny_pure hq
theorem none_declines : Declines prog w K C x ox od .none "NoneType.__eq__" := fun A E s Q X I q => by
  obtain ⟨hp, g, d, t, os⟩ := s
  refine GQ.call_here F.slot_NoneType_eq (typeIs_none _) F.entry_NoneType_eq (F.args_NoneType_eq_2 _ _) ?_
  wp_walk
  exact q
theorem int_declines {i : Int} {tk : Tok} {dx : Addr} : Declines prog w K C x (instObj C dx) od (.int i tk) "int.__eq__" := fun A E s Q X I q => by
  obtain ⟨hp, g, d, t, os⟩ := s
  have hx := I.at_
  refine GQ.call_here F.slot_int_eq (typeIs_int _ _ _) F.entry_int_eq (F.args_int_eq_2 _ _) ?_
  repeat (first | with_reducible refine wpAny_loadPart_at hx ?_ | wp_step)
  exact q
theorem str_declines {z : Str} {tk : Tok} {dx : Addr} : Declines prog w K C x (instObj C dx) od (.str z tk) "str.__eq__" := fun A E s Q X I q => by
  obtain ⟨hp, g, d, t, os⟩ := s
  have hx := I.at_
  refine GQ.call_here F.slot_str_eq (typeIs_str _ _ _) F.entry_str_eq (F.args_str_eq_2 _ _) ?_
  repeat (first | with_reducible refine wpAny_loadPart_at hx ?_ | wp_step)
  exact q
/-- a list, tuple or dict at a -/
def DeclinesAt (prog : Program) (w : World) (K : Frag) (C x : Addr) (ox : Obj) (od : Option Obj) (a : Addr) (T id : String) : Prop := ∀ (A : Around) (E : Value → Shared → Prop) (s : Shared) (Q : Value → Shared → Prop), K.In s.heap → InstAt s.heap x ox C od →
  s.TypeIs (.ref a) T → Q .notImplemented s → wpAny (model prog w) A (call (.builtin id) [.ref a, .ref x]) Q E s
theorem listAt {a : Addr} (hsub : subIn K (.ref C) (.type "list") = some false) : DeclinesAt prog w K C x ox od a "list" "list.__eq__" := fun A E s Q X I hT q => by
  have L : Looks (model prog w) s.heap (isInstance (.ref x) (.type "list")) false := I.type.andThen (looks_subIn X hsub)
  obtain ⟨hp, g, d, t, os⟩ := s
  refine GQ.call_here F.slot_list_eq hT F.entry_list_eq (F.args_list_eq_2 _ _) ?_
  unfold Builtin.«list.__eq__»
  refine wpAny_bind (wpAny_of_eq (a := ((Value.ref a : Value), [Value.ref x])) (by first | rfl | (simp only [slotArgs]; rfl)) ?_)
  refine wpAny_bind (L.at ?_)
  wp_walk
  exact q
theorem tupAt {a : Addr} (hsub : subIn K (.ref C) (.type "tuple") = some false) : DeclinesAt prog w K C x ox od a "tuple" "tuple.__eq__" := fun A E s Q X I hT q => by
  have L : Looks (model prog w) s.heap (isInstance (.ref x) (.type "tuple")) false := I.type.andThen (looks_subIn X hsub)
  obtain ⟨hp, g, d, t, os⟩ := s
  refine GQ.call_here F.slot_tuple_eq hT F.entry_tuple_eq (F.args_tuple_eq_2 _ _) ?_
  unfold Builtin.«tuple.__eq__»
  refine wpAny_bind (wpAny_of_eq (a := ((Value.ref a : Value), [Value.ref x])) (by first | rfl | (simp only [slotArgs]; rfl)) ?_)
  refine wpAny_bind (L.at ?_)
  wp_walk
  exact q
theorem dictAt {a : Addr} (hsub : subIn K (.ref C) (.type "dict") = some false) : DeclinesAt prog w K C x ox od a "dict" "dict.__eq__" := fun A E s Q X I hT q => by
  have L : Looks (model prog w) s.heap (isInstance (.ref x) (.type "dict")) false := I.type.andThen (looks_subIn X hsub)
  obtain ⟨hp, g, d, t, os⟩ := s
  refine GQ.call_here F.slot_dict_eq hT F.entry_dict_eq (F.args_dict_eq_2 _ _) ?_
  unfold Builtin.«dict.__eq__»
  refine wpAny_bind (wpAny_of_eq (a := ((Value.ref a : Value), (Value.ref x : Value))) (by first | rfl | (simp only [Builtin.dictSlotArgs, slotArgs]; rfl)) ?_)
  refine wpAny_bind (L.at ?_)
  wp_walk
  exact q
theorem boundB {M : Model} {name : Str} {args : List Value} {Q : Option Value → Shared → Prop} (X : K.In s.heap) (I : InstAt s.heap x ox C od) (hs : findIn K (.ref C) name = some (some (.builtin id))) (hbd : ∀ self, bindSpecial (.builtin id) self = pure (.builtin id, [self]))
    (h : wpAny M A (call (.builtin id) (.ref x :: args)) (fun v => Q (some v)) E s) : wpAny M A (callSpecialIfBound? (.ref x) name args) Q E s := by
  have fin : wpAny M A (call (.builtin id) ([.ref x] ++ args) >>= fun v => pure (some v)) Q E s := wpAny_bind (wpAny_mono h (fun v s' z => wpAny_pure z) fun _ _ z => z)
  simp only [callSpecialIfBound?, bindSpecialIfBound?]
  refine wpAny_holding (wpAny_bind (wpAny_bind (wpAny_bind (I.type.here ((looks_findIn X hs).here (wpAny_bind (wpAny_askSetting (wpAny_ite ?_))))))))
  split
  · exact wpAny_bind (wpAny_of_eq (hbd _) (wpAny_pure (by exact fin)))
  · exact wpAny_tryCatch (wpAny_bind (wpAny_of_eq (hbd _) (wpAny_pure (by exact fin))))
theorem ne_left {tb : Value} {Q : Value → Shared → Prop} (hu : A.units + 1 < cLine) (X : K.In s.heap) (I : InstAt s.heap x ox C od) (hb : Looks (model prog w) s.heap (typeOf u) tb) (hn : notFirst K C tb = true) (hne : findIn K (.ref C) "__ne__" = some (some (.builtin "object.__ne__")))
    (hob : subIn K (.ref C) (.type "object") = some true) (hs : findIn K (.ref C) "__eq__" = some (some (.ref f))) (hf : isFn K (.ref f) = true)
    (h : wpAny (model prog w) A.in1 (call (.ref f) [.ref x, u]) (fun v s' => ∃ b, v = .bool b ∧ Q (.bool (!b)) s') E s) : wpAny (model prog w) A (richCompare .NotEq (.ref x) u) Q E s := by
  have sub : Looks (model prog w) s.heap (isInstance (.ref x) (.type "object")) true := I.type.andThen (looks_subIn X hob)
  have hu1 : A.in1.units < cLine := hu
  have body : wpAny (model prog w) A.in1 (Builtin.«object.__ne__» ⟨[.ref x, u], []⟩) (GQ.FinOf prog w A (wants (fun v s' => ∃ b, v = .bool (!b) ∧ Q (.bool (!b)) s') E)) (fun e s' => wants (fun v s' => ∃ b, v = .bool (!b) ∧ Q (.bool (!b)) s') E (.error e) s') s := by
    obtain ⟨hp, g, d, t, os⟩ := s
    unfold Builtin.«object.__ne__»
    repeat (first
      | with_reducible refine wpAny_cRoomFor hu1 ?_
      | (refine wpAny_bind (m := callSpecialIfBound? (.ref x) (Str.ofString "__eq__") [u]) (ifBound_K X I hs hf (wpAny_mono h (fun r s' hr => ?_) fun _ _ e => e)))
      | wp_step)
    obtain ⟨b, rfl, hq⟩ := hr
    repeat (first | exact ⟨b, rfl, hq⟩ | exact wpAny_pure ⟨b, rfl, hq⟩ | (refine wpAny_bind (m := truthy (.bool _)) (wpAny_truthy_bool ?_)) | wp_step)
  have one : wpAny (model prog w) A (tryCompare (.ref x) (cmpInfo .NotEq).2.1 u) (fun r s' => ∃ v, r = some v ∧ Q v s') E s := by
    unfold tryCompare
    refine wpAny_bind (boundB X I hne F.slot_object_ne.bind (wpAny_mono (Q := fun v s' => ∃ b, v = .bool (!b) ∧ Q (.bool (!b)) s') ?_ (fun v s' z => ?_) fun _ _ e => e))
    · exact wpAny_call (codeAny_call_builtin F.slot_object_ne.plain F.cmpEntry_ne (@check_slot (model prog w) _ _ s "object.__ne__" "object" "__ne__" (.ref x) [u] [] _ F.cmpKind_ne F.cmpSplit_ne sub (F.cmpArgs_ne _ _) body))
    · obtain ⟨b, rfl, hq⟩ := z
      exact wpAny_pure ⟨_, rfl, hq⟩
  unfold richCompare
  simp only [oneThing_ref]
  refine wpAny_holding (wpAny_bind (wpAny_cRoomFor (Nat.lt_of_succ_lt hu) ?_))
  refine wpAny_bind (I.type.here (wpAny_bind (hb.here ?_)))
  split
  · rename_i q
    have e : subIn K tb (.ref C) = some false := by
      rcases Bool.or_eq_true_iff.mp hn with e | e
      · rw [beq_iff_eq.mp e] at q; simp at q
      · exact beq_iff_eq.mp e
    refine wpAny_bind ((looks_subIn X e).here ?_)
    simp only [Bool.false_eq_true, if_false]
    refine wpAny_bind (wpAny_mono one (fun r s' z => ?_) fun _ _ e => e)
    obtain ⟨v, rfl, hq⟩ := z
    exact wpAny_pure hq
  · refine wpAny_bind (wpAny_pure ?_)
    simp only [Bool.false_eq_true, if_false]
    refine wpAny_bind (wpAny_mono one (fun r s' z => ?_) fun _ _ e => e)
    obtain ⟨v, rfl, hq⟩ := z
    exact wpAny_pure hq
end
end Cmq
namespace Cmq
open PySem L2 PySem.Spec PyProof.Rows
/-- what the written part says of a class with an own __eq__ at f, that answers True or False -/
structure OwnE (K : PySem.W.Frag) (C f : Addr) : Prop where
  eq : PySem.W.findIn K (.ref C) "__eq__" = some (some (.ref f))
  ne : PySem.W.findIn K (.ref C) "__ne__" = some (some (.builtin "object.__ne__"))
  fn : PySem.W.isFn K (.ref f) = true
  ob : PySem.W.subIn K (.ref C) (.type "object") = some true
  nl : PySem.W.subIn K (.ref C) (.type "list") = some false
  nt : PySem.W.subIn K (.ref C) (.type "tuple") = some false
  nd : PySem.W.subIn K (.ref C) (.type "dict") = some false
  nn : PySem.W.subIn K (.ref C) (.type "NoneType") = some false
  ni : PySem.W.subIn K (.ref C) (.type "int") = some false
  ns : PySem.W.subIn K (.ref C) (.type "str") = some false
/-- the own == of the class: a def of the text -/
def Eqr (P : Program) (w : World) (K : PySem.W.Frag) (mg : Str → Option Value) (base : Heap) (k : Nat) (C : Addr) (ps : List Str) (sp : Sp) : Prop :=
  ∃ (f : Addr) (fd : FuncData), OwnE K C f ∧ Binds K fd ps [] ∧ FnOk P w K mg base CX0 k f fd ps sp
/-- the answer of the own == -/
def rOwn (K : PySem.W.Frag) (C : Addr) (sp : Sp) (neg : Bool) (x y : V) (H : Hp) (Q : VK) : Prop := ∃ (a dx : Addr) (fs : List (Str × V)) (t : Value), x = .ref a ∧ H a = some (.ins C dx fs) ∧ TyX K H y t ∧ PySem.W.notFirst K C t = true ∧
  sp [x, y] H (fun v H' => ∃ b, v = .bl b ∧ Q (.bl (if neg then !b else b)) H') E0
/-- what stands on the left: None, an int, a text, a list, a tuple, a dict -/
inductive LeftT (H : Hp) : V → Prop where
  | non : LeftT H .non
  | int (i : Int) : LeftT H (.int i)
  | str (z : Str) : LeftT H (.str z)
  | lst {a : Addr} {xs : List V} (e : H a = some (.lst xs)) : LeftT H (.ref a)
  | tup {a : Addr} {xs : List V} (e : H a = some (.tup xs)) : LeftT H (.ref a)
  | dict {a : Addr} {kvs : List (Key × V)} (e : H a = some (.dK kvs)) : LeftT H (.ref a)
/-- x == o: the own == is asked from the right -/
def rOwnR (C : Addr) (sp : Sp) (x y : V) (H : Hp) (Q : VK) : Prop := ∃ (a dx : Addr) (fs : List (Str × V)), y = .ref a ∧ H a = some (.ins C dx fs) ∧ LeftT H x ∧ sp [y, x] H (fun v H' => ∃ b, v = .bl b ∧ Q (.bl b) H') E0
section
variable {X : Cx} {k : Nat} {C : Addr} {ps : List Str} {sp : Sp}
theorem runIn1 {f : Addr} {fd : FuncData} {pins : List (Addr × Obj)} {σ : L2.St} {H : Hp} {s : Shared} {Q : VK} {us : List Value} {vs : List V} (F : FnOk X.prog X.w X.K X.mg X.base CX0 k f fd ps sp) (hr : Room (k + 1) X.A) (hb : Binds X.K fd ps []) (I : Inv X pins σ H s) (r : Vals vs us) (h : sp vs H Q E0) :
    wpAny (model X.prog X.w) X.A.in1 (call (.ref f) us) (EP X pins σ Q) X.xe s := by
  have b := hb s us I.kIn (by rw [List.append_nil]; exact r.length.symm.trans (F.len _ _ _ _ h))
  rw [List.append_nil] at b
  refine wpAny_call (codeAny_mono (F.run X.A.in1 X.stack s H ⟨us, []⟩ us vs Q E0 hr.in1 I.env0.in1 b r h) fun r s' hq => ?_)
  match r, hq with
  | .error _, z => exact z.elim
  | .ok (.ret u), z => exact I.after z
  | .ok .next, z => exact z.elim
  | .ok .brk, z => exact z.elim
  | .ok .cont, z => exact z.elim
theorem two {a : Addr} {y : V} {v : Value} (ry : RelV y v) : Vals [V.ref a, y] [Value.ref a, v] := .cons (show RelV (.ref a) (.ref a) from rfl) (.cons ry .nil)
theorem opEq (F : Eqr X.prog X.w X.K X.mg X.base k C ps sp) (hr : Room k X.A) : OpR X (compareOp .Eq) (rOwn X.K C sp false) := by
  intro pins s σ H x y u v Q I rx ry h
  obtain ⟨f, fd, T, hb, F⟩ := F
  obtain ⟨a, dx, fs, t, rfl, ha, ty, hn, q⟩ := h
  cases rx
  obtain ⟨mA, J, _⟩ := ins_get I.hok ha
  obtain ⟨od, J, _⟩ := J.look
  obtain ⟨m, hF⟩ := I.fr
  obtain ⟨Pp, Z, pz, _⟩ := kit_of I ry ty
  refine PySem.W.cmp_ofEq (PySem.W.cmp_K (op := .Eq) hr.units0 hF I.ok.mod.kin J (Z.ty _ _ I.kIn pz) hn T.eq T.fn (wpAny_mono (run_fn F hr hb .nil pass0 I (two ry) q) (fun w s' z => ?_) fun _ _ e => e))
  obtain ⟨vv, H', I', rv, b, rfl, z⟩ := z
  cases rv
  exact ⟨.bl b, H', I', rfl, z⟩
theorem opNe (F : Eqr X.prog X.w X.K X.mg X.base k C ps sp) (hr : Room (k + 1) X.A) : OpR X (compareOp .NotEq) (rOwn X.K C sp true) := by
  intro pins s σ H x y u v Q I rx ry h
  obtain ⟨f, fd, T, hb, F⟩ := F
  obtain ⟨a, dx, fs, t, rfl, ha, ty, hn, q⟩ := h
  cases rx
  obtain ⟨mA, J, _⟩ := ins_get I.hok ha
  obtain ⟨od, J, _⟩ := J.look
  obtain ⟨Pp, Z, pz, _⟩ := kit_of I ry ty
  refine PySem.W.cmp_ofNotEq (ne_left (by have := hr.un; omega) I.kIn J (Z.ty _ _ I.kIn pz) hn T.ne T.ob T.eq T.fn (wpAny_mono (runIn1 F hr hb I (two ry) q) (fun w s' z => ?_) fun _ _ e => e))
  obtain ⟨vv, H', I', rv, b, rfl, z⟩ := z
  cases rv
  exact ⟨b, rfl, .bl (!b), H', I', rfl, z⟩
theorem opEqR (G : Eqr X.prog X.w X.K X.mg X.base k C ps sp) (hr : Room k X.A) : OpR X (compareOp .Eq) (rOwnR C sp) := by
  intro pins s σ H x y u v Q I rx ry h
  obtain ⟨f, fd, T, hb, G⟩ := G
  obtain ⟨a, dx, fs, rfl, ha, ty, q⟩ := h
  cases ry
  obtain ⟨mA, J, _⟩ := ins_get I.hok ha
  obtain ⟨od, J, _⟩ := J.look
  have back : wpAny (model X.prog X.w) X.A (call (.ref f) [.ref a, u]) (PySem.W.CmpBack (EP X pins σ Q)) X.xe s := wpAny_mono (run_fn G hr hb .nil pass0 I (two rx) q) (fun w s' z => by
    obtain ⟨vv, H', I', rv, b, rfl, z⟩ := z
    cases rv
    exact ⟨.bl b, H', I', rfl, z⟩) fun _ _ e => e
  have hu : X.A.units < cLine := hr.units0
  refine PySem.W.cmp_ofEq ?_
  cases ty with
  | non => cases rx; exact eq_right hu I.kIn J (fun s' _ => typeIs_none s') T.nn F.slot_NoneType_eq (fun A E Q q => none_declines A E s Q I.kIn J q) rfl T.eq T.fn back
  | int i => obtain ⟨t, rfl⟩ := rx; exact eq_right hu I.kIn J (fun s' _ => typeIs_int s' _ _) T.ni F.slot_int_eq (fun A E Q q => int_declines A E s Q I.kIn J q) rfl T.eq T.fn back
  | str z => obtain ⟨t, rfl⟩ := rx; exact eq_right hu I.kIn J (fun s' _ => typeIs_str s' _ _) T.ns F.slot_str_eq (fun A E Q q => str_declines A E s Q I.kIn J q) rfl T.eq T.fn back
  | @lst b xs e =>
    cases rx
    obtain ⟨_, _, _, _, h1⟩ := (show ObjOk X.prog X.w H s.heap b (.lst xs) from I.hok b _ e)
    exact eq_right hu I.kIn J (fun s' z => ⟨_, by rw [z]; exact h1, rfl⟩) T.nl F.slot_list_eq (fun A E Q q => listAt T.nl A E s Q I.kIn J ⟨_, h1, rfl⟩ q) (PySem.oneThing_ref ..) T.eq T.fn back
  | @tup b xs e =>
    cases rx
    obtain ⟨_, _, _, o, h1, h2, _⟩ := (show ObjOk X.prog X.w H s.heap b (.tup xs) from I.hok b _ e)
    exact eq_right hu I.kIn J (fun s' z => ⟨_, by rw [z]; exact h1, h2⟩) T.nt F.slot_tuple_eq (fun A E Q q => tupAt T.nt A E s Q I.kIn J ⟨_, h1, h2⟩ q) (PySem.oneThing_ref ..) T.eq T.fn back
  | @dict b kvs e =>
    cases rx
    obtain ⟨_, _, _, _, o, _, _, h1, h2, _⟩ := (show ObjOk X.prog X.w H s.heap b (.dK kvs) from I.hok b _ e)
    exact eq_right hu I.kIn J (fun s' z => ⟨_, by rw [z]; exact h1, h2.1⟩) T.nd F.slot_dict_eq (fun A E Q q => dictAt T.nd A E s Q I.kIn J ⟨_, h1, h2.1⟩ q) (PySem.oneThing_ref ..) T.eq T.fn back
end
end Cmq
/-! ## The end of a law whose def is entered with no guard around -/
namespace Rd
open PySem L2 PySem.Spec PyProof.Rows
section
variable {P : Program} {w : World} {K : PySem.W.Frag} {mg mb : Str → Option Value} {k : Nat} {fa a : Addr} {fd : FuncData} {x : Str} {sp : Sp} {s : Shared} {vs : List Value} {ns : List Int}
/-- entered over an abstract heap that tracks the script at most -/
theorem enterG {H : Hp} (KX : K.In s.heap) (hns : s.heap.Ns mainGlobals mg) (hb : s.heap.Ns builtinsNs mb) (hbb : ∀ y : Str, y ≠ "__name__" → mb y = bootBuiltins y) (hlim : s.heap.NoLimit) (hg : s.gens = #[])
    (ha : ∃ o : Obj, s.heap.get? a = some o ∧ ∀ es ep, o.data ≠ .dict es ep) (hr : Room k callerA) (F : ∀ base : Heap, K.In base → base.Ns mainGlobals mg → FnOkG P w K mg base CX0 k fa fd [x] sp) (hbind : ∀ (s : Shared) (u : Value), BindsTo s fd ⟨[u], []⟩ [(x, u)])
    (only : Only H) (at_ : ∀ b, H b ≠ none → b = a ∧ K.lookup a = none) (hok : HOk P w H s.heap) (hsp : sp [.ref a] H (fun v _ => v = .bl true) fun _ _ _ => False) :
    codeAny (model P w) callerA (.call (.ref fa) ⟨[.ref a], []⟩) (fun r s' => r = .ok (.ret (.bool true)) ∧ OldK s.heap s'.heap ∧ s'.os = s.os ∧ AllBare s'.gens) s := by
  obtain ⟨oa, hoa, hnd⟩ := ha
  have clear_of : ∀ {b : Addr} {o : Obj} {es : Array DictEntry} {ep : Nat}, s.heap.get? b = some o → o.data = .dict es ep → H b = none := fun {b o es ep} e1 e2 => by
    cases q : H b with
    | none => rfl
    | some u =>
      obtain ⟨rfl, _⟩ := at_ b (by rw [q]; exact fun z => nomatch z)
      rw [hoa] at e1
      cases e1
      exact absurd e2 (hnd es ep)
  have ns_of : ∀ {b : Addr} {m : Str → Option Value}, s.heap.Ns b m → (hidT s.heap H).Ns b m := fun ⟨o, es, ep, e, d, r⟩ => ⟨o, es, ep, hidT_get e (clear_of e d), d, r⟩
  have kin : K.In (hidT s.heap H) := fun b o e => hidT_get (KX b o e) (by
    cases q : H b with
    | none => rfl
    | some u =>
      obtain ⟨rfl, z⟩ := at_ b (by rw [q]; exact fun z => nomatch z)
      rw [z] at e
      cases e)
  have lim : (hidT s.heap H).NoLimit := let ⟨mc, h1, h2⟩ := hlim; ⟨mc, ns_of h1, h2⟩
  have env : Env0 P w K mg (hidT s.heap H) callerA [] s H :=
    { frames := rfl
      mod := ⟨kin, ns_of hns, ⟨mb, ns_of hb, hbb⟩, lim⟩
      bs := fun b o e => of_hidT e
      bsz := Nat.le_of_eq (hidT_size _ _)
      funs := trivial
      frf := fun b z => nomatch z
      hok := hok
      bare := AllBare.of_eq hg }
  refine codeAny_mono ((F _ kin (ns_of hns)).run callerA [] s H ⟨[.ref a], []⟩ [.ref a] [.ref a] _ _ rfl hr env (hbind s (.ref a)) (.cons rfl .nil) hsp) fun r s' h => ?_
  match r, h with
  | .error _, h => exact h.elim
  | .ok .next, h => exact h.elim
  | .ok .brk, h => exact h.elim
  | .ok .cont, h => exact h.elim
  | .ok (.ret u), h =>
    obtain ⟨v, H', os, bare, un, hok', r', q⟩ := h
    have ev : v = .bl true := q
    subst ev
    cases (show u = Value.bool true from r')
    refine ⟨rfl, OldK.of_keep fun b o e => ?_, os, bare⟩
    rcases only b with z | ⟨ob, xs, z⟩
    · exact un.keep b o e z (fun z => nomatch z) (fun z => nomatch z)
    · have e1 := (hok b _ z).1
      have e2 := (hok' b _ (un.frzs b ob _ z)).1
      rw [e] at e1
      cases e1
      exact e2
theorem callG (KX : K.In s.heap) (hns : s.heap.Ns mainGlobals mg) (hb : s.heap.Ns builtinsNs mb) (hbb : ∀ y : Str, y ≠ "__name__" → mb y = bootBuiltins y) (hlim : s.heap.NoLimit) (hg : s.gens = #[])
    (ha : s.heap.get? a = some { cls := .type "list", data := .seq vs.toArray }) (hi : IntsAre vs ns) (hl : ns.length ≤ sizeLine) (hr : Room k callerA)
    (F : ∀ base : Heap, K.In base → base.Ns mainGlobals mg → FnOkG P w K mg base CX0 k fa fd [x] sp) (hbind : ∀ (s : Shared) (u : Value), BindsTo s fd ⟨[u], []⟩ [(x, u)])
    (hsp : ∀ H : Hp, Only H → SqL K H a (ns.map V.int) → sp [.ref a] H (fun v _ => v = .bl true) fun _ _ _ => False) :
    codeAny (model P w) callerA (.call (.ref fa) ⟨[.ref a], []⟩) (fun r s' => r = .ok (.ret (.bool true)) ∧ OldK s.heap s'.heap ∧ s'.os = s.os ∧ AllBare s'.gens) s := by
  have rv := vals_ints hi
  have len := hi.length
  have plain : ∃ o : Obj, s.heap.get? a = some o ∧ ∀ es ep, o.data ≠ .dict es ep := ⟨_, ha, fun _ _ z => nomatch z⟩
  cases hk : K.lookup a with
  | some o =>
    have e := KX a o hk
    rw [ha] at e
    cases e
    have h0 : Only fun _ => none := fun _ => .inl rfl
    exact enterG KX hns hb hbb hlim hg plain hr F hbind h0 (fun b z => absurd rfl z) (fun b u z => nomatch z) (hsp _ h0 (.inr ⟨_, vs.toArray, _, hk, rfl, rfl, rfl, by rw [List.size_toArray, len]; exact hl, by simpa using rv⟩))
  | none =>
    let scr : HO := .frz { cls := .type "list", data := .seq vs.toArray } (.lst (ns.map V.int))
    let H : Hp := fun b => if b = a then some scr else none
    have yes : H a = some scr := if_pos rfl
    have no : ∀ {b}, b ≠ a → H b = none := fun h => if_neg h
    have h0 : Only H := fun b => if e : b = a then .inr ⟨_, _, e ▸ yes⟩ else .inl (no e)
    refine enterG KX hns hb hbb hlim hg plain hr F hbind h0 (fun b z => ⟨?_, hk⟩) (fun b u z => ?_) (hsp H h0 (.inl (.inr ⟨_, yes⟩)))
    · by_cases e : b = a
      · exact e
      · exact absurd (no e) z
    · by_cases e : b = a
      · subst e
        rw [yes] at z
        cases z
        exact ⟨ha, by rw [List.length_map]; exact hl, vs, _, rv, ha⟩
      · rw [no e] at z
        cases z
end
theorem walkG {l : PySem.W.OpenLaw} {n k : Nat} {q : Program} {loose : List Str} {XP : (Str → Option Value) → Heap → Prop} {YP : World → Heap → Prop} {d : DefRec} {K : Params → PySem.W.Frag} {sp : PySem.W.Frag → Sp} {x : Str} (hn : l.most = some n) (hn2 : n ≤ sizeLine) (hdf : d.params.defaults = [])
    (hr : Room k callerA) (hY : ∀ (w : World) (h : Heap), YP w h → (K w.params).In h)
    (F : ∀ (w : World) (mg : Str → Option Value) (fa : Addr) (h : Heap), (K w.params).In h → h.Ns mainGlobals mg → mg d.name = some (.ref fa) →
      ∃ fd : FuncData, (∀ (s : Shared) (u : Value), BindsTo s fd ⟨[u], []⟩ [(x, u)]) ∧ ∀ base : Heap, (K w.params).In base → base.Ns mainGlobals mg → FnOkG l.prog w (K w.params) mg base CX0 k fa fd [x] (sp (K w.params)))
    (hsp : ∀ (K : PySem.W.Frag) (H : Hp) (a : Addr) (ns : List Int), ns.length ≤ n → SqL K H a (ns.map V.int) → sp K [.ref a] H (fun v _ => v = .bl true) fun _ _ _ => False) :
    PySem.W.WalkO q loose XP YP l.row.toRowW d [] (fun f vs => PySem.call f vs) :=
  Att.attach_call hn hdf fun w s₀ s₁ mg mb fa o pm cd doc a vs ns G Y ho hd hcd hmg hobj hints hlen hg => by
    obtain ⟨fd, hb, hF⟩ := F w mg fa _ (hY w _ Y) G.T.g hmg
    exact callG (hY w _ Y) G.T.g G.T.b G.T.builtins G.T.nolimit hg hobj hints (Nat.le_trans hlen hn2) hr hF hb fun H _ hS => hsp _ H a ns hlen hS
end Rd
/-! ## enumerate over a tuple; over a list or a tuple -/
namespace PySem
open AutoSeq1 (wpAny_loadPart')
/-- the heap behind a new walk with numbers over the tuple at l -/
def enumHp (h : Heap) (l : Addr) : Heap :=
  (h.push { cls := .type "tuple_iterator", data := .fields #[.ref l, .int 0 0] }).push { cls := .type "enumerate", data := .fields #[.none, .bool false, .ref h.objs.size, rawInt 0, .none, .none] }
theorem meets_enumT (l : Addr) (items : Array Value) (ol : Obj) (hc : ol.cls = .type "tuple") (n : Nat) (hd : ol.data = .seq items n) :
    Meets (Builtin.«enumerate.__new__» ⟨[.type "enumerate", .ref l], []⟩) (fun _ R s => s.heap.get? l = some ol ∧
      R (.ok (.ret (.ref (s.heap.push { cls := .type "tuple_iterator", data := .fields #[.ref l, .int 0 0] }).objs.size))) { s with heap := enumHp s.heap l }) :=
  .of_wp fun prog w A R s h => by
    obtain ⟨h0, g, d, tk, os⟩ := s
    obtain ⟨hl, q⟩ := h
    have sb := sub_enumerate
    have hT : Heap.IsTuple (Shared.heap ⟨h0, g, d, tk, os⟩) l items := ⟨_, hl, hc, n, hd⟩
    wp_walk using wpAny_loadPart' hl
    refine wpAny_stack_any fun st => wpAny_pure ?_
    split
    · rename_i c _ _ _ _ _
      cases (c == Value.type "enumerate") <;> (wp_walk using wpAny_loadPart' hl, wpAny_pyIter_tuple hT; exact ⟨_, rfl, q⟩)
    · wp_walk using wpAny_loadPart' hl, wpAny_pyIter_tuple hT
      exact ⟨_, rfl, q⟩
theorem call_enumT {prog : Program} {w : World} {A : Around} {E : Value → Shared → Prop} {s : Shared} {l : Addr} {items : Array Value} {Q : Value → Shared → Prop} (hT : s.heap.IsTuple l items)
    (q : ∀ h1, IsEnum h1 (s.heap.objs.size + 1) s.heap.objs.size 0 .none → h1.IsTupleIter s.heap.objs.size l 0 → (∀ b o, s.heap.get? b = some o → h1.get? b = some o) → Q (.ref (s.heap.objs.size + 1)) { s with heap := h1 }) :
    wpAny (model prog w) A (call (.type "enumerate") [.ref l]) Q E s := by
  obtain ⟨ol, hl, hc, n, hd⟩ := hT
  refine callType_new F.called_enumerate (by decide) (F.typeCall_enumerate_1 _) (F.newCall_enumerate_1 _) (fun obj => F.args_object_init_2 obj _) F.entry_enumerate_new (meets_enumT l items ol hc n hd) ⟨hl, ?_⟩
  have z : (s.heap.push { cls := .type "tuple_iterator", data := .fields #[.ref l, .int 0 0] }).objs.size = s.heap.objs.size + 1 := Heap.size_push ..
  show _ ∧ _
  rw [z]
  have he : IsEnum (enumHp s.heap l) (s.heap.objs.size + 1) s.heap.objs.size 0 .none := by
    have y := Heap.get?_push_size (s.heap.push { cls := .type "tuple_iterator", data := .fields #[.ref l, .int 0 0] }) (o := { cls := .type "enumerate", data := .fields #[.none, .bool false, .ref s.heap.objs.size, rawInt 0, .none, .none] }) rfl
    rw [z] at y
    exact y
  exact ⟨⟨_, he, rfl⟩, q _ he ⟨_, Heap.get?_push_of_some _ (Heap.get?_push_size _ rfl), rfl, rfl⟩ fun b o x => Heap.get?_push_of_some _ (Heap.get?_push_of_some _ x)⟩
theorem enumT_end {prog : Program} {w : World} {A : Around} {E : Value → Shared → Prop} {s : Shared} {e it l : Addr} {i : Nat} {items : Array Value} {old : Value} {Q : Option Value → Shared → Prop} (hh : A.handled = none)
    (he : IsEnum s.heap e it i old) (hit : s.heap.IsTupleIter it l i) (hl : s.heap.IsTuple l items) (hx : items[i]? = none) (hQ : ∀ h', Heap.ExtBut it s.heap h' → Q none { s with heap := h' }) : wpAny (model prog w) A (pyNext (.ref e)) Q E s := by
  have hT : s.TypeIs (.ref e) "enumerate" := ⟨_, he, rfl⟩
  unfold pyNext
  refine wpAny_bind (wpAny_attempt (wpAny_callSpecial?_slot (name := Str.ofString "__next__") hT F.slot_enumerate_next (wpAny_call_entry F.slot_enumerate_next hT F.entry_enumerate_next ?_ (F.args_enumerate_next_1 _))))
  show wpAny _ _ (field (.ref e) 2 >>= _) _ _ _
  refine wpAny_bind (wpAny_field he rfl (x := .ref it) rfl (wpAny_bind (wpAny_nextOf_tuple_end hh hit hl hx fun h' x he' hx' => ?_)))
  obtain ⟨o, ho, hc⟩ := hx'
  exact wpAny_bind (wpAny_isInstance (T := "StopIteration") (b := true) ⟨o, ho, hc⟩ isSubtype_stop (wpAny_pure (hQ _ he')))
end PySem
namespace Rd
open PySem L2 PySem.Spec PyProof.Rows
/-- the tuple at a, each item in a new pair with its number -/
def IteT (K : PySem.W.Frag) (a : Addr) : It :=
  ⟨fun i H => ∃ (xs : List V) (x : V), SqT K H a xs ∧ xs[i]? = some x, fun i H v H' => ∃ T x, v = .ref T ∧ H T = none ∧ H' = upd H T (.tup [.int (i : Nat), x]) ∧ ∀ xs, SqT K H a xs → xs[i]? = some x, fun i H => ∃ xs : List V, SqT K H a xs ∧ xs.length ≤ i⟩
theorem turn_enumT {P : Program} {w : World} {K : PySem.W.Frag} {elts : List Expr} {kk : Nat} {tpos : Pos} (a e it : Addr) :
    Turn P w K (.Tuple elts kk tpos) (IteT K a) [e, it] e (fun i h => (∃ old, IsEnum h e it ((i : Nat) : Int) old) ∧ h.IsTupleIter it a i ∧ e ≠ it ∧ e ≠ a ∧ a ≠ it) where
  mem := by simp
  obj := fun i h st b hb => by
    obtain ⟨⟨old, he⟩, ⟨o, ho, hc, hd⟩, _, _, _⟩ := st
    rcases (by simpa using hb : b = e ∨ b = it) with z | z
    · rw [z]
      exact ⟨_, he, fun v q => nomatch q⟩
    · rw [z]
      exact ⟨o, ho, fun v q => by rw [hd] at q; cases q⟩
  keep := fun i h h' st k => by
    obtain ⟨⟨old, he⟩, hi, n1, n2, n3⟩ := st
    exact ⟨⟨old, k e (by simp) _ he⟩, hi.at (fun o q => k it (by simp) o q), n1, n2, n3⟩
  item := by
    intro X hP hw hK hc i pins s σ H E I hf st hg
    subst hP hw hK
    obtain ⟨⟨old, he⟩, hit, hne, hea, hai⟩ := st
    obtain ⟨xs, x, hq, hx⟩ := hg
    obtain ⟨its, rv, p, hz⟩ := I.tuple hq
    obtain ⟨u, hu, ru⟩ := rv.get hx
    have pT : s.heap.IsTuple a its.toArray := p
    have hel : e < s.heap.objs.size := Heap.lt_size he
    have hil : it < s.heap.objs.size := by
      obtain ⟨_, q, _⟩ := hit
      exact Heap.lt_size q
    have hlt : i < its.toArray.size := by
      rw [List.size_toArray]
      exact (List.getElem?_eq_some_iff.mp hu).1
    refine wpAny_pyNext_enum_itemD (Draws.tuple (A := X.A.in1) (I.ok.hd hc) it a hai its.toArray) he ⟨hit, pT⟩ hlt hne (by simp [hne, hea]) fun y h' tk hy ho st' hT hsz hk => ?_
    have ey : y = u := by
      have e1 : its.toArray[i]? = some y := hy
      rw [List.getElem?_toArray, hu] at e1
      exact (Option.some.inj e1).symm
    subst ey
    refine ⟨_, rfl, wpAny_letOwnedTupleGo_enum (s := { s with heap := h', toks := tk + 1 }) ho fun h2 he2 sb => ?_⟩
    have hT2 : h2.get? s.heap.objs.size = some { cls := .type "tuple", data := .seq #[.int i tk, y] } := (sb.2 _ (Nat.ne_of_gt hel)).trans hT
    have new : ObjOk X.prog X.w (upd H s.heap.objs.size (.tup [.int (i : Nat), x])) h2 s.heap.objs.size (.tup [.int (i : Nat), x]) :=
      ⟨by show 2 ≤ sizeLine; decide, [.int i tk, y], .cons ⟨_, rfl⟩ (.cons ru .nil), ⟨_, hT2, rfl, _, rfl⟩⟩
    have I1 : Inv X pins σ (upd H s.heap.objs.size (.tup [.int (i : Nat), x])) { s with heap := h2, toks := tk + 1 } :=
      I.turnedNew (ch := [e, it]) (fun b ob hb q => (sb.2 b fun z => hb (by simp [z])).trans (hk b ob (fun z => hb (by simp [z])) (fun z => hb (by simp [z])) q)) hf (Nat.le_refl _) new
    refine ⟨.ref s.heap.objs.size, _, I1, rfl, ⟨_, x, rfl, I.hok.fresh (Nat.le_refl _), rfl, fun ys hy => by rw [I.tuple_inj hy hq]; exact hx⟩, ⟨⟨y, ?_⟩, st'.1.at fun o q => (sb.2 it (Ne.symm hne)).trans q, hne, hea, hai⟩, fun b hb => ?_⟩
    · rw [show ((i + 1 : Nat) : Int) = (i : Int) + 1 by omega]
      exact he2
    · have hb2 : b < s.heap.objs.size := by
        rcases (by simpa using hb : b = e ∨ b = it) with z | z
        · rw [z]; exact hel
        · rw [z]; exact hil
      rw [upd_ne (Nat.ne_of_lt hb2)]
      exact (hf b hb).1
  done := by
    intro X hP hw hK hc i pins s σ H E I hf st hg
    subst hP hw hK
    obtain ⟨⟨old, he⟩, hit, hne, hea, hai⟩ := st
    obtain ⟨xs, hq, hx⟩ := hg
    obtain ⟨its, rv, p, hz⟩ := I.tuple hq
    have pT : s.heap.IsTuple a its.toArray := p
    obtain ⟨f0, f1, f2, f3, f4, f5⟩ := hf it (by simp)
    have hl := rv.length
    refine enumT_end (I.ok.hd hc) he hit pT (by simp; omega) fun h' eb => ⟨rfl, I.turned (t' := s.toks) (fun b o hb q => eb b o hb q) f0 f1 f3 f4 f5⟩
  self := fun A i s Q E st h => let ⟨⟨_, he⟩, _⟩ := st; wpAny_pyIter_enum he h
/-- enumerate(e), e a list or a tuple -/
def iEnA (K : PySem.W.Frag) (ta : TA) : L2.St → Hp → (It → Hp → Prop) → Prop := fun σ H R => ta σ H fun vs H1 => ∃ a, vs = [.ref a] ∧ ((∃ xs, SqL K H1 a xs ∧ R (Ite K a) H1) ∨ ∃ xs, SqT K H1 a xs ∧ R (IteT K a) H1)
theorem pi_enumA {X : Cx} {e : Expr} {ta : TA} {p pos tpos : Pos} {elts : List Expr} {kk : Nat} (hg : Gl X "enumerate") (hm : X.mg "enumerate" = none) (ha : PA X [e] ta) (hs : starEach [e] X.env = [(false, eval e X.env)] := by rfl) :
    PI X (.Tuple elts kk tpos) (.Call (.Name "enumerate" p) [e] [] pos) (iEnA X.K ta) := by
  refine ⟨fun pins s σ H R I h => Call_ (ld_blt I hg hm boot_enumerate (PyProof.Rows.callWith_type1 (thn (ha.run pos pins s σ H _ I h) fun us s1 ⟨vs, H1, I1, r1, a, ex, q1⟩ => ?_) hs rfl))⟩
  subst ex
  obtain ⟨u, rfl, ru⟩ := vals1 r1
  cases ru
  have fp : ∀ b ∈ [s1.heap.objs.size + 1, s1.heap.objs.size], FpOk X pins H1 b := fun b hb => by
    have hle : s1.heap.objs.size ≤ b := by
      rcases (by simpa using hb : b = s1.heap.objs.size + 1 ∨ b = s1.heap.objs.size) with z | z <;> omega
    exact I1.fpOk hle (I1.hok.fresh hle)
  rcases q1 with ⟨xs, hq, q⟩ | ⟨xs, hq, q⟩
  · obtain ⟨its, rv, p1, hz⟩ := I1.list hq
    exact call_enumerate_list p1.isList fun h' he hit hsz hk => wpAny_pyIter_enum he ⟨s1.heap.objs.size + 1, [s1.heap.objs.size + 1, s1.heap.objs.size], _, _, H1, rfl, I1.kept (t' := s1.toks) hk, turn_enum a _ _, ⟨⟨.none, he⟩, hit, Nat.succ_ne_self _⟩, fp, q⟩
  · obtain ⟨its, rv, p1, hz⟩ := I1.tuple hq
    have pT : s1.heap.IsTuple a its.toArray := p1
    have la : a < s1.heap.objs.size := by
      obtain ⟨_, y, _⟩ := pT
      exact Heap.lt_size y
    exact call_enumT pT fun h' he hit hk => wpAny_pyIter_enum he ⟨s1.heap.objs.size + 1, [s1.heap.objs.size + 1, s1.heap.objs.size], _, _, H1, rfl, I1.kept (t' := s1.toks) hk, turn_enumT a _ _, ⟨⟨.none, he⟩, hit, Nat.succ_ne_self _, Nat.ne_of_gt (Nat.lt_succ_of_lt la), Nat.ne_of_lt la⟩, fp, q⟩
/-- a list or a tuple -/
def SqA (K : PySem.W.Frag) (H : Hp) (a : Addr) (xs : List V) : Prop := SqL K H a xs ∨ SqT K H a xs
theorem SqA.same {K : PySem.W.Frag} {H H' : Hp} {a : Addr} {xs : List V} (h : SqA K H a xs) (s : Same H H') : SqA K H' a xs := h.imp (fun q => s.seq q) fun q => SqT.ext q s
theorem ienA {K : PySem.W.Frag} {ta : TA} {σ : L2.St} {H : Hp} {R : It → Hp → Prop} (q : ta σ H fun vs H1 => ∃ a, vs = [.ref a] ∧ ((∃ xs, SqL K H1 a xs ∧ R (Ite K a) H1) ∨ ∃ xs, SqT K H1 a xs ∧ R (IteT K a) H1)) : iEnA K ta σ H R := q
theorem walk_enumT {K : PySem.W.Frag} {a : Addr} {xs : List V} : Walk (IteT K a) xs.length (fun H => SqT K H a xs) (YPair (fun i => some (.int (i : Nat))) (fun i => xs[i]?)) := by
  refine ⟨fun i _ hi q => ⟨xs, xs[i], q, by simp [hi]⟩, fun _ q => ⟨xs, q, Nat.le_refl _⟩, fun i H v H' _ q y => ?_⟩
  obtain ⟨T, x, h1, h2, h3, h4⟩ := y
  exact ⟨T, _, x, h1, h2, h3, rfl, h4 xs q⟩
theorem forEnumA {K : PySem.W.Frag} {a : Addr} {xs : List V} {g : TG} {tb : TS} {D : Ends} {σ : L2.St} {H0 H : Hp} (hS : SqA K H0 a xs) (sH : Same H0 H) (Pv : Nat → L2.St → Hp → Prop) (h0 : Pv 0 σ H)
    (hk : ∀ i σ H1, i ≤ xs.length → Pv i σ H1 → Same H0 H1)
    (hs : ∀ i x σ H T, i < xs.length → xs[i]? = some x → Pv i σ H → H T = none → g (.ref T) σ (upd H T (.tup [.int (i : Int), x])) fun σ2 H2 => tb { D with nx := Pv (i + 1), ct := Pv (i + 1), bk := D.nx } σ2 H2) (hd : ∀ σ H, Pv xs.length σ H → D.nx σ H) :
    ∃ a', ([V.ref a] : List V) = [.ref a'] ∧ ((∃ ys, SqL K H a' ys ∧ forW (Ite K a') g tb D σ H) ∨ ∃ ys, SqT K H a' ys ∧ forW (IteT K a') g tb D σ H) := by
  refine ⟨a, rfl, ?_⟩
  rcases hS with q | q
  · exact .inl ⟨xs, sH.seq q, for_it walk_enum Pv h0 (fun i σ H1 hi p => (hk i σ H1 hi p).seq q) (fun i x σ H H' hi p y => by obtain ⟨T, x', y', rfl, hT, rfl, e1, e2⟩ := y; cases e1; exact hs i y' σ H T hi e2 p hT) hd⟩
  · exact .inr ⟨xs, SqT.ext q sH, for_it walk_enumT Pv h0 (fun i σ H1 hi p => SqT.ext q (hk i σ H1 hi p)) (fun i x σ H H' hi p y => by obtain ⟨T, x', y', rfl, hT, rfl, e1, e2⟩ := y; cases e1; exact hs i y' σ H T hi e2 p hT) hd⟩
end Rd
local macro_rules | `(tactic| walk_at "cd") => `(tactic| first | decide | omega | (with_unfolding_all exact Or.inl ⟨by omega, by omega⟩) | (with_unfolding_all exact Or.inr ⟨by omega, by omega⟩) | (with_unfolding_all exact ⟨by decide, by decide⟩) | (with_unfolding_all exact ⟨by omega, by omega⟩) | (with_unfolding_all exact ⟨by omega, by omega, by omega⟩) | (show (0 : Int) < _; omega) | (show (0 : Int) ≤ _; omega) | (with_unfolding_all exact ⟨by decide, by decide, by decide⟩))
local macro_rules | `(tactic| walk_at "rd") => `(tactic| with_reducible first
  | refine Rd.var (by with_unfolding_all rfl) ?_ | refine Rd.c ?_ | refine Rd.op ?_ | refine Rd.un ?_ | refine Rd.rI0_ ?_ | refine Rd.rU_ ?_
  | refine Rd.cb ?_ | refine Rd.nil ?_ | refine Rd.cons ?_ | refine Rd.int1 ?_ | refine Rd.lst ?_ | refine Rd.tup ?_ | refine Rd.test ?_ | refine Rd.tb ?_ | refine Rd.bl ?_
  | refine Rd.ifE ?_ | refine Rd.asg ?_ | refine Rd.name ?_ | refine Rd.gsub ?_ | refine Rd.seq ?_ | refine Rd.nxt ?_ | refine Rd.ret ?_ | refine Rd.drop ?_ | refine Rd.ifs ?_
  | refine Rd.dget ?_ | refine Rd.dput ?_ | refine Rd.call ?_ | refine Rd.tnot ?_ | refine Rd.tand ?_ | refine Rd.tor ?_
  | refine Rd.tfor ?_ | refine Rd.tlc ?_ | refine Rd.tlc2 ?_ | refine Rd.ilist ?_ | refine Rd.itup ?_ | refine Rd.irng1 ?_ | refine Rd.irng2 ?_ | refine Rd.ienum ?_ | refine Rd.ienA ?_ | refine Rd.izip ?_ | refine Rd.pair2n (by with_unfolding_all rfl) ?_ | refine Rd.yes ?_ | refine Rd.fld ?_ | refine Rd.setF ?_ | refine Rd.make ?_ | refine Rd.ifNT ?_ | refine Rd.ifNF ?_ | refine Rd.chain ?_ | refine Rd.chainE ?_ | refine Rd.andV ?_ | refine Rd.andVE ?_ | refine Rd.listRg ?_ | refine Rd.rg1 ?_ | refine Rd.rg1E ?_ | refine Exv.mk ?_ | refine Exv.fld ?_ | refine Rd.eqI ?_ | refine Rd.neI ?_ | refine Rd.eqS ?_ | refine Rd.neS ?_ | refine Rd.eqB ?_ | refine Rd.neB ?_ | refine Rd.disp ?_ | refine Rd.pnil ?_ | refine Rd.pcons ?_ | refine Rd.ift ?_ | refine Rd.iff_ ?_
  | (refine Rd.rI_ ?rdc ?_; (case rdc => with_unfolding_all walk_at "cd")))
local macro_rules | `(tactic| walk_at "go") => `(tactic| (repeat walk_at "rd"))
/-- what stands at an address behind new objects -/
local macro_rules | `(tactic| walk_at "hp") => `(tactic| first | assumption | exact L2.upd_same | (refine Rd.get_up ?_ (by assumption); walk_at "hp") | (refine Rd.get_ne (by assumption) ?_; walk_at "hp"))
/-- all that was tracked is as it was, behind new objects -/
local macro_rules | `(tactic| walk_at "sm") => `(tactic| first | assumption | exact L2.Same.refl _ | (refine Rd.sameN ?_ (by assumption); walk_at "sm"))
namespace Bb
open PySem L2
def top (i : Nat) : Stmt := PySem.Challenge.pw_behindbeside_k78_exceptions_of_both_part.main.body.getD i (.Pass ⟨0, 0, 0, 0⟩)
abbrev sMixed : Stmt := top 26
abbrev sFolded : Stmt := top 27
abbrev sDraw : Stmt := top 28
abbrev sBegun : Stmt := top 29
section
variable {P : Program} {w : World} {K : PySem.W.Frag} {mg : Str → Option Value} {base : Heap}
theorem scMixed : FnScope ["cell", "n", "blend"] ["cell", "n"] (defScope sMixed) := ⟨rfl, rfl, rfl, by decide +kernel, rfl, by decide +kernel, by decide +kernel⟩
def spMixed : Sp := fun vs H Q _ => ∃ c n : Int, vs = [.int c, .int n] ∧ (0 ≤ c ∧ c < 1099511627776) ∧ (0 ≤ n ∧ n < 1048576) ∧ ∀ r : Int, 0 ≤ r → r < 2147483648 → Q (.int r) H
theorem ok_mixed {f : Addr} {fd : FuncData} (F : Fun K "_law_mixed" "_law_mixed" sMixed f fd) (t_int : mg "int" = none) : FnOk P w K mg base CX0 1 f fd ["cell", "n"] spMixed := by
  refine F.ok scMixed (fun vs H Q E h => ?_) (fun cdv A outer s H vs Q E hr h => ?_)
  · obtain ⟨c, n, rfl, _⟩ := h
    rfl
  · obtain ⟨c, n, rfl, ⟨hc0, hc1⟩, ⟨hn0, hn1⟩, k⟩ := h
    refine ⟨_, 
      (pss_cons (ps_set (i := 2) scMixed.nd rfl (Or.inl rfl) (pe_op op_add (pe_op op_add (pe_op op_mod (pe_callTy Rd.call_intI (by rfl) t_int (by decide +kernel) (pa_cons (pe_op op_mul (pe_op op_mul (pv 0) (pe_op op_add pe_int (pe_op op_mul pe_int (pv 1)))) pe_int) pa_nil)) pe_int) (pe_op op_mul (pe_op op_mul pe_int (pv 1)) (pv 1))) (pe_op op_mul pe_int (pv 1))))
      (pss_one (ps_ret (pe_op op_fdiv (pe_op op_mod (pe_callTy Rd.call_intI (by rfl) t_int (by decide +kernel) (pa_cons (pe_op op_mul (pv 2) pe_int) pa_nil)) pe_int) pe_int)))), ?_⟩
    walk_at "go"
    exact k _ (by omega) (by omega)
/-- the cells: 64 ints below 2^31 - 1 -/
def Cells (cs : List Int) : Prop := cs.length = 64 ∧ ∀ c ∈ cs, 0 ≤ c ∧ c < 2147483647
theorem Cells.set {cs : List Int} (h : Cells cs) (j : Nat) {z : Int} (h0 : 0 ≤ z) (h1 : z < 2147483647) : Cells (cs.set j z) :=
  ⟨by rw [List.length_set]; exact h.1, fun c hc => (List.mem_or_eq_of_mem_set hc).elim (h.2 c) fun e => by subst e; exact ⟨h0, h1⟩⟩
theorem Cells.get {cs : List Int} (h : Cells cs) {j : Nat} (hj : j < 64) : ∃ z, (cs.map V.int)[j]? = some (V.int z) ∧ 0 ≤ z ∧ z < 2147483647 := by
  have hl : j < cs.length := by rw [h.1]; exact hj
  exact ⟨cs[j], by rw [List.getElem?_map, List.getElem?_eq_getElem hl]; rfl, h.2 _ (List.getElem_mem hl)⟩
theorem map_set (cs : List Int) (j : Nat) (z : Int) : (cs.map V.int).set j (.int z) = (cs.set j z).map V.int := by rw [List.map_set]
theorem ixN_nat {n j : Nat} {i : Int} (hi : i = (j : Int)) (h : j < n) : ixN n i = some j := by
  unfold ixN
  rw [if_pos (by omega), if_pos (by omega)]
  congr 1
  omega
theorem scFolded : FnScope ["script", "found", "n", "cell"] ["script"] (defScope sFolded) := ⟨rfl, rfl, rfl, by decide +kernel, rfl, by decide +kernel, by decide +kernel⟩
def spFolded (K : PySem.W.Frag) : Sp := fun vs H Q _ => ∃ (a : Addr) (ns : List Int), vs = [.ref a] ∧ SqL K H a (ns.map V.int) ∧ ns.length ≤ 63 ∧ ∀ (H' : Hp) (p : Addr) (cs : List Int), Same H H' → H p = none → H' p = some (.lst (cs.map V.int)) → Cells cs → Q (.ref p) H'
theorem same_up {H H' : Hp} {p : Addr} {o : HO} (h : Same H H') (hp : H p = none) : Same H (upd H' p o) := fun b u e => (upd_ne (ne_of_none e hp)).trans (h b u e)
theorem same_new {H H' : Hp} {p : Addr} {o : HO} (h : Same H H') (hp : H' p = none) : Same H (upd H' p o) := same_up h (h.free hp)
theorem ok_folded {f : Addr} {fd : FuncData} (F : Fun K "_law_folded" "_law_folded" sFolded f fd) (t_int : mg "int" = none) (t_range : mg "range" = none) (t_enumerate : mg "enumerate" = none) : FnOk P w K mg base CX0 1 f fd ["script"] (spFolded K) := by
  refine F.ok scFolded (fun vs H Q E h => ?_) (fun cdv A outer s H vs Q E hr h => ?_)
  · obtain ⟨a, ns, rfl, _⟩ := h
    rfl
  · obtain ⟨a, ns, rfl, hS, hlen, k⟩ := h
    refine ⟨_, 
      (pss_cons (ps_setLc (i := 1) (own := [("n", 2)]) (g := gName 2) (tt := tYes) rfl scFolded.nd rfl rfl (sw_true rfl rfl rfl (by decide +kernel)) (pi_range1 (by rfl) t_range (pa_cons pe_int pa_nil)) (blkOk_by (own := [("n", 2)]) (N := ["script", "found", "n", "cell"]) (sc := defScope sFolded) (by decide +kernel)) (fun _ _ _ _ _ => (pg_name (i := 2) scFolded.nd rfl (Or.inl rfl))) (fun _ _ _ _ _ => pts_nil) (fun _ _ _ _ _ => (pe_op op_add pe_int (pv 2))))
      (pss_cons (ps_for PassesOwn.never rfl (pi_enum (by rfl) t_enumerate (pa_cons (pv 0) pa_nil)) (pg_tup rfl (pgs_cons (pg_name (i := 2) scFolded.nd rfl (Or.inl rfl)) (pgs_cons (pg_name (i := 3) scFolded.nd rfl (Or.inl rfl)) pgs_nil))) 
        (pss_one (ps_asg (pe_op op_mod (pe_callTy Rd.call_intI (by rfl) t_int (by decide +kernel) (pa_cons (pe_op op_add (pe_op op_mul (pe_ix (r := rIxL K) (by exact ix_list) (pv 1) (pe_op op_mod (pe_callTy Rd.call_intI (by rfl) t_int (by decide +kernel) (pa_cons (pv 2) pa_nil)) pe_int) (fun _ _ => rfl)) pe_int) (pv 3)) pa_nil)) pe_int) (pg_sub (pv 1) (pe_op op_mod (pe_callTy Rd.call_intI (by rfl) t_int (by decide +kernel) (pa_cons (pv 2) pa_nil)) pe_int) set_list))))
      (pss_cons (ps_for PassesOwn.never rfl (pi_range2 (by rfl) t_range (pa_cons pe_int (pa_cons pe_int pa_nil))) (pg_name (i := 2) scFolded.nd rfl (Or.inl rfl)) 
        (pss_one (ps_asg (pe_op op_mod (pe_callTy Rd.call_intI (by rfl) t_int (by decide +kernel) (pa_cons (pe_op op_add (pe_ix (r := rIxL K) (by exact ix_list) (pv 1) (pv 2) (fun _ _ => rfl)) (pe_op op_mul (pe_ix (r := rIxL K) (by exact ix_list) (pv 1) (pe_op op_sub (pv 2) pe_int) (fun _ _ => rfl)) pe_int)) pa_nil)) pe_int) (pg_sub (pv 1) (pv 2) set_list))))
      (pss_one (ps_ret (pv 1)))))), ?_⟩
    walk_at "go"
    refine Rd.lcRng1 64 rfl (by decide) fun D hD => ⟨fun i H' => ∃ cs : List Int, H' = upd H D (.lst (cs.map V.int)) ∧ cs.length = i ∧ ∀ c ∈ cs, 0 ≤ c ∧ c < 2147483647, ⟨[], rfl, rfl, fun c hc => by cases hc⟩, ?_, ?_⟩
    · rintro i H' hi ⟨cs, rfl, hl, hb⟩
      walk_at "go"
      refine ⟨rfl, ?_⟩
      walk_at "go"
      refine Rd.item upd_same (by rw [List.length_map, sizeLine_eq]; omega) ⟨cs ++ [17 + (i : Int)], ?_, by rw [List.length_append, hl]; rfl, fun c hc => ?_⟩
      · rw [upd_upd, List.map_append]
        rfl
      · rcases List.mem_append.mp hc with q | q
        · exact hb c q
        · rw [List.mem_singleton.mp q]
          omega
    · rintro H' ⟨cs, rfl, hl, hb⟩
      have hC : Cells cs := ⟨hl, hb⟩
      walk_at "go"
      refine Rd.forEnum (hS.elim (fun h => by first | exact .inl (h.imp (fun q => Rd.get_up q hD) fun ⟨o, q⟩ => ⟨o, Rd.get_up q hD⟩)) .inr)
        (fun _ σ H' => ∃ (cs : List Int) (v2 v3 : Option V), σ = [some (.ref a), some (.ref D), v2, v3] ∧ Same H H' ∧ H' D = some (.lst (cs.map V.int)) ∧ Cells cs) ⟨cs, none, none, rfl, same_new (Same.refl H) hD, upd_same, hC⟩ (fun i σ H' _ h => ?_) ?_ ?_
      · obtain ⟨_, _, _, _, s0, _⟩ := h
        exact s0.seq hS
      · rintro i x σ H' T hi hx ⟨cs, v2, v3, rfl, s0, hL, hC⟩ hT
        obtain ⟨z, rfl⟩ : ∃ z, x = V.int z := by
          rw [List.getElem?_map] at hx
          cases e : ns[i]? with
          | none => rw [e] at hx; cases hx
          | some z => rw [e] at hx; exact ⟨z, (Option.some.inj hx).symm⟩
        have hi63 : i < 63 := by rw [List.length_map] at hi; omega
        walk_at "go"
        obtain ⟨c, hc, hc0, hc1⟩ := hC.get (j := i % 64) (Nat.mod_lt _ (by decide))
        refine Rd.ixL (i := (i : Int) % 64) (SqL.of (Rd.get_up hL hT)) (at_of (j := i % 64) (by omega) hc) ?_
        walk_at "go"
        refine Rd.setL (i % 64) (Rd.get_up hL hT) (ixN_nat (by omega) (by rw [List.length_map, hC.1]; omega)) ?_
        rw [map_set]
        exact ⟨_, _, _, rfl, same_up (same_new s0 hT) hD, upd_same, hC.set _ (by omega) (by omega)⟩
      · rintro σ H' ⟨cs, v2, v3, rfl, s0, hL, hC⟩
        walk_at "go"
        refine Rd.forRng2 63 rfl ⟨by decide, by decide, by decide, by decide⟩ (fun _ σ H' => ∃ (cs : List Int) (v2 v3 : Option V), σ = [some (.ref a), some (.ref D), v2, v3] ∧ Same H H' ∧ H' D = some (.lst (cs.map V.int)) ∧ Cells cs) ⟨cs, v2, v3, rfl, s0, hL, hC⟩ ?_ ?_
        · rintro i σ H' hi ⟨cs, v2, v3, rfl, s0, hL, hC⟩
          walk_at "go"
          obtain ⟨c, hc, hc0, hc1⟩ := hC.get (j := i + 1) (by omega)
          obtain ⟨c', hc', hc0', hc1'⟩ := hC.get (j := i) (by omega)
          refine Rd.ixL (SqL.of hL) (at_of (j := i + 1) (by omega) hc) ?_
          walk_at "go"
          refine Rd.ixL (SqL.of hL) (at_of (j := i) (by omega) hc') ?_
          walk_at "go"
          refine Rd.setL (i + 1) hL (ixN_nat (by omega) (by rw [List.length_map, hC.1]; omega)) ?_
          rw [map_set]
          exact ⟨_, _, _, rfl, same_up s0 hD, upd_same, hC.set _ (by omega) (by omega)⟩
        · rintro σ H' ⟨cs, v2, v3, rfl, s0, hL, hC⟩
          walk_at "go"
          exact k H' D cs s0 hD hL hC
end
end Bb
namespace Bb
open PySem L2
section
variable {P : Program} {w : World} {K : PySem.W.Frag} {mg : Str → Option Value} {base : Heap}
/-- the dict of the draws -/
def mD (x y z : V) : List (Key × V) := [(Sum.inr ("cells" : Str), x), (Sum.inr ("great" : Str), y), (Sum.inr ("spot" : Str), z)]
/-- the state of the draws: the dict at d, its list of great cells at g, its cells at c; n draws at most so far -/
structure MS (H : Hp) (d g : Addr) (N : Nat) : Prop where
  st : ∃ (c : Addr) (cs gs : List Int) (n : Nat), H d = some (.dK (mD (.ref c) (.ref g) (.int n))) ∧ H c = some (.lst (cs.map V.int)) ∧ H g = some (.lst (gs.map V.int)) ∧ Cells cs ∧ n ≤ N ∧ d ≠ g ∧ d ≠ c ∧ g ≠ c ∧ gs.length ≤ 63
/-- all but the draws' own state is as it was -/
def Kp (d g : Addr) (H H' : Hp) : Prop := ∀ b o, b ≠ d → b ≠ g → H b = some o → H' b = some o
theorem Kp.refl {d g : Addr} {H : Hp} : Kp d g H H := fun _ _ _ _ h => h
theorem Kp.trans {d g : Addr} {H H1 H2 : Hp} (a : Kp d g H H1) (b : Kp d g H1 H2) : Kp d g H H2 := fun c o h1 h2 h => b c o h1 h2 (a c o h1 h2 h)
theorem Kp.new {d g p : Addr} {o : HO} {H H' : Hp} (a : Kp d g H H') (hp : H' p = none) : Kp d g H (upd H' p o) := fun c u h1 h2 h => Rd.get_up (a c u h1 h2 h) hp
theorem Kp.own {d g p : Addr} {o : HO} {H H' : Hp} (a : Kp d g H H') (hp : p = d ∨ p = g) : Kp d g H (upd H' p o) := fun c u h1 h2 h => (upd_ne (fun z => hp.elim (fun e => h1 (z.trans e)) fun e => h2 (z.trans e))).trans (a c u h1 h2 h)
theorem Kp.same {d g : Addr} {H H' : Hp} (a : Same H H') : Kp d g H H' := fun b o _ _ h => a b o h
theorem MS.same {H H' : Hp} {d g : Addr} {N : Nat} (m : MS H d g N) (s : Same H H') : MS H' d g N := by
  obtain ⟨c, cs, gs, n, h1, h2, h3, h4⟩ := m
  exact ⟨c, cs, gs, n, s _ _ h1, s _ _ h2, s _ _ h3, h4⟩
theorem same1 {H : Hp} {p : Addr} {o : HO} (hp : H p = none) : Same H (upd H p o) := fun b u e => Rd.get_up e hp
theorem MS.mono {H : Hp} {d g : Addr} {N M : Nat} (m : MS H d g N) (h : N ≤ M) : MS H d g M := by
  obtain ⟨c, cs, gs, n, h1, h2, h3, h4, h5, h6⟩ := m
  exact ⟨c, cs, gs, n, h1, h2, h3, h4, Nat.le_trans h5 h, h6⟩
theorem scDraw : FnScope ["m", "limit", "n", "lot", "here", "cell"] ["m", "limit"] (defScope sDraw) := ⟨rfl, rfl, rfl, by decide +kernel, rfl, by decide +kernel, by decide +kernel⟩
def spDraw : Sp := fun vs H Q _ => ∃ (d g : Addr) (N : Nat) (lim : Int), vs = [.ref d, .int lim] ∧ MS H d g N ∧ N < 1000000 ∧ (0 < lim ∧ lim < 1000000000) ∧ ∀ (H' : Hp) (r : Int), Kp d g H H' → MS H' d g (N + 1) → 0 ≤ r → r < lim → Q (.int r) H'
theorem ok_draw {f : Addr} {fd : FuncData} (F : Fun K "_law_draw" "_law_draw" sDraw f fd) (t_int : mg "int" = none) (t_len : mg "len" = none) (c__law_mixed : Rd.Callee P w K mg base CX0 1 "_law_mixed" ["cell", "n"] spMixed) : FnOk P w K mg base CX0 2 f fd ["m", "limit"] spDraw := by
  refine F.ok scDraw (fun vs H Q E h => ?_) (fun cdv A outer s H vs Q E hr h => ?_)
  · obtain ⟨d, g, N, lim, rfl, _⟩ := h
    rfl
  · obtain ⟨d, g, N, lim, rfl, ⟨c, cs, gs, n, hd, hc, hg, hC, hn, dg, dc, gc, hgl⟩, hN, ⟨hl0, hl1⟩, k⟩ := h
    refine ⟨_, 
      (pss_cons (ps_set (i := 2) scDraw.nd rfl (Or.inl rfl) (pe_dget (hu_of hr) (pv 0) pe_str (fun _ _ => rfl)))
      (pss_cons (ps_dput (hu_of hr) (pv 0) pe_str (pe_op op_add (pv 2) pe_int) rfl)
      (pss_cons (ps_if (pt_cmpR (op_neD (Rd.hu64 hr)) (pe_dget (hu_of hr) (pv 0) pe_str (fun _ _ => rfl)) (pe_lst pa_nil) (nomark _)) 
        (pss_cons (ps_set (i := 3) scDraw.nd rfl (Or.inl rfl) (pe_dget (hu_of hr) (pv 0) pe_str (fun _ _ => rfl)))
        (pss_cons (ps_set (i := 4) scDraw.nd rfl (Or.inl rfl) (pe_op op_mod (pe_callTy Rd.call_intI (by rfl) t_int (by decide +kernel) (pa_cons (pv 2) pa_nil)) (pe_callB Rd.call_lenS (by rfl) t_len (by decide +kernel) (pa_cons (pv 3) pa_nil))))
        (pss_cons (ps_set (i := 5) scDraw.nd rfl (Or.inl rfl) (pe_ix (r := rIxL K) (by exact ix_list) (pv 3) (pv 4) (fun _ _ => rfl)))
        (pss_one (ps_if (pt_cmpR op_gt (pv 5) pe_int (nomark _)) 
          (pss_cons (ps_asg (pe_op op_fdiv (pv 5) (pv 1)) (pg_sub (pv 3) (pv 4) set_list))
          (pss_one (ps_ret (pe_op op_mod (pe_callTy Rd.call_intI (by rfl) t_int (by decide +kernel) (pa_cons (pv 5) pa_nil)) (pv 1))))) pss_nil))))) pss_nil)
      (pss_cons (ps_set (i := 3) scDraw.nd rfl (Or.inl rfl) (pe_dget (hu_of hr) (pv 0) pe_str (fun _ _ => rfl)))
      (pss_one (ps_ret (pe_op op_mod (pe_callTy Rd.call_intI (by rfl) t_int (by decide +kernel) (pa_cons (Rd.pe_callC c__law_mixed (hr.mono (by decide)) (pa_cons (Rd.pe_callC c__law_mixed (hr.mono (by decide)) (pa_cons (pe_op op_add (pe_ix (r := rIxL K) (by exact ix_list) (pv 3) (pe_op op_mod (pe_callTy Rd.call_intI (by rfl) t_int (by decide +kernel) (pa_cons (pv 2) pa_nil)) pe_int) (fun _ _ => rfl)) (pe_op op_mul pe_int (pe_op op_fdiv (pv 2) pe_int))) (pa_cons (pv 2) pa_nil))) (pa_cons (pe_op op_add (pv 2) pe_int) pa_nil))) pa_nil)) (pv 1)))))))), ?_⟩
    have k1 : ∀ x y z : V, valV (mD x y z) (Sum.inr ("cells" : Str) : Key) = some x := fun _ _ _ => rfl
    have k2 : ∀ x y z : V, valV (mD x y z) (Sum.inr ("great" : Str) : Key) = some y := fun _ _ _ => rfl
    have k3 : ∀ x y z : V, valV (mD x y z) (Sum.inr ("spot" : Str) : Key) = some z := fun _ _ _ => rfl
    have k4 : ∀ x y z u : V, putK (mD x y z) (Sum.inr ("spot" : Str) : Key) u = mD x y u := fun _ _ _ _ => rfl
    walk_at "go"
    refine Rd.dgS hd (k3 _ _ _) ?_
    walk_at "go"
    refine Rd.dpS hd (show 3 < 1000 by decide) ?_
    rw [k4]
    have hd1 : upd H d (.dK (mD (.ref c) (.ref g) (.int ((n : Int) + 1)))) d = _ := upd_same
    generalize eH : upd H d (.dK (mD (.ref c) (.ref g) (.int ((n : Int) + 1)))) = H1 at hd1 ⊢
    have kp1 : Kp d g H H1 := by rw [← eH]; exact Kp.refl.own (.inl rfl)
    have hc1 : H1 c = some (.lst (cs.map V.int)) := by rw [← eH]; exact (upd_ne dc.symm).trans hc
    have hg1 : H1 g = some (.lst (gs.map V.int)) := by rw [← eH]; exact (upd_ne dg.symm).trans hg
    clear eH
    walk_at "go"
    refine Rd.dgS hd1 (k2 _ _ _) ?_
    walk_at "go"
    refine ⟨Nat.zero_le _, fun q hq => ?_⟩
    refine ⟨_, _, Rd.dpInts (SqL.of (Rd.get_up hg1 hq)), .lst (SqL.of upd_same) .nil, Rd.shInts gs, by decide +kernel, ?_⟩
    rw [Rd.eqvNil]
    generalize eH : upd H1 q (.lst []) = H2
    have sm : Same H1 H2 := by rw [← eH]; exact same1 hq
    have hd2 := sm _ _ hd1
    have hc2 := sm _ _ hc1
    have hg2 := sm _ _ hg1
    have kp2 : Kp d g H H2 := kp1.trans (Kp.same sm)
    clear eH hd1 hc1 hg1 sm hq kp1 hd hc hg
    walk_at "go"
    refine Rd.ifN (fun hgs => ?_) fun hgs => ?_
    · walk_at "go"
      refine Rd.dgS hd2 (k2 _ _ _) ?_
      walk_at "go"
      have hpos : 0 < gs.length := by
        cases gs with
        | nil => cases hgs
        | cons _ _ => exact Nat.succ_pos _
      refine ⟨g, _, rfl, .inl (SqL.of hg2), ?_⟩
      rw [List.length_map]
      walk_at "go"
      have hj : n % gs.length < gs.length := Nat.mod_lt _ hpos
      have ej : (n : Int) % (gs.length : Int) = ((n % gs.length : Nat) : Int) := (Int.natCast_emod _ _).symm
      have hat : (gs.map V.int)[n % gs.length]? = some (V.int gs[n % gs.length]) := by rw [List.getElem?_map, List.getElem?_eq_getElem hj]; rfl
      refine Rd.ixL (SqL.of hg2) (at_of ej hat) ?_
      walk_at "go"
      refine Rd.ifD (fun hz => ?_) fun hz => ?_
      · walk_at "go"
        refine Rd.setL (n % gs.length) hg2 (ixN_nat ej (by rw [List.length_map]; exact hj)) ?_
        rw [map_set]
        walk_at "go"
        refine k _ _ (kp2.own (.inr rfl)) ⟨c, cs, gs.set _ _, n + 1, (upd_ne dg).trans hd2, (upd_ne gc.symm).trans hc2, upd_same, hC, by omega, dg, dc, gc, by rw [List.length_set]; exact hgl⟩ (Int.emod_nonneg _ (by omega)) (Int.emod_lt_of_pos _ hl0)
      · walk_at "go"
        refine Rd.dgS hd2 (k1 _ _ _) ?_
        walk_at "go"
        obtain ⟨z, hz, hz0, hz1⟩ := hC.get (j := n % 64) (Nat.mod_lt _ (by decide))
        refine Rd.ixL (i := (n : Int) % 64) (SqL.of hc2) (at_of (j := n % 64) (by omega) hz) ?_
        walk_at "go"
        refine ⟨_, _, rfl, ⟨by omega, by omega⟩, ⟨by omega, by omega⟩, fun r1 h1 h2 => ?_⟩
        walk_at "go"
        refine ⟨_, _, rfl, ⟨by omega, by omega⟩, ⟨by omega, by omega⟩, fun r2 h3 h4 => ?_⟩
        walk_at "go"
        exact k _ _ kp2 ⟨c, cs, gs, n + 1, hd2, hc2, hg2, hC, by omega, dg, dc, gc, hgl⟩ (Int.emod_nonneg _ (by omega)) (Int.emod_lt_of_pos _ hl0)
    · walk_at "go"
      refine Rd.dgS hd2 (k1 _ _ _) ?_
      walk_at "go"
      obtain ⟨z, hz, hz0, hz1⟩ := hC.get (j := n % 64) (Nat.mod_lt _ (by decide))
      refine Rd.ixL (i := (n : Int) % 64) (SqL.of hc2) (at_of (j := n % 64) (by omega) hz) ?_
      walk_at "go"
      refine ⟨_, _, rfl, ⟨by omega, by omega⟩, ⟨by omega, by omega⟩, fun r1 h1 h2 => ?_⟩
      walk_at "go"
      refine ⟨_, _, rfl, ⟨by omega, by omega⟩, ⟨by omega, by omega⟩, fun r2 h3 h4 => ?_⟩
      walk_at "go"
      exact k _ _ kp2 ⟨c, cs, gs, n + 1, hd2, hc2, hg2, hC, by omega, dg, dc, gc, hgl⟩ (Int.emod_nonneg _ (by omega)) (Int.emod_lt_of_pos _ hl0)
theorem scBegun : FnScope ["script", "m", "cell"] ["script"] (defScope sBegun) := ⟨rfl, rfl, rfl, by decide +kernel, rfl, by decide +kernel, by decide +kernel⟩
def spBegun (K : PySem.W.Frag) : Sp := fun vs H Q _ => ∃ (a : Addr) (ns : List Int), vs = [.ref a] ∧ SqL K H a (ns.map V.int) ∧ ns.length ≤ 63 ∧ ∀ (H' : Hp) (d g : Addr), Same H H' → H d = none → H g = none → MS H' d g 0 → Q (.ref d) H'
theorem ok_begun {f : Addr} {fd : FuncData} (F : Fun K "_law_begun" "_law_begun" sBegun f fd) (c__law_folded : Rd.Callee P w K mg base CX0 1 "_law_folded" ["script"] (spFolded K)) : FnOk P w K mg base CX0 2 f fd ["script"] (spBegun K) := by
  refine F.ok scBegun (fun vs H Q E h => ?_) (fun cdv A outer s H vs Q E hr h => ?_)
  · obtain ⟨a, ns, rfl, _⟩ := h
    rfl
  · obtain ⟨a, ns, rfl, hS, hlen, k⟩ := h
    refine ⟨_, 
      (pss_cons (ps_set (i := 1) scBegun.nd rfl (Or.inl rfl) (pe_disp (pps_cons pe_str (Rd.pe_callC c__law_folded (hr.mono (by decide)) (pa_cons (pv 0) pa_nil)) (pps_cons pe_str (pe_lst pa_nil) (pps_cons pe_str pe_int pps_nil))) (by rfl) (by rfl) (fun z => by cases z) (by decide)))
      (pss_cons (ps_dput (hu_of hr) (pv 1) pe_str (pe_lc (own := [("cell", 2)]) (g := gName 2) (tt := tYes) rfl scBegun.nd (pi_list (pv 0)) (blkOk_by (own := [("cell", 2)]) (N := ["script", "m", "cell"]) (sc := defScope sBegun) (by decide +kernel)) (fun _ _ _ _ _ => (pg_name (i := 2) scBegun.nd rfl (Or.inl rfl))) (fun _ _ _ _ _ => pts_nil) (fun _ _ _ _ _ => (pe_ifExp (pt_cmpR op_ge (pv 2) (pe_op op_pow pe_int pe_int) (nomark _)) (pv 2) pe_int))) rfl)
      (pss_one (ps_ret (pv 1))))), ?_⟩
    walk_at "go"
    intro d hd
    walk_at "go"
    refine ⟨a, ns, rfl, (same1 hd).seq hS, hlen, fun H1 c cs s1 hc0 hc hC => ?_⟩
    walk_at "go"
    refine ⟨Nat.zero_le _, fun g0 hg0 => ?_⟩
    walk_at "go"
    have hd1 : upd H1 g0 (.lst []) d = some (.dK []) := Rd.get_up (s1 _ _ upd_same) hg0
    refine ⟨hd1, [(Sum.inr ("cells" : Str), .ref c), (Sum.inr ("great" : Str), .ref g0), (Sum.inr ("spot" : Str), .int 0)], rfl, (show 3 ≤ 15 by decide), ?_⟩
    have em : mergeK [] [((Sum.inr ("cells" : Str) : Key), V.ref c), (Sum.inr ("great" : Str), .ref g0), (Sum.inr ("spot" : Str), .int 0)] = mD (.ref c) (.ref g0) (.int 0) := rfl
    rw [em]
    generalize eH : upd (upd H1 g0 (.lst [])) d (.dK (mD (.ref c) (.ref g0) (.int 0))) = H2
    have s2 : Same H H2 := by rw [← eH]; exact same_up (same_new ((same1 hd).trans s1) hg0) hd
    have dc : d ≠ c := fun z => by rw [← z, upd_same] at hc0; cases hc0
    have hd2 : H2 d = some (.dK (mD (.ref c) (.ref g0) (.int 0))) := by rw [← eH]; exact upd_same
    have hc2 : H2 c = some (.lst (cs.map V.int)) := by rw [← eH]; exact (upd_ne dc.symm).trans (Rd.get_up hc hg0)
    walk_at "go"
    refine Rd.lcList (s2.seq hS) fun D hD => ⟨fun i H' => ∃ gs : List Int, H' = upd H2 D (.lst (gs.map V.int)) ∧ gs.length = i, ⟨[], rfl, rfl⟩, ?_, ?_, ?_⟩
    · rintro i H' hi ⟨gs, rfl, _⟩
      exact (same_new s2 hD).seq hS
    · rintro i x H' hi hx ⟨gs, rfl, hl⟩
      obtain ⟨z, rfl⟩ : ∃ z, x = V.int z := by
        rw [List.getElem?_map] at hx
        cases e : ns[i]? with
        | none => rw [e] at hx; cases hx
        | some z => rw [e] at hx; exact ⟨z, (Option.some.inj hx).symm⟩
      rw [List.length_map] at hi
      walk_at "go"
      refine ⟨rfl, ?_⟩
      walk_at "go"
      have fin : ∀ y : Int, Rd.itemEnd D (fun H' => ∃ gs : List Int, H' = upd H2 D (.lst (gs.map V.int)) ∧ gs.length = i + 1) (.int y) (upd H2 D (.lst (gs.map V.int))) := fun y =>
        Rd.item upd_same (by rw [List.length_map, sizeLine_eq]; omega) ⟨gs ++ [y], by rw [upd_upd, List.map_append]; rfl, by rw [List.length_append, hl]; rfl⟩
      refine Rd.ifD (fun _ => ?_) fun _ => ?_
      · walk_at "go"
        exact fin _
      · walk_at "go"
        exact fin _
    · rintro H' ⟨gs, rfl, hl⟩
      have nDd : D ≠ d := fun z => by rw [z, hd2] at hD; cases hD
      have nDc : D ≠ c := fun z => by rw [z, hc2] at hD; cases hD
      walk_at "go"
      refine Rd.dpS (Rd.get_up hd2 hD) (show 3 < 1000 by decide) ?_
      have ep : putK (mD (.ref c) (.ref g0) (.int 0)) (Sum.inr ("great" : Str) : Key) (V.ref D) = mD (.ref c) (.ref D) (.int 0) := rfl
      rw [ep]
      walk_at "go"
      rw [List.length_map] at hl
      exact k _ d D (same_up (same_new s2 hD) hd) hd (s2.free hD) ⟨c, cs, gs, 0, upd_same, (upd_ne dc.symm).trans (Rd.get_up hc2 hD), (upd_ne nDd).trans upd_same, hC, Nat.le_refl _, nDd.symm, dc, nDc, by omega⟩
end
end Bb
namespace Bb
open PySem L2
section
variable {P : Program} {w : World} {K : PySem.W.Frag} {mg : Str → Option Value} {base : Heap}
abbrev sIBadPairs : Stmt := inClass (top 3) 0
theorem scsIBadPairs : FnScope ["self", "place"] ["self", "place"] (defScope sIBadPairs) := ⟨rfl, rfl, rfl, by decide +kernel, rfl, by decide +kernel, by decide +kernel⟩
theorem ok_BadPairs {f C : Addr} {fd : FuncData} (F : Fun K "__init__" "BadPairs.__init__" sIBadPairs f fd) (T : Exv.EC K C "ValueError" "ValueError.__new__" "ValueError.__init__" Exv.veMro) (hf : PySem.W.takerIn K C "place" = some none) {CT : Addr} (gT : mg "TaskError" = some (.ref CT)) (sT : PySem.W.specialIn K (.ref CT) "__getattribute__" = some (some (.builtin "type.__getattribute__"))) (rT : PySem.W.readsIn K CT (.type "type") = true) (vT : PySem.W.findCls K (.ref CT) (.type "type") "__init__" = some (.val (.builtin "ValueError.__init__"))) :
    FnOk P w K mg base CX0 1 f fd ["self", "place"] (Exv.spXI C "place") := by
  refine F.ok scsIBadPairs (fun vs H Q E h => ?_) (fun cdv A outer s H vs Q E hr h => ?_)
  · obtain ⟨a, v, rfl, _⟩ := h
    rfl
  · obtain ⟨a, v, rfl, ha, k⟩ := h
    refine ⟨_, pss_cons (ps_expr (Exv.pe_xinit (B := "ValueError") (newId := "ValueError.__new__") (initId := "ValueError.__init__") (bmB := Exv.veMro) (by rfl) gT sT rT vT (pa_cons (pv 0) (pa_cons pe_str pa_nil)))) (pss_one (Exv.ps_xset (B := "ValueError") (newId := "ValueError.__new__") (initId := "ValueError.__init__") (bmB := Exv.veMro) (pv 0) (pv 1))), ?_⟩
    exact ⟨_, rfl, a, C, [.str _], rfl, (by decide : 1 ≤ 1000), T, ha, _, rfl, _, rfl, a, C, rfl, T, hf, ha, k⟩
abbrev sIBadTerm : Stmt := inClass (top 4) 0
theorem scsIBadTerm : FnScope ["self", "value"] ["self", "value"] (defScope sIBadTerm) := ⟨rfl, rfl, rfl, by decide +kernel, rfl, by decide +kernel, by decide +kernel⟩
theorem ok_BadTerm {f C : Addr} {fd : FuncData} (F : Fun K "__init__" "BadTerm.__init__" sIBadTerm f fd) (T : Exv.EC K C "ValueError" "ValueError.__new__" "ValueError.__init__" Exv.veMro) (hf : PySem.W.takerIn K C "value" = some none) {CT : Addr} (gT : mg "TaskError" = some (.ref CT)) (sT : PySem.W.specialIn K (.ref CT) "__getattribute__" = some (some (.builtin "type.__getattribute__"))) (rT : PySem.W.readsIn K CT (.type "type") = true) (vT : PySem.W.findCls K (.ref CT) (.type "type") "__init__" = some (.val (.builtin "ValueError.__init__"))) :
    FnOk P w K mg base CX0 1 f fd ["self", "value"] (Exv.spXI C "value") := by
  refine F.ok scsIBadTerm (fun vs H Q E h => ?_) (fun cdv A outer s H vs Q E hr h => ?_)
  · obtain ⟨a, v, rfl, _⟩ := h
    rfl
  · obtain ⟨a, v, rfl, ha, k⟩ := h
    refine ⟨_, pss_cons (ps_expr (Exv.pe_xinit (B := "ValueError") (newId := "ValueError.__new__") (initId := "ValueError.__init__") (bmB := Exv.veMro) (by rfl) gT sT rT vT (pa_cons (pv 0) (pa_cons pe_str pa_nil)))) (pss_one (Exv.ps_xset (B := "ValueError") (newId := "ValueError.__new__") (initId := "ValueError.__init__") (bmB := Exv.veMro) (pv 0) (pv 1))), ?_⟩
    exact ⟨_, rfl, a, C, [.str _], rfl, (by decide : 1 ≤ 1000), T, ha, _, rfl, _, rfl, a, C, rfl, T, hf, ha, k⟩
abbrev sIBadNumber : Stmt := inClass (top 5) 0
theorem scsIBadNumber : FnScope ["self", "value"] ["self", "value"] (defScope sIBadNumber) := ⟨rfl, rfl, rfl, by decide +kernel, rfl, by decide +kernel, by decide +kernel⟩
theorem ok_BadNumber {f C : Addr} {fd : FuncData} (F : Fun K "__init__" "BadNumber.__init__" sIBadNumber f fd) (T : Exv.EC K C "ValueError" "ValueError.__new__" "ValueError.__init__" Exv.veMro) (hf : PySem.W.takerIn K C "value" = some none) {CT : Addr} (gT : mg "TaskError" = some (.ref CT)) (sT : PySem.W.specialIn K (.ref CT) "__getattribute__" = some (some (.builtin "type.__getattribute__"))) (rT : PySem.W.readsIn K CT (.type "type") = true) (vT : PySem.W.findCls K (.ref CT) (.type "type") "__init__" = some (.val (.builtin "ValueError.__init__"))) :
    FnOk P w K mg base CX0 1 f fd ["self", "value"] (Exv.spXI C "value") := by
  refine F.ok scsIBadNumber (fun vs H Q E h => ?_) (fun cdv A outer s H vs Q E hr h => ?_)
  · obtain ⟨a, v, rfl, _⟩ := h
    rfl
  · obtain ⟨a, v, rfl, ha, k⟩ := h
    refine ⟨_, pss_cons (ps_expr (Exv.pe_xinit (B := "ValueError") (newId := "ValueError.__new__") (initId := "ValueError.__init__") (bmB := Exv.veMro) (by rfl) gT sT rT vT (pa_cons (pv 0) (pa_cons pe_str pa_nil)))) (pss_one (Exv.ps_xset (B := "ValueError") (newId := "ValueError.__new__") (initId := "ValueError.__init__") (bmB := Exv.veMro) (pv 0) (pv 1))), ?_⟩
    exact ⟨_, rfl, a, C, [.str _], rfl, (by decide : 1 ≤ 1000), T, ha, _, rfl, _, rfl, a, C, rfl, T, hf, ha, k⟩
abbrev sIBadExchange : Stmt := inClass (top 6) 0
theorem scsIBadExchange : FnScope ["self", "place"] ["self", "place"] (defScope sIBadExchange) := ⟨rfl, rfl, rfl, by decide +kernel, rfl, by decide +kernel, by decide +kernel⟩
theorem ok_BadExchange {f C : Addr} {fd : FuncData} (F : Fun K "__init__" "BadExchange.__init__" sIBadExchange f fd) (T : Exv.EC K C "ValueError" "ValueError.__new__" "ValueError.__init__" Exv.veMro) (hf : PySem.W.takerIn K C "place" = some none) {CT : Addr} (gT : mg "TaskError" = some (.ref CT)) (sT : PySem.W.specialIn K (.ref CT) "__getattribute__" = some (some (.builtin "type.__getattribute__"))) (rT : PySem.W.readsIn K CT (.type "type") = true) (vT : PySem.W.findCls K (.ref CT) (.type "type") "__init__" = some (.val (.builtin "ValueError.__init__"))) :
    FnOk P w K mg base CX0 1 f fd ["self", "place"] (Exv.spXI C "place") := by
  refine F.ok scsIBadExchange (fun vs H Q E h => ?_) (fun cdv A outer s H vs Q E hr h => ?_)
  · obtain ⟨a, v, rfl, _⟩ := h
    rfl
  · obtain ⟨a, v, rfl, ha, k⟩ := h
    refine ⟨_, pss_cons (ps_expr (Exv.pe_xinit (B := "ValueError") (newId := "ValueError.__new__") (initId := "ValueError.__init__") (bmB := Exv.veMro) (by rfl) gT sT rT vT (pa_cons (pv 0) (pa_cons pe_str pa_nil)))) (pss_one (Exv.ps_xset (B := "ValueError") (newId := "ValueError.__new__") (initId := "ValueError.__init__") (bmB := Exv.veMro) (pv 0) (pv 1))), ?_⟩
    exact ⟨_, rfl, a, C, [.str _], rfl, (by decide : 1 ≤ 1000), T, ha, _, rfl, _, rfl, a, C, rfl, T, hf, ha, k⟩
abbrev sINoTerm : Stmt := inClass (top 7) 0
theorem scsINoTerm : FnScope ["self", "four"] ["self", "four"] (defScope sINoTerm) := ⟨rfl, rfl, rfl, by decide +kernel, rfl, by decide +kernel, by decide +kernel⟩
theorem ok_NoTerm {f C : Addr} {fd : FuncData} (F : Fun K "__init__" "NoTerm.__init__" sINoTerm f fd) (T : Exv.EC K C "ValueError" "ValueError.__new__" "ValueError.__init__" Exv.veMro) (hf : PySem.W.takerIn K C "four" = some none) {CT : Addr} (gT : mg "TaskError" = some (.ref CT)) (sT : PySem.W.specialIn K (.ref CT) "__getattribute__" = some (some (.builtin "type.__getattribute__"))) (rT : PySem.W.readsIn K CT (.type "type") = true) (vT : PySem.W.findCls K (.ref CT) (.type "type") "__init__" = some (.val (.builtin "ValueError.__init__"))) :
    FnOk P w K mg base CX0 1 f fd ["self", "four"] (Exv.spXI C "four") := by
  refine F.ok scsINoTerm (fun vs H Q E h => ?_) (fun cdv A outer s H vs Q E hr h => ?_)
  · obtain ⟨a, v, rfl, _⟩ := h
    rfl
  · obtain ⟨a, v, rfl, ha, k⟩ := h
    refine ⟨_, pss_cons (ps_expr (Exv.pe_xinit (B := "ValueError") (newId := "ValueError.__new__") (initId := "ValueError.__init__") (bmB := Exv.veMro) (by rfl) gT sT rT vT (pa_cons (pv 0) (pa_cons pe_str pa_nil)))) (pss_one (Exv.ps_xset (B := "ValueError") (newId := "ValueError.__new__") (initId := "ValueError.__init__") (bmB := Exv.veMro) (pv 0) (pv 1))), ?_⟩
    exact ⟨_, rfl, a, C, [.str _], rfl, (by decide : 1 ≤ 1000), T, ha, _, rfl, _, rfl, a, C, rfl, T, hf, ha, k⟩
abbrev sILacks : Stmt := inClass (top 9) 0
theorem scsILacks : FnScope ["self", "pair"] ["self", "pair"] (defScope sILacks) := ⟨rfl, rfl, rfl, by decide +kernel, rfl, by decide +kernel, by decide +kernel⟩
theorem ok_Lacks {f C : Addr} {fd : FuncData} (F : Fun K "__init__" "Lacks.__init__" sILacks f fd) (T : Exv.EC K C "ValueError" "ValueError.__new__" "ValueError.__init__" Exv.veMro) (hf : PySem.W.takerIn K C "pair" = some none) {CT : Addr} (gT : mg "TaskError" = some (.ref CT)) (sT : PySem.W.specialIn K (.ref CT) "__getattribute__" = some (some (.builtin "type.__getattribute__"))) (rT : PySem.W.readsIn K CT (.type "type") = true) (vT : PySem.W.findCls K (.ref CT) (.type "type") "__init__" = some (.val (.builtin "ValueError.__init__"))) :
    FnOk P w K mg base CX0 1 f fd ["self", "pair"] (Exv.spXI C "pair") := by
  refine F.ok scsILacks (fun vs H Q E h => ?_) (fun cdv A outer s H vs Q E hr h => ?_)
  · obtain ⟨a, v, rfl, _⟩ := h
    rfl
  · obtain ⟨a, v, rfl, ha, k⟩ := h
    refine ⟨_, pss_cons (ps_expr (Exv.pe_xinit (B := "ValueError") (newId := "ValueError.__new__") (initId := "ValueError.__init__") (bmB := Exv.veMro) (by rfl) gT sT rT vT (pa_cons (pv 0) (pa_cons pe_str pa_nil)))) (pss_one (Exv.ps_xset (B := "ValueError") (newId := "ValueError.__new__") (initId := "ValueError.__init__") (bmB := Exv.veMro) (pv 0) (pv 1))), ?_⟩
    exact ⟨_, rfl, a, C, [.str _], rfl, (by decide : 1 ≤ 1000), T, ha, _, rfl, _, rfl, a, C, rfl, T, hf, ha, k⟩
abbrev sIBadRun : Stmt := inClass (top 10) 0
theorem scsIBadRun : FnScope ["self", "place"] ["self", "place"] (defScope sIBadRun) := ⟨rfl, rfl, rfl, by decide +kernel, rfl, by decide +kernel, by decide +kernel⟩
theorem ok_BadRun {f C : Addr} {fd : FuncData} (F : Fun K "__init__" "BadRun.__init__" sIBadRun f fd) (T : Exv.EC K C "ValueError" "ValueError.__new__" "ValueError.__init__" Exv.veMro) (hf : PySem.W.takerIn K C "place" = some none) {CT : Addr} (gT : mg "TaskError" = some (.ref CT)) (sT : PySem.W.specialIn K (.ref CT) "__getattribute__" = some (some (.builtin "type.__getattribute__"))) (rT : PySem.W.readsIn K CT (.type "type") = true) (vT : PySem.W.findCls K (.ref CT) (.type "type") "__init__" = some (.val (.builtin "ValueError.__init__"))) :
    FnOk P w K mg base CX0 1 f fd ["self", "place"] (Exv.spXI C "place") := by
  refine F.ok scsIBadRun (fun vs H Q E h => ?_) (fun cdv A outer s H vs Q E hr h => ?_)
  · obtain ⟨a, v, rfl, _⟩ := h
    rfl
  · obtain ⟨a, v, rfl, ha, k⟩ := h
    refine ⟨_, pss_cons (ps_expr (Exv.pe_xinit (B := "ValueError") (newId := "ValueError.__new__") (initId := "ValueError.__init__") (bmB := Exv.veMro) (by rfl) gT sT rT vT (pa_cons (pv 0) (pa_cons pe_str pa_nil)))) (pss_one (Exv.ps_xset (B := "ValueError") (newId := "ValueError.__new__") (initId := "ValueError.__init__") (bmB := Exv.veMro) (pv 0) (pv 1))), ?_⟩
    exact ⟨_, rfl, a, C, [.str _], rfl, (by decide : 1 ≤ 1000), T, ha, _, rfl, _, rfl, a, C, rfl, T, hf, ha, k⟩
abbrev sIBadRuns : Stmt := inClass (top 11) 0
theorem scsIBadRuns : FnScope ["self", "value"] ["self", "value"] (defScope sIBadRuns) := ⟨rfl, rfl, rfl, by decide +kernel, rfl, by decide +kernel, by decide +kernel⟩
theorem ok_BadRuns {f C : Addr} {fd : FuncData} (F : Fun K "__init__" "BadRuns.__init__" sIBadRuns f fd) (T : Exv.EC K C "ValueError" "ValueError.__new__" "ValueError.__init__" Exv.veMro) (hf : PySem.W.takerIn K C "value" = some none) {CT : Addr} (gT : mg "TaskError" = some (.ref CT)) (sT : PySem.W.specialIn K (.ref CT) "__getattribute__" = some (some (.builtin "type.__getattribute__"))) (rT : PySem.W.readsIn K CT (.type "type") = true) (vT : PySem.W.findCls K (.ref CT) (.type "type") "__init__" = some (.val (.builtin "ValueError.__init__"))) :
    FnOk P w K mg base CX0 1 f fd ["self", "value"] (Exv.spXI C "value") := by
  refine F.ok scsIBadRuns (fun vs H Q E h => ?_) (fun cdv A outer s H vs Q E hr h => ?_)
  · obtain ⟨a, v, rfl, _⟩ := h
    rfl
  · obtain ⟨a, v, rfl, ha, k⟩ := h
    refine ⟨_, pss_cons (ps_expr (Exv.pe_xinit (B := "ValueError") (newId := "ValueError.__new__") (initId := "ValueError.__init__") (bmB := Exv.veMro) (by rfl) gT sT rT vT (pa_cons (pv 0) (pa_cons pe_str pa_nil)))) (pss_one (Exv.ps_xset (B := "ValueError") (newId := "ValueError.__new__") (initId := "ValueError.__init__") (bmB := Exv.veMro) (pv 0) (pv 1))), ?_⟩
    exact ⟨_, rfl, a, C, [.str _], rfl, (by decide : 1 ≤ 1000), T, ha, _, rfl, _, rfl, a, C, rfl, T, hf, ha, k⟩
abbrev sIBadText : Stmt := inClass (top 12) 0
theorem scsIBadText : FnScope ["self", "place"] ["self", "place"] (defScope sIBadText) := ⟨rfl, rfl, rfl, by decide +kernel, rfl, by decide +kernel, by decide +kernel⟩
theorem ok_BadText {f C : Addr} {fd : FuncData} (F : Fun K "__init__" "BadText.__init__" sIBadText f fd) (T : Exv.EC K C "ValueError" "ValueError.__new__" "ValueError.__init__" Exv.veMro) (hf : PySem.W.takerIn K C "place" = some none) {CT : Addr} (gT : mg "TaskError" = some (.ref CT)) (sT : PySem.W.specialIn K (.ref CT) "__getattribute__" = some (some (.builtin "type.__getattribute__"))) (rT : PySem.W.readsIn K CT (.type "type") = true) (vT : PySem.W.findCls K (.ref CT) (.type "type") "__init__" = some (.val (.builtin "ValueError.__init__"))) :
    FnOk P w K mg base CX0 1 f fd ["self", "place"] (Exv.spXI C "place") := by
  refine F.ok scsIBadText (fun vs H Q E h => ?_) (fun cdv A outer s H vs Q E hr h => ?_)
  · obtain ⟨a, v, rfl, _⟩ := h
    rfl
  · obtain ⟨a, v, rfl, ha, k⟩ := h
    refine ⟨_, pss_cons (ps_expr (Exv.pe_xinit (B := "ValueError") (newId := "ValueError.__new__") (initId := "ValueError.__init__") (bmB := Exv.veMro) (by rfl) gT sT rT vT (pa_cons (pv 0) (pa_cons pe_str pa_nil)))) (pss_one (Exv.ps_xset (B := "ValueError") (newId := "ValueError.__new__") (initId := "ValueError.__init__") (bmB := Exv.veMro) (pv 0) (pv 1))), ?_⟩
    exact ⟨_, rfl, a, C, [.str _], rfl, (by decide : 1 ≤ 1000), T, ha, _, rfl, _, rfl, a, C, rfl, T, hf, ha, k⟩
abbrev sITooGreat : Stmt := inClass (top 14) 0
theorem scsITooGreat : FnScope ["self", "most"] ["self", "most"] (defScope sITooGreat) := ⟨rfl, rfl, rfl, by decide +kernel, rfl, by decide +kernel, by decide +kernel⟩
theorem ok_TooGreat {f C : Addr} {fd : FuncData} (F : Fun K "__init__" "TooGreat.__init__" sITooGreat f fd) (T : Exv.EC K C "OverflowError" "OverflowError.__new__" "OverflowError.__init__" Exv.oeMro) (hf : PySem.W.takerIn K C "most" = some none) (gT : mg "OverflowError" = none) (vT : PySem.W.findCls K (.type "OverflowError") (.type "type") "__init__" = some (.val (.builtin "OverflowError.__init__"))) :
    FnOk P w K mg base CX0 1 f fd ["self", "most"] (Exv.spXI C "most") := by
  refine F.ok scsITooGreat (fun vs H Q E h => ?_) (fun cdv A outer s H vs Q E hr h => ?_)
  · obtain ⟨a, v, rfl, _⟩ := h
    rfl
  · obtain ⟨a, v, rfl, ha, k⟩ := h
    refine ⟨_, pss_cons (ps_expr (Exv.pe_oeinit (newId := "OverflowError.__new__") (bmB := Exv.oeMro) (by rfl) gT vT (pa_cons (pv 0) (pa_cons pe_str pa_nil)))) (pss_one (Exv.ps_xset (B := "OverflowError") (newId := "OverflowError.__new__") (initId := "OverflowError.__init__") (bmB := Exv.oeMro) (pv 0) (pv 1))), ?_⟩
    exact ⟨_, rfl, a, C, [.str _], rfl, (by decide : 1 ≤ 1000), T, ha, _, rfl, _, rfl, a, C, rfl, T, hf, ha, k⟩
end
end Bb
namespace Bb
open PySem L2
abbrev sIsWhole : Stmt := top 16
abbrev sHasTask : Stmt := top 20
abbrev sIsTaskPair : Stmt := top 21
abbrev sBitsBehind : Stmt := top 22
abbrev sPutAhead : Stmt := top 23
abbrev sPairsTold : Stmt := top 24
section
variable {P : Program} {w : World} {K : PySem.W.Frag} {mg : Str → Option Value} {base : Heap}
theorem scIsWhole : FnScope ["value", "low", "high"] ["value", "low", "high"] (defScope sIsWhole) := ⟨rfl, rfl, rfl, by decide +kernel, rfl, by decide +kernel, by decide +kernel⟩
/-- of an int: whether it lies between; of anything else: no -/
def spIsWhole (K : PySem.W.Frag) : Sp := fun vs H Q _ => ∃ (v : V) (lo hi : Int), vs = [v, .int lo, .int hi] ∧ ((∃ i, v = .int i ∧ Q (.bl (decide (lo ≤ i) && decide (i ≤ hi))) H) ∨
  ∃ t, TyX K H v t ∧ (PySem.W.kitOne K t (.type "int") = some false ∨ (PySem.W.kitOne K t (.type "int") = some true ∧ PySem.W.kitOne K t (.type "bool") = some true)) ∧ Q (.bl false) H)
theorem ok_is_whole {f : Addr} {fd : FuncData} (F : Fun K "is_whole" "is_whole" sIsWhole f fd) (t_isinstance : mg "isinstance" = none) (t_int : mg "int" = none) (t_bool : mg "bool" = none) : FnOk P w K mg base CX0 1 f fd ["value", "low", "high"] (spIsWhole K) := by
  refine F.ok scIsWhole (fun vs H Q E h => ?_) (fun cdv A outer s H vs Q E hr h => ?_)
  · obtain ⟨v, lo, hi, rfl, _⟩ := h
    rfl
  · obtain ⟨v, lo, hi, rfl, h⟩ := h
    refine ⟨_, 
      (pss_cons (ps_if (PW.pt (pw_or (pt_not (pt_val (pe_callB call_isi (by rfl) t_isinstance (by decide +kernel) (pa_cons (pv 0) (pa_cons (pe_bltn (v := .ty "int") (by rfl) t_int (by decide +kernel) rfl) pa_nil))))) (pw_or1 (pt_val (pe_callB call_isi (by rfl) t_isinstance (by decide +kernel) (pa_cons (pv 0) (pa_cons (pe_bltn (v := .ty "bool") (by rfl) t_bool (by decide +kernel) rfl) pa_nil))))))) 
        (pss_one (ps_ret pe_bl)) pss_nil)
      (pss_one (ps_ret (pe_chain op_le op_le (pv 1) (pv 0) (pv 2))))), ?_⟩
    walk_at "go"
    rcases h with ⟨i, rfl, k⟩ | ⟨t, ty, h | ⟨h1, h2⟩, k⟩
    · refine Rd.isi (.ty _) (.base (.int i)) (kit_ty (r := true) (by decide +kernel)) ?_
      walk_at "go"
      refine Rd.isi (.ty _) (.base (.int i)) (kit_ty (r := false) (by decide +kernel)) ?_
      walk_at "go"
      cases h1 : decide (lo ≤ i) with
      | true =>
        walk_at "go"
        rw [h1] at k
        exact k
      | false =>
        walk_at "go"
        rw [h1] at k
        exact k
    · refine Rd.isi (.ty _) ty h ?_
      walk_at "go"
      exact k
    · refine Rd.isi (.ty _) ty h1 ?_
      walk_at "go"
      refine Rd.isi (.ty _) ty h2 ?_
      walk_at "go"
      exact k
theorem scHasTask : FnScope ["bits", "task"] ["bits", "task"] (defScope sHasTask) := ⟨rfl, rfl, rfl, by decide +kernel, rfl, by decide +kernel, by decide +kernel⟩
def spHasTask : Sp := fun vs H Q _ => ∃ n t : Nat, vs = [.int n, .int t] ∧ Q (.bl (n.testBit t)) H
theorem bit_of (n t : Nat) : decide (Builtin.bitAnd ((n : Int) / 2 ^ ((t : Int)).toNat) 1 = 1) = n.testBit t := by
  have e : ((n : Int) / 2 ^ ((t : Int)).toNat) = ((n / 2 ^ t : Nat) : Int) := by
    rw [Int.toNat_natCast]
    simp
  rw [e, show (1 : Int) = ((1 : Nat) : Int) from rfl, PySem.W.os_band, Nat.and_one_is_mod, Nat.testBit_eq_decide_div_mod_eq]
  exact decide_eq_decide.mpr (by omega)
theorem ok_has_task {f : Addr} {fd : FuncData} (F : Fun K "has_task" "has_task" sHasTask f fd) : FnOk P w K mg base CX0 1 f fd ["bits", "task"] spHasTask := by
  refine F.ok scHasTask (fun vs H Q E h => ?_) (fun cdv A outer s H vs Q E hr h => ?_)
  · obtain ⟨n, t, rfl, _⟩ := h
    rfl
  · obtain ⟨n, t, rfl, k⟩ := h
    refine ⟨_, 
      (pss_one (ps_ret (pe_cmpR op_eq (pe_op op_and (pe_op op_shr (pv 0) (pv 1)) pe_int) pe_int (nomark _)))), ?_⟩
    walk_at "go"
    rw [bit_of]
    exact k
end
end Bb
namespace Bb
open PySem L2
/-- for each task the bits of the tasks behind it -/
def bitsV (B : List Nat) : List V := B.map fun (n : Nat) => V.int (n : Int)
def putAt (B : List Nat) (a b t : Nat) : Nat := if (decide (t = a) || (B.getD t 0).testBit a) = true then B.getD t 0 ||| (B.getD b 0 ||| 2 ^ b) else B.getD t 0
def put (B : List Nat) (a b : Nat) : List Nat := (List.range B.length).map (putAt B a b)
theorem put_len (B : List Nat) (a b : Nat) : (put B a b).length = B.length := by unfold put; rw [List.length_map, List.length_range]
theorem bitsV_get {B : List Nat} {i : Nat} (h : i < B.length) : (bitsV B)[i]? = some (V.int ((B.getD i 0 : Nat) : Int)) := by
  unfold bitsV
  rw [List.getElem?_map, List.getElem?_eq_getElem h, List.getD_eq_getElem?_getD, List.getElem?_eq_getElem h]
  rfl
theorem bor (a b : Nat) : Builtin.bitOr (a : Int) (b : Int) = ((a ||| b : Nat) : Int) := by
  rw [Bits.bitOr_pp (Int.natCast_nonneg _) (Int.natCast_nonneg _), Int.toNat_natCast, Int.toNat_natCast]
section
variable {P : Program} {w : World} {K : PySem.W.Frag} {mg : Str → Option Value} {base : Heap}
theorem scPutAhead : FnScope ["behind", "one", "other", "more", "task", "bits"] ["behind", "one", "other"] (defScope sPutAhead) := ⟨rfl, rfl, rfl, by decide +kernel, rfl, by decide +kernel, by decide +kernel⟩
def spPutAhead (K : PySem.W.Frag) : Sp := fun vs H Q _ => ∃ (l : Addr) (B : List Nat) (a b : Nat), vs = [.ref l, .int a, .int b] ∧ SqL K H l (bitsV B) ∧ b < B.length ∧ B.length ≤ 12 ∧ ∀ (H' : Hp) (p : Addr), Same H H' → H p = none → H' p = some (.lst (bitsV (put B a b))) → Q (.ref p) H'
theorem ok_put_ahead {f : Addr} {fd : FuncData} (F : Fun K "put_ahead" "put_ahead" sPutAhead f fd) (t_enumerate : mg "enumerate" = none) (c_has_task : Rd.Callee P w K mg base CX0 1 "has_task" ["bits", "task"] spHasTask) : FnOk P w K mg base CX0 2 f fd ["behind", "one", "other"] (spPutAhead K) := by
  refine F.ok scPutAhead (fun vs H Q E h => ?_) (fun cdv A outer s H vs Q E hr h => ?_)
  · obtain ⟨l, B, a, b, rfl, _⟩ := h
    rfl
  · obtain ⟨l, B, a, b, rfl, hS, hb, hB, k⟩ := h
    refine ⟨_, 
      (pss_cons (ps_set (i := 3) scPutAhead.nd rfl (Or.inr rfl) (pe_op op_or (pe_ix (r := rIxL K) (by exact ix_list) (pv 0) (pv 2) (fun _ _ => rfl)) (pe_op op_shl pe_int (pv 2))))
      (pss_one (ps_ret (pe_lc (own := [("task", 4), ("bits", 5)]) (g := gTup K 2 (gCons (gName 4) (gCons (gName 5) gNil))) (tt := tYes) rfl scPutAhead.nd (pi_enum (by rfl) t_enumerate (pa_cons (pv 0) pa_nil)) (blkOk_by (own := [("task", 4), ("bits", 5)]) (N := ["behind", "one", "other", "more", "task", "bits"]) (sc := defScope sPutAhead) (by decide +kernel)) (fun _ _ _ _ _ => (pg_tup rfl (pgs_cons (pg_name (i := 4) scPutAhead.nd rfl (Or.inl rfl)) (pgs_cons (pg_name (i := 5) scPutAhead.nd rfl (Or.inl rfl)) pgs_nil)))) (fun _ _ _ _ _ => pts_nil) (fun _ _ _ _ _ => (pe_ifExp (PW.pt (pw_or (pt_cmpR op_eq (pv 4) (pv 1) (nomark _)) (pw_or1 (pt_val (Rd.pe_callC c_has_task (hr.mono (by decide)) (pa_cons (pv 5) (pa_cons (pv 1) pa_nil))))))) (pe_op op_or (pv 5) (pv 3)) (pv 5))))))), ?_⟩
    walk_at "go"
    refine Rd.ixL (i := (b : Int)) hS (at_of (j := b) rfl (bitsV_get hb)) ?_
    walk_at "go"
    have e2 : (1 : Int) * 2 ^ ((b : Int)).toNat = ((2 ^ b : Nat) : Int) := by rw [Int.toNat_natCast]; simp
    rw [e2, bor]
    refine Rd.lcEnum hS fun D hD => ⟨fun i H' => Same H H' ∧ H' D = some (.lst ((List.range i).map fun t => V.int ((putAt B a b t : Nat) : Int))), ⟨same1 hD, upd_same⟩, ?_, ?_, ?_⟩
    · rintro i H' hi ⟨s0, _⟩
      exact s0.seq hS
    · rintro i x H' T hi hx ⟨s0, hL⟩ hT
      have hi' : i < B.length := by unfold bitsV at hi; rw [List.length_map] at hi; exact hi
      rw [bitsV_get hi'] at hx
      cases hx
      walk_at "go"
      refine ⟨rfl, ?_⟩
      walk_at "go"
      have fin : ∀ y : Nat, y = putAt B a b i → Rd.itemEnd D (fun H' => Same H H' ∧ H' D = some (.lst ((List.range (i + 1)).map fun t => V.int ((putAt B a b t : Nat) : Int)))) (.int (y : Int)) (upd H' T (.tup [.int (i : Int), .int ((B.getD i 0 : Nat) : Int)])) := by
        intro y hy
        refine Rd.item (Rd.get_up hL hT) (by rw [List.length_map, List.length_range, sizeLine_eq]; omega) ⟨same_up (same_new s0 hT) hD, ?_⟩
        rw [upd_same, hy, List.range_succ, List.map_append]
        rfl
      refine Rd.ifD (fun ht => ?_) fun ht => ?_
      · have et : i = a := by omega
        walk_at "go"
        rw [bor]
        exact fin _ (by unfold putAt; rw [if_pos (by simp [et])])
      · have et : ¬ i = a := by omega
        walk_at "go"
        refine ⟨_, _, rfl, ?_⟩
        walk_at "go"
        refine Rd.ifB (fun hb => ?_) fun hb => ?_
        · walk_at "go"
          rw [bor]
          exact fin _ (by unfold putAt; rw [if_pos (by simp only [hb, Bool.or_true])])
        · walk_at "go"
          exact fin _ (by unfold putAt; rw [if_neg (by simp only [hb, et, decide_false, Bool.or_false]; decide)])
    · rintro H' ⟨s0, hL⟩
      walk_at "go"
      have e : (bitsV B).length = B.length := by unfold bitsV; rw [List.length_map]
      rw [e] at hL
      refine k _ _ s0 hD ?_
      rw [hL]
      unfold bitsV put
      rw [List.map_map]
      rfl
/-- a pair of tasks as it lies in the heap -/
def PairV (K : PySem.W.Frag) (H : Hp) (v : V) (p : Nat × Nat) : Prop := ∃ t, v = .ref t ∧ SqT K H t [.int (p.1 : Int), .int (p.2 : Int)]
theorem SqT_same {H H' : Hp} {a : Addr} {xs : List V} (h : SqT K H a xs) (s : Same H H') : SqT K H' a xs := SqT.ext h s
theorem PairV.same {H H' : Hp} {v : V} {p : Nat × Nat} (h : PairV K H v p) (s : Same H H') : PairV K H' v p := h.imp fun t q => ⟨q.1, SqT.ext q.2 s⟩
theorem tyT {H : Hp} {t : Addr} {xs : List V} (h : SqT K H t xs) : TyX K H (.ref t) (.type "tuple") := by
  rcases h with (h | ⟨o, h⟩) | ⟨o, its, n, h1, h2, _⟩
  · exact .base (.tup h)
  · exact .fTuple h
  · exact .kTuple h1 h2
theorem between (i n : Nat) : (decide ((0 : Int) ≤ (i : Int)) && decide ((i : Int) ≤ (n : Int) - 1)) = decide (i < n) := by
  rw [decide_eq_true (Int.natCast_nonneg i), Bool.true_and]
  exact decide_eq_decide.mpr (by omega)
theorem scIsTaskPair : FnScope ["many", "value", "one", "other"] ["many", "value"] (defScope sIsTaskPair) := ⟨rfl, rfl, rfl, by decide +kernel, rfl, by decide +kernel, by decide +kernel⟩
def spIsTaskPair (K : PySem.W.Frag) : Sp := fun vs H Q _ => ∃ (n : Nat) (v : V) (p : Nat × Nat), vs = [.int n, v] ∧ PairV K H v p ∧ Q (.bl (decide (p.1 < n) && (decide (p.2 < n) && !decide (p.1 = p.2)))) H
theorem ok_is_task_pair {f : Addr} {fd : FuncData} (F : Fun K "is_task_pair" "is_task_pair" sIsTaskPair f fd) (t_isinstance : mg "isinstance" = none) (t_tuple : mg "tuple" = none) (t_len : mg "len" = none) (c_is_whole : Rd.Callee P w K mg base CX0 1 "is_whole" ["value", "low", "high"] (spIsWhole K)) : FnOk P w K mg base CX0 2 f fd ["many", "value"] (spIsTaskPair K) := by
  refine F.ok scIsTaskPair (fun vs H Q E h => ?_) (fun cdv A outer s H vs Q E hr h => ?_)
  · obtain ⟨n, v, p, rfl, _⟩ := h
    rfl
  · obtain ⟨n, v, p, rfl, ⟨t, rfl, hT⟩, k⟩ := h
    refine ⟨_, 
      (pss_cons (ps_if (PW.pt (pw_or (pt_not (pt_val (pe_callB call_isi (by rfl) t_isinstance (by decide +kernel) (pa_cons (pv 1) (pa_cons (pe_bltn (v := .ty "tuple") (by rfl) t_tuple (by decide +kernel) rfl) pa_nil))))) (pw_or1 (pt_cmpR op_ne (pe_callB Rd.call_lenS (by rfl) t_len (by decide +kernel) (pa_cons (pv 1) pa_nil)) pe_int (nomark _))))) 
        (pss_one (ps_ret pe_bl)) pss_nil)
      (pss_cons (ps_asg (pv 1) (pg_tup rfl (pgs_cons (pg_name (i := 2) scIsTaskPair.nd rfl (Or.inl rfl)) (pgs_cons (pg_name (i := 3) scIsTaskPair.nd rfl (Or.inl rfl)) pgs_nil))))
      (pss_one (ps_ret (pe_and (Rd.pe_callC c_is_whole (hr.mono (by decide)) (pa_cons (pv 2) (pa_cons pe_int (pa_cons (pe_op op_sub (pv 0) pe_int) pa_nil)))) (pe_and (Rd.pe_callC c_is_whole (hr.mono (by decide)) (pa_cons (pv 3) (pa_cons pe_int (pa_cons (pe_op op_sub (pv 0) pe_int) pa_nil)))) (pe_one (pe_cmpR op_ne (pv 2) (pv 3) (nomark _))))))))), ?_⟩
    walk_at "go"
    refine Rd.isi (.ty _) (tyT hT) (kit_ty (r := true) (by decide +kernel)) ?_
    walk_at "go"
    refine Rd.lenT hT ?_
    walk_at "go"
    refine Rd.ifN (fun z => by simp at z) fun _ => ?_
    walk_at "go"
    refine Rd.pair2 (by with_unfolding_all rfl) hT ?_
    walk_at "go"
    refine ⟨_, _, _, rfl, .inl ⟨_, rfl, ?_⟩⟩
    rw [between]
    walk_at "go"
    cases h1 : decide (p.1 < n) with
    | false =>
      walk_at "go"
      rw [h1] at k
      exact k
    | true =>
      walk_at "go"
      refine ⟨_, _, _, rfl, .inl ⟨_, rfl, ?_⟩⟩
      rw [between]
      walk_at "go"
      cases h2 : decide (p.2 < n) with
      | false =>
        walk_at "go"
        rw [h1, h2] at k
        exact k
      | true =>
        walk_at "go"
        rw [h1, h2] at k
        rw [show decide ((p.1 : Int) = (p.2 : Int)) = decide (p.1 = p.2) from decide_eq_decide.mpr (by omega)]
        exact k
/-- all pairs told, one after another -/
def putAll (B : List Nat) (ps : List (Nat × Nat)) : List Nat := ps.foldl (fun B p => put B p.1 p.2) B
/-- each pair may be told there -/
def Good (n : Nat) : List Nat → List (Nat × Nat) → Prop
  | _, [] => True
  | B, p :: ps => p.1 < n ∧ p.2 < n ∧ p.1 ≠ p.2 ∧ (B.getD p.2 0).testBit p.1 = false ∧ Good n (put B p.1 p.2) ps
theorem putAll_len : ∀ (ps : List (Nat × Nat)) (B : List Nat), (putAll B ps).length = B.length
  | [], _ => rfl
  | p :: ps, B => (putAll_len ps (put B p.1 p.2)).trans (put_len B p.1 p.2)
theorem Good.at_ {n : Nat} : ∀ {ps : List (Nat × Nat)} {B : List Nat} {i : Nat} {p : Nat × Nat}, Good n B ps → ps[i]? = some p →
    p.1 < n ∧ p.2 < n ∧ p.1 ≠ p.2 ∧ ((putAll B (ps.take i)).getD p.2 0).testBit p.1 = false ∧ putAll B (ps.take (i + 1)) = put (putAll B (ps.take i)) p.1 p.2
  | q :: ps, B, 0, p, g, e => by
    cases e
    exact ⟨g.1, g.2.1, g.2.2.1, g.2.2.2.1, rfl⟩
  | q :: ps, B, i + 1, p, g, e => by
    obtain ⟨h1, h2, h3, h4, h5⟩ := Good.at_ (B := put B q.1 q.2) g.2.2.2.2 (show ps[i]? = some p from e)
    exact ⟨h1, h2, h3, h4, h5⟩
theorem scBitsBehind : FnScope ["many", "pairs", "behind", "place", "pair", "one", "other"] ["many", "pairs"] (defScope sBitsBehind) := ⟨rfl, rfl, rfl, by decide +kernel, rfl, by decide +kernel, by decide +kernel⟩
def spBitsBehind (K : PySem.W.Frag) : Sp := fun vs H Q _ => ∃ (n : Nat) (a : Addr) (xs : List V) (ps : List (Nat × Nat)), vs = [.int n, .ref a] ∧ Rd.SqA K H a xs ∧ Paired (PairV K H) xs ps ∧ (0 < n ∧ n ≤ 12) ∧ Good n (List.replicate n 0) ps ∧
  ∀ (H' : Hp) (p : Addr), Same H H' → H p = none → H' p = some (.lst (bitsV (putAll (List.replicate n 0) ps))) → Q (.ref p) H'
theorem ok_bits_behind {f : Addr} {fd : FuncData} (F : Fun K "bits_behind" "bits_behind" sBitsBehind f fd) (t_enumerate : mg "enumerate" = none) (c_is_task_pair : Rd.Callee P w K mg base CX0 2 "is_task_pair" ["many", "value"] (spIsTaskPair K)) (c_has_task : Rd.Callee P w K mg base CX0 1 "has_task" ["bits", "task"] spHasTask)
    (c_put_ahead : Rd.Callee P w K mg base CX0 2 "put_ahead" ["behind", "one", "other"] (spPutAhead K)) : FnOk P w K mg base CX0 3 f fd ["many", "pairs"] (spBitsBehind K) := by
  refine F.ok scBitsBehind (fun vs H Q E h => ?_) (fun cdv A outer s H vs Q E hr h => ?_)
  · obtain ⟨n, a, xs, ps, rfl, _⟩ := h
    rfl
  · obtain ⟨n, a, xs, ps, rfl, hS, hP, ⟨hn0, hn⟩, hG, k⟩ := h
    refine ⟨_, 
      (pss_cons (ps_set (i := 2) scBitsBehind.nd rfl (Or.inl rfl) (pe_op op_rep (pe_lst (pa_cons pe_int pa_nil)) (pv 0)))
      (pss_cons (ps_for PassesOwn.never rfl (Rd.pi_enumA (by rfl) t_enumerate (pa_cons (pv 1) pa_nil)) (pg_tup rfl (pgs_cons (pg_name (i := 3) scBitsBehind.nd rfl (Or.inl rfl)) (pgs_cons (pg_name (i := 4) scBitsBehind.nd rfl (Or.inl rfl)) pgs_nil))) 
        (pss_cons (ps_if (pt_not (pt_val (Rd.pe_callC c_is_task_pair (hr.mono (by decide)) (pa_cons (pv 0) (pa_cons (pv 4) pa_nil))))) 
          (pss_one ps_never) pss_nil)
        (pss_cons (ps_asg (pv 4) (pg_tup rfl (pgs_cons (pg_name (i := 5) scBitsBehind.nd rfl (Or.inl rfl)) (pgs_cons (pg_name (i := 6) scBitsBehind.nd rfl (Or.inl rfl)) pgs_nil))))
        (pss_cons (ps_if (pt_val (Rd.pe_callC c_has_task (hr.mono (by decide)) (pa_cons (pe_ix (r := rIxL K) (by exact ix_list) (pv 2) (pv 6) (fun _ _ => rfl)) (pa_cons (pv 5) pa_nil)))) 
          (pss_one ps_never) pss_nil)
        (pss_one (ps_set (i := 2) scBitsBehind.nd rfl (Or.inl rfl) (Rd.pe_callC c_put_ahead (hr.mono (by decide)) (pa_cons (pv 2) (pa_cons (pv 5) (pa_cons (pv 6) pa_nil))))))))))
      (pss_one (ps_ret (pv 2))))), ?_⟩
    walk_at "go"
    refine ⟨(show 1 ≤ 16777216 by decide), fun l0 hl0 => ?_⟩
    walk_at "go"
    refine Rd.rep upd_same (by omega) fun q0 hq0 => ?_
    walk_at "go"
    have b0 : bitsV (List.replicate n 0) = List.replicate n (V.int 0) := by unfold bitsV; rw [List.map_replicate]; rfl
    rw [← b0]
    have sA : Same H (upd (upd H l0 (.lst [.int 0])) q0 (.lst (bitsV (List.replicate n 0)))) := same_new (same1 hl0) hq0
    have hq0' : H q0 = none := (same1 (o := .lst [.int 0]) hl0).free hq0
    have lenP : ∀ i, (putAll (List.replicate n 0) (ps.take i)).length = n := fun i => by rw [putAll_len, List.length_replicate]
    refine Rd.forEnumA hS sA (fun i σ H' => ∃ (q : Addr) (v3 v4 v5 v6 : Option V), σ = [some (.int n), some (.ref a), some (.ref q), v3, v4, v5, v6] ∧ Same H H' ∧ H q = none ∧ H' q = some (.lst (bitsV (putAll (List.replicate n 0) (ps.take i)))))
      ⟨q0, none, none, none, none, rfl, sA, hq0', upd_same⟩ (fun i σ H' _ h => ?_) ?_ ?_
    · obtain ⟨_, _, _, _, _, _, s0, _⟩ := h
      exact s0
    · rintro i x σ H' T hi hx ⟨q, v3, v4, v5, v6, rfl, s0, hqn, hq⟩ hT
      obtain ⟨p, hp, hxp⟩ := Rd.paired_get hP hx
      obtain ⟨g1, g2, g3, g4, g5⟩ := hG.at_ hp
      have sT : Same H (upd H' T (.tup [.int (i : Int), x])) := same_new s0 hT
      have hq1 := Rd.get_up (u := .tup [.int (i : Int), x]) hq hT
      walk_at "go"
      refine ⟨n, x, p, rfl, hxp.same sT, ?_⟩
      rw [show (decide (p.1 < n) && (decide (p.2 < n) && !decide (p.1 = p.2))) = true by simp [g1, g2, g3]]
      walk_at "go"
      obtain ⟨t, rfl, ht⟩ := hxp.same sT
      refine Rd.pair2 (by with_unfolding_all rfl) ht ?_
      walk_at "go"
      refine Rd.ixL (i := (p.2 : Int)) (SqL.of hq1) (at_of (j := p.2) rfl (bitsV_get (by rw [lenP]; exact g2))) ?_
      walk_at "go"
      refine ⟨_, _, rfl, ?_⟩
      rw [g4]
      walk_at "go"
      refine ⟨q, _, p.1, p.2, rfl, SqL.of hq1, by rw [lenP]; exact g2, by rw [lenP]; exact hn, fun H2 r s2 hr0 hr1 => ?_⟩
      walk_at "go"
      exact ⟨r, _, _, _, _, rfl, sT.trans s2, sT.free hr0, by rw [g5]; exact hr1⟩
    · rintro σ H' ⟨q, v3, v4, v5, v6, rfl, s0, hqn, hq⟩
      walk_at "go"
      have el : xs.length = ps.length := Paired.length hP
      rw [el, List.take_length] at hq
      exact k _ _ s0 hqn hq
end
end Bb
namespace Bb
open PySem L2
/-- the pairs with a first task below i -/
def row (B : List Nat) (n a j : Nat) : List (Nat × Nat) := ((List.range j).filter fun b => (B.getD a 0).testBit b).map fun b => (a, b)
def upto (B : List Nat) (n i : Nat) : List (Nat × Nat) := (List.range i).flatMap fun a => row B n a n
def told (B : List Nat) : List (Nat × Nat) := upto B B.length B.length
theorem upto_succ (B : List Nat) (n i : Nat) : upto B n (i + 1) = upto B n i ++ row B n i n := by
  unfold upto
  rw [List.range_succ, List.flatMap_append]
  simp
theorem row_succ (B : List Nat) (n a j : Nat) : row B n a (j + 1) = row B n a j ++ (if (B.getD a 0).testBit j = true then [(a, j)] else []) := by
  unfold row
  rw [List.range_succ, List.filter_append, List.map_append]
  by_cases h : (B.getD a 0).testBit j = true
  · rw [if_pos h]; simp only [List.filter_cons, h, if_true, List.filter_nil, List.map_cons, List.map_nil]
  · rw [if_neg h]; simp only [List.filter_cons, h, List.filter_nil, List.map_nil]; rfl
theorem paired_same {K : PySem.W.Frag} {H H' : Hp} {xs : List V} {ps : List (Nat × Nat)} (h : Paired (PairV K H) xs ps) (s : Same H H') : Paired (PairV K H') xs ps := by
  induction h with
  | nil => exact .nil
  | cons r _ ih => exact .cons (r.same s) ih
theorem paired_app {α β : Type} {R : α → β → Prop} {xs xs' : List α} {ys ys' : List β} (h : Paired R xs ys) (h' : Paired R xs' ys') : Paired R (xs ++ xs') (ys ++ ys') := by
  induction h with
  | nil => exact h'
  | cons r _ ih => exact .cons r ih
theorem PairV.lst {K : PySem.W.Frag} {H : Hp} {v : V} {p : Nat × Nat} {D : Addr} {acc acc' : List V} (h : PairV K H v p) (hD : H D = some (.lst acc)) : PairV K (upd H D (.lst acc')) v p := by
  obtain ⟨t, e, q⟩ := h
  refine ⟨t, e, ?_⟩
  rcases q with (q | ⟨o, q⟩) | q
  · exact .inl (.inl ((upd_ne (ne_of q hD fun z => by cases z)).trans q))
  · exact .inl (.inr ⟨o, (upd_ne (ne_of q hD fun z => by cases z)).trans q⟩)
  · exact .inr q
theorem paired_lst {K : PySem.W.Frag} {H : Hp} {xs : List V} {ps : List (Nat × Nat)} {D : Addr} {acc acc' : List V} (h : Paired (PairV K H) xs ps) (hD : H D = some (.lst acc)) : Paired (PairV K (upd H D (.lst acc'))) xs ps := by
  induction h with
  | nil => exact .nil
  | cons r _ ih => exact .cons (r.lst hD) ih
theorem rg_get {n i : Nat} (h : i < n) : (rgV 0 (n : Int))[i]? = some (V.int (i : Int)) := by
  unfold rgV
  rw [Int.sub_zero, Int.toNat_natCast, List.getElem?_map, List.getElem?_range h, Option.map_some, Int.zero_add]
theorem rg_len (n : Nat) : (rgV 0 (n : Int)).length = n := by rw [rgV_length, Int.sub_zero, Int.toNat_natCast]
section
variable {P : Program} {w : World} {K : PySem.W.Frag} {mg : Str → Option Value} {base : Heap}
theorem scPairsTold : FnScope ["behind", "tasks", "one", "other"] ["behind"] (defScope sPairsTold) := ⟨rfl, rfl, rfl, by decide +kernel, rfl, by decide +kernel, by decide +kernel⟩
def spPairsTold (K : PySem.W.Frag) : Sp := fun vs H Q _ => ∃ (l : Addr) (B : List Nat), vs = [.ref l] ∧ SqL K H l (bitsV B) ∧ B.length ≤ 12 ∧ ∀ (H' : Hp) (p : Addr) (xs : List V), Same H H' → H p = none → H' p = some (.lst xs) → Paired (PairV K H') xs (told B) → xs.length ≤ 144 → Q (.ref p) H'
theorem ok_pairs_told {f : Addr} {fd : FuncData} (F : Fun K "pairs_told" "pairs_told" sPairsTold f fd) (t_list : mg "list" = none) (t_range : mg "range" = none) (t_len : mg "len" = none) (c_has_task : Rd.Callee P w K mg base CX0 1 "has_task" ["bits", "task"] spHasTask) : FnOk P w K mg base CX0 2 f fd ["behind"] (spPairsTold K) := by
  refine F.ok scPairsTold (fun vs H Q E h => ?_) (fun cdv A outer s H vs Q E hr h => ?_)
  · obtain ⟨l, B, rfl, _⟩ := h
    rfl
  · obtain ⟨l, B, rfl, hS, hB, k⟩ := h
    refine ⟨_, 
      (pss_cons (ps_set (i := 1) scPairsTold.nd rfl (Or.inr rfl) (pe_listRg rfl (by rfl) t_list (prg_1 (by rfl) t_range (pe_callB Rd.call_lenS (by rfl) t_len (by decide +kernel) (pa_cons (pv 0) pa_nil)))))
      (pss_one (ps_ret (pe_lc2 (own := [("one", 2), ("other", 3)]) (vs1 := [3]) (g := gName 2) (g1 := gName 3) (wi1 := iList K (tVar 1)) (tt := tYes) rfl scPairsTold.nd (pi_list (pv 1)) (blkOk_by (own := [("one", 2), ("other", 3)]) (N := ["behind", "tasks", "one", "other"]) (sc := defScope sPairsTold) (by decide +kernel)) (by decide) (fun _ _ _ _ _ => (pg_name (i := 2) scPairsTold.nd rfl (Or.inl rfl))) (fun _ _ _ _ _ => pts_nil) (fun _ _ _ _ _ => (pi_list (pv 1))) (fun _ _ _ _ _ => (pg_name (i := 3) scPairsTold.nd rfl (Or.inl rfl))) (fun _ _ _ _ _ => (pts_one (pt_val (Rd.pe_callC c_has_task (hr.mono (by decide)) (pa_cons (pe_ix (r := rIxL K) (by exact ix_list) (pv 0) (pv 2) (fun _ _ => rfl)) (pa_cons (pv 3) pa_nil)))))) (fun _ _ _ _ _ => (pe_tup (pa_cons (pv 2) (pa_cons (pv 3) pa_nil)))))))), ?_⟩
    walk_at "go"
    refine Rd.lenL hS ?_
    rw [show (bitsV B).length = B.length by unfold bitsV; rw [List.length_map]]
    walk_at "go"
    refine ⟨RgOk.of_le (by decide) (by omega) (by decide) (by omega), fun ta hta => ?_⟩
    have s1 : Same H (upd H ta (.lst (rgV 0 (B.length : Int)))) := same1 hta
    have h1 : upd H ta (.lst (rgV 0 (B.length : Int))) ta = _ := upd_same
    generalize upd H ta (.lst (rgV 0 (B.length : Int))) = H1 at s1 h1 ⊢
    walk_at "go"
    refine Rd.lcList2 (SqL.of h1) fun D hD => ⟨fun i H' => Same H1 H' ∧ ∃ acc, H' D = some (.lst acc) ∧ Paired (PairV K H') acc (upto B B.length i) ∧ acc.length ≤ i * B.length, ⟨same1 hD, [], upd_same, .nil, Nat.zero_le _⟩, ?_, ?_, ?_⟩
    · rintro i H' hi ⟨s0, _⟩
      exact SqL.of (s0 _ _ h1)
    · rintro i x H' hi hx ⟨s0, acc, hL, hP, hl⟩
      have hi' : i < B.length := by rw [rg_len] at hi; exact hi
      rw [rg_get hi'] at hx
      cases hx
      walk_at "go"
      refine ⟨rfl, ?_⟩
      walk_at "go"
      refine Rd.lcIList (SqL.of (s0 _ _ h1)) (fun j H' => Same H1 H' ∧ ∃ acc, H' D = some (.lst acc) ∧ Paired (PairV K H') acc (upto B B.length i ++ row B B.length i j) ∧ acc.length ≤ i * B.length + j) ⟨s0, acc, hL, by unfold row; simpa using hP, hl⟩ ?_ ?_ ?_
      · rintro j H2 hj ⟨s2, _⟩
        exact SqL.of (s2 _ _ h1)
      · rintro j x H2 hj hx ⟨s2, acc2, hL2, hP2, hl2⟩
        have hj' : j < B.length := by rw [rg_len] at hj; exact hj
        rw [rg_get hj'] at hx
        cases hx
        walk_at "go"
        refine ⟨rfl, ?_⟩
        walk_at "go"
        refine Rd.ixL (i := (i : Int)) ((s1.trans s2).seq hS) (at_of (j := i) rfl (bitsV_get hi')) ?_
        walk_at "go"
        refine ⟨_, _, rfl, ?_⟩
        walk_at "go"
        refine Rd.ifB (fun hb => ?_) fun hb => ?_
        · walk_at "go"
          refine ⟨(show 2 ≤ 16777216 by decide), fun t ht => ?_⟩
          have hb12 : i * B.length ≤ 12 * 12 := Nat.mul_le_mul (by omega) hB
          have hL3 := Rd.get_up (u := .tup [.int (i : Int), .int (j : Int)]) hL2 ht
          refine Rd.item hL3 (by rw [sizeLine_eq]; omega) ⟨same_up (same_new s2 ht) hD, _, upd_same, ?_, by rw [List.length_append, List.length_singleton]; omega⟩
          rw [row_succ, if_pos hb, ← List.append_assoc]
          exact paired_lst (paired_app (paired_same hP2 (same1 ht)) (.cons ⟨t, rfl, SqT.of upd_same⟩ .nil)) hL3
        · refine ⟨s2, acc2, hL2, ?_, by omega⟩
          rw [row_succ, if_neg (by rw [hb]; decide), List.append_nil]
          exact hP2
      · rintro H2 ⟨s2, acc2, hL2, hP2, hl2⟩
        rw [rg_len] at hP2 hl2
        rw [← upto_succ] at hP2
        exact ⟨s2, acc2, hL2, hP2, by rw [Nat.add_mul]; omega⟩
    · rintro H' ⟨s0, acc, hL, hP, hl⟩
      rw [rg_len] at hP hl
      walk_at "go"
      exact k H' D acc (s1.trans s0) (s1.free hD) hL hP (Nat.le_trans hl (Nat.mul_le_mul hB hB))
end
end Bb
namespace Bb
open PySem L2
abbrev sOrdInit : Stmt := inClass (top 19) 0
abbrev sOrdEq : Stmt := inClass (top 19) 2
/-- the attributes of an order -/
def oF (n : Int) (tb tp : Addr) : List (Str × V) := putF "pairs" (.ref tp) (putF "behind" (.ref tb) (putF "many" (.int n) []))
theorem oF_many (n : Int) (tb tp : Addr) : (oF n tb tp).lookup ("many" : Str) = some (.int n) := by
  unfold oF
  rw [lookup_putF, if_neg (by decide +kernel), lookup_putF, if_neg (by decide +kernel), lookup_putF, if_pos rfl]
theorem oF_behind (n : Int) (tb tp : Addr) : (oF n tb tp).lookup ("behind" : Str) = some (.ref tb) := by
  unfold oF
  rw [lookup_putF, if_neg (by decide +kernel), lookup_putF, if_pos rfl]
theorem oF_pairs (n : Int) (tb tp : Addr) : (oF n tb tp).lookup ("pairs" : Str) = some (.ref tp) := by
  unfold oF
  rw [lookup_putF, if_pos rfl]
/-- what the written part says of the class -/
structure OrdC (K : PySem.W.Frag) (C : Addr) : Prop where
  cl : Cls K C
  n1 : NoAttr K C "many"
  n2 : NoAttr K C "behind"
  n3 : NoAttr K C "pairs"
  ha : PySem.W.findIn K (.ref C) "__class__" = some (some (.builtin "object.__class__"))
  hn : PySem.W.specialIn K (.builtin "object.__class__") "__get__" = some (some (.builtin "getset_descriptor.__get__"))
  ht : PySem.W.takesIn K (.builtin "object.__class__") = some true
  hm : PySem.W.mroIn K C (.type "object") = some true
/-- an order stands at o: of n tasks, B tells the bits behind each -/
def OrdAt (K : PySem.W.Frag) (C : Addr) (H : Hp) (o : Addr) (n : Nat) (B : List Nat) : Prop :=
  ∃ (dx tb tp : Addr) (xs : List V), H o = some (.ins C dx (oF n tb tp)) ∧ H tb = some (.tup (bitsV B)) ∧ H tp = some (.tup xs) ∧ Paired (PairV K H) xs (told B) ∧ xs.length ≤ 144
theorem OrdAt.same {K : PySem.W.Frag} {C o : Addr} {H H' : Hp} {n : Nat} {B : List Nat} (h : OrdAt K C H o n B) (s : Same H H') : OrdAt K C H' o n B := by
  obtain ⟨dx, tb, tp, xs, h1, h2, h3, h4, h5⟩ := h
  exact ⟨dx, tb, tp, xs, s _ _ h1, s _ _ h2, s _ _ h3, paired_same h4 s, h5⟩
theorem OrdAt.ty {K : PySem.W.Frag} {C o : Addr} {H : Hp} {n : Nat} {B : List Nat} (h : OrdAt K C H o n B) (T : OrdC K C) : TyX K H (.ref o) (.ref C) := by
  obtain ⟨dx, tb, tp, xs, h1, _⟩ := h
  exact .base (.ins h1 T.cl T.ha T.hn T.ht T.hm)
theorem tyL {K : PySem.W.Frag} {H : Hp} {t : Addr} {xs : List V} (h : SqL K H t xs) : TyX K H (.ref t) (.type "list") := by
  rcases h with (h | ⟨o, h⟩) | ⟨o, its, n, h1, h2, _⟩
  · exact .base (.lst h)
  · exact .base (.frz h)
  · exact .kList h1 h2
theorem PairV.ins {K : PySem.W.Frag} {H : Hp} {v : V} {p : Nat × Nat} {D C dx : Addr} {fs : List (Str × V)} {u : HO} (h : PairV K H v p) (hD : H D = some (.ins C dx fs)) : PairV K (upd H D u) v p := by
  obtain ⟨t, e, q⟩ := h
  refine ⟨t, e, ?_⟩
  rcases q with (q | ⟨o, q⟩) | q
  · exact .inl (.inl ((upd_ne (ne_of q hD fun z => by cases z)).trans q))
  · exact .inl (.inr ⟨o, (upd_ne (ne_of q hD fun z => by cases z)).trans q⟩)
  · exact .inr q
theorem paired_ins {K : PySem.W.Frag} {H : Hp} {xs : List V} {ps : List (Nat × Nat)} {D C dx : Addr} {fs : List (Str × V)} {u : HO} (h : Paired (PairV K H) xs ps) (hD : H D = some (.ins C dx fs)) : Paired (PairV K (upd H D u)) xs ps := by
  induction h with
  | nil => exact .nil
  | cons r _ ih => exact .cons (r.ins hD) ih
/-- all but x is as it was -/
theorem tyA {K : PySem.W.Frag} {H : Hp} {a : Addr} {xs : List V} (h : Rd.SqA K H a xs) : ∃ T, TyX K H (.ref a) T ∧ PySem.W.kitAny K T [.type "list", .type "tuple"] = some true := by
  rcases h with h | h
  · exact ⟨_, tyL h, kitAny_cons (b := true) (kit_ty (by decide +kernel)) (fun z => by cases z) fun _ => rfl⟩
  · exact ⟨_, tyT h, kitAny_cons (b := false) (kit_ty (by decide +kernel)) (fun _ => kitAny_cons (b := true) (kit_ty (by decide +kernel)) (fun z => by cases z) fun _ => rfl) fun z => by cases z⟩
def KpX (x : Addr) (H H' : Hp) : Prop := ∀ b o, b ≠ x → H b = some o → H' b = some o
theorem KpX.same {x : Addr} {H H1 H2 : Hp} (k : KpX x H H1) (s : Same H1 H2) : KpX x H H2 := fun b o n h => s b o (k b o n h)
theorem KpX.own {x : Addr} {H H1 : Hp} {u : HO} (k : KpX x H H1) : KpX x H (upd H1 x u) := fun b o n h => (upd_ne n).trans (k b o n h)
section
variable {P : Program} {w : World} {K : PySem.W.Frag} {mg : Str → Option Value} {base : Heap}
theorem scInit : FnScope ["self", "many", "pairs", "behind"] ["self", "many", "pairs"] (defScope sOrdInit) := ⟨rfl, rfl, rfl, by decide +kernel, rfl, by decide +kernel, by decide +kernel⟩
def spOrdInit (K : PySem.W.Frag) (C : Addr) : Sp := fun vs H Q _ => ∃ (x dx : Addr) (n : Nat) (a : Addr) (xs : List V) (ps : List (Nat × Nat)), vs = [.ref x, .int n, .ref a] ∧ H x = some (.ins C dx []) ∧ Rd.SqA K H a xs ∧ Paired (PairV K H) xs ps ∧ (0 < n ∧ n ≤ 12) ∧ Good n (List.replicate n 0) ps ∧
  ∀ H' : Hp, (∀ b o, b ≠ x → H b = some o → H' b = some o) → OrdAt K C H' x n (putAll (List.replicate n 0) ps) → Q .non H'
theorem ok_ord_init {f C : Addr} {fd : FuncData} (F : Fun K "__init__" "Order.__init__" sOrdInit f fd) (T : OrdC K C) (t_isinstance : mg "isinstance" = none) (t_list : mg "list" = none) (t_tuple : mg "tuple" = none) {tk : Tok} (m_MOST_TASKS : mg "MOST_TASKS" = some (.int 12 tk))
    (c_is_whole : Rd.Callee P w K mg base CX0 1 "is_whole" ["value", "low", "high"] (spIsWhole K)) (c_bits_behind : Rd.Callee P w K mg base CX0 3 "bits_behind" ["many", "pairs"] (spBitsBehind K)) (c_pairs_told : Rd.Callee P w K mg base CX0 2 "pairs_told" ["behind"] (spPairsTold K)) :
    FnOk P w K mg base CX0 4 f fd ["self", "many", "pairs"] (spOrdInit K C) := by
  refine F.ok scInit (fun vs H Q E h => ?_) (fun cdv A outer s H vs Q E hr h => ?_)
  · obtain ⟨x, dx, n, a, xs, ps, rfl, _⟩ := h
    rfl
  · obtain ⟨x, dx, n, a, xs, ps, rfl, hx, hS, hP, ⟨hn0, hn⟩, hG, k⟩ := h
    refine ⟨_, 
      (pss_cons (ps_if (pt_not (pt_val (Rd.pe_callC c_is_whole (hr.mono (by decide)) (pa_cons (pv 1) (pa_cons pe_int (pa_cons (pe_glob (v := .int 12) (by rfl) m_MOST_TASKS ⟨_, rfl⟩) pa_nil)))))) 
        (pss_one ps_never) pss_nil)
      (pss_cons (ps_if (pt_not (pt_val (pe_callB call_isiT (by rfl) t_isinstance (by decide +kernel) (pa_cons (pv 2) (pa_cons (pe_tup (pa_cons (pe_bltn (v := .ty "list") (by rfl) t_list (by decide +kernel) rfl) (pa_cons (pe_bltn (v := .ty "tuple") (by rfl) t_tuple (by decide +kernel) rfl) pa_nil))) pa_nil))))) 
        (pss_one ps_never) pss_nil)
      (pss_cons (ps_set (i := 3) scInit.nd rfl (Or.inl rfl) (Rd.pe_callC c_bits_behind (hr.mono (by decide)) (pa_cons (pv 1) (pa_cons (pv 2) pa_nil))))
      (pss_cons (ps_fld (pv 0) (pv 1) rfl)
      (pss_cons (ps_fld (pv 0) (pe_callTy Rd.call_tupleL (by rfl) t_tuple (by decide +kernel) (pa_cons (pv 3) pa_nil)) rfl)
      (pss_one (ps_fld (pv 0) (pe_callTy Rd.call_tupleL (by rfl) t_tuple (by decide +kernel) (pa_cons (Rd.pe_callC c_pairs_told (hr.mono (by decide)) (pa_cons (pv 3) pa_nil)) pa_nil)) rfl))))))), ?_⟩
    walk_at "go"
    refine ⟨_, _, _, rfl, .inl ⟨_, rfl, ?_⟩⟩
    rw [show (decide ((1 : Int) ≤ (n : Int)) && decide ((n : Int) ≤ 12)) = true by simp; omega]
    walk_at "go"
    refine ⟨(show 2 ≤ 16777216 by decide), fun t0 ht0 => ?_⟩
    obtain ⟨T0, ty0, ka0⟩ := tyA (hS.same (same1 ht0))
    refine Rd.isiT upd_same (.cons (.ty _) (.cons (.ty _) .nil)) ty0 ka0 ?_
    walk_at "go"
    refine ⟨n, a, xs, ps, rfl, hS.same (same1 ht0), paired_same hP (same1 ht0), ⟨hn0, hn⟩, hG, fun H2 lb s2 hlb0 hlb => ?_⟩
    have hB : (putAll (List.replicate n 0) ps).length ≤ 12 := by rw [putAll_len, List.length_replicate]; exact hn
    generalize putAll (List.replicate n 0) ps = B at k hlb hB
    have x2 : H2 x = some (.ins C dx []) := s2 _ _ (Rd.get_up hx ht0)
    have kp2 : KpX x H H2 := fun b o _ h => s2 _ _ (Rd.get_up h ht0)
    have nlx : lb ≠ x := ne_of hlb x2 fun z => by cases z
    walk_at "go"
    refine Rd.setFE x2 T.cl T.n1 (show 0 < 1000 by decide) ?_
    have x3 : upd H2 x (.ins C dx (putF "many" (.int n) [])) x = some (.ins C dx (putF "many" (.int n) [])) := upd_same
    have b3 : upd H2 x (.ins C dx (putF "many" (.int n) [])) lb = _ := (upd_ne nlx).trans hlb
    have kp3 : KpX x H (upd H2 x (.ins C dx (putF "many" (.int n) []))) := kp2.own
    generalize upd H2 x (.ins C dx (putF "many" (.int n) [])) = H3 at x3 b3 kp3 ⊢
    walk_at "go"
    refine Rd.tupE (SqL.of b3) fun tb htb => ?_
    walk_at "go"
    have nbx : tb ≠ x := fun z => by rw [z, x3] at htb; cases htb
    refine Rd.setFE (Rd.get_up x3 htb) T.cl T.n2 (show 1 < 1000 by decide) ?_
    have kp4 : KpX x H (upd (upd H3 tb (.tup (bitsV B))) x (.ins C dx (putF "behind" (.ref tb) (putF "many" (.int n) [])))) := (kp3.same (same1 htb)).own
    have x4 : upd (upd H3 tb (.tup (bitsV B))) x (.ins C dx (putF "behind" (.ref tb) (putF "many" (.int n) []))) x = some (.ins C dx (putF "behind" (.ref tb) (putF "many" (.int n) []))) := upd_same
    have t4 : upd (upd H3 tb (.tup (bitsV B))) x (.ins C dx (putF "behind" (.ref tb) (putF "many" (.int n) []))) tb = some (.tup (bitsV B)) := (upd_ne nbx).trans upd_same
    have b4 : upd (upd H3 tb (.tup (bitsV B))) x (.ins C dx (putF "behind" (.ref tb) (putF "many" (.int n) []))) lb = some (.lst (bitsV B)) := (upd_ne nlx).trans (Rd.get_up b3 htb)
    generalize upd (upd H3 tb (.tup (bitsV B))) x (.ins C dx (putF "behind" (.ref tb) (putF "many" (.int n) []))) = H4 at kp4 x4 t4 b4 ⊢
    walk_at "go"
    refine ⟨lb, B, rfl, SqL.of b4, hB, fun H5 lp zs s5 hlp0 hlp hPp hlen => ?_⟩
    walk_at "go"
    refine Rd.tupE (SqL.of hlp) fun tp htp => ?_
    walk_at "go"
    have x5 := s5 _ _ x4
    have npx : tp ≠ x := fun z => by rw [z, x5] at htp; cases htp
    refine Rd.setFE (Rd.get_up x5 htp) T.cl T.n3 (by rw [show (putF "behind" (V.ref tb) (putF "many" (V.int n) [])).length = 2 from rfl]; decide) ?_
    walk_at "go"
    exact k _ ((kp4.same (s5.trans (same1 htp))).own) ⟨dx, tb, tp, zs, upd_same, (upd_ne nbx).trans (Rd.get_up (s5 _ _ t4) htp), (upd_ne npx).trans upd_same, paired_ins (paired_same hPp (same1 htp)) (Rd.get_up x5 htp), hlen⟩
end
end Bb
namespace Bb
open PySem L2
/-! ## ==: pairs as data -/
def prD (p : Nat × Nat) : PyData := .tuple [.int p.1, .int p.2]
section
variable {K : PySem.W.Frag} {H : Hp}
theorem dp_pairs {xs : List V} {ps : List (Nat × Nat)} (h : Paired (PairV K H) xs ps) : DpAll K H xs (ps.map prD) := by
  induction h with
  | nil => exact .nil
  | cons r _ ih =>
    obtain ⟨t, rfl, q⟩ := r
    exact .cons (.tup q (.cons (.int _) (.cons (.int _) .nil))) ih
theorem lay_pairs : ∀ ps : List (Nat × Nat), PyData.canLayAll0 (ps.map prD) = true
  | [] => by simp [PyData.canLayAll0]
  | p :: ps => by simp [PyData.canLayAll0, PyData.canLay0, prD, lay_pairs ps]
theorem deep_pairs : ∀ ps : List (Nat × Nat), PyData.depthAll (ps.map prD) ≤ 1
  | [] => by simp [PyData.depthAll]
  | p :: ps => by
    have := deep_pairs ps
    simp only [List.map_cons, PyData.depthAll, prD, PyData.depth]
    omega
theorem sh_pairs (ps : List (Nat × Nat)) : SeqAt.shaped (.tuple (ps.map prD)) = true := by
  have := deep_pairs ps
  unfold SeqAt.shaped
  rw [show PyData.canLay0 (.tuple (ps.map prD)) = true by simp [PyData.canLay0, lay_pairs], Bool.true_and]
  refine decide_eq_true ?_
  simp only [PyData.depth]
  omega
theorem eqv_pairs : ∀ ps qs : List (Nat × Nat), PyData.eqvAll (ps.map prD) (qs.map prD) = decide (ps = qs)
  | [], [] => by simp [PyData.eqvAll]
  | [], _ :: _ => by simp [PyData.eqvAll]
  | _ :: _, [] => by simp [PyData.eqvAll]
  | (a, b) :: ps, (c, d) :: qs => by
    simp only [List.map_cons, PyData.eqvAll, prD, PyData.eqv, eqv_pairs ps qs, Bool.and_true]
    by_cases h1 : a = c <;> by_cases h2 : b = d <;> by_cases h3 : ps = qs <;> simp [h1, h2, h3] <;> omega
end
section
variable {P : Program} {w : World} {K : PySem.W.Frag} {mg : Str → Option Value} {base : Heap}
theorem scEq : FnScope ["self", "other"] ["self", "other"] (defScope sOrdEq) := ⟨rfl, rfl, rfl, by decide +kernel, rfl, by decide +kernel, by decide +kernel⟩
def spOrdEq (K : PySem.W.Frag) (C : Addr) : Sp := fun vs H Q _ => ∃ (o n : Nat) (B : List Nat) (y : V), vs = [.ref o, y] ∧ OrdAt K C H o n B ∧
  ((∃ (o' n' : Nat) (B' : List Nat), y = .ref o' ∧ OrdAt K C H o' n' B' ∧ PySem.W.kitOne K (.ref C) (.ref C) = some true ∧ Q (.bl (decide (n = n') && decide (told B = told B'))) H) ∨ ∃ t, TyX K H y t ∧ PySem.W.kitOne K t (.ref C) = some false ∧ Q (.bl false) H)
theorem ok_ord_eq {f C : Addr} {fd : FuncData} (F : Fun K "__eq__" "Order.__eq__" sOrdEq f fd) (T : OrdC K C) (t_isinstance : mg "isinstance" = none) (g_Order : mg "Order" = some (.ref C)) : FnOk P w K mg base CX0 1 f fd ["self", "other"] (spOrdEq K C) := by
  refine F.ok scEq (fun vs H Q E h => ?_) (fun cdv A outer s H vs Q E hr h => ?_)
  · obtain ⟨o, n, B, y, rfl, _⟩ := h
    rfl
  · obtain ⟨o, n, B, y, rfl, hO, h⟩ := h
    refine ⟨_, 
      (pss_one (ps_ret (pe_and (pe_callB call_isi (by rfl) t_isinstance (by decide +kernel) (pa_cons (pv 1) (pa_cons (Rd.pe_cls g_Order) pa_nil))) (pe_and (pe_cmpR op_eq (pe_fld (pv 0) rfl) (pe_fld (pv 1) rfl) (nomark _)) (pe_one (pe_cmpR (op_eqD (Rd.hu64 hr)) (pe_fld (pv 0) rfl) (pe_fld (pv 1) rfl) (nomark _))))))), ?_⟩
    walk_at "go"
    rcases h with ⟨o', n', B', rfl, hO', kk, k⟩ | ⟨t, ty, hk, k⟩
    · refine Rd.isi (.own _) (hO'.ty T) kk ?_
      obtain ⟨dx, tb, tp, xs, h1, h2, h3, h4, h5⟩ := hO
      obtain ⟨dx', tb', tp', xs', h1', h2', h3', h4', h5'⟩ := hO'
      walk_at "go"
      refine Rd.fldE h1 T.cl T.n1 (oF_many _ _ _) ?_
      walk_at "go"
      refine Rd.fldE h1' T.cl T.n1 (oF_many _ _ _) ?_
      walk_at "go"
      rw [show decide ((n : Int) = (n' : Int)) = decide (n = n') from decide_eq_decide.mpr (by omega)]
      cases hn : decide (n = n') with
      | false =>
        walk_at "go"
        rw [hn] at k
        exact k
      | true =>
        walk_at "go"
        refine Rd.fldE h1 T.cl T.n3 (oF_pairs _ _ _) ?_
        walk_at "go"
        refine Rd.fldE h1' T.cl T.n3 (oF_pairs _ _ _) ?_
        refine Rd.eqD (.tup (SqT.of h3) (dp_pairs h4)) (.tup (SqT.of h3') (dp_pairs h4')) (sh_pairs _) (sh_pairs _) ?_
        rw [hn] at k
        rw [show PyData.eqv (.tuple ((told B).map prD)) (.tuple ((told B').map prD)) = decide (told B = told B') by simp only [PyData.eqv, eqv_pairs]]
        exact k
    · refine Rd.isi (.own _) ty hk ?_
      walk_at "go"
      exact k
end
end Bb
namespace Bb
open PySem L2
/-! ## _law_class: the word of an error, and its value -/
def nms : List Str := ["BadPairs", "BadTerm", "BadNumber", "BadExchange", "NoTerm", "OtherTasks", "Lacks", "BadRun", "BadRuns", "BadText", "NothingLeft", "TooGreat"]
def fds : List Str := ["place", "value", "value", "place", "four", "", "pair", "place", "value", "place", "", "most"]
/-- the twelve classes, and isinstance between them -/
structure Twelve (K : PySem.W.Frag) (cs : List Addr) : Prop where
  len : cs.length = 12
  own : ∀ (i : Nat) c, cs[i]? = some c → ∀ (j : Nat) d, cs[j]? = some d → PySem.W.kitOne K (.ref c) (.ref d) = some (decide (i = j))
  ty : ∀ (i : Nat) c, cs[i]? = some c → PySem.W.kitOne K (.ref c) (.type "ValueError") = some (decide (i < 11)) ∧ PySem.W.kitOne K (.ref c) (.type "OverflowError") = some (decide (i = 11))
  is : ∀ (i : Nat) c, cs[i]? = some c → L2.ExcC K c
  no : ∀ (i : Nat) c f, cs[i]? = some c → fds[i]? = some f → f ≠ "" → PySem.W.findIn K (.ref c) f = some none
/-- rows (word, answer), the first k of them, at l -/
def RowsAt (i : Nat) (H : Hp) (l : Addr) (k : Nat) : Prop := ∃ ts : List Addr, H l = some (.lst (ts.map V.ref)) ∧ ts.length = k ∧ ∀ (j : Nat) t, ts[j]? = some t → ∃ z, nms[j]? = some z ∧ H t = some (.tup [.str z, .bl (decide (i = j))])
theorem RowsAt.more {i k : Nat} {D G : Hp} {t0 t1 p : Addr} {z0 z1 : Str} {ts : List Addr} (hl : ts.length = k) (hr : ∀ (j : Nat) t, ts[j]? = some t → ∃ z, nms[j]? = some z ∧ D t = some (.tup [.str z, .bl (decide (i = j))])) (s : Same D G) (f : G p = some (.lst (ts.map V.ref ++ [.ref t0, .ref t1])))
    (h0 : D t0 = some (.tup [.str z0, .bl (decide (i = k))])) (h1 : D t1 = some (.tup [.str z1, .bl (decide (i = k + 1))])) (e0 : nms[k]? = some z0) (e1 : nms[k + 1]? = some z1) : RowsAt i G p (k + 2) := by
  refine ⟨ts ++ [t0, t1], by rw [f, List.map_append]; rfl, by rw [List.length_append, hl]; rfl, fun j t ht => ?_⟩
  by_cases hj : j < ts.length
  · rw [List.getElem?_append_left hj] at ht
    obtain ⟨z, ez, q⟩ := hr j t ht
    exact ⟨z, ez, s _ _ q⟩
  · rw [List.getElem?_append_right (by omega), hl] at ht
    obtain ⟨m, rfl⟩ : ∃ m, j = k + m := ⟨j - k, by omega⟩
    rw [Nat.add_sub_cancel_left] at ht
    match m, ht with
    | 0, ht => cases ht; exact ⟨z0, e0, s _ _ h0⟩
    | 1, ht => cases ht; exact ⟨z1, e1, s _ _ h1⟩
theorem nwO {H : Hp} {p : Addr} (o : HO) (hp : H p = none) : ∃ H', upd H p o = H' ∧ Same H H' ∧ H' p = some o := ⟨_, rfl, same1 hp, upd_same⟩
abbrev sClass : Stmt := top 30
section
variable {P : Program} {w : World} {K : PySem.W.Frag} {mg : Str → Option Value} {base : Heap}
theorem scClass : FnScope ["error", "rows", "words", "word", "holds"] ["error"] (defScope sClass) := ⟨rfl, rfl, rfl, by decide +kernel, rfl, by decide +kernel, by decide +kernel⟩
/-- an error of the i-th class with the value v (or none) -/
def ErrAt (cs : List Addr) (H : Hp) (a : Addr) (i : Nat) (v : Option V) : Prop := ∃ C, cs[i]? = some C ∧ match v with
  | some y => ∃ f, fds[i]? = some f ∧ f ≠ "" ∧ Exv.ExV H a C f y
  | none => fds[i]? = some "" ∧ Exv.ExAt H a C []
def spClass (cs : List Addr) : Sp := fun vs H Q _ => ∃ (a : Addr) (i : Nat) (v : Option V) (z : Str), vs = [.ref a] ∧ nms[i]? = some z ∧ ErrAt cs H a i v ∧ ∀ (H' : Hp) (p : Addr), Same H H' → H p = none → H' p = some (.tup (.str z :: v.toList)) → Q (.ref p) H'
theorem ok_class {f : Addr} {fd : FuncData} (F : Fun K "_law_class" "_law_class" sClass f fd) {C0 C1 C2 C3 C4 C5 C6 C7 C8 C9 C10 C11 : Addr} (hC : Twelve K [C0, C1, C2, C3, C4, C5, C6, C7, C8, C9, C10, C11])
    (g_BadPairs : mg "BadPairs" = some (.ref C0)) (g_BadTerm : mg "BadTerm" = some (.ref C1)) (g_BadNumber : mg "BadNumber" = some (.ref C2)) (g_BadExchange : mg "BadExchange" = some (.ref C3)) (g_NoTerm : mg "NoTerm" = some (.ref C4)) (g_OtherTasks : mg "OtherTasks" = some (.ref C5)) (g_Lacks : mg "Lacks" = some (.ref C6))
    (g_BadRun : mg "BadRun" = some (.ref C7)) (g_BadRuns : mg "BadRuns" = some (.ref C8)) (g_BadText : mg "BadText" = some (.ref C9)) (g_NothingLeft : mg "NothingLeft" = some (.ref C10)) (g_TooGreat : mg "TooGreat" = some (.ref C11)) (t_isinstance : mg "isinstance" = none) (t_len : mg "len" = none) :
    FnOk P w K mg base CX0 1 f fd ["error"] (spClass [C0, C1, C2, C3, C4, C5, C6, C7, C8, C9, C10, C11]) := by
  refine F.ok scClass (fun vs H Q E h => ?_) (fun cdv A outer s H vs Q E hr h => ?_)
  · obtain ⟨a, i, v, z, rfl, _⟩ := h
    rfl
  · obtain ⟨a, i, v, z, rfl, hz, ⟨C, hc, hv⟩, k⟩ := h
    refine ⟨_, 
      (pss_cons (ps_set (i := 1) scClass.nd rfl (Or.inl rfl) (pe_lst (pa_cons (pe_tup (pa_cons pe_str (pa_cons (pe_callB Exv.call_isX (by rfl) t_isinstance (by decide +kernel) (pa_cons (pv 0) (pa_cons (Rd.pe_cls g_BadPairs) pa_nil))) pa_nil))) (pa_cons (pe_tup (pa_cons pe_str (pa_cons (pe_callB Exv.call_isX (by rfl) t_isinstance (by decide +kernel) (pa_cons (pv 0) (pa_cons (Rd.pe_cls g_BadTerm) pa_nil))) pa_nil))) pa_nil))))
      (pss_cons (ps_set (i := 1) scClass.nd rfl (Or.inl rfl) (pe_op op_cat (pv 1) (pe_lst (pa_cons (pe_tup (pa_cons pe_str (pa_cons (pe_callB Exv.call_isX (by rfl) t_isinstance (by decide +kernel) (pa_cons (pv 0) (pa_cons (Rd.pe_cls g_BadNumber) pa_nil))) pa_nil))) (pa_cons (pe_tup (pa_cons pe_str (pa_cons (pe_callB Exv.call_isX (by rfl) t_isinstance (by decide +kernel) (pa_cons (pv 0) (pa_cons (Rd.pe_cls g_BadExchange) pa_nil))) pa_nil))) pa_nil)))))
      (pss_cons (ps_set (i := 1) scClass.nd rfl (Or.inl rfl) (pe_op op_cat (pv 1) (pe_lst (pa_cons (pe_tup (pa_cons pe_str (pa_cons (pe_callB Exv.call_isX (by rfl) t_isinstance (by decide +kernel) (pa_cons (pv 0) (pa_cons (Rd.pe_cls g_NoTerm) pa_nil))) pa_nil))) (pa_cons (pe_tup (pa_cons pe_str (pa_cons (pe_callB Exv.call_isX (by rfl) t_isinstance (by decide +kernel) (pa_cons (pv 0) (pa_cons (Rd.pe_cls g_OtherTasks) pa_nil))) pa_nil))) pa_nil)))))
      (pss_cons (ps_set (i := 1) scClass.nd rfl (Or.inl rfl) (pe_op op_cat (pv 1) (pe_lst (pa_cons (pe_tup (pa_cons pe_str (pa_cons (pe_callB Exv.call_isX (by rfl) t_isinstance (by decide +kernel) (pa_cons (pv 0) (pa_cons (Rd.pe_cls g_Lacks) pa_nil))) pa_nil))) (pa_cons (pe_tup (pa_cons pe_str (pa_cons (pe_callB Exv.call_isX (by rfl) t_isinstance (by decide +kernel) (pa_cons (pv 0) (pa_cons (Rd.pe_cls g_BadRun) pa_nil))) pa_nil))) pa_nil)))))
      (pss_cons (ps_set (i := 1) scClass.nd rfl (Or.inl rfl) (pe_op op_cat (pv 1) (pe_lst (pa_cons (pe_tup (pa_cons pe_str (pa_cons (pe_callB Exv.call_isX (by rfl) t_isinstance (by decide +kernel) (pa_cons (pv 0) (pa_cons (Rd.pe_cls g_BadRuns) pa_nil))) pa_nil))) (pa_cons (pe_tup (pa_cons pe_str (pa_cons (pe_callB Exv.call_isX (by rfl) t_isinstance (by decide +kernel) (pa_cons (pv 0) (pa_cons (Rd.pe_cls g_BadText) pa_nil))) pa_nil))) pa_nil)))))
      (pss_cons (ps_set (i := 1) scClass.nd rfl (Or.inl rfl) (pe_op op_cat (pv 1) (pe_lst (pa_cons (pe_tup (pa_cons pe_str (pa_cons (pe_callB Exv.call_isX (by rfl) t_isinstance (by decide +kernel) (pa_cons (pv 0) (pa_cons (Rd.pe_cls g_NothingLeft) pa_nil))) pa_nil))) (pa_cons (pe_tup (pa_cons pe_str (pa_cons (pe_callB Exv.call_isX (by rfl) t_isinstance (by decide +kernel) (pa_cons (pv 0) (pa_cons (Rd.pe_cls g_TooGreat) pa_nil))) pa_nil))) pa_nil)))))
      (pss_cons (ps_setLc (i := 2) (own := [("word", 3), ("holds", 4)]) (g := gTup K 2 (gCons (gName 3) (gCons (gName 4) gNil)))  rfl scClass.nd rfl rfl (sw_true rfl rfl rfl (by decide +kernel)) (pi_list (pv 1)) (blkOk_by (own := [("word", 3), ("holds", 4)]) (N := ["error", "rows", "words", "word", "holds"]) (sc := defScope sClass) (by decide +kernel)) (fun _ _ _ _ _ => (pg_tup rfl (pgs_cons (pg_name (i := 3) scClass.nd rfl (Or.inl rfl)) (pgs_cons (pg_name (i := 4) scClass.nd rfl (Or.inl rfl)) pgs_nil)))) (fun _ _ _ _ _ => (pts_one (pt_val (pv 4)))) (fun _ _ _ _ _ => (pv 3)))
      (pss_cons (ps_if (pt_cmpR op_ne (pe_callB Rd.call_lenS (by rfl) t_len (by decide +kernel) (pa_cons (pv 2) pa_nil)) pe_int (nomark _)) 
        (pss_one (ps_ret (pe_tup (pa_cons pe_str pa_nil)))) pss_nil)
      (pss_cons (ps_if (pt_cmpR op_in_seq (pe_ix (r := rIxL K) (by exact ix_list) (pv 2) pe_int (fun _ _ => rfl)) (pe_tup (pa_cons pe_str (pa_cons pe_str (pa_cons pe_str (pa_cons pe_str pa_nil))))) (by rfl)) 
        (pss_one (ps_ret (pe_tup (pa_cons (pe_ix (r := rIxL K) (by exact ix_list) (pv 2) pe_int (fun _ _ => rfl)) (pa_cons (Exv.pe_xfld (pv 0)) pa_nil))))) pss_nil)
      (pss_cons (ps_if (pt_cmpR op_in_seq (pe_ix (r := rIxL K) (by exact ix_list) (pv 2) pe_int (fun _ _ => rfl)) (pe_tup (pa_cons pe_str (pa_cons pe_str (pa_cons pe_str pa_nil)))) (by rfl)) 
        (pss_one (ps_ret (pe_tup (pa_cons (pe_ix (r := rIxL K) (by exact ix_list) (pv 2) pe_int (fun _ _ => rfl)) (pa_cons (Exv.pe_xfld (pv 0)) pa_nil))))) pss_nil)
      (pss_cons (ps_if (pt_cmpR op_in_seq (pe_ix (r := rIxL K) (by exact ix_list) (pv 2) pe_int (fun _ _ => rfl)) (pe_tup (pa_cons pe_str (pa_cons pe_str pa_nil))) (by rfl)) 
        (pss_one (ps_ret (pe_tup (pa_cons (pe_ix (r := rIxL K) (by exact ix_list) (pv 2) pe_int (fun _ _ => rfl)) pa_nil)))) pss_nil)
      (pss_cons (ps_if (pt_cmpR op_eq (pe_ix (r := rIxL K) (by exact ix_list) (pv 2) pe_int (fun _ _ => rfl)) pe_str (nomark _)) 
        (pss_one (ps_ret (pe_tup (pa_cons (pe_ix (r := rIxL K) (by exact ix_list) (pv 2) pe_int (fun _ _ => rfl)) (pa_cons (Exv.pe_xfld (pv 0)) pa_nil))))) pss_nil)
      (pss_one (ps_ret (pe_tup (pa_cons (pe_ix (r := rIxL K) (by exact ix_list) (pv 2) pe_int (fun _ _ => rfl)) (pa_cons (pe_ifExp (pt_cmpR op_eq (pe_ix (r := rIxL K) (by exact ix_list) (pv 2) pe_int (fun _ _ => rfl)) pe_str (nomark _)) (Exv.pe_xfld (pv 0)) (Exv.pe_xfld (pv 0))) pa_nil))))))))))))))))), ?_⟩
    have ⟨fs, ex⟩ : ∃ fs, Exv.ExAt H a C fs := by
      cases v with
      | some y => obtain ⟨f, _, _, e⟩ := hv; exact ⟨_, e.at_⟩
      | none => exact ⟨_, hv.2⟩
    walk_at "go"
    refine Exv.isE (.own _) (ex.same (Same.refl H)) (hC.is i C hc) (hC.own i C hc 0 C0 rfl) ?_
    walk_at "go"
    refine ⟨(show 2 ≤ 16777216 by decide), fun ta0 hta => ?_⟩
    obtain ⟨A0, eA, sA0, fA⟩ := nwO (.tup [.str "BadPairs", .bl (decide (i = 0))]) hta
    rw [eA]
    clear eA
    walk_at "go"
    refine Exv.isE (.own _) (ex.same ((Same.refl H).trans sA0)) (hC.is i C hc) (hC.own i C hc 1 C1 rfl) ?_
    walk_at "go"
    refine ⟨(show 2 ≤ 16777216 by decide), fun tb0 htb => ?_⟩
    obtain ⟨B0, eB, sB0, fB⟩ := nwO (.tup [.str "BadTerm", .bl (decide (i = 1))]) htb
    rw [eB]
    clear eB
    walk_at "go"
    refine ⟨(show 2 ≤ 16777216 by decide), fun l0 hl => ?_⟩
    obtain ⟨D0, eD, sD0, fD⟩ := nwO (.lst [.ref ta0, .ref tb0]) hl
    rw [eD]
    clear eD
    have R0 : RowsAt i D0 l0 2 := RowsAt.more (ts := []) (k := 0) rfl (fun j t h => by cases h) sD0 fD (sB0 _ _ fA) fB rfl rfl
    have S0 : Same H D0 := sA0.trans (sB0.trans sD0)
    walk_at "go"
    refine Exv.isE (.own _) (ex.same S0) (hC.is i C hc) (hC.own i C hc 2 C2 rfl) ?_
    walk_at "go"
    refine ⟨(show 2 ≤ 16777216 by decide), fun ta1 hta => ?_⟩
    obtain ⟨A1, eA, sA1, fA⟩ := nwO (.tup [.str "BadNumber", .bl (decide (i = 2))]) hta
    rw [eA]
    clear eA
    walk_at "go"
    refine Exv.isE (.own _) (ex.same (S0.trans sA1)) (hC.is i C hc) (hC.own i C hc 3 C3 rfl) ?_
    walk_at "go"
    refine ⟨(show 2 ≤ 16777216 by decide), fun tb1 htb => ?_⟩
    obtain ⟨B1, eB, sB1, fB⟩ := nwO (.tup [.str "BadExchange", .bl (decide (i = 3))]) htb
    rw [eB]
    clear eB
    walk_at "go"
    refine ⟨(show 2 ≤ 16777216 by decide), fun l1 hl => ?_⟩
    obtain ⟨D1, eD, sD1, fD⟩ := nwO (.lst [.ref ta1, .ref tb1]) hl
    rw [eD]
    clear eD
    obtain ⟨ts1, rl, rn, rr⟩ := R0
    have u1 := sA1.trans (sB1.trans sD1)
    refine Rd.cat (u1 _ _ rl) fD (by rw [List.length_map, rn]; show 2 + 2 ≤ 1000; decide) fun p1 hp => ?_
    obtain ⟨E1, eE, sE1, fE1⟩ := nwO (.lst (ts1.map V.ref ++ [.ref ta1, .ref tb1])) hp
    rw [eE]
    clear eE
    have R1 : RowsAt i E1 p1 4 := RowsAt.more (ts := ts1) (k := 2) rn (fun j t h => (rr j t h).imp fun z y => ⟨y.1, u1 _ _ y.2⟩) sE1 fE1 (sD1 _ _ (sB1 _ _ fA)) (sD1 _ _ fB) rfl rfl
    have S1 : Same H E1 := S0.trans (u1.trans sE1)
    clear rl rr rn
    walk_at "go"
    refine Exv.isE (.own _) (ex.same S1) (hC.is i C hc) (hC.own i C hc 4 C4 rfl) ?_
    walk_at "go"
    refine ⟨(show 2 ≤ 16777216 by decide), fun ta2 hta => ?_⟩
    obtain ⟨A2, eA, sA2, fA⟩ := nwO (.tup [.str "NoTerm", .bl (decide (i = 4))]) hta
    rw [eA]
    clear eA
    walk_at "go"
    refine Exv.isE (.own _) (ex.same (S1.trans sA2)) (hC.is i C hc) (hC.own i C hc 5 C5 rfl) ?_
    walk_at "go"
    refine ⟨(show 2 ≤ 16777216 by decide), fun tb2 htb => ?_⟩
    obtain ⟨B2, eB, sB2, fB⟩ := nwO (.tup [.str "OtherTasks", .bl (decide (i = 5))]) htb
    rw [eB]
    clear eB
    walk_at "go"
    refine ⟨(show 2 ≤ 16777216 by decide), fun l2 hl => ?_⟩
    obtain ⟨D2, eD, sD2, fD⟩ := nwO (.lst [.ref ta2, .ref tb2]) hl
    rw [eD]
    clear eD
    obtain ⟨ts2, rl, rn, rr⟩ := R1
    have u2 := sA2.trans (sB2.trans sD2)
    refine Rd.cat (u2 _ _ rl) fD (by rw [List.length_map, rn]; show 4 + 2 ≤ 1000; decide) fun p2 hp => ?_
    obtain ⟨E2, eE, sE2, fE2⟩ := nwO (.lst (ts2.map V.ref ++ [.ref ta2, .ref tb2])) hp
    rw [eE]
    clear eE
    have R2 : RowsAt i E2 p2 6 := RowsAt.more (ts := ts2) (k := 4) rn (fun j t h => (rr j t h).imp fun z y => ⟨y.1, u2 _ _ y.2⟩) sE2 fE2 (sD2 _ _ (sB2 _ _ fA)) (sD2 _ _ fB) rfl rfl
    have S2 : Same H E2 := S1.trans (u2.trans sE2)
    clear rl rr rn
    walk_at "go"
    refine Exv.isE (.own _) (ex.same S2) (hC.is i C hc) (hC.own i C hc 6 C6 rfl) ?_
    walk_at "go"
    refine ⟨(show 2 ≤ 16777216 by decide), fun ta3 hta => ?_⟩
    obtain ⟨A3, eA, sA3, fA⟩ := nwO (.tup [.str "Lacks", .bl (decide (i = 6))]) hta
    rw [eA]
    clear eA
    walk_at "go"
    refine Exv.isE (.own _) (ex.same (S2.trans sA3)) (hC.is i C hc) (hC.own i C hc 7 C7 rfl) ?_
    walk_at "go"
    refine ⟨(show 2 ≤ 16777216 by decide), fun tb3 htb => ?_⟩
    obtain ⟨B3, eB, sB3, fB⟩ := nwO (.tup [.str "BadRun", .bl (decide (i = 7))]) htb
    rw [eB]
    clear eB
    walk_at "go"
    refine ⟨(show 2 ≤ 16777216 by decide), fun l3 hl => ?_⟩
    obtain ⟨D3, eD, sD3, fD⟩ := nwO (.lst [.ref ta3, .ref tb3]) hl
    rw [eD]
    clear eD
    obtain ⟨ts3, rl, rn, rr⟩ := R2
    have u3 := sA3.trans (sB3.trans sD3)
    refine Rd.cat (u3 _ _ rl) fD (by rw [List.length_map, rn]; show 6 + 2 ≤ 1000; decide) fun p3 hp => ?_
    obtain ⟨E3, eE, sE3, fE3⟩ := nwO (.lst (ts3.map V.ref ++ [.ref ta3, .ref tb3])) hp
    rw [eE]
    clear eE
    have R3 : RowsAt i E3 p3 8 := RowsAt.more (ts := ts3) (k := 6) rn (fun j t h => (rr j t h).imp fun z y => ⟨y.1, u3 _ _ y.2⟩) sE3 fE3 (sD3 _ _ (sB3 _ _ fA)) (sD3 _ _ fB) rfl rfl
    have S3 : Same H E3 := S2.trans (u3.trans sE3)
    clear rl rr rn
    walk_at "go"
    refine Exv.isE (.own _) (ex.same S3) (hC.is i C hc) (hC.own i C hc 8 C8 rfl) ?_
    walk_at "go"
    refine ⟨(show 2 ≤ 16777216 by decide), fun ta4 hta => ?_⟩
    obtain ⟨A4, eA, sA4, fA⟩ := nwO (.tup [.str "BadRuns", .bl (decide (i = 8))]) hta
    rw [eA]
    clear eA
    walk_at "go"
    refine Exv.isE (.own _) (ex.same (S3.trans sA4)) (hC.is i C hc) (hC.own i C hc 9 C9 rfl) ?_
    walk_at "go"
    refine ⟨(show 2 ≤ 16777216 by decide), fun tb4 htb => ?_⟩
    obtain ⟨B4, eB, sB4, fB⟩ := nwO (.tup [.str "BadText", .bl (decide (i = 9))]) htb
    rw [eB]
    clear eB
    walk_at "go"
    refine ⟨(show 2 ≤ 16777216 by decide), fun l4 hl => ?_⟩
    obtain ⟨D4, eD, sD4, fD⟩ := nwO (.lst [.ref ta4, .ref tb4]) hl
    rw [eD]
    clear eD
    obtain ⟨ts4, rl, rn, rr⟩ := R3
    have u4 := sA4.trans (sB4.trans sD4)
    refine Rd.cat (u4 _ _ rl) fD (by rw [List.length_map, rn]; show 8 + 2 ≤ 1000; decide) fun p4 hp => ?_
    obtain ⟨E4, eE, sE4, fE4⟩ := nwO (.lst (ts4.map V.ref ++ [.ref ta4, .ref tb4])) hp
    rw [eE]
    clear eE
    have R4 : RowsAt i E4 p4 10 := RowsAt.more (ts := ts4) (k := 8) rn (fun j t h => (rr j t h).imp fun z y => ⟨y.1, u4 _ _ y.2⟩) sE4 fE4 (sD4 _ _ (sB4 _ _ fA)) (sD4 _ _ fB) rfl rfl
    have S4 : Same H E4 := S3.trans (u4.trans sE4)
    clear rl rr rn
    walk_at "go"
    refine Exv.isE (.own _) (ex.same S4) (hC.is i C hc) (hC.own i C hc 10 C10 rfl) ?_
    walk_at "go"
    refine ⟨(show 2 ≤ 16777216 by decide), fun ta5 hta => ?_⟩
    obtain ⟨A5, eA, sA5, fA⟩ := nwO (.tup [.str "NothingLeft", .bl (decide (i = 10))]) hta
    rw [eA]
    clear eA
    walk_at "go"
    refine Exv.isE (.own _) (ex.same (S4.trans sA5)) (hC.is i C hc) (hC.own i C hc 11 C11 rfl) ?_
    walk_at "go"
    refine ⟨(show 2 ≤ 16777216 by decide), fun tb5 htb => ?_⟩
    obtain ⟨B5, eB, sB5, fB⟩ := nwO (.tup [.str "TooGreat", .bl (decide (i = 11))]) htb
    rw [eB]
    clear eB
    walk_at "go"
    refine ⟨(show 2 ≤ 16777216 by decide), fun l5 hl => ?_⟩
    obtain ⟨D5, eD, sD5, fD⟩ := nwO (.lst [.ref ta5, .ref tb5]) hl
    rw [eD]
    clear eD
    obtain ⟨ts5, rl, rn, rr⟩ := R4
    have u5 := sA5.trans (sB5.trans sD5)
    refine Rd.cat (u5 _ _ rl) fD (by rw [List.length_map, rn]; show 10 + 2 ≤ 1000; decide) fun p5 hp => ?_
    obtain ⟨E5, eE, sE5, fE5⟩ := nwO (.lst (ts5.map V.ref ++ [.ref ta5, .ref tb5])) hp
    rw [eE]
    clear eE
    have R5 : RowsAt i E5 p5 12 := RowsAt.more (ts := ts5) (k := 10) rn (fun j t h => (rr j t h).imp fun z y => ⟨y.1, u5 _ _ y.2⟩) sE5 fE5 (sD5 _ _ (sB5 _ _ fA)) (sD5 _ _ fB) rfl rfl
    have S5 : Same H E5 := S4.trans (u5.trans sE5)
    clear rl rr rn
    walk_at "go"
    obtain ⟨ts, rl, rn, rr⟩ := R5
    have hi12 : i < 12 := (List.getElem?_eq_some_iff.mp hz).1
    refine Rd.lcList (SqL.of rl) fun D hD => ⟨fun j H' => Same E5 H' ∧ H' D = some (.lst (if i < j then [V.str z] else [])), ⟨same1 hD, by rw [if_neg (Nat.not_lt_zero _)]; exact upd_same⟩, ?_, ?_, ?_⟩
    · rintro j H' hj ⟨s0, _⟩
      exact s0.seq (SqL.of rl)
    · rintro j x H' hj hx ⟨s0, hd⟩
      obtain ⟨t, ht, rfl⟩ : ∃ t, ts[j]? = some t ∧ x = V.ref t := by
        rw [List.getElem?_map] at hx
        cases e : ts[j]? with
        | none => rw [e] at hx; cases hx
        | some a => rw [e] at hx; exact ⟨a, rfl, (Option.some.inj hx).symm⟩
      obtain ⟨zj, ez, ft⟩ := rr j t ht
      refine Rd.pair2 (by with_unfolding_all rfl) (SqT.of (s0 _ _ ft)) ?_
      refine ⟨rfl, ?_⟩
      walk_at "go"
      by_cases hij : i = j
      · subst hij
        have e1 : zj = z := Option.some.inj (ez.symm.trans hz)
        subst e1
        rw [decide_eq_true rfl]
        rw [if_neg (Nat.lt_irrefl _)] at hd
        walk_at "go"
        refine Rd.item hd (by decide) ⟨fun b o e => (upd_ne (ne_of_none e hD)).trans (s0 b o e), ?_⟩
        rw [if_pos (Nat.lt_succ_self _)]
        exact upd_same
      · rw [decide_eq_false hij]
        walk_at "go"
        refine ⟨s0, ?_⟩
        rw [hd]
        by_cases hlt : i < j
        · rw [if_pos hlt, if_pos (Nat.lt_succ_of_lt hlt)]
        · rw [if_neg hlt, if_neg (by omega)]
    · rintro H' ⟨s0, hd⟩
      have e12 : (ts.map V.ref).length = 12 := by rw [List.length_map, rn]
      rw [e12, if_pos hi12] at hd
      have SH : Same H H' := S5.trans s0
      walk_at "go"
      refine Rd.lenL (SqL.of hd) ?_
      walk_at "go"
      rw [show (!decide ((([V.str z] : List V).length : Int) = 1)) = false by simp]
      walk_at "go"
      have W0 : SqL K H' D [V.str z] := SqL.of hd
      clear rl rr rn hd e12
      match i, hi12 with
      | 0, _ =>
        cases hz
        refine Rd.ixL W0 (at_of (j := 0) rfl rfl) ?_
        walk_at "go"
        refine ⟨(show 4 ≤ 16777216 by decide), fun q hq => ?_⟩
        obtain ⟨J0, eJ, sJ0, fJ⟩ := nwO (.tup [.str "BadPairs", .str "BadExchange", .str "BadRun", .str "BadText"]) hq
        rw [eJ]
        clear eJ
        refine ⟨_, _, rfl, .inr (SqT.of fJ), rfl, rfl, ?_⟩
        rw [show (if false = true then !inV (V.str "BadPairs") [V.str "BadPairs", V.str "BadExchange", V.str "BadRun", V.str "BadText"] else inV (V.str "BadPairs") [V.str "BadPairs", V.str "BadExchange", V.str "BadRun", V.str "BadText"]) = true by decide +kernel]
        have S0 := (SH).trans sJ0
        have V0 := sJ0.seq W0
        walk_at "go"
        refine Rd.ixL V0 (at_of (j := 0) rfl rfl) ?_
        walk_at "go"
        cases v with
        | none => exact absurd hv.1 (by decide)
        | some y =>
        obtain ⟨f, ef, nf, ev⟩ := hv
        cases ef
        refine Exv.fldE (hC.is 0 C hc) (hC.no 0 C _ hc rfl (by decide)) (ev.same (S0)) ?_
        walk_at "go"
        refine ⟨(show 2 ≤ 16777216 by decide), fun q2 hq2 => ?_⟩
        walk_at "go"
        exact k _ _ (same_new (S0) hq2) ((S0).free hq2) upd_same
      | 1, _ =>
        cases hz
        refine Rd.ixL W0 (at_of (j := 0) rfl rfl) ?_
        walk_at "go"
        refine ⟨(show 4 ≤ 16777216 by decide), fun q hq => ?_⟩
        obtain ⟨J0, eJ, sJ0, fJ⟩ := nwO (.tup [.str "BadPairs", .str "BadExchange", .str "BadRun", .str "BadText"]) hq
        rw [eJ]
        clear eJ
        refine ⟨_, _, rfl, .inr (SqT.of fJ), rfl, rfl, ?_⟩
        rw [show (if false = true then !inV (V.str "BadTerm") [V.str "BadPairs", V.str "BadExchange", V.str "BadRun", V.str "BadText"] else inV (V.str "BadTerm") [V.str "BadPairs", V.str "BadExchange", V.str "BadRun", V.str "BadText"]) = false by decide +kernel]
        have S0 := (SH).trans sJ0
        have V0 := sJ0.seq W0
        walk_at "go"
        refine Rd.ixL V0 (at_of (j := 0) rfl rfl) ?_
        walk_at "go"
        refine ⟨(show 3 ≤ 16777216 by decide), fun q hq => ?_⟩
        obtain ⟨J1, eJ, sJ1, fJ⟩ := nwO (.tup [.str "BadTerm", .str "BadNumber", .str "BadRuns"]) hq
        rw [eJ]
        clear eJ
        refine ⟨_, _, rfl, .inr (SqT.of fJ), rfl, rfl, ?_⟩
        rw [show (if false = true then !inV (V.str "BadTerm") [V.str "BadTerm", V.str "BadNumber", V.str "BadRuns"] else inV (V.str "BadTerm") [V.str "BadTerm", V.str "BadNumber", V.str "BadRuns"]) = true by decide +kernel]
        have S1 := (S0).trans sJ1
        have V1 := sJ1.seq V0
        walk_at "go"
        refine Rd.ixL V1 (at_of (j := 0) rfl rfl) ?_
        walk_at "go"
        cases v with
        | none => exact absurd hv.1 (by decide)
        | some y =>
        obtain ⟨f, ef, nf, ev⟩ := hv
        cases ef
        refine Exv.fldE (hC.is 1 C hc) (hC.no 1 C _ hc rfl (by decide)) (ev.same (S1)) ?_
        walk_at "go"
        refine ⟨(show 2 ≤ 16777216 by decide), fun q2 hq2 => ?_⟩
        walk_at "go"
        exact k _ _ (same_new (S1) hq2) ((S1).free hq2) upd_same
      | 2, _ =>
        cases hz
        refine Rd.ixL W0 (at_of (j := 0) rfl rfl) ?_
        walk_at "go"
        refine ⟨(show 4 ≤ 16777216 by decide), fun q hq => ?_⟩
        obtain ⟨J0, eJ, sJ0, fJ⟩ := nwO (.tup [.str "BadPairs", .str "BadExchange", .str "BadRun", .str "BadText"]) hq
        rw [eJ]
        clear eJ
        refine ⟨_, _, rfl, .inr (SqT.of fJ), rfl, rfl, ?_⟩
        rw [show (if false = true then !inV (V.str "BadNumber") [V.str "BadPairs", V.str "BadExchange", V.str "BadRun", V.str "BadText"] else inV (V.str "BadNumber") [V.str "BadPairs", V.str "BadExchange", V.str "BadRun", V.str "BadText"]) = false by decide +kernel]
        have S0 := (SH).trans sJ0
        have V0 := sJ0.seq W0
        walk_at "go"
        refine Rd.ixL V0 (at_of (j := 0) rfl rfl) ?_
        walk_at "go"
        refine ⟨(show 3 ≤ 16777216 by decide), fun q hq => ?_⟩
        obtain ⟨J1, eJ, sJ1, fJ⟩ := nwO (.tup [.str "BadTerm", .str "BadNumber", .str "BadRuns"]) hq
        rw [eJ]
        clear eJ
        refine ⟨_, _, rfl, .inr (SqT.of fJ), rfl, rfl, ?_⟩
        rw [show (if false = true then !inV (V.str "BadNumber") [V.str "BadTerm", V.str "BadNumber", V.str "BadRuns"] else inV (V.str "BadNumber") [V.str "BadTerm", V.str "BadNumber", V.str "BadRuns"]) = true by decide +kernel]
        have S1 := (S0).trans sJ1
        have V1 := sJ1.seq V0
        walk_at "go"
        refine Rd.ixL V1 (at_of (j := 0) rfl rfl) ?_
        walk_at "go"
        cases v with
        | none => exact absurd hv.1 (by decide)
        | some y =>
        obtain ⟨f, ef, nf, ev⟩ := hv
        cases ef
        refine Exv.fldE (hC.is 2 C hc) (hC.no 2 C _ hc rfl (by decide)) (ev.same (S1)) ?_
        walk_at "go"
        refine ⟨(show 2 ≤ 16777216 by decide), fun q2 hq2 => ?_⟩
        walk_at "go"
        exact k _ _ (same_new (S1) hq2) ((S1).free hq2) upd_same
      | 3, _ =>
        cases hz
        refine Rd.ixL W0 (at_of (j := 0) rfl rfl) ?_
        walk_at "go"
        refine ⟨(show 4 ≤ 16777216 by decide), fun q hq => ?_⟩
        obtain ⟨J0, eJ, sJ0, fJ⟩ := nwO (.tup [.str "BadPairs", .str "BadExchange", .str "BadRun", .str "BadText"]) hq
        rw [eJ]
        clear eJ
        refine ⟨_, _, rfl, .inr (SqT.of fJ), rfl, rfl, ?_⟩
        rw [show (if false = true then !inV (V.str "BadExchange") [V.str "BadPairs", V.str "BadExchange", V.str "BadRun", V.str "BadText"] else inV (V.str "BadExchange") [V.str "BadPairs", V.str "BadExchange", V.str "BadRun", V.str "BadText"]) = true by decide +kernel]
        have S0 := (SH).trans sJ0
        have V0 := sJ0.seq W0
        walk_at "go"
        refine Rd.ixL V0 (at_of (j := 0) rfl rfl) ?_
        walk_at "go"
        cases v with
        | none => exact absurd hv.1 (by decide)
        | some y =>
        obtain ⟨f, ef, nf, ev⟩ := hv
        cases ef
        refine Exv.fldE (hC.is 3 C hc) (hC.no 3 C _ hc rfl (by decide)) (ev.same (S0)) ?_
        walk_at "go"
        refine ⟨(show 2 ≤ 16777216 by decide), fun q2 hq2 => ?_⟩
        walk_at "go"
        exact k _ _ (same_new (S0) hq2) ((S0).free hq2) upd_same
      | 4, _ =>
        cases hz
        refine Rd.ixL W0 (at_of (j := 0) rfl rfl) ?_
        walk_at "go"
        refine ⟨(show 4 ≤ 16777216 by decide), fun q hq => ?_⟩
        obtain ⟨J0, eJ, sJ0, fJ⟩ := nwO (.tup [.str "BadPairs", .str "BadExchange", .str "BadRun", .str "BadText"]) hq
        rw [eJ]
        clear eJ
        refine ⟨_, _, rfl, .inr (SqT.of fJ), rfl, rfl, ?_⟩
        rw [show (if false = true then !inV (V.str "NoTerm") [V.str "BadPairs", V.str "BadExchange", V.str "BadRun", V.str "BadText"] else inV (V.str "NoTerm") [V.str "BadPairs", V.str "BadExchange", V.str "BadRun", V.str "BadText"]) = false by decide +kernel]
        have S0 := (SH).trans sJ0
        have V0 := sJ0.seq W0
        walk_at "go"
        refine Rd.ixL V0 (at_of (j := 0) rfl rfl) ?_
        walk_at "go"
        refine ⟨(show 3 ≤ 16777216 by decide), fun q hq => ?_⟩
        obtain ⟨J1, eJ, sJ1, fJ⟩ := nwO (.tup [.str "BadTerm", .str "BadNumber", .str "BadRuns"]) hq
        rw [eJ]
        clear eJ
        refine ⟨_, _, rfl, .inr (SqT.of fJ), rfl, rfl, ?_⟩
        rw [show (if false = true then !inV (V.str "NoTerm") [V.str "BadTerm", V.str "BadNumber", V.str "BadRuns"] else inV (V.str "NoTerm") [V.str "BadTerm", V.str "BadNumber", V.str "BadRuns"]) = false by decide +kernel]
        have S1 := (S0).trans sJ1
        have V1 := sJ1.seq V0
        walk_at "go"
        refine Rd.ixL V1 (at_of (j := 0) rfl rfl) ?_
        walk_at "go"
        refine ⟨(show 2 ≤ 16777216 by decide), fun q hq => ?_⟩
        obtain ⟨J2, eJ, sJ2, fJ⟩ := nwO (.tup [.str "OtherTasks", .str "NothingLeft"]) hq
        rw [eJ]
        clear eJ
        refine ⟨_, _, rfl, .inr (SqT.of fJ), rfl, rfl, ?_⟩
        rw [show (if false = true then !inV (V.str "NoTerm") [V.str "OtherTasks", V.str "NothingLeft"] else inV (V.str "NoTerm") [V.str "OtherTasks", V.str "NothingLeft"]) = false by decide +kernel]
        have S2 := (S1).trans sJ2
        have V2 := sJ2.seq V1
        walk_at "go"
        refine Rd.ixL V2 (at_of (j := 0) rfl rfl) ?_
        walk_at "go"
        rw [show decide (("NoTerm" : Str) = "NoTerm") = true by decide +kernel]
        walk_at "go"
        refine Rd.ixL V2 (at_of (j := 0) rfl rfl) ?_
        walk_at "go"
        cases v with
        | none => exact absurd hv.1 (by decide)
        | some y =>
        obtain ⟨f, ef, nf, ev⟩ := hv
        cases ef
        refine Exv.fldE (hC.is 4 C hc) (hC.no 4 C _ hc rfl (by decide)) (ev.same (S2)) ?_
        walk_at "go"
        refine ⟨(show 2 ≤ 16777216 by decide), fun q2 hq2 => ?_⟩
        walk_at "go"
        exact k _ _ (same_new (S2) hq2) ((S2).free hq2) upd_same
      | 5, _ =>
        cases hz
        refine Rd.ixL W0 (at_of (j := 0) rfl rfl) ?_
        walk_at "go"
        refine ⟨(show 4 ≤ 16777216 by decide), fun q hq => ?_⟩
        obtain ⟨J0, eJ, sJ0, fJ⟩ := nwO (.tup [.str "BadPairs", .str "BadExchange", .str "BadRun", .str "BadText"]) hq
        rw [eJ]
        clear eJ
        refine ⟨_, _, rfl, .inr (SqT.of fJ), rfl, rfl, ?_⟩
        rw [show (if false = true then !inV (V.str "OtherTasks") [V.str "BadPairs", V.str "BadExchange", V.str "BadRun", V.str "BadText"] else inV (V.str "OtherTasks") [V.str "BadPairs", V.str "BadExchange", V.str "BadRun", V.str "BadText"]) = false by decide +kernel]
        have S0 := (SH).trans sJ0
        have V0 := sJ0.seq W0
        walk_at "go"
        refine Rd.ixL V0 (at_of (j := 0) rfl rfl) ?_
        walk_at "go"
        refine ⟨(show 3 ≤ 16777216 by decide), fun q hq => ?_⟩
        obtain ⟨J1, eJ, sJ1, fJ⟩ := nwO (.tup [.str "BadTerm", .str "BadNumber", .str "BadRuns"]) hq
        rw [eJ]
        clear eJ
        refine ⟨_, _, rfl, .inr (SqT.of fJ), rfl, rfl, ?_⟩
        rw [show (if false = true then !inV (V.str "OtherTasks") [V.str "BadTerm", V.str "BadNumber", V.str "BadRuns"] else inV (V.str "OtherTasks") [V.str "BadTerm", V.str "BadNumber", V.str "BadRuns"]) = false by decide +kernel]
        have S1 := (S0).trans sJ1
        have V1 := sJ1.seq V0
        walk_at "go"
        refine Rd.ixL V1 (at_of (j := 0) rfl rfl) ?_
        walk_at "go"
        refine ⟨(show 2 ≤ 16777216 by decide), fun q hq => ?_⟩
        obtain ⟨J2, eJ, sJ2, fJ⟩ := nwO (.tup [.str "OtherTasks", .str "NothingLeft"]) hq
        rw [eJ]
        clear eJ
        refine ⟨_, _, rfl, .inr (SqT.of fJ), rfl, rfl, ?_⟩
        rw [show (if false = true then !inV (V.str "OtherTasks") [V.str "OtherTasks", V.str "NothingLeft"] else inV (V.str "OtherTasks") [V.str "OtherTasks", V.str "NothingLeft"]) = true by decide +kernel]
        have S2 := (S1).trans sJ2
        have V2 := sJ2.seq V1
        walk_at "go"
        refine Rd.ixL V2 (at_of (j := 0) rfl rfl) ?_
        walk_at "go"
        cases v with
        | some y => obtain ⟨f, ef, nf, ev⟩ := hv; cases ef; exact absurd rfl nf
        | none =>
        refine ⟨(show 1 ≤ 16777216 by decide), fun q2 hq2 => ?_⟩
        walk_at "go"
        exact k _ _ (same_new (S2) hq2) ((S2).free hq2) upd_same
      | 6, _ =>
        cases hz
        refine Rd.ixL W0 (at_of (j := 0) rfl rfl) ?_
        walk_at "go"
        refine ⟨(show 4 ≤ 16777216 by decide), fun q hq => ?_⟩
        obtain ⟨J0, eJ, sJ0, fJ⟩ := nwO (.tup [.str "BadPairs", .str "BadExchange", .str "BadRun", .str "BadText"]) hq
        rw [eJ]
        clear eJ
        refine ⟨_, _, rfl, .inr (SqT.of fJ), rfl, rfl, ?_⟩
        rw [show (if false = true then !inV (V.str "Lacks") [V.str "BadPairs", V.str "BadExchange", V.str "BadRun", V.str "BadText"] else inV (V.str "Lacks") [V.str "BadPairs", V.str "BadExchange", V.str "BadRun", V.str "BadText"]) = false by decide +kernel]
        have S0 := (SH).trans sJ0
        have V0 := sJ0.seq W0
        walk_at "go"
        refine Rd.ixL V0 (at_of (j := 0) rfl rfl) ?_
        walk_at "go"
        refine ⟨(show 3 ≤ 16777216 by decide), fun q hq => ?_⟩
        obtain ⟨J1, eJ, sJ1, fJ⟩ := nwO (.tup [.str "BadTerm", .str "BadNumber", .str "BadRuns"]) hq
        rw [eJ]
        clear eJ
        refine ⟨_, _, rfl, .inr (SqT.of fJ), rfl, rfl, ?_⟩
        rw [show (if false = true then !inV (V.str "Lacks") [V.str "BadTerm", V.str "BadNumber", V.str "BadRuns"] else inV (V.str "Lacks") [V.str "BadTerm", V.str "BadNumber", V.str "BadRuns"]) = false by decide +kernel]
        have S1 := (S0).trans sJ1
        have V1 := sJ1.seq V0
        walk_at "go"
        refine Rd.ixL V1 (at_of (j := 0) rfl rfl) ?_
        walk_at "go"
        refine ⟨(show 2 ≤ 16777216 by decide), fun q hq => ?_⟩
        obtain ⟨J2, eJ, sJ2, fJ⟩ := nwO (.tup [.str "OtherTasks", .str "NothingLeft"]) hq
        rw [eJ]
        clear eJ
        refine ⟨_, _, rfl, .inr (SqT.of fJ), rfl, rfl, ?_⟩
        rw [show (if false = true then !inV (V.str "Lacks") [V.str "OtherTasks", V.str "NothingLeft"] else inV (V.str "Lacks") [V.str "OtherTasks", V.str "NothingLeft"]) = false by decide +kernel]
        have S2 := (S1).trans sJ2
        have V2 := sJ2.seq V1
        walk_at "go"
        refine Rd.ixL V2 (at_of (j := 0) rfl rfl) ?_
        walk_at "go"
        rw [show decide (("Lacks" : Str) = "NoTerm") = false by decide +kernel]
        walk_at "go"
        refine Rd.ixL V2 (at_of (j := 0) rfl rfl) ?_
        walk_at "go"
        refine Rd.ixL V2 (at_of (j := 0) rfl rfl) ?_
        walk_at "go"
        rw [show decide (("Lacks" : Str) = "Lacks") = true by decide +kernel]
        walk_at "go"
        cases v with
        | none => exact absurd hv.1 (by decide)
        | some y =>
        obtain ⟨f, ef, nf, ev⟩ := hv
        cases ef
        refine Exv.fldE (hC.is 6 C hc) (hC.no 6 C _ hc rfl (by decide)) (ev.same (S2)) ?_
        walk_at "go"
        refine ⟨(show 2 ≤ 16777216 by decide), fun q2 hq2 => ?_⟩
        walk_at "go"
        exact k _ _ (same_new (S2) hq2) ((S2).free hq2) upd_same
      | 7, _ =>
        cases hz
        refine Rd.ixL W0 (at_of (j := 0) rfl rfl) ?_
        walk_at "go"
        refine ⟨(show 4 ≤ 16777216 by decide), fun q hq => ?_⟩
        obtain ⟨J0, eJ, sJ0, fJ⟩ := nwO (.tup [.str "BadPairs", .str "BadExchange", .str "BadRun", .str "BadText"]) hq
        rw [eJ]
        clear eJ
        refine ⟨_, _, rfl, .inr (SqT.of fJ), rfl, rfl, ?_⟩
        rw [show (if false = true then !inV (V.str "BadRun") [V.str "BadPairs", V.str "BadExchange", V.str "BadRun", V.str "BadText"] else inV (V.str "BadRun") [V.str "BadPairs", V.str "BadExchange", V.str "BadRun", V.str "BadText"]) = true by decide +kernel]
        have S0 := (SH).trans sJ0
        have V0 := sJ0.seq W0
        walk_at "go"
        refine Rd.ixL V0 (at_of (j := 0) rfl rfl) ?_
        walk_at "go"
        cases v with
        | none => exact absurd hv.1 (by decide)
        | some y =>
        obtain ⟨f, ef, nf, ev⟩ := hv
        cases ef
        refine Exv.fldE (hC.is 7 C hc) (hC.no 7 C _ hc rfl (by decide)) (ev.same (S0)) ?_
        walk_at "go"
        refine ⟨(show 2 ≤ 16777216 by decide), fun q2 hq2 => ?_⟩
        walk_at "go"
        exact k _ _ (same_new (S0) hq2) ((S0).free hq2) upd_same
      | 8, _ =>
        cases hz
        refine Rd.ixL W0 (at_of (j := 0) rfl rfl) ?_
        walk_at "go"
        refine ⟨(show 4 ≤ 16777216 by decide), fun q hq => ?_⟩
        obtain ⟨J0, eJ, sJ0, fJ⟩ := nwO (.tup [.str "BadPairs", .str "BadExchange", .str "BadRun", .str "BadText"]) hq
        rw [eJ]
        clear eJ
        refine ⟨_, _, rfl, .inr (SqT.of fJ), rfl, rfl, ?_⟩
        rw [show (if false = true then !inV (V.str "BadRuns") [V.str "BadPairs", V.str "BadExchange", V.str "BadRun", V.str "BadText"] else inV (V.str "BadRuns") [V.str "BadPairs", V.str "BadExchange", V.str "BadRun", V.str "BadText"]) = false by decide +kernel]
        have S0 := (SH).trans sJ0
        have V0 := sJ0.seq W0
        walk_at "go"
        refine Rd.ixL V0 (at_of (j := 0) rfl rfl) ?_
        walk_at "go"
        refine ⟨(show 3 ≤ 16777216 by decide), fun q hq => ?_⟩
        obtain ⟨J1, eJ, sJ1, fJ⟩ := nwO (.tup [.str "BadTerm", .str "BadNumber", .str "BadRuns"]) hq
        rw [eJ]
        clear eJ
        refine ⟨_, _, rfl, .inr (SqT.of fJ), rfl, rfl, ?_⟩
        rw [show (if false = true then !inV (V.str "BadRuns") [V.str "BadTerm", V.str "BadNumber", V.str "BadRuns"] else inV (V.str "BadRuns") [V.str "BadTerm", V.str "BadNumber", V.str "BadRuns"]) = true by decide +kernel]
        have S1 := (S0).trans sJ1
        have V1 := sJ1.seq V0
        walk_at "go"
        refine Rd.ixL V1 (at_of (j := 0) rfl rfl) ?_
        walk_at "go"
        cases v with
        | none => exact absurd hv.1 (by decide)
        | some y =>
        obtain ⟨f, ef, nf, ev⟩ := hv
        cases ef
        refine Exv.fldE (hC.is 8 C hc) (hC.no 8 C _ hc rfl (by decide)) (ev.same (S1)) ?_
        walk_at "go"
        refine ⟨(show 2 ≤ 16777216 by decide), fun q2 hq2 => ?_⟩
        walk_at "go"
        exact k _ _ (same_new (S1) hq2) ((S1).free hq2) upd_same
      | 9, _ =>
        cases hz
        refine Rd.ixL W0 (at_of (j := 0) rfl rfl) ?_
        walk_at "go"
        refine ⟨(show 4 ≤ 16777216 by decide), fun q hq => ?_⟩
        obtain ⟨J0, eJ, sJ0, fJ⟩ := nwO (.tup [.str "BadPairs", .str "BadExchange", .str "BadRun", .str "BadText"]) hq
        rw [eJ]
        clear eJ
        refine ⟨_, _, rfl, .inr (SqT.of fJ), rfl, rfl, ?_⟩
        rw [show (if false = true then !inV (V.str "BadText") [V.str "BadPairs", V.str "BadExchange", V.str "BadRun", V.str "BadText"] else inV (V.str "BadText") [V.str "BadPairs", V.str "BadExchange", V.str "BadRun", V.str "BadText"]) = true by decide +kernel]
        have S0 := (SH).trans sJ0
        have V0 := sJ0.seq W0
        walk_at "go"
        refine Rd.ixL V0 (at_of (j := 0) rfl rfl) ?_
        walk_at "go"
        cases v with
        | none => exact absurd hv.1 (by decide)
        | some y =>
        obtain ⟨f, ef, nf, ev⟩ := hv
        cases ef
        refine Exv.fldE (hC.is 9 C hc) (hC.no 9 C _ hc rfl (by decide)) (ev.same (S0)) ?_
        walk_at "go"
        refine ⟨(show 2 ≤ 16777216 by decide), fun q2 hq2 => ?_⟩
        walk_at "go"
        exact k _ _ (same_new (S0) hq2) ((S0).free hq2) upd_same
      | 10, _ =>
        cases hz
        refine Rd.ixL W0 (at_of (j := 0) rfl rfl) ?_
        walk_at "go"
        refine ⟨(show 4 ≤ 16777216 by decide), fun q hq => ?_⟩
        obtain ⟨J0, eJ, sJ0, fJ⟩ := nwO (.tup [.str "BadPairs", .str "BadExchange", .str "BadRun", .str "BadText"]) hq
        rw [eJ]
        clear eJ
        refine ⟨_, _, rfl, .inr (SqT.of fJ), rfl, rfl, ?_⟩
        rw [show (if false = true then !inV (V.str "NothingLeft") [V.str "BadPairs", V.str "BadExchange", V.str "BadRun", V.str "BadText"] else inV (V.str "NothingLeft") [V.str "BadPairs", V.str "BadExchange", V.str "BadRun", V.str "BadText"]) = false by decide +kernel]
        have S0 := (SH).trans sJ0
        have V0 := sJ0.seq W0
        walk_at "go"
        refine Rd.ixL V0 (at_of (j := 0) rfl rfl) ?_
        walk_at "go"
        refine ⟨(show 3 ≤ 16777216 by decide), fun q hq => ?_⟩
        obtain ⟨J1, eJ, sJ1, fJ⟩ := nwO (.tup [.str "BadTerm", .str "BadNumber", .str "BadRuns"]) hq
        rw [eJ]
        clear eJ
        refine ⟨_, _, rfl, .inr (SqT.of fJ), rfl, rfl, ?_⟩
        rw [show (if false = true then !inV (V.str "NothingLeft") [V.str "BadTerm", V.str "BadNumber", V.str "BadRuns"] else inV (V.str "NothingLeft") [V.str "BadTerm", V.str "BadNumber", V.str "BadRuns"]) = false by decide +kernel]
        have S1 := (S0).trans sJ1
        have V1 := sJ1.seq V0
        walk_at "go"
        refine Rd.ixL V1 (at_of (j := 0) rfl rfl) ?_
        walk_at "go"
        refine ⟨(show 2 ≤ 16777216 by decide), fun q hq => ?_⟩
        obtain ⟨J2, eJ, sJ2, fJ⟩ := nwO (.tup [.str "OtherTasks", .str "NothingLeft"]) hq
        rw [eJ]
        clear eJ
        refine ⟨_, _, rfl, .inr (SqT.of fJ), rfl, rfl, ?_⟩
        rw [show (if false = true then !inV (V.str "NothingLeft") [V.str "OtherTasks", V.str "NothingLeft"] else inV (V.str "NothingLeft") [V.str "OtherTasks", V.str "NothingLeft"]) = true by decide +kernel]
        have S2 := (S1).trans sJ2
        have V2 := sJ2.seq V1
        walk_at "go"
        refine Rd.ixL V2 (at_of (j := 0) rfl rfl) ?_
        walk_at "go"
        cases v with
        | some y => obtain ⟨f, ef, nf, ev⟩ := hv; cases ef; exact absurd rfl nf
        | none =>
        refine ⟨(show 1 ≤ 16777216 by decide), fun q2 hq2 => ?_⟩
        walk_at "go"
        exact k _ _ (same_new (S2) hq2) ((S2).free hq2) upd_same
      | 11, _ =>
        cases hz
        refine Rd.ixL W0 (at_of (j := 0) rfl rfl) ?_
        walk_at "go"
        refine ⟨(show 4 ≤ 16777216 by decide), fun q hq => ?_⟩
        obtain ⟨J0, eJ, sJ0, fJ⟩ := nwO (.tup [.str "BadPairs", .str "BadExchange", .str "BadRun", .str "BadText"]) hq
        rw [eJ]
        clear eJ
        refine ⟨_, _, rfl, .inr (SqT.of fJ), rfl, rfl, ?_⟩
        rw [show (if false = true then !inV (V.str "TooGreat") [V.str "BadPairs", V.str "BadExchange", V.str "BadRun", V.str "BadText"] else inV (V.str "TooGreat") [V.str "BadPairs", V.str "BadExchange", V.str "BadRun", V.str "BadText"]) = false by decide +kernel]
        have S0 := (SH).trans sJ0
        have V0 := sJ0.seq W0
        walk_at "go"
        refine Rd.ixL V0 (at_of (j := 0) rfl rfl) ?_
        walk_at "go"
        refine ⟨(show 3 ≤ 16777216 by decide), fun q hq => ?_⟩
        obtain ⟨J1, eJ, sJ1, fJ⟩ := nwO (.tup [.str "BadTerm", .str "BadNumber", .str "BadRuns"]) hq
        rw [eJ]
        clear eJ
        refine ⟨_, _, rfl, .inr (SqT.of fJ), rfl, rfl, ?_⟩
        rw [show (if false = true then !inV (V.str "TooGreat") [V.str "BadTerm", V.str "BadNumber", V.str "BadRuns"] else inV (V.str "TooGreat") [V.str "BadTerm", V.str "BadNumber", V.str "BadRuns"]) = false by decide +kernel]
        have S1 := (S0).trans sJ1
        have V1 := sJ1.seq V0
        walk_at "go"
        refine Rd.ixL V1 (at_of (j := 0) rfl rfl) ?_
        walk_at "go"
        refine ⟨(show 2 ≤ 16777216 by decide), fun q hq => ?_⟩
        obtain ⟨J2, eJ, sJ2, fJ⟩ := nwO (.tup [.str "OtherTasks", .str "NothingLeft"]) hq
        rw [eJ]
        clear eJ
        refine ⟨_, _, rfl, .inr (SqT.of fJ), rfl, rfl, ?_⟩
        rw [show (if false = true then !inV (V.str "TooGreat") [V.str "OtherTasks", V.str "NothingLeft"] else inV (V.str "TooGreat") [V.str "OtherTasks", V.str "NothingLeft"]) = false by decide +kernel]
        have S2 := (S1).trans sJ2
        have V2 := sJ2.seq V1
        walk_at "go"
        refine Rd.ixL V2 (at_of (j := 0) rfl rfl) ?_
        walk_at "go"
        rw [show decide (("TooGreat" : Str) = "NoTerm") = false by decide +kernel]
        walk_at "go"
        refine Rd.ixL V2 (at_of (j := 0) rfl rfl) ?_
        walk_at "go"
        refine Rd.ixL V2 (at_of (j := 0) rfl rfl) ?_
        walk_at "go"
        rw [show decide (("TooGreat" : Str) = "Lacks") = false by decide +kernel]
        walk_at "go"
        cases v with
        | none => exact absurd hv.1 (by decide)
        | some y =>
        obtain ⟨f, ef, nf, ev⟩ := hv
        cases ef
        refine Exv.fldE (hC.is 11 C hc) (hC.no 11 C _ hc rfl (by decide)) (ev.same (S2)) ?_
        walk_at "go"
        refine ⟨(show 2 ≤ 16777216 by decide), fun q2 hq2 => ?_⟩
        walk_at "go"
        exact k _ _ (same_new (S2) hq2) ((S2).free hq2) upd_same
      | (m + 12), h => omega
end
end Bb
namespace Bb
open PySem L2
/-! ## the draws' state beside other objects -/
section
variable {K : PySem.W.Frag} {H H' : Hp} {d g : Addr} {N : Nat}
theorem MS.dn {p : Addr} (m : MS H d g N) (h : H p = none) : p ≠ d ∧ p ≠ g := by
  obtain ⟨c, cs, gs, n, h1, h2, h3, _⟩ := m
  exact ⟨fun z => (by rw [z, h1] at h; cases h), fun z => (by rw [z, h3] at h; cases h)⟩
theorem Kp.tup {p : Addr} {xs : List V} (k : Kp d g H H') (m : MS H d g N) (h : H p = some (.tup xs)) : H' p = some (.tup xs) := by
  obtain ⟨c, cs, gs, n, h1, h2, h3, _⟩ := m
  exact k _ _ (ne_of h h1 fun z => by cases z) (ne_of h h3 fun z => by cases z) h
theorem Kp.ins {p C dx : Addr} {fs : List (Str × V)} (k : Kp d g H H') (m : MS H d g N) (h : H p = some (.ins C dx fs)) : H' p = some (.ins C dx fs) := by
  obtain ⟨c, cs, gs, n, h1, h2, h3, _⟩ := m
  exact k _ _ (ne_of h h1 fun z => by cases z) (ne_of h h3 fun z => by cases z) h
theorem Kp.frz {p : Addr} {o : Obj} {u : HO} (k : Kp d g H H') (m : MS H d g N) (h : H p = some (.frz o u)) : H' p = some (.frz o u) := by
  obtain ⟨c, cs, gs, n, h1, h2, h3, _⟩ := m
  exact k _ _ (ne_of h h1 fun z => by cases z) (ne_of h h3 fun z => by cases z) h
theorem PairV.kp {v : V} {p : Nat × Nat} (h : PairV K H v p) (k : Kp d g H H') (m : MS H d g N) : PairV K H' v p := by
  obtain ⟨t, e, q⟩ := h
  refine ⟨t, e, ?_⟩
  rcases q with (q | ⟨o, q⟩) | q
  · exact .inl (.inl (k.tup m q))
  · exact .inl (.inr ⟨o, k.frz m q⟩)
  · exact .inr q
theorem paired_kp {xs : List V} {ps : List (Nat × Nat)} (h : Paired (PairV K H) xs ps) (k : Kp d g H H') (m : MS H d g N) : Paired (PairV K H') xs ps := by
  induction h with
  | nil => exact .nil
  | cons r _ ih => exact .cons (r.kp k m) ih
theorem OrdAt.kp {C o n : Nat} {B : List Nat} (h : OrdAt K C H o n B) (k : Kp d g H H') (m : MS H d g N) : OrdAt K C H' o n B := by
  obtain ⟨dx, tb, tp, xs, h1, h2, h3, h4, h5⟩ := h
  exact ⟨dx, tb, tp, xs, k.ins m h1, k.tup m h2, k.tup m h3, paired_kp h4 k m, h5⟩
end
/-- the class Order, as it is made -/
def OrdMk (P : Program) (w : World) (K : PySem.W.Frag) (mg : Str → Option Value) (base : Heap) (C : Addr) : Prop :=
  mg "Order" = some (.ref C) ∧ ∃ (fI : Addr) (fd : FuncData) (ps : List Str), Mk K C fI ∧ Binds K fd ps [] ∧ FnOk P w K mg base CX0 4 fI fd ps (spOrdInit K C)
theorem pe_ord {X : Cx} {C : Addr} {e : Expr} {es : List Expr} {t : TA} {p pos : Pos} (M : OrdMk X.prog X.w X.K X.mg X.base C) (hr : Room 5 X.A) (ha : PA X (e :: es) t) (hg : Gl X "Order" := by rfl)
    (he : starEach (e :: es) X.env = (false, eval e X.env) :: starEach es X.env := by rfl) (hpl : (backTo pos (starEach es X.env)).any (·.1) = false := by rfl) : PE X (.Call (.Name "Order" p) (e :: es) [] pos) (tMake C (spOrdInit X.K C) [] E0 t) := by
  obtain ⟨hm, fI, fd, ps, M, b, F⟩ := M
  exact pe_make M F hr hg hm b .nil pass0 ha (by decide) he hpl
/-- a new order of n tasks from the list or tuple at a -/
theorem mkOrdA {K : PySem.W.Frag} {C a : Addr} {H : Hp} {Q : VK} {n : Nat} {xs : List V} {ps : List (Nat × Nat)} (hS : Rd.SqA K H a xs) (hP : Paired (PairV K H) xs ps) (hn : 0 < n ∧ n ≤ 12) (hG : Good n (List.replicate n 0) ps)
    (q : ∀ x H', Same H H' → H x = none → OrdAt K C H' x n (putAll (List.replicate n 0) ps) → Q (.ref x) H') : Rd.rMake C (spOrdInit K C) [.int n, .ref a] H Q := fun x dx hx hdx hne => by
  have s : Same H (upd (upd H dx (.own x)) x (.ins C dx [])) := same_up (same1 hdx) hx
  exact ⟨x, dx, n, a, xs, ps, rfl, upd_same, hS.same s, paired_same hP s, hn, hG, fun H' k o => ⟨rfl, q x H' (fun b u e => k b u (ne_of_none e hx) (s b u e)) hx o⟩⟩
theorem mkOrd {K : PySem.W.Frag} {C a : Addr} {H : Hp} {Q : VK} {n : Nat} {xs : List V} {ps : List (Nat × Nat)} (hS : SqL K H a xs) (hP : Paired (PairV K H) xs ps) (hn : 0 < n ∧ n ≤ 12) (hG : Good n (List.replicate n 0) ps)
    (q : ∀ x H', Same H H' → H x = none → OrdAt K C H' x n (putAll (List.replicate n 0) ps) → Q (.ref x) H') : Rd.rMake C (spOrdInit K C) [.int n, .ref a] H Q := mkOrdA (.inl hS) hP hn hG q
/-- what stands beside an order and is none -/
structure OddC (K : PySem.W.Frag) (C : Addr) : Prop where
  nf : ∀ T ∈ ["NoneType", "int", "str", "list", "tuple", "dict"], PySem.W.notFirst K C (.type T) = true ∧ PySem.W.kitOne K (.type T) (.ref C) = some false
  self : PySem.W.notFirst K C (.ref C) = true ∧ PySem.W.kitOne K (.ref C) (.ref C) = some true
def Odd (K : PySem.W.Frag) (C : Addr) (H : Hp) (v : V) : Prop := Cmq.LeftT H v ∧ ∃ t, TyX K H v t ∧ PySem.W.notFirst K C t = true ∧ PySem.W.kitOne K t (.ref C) = some false
section
variable {K : PySem.W.Frag} {C a : Addr} {H : Hp} (O : OddC K C)
include O
theorem odd_non : Odd K C H .non := ⟨.non, _, .base .non, (O.nf "NoneType" (by decide)).1, (O.nf "NoneType" (by decide)).2⟩
theorem odd_int (i : Int) : Odd K C H (.int i) := ⟨.int i, _, .base (.int i), (O.nf "int" (by decide)).1, (O.nf "int" (by decide)).2⟩
theorem odd_str (z : Str) : Odd K C H (.str z) := ⟨.str z, _, .base (.str z), (O.nf "str" (by decide)).1, (O.nf "str" (by decide)).2⟩
theorem odd_lst {xs : List V} (h : H a = some (.lst xs)) : Odd K C H (.ref a) := ⟨.lst h, _, .base (.lst h), (O.nf "list" (by decide)).1, (O.nf "list" (by decide)).2⟩
theorem odd_tup {xs : List V} (h : H a = some (.tup xs)) : Odd K C H (.ref a) := ⟨.tup h, _, .base (.tup h), (O.nf "tuple" (by decide)).1, (O.nf "tuple" (by decide)).2⟩
theorem odd_dict {kvs : List (Key × V)} (h : H a = some (.dK kvs)) : Odd K C H (.ref a) := ⟨.dict h, _, .base (.dK h), (O.nf "dict" (by decide)).1, (O.nf "dict" (by decide)).2⟩
end
theorem Odd.same {K : PySem.W.Frag} {C : Addr} {H H' : Hp} {v : V} (O : OddC K C) (h : Odd K C H v) (s : Same H H') : Odd K C H' v := by
  obtain ⟨l, _⟩ := h
  cases l with
  | non => exact odd_non O
  | int i => exact odd_int O i
  | str z => exact odd_str O z
  | lst e => exact odd_lst O (s _ _ e)
  | tup e => exact odd_tup O (s _ _ e)
  | dict e => exact odd_dict O (s _ _ e)
def goodB (n : Nat) : List Nat → List (Nat × Nat) → Bool
  | _, [] => true
  | B, p :: ps => decide (p.1 < n) && (decide (p.2 < n) && (decide (p.1 ≠ p.2) && (!(B.getD p.2 0).testBit p.1 && goodB n (put B p.1 p.2) ps)))
theorem good_of {n : Nat} : ∀ {ps : List (Nat × Nat)} {B : List Nat}, goodB n B ps = true → Good n B ps
  | [], _, _ => trivial
  | p :: ps, B, h => by
    unfold goodB at h
    simp only [Bool.and_eq_true, decide_eq_true_eq, Bool.not_eq_true'] at h
    exact ⟨h.1, h.2.1, h.2.2.1, h.2.2.2.1, good_of h.2.2.2.2⟩
theorem ofInts {K : PySem.W.Frag} {H : Hp} {t : Addr} {a b : Nat} (h : H t = some (.tup [.int (a : Int), .int (b : Int)])) : PairV K H (.ref t) (a, b) := ⟨t, rfl, SqT.of h⟩
theorem paired_rev {α β : Type} {R : α → β → Prop} {xs : List α} {ys : List β} (h : Paired R xs ys) : Paired R xs.reverse ys.reverse := by
  induction h with
  | nil => exact .nil
  | cons r _ ih =>
    rw [List.reverse_cons, List.reverse_cons]
    exact paired_app ih (.cons r .nil)
theorem newO {H : Hp} {p : Addr} (o : HO) (hp : H p = none) : ∃ H', upd H p o = H' ∧ Same H H' ∧ H' p = some o := ⟨_, rfl, same1 hp, upd_same⟩
end Bb
namespace Bb
open PySem L2
def wds : List Str := ["BadPairs", "BadExchange", "BadRun", "BadText", "BadTerm", "BadNumber", "BadRuns", "NoTerm", "Lacks", "TooGreat", "OtherTasks", "NothingLeft"]
def perm : List Nat := [0, 3, 7, 9, 1, 2, 8, 4, 6, 11, 5, 10]
/-- what repr shows of (word, q) and of [q, q, q] -/
def okT (d : PyData) : Bool := (wds.all fun w => (PyData.tuple [.str w, d]).showable && (decide ((PyData.tuple [.str w, d]).depth ≤ 40) && decide ((PyData.tuple [.str w, d]).shown.length ≤ sizeLine))) && ((PyData.list [d, d, d]).showable && (decide ((PyData.list [d, d, d]).depth ≤ 40) && decide ((PyData.list [d, d, d]).shown.length ≤ sizeLine)))
structure QS (K : PySem.W.Frag) (C d g : Addr) (H : Hp) (q : V) (dd : PyData) : Prop where
  tup : ∀ H' p w, Same H H' → w ∈ wds → H' p = some (.tup [.str w, q]) → Rd.DrE K H' (.ref p) (.tuple [.str w, dd])
  lst : ∀ H' p, Same H H' → H' p = some (.lst [q, q, q]) → Rd.DrE K H' (.ref p) (.list [dd, dd, dd])
  odd : ∀ H1 H2 N, Same H H1 → MS H1 d g N → Kp d g H1 H2 → Odd K C H2 q
theorem okT_tup {d : PyData} (h : okT d = true) {w : Str} (hw : w ∈ wds) : (PyData.tuple [.str w, d]).showable = true ∧ (PyData.tuple [.str w, d]).depth ≤ 40 ∧ (PyData.tuple [.str w, d]).shown.length ≤ sizeLine := by
  unfold okT at h
  rw [Bool.and_eq_true, List.all_eq_true] at h
  have z := h.1 w hw
  rw [Bool.and_eq_true, Bool.and_eq_true, decide_eq_true_eq, decide_eq_true_eq] at z
  exact z
theorem okT_lst {d : PyData} (h : okT d = true) : (PyData.list [d, d, d]).showable = true ∧ (PyData.list [d, d, d]).depth ≤ 40 ∧ (PyData.list [d, d, d]).shown.length ≤ sizeLine := by
  unfold okT at h
  rw [Bool.and_eq_true, Bool.and_eq_true, Bool.and_eq_true, decide_eq_true_eq, decide_eq_true_eq] at h
  exact h.2
theorem QS.dat {K : PySem.W.Frag} {C d g : Addr} {H : Hp} {q : V} {dd : PyData} (h : ∀ H', Same H H' → Dp K H' q dd) (hn : dd.hasDict = false) (hk : okT dd = true) (odd : ∀ H1 H2 N, Same H H1 → MS H1 d g N → Kp d g H1 H2 → Odd K C H2 q) : QS K C d g H q dd where
  tup := fun H' p w s hw hp => .dr (.dat (.tup (SqT.of hp) (.cons (.str w) (.cons (h H' s) .nil))) ⟨(okT_tup hk hw).1, by simp [PyData.hasDict, PyData.hasDictAll, hn], (okT_tup hk hw).2.1, (okT_tup hk hw).2.2⟩)
  lst := fun H' p s hp => .dr (.dat (.lst (SqL.of hp) (.cons (h H' s) (.cons (h H' s) (.cons (h H' s) .nil)))) ⟨(okT_lst hk).1, by simp [PyData.hasDict, PyData.hasDictAll, hn], (okT_lst hk).2.1, (okT_lst hk).2.2⟩)
  odd := odd
theorem QS.emp {K : PySem.W.Frag} {C d g e : Addr} {H : Hp} (h : H e = some (.dK [])) (hk : okT (.dict []) = true) (odd : ∀ H1 H2 N, Same H H1 → MS H1 d g N → Kp d g H1 H2 → Odd K C H2 (.ref e)) : QS K C d g H (.ref e) (.dict []) where
  tup := fun H' p w s hw hp => .tup hp (.cons (.str w) (.cons (.dict (s _ _ h)) .nil)) (okT_tup hk hw).1 (okT_tup hk hw).2.1 (okT_tup hk hw).2.2
  lst := fun H' p s hp => .lst hp (.cons (.dict (s _ _ h)) (.cons (.dict (s _ _ h)) (.cons (.dict (s _ _ h)) .nil))) (by simp) (okT_lst hk).1 (okT_lst hk).2.1 (okT_lst hk).2.2
  odd := odd
theorem QS.same {K : PySem.W.Frag} {C d g : Addr} {H H' : Hp} {q : V} {dd : PyData} (h : QS K C d g H q dd) (s : Same H H') : QS K C d g H' q dd :=
  ⟨fun H2 p w s2 => h.tup H2 p w (s.trans s2), fun H2 p s2 => h.lst H2 p (s.trans s2), fun H1 H2 N s2 => h.odd H1 H2 N (s.trans s2)⟩
theorem ErrAt.same {cs : List Addr} {H H' : Hp} {a : Addr} {i : Nat} {v : Option V} (h : ErrAt cs H a i v) (s : Same H H') : ErrAt cs H' a i v := by
  obtain ⟨C, hc, q⟩ := h
  refine ⟨C, hc, ?_⟩
  cases v with
  | some y => exact q.imp fun f z => ⟨z.1, z.2.1, z.2.2.same s⟩
  | none => exact ⟨q.1, q.2.same s⟩
def okW : Bool := wds.all fun w => (PyData.tuple [.str w]).showable && (decide ((PyData.tuple [.str w]).depth ≤ 40) && decide ((PyData.tuple [.str w]).shown.length ≤ sizeLine))
theorem okW_at {w : Str} (hw : w ∈ wds) : Rd.Shows (.tuple [.str w]) := by
  have h : okW = true := by decide +kernel
  unfold okW at h
  rw [List.all_eq_true] at h
  have z := h w hw
  rw [Bool.and_eq_true, Bool.and_eq_true, decide_eq_true_eq, decide_eq_true_eq] at z
  exact ⟨z.1, by simp [PyData.hasDict, PyData.hasDictAll], z.2.1, z.2.2⟩
abbrev sLaw : Stmt := top 31
section
variable {P : Program} {w : World} {K : PySem.W.Frag} {mg : Str → Option Value} {base : Heap}
theorem scLaw : FnScope ["script", "m", "q", "some", "words", "n", "due", "told", "own", "odd"] ["script"] (defScope sLaw) := ⟨rfl, rfl, rfl, by decide +kernel, rfl, by decide +kernel, by decide +kernel⟩
def spLaw (K : PySem.W.Frag) : Sp := fun vs H Q _ => ∃ (a : Addr) (ns : List Int), vs = [.ref a] ∧ SqL K H a (ns.map V.int) ∧ ns.length ≤ 63 ∧ ∀ H', Q (.bl true) H'
theorem ok_law {f C : Addr} {fd : FuncData} (F : Fun K "law" "law" sLaw f fd) (O : OddC K C) (T : OrdC K C) {C0 C1 C2 C3 C4 C5 C6 C7 C8 C9 C10 C11 CT : Addr} (hC : Twelve K [C0, C1, C2, C3, C4, C5, C6, C7, C8, C9, C10, C11])
    (hT : ∀ (i : Nat) c, [C0, C1, C2, C3, C4, C5, C6, C7, C8, C9, C10, C11][i]? = some c → PySem.W.kitOne K (.ref c) (.ref CT) = some (decide (i < 11)))
    (m_BadPairs : Exv.Maker P w K mg base "BadPairs" "place" C0)
    (m_BadTerm : Exv.Maker P w K mg base "BadTerm" "value" C1)
    (m_BadNumber : Exv.Maker P w K mg base "BadNumber" "value" C2)
    (m_BadExchange : Exv.Maker P w K mg base "BadExchange" "place" C3)
    (m_NoTerm : Exv.Maker P w K mg base "NoTerm" "four" C4)
    (m_OtherTasks : Exv.Maker0 K mg "OtherTasks" C5)
    (m_Lacks : Exv.Maker P w K mg base "Lacks" "pair" C6)
    (m_BadRun : Exv.Maker P w K mg base "BadRun" "place" C7)
    (m_BadRuns : Exv.Maker P w K mg base "BadRuns" "value" C8)
    (m_BadText : Exv.Maker P w K mg base "BadText" "place" C9)
    (m_NothingLeft : Exv.Maker0 K mg "NothingLeft" C10)
    (m_TooGreat : Exv.Maker P w K mg base "TooGreat" "most" C11)
    (g_TaskError : mg "TaskError" = some (.ref CT)) (t_repr : mg "repr" = none) (t_isinstance : mg "isinstance" = none) (t_range : mg "range" = none) (t_ValueError : mg "ValueError" = none) (t_OverflowError : mg "OverflowError" = none)
    (m_Order : OrdMk P w K mg base C) (eqr : Cmq.Eqr P w K mg base 1 C ["self", "other"] (spOrdEq K C))
    (c__law_begun : Rd.Callee P w K mg base CX0 2 "_law_begun" ["script"] (spBegun K)) (c__law_draw : Rd.Callee P w K mg base CX0 2 "_law_draw" ["m", "limit"] spDraw) (c__law_class : Rd.Callee P w K mg base CX0 1 "_law_class" ["error"] (spClass [C0, C1, C2, C3, C4, C5, C6, C7, C8, C9, C10, C11])) :
    Rd.FnOkG P w K mg base CX0 6 f fd ["script"] (spLaw K) := by
  refine Rd.okG F scLaw (fun vs H Q E h => ?_) (fun cdv A outer s H vs Q E hG hr h => ?_)
  · obtain ⟨a, ns, rfl, _⟩ := h
    rfl
  · obtain ⟨a, ns, rfl, hS, hlen, k⟩ := h
    refine ⟨_, 
      (pss_cons (ps_set (i := 1) scLaw.nd rfl (Or.inl rfl) (Rd.pe_callC c__law_begun (hr.mono (by decide)) (pa_cons (pv 0) pa_nil)))
      (pss_cons (ps_set (i := 2) scLaw.nd rfl (Or.inl rfl) (pe_ix (r := rIxL K) (by exact ix_list) (pe_lst (pa_cons pe_non (pa_cons pe_int (pa_cons pe_int (pa_cons (pe_tup (pa_cons pe_int (pa_cons pe_int pa_nil))) (pa_cons pe_str (pa_cons (pe_lst (pa_cons pe_int pa_nil)) (pa_cons pe_dnewK (pa_cons (pe_op op_pow pe_int pe_int) pa_nil))))))))) (Rd.pe_callC c__law_draw (hr.mono (by decide)) (pa_cons (pv 1) (pa_cons pe_int pa_nil))) (fun _ _ => rfl)))
      (pss_cons (ps_set (i := 3) scLaw.nd rfl (Or.inl rfl) (pe_lst (pa_cons (Exv.pe_mk m_BadPairs (hr.mono (by decide)) (pa_cons (pv 2) pa_nil)) (pa_cons (Exv.pe_mk m_BadExchange (hr.mono (by decide)) (pa_cons (pv 2) pa_nil)) (pa_cons (Exv.pe_mk m_BadRun (hr.mono (by decide)) (pa_cons (pv 2) pa_nil)) (pa_cons (Exv.pe_mk m_BadText (hr.mono (by decide)) (pa_cons (pv 2) pa_nil)) (pa_cons (Exv.pe_mk m_BadTerm (hr.mono (by decide)) (pa_cons (pv 2) pa_nil)) (pa_cons (Exv.pe_mk m_BadNumber (hr.mono (by decide)) (pa_cons (pv 2) pa_nil)) (pa_cons (Exv.pe_mk m_BadRuns (hr.mono (by decide)) (pa_cons (pv 2) pa_nil)) (pa_cons (Exv.pe_mk m_NoTerm (hr.mono (by decide)) (pa_cons (pv 2) pa_nil)) pa_nil))))))))))
      (pss_cons (ps_set (i := 3) scLaw.nd rfl (Or.inl rfl) (pe_op op_cat (pv 3) (pe_lst (pa_cons (Exv.pe_mk m_Lacks (hr.mono (by decide)) (pa_cons (pv 2) pa_nil)) (pa_cons (Exv.pe_mk m_TooGreat (hr.mono (by decide)) (pa_cons (pv 2) pa_nil)) (pa_cons (Exv.pe_mk0 m_OtherTasks) (pa_cons (Exv.pe_mk0 m_NothingLeft) pa_nil)))))))
      (pss_cons (ps_set (i := 4) scLaw.nd rfl (Or.inl rfl) (pe_lst (pa_cons pe_str (pa_cons pe_str (pa_cons pe_str (pa_cons pe_str (pa_cons pe_str (pa_cons pe_str (pa_cons pe_str (pa_cons pe_str (pa_cons pe_str pa_nil)))))))))))
      (pss_cons (ps_set (i := 4) scLaw.nd rfl (Or.inl rfl) (pe_op op_cat (pv 4) (pe_lst (pa_cons pe_str (pa_cons pe_str (pa_cons pe_str pa_nil))))))
      (pss_cons (ps_for PassesOwn.never rfl (pi_range1 (by rfl) t_range (pa_cons pe_int pa_nil)) (pg_name (i := 5) scLaw.nd rfl (Or.inl rfl)) 
        (pss_cons (ps_set (i := 6) scLaw.nd rfl (Or.inl rfl) (pe_ifExp (pt_cmpR op_lt (pv 5) pe_int (nomark _)) (pe_tup (pa_cons (pe_ix (r := rIxL K) (by exact ix_list) (pv 4) (pv 5) (fun _ _ => rfl)) (pa_cons (pv 2) pa_nil))) (pe_tup (pa_cons (pe_ix (r := rIxL K) (by exact ix_list) (pv 4) (pv 5) (fun _ _ => rfl)) pa_nil))))
        (pss_cons (ps_if (pt_cmpR op_ne (pe_callB (id := "repr") (r := Rd.rReprE K) (by exact Rd.call_reprE hr hG) (by rfl) t_repr (by decide +kernel) (pa_cons (Rd.pe_callC c__law_class (hr.mono (by decide)) (pa_cons (pe_ix (r := rIxL K) (by exact ix_list) (pv 3) (pv 5) (fun _ _ => rfl)) pa_nil)) pa_nil)) (pe_callB (id := "repr") (r := Rd.rReprE K) (by exact Rd.call_reprE hr hG) (by rfl) t_repr (by decide +kernel) (pa_cons (pv 6) pa_nil)) (nomark _)) 
          (pss_one (ps_ret pe_bl)) pss_nil)
        (pss_cons (ps_if (PW.pt (pw_or (pt_cmpR op_ne (pe_callB Exv.call_isX (by rfl) t_isinstance (by decide +kernel) (pa_cons (pe_ix (r := rIxL K) (by exact ix_list) (pv 3) (pv 5) (fun _ _ => rfl)) (pa_cons (Rd.pe_cls g_TaskError) pa_nil))) (pe_cmpR op_ne (pv 5) pe_int (nomark _)) (nomark _)) (pw_or1 (pt_cmpR op_ne (pe_callB Exv.call_isX (by rfl) t_isinstance (by decide +kernel) (pa_cons (pe_ix (r := rIxL K) (by exact ix_list) (pv 3) (pv 5) (fun _ _ => rfl)) (pa_cons (pe_bltn (v := .ty "ValueError") (by rfl) t_ValueError (by decide +kernel) rfl) pa_nil))) (pe_cmpR op_ne (pv 5) pe_int (nomark _)) (nomark _))))) 
          (pss_one (ps_ret pe_bl)) pss_nil)
        (pss_one (ps_if (pt_cmpR op_ne (pe_callB Exv.call_isX (by rfl) t_isinstance (by decide +kernel) (pa_cons (pe_ix (r := rIxL K) (by exact ix_list) (pv 3) (pv 5) (fun _ _ => rfl)) (pa_cons (pe_bltn (v := .ty "OverflowError") (by rfl) t_OverflowError (by decide +kernel) rfl) pa_nil))) (pe_cmpR op_eq (pv 5) pe_int (nomark _)) (nomark _)) 
          (pss_one (ps_ret pe_bl)) pss_nil))))))
      (pss_cons (ps_set (i := 7) scLaw.nd rfl (Or.inl rfl) (pe_lst (pa_cons (Exv.pe_xfld (Exv.pe_mkK m_BadRun (hr.mono (by decide)) (pv 2))) (pa_cons (Exv.pe_xfld (Exv.pe_mkK m_BadText (hr.mono (by decide)) (pv 2))) (pa_cons (Exv.pe_xfld (Exv.pe_mkK m_BadRuns (hr.mono (by decide)) (pv 2))) pa_nil)))))
      (pss_cons (ps_if (pt_cmpR op_ne (pe_callB (id := "repr") (r := Rd.rReprE K) (by exact Rd.call_reprE hr hG) (by rfl) t_repr (by decide +kernel) (pa_cons (pv 7) pa_nil)) (pe_callB (id := "repr") (r := Rd.rReprE K) (by exact Rd.call_reprE hr hG) (by rfl) t_repr (by decide +kernel) (pa_cons (pe_op op_rep (pe_lst (pa_cons (pv 2) pa_nil)) pe_int) pa_nil)) (nomark _)) 
        (pss_one (ps_ret pe_bl)) pss_nil)
      (pss_cons (ps_set (i := 8) scLaw.nd rfl (Or.inl rfl) (Bb.pe_ord m_Order (hr.mono (by decide)) (pa_cons pe_int (pa_cons (pe_lst (pa_cons (pe_tup (pa_cons pe_int (pa_cons pe_int pa_nil))) pa_nil)) pa_nil))))
      (pss_cons (ps_set (i := 9) scLaw.nd rfl (Or.inl rfl) (pe_ix (r := rIxL K) (by exact ix_list) (pe_lst (pa_cons pe_non (pa_cons (pe_tup (pa_cons (pe_tup (pa_cons pe_int (pa_cons pe_int pa_nil))) pa_nil)) (pa_cons (pe_lst (pa_cons (pe_tup (pa_cons pe_int (pa_cons pe_int pa_nil))) pa_nil)) (pa_cons pe_int (pa_cons pe_str (pa_cons pe_dnewK (pa_cons (pv 2) pa_nil)))))))) (Rd.pe_callC c__law_draw (hr.mono (by decide)) (pa_cons (pv 1) (pa_cons pe_int pa_nil))) (fun _ _ => rfl)))
      (pss_cons (ps_set (i := 7) scLaw.nd rfl (Or.inl rfl) (pe_lst (pa_cons (pe_cmpR (Cmq.opEq eqr (hr.mono (by decide))) (pv 8) (pv 9) (nomark _)) (pa_cons (pe_cmpR (Cmq.opEqR eqr (hr.mono (by decide))) (pv 9) (pv 8) (nomark _)) (pa_cons (pe_cmpR (Cmq.opNe eqr (hr.mono (by decide))) (pv 8) (Bb.pe_ord m_Order (hr.mono (by decide)) (pa_cons pe_int (pa_cons (pe_tup (pa_cons (pe_tup (pa_cons pe_int (pa_cons pe_int pa_nil))) pa_nil)) pa_nil))) (nomark _)) (pa_cons (pe_cmpR (Cmq.opNe eqr (hr.mono (by decide))) (pv 8) (pv 9) (nomark _)) pa_nil))))))
      (pss_one (ps_ret (pe_cmpR op_eq (pe_callB (id := "repr") (r := Rd.rReprE K) (by exact Rd.call_reprE hr hG) (by rfl) t_repr (by decide +kernel) (pa_cons (pv 7) pa_nil)) (pe_callB (id := "repr") (r := Rd.rReprE K) (by exact Rd.call_reprE hr hG) (by rfl) t_repr (by decide +kernel) (pa_cons (pe_lst (pa_cons pe_bl (pa_cons pe_bl (pa_cons pe_bl (pa_cons pe_bl pa_nil))))) pa_nil)) (nomark _)))))))))))))))), ?_⟩
    walk_at "go"
    refine ⟨a, ns, rfl, hS, hlen, fun H1 d g s1 hd0 hg0 ms => ?_⟩
    walk_at "go"
    refine ⟨(show 2 ≤ 16777216 by decide), fun t ht => ?_⟩
    obtain ⟨J0, eJ, sJ0, ft⟩ := newO (.tup [.int 1, .int 2]) ht
    rw [eJ]
    clear eJ
    have ms0 := ms.same sJ0
    walk_at "go"
    refine ⟨(show 1 ≤ 16777216 by decide), fun l hl => ?_⟩
    obtain ⟨J1, eJ, sJ1, fl⟩ := newO (.lst [.int 3]) hl
    rw [eJ]
    clear eJ
    have nl := ms0.dn hl
    have ms1 := ms0.same sJ1
    walk_at "go"
    refine fun e he => ?_
    obtain ⟨J2, eJ, sJ2, fe⟩ := newO (.dK []) he
    rw [eJ]
    clear eJ
    have ne := ms1.dn he
    have ms2 := ms1.same sJ2
    walk_at "go"
    refine ⟨(show 8 ≤ 16777216 by decide), fun L hL => ?_⟩
    obtain ⟨J3, eJ, sJ3, fL⟩ := newO (.lst [.non, .int 0, .int 7, .ref t, .str "x", .ref l, .ref e, .int ((10 : Int) ^ ((40 : Int)).toNat)]) hL
    rw [eJ]
    clear eJ
    have nL := ms2.dn hL
    have ms3 := ms2.same sJ3
    walk_at "go"
    refine ⟨d, g, 0, 8, rfl, ms3, by omega, ⟨by decide, by decide⟩, fun H3 r kp ms4 hr0 hr8 => ?_⟩
    have gt := kp.tup ms3 (sJ3 _ _ (sJ2 _ _ (sJ1 _ _ ft)))
    have gl := kp _ _ nl.1 nl.2 (sJ3 _ _ (sJ2 _ _ fl))
    have ge := kp _ _ ne.1 ne.2 (sJ3 _ _ fe)
    have gL := kp _ _ nL.1 nL.2 fL
    obtain ⟨j, rfl⟩ : ∃ j : Nat, r = (j : Int) := ⟨r.toNat, by omega⟩
    have hj : j < 8 := by omega
    have menu : ∃ q dd, ([.non, .int 0, .int 7, .ref t, .str "x", .ref l, .ref e, .int ((10 : Int) ^ ((40 : Int)).toNat)] : List V)[j]? = some q ∧ QS K C d g H3 q dd :=
      match j, hj with
      | 0, _ => ⟨_, .none, rfl, .dat (fun H4 s => .non) rfl (by decide +kernel) fun H1 H2 N s m k => odd_non O⟩
      | 1, _ => ⟨_, .int 0, rfl, .dat (fun H4 s => .int 0) rfl (by decide +kernel) fun H1 H2 N s m k => odd_int O _⟩
      | 2, _ => ⟨_, .int 7, rfl, .dat (fun H4 s => .int 7) rfl (by decide +kernel) fun H1 H2 N s m k => odd_int O _⟩
      | 3, _ => ⟨_, .tuple [.int 1, .int 2], rfl, .dat (fun H4 s => .tup (SqT.of (s _ _ gt)) (.cons (.int 1) (.cons (.int 2) .nil))) (by decide +kernel) (by decide +kernel) fun H1 H2 N s m k => odd_tup O (k.tup m (s _ _ gt))⟩
      | 4, _ => ⟨_, .str "x", rfl, .dat (fun H4 s => .str "x") rfl (by decide +kernel) fun H1 H2 N s m k => odd_str O _⟩
      | 5, _ => ⟨_, .list [.int 3], rfl, .dat (fun H4 s => .lst (SqL.of (s _ _ gl)) (.cons (.int 3) .nil)) (by decide +kernel) (by decide +kernel) fun H1 H2 N s m k => odd_lst O (k _ _ nl.1 nl.2 (s _ _ gl))⟩
      | 6, _ => ⟨_, .dict [], rfl, .emp ge (by decide +kernel) fun H1 H2 N s m k => odd_dict O (k _ _ ne.1 ne.2 (s _ _ ge))⟩
      | 7, _ => ⟨_, .int ((10 : Int) ^ ((40 : Int)).toNat), rfl, .dat (fun H4 s => .int _) rfl (by decide +kernel) fun H1 H2 N s m k => odd_int O _⟩
    obtain ⟨q, dd, hq, hQ⟩ := menu
    walk_at "go"
    refine Rd.ixL (i := (j : Int)) (SqL.of gL) (at_of (j := j) rfl hq) ?_
    clear gt gl ge gL ft fl fe fL hq kp ms ms0 ms1 ms2 ms3 nl ne nL sJ0 sJ1 sJ2 sJ3
    walk_at "go"
    refine Exv.mkE fun a0 X0 s0 n0 e0 => ?_
    walk_at "go"
    refine Exv.mkE fun a1 X1 s1 n1 e1 => ?_
    walk_at "go"
    refine Exv.mkE fun a2 X2 s2 n2 e2 => ?_
    walk_at "go"
    refine Exv.mkE fun a3 X3 s3 n3 e3 => ?_
    walk_at "go"
    refine Exv.mkE fun a4 X4 s4 n4 e4 => ?_
    walk_at "go"
    refine Exv.mkE fun a5 X5 s5 n5 e5 => ?_
    walk_at "go"
    refine Exv.mkE fun a6 X6 s6 n6 e6 => ?_
    walk_at "go"
    refine Exv.mkE fun a7 X7 s7 n7 e7 => ?_
    walk_at "go"
    refine ⟨(show 8 ≤ 16777216 by decide), fun pa hpa => ?_⟩
    obtain ⟨G1, eJ, sG1, fpa⟩ := newO (.lst [.ref a0, .ref a1, .ref a2, .ref a3, .ref a4, .ref a5, .ref a6, .ref a7]) hpa
    rw [eJ]
    clear eJ
    walk_at "go"
    refine Exv.mkE fun a8 X8 s8 n8 e8 => ?_
    walk_at "go"
    refine Exv.mkE fun a9 X9 s9 n9 e9 => ?_
    walk_at "go"
    refine Exv.mk0 fun a10 X10 s10 n10 e10 => ?_
    walk_at "go"
    refine Exv.mk0 fun a11 X11 s11 n11 e11 => ?_
    walk_at "go"
    refine ⟨(show 4 ≤ 16777216 by decide), fun pb hpb => ?_⟩
    obtain ⟨G2, eJ, sG2, fpb⟩ := newO (.lst [.ref a8, .ref a9, .ref a10, .ref a11]) hpb
    rw [eJ]
    clear eJ
    refine Rd.cat ((s8.trans (s9.trans (s10.trans (s11.trans sG2)))) _ _ fpa) fpb (show 8 + 4 ≤ 1000 by decide) fun pc hpc => ?_
    obtain ⟨G3, eJ, sG3, fpc⟩ := newO (.lst [.ref a0, .ref a1, .ref a2, .ref a3, .ref a4, .ref a5, .ref a6, .ref a7, .ref a8, .ref a9, .ref a10, .ref a11]) hpc
    rw [show upd G2 pc (.lst ([.ref a0, .ref a1, .ref a2, .ref a3, .ref a4, .ref a5, .ref a6, .ref a7] ++ [.ref a8, .ref a9, .ref a10, .ref a11])) = G3 from eJ]
    clear eJ
    have SA : Same H3 G3 := (s0.trans (s1.trans (s2.trans (s3.trans (s4.trans (s5.trans (s6.trans (s7.trans (sG1.trans (s8.trans (s9.trans (s10.trans (s11.trans (sG2.trans sG3))))))))))))))
    replace e0 := e0.same (s1.trans (s2.trans (s3.trans (s4.trans (s5.trans (s6.trans (s7.trans (sG1.trans (s8.trans (s9.trans (s10.trans (s11.trans (sG2.trans sG3)))))))))))))
    replace e1 := e1.same (s2.trans (s3.trans (s4.trans (s5.trans (s6.trans (s7.trans (sG1.trans (s8.trans (s9.trans (s10.trans (s11.trans (sG2.trans sG3))))))))))))
    replace e2 := e2.same (s3.trans (s4.trans (s5.trans (s6.trans (s7.trans (sG1.trans (s8.trans (s9.trans (s10.trans (s11.trans (sG2.trans sG3)))))))))))
    replace e3 := e3.same (s4.trans (s5.trans (s6.trans (s7.trans (sG1.trans (s8.trans (s9.trans (s10.trans (s11.trans (sG2.trans sG3))))))))))
    replace e4 := e4.same (s5.trans (s6.trans (s7.trans (sG1.trans (s8.trans (s9.trans (s10.trans (s11.trans (sG2.trans sG3)))))))))
    replace e5 := e5.same (s6.trans (s7.trans (sG1.trans (s8.trans (s9.trans (s10.trans (s11.trans (sG2.trans sG3))))))))
    replace e6 := e6.same (s7.trans (sG1.trans (s8.trans (s9.trans (s10.trans (s11.trans (sG2.trans sG3)))))))
    replace e7 := e7.same (sG1.trans (s8.trans (s9.trans (s10.trans (s11.trans (sG2.trans sG3))))))
    replace e8 := e8.same (s9.trans (s10.trans (s11.trans (sG2.trans sG3))))
    replace e9 := e9.same (s10.trans (s11.trans (sG2.trans sG3)))
    replace e10 := e10.same (s11.trans (sG2.trans sG3))
    replace e11 := e11.same (sG2.trans sG3)
    have hQ := hQ.same SA
    have ms := ms4.same SA
    clear s0 n0 s1 n1 s2 n2 s3 n3 s4 n4 s5 n5 s6 n6 s7 n7 s8 n8 s9 n9 s10 n10 s11 n11 hpa hpb hpc fpa fpb sG1 sG2 sG3 ms4 SA
    walk_at "go"
    refine ⟨(show 9 ≤ 16777216 by decide), fun w1 hw1 => ?_⟩
    obtain ⟨W1, eJ, sW1, fw1⟩ := newO (.lst [.str "BadPairs", .str "BadExchange", .str "BadRun", .str "BadText", .str "BadTerm", .str "BadNumber", .str "BadRuns", .str "NoTerm", .str "Lacks"]) hw1
    rw [eJ]
    clear eJ
    walk_at "go"
    refine ⟨(show 3 ≤ 16777216 by decide), fun w2 hw2 => ?_⟩
    obtain ⟨W2, eJ, sW2, fw2⟩ := newO (.lst [.str "TooGreat", .str "OtherTasks", .str "NothingLeft"]) hw2
    rw [eJ]
    clear eJ
    refine Rd.cat (sW2 _ _ fw1) fw2 (show 9 + 3 ≤ 1000 by decide) fun w3 hw3 => ?_
    obtain ⟨W3, eJ, sW3, fw3⟩ := newO (.lst (wds.map V.str)) hw3
    rw [show upd W2 w3 (.lst ([V.str "BadPairs", V.str "BadExchange", V.str "BadRun", V.str "BadText", V.str "BadTerm", V.str "BadNumber", V.str "BadRuns", V.str "NoTerm", V.str "Lacks"] ++ [V.str "TooGreat", V.str "OtherTasks", V.str "NothingLeft"])) = W3 from eJ]
    clear eJ
    have SB : Same G3 W3 := sW1.trans (sW2.trans sW3)
    have hQ := hQ.same SB
    have ms := ms.same SB
    have fso := SB _ _ fpc
    have ERR : ∀ n : Nat, n < 12 → ∃ (x c i : Nat) (y : Option V) (z : Str) (fs : List (Str × V)), ([.ref a0, .ref a1, .ref a2, .ref a3, .ref a4, .ref a5, .ref a6, .ref a7, .ref a8, .ref a9, .ref a10, .ref a11] : List V)[n]? = some (.ref x) ∧ wds[n]? = some z ∧ nms[i]? = some z ∧ [C0, C1, C2, C3, C4, C5, C6, C7, C8, C9, C10, C11][i]? = some c ∧ ErrAt [C0, C1, C2, C3, C4, C5, C6, C7, C8, C9, C10, C11] W3 x i y ∧ Exv.ExAt W3 x c fs ∧
        (decide (i < 11) = !decide ((n : Int) = 9)) ∧ (decide (i = 11) = decide ((n : Int) = 9)) ∧ y = if n < 10 then some q else none := fun n hn =>
      match n, hn with
      | 0, _ => ⟨a0, C0, 0, some q, _, _, rfl, rfl, rfl, rfl, ⟨C0, rfl, _, rfl, by decide, e0.same SB⟩, (e0.same SB).at_, by decide, by decide, rfl⟩
      | 1, _ => ⟨a1, C3, 3, some q, _, _, rfl, rfl, rfl, rfl, ⟨C3, rfl, _, rfl, by decide, e1.same SB⟩, (e1.same SB).at_, by decide, by decide, rfl⟩
      | 2, _ => ⟨a2, C7, 7, some q, _, _, rfl, rfl, rfl, rfl, ⟨C7, rfl, _, rfl, by decide, e2.same SB⟩, (e2.same SB).at_, by decide, by decide, rfl⟩
      | 3, _ => ⟨a3, C9, 9, some q, _, _, rfl, rfl, rfl, rfl, ⟨C9, rfl, _, rfl, by decide, e3.same SB⟩, (e3.same SB).at_, by decide, by decide, rfl⟩
      | 4, _ => ⟨a4, C1, 1, some q, _, _, rfl, rfl, rfl, rfl, ⟨C1, rfl, _, rfl, by decide, e4.same SB⟩, (e4.same SB).at_, by decide, by decide, rfl⟩
      | 5, _ => ⟨a5, C2, 2, some q, _, _, rfl, rfl, rfl, rfl, ⟨C2, rfl, _, rfl, by decide, e5.same SB⟩, (e5.same SB).at_, by decide, by decide, rfl⟩
      | 6, _ => ⟨a6, C8, 8, some q, _, _, rfl, rfl, rfl, rfl, ⟨C8, rfl, _, rfl, by decide, e6.same SB⟩, (e6.same SB).at_, by decide, by decide, rfl⟩
      | 7, _ => ⟨a7, C4, 4, some q, _, _, rfl, rfl, rfl, rfl, ⟨C4, rfl, _, rfl, by decide, e7.same SB⟩, (e7.same SB).at_, by decide, by decide, rfl⟩
      | 8, _ => ⟨a8, C6, 6, some q, _, _, rfl, rfl, rfl, rfl, ⟨C6, rfl, _, rfl, by decide, e8.same SB⟩, (e8.same SB).at_, by decide, by decide, rfl⟩
      | 9, _ => ⟨a9, C11, 11, some q, _, _, rfl, rfl, rfl, rfl, ⟨C11, rfl, _, rfl, by decide, e9.same SB⟩, (e9.same SB).at_, by decide, by decide, rfl⟩
      | 10, _ => ⟨a10, C5, 5, none, _, _, rfl, rfl, rfl, rfl, ⟨C5, rfl, rfl, e10.same SB⟩, e10.same SB, by decide, by decide, rfl⟩
      | 11, _ => ⟨a11, C10, 10, none, _, _, rfl, rfl, rfl, rfl, ⟨C10, rfl, rfl, e11.same SB⟩, e11.same SB, by decide, by decide, rfl⟩
      | (m + 12), h => absurd h (by omega)
    clear e0 e1 e2 e3 e4 e5 e6 e7 e8 e9 e10 e11 fpc fw1 fw2 hw1 hw2 hw3 sW1 sW2 sW3 SB
    generalize ([.ref a0, .ref a1, .ref a2, .ref a3, .ref a4, .ref a5, .ref a6, .ref a7, .ref a8, .ref a9, .ref a10, .ref a11] : List V) = so at fso ERR
    walk_at "go"
    refine Rd.forRng1 12 rfl (by decide) (fun n σ H' => ∃ v5 v6 v7 v8 v9 : Option V, σ = [some (.ref a), some (.ref d), some q, some (.ref pc), some (.ref w3), v5, v6, v7, v8, v9] ∧ Same W3 H') ⟨_, _, _, _, _, rfl, .refl _⟩ ?_ ?_
    · rintro n σ H' hn ⟨v5, v6, v7, v8, v9, rfl, s0⟩
      obtain ⟨x, c, i, y, z, fs, h1, h2, h3, h4, h5, h6, h7, h8, h9⟩ := ERR n hn
      have hzw : z ∈ wds := List.mem_of_getElem? h2
      have hw : (wds.map V.str)[n]? = some (.str z) := by rw [List.getElem?_map, h2]; rfl
      walk_at "go"
      by_cases hlt : n < 10
      · rw [if_pos hlt] at h9
        subst h9
        have DUE : ∀ H2 p, Same W3 H2 → H2 p = some (.tup (.str z :: (some q).toList)) → Rd.DrE K H2 (.ref p) (.tuple [.str z, dd]) := fun H2 p s e => hQ.tup H2 p z s hzw e
        rw [if_pos (decide_eq_true (by omega))]
        walk_at "go"
        refine Rd.ixL (i := (n : Int)) (SqL.of (s0 _ _ fw3)) (at_of (j := n) rfl hw) ?_
        walk_at "go"
        refine ⟨(show 2 ≤ 16777216 by decide), fun pd hpd => ?_⟩
        obtain ⟨J, eJ, sJ0, fd⟩ := newO (.tup (.str z :: (some q).toList)) hpd
        rw [show upd H' pd (.tup [.str z, q]) = J from eJ]
        clear eJ
        have sJ := s0.trans sJ0
        walk_at "go"
        refine Rd.ixL (i := (n : Int)) (SqL.of (sJ _ _ fso)) (at_of (j := n) rfl h1) ?_
        walk_at "go"
        refine ⟨x, i, some q, z, rfl, h3, h5.same sJ, fun H4 pe s4 he0 he => ?_⟩
        walk_at "go"
        refine Rd.reprE_ (DUE H4 pe (sJ.trans s4) he) ?_
        walk_at "go"
        refine Rd.reprE_ (DUE H4 pd (sJ.trans s4) (s4 _ _ fd)) ?_
        walk_at "go"
        rw [decide_eq_true rfl]
        walk_at "go"
        have s5 := sJ.trans s4
        refine Rd.ixL (i := (n : Int)) (SqL.of (s5 _ _ fso)) (at_of (j := n) rfl h1) ?_
        walk_at "go"
        refine Exv.isE (.own _) (h6.same s5) (hC.is i c h4) (hT i c h4) ?_
        walk_at "go"
        rw [h7, show (!((!decide ((n : Int) = 9)) == (!decide ((n : Int) = 9)))) = false by simp]
        walk_at "go"
        refine Rd.ixL (i := (n : Int)) (SqL.of (s5 _ _ fso)) (at_of (j := n) rfl h1) ?_
        walk_at "go"
        refine Exv.isE (.ty _) (h6.same s5) (hC.is i c h4) (hC.ty i c h4).1 ?_
        walk_at "go"
        rw [h7, show (!((!decide ((n : Int) = 9)) == (!decide ((n : Int) = 9)))) = false by simp]
        walk_at "go"
        refine Rd.ixL (i := (n : Int)) (SqL.of (s5 _ _ fso)) (at_of (j := n) rfl h1) ?_
        walk_at "go"
        refine Exv.isE (.ty _) (h6.same s5) (hC.is i c h4) (hC.ty i c h4).2 ?_
        walk_at "go"
        rw [h8, show (!((decide ((n : Int) = 9)) == (decide ((n : Int) = 9)))) = false by simp]
        walk_at "go"
        exact ⟨_, _, _, _, _, rfl, s5⟩
      · rw [if_neg hlt] at h9
        subst h9
        have DUE : ∀ H2 p, Same W3 H2 → H2 p = some (.tup (.str z :: (none : Option V).toList)) → Rd.DrE K H2 (.ref p) (.tuple [.str z]) := fun H2 p s e => .dr (.dat (.tup (SqT.of e) (.cons (.str z) .nil)) (okW_at hzw))
        rw [if_neg (fun e => hlt (by have := of_decide_eq_true e; omega))]
        walk_at "go"
        refine Rd.ixL (i := (n : Int)) (SqL.of (s0 _ _ fw3)) (at_of (j := n) rfl hw) ?_
        walk_at "go"
        refine ⟨(show 1 ≤ 16777216 by decide), fun pd hpd => ?_⟩
        obtain ⟨J, eJ, sJ0, fd⟩ := newO (.tup (.str z :: (none : Option V).toList)) hpd
        rw [show upd H' pd (.tup [.str z]) = J from eJ]
        clear eJ
        have sJ := s0.trans sJ0
        walk_at "go"
        refine Rd.ixL (i := (n : Int)) (SqL.of (sJ _ _ fso)) (at_of (j := n) rfl h1) ?_
        walk_at "go"
        refine ⟨x, i, none, z, rfl, h3, h5.same sJ, fun H4 pe s4 he0 he => ?_⟩
        walk_at "go"
        refine Rd.reprE_ (DUE H4 pe (sJ.trans s4) he) ?_
        walk_at "go"
        refine Rd.reprE_ (DUE H4 pd (sJ.trans s4) (s4 _ _ fd)) ?_
        walk_at "go"
        rw [decide_eq_true rfl]
        walk_at "go"
        have s5 := sJ.trans s4
        refine Rd.ixL (i := (n : Int)) (SqL.of (s5 _ _ fso)) (at_of (j := n) rfl h1) ?_
        walk_at "go"
        refine Exv.isE (.own _) (h6.same s5) (hC.is i c h4) (hT i c h4) ?_
        walk_at "go"
        rw [h7, show (!((!decide ((n : Int) = 9)) == (!decide ((n : Int) = 9)))) = false by simp]
        walk_at "go"
        refine Rd.ixL (i := (n : Int)) (SqL.of (s5 _ _ fso)) (at_of (j := n) rfl h1) ?_
        walk_at "go"
        refine Exv.isE (.ty _) (h6.same s5) (hC.is i c h4) (hC.ty i c h4).1 ?_
        walk_at "go"
        rw [h7, show (!((!decide ((n : Int) = 9)) == (!decide ((n : Int) = 9)))) = false by simp]
        walk_at "go"
        refine Rd.ixL (i := (n : Int)) (SqL.of (s5 _ _ fso)) (at_of (j := n) rfl h1) ?_
        walk_at "go"
        refine Exv.isE (.ty _) (h6.same s5) (hC.is i c h4) (hC.ty i c h4).2 ?_
        walk_at "go"
        rw [h8, show (!((decide ((n : Int) = 9)) == (decide ((n : Int) = 9)))) = false by simp]
        walk_at "go"
        exact ⟨_, _, _, _, _, rfl, s5⟩
    · rintro σ H' ⟨v5, v6, v7, v8, v9, rfl, s0⟩
      walk_at "go"
      have hQ := hQ.same s0
      have ms := ms.same s0
      refine Exv.mkE fun b0 X0 r0 n0 f0 => ?_
      walk_at "go"
      refine Exv.fldE m_BadRun.is m_BadRun.2.1 f0 ?_
      walk_at "go"
      refine Exv.mkE fun b1 X1 r1 n1 f1 => ?_
      walk_at "go"
      refine Exv.fldE m_BadText.is m_BadText.2.1 f1 ?_
      walk_at "go"
      refine Exv.mkE fun b2 X2 r2 n2 f2 => ?_
      walk_at "go"
      refine Exv.fldE m_BadRuns.is m_BadRuns.2.1 f2 ?_
      walk_at "go"
      refine ⟨(show 3 ≤ 16777216 by decide), fun u0 zu => ?_⟩
      obtain ⟨Y0, eJ, sY0, fu⟩ := newO (.lst [q, q, q]) zu
      rw [eJ]
      clear eJ
      walk_at "go"
      have sZ := r0.trans (r1.trans (r2.trans sY0))
      refine Rd.reprE_ (hQ.lst Y0 u0 sZ fu) ?_
      walk_at "go"
      refine ⟨(show 1 ≤ 16777216 by decide), fun u1 zu1 => ?_⟩
      obtain ⟨Y1, eJ, sY1, fu1⟩ := newO (.lst [q]) zu1
      rw [eJ]
      clear eJ
      walk_at "go"
      refine Rd.rep (n := 3) fu1 (by decide) fun u2 zu2 => ?_
      obtain ⟨Y2, eJ, sY2, fu2⟩ := newO (.lst [q, q, q]) zu2
      rw [show upd Y1 u2 (.lst (List.replicate 3 q)) = Y2 from eJ]
      clear eJ
      walk_at "go"
      have sV := sZ.trans (sY1.trans sY2)
      refine Rd.reprE_ (hQ.lst Y2 u2 sV fu2) ?_
      walk_at "go"
      rw [decide_eq_true rfl]
      walk_at "go"
      have hQ := hQ.same sV
      have ms := ms.same sV
      clear f0 f1 f2 fu fu1 fu2 zu zu1 zu2 n0 n1 n2 r0 r1 r2 sY0 sY1 sY2 sZ sV
      refine ⟨(show 2 ≤ 16777216 by decide), fun t1 z1 => ?_⟩
      obtain ⟨K1, eJ, sK1, ft1⟩ := newO (.tup [.int 0, .int 1]) z1
      rw [eJ]
      clear eJ
      walk_at "go"
      refine ⟨(show 1 ≤ 16777216 by decide), fun l1 z2 => ?_⟩
      obtain ⟨K2, eJ, sK2, fl1⟩ := newO (.lst [.ref t1]) z2
      rw [eJ]
      clear eJ
      walk_at "go"
      refine mkOrd (n := 2) (ps := [(0, 1)]) (SqL.of fl1) (.cons (ofInts (sK2 _ _ ft1)) .nil) ⟨by decide, by decide⟩ (good_of (by decide +kernel)) fun x K3 sK3 hx hO => ?_
      have sU := sK1.trans (sK2.trans sK3)
      have hQ := hQ.same sU
      have ms := ms.same sU
      clear sU sK1 sK2 sK3 ft1 fl1
      walk_at "go"
      obtain ⟨dx, tb, tp, ys, o1, o2, o3, o4, o5⟩ := id hO
      refine ⟨(show 2 ≤ 16777216 by decide), fun t2 z0 => ?_⟩
      obtain ⟨Z0, eJ, sZ0, ft2⟩ := newO (.tup [.int 0, .int 1]) z0
      rw [eJ]
      clear eJ
      have nd0 := ms.dn z0
      have ms0 := ms.same sZ0
      walk_at "go"
      refine ⟨(show 1 ≤ 16777216 by decide), fun T2 z1 => ?_⟩
      obtain ⟨Z1, eJ, sZ1, fT2⟩ := newO (.tup [.ref t2]) z1
      rw [eJ]
      clear eJ
      have nd1 := ms0.dn z1
      have ms1 := ms0.same sZ1
      walk_at "go"
      refine ⟨(show 2 ≤ 16777216 by decide), fun t3 z2 => ?_⟩
      obtain ⟨Z2, eJ, sZ2, ft3⟩ := newO (.tup [.int 0, .int 1]) z2
      rw [eJ]
      clear eJ
      have nd2 := ms1.dn z2
      have ms2 := ms1.same sZ2
      walk_at "go"
      refine ⟨(show 1 ≤ 16777216 by decide), fun l3 z3 => ?_⟩
      obtain ⟨Z3, eJ, sZ3, fl3⟩ := newO (.lst [.ref t3]) z3
      rw [eJ]
      clear eJ
      have nd3 := ms2.dn z3
      have ms3 := ms2.same sZ3
      walk_at "go"
      refine fun e2 z4 => ?_
      obtain ⟨Z4, eJ, sZ4, fe2⟩ := newO (.dK []) z4
      rw [eJ]
      clear eJ
      have nd4 := ms3.dn z4
      have ms4 := ms3.same sZ4
      walk_at "go"
      refine ⟨(show 7 ≤ 16777216 by decide), fun oL z5 => ?_⟩
      obtain ⟨Z5, eJ, sZ5, foL⟩ := newO (.lst [.non, .ref T2, .ref l3, .int 5, .str "order", .ref e2, q]) z5
      rw [eJ]
      clear eJ
      have nd5 := ms4.dn z5
      have ms5 := ms4.same sZ5
      walk_at "go"
      have sA := (sZ0.trans (sZ1.trans (sZ2.trans (sZ3.trans (sZ4.trans sZ5)))))
      refine ⟨d, g, _, 7, rfl, ms5, by decide, ⟨by decide, by decide⟩, fun H5 r kp ms9 hr0 hr7 => ?_⟩
      have gT := kp.tup ms5 ((sZ2.trans (sZ3.trans (sZ4.trans sZ5))) _ _ fT2)
      have gl := kp _ _ nd3.1 nd3.2 ((sZ4.trans sZ5) _ _ fl3)
      have ge := kp _ _ nd4.1 nd4.2 (sZ5 _ _ fe2)
      have gL := kp _ _ nd5.1 nd5.2 foL
      have hO := (hO.same sA).kp kp ms5
      have hq := hQ.odd _ _ _ sA ms5 kp
      clear o1 o2 o3 o4 o5 ms0 ms1 ms2 ms3 ms4 ms nd0 nd1 nd2 nd3 nd4 nd5 ft2 fT2 ft3 fl3 fe2 foL sA kp ms5 hQ
      obtain ⟨j, rfl⟩ : ∃ j : Nat, r = (j : Int) := ⟨r.toNat, by omega⟩
      have hj : j < 7 := by omega
      have menu : ∃ v, ([.non, .ref T2, .ref l3, .int 5, .str "order", .ref e2, q] : List V)[j]? = some v ∧ Odd K C H5 v :=
        match j, hj with
        | 0, _ => ⟨_, rfl, odd_non O⟩
        | 1, _ => ⟨_, rfl, odd_tup O gT⟩
        | 2, _ => ⟨_, rfl, odd_lst O gl⟩
        | 3, _ => ⟨_, rfl, odd_int O 5⟩
        | 4, _ => ⟨_, rfl, odd_str O "order"⟩
        | 5, _ => ⟨_, rfl, odd_dict O ge⟩
        | 6, _ => ⟨_, rfl, hq⟩
      obtain ⟨v, hv, hodd⟩ := menu
      walk_at "go"
      refine Rd.ixL (i := (j : Int)) (SqL.of gL) (at_of (j := j) rfl hv) ?_
      clear gT gl ge gL hq hv
      walk_at "go"
      obtain ⟨lt, tt, ty, nf, ki⟩ := id hodd
      obtain ⟨dx, tb, tp, ys, o1, o2, o3, o4, o5⟩ := id hO
      refine ⟨x, dx, _, tt, rfl, o1, ty, nf, x, 2, _, v, rfl, hO, .inr ⟨tt, ty, ki, false, rfl, ?_⟩⟩
      walk_at "go"
      refine ⟨x, dx, _, rfl, o1, lt, x, 2, _, v, rfl, hO, .inr ⟨tt, ty, ki, false, rfl, ?_⟩⟩
      walk_at "go"
      refine ⟨(show 2 ≤ 16777216 by decide), fun t4 z4 => ?_⟩
      obtain ⟨U0, eJ, sU0, ft4⟩ := newO (.tup [.int 0, .int 1]) z4
      rw [eJ]
      clear eJ
      walk_at "go"
      refine ⟨(show 1 ≤ 16777216 by decide), fun t5 z5 => ?_⟩
      obtain ⟨U1, eJ, sU1, ft5⟩ := newO (.tup [.ref t4]) z5
      rw [eJ]
      clear eJ
      walk_at "go"
      refine mkOrdA (n := 2) (ps := [(0, 1)]) (.inr (SqT.of ft5)) (.cons (ofInts (sU1 _ _ ft4)) .nil) ⟨by decide, by decide⟩ (good_of (by decide +kernel)) fun x2 H6 s6 hx2 hO2 => ?_
      have sW := sU0.trans (sU1.trans s6)
      refine ⟨x, dx, _, .ref C, rfl, sW _ _ o1, hO2.ty T, O.self.1, x, 2, _, .ref x2, rfl, hO.same sW, .inl ⟨x2, 2, _, rfl, hO2, O.self.2, _, rfl, ?_⟩⟩
      rw [decide_eq_true (rfl : told (putAll (List.replicate 2 0) [(0, 1)]) = told (putAll (List.replicate 2 0) [(0, 1)])), show (if true = true then !(decide (2 = 2) && true) else (decide (2 = 2) && true)) = false by decide]
      walk_at "go"
      obtain ⟨lt6, tt6, ty6, nf6, ki6⟩ := Odd.same O hodd sW
      refine ⟨x, dx, _, tt6, rfl, sW _ _ o1, ty6, nf6, x, 2, _, v, rfl, hO.same sW, .inr ⟨tt6, ty6, ki6, false, rfl, ?_⟩⟩
      rw [show (if true = true then !false else false) = true by decide]
      walk_at "go"
      refine ⟨(show 4 ≤ 16777216 by decide), fun r1 y1 => ?_⟩
      walk_at "go"
      refine Rd.reprE_ (d := .list ([false, false, false, true].map PyData.bool)) (.dr (.dat (Rd.dpBls (SqL.of upd_same)) ⟨by decide +kernel, by decide +kernel, by decide +kernel, by decide +kernel⟩)) ?_
      walk_at "go"
      refine ⟨(show 4 ≤ 16777216 by decide), fun r2 y2 => ?_⟩
      walk_at "go"
      refine Rd.reprE_ (d := .list ([false, false, false, true].map PyData.bool)) (.dr (.dat (Rd.dpBls (SqL.of upd_same)) ⟨by decide +kernel, by decide +kernel, by decide +kernel, by decide +kernel⟩)) ?_
      walk_at "go"
      rw [decide_eq_true rfl]
      exact k _
end
end Bb
namespace Bb
open PySem L2 PyProof.Rows
theorem tabAt {α β : Type} {cs : List α} {n : Nat} {f : α → β} {g : Nat → β} (T : cs.map f = (List.range n).map g) {i : Nat} {c : α} (hi : cs[i]? = some c) : f c = g i := by
  have e : (cs.map f)[i]? = some (f c) := by rw [List.getElem?_map, hi]; rfl
  rw [T, List.getElem?_map] at e
  cases q : (List.range n)[i]? with
  | none => rw [q] at e; cases e
  | some j =>
    have hj : j = i := by have := (List.getElem?_eq_some_iff.mp q).2; rw [List.getElem_range] at this; exact this.symm
    rw [q, hj] at e
    exact (Option.some.inj e).symm
theorem all_mk {l : PySem.W.OpenLaw} {w : World} {K : PySem.W.Frag} {h : Heap} {mg : Str → Option Value} {fa : Addr} (X : K.In h) (G : h.Ns mainGlobals mg) (hfa : mg "law" = some (.ref fa))
    {g1 : Addr} {od1 an1 : Option Addr} {sl1 : Array (Option Value)} {oc1 kV1 dc1 pm1 cd1 ct1 : Value}
    {g2 : Addr} {od2 an2 : Option Addr} {sl2 : Array (Option Value)} {oc2 kV2 dc2 pm2 cd2 ct2 : Value}
    {g3 : Addr} {od3 an3 : Option Addr} {sl3 : Array (Option Value)} {oc3 kV3 dc3 pm3 cd3 ct3 : Value}
    {g4 : Addr} {od4 an4 : Option Addr} {sl4 : Array (Option Value)} {oc4 kV4 dc4 pm4 cd4 ct4 : Value}
    {g5 : Addr} {od5 an5 : Option Addr} {sl5 : Array (Option Value)} {oc5 kV5 dc5 pm5 cd5 ct5 : Value}
    {g6 : Addr} {od6 an6 : Option Addr} {sl6 : Array (Option Value)} {oc6 kV6 dc6 pm6 cd6 ct6 : Value}
    {g7 : Addr} {od7 an7 : Option Addr} {sl7 : Array (Option Value)} {oc7 kV7 dc7 pm7 cd7 ct7 : Value}
    {g8 : Addr} {od8 an8 : Option Addr} {sl8 : Array (Option Value)} {oc8 kV8 dc8 pm8 cd8 ct8 : Value}
    {g9 : Addr} {od9 an9 : Option Addr} {sl9 : Array (Option Value)} {oc9 kV9 dc9 pm9 cd9 ct9 : Value}
    {g10 : Addr} {od10 an10 : Option Addr} {sl10 : Array (Option Value)} {oc10 kV10 dc10 pm10 cd10 ct10 : Value}
    {g11 : Addr} {od11 an11 : Option Addr} {sl11 : Array (Option Value)} {oc11 kV11 dc11 pm11 cd11 ct11 : Value}
    {g12 : Addr} {od12 an12 : Option Addr} {sl12 : Array (Option Value)} {oc12 kV12 dc12 pm12 cd12 ct12 : Value}
    {CT : Addr}
    {C0 : Addr}
    {gC0 : Addr} {odC0 anC0 : Option Addr} {slC0 : Array (Option Value)} {ocC0 kVC0 dcC0 pmC0 cdC0 ctC0 : Value}
    {C1 : Addr}
    {gC1 : Addr} {odC1 anC1 : Option Addr} {slC1 : Array (Option Value)} {ocC1 kVC1 dcC1 pmC1 cdC1 ctC1 : Value}
    {C2 : Addr}
    {gC2 : Addr} {odC2 anC2 : Option Addr} {slC2 : Array (Option Value)} {ocC2 kVC2 dcC2 pmC2 cdC2 ctC2 : Value}
    {C3 : Addr}
    {gC3 : Addr} {odC3 anC3 : Option Addr} {slC3 : Array (Option Value)} {ocC3 kVC3 dcC3 pmC3 cdC3 ctC3 : Value}
    {C4 : Addr}
    {gC4 : Addr} {odC4 anC4 : Option Addr} {slC4 : Array (Option Value)} {ocC4 kVC4 dcC4 pmC4 cdC4 ctC4 : Value}
    {C5 : Addr}
    {C6 : Addr}
    {gC6 : Addr} {odC6 anC6 : Option Addr} {slC6 : Array (Option Value)} {ocC6 kVC6 dcC6 pmC6 cdC6 ctC6 : Value}
    {C7 : Addr}
    {gC7 : Addr} {odC7 anC7 : Option Addr} {slC7 : Array (Option Value)} {ocC7 kVC7 dcC7 pmC7 cdC7 ctC7 : Value}
    {C8 : Addr}
    {gC8 : Addr} {odC8 anC8 : Option Addr} {slC8 : Array (Option Value)} {ocC8 kVC8 dcC8 pmC8 cdC8 ctC8 : Value}
    {C9 : Addr}
    {gC9 : Addr} {odC9 anC9 : Option Addr} {slC9 : Array (Option Value)} {ocC9 kVC9 dcC9 pmC9 cdC9 ctC9 : Value}
    {C10 : Addr}
    {C11 : Addr}
    {gC11 : Addr} {odC11 anC11 : Option Addr} {slC11 : Array (Option Value)} {ocC11 kVC11 dcC11 pmC11 cdC11 ctC11 : Value}
    {CO : Addr}
    {gOI : Addr} {odOI anOI : Option Addr} {slOI : Array (Option Value)} {ocOI kVOI dcOI pmOI cdOI ctOI : Value}
    {gOE : Addr} {odOE anOE : Option Addr} {slOE : Array (Option Value)} {ocOE kVOE dcOE pmOE cdOE ctOE : Value}
    {tk : Tok}
    (a1 : PySem.W.nsIn K mainGlobals "is_whole" = some (some (.ref g1)))
    (l1 : K.lookup g1 = some ⟨oc1, od1, .func (PySem.W.fnOf "is_whole" "is_whole" (defArgs sIsWhole) (defBody sIsWhole) (defScope sIsWhole) .none kV1 dc1 pm1 an1 cd1 ct1), sl1⟩)
    (c1 : PySem.W.codeIn K cd1 "is_whole" = true)
    (k1 : PySem.W.keepIn K (.ref g1) = true)
    (a2 : PySem.W.nsIn K mainGlobals "has_task" = some (some (.ref g2)))
    (l2 : K.lookup g2 = some ⟨oc2, od2, .func (PySem.W.fnOf "has_task" "has_task" (defArgs sHasTask) (defBody sHasTask) (defScope sHasTask) .none kV2 dc2 pm2 an2 cd2 ct2), sl2⟩)
    (c2 : PySem.W.codeIn K cd2 "has_task" = true)
    (k2 : PySem.W.keepIn K (.ref g2) = true)
    (a3 : PySem.W.nsIn K mainGlobals "put_ahead" = some (some (.ref g3)))
    (l3 : K.lookup g3 = some ⟨oc3, od3, .func (PySem.W.fnOf "put_ahead" "put_ahead" (defArgs sPutAhead) (defBody sPutAhead) (defScope sPutAhead) .none kV3 dc3 pm3 an3 cd3 ct3), sl3⟩)
    (c3 : PySem.W.codeIn K cd3 "put_ahead" = true)
    (k3 : PySem.W.keepIn K (.ref g3) = true)
    (a4 : PySem.W.nsIn K mainGlobals "is_task_pair" = some (some (.ref g4)))
    (l4 : K.lookup g4 = some ⟨oc4, od4, .func (PySem.W.fnOf "is_task_pair" "is_task_pair" (defArgs sIsTaskPair) (defBody sIsTaskPair) (defScope sIsTaskPair) .none kV4 dc4 pm4 an4 cd4 ct4), sl4⟩)
    (c4 : PySem.W.codeIn K cd4 "is_task_pair" = true)
    (k4 : PySem.W.keepIn K (.ref g4) = true)
    (a5 : PySem.W.nsIn K mainGlobals "bits_behind" = some (some (.ref g5)))
    (l5 : K.lookup g5 = some ⟨oc5, od5, .func (PySem.W.fnOf "bits_behind" "bits_behind" (defArgs sBitsBehind) (defBody sBitsBehind) (defScope sBitsBehind) .none kV5 dc5 pm5 an5 cd5 ct5), sl5⟩)
    (c5 : PySem.W.codeIn K cd5 "bits_behind" = true)
    (k5 : PySem.W.keepIn K (.ref g5) = true)
    (a6 : PySem.W.nsIn K mainGlobals "pairs_told" = some (some (.ref g6)))
    (l6 : K.lookup g6 = some ⟨oc6, od6, .func (PySem.W.fnOf "pairs_told" "pairs_told" (defArgs sPairsTold) (defBody sPairsTold) (defScope sPairsTold) .none kV6 dc6 pm6 an6 cd6 ct6), sl6⟩)
    (c6 : PySem.W.codeIn K cd6 "pairs_told" = true)
    (k6 : PySem.W.keepIn K (.ref g6) = true)
    (a7 : PySem.W.nsIn K mainGlobals "_law_mixed" = some (some (.ref g7)))
    (l7 : K.lookup g7 = some ⟨oc7, od7, .func (PySem.W.fnOf "_law_mixed" "_law_mixed" (defArgs sMixed) (defBody sMixed) (defScope sMixed) .none kV7 dc7 pm7 an7 cd7 ct7), sl7⟩)
    (c7 : PySem.W.codeIn K cd7 "_law_mixed" = true)
    (k7 : PySem.W.keepIn K (.ref g7) = true)
    (a8 : PySem.W.nsIn K mainGlobals "_law_folded" = some (some (.ref g8)))
    (l8 : K.lookup g8 = some ⟨oc8, od8, .func (PySem.W.fnOf "_law_folded" "_law_folded" (defArgs sFolded) (defBody sFolded) (defScope sFolded) .none kV8 dc8 pm8 an8 cd8 ct8), sl8⟩)
    (c8 : PySem.W.codeIn K cd8 "_law_folded" = true)
    (k8 : PySem.W.keepIn K (.ref g8) = true)
    (a9 : PySem.W.nsIn K mainGlobals "_law_draw" = some (some (.ref g9)))
    (l9 : K.lookup g9 = some ⟨oc9, od9, .func (PySem.W.fnOf "_law_draw" "_law_draw" (defArgs sDraw) (defBody sDraw) (defScope sDraw) .none kV9 dc9 pm9 an9 cd9 ct9), sl9⟩)
    (c9 : PySem.W.codeIn K cd9 "_law_draw" = true)
    (k9 : PySem.W.keepIn K (.ref g9) = true)
    (a10 : PySem.W.nsIn K mainGlobals "_law_begun" = some (some (.ref g10)))
    (l10 : K.lookup g10 = some ⟨oc10, od10, .func (PySem.W.fnOf "_law_begun" "_law_begun" (defArgs sBegun) (defBody sBegun) (defScope sBegun) .none kV10 dc10 pm10 an10 cd10 ct10), sl10⟩)
    (c10 : PySem.W.codeIn K cd10 "_law_begun" = true)
    (k10 : PySem.W.keepIn K (.ref g10) = true)
    (a11 : PySem.W.nsIn K mainGlobals "_law_class" = some (some (.ref g11)))
    (l11 : K.lookup g11 = some ⟨oc11, od11, .func (PySem.W.fnOf "_law_class" "_law_class" (defArgs sClass) (defBody sClass) (defScope sClass) .none kV11 dc11 pm11 an11 cd11 ct11), sl11⟩)
    (c11 : PySem.W.codeIn K cd11 "_law_class" = true)
    (k11 : PySem.W.keepIn K (.ref g11) = true)
    (a12 : PySem.W.nsIn K mainGlobals "law" = some (some (.ref g12)))
    (l12 : K.lookup g12 = some ⟨oc12, od12, .func (PySem.W.fnOf "law" "law" (defArgs sLaw) (defBody sLaw) (defScope sLaw) .none kV12 dc12 pm12 an12 cd12 ct12), sl12⟩)
    (c12 : PySem.W.codeIn K cd12 "law" = true)
    (k12 : PySem.W.keepIn K (.ref g12) = true)
    (aCT : PySem.W.nsIn K mainGlobals "TaskError" = some (some (.ref CT)))
    (sT : PySem.W.specialIn K (.ref CT) "__getattribute__" = some (some (.builtin "type.__getattribute__")))
    (rT : PySem.W.readsIn K CT (.type "type") = true)
    (vT : PySem.W.findCls K (.ref CT) (.type "type") "__init__" = some (.val (.builtin "ValueError.__init__")))
    (vO : PySem.W.findCls K (.type "OverflowError") (.type "type") "__init__" = some (.val (.builtin "OverflowError.__init__")))
    (aC0 : PySem.W.nsIn K mainGlobals "BadPairs" = some (some (.ref C0)))
    (kCC0 : PySem.W.keepIn K (.ref C0) = true)
    (hgC0 : PySem.W.findIn K (.ref C0) "__getattribute__" = some (some (.builtin "BaseException.__getattribute__")))
    (hkC0 : PySem.W.findIn K (.ref C0) "__getattr__" = some none)
    (hsC0 : PySem.W.subIn K (.ref C0) (.type "BaseException") = some true)
    (hdC0 : PySem.W.hasDictIn K C0 = true)
    (haC0 : PySem.W.findIn K (.ref C0) "__class__" = some (some (.builtin "object.__class__")))
    (hmC0 : PySem.W.mroIn K C0 (.type "object") = some true)
    (eiC0 : PySem.W.excInitIn K C0 Exv.veMro "ValueError.__new__" = true)
    (eoC0 : PySem.W.excOver K C0 Exv.veMro = true)
    (saC0 : PySem.W.findIn K (.ref C0) "__setattr__" = some (some (.builtin "object.__setattr__")))
    (nfC0 : PySem.W.findIn K (.ref C0) "place" = some none)
    (tfC0 : PySem.W.takerIn K C0 "place" = some none)
    (iC0 : PySem.W.findIn K (.ref C0) "__init__" = some (some (.ref gC0)))
    (tC0 : PySem.W.typeIn K (.ref gC0) = some (.type "function"))
    (lC0 : K.lookup gC0 = some ⟨ocC0, odC0, .func (PySem.W.fnOf "__init__" "BadPairs.__init__" (defArgs sIBadPairs) (defBody sIBadPairs) (defScope sIBadPairs) .none kVC0 dcC0 pmC0 anC0 cdC0 ctC0), slC0⟩)
    (cC0 : PySem.W.codeIn K cdC0 "BadPairs.__init__" = true)
    (kC0 : PySem.W.keepIn K (.ref gC0) = true)
    (aC1 : PySem.W.nsIn K mainGlobals "BadTerm" = some (some (.ref C1)))
    (kCC1 : PySem.W.keepIn K (.ref C1) = true)
    (hgC1 : PySem.W.findIn K (.ref C1) "__getattribute__" = some (some (.builtin "BaseException.__getattribute__")))
    (hkC1 : PySem.W.findIn K (.ref C1) "__getattr__" = some none)
    (hsC1 : PySem.W.subIn K (.ref C1) (.type "BaseException") = some true)
    (hdC1 : PySem.W.hasDictIn K C1 = true)
    (haC1 : PySem.W.findIn K (.ref C1) "__class__" = some (some (.builtin "object.__class__")))
    (hmC1 : PySem.W.mroIn K C1 (.type "object") = some true)
    (eiC1 : PySem.W.excInitIn K C1 Exv.veMro "ValueError.__new__" = true)
    (eoC1 : PySem.W.excOver K C1 Exv.veMro = true)
    (saC1 : PySem.W.findIn K (.ref C1) "__setattr__" = some (some (.builtin "object.__setattr__")))
    (nfC1 : PySem.W.findIn K (.ref C1) "value" = some none)
    (tfC1 : PySem.W.takerIn K C1 "value" = some none)
    (iC1 : PySem.W.findIn K (.ref C1) "__init__" = some (some (.ref gC1)))
    (tC1 : PySem.W.typeIn K (.ref gC1) = some (.type "function"))
    (lC1 : K.lookup gC1 = some ⟨ocC1, odC1, .func (PySem.W.fnOf "__init__" "BadTerm.__init__" (defArgs sIBadTerm) (defBody sIBadTerm) (defScope sIBadTerm) .none kVC1 dcC1 pmC1 anC1 cdC1 ctC1), slC1⟩)
    (cC1 : PySem.W.codeIn K cdC1 "BadTerm.__init__" = true)
    (kC1 : PySem.W.keepIn K (.ref gC1) = true)
    (aC2 : PySem.W.nsIn K mainGlobals "BadNumber" = some (some (.ref C2)))
    (kCC2 : PySem.W.keepIn K (.ref C2) = true)
    (hgC2 : PySem.W.findIn K (.ref C2) "__getattribute__" = some (some (.builtin "BaseException.__getattribute__")))
    (hkC2 : PySem.W.findIn K (.ref C2) "__getattr__" = some none)
    (hsC2 : PySem.W.subIn K (.ref C2) (.type "BaseException") = some true)
    (hdC2 : PySem.W.hasDictIn K C2 = true)
    (haC2 : PySem.W.findIn K (.ref C2) "__class__" = some (some (.builtin "object.__class__")))
    (hmC2 : PySem.W.mroIn K C2 (.type "object") = some true)
    (eiC2 : PySem.W.excInitIn K C2 Exv.veMro "ValueError.__new__" = true)
    (eoC2 : PySem.W.excOver K C2 Exv.veMro = true)
    (saC2 : PySem.W.findIn K (.ref C2) "__setattr__" = some (some (.builtin "object.__setattr__")))
    (nfC2 : PySem.W.findIn K (.ref C2) "value" = some none)
    (tfC2 : PySem.W.takerIn K C2 "value" = some none)
    (iC2 : PySem.W.findIn K (.ref C2) "__init__" = some (some (.ref gC2)))
    (tC2 : PySem.W.typeIn K (.ref gC2) = some (.type "function"))
    (lC2 : K.lookup gC2 = some ⟨ocC2, odC2, .func (PySem.W.fnOf "__init__" "BadNumber.__init__" (defArgs sIBadNumber) (defBody sIBadNumber) (defScope sIBadNumber) .none kVC2 dcC2 pmC2 anC2 cdC2 ctC2), slC2⟩)
    (cC2 : PySem.W.codeIn K cdC2 "BadNumber.__init__" = true)
    (kC2 : PySem.W.keepIn K (.ref gC2) = true)
    (aC3 : PySem.W.nsIn K mainGlobals "BadExchange" = some (some (.ref C3)))
    (kCC3 : PySem.W.keepIn K (.ref C3) = true)
    (hgC3 : PySem.W.findIn K (.ref C3) "__getattribute__" = some (some (.builtin "BaseException.__getattribute__")))
    (hkC3 : PySem.W.findIn K (.ref C3) "__getattr__" = some none)
    (hsC3 : PySem.W.subIn K (.ref C3) (.type "BaseException") = some true)
    (hdC3 : PySem.W.hasDictIn K C3 = true)
    (haC3 : PySem.W.findIn K (.ref C3) "__class__" = some (some (.builtin "object.__class__")))
    (hmC3 : PySem.W.mroIn K C3 (.type "object") = some true)
    (eiC3 : PySem.W.excInitIn K C3 Exv.veMro "ValueError.__new__" = true)
    (eoC3 : PySem.W.excOver K C3 Exv.veMro = true)
    (saC3 : PySem.W.findIn K (.ref C3) "__setattr__" = some (some (.builtin "object.__setattr__")))
    (nfC3 : PySem.W.findIn K (.ref C3) "place" = some none)
    (tfC3 : PySem.W.takerIn K C3 "place" = some none)
    (iC3 : PySem.W.findIn K (.ref C3) "__init__" = some (some (.ref gC3)))
    (tC3 : PySem.W.typeIn K (.ref gC3) = some (.type "function"))
    (lC3 : K.lookup gC3 = some ⟨ocC3, odC3, .func (PySem.W.fnOf "__init__" "BadExchange.__init__" (defArgs sIBadExchange) (defBody sIBadExchange) (defScope sIBadExchange) .none kVC3 dcC3 pmC3 anC3 cdC3 ctC3), slC3⟩)
    (cC3 : PySem.W.codeIn K cdC3 "BadExchange.__init__" = true)
    (kC3 : PySem.W.keepIn K (.ref gC3) = true)
    (aC4 : PySem.W.nsIn K mainGlobals "NoTerm" = some (some (.ref C4)))
    (kCC4 : PySem.W.keepIn K (.ref C4) = true)
    (hgC4 : PySem.W.findIn K (.ref C4) "__getattribute__" = some (some (.builtin "BaseException.__getattribute__")))
    (hkC4 : PySem.W.findIn K (.ref C4) "__getattr__" = some none)
    (hsC4 : PySem.W.subIn K (.ref C4) (.type "BaseException") = some true)
    (hdC4 : PySem.W.hasDictIn K C4 = true)
    (haC4 : PySem.W.findIn K (.ref C4) "__class__" = some (some (.builtin "object.__class__")))
    (hmC4 : PySem.W.mroIn K C4 (.type "object") = some true)
    (eiC4 : PySem.W.excInitIn K C4 Exv.veMro "ValueError.__new__" = true)
    (eoC4 : PySem.W.excOver K C4 Exv.veMro = true)
    (saC4 : PySem.W.findIn K (.ref C4) "__setattr__" = some (some (.builtin "object.__setattr__")))
    (nfC4 : PySem.W.findIn K (.ref C4) "four" = some none)
    (tfC4 : PySem.W.takerIn K C4 "four" = some none)
    (iC4 : PySem.W.findIn K (.ref C4) "__init__" = some (some (.ref gC4)))
    (tC4 : PySem.W.typeIn K (.ref gC4) = some (.type "function"))
    (lC4 : K.lookup gC4 = some ⟨ocC4, odC4, .func (PySem.W.fnOf "__init__" "NoTerm.__init__" (defArgs sINoTerm) (defBody sINoTerm) (defScope sINoTerm) .none kVC4 dcC4 pmC4 anC4 cdC4 ctC4), slC4⟩)
    (cC4 : PySem.W.codeIn K cdC4 "NoTerm.__init__" = true)
    (kC4 : PySem.W.keepIn K (.ref gC4) = true)
    (aC5 : PySem.W.nsIn K mainGlobals "OtherTasks" = some (some (.ref C5)))
    (kCC5 : PySem.W.keepIn K (.ref C5) = true)
    (hgC5 : PySem.W.findIn K (.ref C5) "__getattribute__" = some (some (.builtin "BaseException.__getattribute__")))
    (hkC5 : PySem.W.findIn K (.ref C5) "__getattr__" = some none)
    (hsC5 : PySem.W.subIn K (.ref C5) (.type "BaseException") = some true)
    (hdC5 : PySem.W.hasDictIn K C5 = true)
    (haC5 : PySem.W.findIn K (.ref C5) "__class__" = some (some (.builtin "object.__class__")))
    (hmC5 : PySem.W.mroIn K C5 (.type "object") = some true)
    (exC5 : PySem.W.excIn K C5 Exv.veMro "ValueError.__new__" = true)
    (aC6 : PySem.W.nsIn K mainGlobals "Lacks" = some (some (.ref C6)))
    (kCC6 : PySem.W.keepIn K (.ref C6) = true)
    (hgC6 : PySem.W.findIn K (.ref C6) "__getattribute__" = some (some (.builtin "BaseException.__getattribute__")))
    (hkC6 : PySem.W.findIn K (.ref C6) "__getattr__" = some none)
    (hsC6 : PySem.W.subIn K (.ref C6) (.type "BaseException") = some true)
    (hdC6 : PySem.W.hasDictIn K C6 = true)
    (haC6 : PySem.W.findIn K (.ref C6) "__class__" = some (some (.builtin "object.__class__")))
    (hmC6 : PySem.W.mroIn K C6 (.type "object") = some true)
    (eiC6 : PySem.W.excInitIn K C6 Exv.veMro "ValueError.__new__" = true)
    (eoC6 : PySem.W.excOver K C6 Exv.veMro = true)
    (saC6 : PySem.W.findIn K (.ref C6) "__setattr__" = some (some (.builtin "object.__setattr__")))
    (nfC6 : PySem.W.findIn K (.ref C6) "pair" = some none)
    (tfC6 : PySem.W.takerIn K C6 "pair" = some none)
    (iC6 : PySem.W.findIn K (.ref C6) "__init__" = some (some (.ref gC6)))
    (tC6 : PySem.W.typeIn K (.ref gC6) = some (.type "function"))
    (lC6 : K.lookup gC6 = some ⟨ocC6, odC6, .func (PySem.W.fnOf "__init__" "Lacks.__init__" (defArgs sILacks) (defBody sILacks) (defScope sILacks) .none kVC6 dcC6 pmC6 anC6 cdC6 ctC6), slC6⟩)
    (cC6 : PySem.W.codeIn K cdC6 "Lacks.__init__" = true)
    (kC6 : PySem.W.keepIn K (.ref gC6) = true)
    (aC7 : PySem.W.nsIn K mainGlobals "BadRun" = some (some (.ref C7)))
    (kCC7 : PySem.W.keepIn K (.ref C7) = true)
    (hgC7 : PySem.W.findIn K (.ref C7) "__getattribute__" = some (some (.builtin "BaseException.__getattribute__")))
    (hkC7 : PySem.W.findIn K (.ref C7) "__getattr__" = some none)
    (hsC7 : PySem.W.subIn K (.ref C7) (.type "BaseException") = some true)
    (hdC7 : PySem.W.hasDictIn K C7 = true)
    (haC7 : PySem.W.findIn K (.ref C7) "__class__" = some (some (.builtin "object.__class__")))
    (hmC7 : PySem.W.mroIn K C7 (.type "object") = some true)
    (eiC7 : PySem.W.excInitIn K C7 Exv.veMro "ValueError.__new__" = true)
    (eoC7 : PySem.W.excOver K C7 Exv.veMro = true)
    (saC7 : PySem.W.findIn K (.ref C7) "__setattr__" = some (some (.builtin "object.__setattr__")))
    (nfC7 : PySem.W.findIn K (.ref C7) "place" = some none)
    (tfC7 : PySem.W.takerIn K C7 "place" = some none)
    (iC7 : PySem.W.findIn K (.ref C7) "__init__" = some (some (.ref gC7)))
    (tC7 : PySem.W.typeIn K (.ref gC7) = some (.type "function"))
    (lC7 : K.lookup gC7 = some ⟨ocC7, odC7, .func (PySem.W.fnOf "__init__" "BadRun.__init__" (defArgs sIBadRun) (defBody sIBadRun) (defScope sIBadRun) .none kVC7 dcC7 pmC7 anC7 cdC7 ctC7), slC7⟩)
    (cC7 : PySem.W.codeIn K cdC7 "BadRun.__init__" = true)
    (kC7 : PySem.W.keepIn K (.ref gC7) = true)
    (aC8 : PySem.W.nsIn K mainGlobals "BadRuns" = some (some (.ref C8)))
    (kCC8 : PySem.W.keepIn K (.ref C8) = true)
    (hgC8 : PySem.W.findIn K (.ref C8) "__getattribute__" = some (some (.builtin "BaseException.__getattribute__")))
    (hkC8 : PySem.W.findIn K (.ref C8) "__getattr__" = some none)
    (hsC8 : PySem.W.subIn K (.ref C8) (.type "BaseException") = some true)
    (hdC8 : PySem.W.hasDictIn K C8 = true)
    (haC8 : PySem.W.findIn K (.ref C8) "__class__" = some (some (.builtin "object.__class__")))
    (hmC8 : PySem.W.mroIn K C8 (.type "object") = some true)
    (eiC8 : PySem.W.excInitIn K C8 Exv.veMro "ValueError.__new__" = true)
    (eoC8 : PySem.W.excOver K C8 Exv.veMro = true)
    (saC8 : PySem.W.findIn K (.ref C8) "__setattr__" = some (some (.builtin "object.__setattr__")))
    (nfC8 : PySem.W.findIn K (.ref C8) "value" = some none)
    (tfC8 : PySem.W.takerIn K C8 "value" = some none)
    (iC8 : PySem.W.findIn K (.ref C8) "__init__" = some (some (.ref gC8)))
    (tC8 : PySem.W.typeIn K (.ref gC8) = some (.type "function"))
    (lC8 : K.lookup gC8 = some ⟨ocC8, odC8, .func (PySem.W.fnOf "__init__" "BadRuns.__init__" (defArgs sIBadRuns) (defBody sIBadRuns) (defScope sIBadRuns) .none kVC8 dcC8 pmC8 anC8 cdC8 ctC8), slC8⟩)
    (cC8 : PySem.W.codeIn K cdC8 "BadRuns.__init__" = true)
    (kC8 : PySem.W.keepIn K (.ref gC8) = true)
    (aC9 : PySem.W.nsIn K mainGlobals "BadText" = some (some (.ref C9)))
    (kCC9 : PySem.W.keepIn K (.ref C9) = true)
    (hgC9 : PySem.W.findIn K (.ref C9) "__getattribute__" = some (some (.builtin "BaseException.__getattribute__")))
    (hkC9 : PySem.W.findIn K (.ref C9) "__getattr__" = some none)
    (hsC9 : PySem.W.subIn K (.ref C9) (.type "BaseException") = some true)
    (hdC9 : PySem.W.hasDictIn K C9 = true)
    (haC9 : PySem.W.findIn K (.ref C9) "__class__" = some (some (.builtin "object.__class__")))
    (hmC9 : PySem.W.mroIn K C9 (.type "object") = some true)
    (eiC9 : PySem.W.excInitIn K C9 Exv.veMro "ValueError.__new__" = true)
    (eoC9 : PySem.W.excOver K C9 Exv.veMro = true)
    (saC9 : PySem.W.findIn K (.ref C9) "__setattr__" = some (some (.builtin "object.__setattr__")))
    (nfC9 : PySem.W.findIn K (.ref C9) "place" = some none)
    (tfC9 : PySem.W.takerIn K C9 "place" = some none)
    (iC9 : PySem.W.findIn K (.ref C9) "__init__" = some (some (.ref gC9)))
    (tC9 : PySem.W.typeIn K (.ref gC9) = some (.type "function"))
    (lC9 : K.lookup gC9 = some ⟨ocC9, odC9, .func (PySem.W.fnOf "__init__" "BadText.__init__" (defArgs sIBadText) (defBody sIBadText) (defScope sIBadText) .none kVC9 dcC9 pmC9 anC9 cdC9 ctC9), slC9⟩)
    (cC9 : PySem.W.codeIn K cdC9 "BadText.__init__" = true)
    (kC9 : PySem.W.keepIn K (.ref gC9) = true)
    (aC10 : PySem.W.nsIn K mainGlobals "NothingLeft" = some (some (.ref C10)))
    (kCC10 : PySem.W.keepIn K (.ref C10) = true)
    (hgC10 : PySem.W.findIn K (.ref C10) "__getattribute__" = some (some (.builtin "BaseException.__getattribute__")))
    (hkC10 : PySem.W.findIn K (.ref C10) "__getattr__" = some none)
    (hsC10 : PySem.W.subIn K (.ref C10) (.type "BaseException") = some true)
    (hdC10 : PySem.W.hasDictIn K C10 = true)
    (haC10 : PySem.W.findIn K (.ref C10) "__class__" = some (some (.builtin "object.__class__")))
    (hmC10 : PySem.W.mroIn K C10 (.type "object") = some true)
    (exC10 : PySem.W.excIn K C10 Exv.veMro "ValueError.__new__" = true)
    (aC11 : PySem.W.nsIn K mainGlobals "TooGreat" = some (some (.ref C11)))
    (kCC11 : PySem.W.keepIn K (.ref C11) = true)
    (hgC11 : PySem.W.findIn K (.ref C11) "__getattribute__" = some (some (.builtin "BaseException.__getattribute__")))
    (hkC11 : PySem.W.findIn K (.ref C11) "__getattr__" = some none)
    (hsC11 : PySem.W.subIn K (.ref C11) (.type "BaseException") = some true)
    (hdC11 : PySem.W.hasDictIn K C11 = true)
    (haC11 : PySem.W.findIn K (.ref C11) "__class__" = some (some (.builtin "object.__class__")))
    (hmC11 : PySem.W.mroIn K C11 (.type "object") = some true)
    (eiC11 : PySem.W.excInitIn K C11 Exv.oeMro "OverflowError.__new__" = true)
    (eoC11 : PySem.W.excOver K C11 Exv.oeMro = true)
    (saC11 : PySem.W.findIn K (.ref C11) "__setattr__" = some (some (.builtin "object.__setattr__")))
    (nfC11 : PySem.W.findIn K (.ref C11) "most" = some none)
    (tfC11 : PySem.W.takerIn K C11 "most" = some none)
    (iC11 : PySem.W.findIn K (.ref C11) "__init__" = some (some (.ref gC11)))
    (tC11 : PySem.W.typeIn K (.ref gC11) = some (.type "function"))
    (lC11 : K.lookup gC11 = some ⟨ocC11, odC11, .func (PySem.W.fnOf "__init__" "TooGreat.__init__" (defArgs sITooGreat) (defBody sITooGreat) (defScope sITooGreat) .none kVC11 dcC11 pmC11 anC11 cdC11 ctC11), slC11⟩)
    (cC11 : PySem.W.codeIn K cdC11 "TooGreat.__init__" = true)
    (kC11 : PySem.W.keepIn K (.ref gC11) = true)
    (hn : PySem.W.specialIn K (.builtin "object.__class__") "__get__" = some (some (.builtin "getset_descriptor.__get__")))
    (ht : PySem.W.takesIn K (.builtin "object.__class__") = some true)
    (T1 : ([C0, C1, C2, C3, C4, C5, C6, C7, C8, C9, C10, C11].map fun c => [C0, C1, C2, C3, C4, C5, C6, C7, C8, C9, C10, C11].map fun d => PySem.W.kitOne K (.ref c) (.ref d)) = (List.range 12).map fun i => (List.range 12).map fun j => some (decide (i = j)))
    (T2 : ([C0, C1, C2, C3, C4, C5, C6, C7, C8, C9, C10, C11].map fun c => (PySem.W.kitOne K (.ref c) (.type "ValueError"), PySem.W.kitOne K (.ref c) (.type "OverflowError"))) = (List.range 12).map fun i => (some (decide (i < 11)), some (decide (i = 11))))
    (T3 : ([C0, C1, C2, C3, C4, C5, C6, C7, C8, C9, C10, C11].map fun c => PySem.W.kitOne K (.ref c) (.ref CT)) = (List.range 12).map fun i => some (decide (i < 11)))
    (aO : PySem.W.nsIn K mainGlobals "Order" = some (some (.ref CO)))
    (pg : PySem.W.plainGet K CO Str.empty = true)
    (hdO : PySem.W.hasDictIn K CO = true)
    (po : PySem.W.plainOver K CO = true)
    (saO : PySem.W.findIn K (.ref CO) "__setattr__" = some (some (.builtin "object.__setattr__")))
    (n1 : PySem.W.findIn K (.ref CO) "many" = some none)
    (n2 : PySem.W.findIn K (.ref CO) "behind" = some none)
    (n3 : PySem.W.findIn K (.ref CO) "pairs" = some none)
    (haO : PySem.W.findIn K (.ref CO) "__class__" = some (some (.builtin "object.__class__")))
    (hmO : PySem.W.mroIn K CO (.type "object") = some true)
    (mkO : PySem.W.makesIn K CO = true)
    (kO : PySem.W.keepIn K (.ref CO) = true)
    (iO : PySem.W.findIn K (.ref CO) "__init__" = some (some (.ref gOI)))
    (jO : PySem.W.isFn K (.ref gOI) = true)
    (qO : PySem.W.findIn K (.ref CO) "__eq__" = some (some (.ref gOE)))
    (rO : PySem.W.isFn K (.ref gOE) = true)
    (neO : PySem.W.findIn K (.ref CO) "__ne__" = some (some (.builtin "object.__ne__")))
    (s_object : PySem.W.subIn K (.ref CO) (.type "object") = some true)
    (s_list : PySem.W.subIn K (.ref CO) (.type "list") = some false)
    (s_tuple : PySem.W.subIn K (.ref CO) (.type "tuple") = some false)
    (s_dict : PySem.W.subIn K (.ref CO) (.type "dict") = some false)
    (s_NoneType : PySem.W.subIn K (.ref CO) (.type "NoneType") = some false)
    (s_int : PySem.W.subIn K (.ref CO) (.type "int") = some false)
    (s_str : PySem.W.subIn K (.ref CO) (.type "str") = some false)
    (lOI : K.lookup gOI = some ⟨ocOI, odOI, .func (PySem.W.fnOf "__init__" "Order.__init__" (defArgs sOrdInit) (defBody sOrdInit) (defScope sOrdInit) .none kVOI dcOI pmOI anOI cdOI ctOI), slOI⟩)
    (cOI : PySem.W.codeIn K cdOI "Order.__init__" = true)
    (kOI : PySem.W.keepIn K (.ref gOI) = true)
    (lOE : K.lookup gOE = some ⟨ocOE, odOE, .func (PySem.W.fnOf "__eq__" "Order.__eq__" (defArgs sOrdEq) (defBody sOrdEq) (defScope sOrdEq) .none kVOE dcOE pmOE anOE cdOE ctOE), slOE⟩)
    (cOE : PySem.W.codeIn K cdOE "Order.__eq__" = true)
    (kOE : PySem.W.keepIn K (.ref gOE) = true)
    (T4 : (["NoneType", "int", "str", "list", "tuple", "dict"].all fun T => PySem.W.notFirst K CO (.type T) && PySem.W.kitOne K (.type T) (.ref CO) == some false) = true)
    (T5 : PySem.W.notFirst K CO (.ref CO) = true)
    (T6 : PySem.W.kitOne K (.ref CO) (.ref CO) = some true)
    (aM : PySem.W.nsIn K mainGlobals "MOST_TASKS" = some (some (.int 12 tk)))
    (n_int : PySem.W.nsIn K mainGlobals "int" = some none)
    (n_bool : PySem.W.nsIn K mainGlobals "bool" = some none)
    (n_len : PySem.W.nsIn K mainGlobals "len" = some none)
    (n_range : PySem.W.nsIn K mainGlobals "range" = some none)
    (n_enumerate : PySem.W.nsIn K mainGlobals "enumerate" = some none)
    (n_isinstance : PySem.W.nsIn K mainGlobals "isinstance" = some none)
    (n_list : PySem.W.nsIn K mainGlobals "list" = some none)
    (n_tuple : PySem.W.nsIn K mainGlobals "tuple" = some none)
    (n_repr : PySem.W.nsIn K mainGlobals "repr" = some none)
    (n_ValueError : PySem.W.nsIn K mainGlobals "ValueError" = some none)
    (n_OverflowError : PySem.W.nsIn K mainGlobals "OverflowError" = some none)
    : ∃ fd : FuncData, (∀ (s : Shared) (u : Value), BindsTo s fd ⟨[u], []⟩ [("script", u)]) ∧ ∀ base : Heap, K.In base → base.Ns mainGlobals mg → Rd.FnOkG l.prog w K mg base CX0 6 fa fd ["script"] (spLaw K) := by
  have e := hfa.symm.trans (PySem.W.mg_of X G a12)
  cases e
  refine ⟨PySem.W.fnOf "law" "law" (defArgs sLaw) (defBody sLaw) (defScope sLaw) .none kV12 dc12 pm12 an12 cd12 ct12, fun s v => .of_eq rfl, fun base _ _ => ?_⟩
  have z_OverflowError := PySem.W.mg_none_of X G n_OverflowError
  have z_ValueError := PySem.W.mg_none_of X G n_ValueError
  have z_repr := PySem.W.mg_none_of X G n_repr
  have z_tuple := PySem.W.mg_none_of X G n_tuple
  have z_list := PySem.W.mg_none_of X G n_list
  have z_isinstance := PySem.W.mg_none_of X G n_isinstance
  have z_enumerate := PySem.W.mg_none_of X G n_enumerate
  have z_range := PySem.W.mg_none_of X G n_range
  have z_len := PySem.W.mg_none_of X G n_len
  have z_bool := PySem.W.mg_none_of X G n_bool
  have z_int := PySem.W.mg_none_of X G n_int
  have F1 := fun_mk (st := sIsWhole) l1 c1 k1
  have m1 := PySem.W.mg_of X G a1
  have F2 := fun_mk (st := sHasTask) l2 c2 k2
  have m2 := PySem.W.mg_of X G a2
  have F3 := fun_mk (st := sPutAhead) l3 c3 k3
  have m3 := PySem.W.mg_of X G a3
  have F4 := fun_mk (st := sIsTaskPair) l4 c4 k4
  have m4 := PySem.W.mg_of X G a4
  have F5 := fun_mk (st := sBitsBehind) l5 c5 k5
  have m5 := PySem.W.mg_of X G a5
  have F6 := fun_mk (st := sPairsTold) l6 c6 k6
  have m6 := PySem.W.mg_of X G a6
  have F7 := fun_mk (st := sMixed) l7 c7 k7
  have m7 := PySem.W.mg_of X G a7
  have F8 := fun_mk (st := sFolded) l8 c8 k8
  have m8 := PySem.W.mg_of X G a8
  have F9 := fun_mk (st := sDraw) l9 c9 k9
  have m9 := PySem.W.mg_of X G a9
  have F10 := fun_mk (st := sBegun) l10 c10 k10
  have m10 := PySem.W.mg_of X G a10
  have F11 := fun_mk (st := sClass) l11 c11 k11
  have m11 := PySem.W.mg_of X G a11
  have F12 := fun_mk (st := sLaw) l12 c12 k12
  have m12 := PySem.W.mg_of X G a12
  have mCT := PySem.W.mg_of X G aCT
  have mC0 := PySem.W.mg_of X G aC0
  have isC0 : L2.ExcC K C0 := ⟨hgC0, hkC0, hsC0, hdC0, haC0, hn, ht, hmC0⟩
  have FC0 := fun_mk (st := sIBadPairs) lC0 cC0 kC0
  have EC0 : Exv.EC K C0 "ValueError" "ValueError.__new__" "ValueError.__init__" Exv.veMro := ⟨Exv.baseVE, eiC0, eoC0, saC0, kCC0, isC0⟩
  have MC0 : Exv.Maker l.prog w K mg base "BadPairs" "place" C0 := ⟨mC0, nfC0, "ValueError", "ValueError.__new__", "ValueError.__init__", Exv.veMro, _, _, ["self", "place"], EC0, iC0, tC0, ok_BadPairs FC0 EC0 tfC0 mCT sT rT vT, FC0.binds (ps := ["self", "place"]) fun _ _ _ _ _ _ us hl => match us, hl with | [_, _], _ => rfl, fun _ _ _ => .of_eq rfl, rfl⟩
  have mC1 := PySem.W.mg_of X G aC1
  have isC1 : L2.ExcC K C1 := ⟨hgC1, hkC1, hsC1, hdC1, haC1, hn, ht, hmC1⟩
  have FC1 := fun_mk (st := sIBadTerm) lC1 cC1 kC1
  have EC1 : Exv.EC K C1 "ValueError" "ValueError.__new__" "ValueError.__init__" Exv.veMro := ⟨Exv.baseVE, eiC1, eoC1, saC1, kCC1, isC1⟩
  have MC1 : Exv.Maker l.prog w K mg base "BadTerm" "value" C1 := ⟨mC1, nfC1, "ValueError", "ValueError.__new__", "ValueError.__init__", Exv.veMro, _, _, ["self", "value"], EC1, iC1, tC1, ok_BadTerm FC1 EC1 tfC1 mCT sT rT vT, FC1.binds (ps := ["self", "value"]) fun _ _ _ _ _ _ us hl => match us, hl with | [_, _], _ => rfl, fun _ _ _ => .of_eq rfl, rfl⟩
  have mC2 := PySem.W.mg_of X G aC2
  have isC2 : L2.ExcC K C2 := ⟨hgC2, hkC2, hsC2, hdC2, haC2, hn, ht, hmC2⟩
  have FC2 := fun_mk (st := sIBadNumber) lC2 cC2 kC2
  have EC2 : Exv.EC K C2 "ValueError" "ValueError.__new__" "ValueError.__init__" Exv.veMro := ⟨Exv.baseVE, eiC2, eoC2, saC2, kCC2, isC2⟩
  have MC2 : Exv.Maker l.prog w K mg base "BadNumber" "value" C2 := ⟨mC2, nfC2, "ValueError", "ValueError.__new__", "ValueError.__init__", Exv.veMro, _, _, ["self", "value"], EC2, iC2, tC2, ok_BadNumber FC2 EC2 tfC2 mCT sT rT vT, FC2.binds (ps := ["self", "value"]) fun _ _ _ _ _ _ us hl => match us, hl with | [_, _], _ => rfl, fun _ _ _ => .of_eq rfl, rfl⟩
  have mC3 := PySem.W.mg_of X G aC3
  have isC3 : L2.ExcC K C3 := ⟨hgC3, hkC3, hsC3, hdC3, haC3, hn, ht, hmC3⟩
  have FC3 := fun_mk (st := sIBadExchange) lC3 cC3 kC3
  have EC3 : Exv.EC K C3 "ValueError" "ValueError.__new__" "ValueError.__init__" Exv.veMro := ⟨Exv.baseVE, eiC3, eoC3, saC3, kCC3, isC3⟩
  have MC3 : Exv.Maker l.prog w K mg base "BadExchange" "place" C3 := ⟨mC3, nfC3, "ValueError", "ValueError.__new__", "ValueError.__init__", Exv.veMro, _, _, ["self", "place"], EC3, iC3, tC3, ok_BadExchange FC3 EC3 tfC3 mCT sT rT vT, FC3.binds (ps := ["self", "place"]) fun _ _ _ _ _ _ us hl => match us, hl with | [_, _], _ => rfl, fun _ _ _ => .of_eq rfl, rfl⟩
  have mC4 := PySem.W.mg_of X G aC4
  have isC4 : L2.ExcC K C4 := ⟨hgC4, hkC4, hsC4, hdC4, haC4, hn, ht, hmC4⟩
  have FC4 := fun_mk (st := sINoTerm) lC4 cC4 kC4
  have EC4 : Exv.EC K C4 "ValueError" "ValueError.__new__" "ValueError.__init__" Exv.veMro := ⟨Exv.baseVE, eiC4, eoC4, saC4, kCC4, isC4⟩
  have MC4 : Exv.Maker l.prog w K mg base "NoTerm" "four" C4 := ⟨mC4, nfC4, "ValueError", "ValueError.__new__", "ValueError.__init__", Exv.veMro, _, _, ["self", "four"], EC4, iC4, tC4, ok_NoTerm FC4 EC4 tfC4 mCT sT rT vT, FC4.binds (ps := ["self", "four"]) fun _ _ _ _ _ _ us hl => match us, hl with | [_, _], _ => rfl, fun _ _ _ => .of_eq rfl, rfl⟩
  have mC5 := PySem.W.mg_of X G aC5
  have isC5 : L2.ExcC K C5 := ⟨hgC5, hkC5, hsC5, hdC5, haC5, hn, ht, hmC5⟩
  have MC5 : Exv.Maker0 K mg "OtherTasks" C5 := ⟨mC5, kCC5, isC5, "ValueError", "ValueError.__new__", "ValueError.__init__", Exv.veMro, (Exv.baseVE).ex, exC5⟩
  have mC6 := PySem.W.mg_of X G aC6
  have isC6 : L2.ExcC K C6 := ⟨hgC6, hkC6, hsC6, hdC6, haC6, hn, ht, hmC6⟩
  have FC6 := fun_mk (st := sILacks) lC6 cC6 kC6
  have EC6 : Exv.EC K C6 "ValueError" "ValueError.__new__" "ValueError.__init__" Exv.veMro := ⟨Exv.baseVE, eiC6, eoC6, saC6, kCC6, isC6⟩
  have MC6 : Exv.Maker l.prog w K mg base "Lacks" "pair" C6 := ⟨mC6, nfC6, "ValueError", "ValueError.__new__", "ValueError.__init__", Exv.veMro, _, _, ["self", "pair"], EC6, iC6, tC6, ok_Lacks FC6 EC6 tfC6 mCT sT rT vT, FC6.binds (ps := ["self", "pair"]) fun _ _ _ _ _ _ us hl => match us, hl with | [_, _], _ => rfl, fun _ _ _ => .of_eq rfl, rfl⟩
  have mC7 := PySem.W.mg_of X G aC7
  have isC7 : L2.ExcC K C7 := ⟨hgC7, hkC7, hsC7, hdC7, haC7, hn, ht, hmC7⟩
  have FC7 := fun_mk (st := sIBadRun) lC7 cC7 kC7
  have EC7 : Exv.EC K C7 "ValueError" "ValueError.__new__" "ValueError.__init__" Exv.veMro := ⟨Exv.baseVE, eiC7, eoC7, saC7, kCC7, isC7⟩
  have MC7 : Exv.Maker l.prog w K mg base "BadRun" "place" C7 := ⟨mC7, nfC7, "ValueError", "ValueError.__new__", "ValueError.__init__", Exv.veMro, _, _, ["self", "place"], EC7, iC7, tC7, ok_BadRun FC7 EC7 tfC7 mCT sT rT vT, FC7.binds (ps := ["self", "place"]) fun _ _ _ _ _ _ us hl => match us, hl with | [_, _], _ => rfl, fun _ _ _ => .of_eq rfl, rfl⟩
  have mC8 := PySem.W.mg_of X G aC8
  have isC8 : L2.ExcC K C8 := ⟨hgC8, hkC8, hsC8, hdC8, haC8, hn, ht, hmC8⟩
  have FC8 := fun_mk (st := sIBadRuns) lC8 cC8 kC8
  have EC8 : Exv.EC K C8 "ValueError" "ValueError.__new__" "ValueError.__init__" Exv.veMro := ⟨Exv.baseVE, eiC8, eoC8, saC8, kCC8, isC8⟩
  have MC8 : Exv.Maker l.prog w K mg base "BadRuns" "value" C8 := ⟨mC8, nfC8, "ValueError", "ValueError.__new__", "ValueError.__init__", Exv.veMro, _, _, ["self", "value"], EC8, iC8, tC8, ok_BadRuns FC8 EC8 tfC8 mCT sT rT vT, FC8.binds (ps := ["self", "value"]) fun _ _ _ _ _ _ us hl => match us, hl with | [_, _], _ => rfl, fun _ _ _ => .of_eq rfl, rfl⟩
  have mC9 := PySem.W.mg_of X G aC9
  have isC9 : L2.ExcC K C9 := ⟨hgC9, hkC9, hsC9, hdC9, haC9, hn, ht, hmC9⟩
  have FC9 := fun_mk (st := sIBadText) lC9 cC9 kC9
  have EC9 : Exv.EC K C9 "ValueError" "ValueError.__new__" "ValueError.__init__" Exv.veMro := ⟨Exv.baseVE, eiC9, eoC9, saC9, kCC9, isC9⟩
  have MC9 : Exv.Maker l.prog w K mg base "BadText" "place" C9 := ⟨mC9, nfC9, "ValueError", "ValueError.__new__", "ValueError.__init__", Exv.veMro, _, _, ["self", "place"], EC9, iC9, tC9, ok_BadText FC9 EC9 tfC9 mCT sT rT vT, FC9.binds (ps := ["self", "place"]) fun _ _ _ _ _ _ us hl => match us, hl with | [_, _], _ => rfl, fun _ _ _ => .of_eq rfl, rfl⟩
  have mC10 := PySem.W.mg_of X G aC10
  have isC10 : L2.ExcC K C10 := ⟨hgC10, hkC10, hsC10, hdC10, haC10, hn, ht, hmC10⟩
  have MC10 : Exv.Maker0 K mg "NothingLeft" C10 := ⟨mC10, kCC10, isC10, "ValueError", "ValueError.__new__", "ValueError.__init__", Exv.veMro, (Exv.baseVE).ex, exC10⟩
  have mC11 := PySem.W.mg_of X G aC11
  have isC11 : L2.ExcC K C11 := ⟨hgC11, hkC11, hsC11, hdC11, haC11, hn, ht, hmC11⟩
  have FC11 := fun_mk (st := sITooGreat) lC11 cC11 kC11
  have EC11 : Exv.EC K C11 "OverflowError" "OverflowError.__new__" "OverflowError.__init__" Exv.oeMro := ⟨Exv.baseOE, eiC11, eoC11, saC11, kCC11, isC11⟩
  have MC11 : Exv.Maker l.prog w K mg base "TooGreat" "most" C11 := ⟨mC11, nfC11, "OverflowError", "OverflowError.__new__", "OverflowError.__init__", Exv.oeMro, _, _, ["self", "most"], EC11, iC11, tC11, ok_TooGreat FC11 EC11 tfC11 z_OverflowError vO, FC11.binds (ps := ["self", "most"]) fun _ _ _ _ _ _ us hl => match us, hl with | [_, _], _ => rfl, fun _ _ _ => .of_eq rfl, rfl⟩
  have c_is_whole : Rd.Callee l.prog w K mg base CX0 1 "is_whole" ["value", "low", "high"] (spIsWhole K) := ⟨_, _, m1, k1, F1.binds (ps := ["value", "low", "high"]) fun _ _ _ _ _ _ us hl => match us, hl with | [_, _, _], _ => rfl, ok_is_whole F1 z_isinstance z_int z_bool⟩
  have c_has_task : Rd.Callee l.prog w K mg base CX0 1 "has_task" ["bits", "task"] spHasTask := ⟨_, _, m2, k2, F2.binds (ps := ["bits", "task"]) fun _ _ _ _ _ _ us hl => match us, hl with | [_, _], _ => rfl, ok_has_task F2⟩
  have c_put_ahead : Rd.Callee l.prog w K mg base CX0 2 "put_ahead" ["behind", "one", "other"] (spPutAhead K) := ⟨_, _, m3, k3, F3.binds (ps := ["behind", "one", "other"]) fun _ _ _ _ _ _ us hl => match us, hl with | [_, _, _], _ => rfl, ok_put_ahead F3 z_enumerate c_has_task⟩
  have c_is_task_pair : Rd.Callee l.prog w K mg base CX0 2 "is_task_pair" ["many", "value"] (spIsTaskPair K) := ⟨_, _, m4, k4, F4.binds (ps := ["many", "value"]) fun _ _ _ _ _ _ us hl => match us, hl with | [_, _], _ => rfl, ok_is_task_pair F4 z_isinstance z_tuple z_len c_is_whole⟩
  have c_bits_behind : Rd.Callee l.prog w K mg base CX0 3 "bits_behind" ["many", "pairs"] (spBitsBehind K) := ⟨_, _, m5, k5, F5.binds (ps := ["many", "pairs"]) fun _ _ _ _ _ _ us hl => match us, hl with | [_, _], _ => rfl, ok_bits_behind F5 z_enumerate c_is_task_pair c_has_task c_put_ahead⟩
  have c_pairs_told : Rd.Callee l.prog w K mg base CX0 2 "pairs_told" ["behind"] (spPairsTold K) := ⟨_, _, m6, k6, F6.binds (ps := ["behind"]) fun _ _ _ _ _ _ us hl => match us, hl with | [_], _ => rfl, ok_pairs_told F6 z_list z_range z_len c_has_task⟩
  have c__law_mixed : Rd.Callee l.prog w K mg base CX0 1 "_law_mixed" ["cell", "n"] spMixed := ⟨_, _, m7, k7, F7.binds (ps := ["cell", "n"]) fun _ _ _ _ _ _ us hl => match us, hl with | [_, _], _ => rfl, ok_mixed F7 z_int⟩
  have c__law_folded : Rd.Callee l.prog w K mg base CX0 1 "_law_folded" ["script"] (spFolded K) := ⟨_, _, m8, k8, F8.binds (ps := ["script"]) fun _ _ _ _ _ _ us hl => match us, hl with | [_], _ => rfl, ok_folded F8 z_int z_range z_enumerate⟩
  have c__law_draw : Rd.Callee l.prog w K mg base CX0 2 "_law_draw" ["m", "limit"] spDraw := ⟨_, _, m9, k9, F9.binds (ps := ["m", "limit"]) fun _ _ _ _ _ _ us hl => match us, hl with | [_, _], _ => rfl, ok_draw F9 z_int z_len c__law_mixed⟩
  have c__law_begun : Rd.Callee l.prog w K mg base CX0 2 "_law_begun" ["script"] (spBegun K) := ⟨_, _, m10, k10, F10.binds (ps := ["script"]) fun _ _ _ _ _ _ us hl => match us, hl with | [_], _ => rfl, ok_begun F10 c__law_folded⟩
  have hC : Twelve K [C0, C1, C2, C3, C4, C5, C6, C7, C8, C9, C10, C11] := ⟨rfl, fun i c hi j d hj => tabAt (tabAt T1 hi) hj, fun i c hi => (Prod.mk.injEq _ _ _ _ ▸ tabAt T2 hi :), fun i c hi => by
    have hm := List.mem_of_getElem? hi
    simp only [List.mem_cons, List.not_mem_nil, or_false] at hm
    rcases hm with rfl | rfl | rfl | rfl | rfl | rfl | rfl | rfl | rfl | rfl | rfl | rfl <;> assumption, fun i c f hi hf nf => by
    have hi12 : i < 12 := (List.getElem?_eq_some_iff.mp hi).1
    match i, hi12 with
    | 0, _ => cases hi; cases hf; exact nfC0
    | 1, _ => cases hi; cases hf; exact nfC1
    | 2, _ => cases hi; cases hf; exact nfC2
    | 3, _ => cases hi; cases hf; exact nfC3
    | 4, _ => cases hi; cases hf; exact nfC4
    | 5, _ => cases hi; cases hf; exact absurd rfl nf
    | 6, _ => cases hi; cases hf; exact nfC6
    | 7, _ => cases hi; cases hf; exact nfC7
    | 8, _ => cases hi; cases hf; exact nfC8
    | 9, _ => cases hi; cases hf; exact nfC9
    | 10, _ => cases hi; cases hf; exact absurd rfl nf
    | 11, _ => cases hi; cases hf; exact nfC11
    | (m + 12), z => omega⟩
  have c__law_class : Rd.Callee l.prog w K mg base CX0 1 "_law_class" ["error"] (spClass [C0, C1, C2, C3, C4, C5, C6, C7, C8, C9, C10, C11]) := ⟨_, _, m11, k11, F11.binds (ps := ["error"]) fun _ _ _ _ _ _ us hl => match us, hl with | [_], _ => rfl, ok_class F11 hC mC0 mC1 mC2 mC3 mC4 mC5 mC6 mC7 mC8 mC9 mC10 mC11 z_isinstance z_len⟩
  have mCO := PySem.W.mg_of X G aO
  have TO : OrdC K CO := ⟨⟨pg, hdO, po, saO⟩, n1, n2, n3, haO, hn, ht, hmO⟩
  have FOI := fun_mk (st := sOrdInit) lOI cOI kOI
  have FOE := fun_mk (st := sOrdEq) lOE cOE kOE
  have MO : OrdMk l.prog w K mg base CO := ⟨mCO, _, _, ["self", "many", "pairs"], ⟨mkO, iO, jO, kO⟩, FOI.binds (ps := ["self", "many", "pairs"]) fun _ _ _ _ _ _ us hl => match us, hl with | [_, _, _], _ => rfl, ok_ord_init FOI TO z_isinstance z_list z_tuple (PySem.W.mg_of X G aM) c_is_whole c_bits_behind c_pairs_told⟩
  have QO : Cmq.Eqr l.prog w K mg base 1 CO ["self", "other"] (spOrdEq K CO) := ⟨_, _, ⟨qO, neO, rO, s_object, s_list, s_tuple, s_dict, s_NoneType, s_int, s_str⟩, FOE.binds (ps := ["self", "other"]) fun _ _ _ _ _ _ us hl => match us, hl with | [_, _], _ => rfl, ok_ord_eq FOE TO z_isinstance mCO⟩
  have OO : OddC K CO := ⟨fun T hT => by
    have := List.all_eq_true.mp T4 T hT
    rw [Bool.and_eq_true] at this
    exact ⟨this.1, eq_of_beq this.2⟩, T5, T6⟩
  exact ok_law F12 OO TO hC (fun i c hi => tabAt T3 hi) MC0 MC1 MC2 MC3 MC4 MC5 MC6 MC7 MC8 MC9 MC10 MC11 mCT z_repr z_isinstance z_range z_ValueError z_OverflowError MO QO c__law_begun c__law_draw c__law_class
end Bb
open PySem PySem.W PyProof.Rows in
set_option maxRecDepth 100000 in
set_option maxHeartbeats 0 in
theorem PySem.Challenge.cw_behindbeside_k78_exceptions_of_both_part_holds : PySem.Challenge.rw_behindbeside_k78_exceptions_of_both_part.Holds := by
  w_on; o_law; k_head; (case hw => w_witness2)
  k_fill
  refine Rd.walkG (l := PySem.Challenge.rw_behindbeside_k78_exceptions_of_both_part) (n := 63) (k := 6) (x := "script") (sp := Bb.spLaw) rfl (by decide) rfl ⟨rfl, by decide, by decide⟩ (fun w h Y => PySem.W.kIn_of Y) ?F (fun K H a ns hl hS => ⟨a, ns, rfl, hS, hl, fun _ => rfl⟩)
  case F =>
    intro w mg fa h KX G hmg
    refine' Bb.all_mk KX G hmg ?a1 ?l1 ?c1 ?k1 ?a2 ?l2 ?c2 ?k2 ?a3 ?l3 ?c3 ?k3 ?a4 ?l4 ?c4 ?k4 ?a5 ?l5 ?c5 ?k5 ?a6 ?l6 ?c6 ?k6 ?a7 ?l7 ?c7 ?k7 ?a8 ?l8 ?c8 ?k8 ?a9 ?l9 ?c9 ?k9 ?a10 ?l10 ?c10 ?k10 ?a11 ?l11 ?c11 ?k11 ?a12 ?l12 ?c12 ?k12 ?aCT ?sT ?rT ?vT ?vO ?aC0 ?kCC0 ?hgC0 ?hkC0 ?hsC0 ?hdC0 ?haC0 ?hmC0 ?eiC0 ?eoC0 ?saC0 ?nfC0 ?tfC0 ?iC0 ?tC0 ?lC0 ?cC0 ?kC0 ?aC1 ?kCC1 ?hgC1 ?hkC1 ?hsC1 ?hdC1 ?haC1 ?hmC1 ?eiC1 ?eoC1 ?saC1 ?nfC1 ?tfC1 ?iC1 ?tC1 ?lC1 ?cC1 ?kC1 ?aC2 ?kCC2 ?hgC2 ?hkC2 ?hsC2 ?hdC2 ?haC2 ?hmC2 ?eiC2 ?eoC2 ?saC2 ?nfC2 ?tfC2 ?iC2 ?tC2 ?lC2 ?cC2 ?kC2 ?aC3 ?kCC3 ?hgC3 ?hkC3 ?hsC3 ?hdC3 ?haC3 ?hmC3 ?eiC3 ?eoC3 ?saC3 ?nfC3 ?tfC3 ?iC3 ?tC3 ?lC3 ?cC3 ?kC3 ?aC4 ?kCC4 ?hgC4 ?hkC4 ?hsC4 ?hdC4 ?haC4 ?hmC4 ?eiC4 ?eoC4 ?saC4 ?nfC4 ?tfC4 ?iC4 ?tC4 ?lC4 ?cC4 ?kC4 ?aC5 ?kCC5 ?hgC5 ?hkC5 ?hsC5 ?hdC5 ?haC5 ?hmC5 ?exC5 ?aC6 ?kCC6 ?hgC6 ?hkC6 ?hsC6 ?hdC6 ?haC6 ?hmC6 ?eiC6 ?eoC6 ?saC6 ?nfC6 ?tfC6 ?iC6 ?tC6 ?lC6 ?cC6 ?kC6 ?aC7 ?kCC7 ?hgC7 ?hkC7 ?hsC7 ?hdC7 ?haC7 ?hmC7 ?eiC7 ?eoC7 ?saC7 ?nfC7 ?tfC7 ?iC7 ?tC7 ?lC7 ?cC7 ?kC7 ?aC8 ?kCC8 ?hgC8 ?hkC8 ?hsC8 ?hdC8 ?haC8 ?hmC8 ?eiC8 ?eoC8 ?saC8 ?nfC8 ?tfC8 ?iC8 ?tC8 ?lC8 ?cC8 ?kC8 ?aC9 ?kCC9 ?hgC9 ?hkC9 ?hsC9 ?hdC9 ?haC9 ?hmC9 ?eiC9 ?eoC9 ?saC9 ?nfC9 ?tfC9 ?iC9 ?tC9 ?lC9 ?cC9 ?kC9 ?aC10 ?kCC10 ?hgC10 ?hkC10 ?hsC10 ?hdC10 ?haC10 ?hmC10 ?exC10 ?aC11 ?kCC11 ?hgC11 ?hkC11 ?hsC11 ?hdC11 ?haC11 ?hmC11 ?eiC11 ?eoC11 ?saC11 ?nfC11 ?tfC11 ?iC11 ?tC11 ?lC11 ?cC11 ?kC11 ?hn ?ht ?T1 ?T2 ?T3 ?aO ?pg ?hdO ?po ?saO ?n1 ?n2 ?n3 ?haO ?hmO ?mkO ?kO ?iO ?jO ?qO ?rO ?neO ?s_object ?s_list ?s_tuple ?s_dict ?s_NoneType ?s_int ?s_str ?lOI ?cOI ?kOI ?lOE ?cOE ?kOE ?T4 ?T5 ?T6 ?aM ?n_int ?n_bool ?n_len ?n_range ?n_enumerate ?n_isinstance ?n_list ?n_tuple ?n_repr ?n_ValueError ?n_OverflowError
    (case a1 => k_is)
    (case l1 => k_is)
    (case c1 => k_is)
    (case k1 => k_is)
    (case a2 => k_is)
    (case l2 => k_is)
    (case c2 => k_is)
    (case k2 => k_is)
    (case a3 => k_is)
    (case l3 => k_is)
    (case c3 => k_is)
    (case k3 => k_is)
    (case a4 => k_is)
    (case l4 => k_is)
    (case c4 => k_is)
    (case k4 => k_is)
    (case a5 => k_is)
    (case l5 => k_is)
    (case c5 => k_is)
    (case k5 => k_is)
    (case a6 => k_is)
    (case l6 => k_is)
    (case c6 => k_is)
    (case k6 => k_is)
    (case a7 => k_is)
    (case l7 => k_is)
    (case c7 => k_is)
    (case k7 => k_is)
    (case a8 => k_is)
    (case l8 => k_is)
    (case c8 => k_is)
    (case k8 => k_is)
    (case a9 => k_is)
    (case l9 => k_is)
    (case c9 => k_is)
    (case k9 => k_is)
    (case a10 => k_is)
    (case l10 => k_is)
    (case c10 => k_is)
    (case k10 => k_is)
    (case a11 => k_is)
    (case l11 => k_is)
    (case c11 => k_is)
    (case k11 => k_is)
    (case a12 => k_is)
    (case l12 => k_is)
    (case c12 => k_is)
    (case k12 => k_is)
    (case aCT => k_is)
    (case sT => k_is)
    (case rT => k_is)
    (case vT => k_is)
    (case vO => k_is)
    (case aC0 => k_is)
    (case kCC0 => k_is)
    (case hgC0 => k_is)
    (case hkC0 => k_is)
    (case hsC0 => k_is)
    (case hdC0 => k_is)
    (case haC0 => k_is)
    (case hmC0 => k_is)
    (case eiC0 => kernel_rfl)
    (case eoC0 => kernel_rfl)
    (case saC0 => k_is)
    (case nfC0 => k_is)
    (case tfC0 => k_is)
    (case iC0 => k_is)
    (case tC0 => k_is)
    (case lC0 => k_is)
    (case cC0 => k_is)
    (case kC0 => k_is)
    (case aC1 => k_is)
    (case kCC1 => k_is)
    (case hgC1 => k_is)
    (case hkC1 => k_is)
    (case hsC1 => k_is)
    (case hdC1 => k_is)
    (case haC1 => k_is)
    (case hmC1 => k_is)
    (case eiC1 => kernel_rfl)
    (case eoC1 => kernel_rfl)
    (case saC1 => k_is)
    (case nfC1 => k_is)
    (case tfC1 => k_is)
    (case iC1 => k_is)
    (case tC1 => k_is)
    (case lC1 => k_is)
    (case cC1 => k_is)
    (case kC1 => k_is)
    (case aC2 => k_is)
    (case kCC2 => k_is)
    (case hgC2 => k_is)
    (case hkC2 => k_is)
    (case hsC2 => k_is)
    (case hdC2 => k_is)
    (case haC2 => k_is)
    (case hmC2 => k_is)
    (case eiC2 => kernel_rfl)
    (case eoC2 => kernel_rfl)
    (case saC2 => k_is)
    (case nfC2 => k_is)
    (case tfC2 => k_is)
    (case iC2 => k_is)
    (case tC2 => k_is)
    (case lC2 => k_is)
    (case cC2 => k_is)
    (case kC2 => k_is)
    (case aC3 => k_is)
    (case kCC3 => k_is)
    (case hgC3 => k_is)
    (case hkC3 => k_is)
    (case hsC3 => k_is)
    (case hdC3 => k_is)
    (case haC3 => k_is)
    (case hmC3 => k_is)
    (case eiC3 => kernel_rfl)
    (case eoC3 => kernel_rfl)
    (case saC3 => k_is)
    (case nfC3 => k_is)
    (case tfC3 => k_is)
    (case iC3 => k_is)
    (case tC3 => k_is)
    (case lC3 => k_is)
    (case cC3 => k_is)
    (case kC3 => k_is)
    (case aC4 => k_is)
    (case kCC4 => k_is)
    (case hgC4 => k_is)
    (case hkC4 => k_is)
    (case hsC4 => k_is)
    (case hdC4 => k_is)
    (case haC4 => k_is)
    (case hmC4 => k_is)
    (case eiC4 => kernel_rfl)
    (case eoC4 => kernel_rfl)
    (case saC4 => k_is)
    (case nfC4 => k_is)
    (case tfC4 => k_is)
    (case iC4 => k_is)
    (case tC4 => k_is)
    (case lC4 => k_is)
    (case cC4 => k_is)
    (case kC4 => k_is)
    (case aC5 => k_is)
    (case kCC5 => k_is)
    (case hgC5 => k_is)
    (case hkC5 => k_is)
    (case hsC5 => k_is)
    (case hdC5 => k_is)
    (case haC5 => k_is)
    (case hmC5 => k_is)
    (case exC5 => kernel_rfl)
    (case aC6 => k_is)
    (case kCC6 => k_is)
    (case hgC6 => k_is)
    (case hkC6 => k_is)
    (case hsC6 => k_is)
    (case hdC6 => k_is)
    (case haC6 => k_is)
    (case hmC6 => k_is)
    (case eiC6 => kernel_rfl)
    (case eoC6 => kernel_rfl)
    (case saC6 => k_is)
    (case nfC6 => k_is)
    (case tfC6 => k_is)
    (case iC6 => k_is)
    (case tC6 => k_is)
    (case lC6 => k_is)
    (case cC6 => k_is)
    (case kC6 => k_is)
    (case aC7 => k_is)
    (case kCC7 => k_is)
    (case hgC7 => k_is)
    (case hkC7 => k_is)
    (case hsC7 => k_is)
    (case hdC7 => k_is)
    (case haC7 => k_is)
    (case hmC7 => k_is)
    (case eiC7 => kernel_rfl)
    (case eoC7 => kernel_rfl)
    (case saC7 => k_is)
    (case nfC7 => k_is)
    (case tfC7 => k_is)
    (case iC7 => k_is)
    (case tC7 => k_is)
    (case lC7 => k_is)
    (case cC7 => k_is)
    (case kC7 => k_is)
    (case aC8 => k_is)
    (case kCC8 => k_is)
    (case hgC8 => k_is)
    (case hkC8 => k_is)
    (case hsC8 => k_is)
    (case hdC8 => k_is)
    (case haC8 => k_is)
    (case hmC8 => k_is)
    (case eiC8 => kernel_rfl)
    (case eoC8 => kernel_rfl)
    (case saC8 => k_is)
    (case nfC8 => k_is)
    (case tfC8 => k_is)
    (case iC8 => k_is)
    (case tC8 => k_is)
    (case lC8 => k_is)
    (case cC8 => k_is)
    (case kC8 => k_is)
    (case aC9 => k_is)
    (case kCC9 => k_is)
    (case hgC9 => k_is)
    (case hkC9 => k_is)
    (case hsC9 => k_is)
    (case hdC9 => k_is)
    (case haC9 => k_is)
    (case hmC9 => k_is)
    (case eiC9 => kernel_rfl)
    (case eoC9 => kernel_rfl)
    (case saC9 => k_is)
    (case nfC9 => k_is)
    (case tfC9 => k_is)
    (case iC9 => k_is)
    (case tC9 => k_is)
    (case lC9 => k_is)
    (case cC9 => k_is)
    (case kC9 => k_is)
    (case aC10 => k_is)
    (case kCC10 => k_is)
    (case hgC10 => k_is)
    (case hkC10 => k_is)
    (case hsC10 => k_is)
    (case hdC10 => k_is)
    (case haC10 => k_is)
    (case hmC10 => k_is)
    (case exC10 => kernel_rfl)
    (case aC11 => k_is)
    (case kCC11 => k_is)
    (case hgC11 => k_is)
    (case hkC11 => k_is)
    (case hsC11 => k_is)
    (case hdC11 => k_is)
    (case haC11 => k_is)
    (case hmC11 => k_is)
    (case eiC11 => kernel_rfl)
    (case eoC11 => kernel_rfl)
    (case saC11 => k_is)
    (case nfC11 => k_is)
    (case tfC11 => k_is)
    (case iC11 => k_is)
    (case tC11 => k_is)
    (case lC11 => k_is)
    (case cC11 => k_is)
    (case kC11 => k_is)
    (case hn => k_is)
    (case ht => k_is)
    (case T1 => kernel_rfl)
    (case T2 => kernel_rfl)
    (case T3 => kernel_rfl)
    (case aO => k_is)
    (case pg => k_is)
    (case hdO => k_is)
    (case po => k_is)
    (case saO => k_is)
    (case n1 => k_is)
    (case n2 => k_is)
    (case n3 => k_is)
    (case haO => k_is)
    (case hmO => k_is)
    (case mkO => k_is)
    (case kO => k_is)
    (case iO => k_is)
    (case jO => k_is)
    (case qO => k_is)
    (case rO => k_is)
    (case neO => k_is)
    (case s_object => k_is)
    (case s_list => k_is)
    (case s_tuple => k_is)
    (case s_dict => k_is)
    (case s_NoneType => k_is)
    (case s_int => k_is)
    (case s_str => k_is)
    (case lOI => k_is)
    (case cOI => k_is)
    (case kOI => k_is)
    (case lOE => k_is)
    (case cOE => k_is)
    (case kOE => k_is)
    (case T4 => kernel_rfl)
    (case T5 => k_is)
    (case T6 => kernel_rfl)
    (case aM => k_is)
    (case n_int => k_is)
    (case n_bool => k_is)
    (case n_len => k_is)
    (case n_range => k_is)
    (case n_enumerate => k_is)
    (case n_isinstance => k_is)
    (case n_list => k_is)
    (case n_tuple => k_is)
    (case n_repr => k_is)
    (case n_ValueError => k_is)
    (case n_OverflowError => k_is)
