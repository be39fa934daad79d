import PyProof.Rows.All
import Wide.All
import OpenK.AllK
import Wide.FinOn
import PyProof.EqAt
import PyProof.EqKinds
import PyProof.TupleCall
import HandS.Base
import HandS.Call
import HandS.List
import HandS.Comp
import HandS.Ends
import HandS.Words
import HandS.Dict
import HandS.Iter
import HandS.Walk
import HandS.Gcd
import HandS.EndBits
import HandS.Zip
import HandS.Wide
import PyProof.ReprRoads
import PyProof.ReprLen
import KE.GoesMore
import HandS.IsInst
import PySem.Challenge.RW_onesolid_k03_rows_and_planes
set_option Elab.async false
set_option linter.all false
set_option maxRecDepth 100000
set_option maxHeartbeats 4000000
/-! Own words over the hand layer: what a piece of program text comes to, said of data. -/
namespace Zj
open PySem PySem.Spec PyProof.Rows L2

section
variable {X : Cx} {e : Expr} {es : List Expr} {st : Stmt} {sts : List Stmt} {σ : L2.St} {H : Hp}
/-- the weakest thing that must hold ahead -/
def JE (X : Cx) (e : Expr) : TE := fun σ H Q => ∀ pins s, Inv X pins σ H s → wpAny (model X.prog X.w) X.A (eval e X.env) (EP X pins σ Q) X.xe s
def JT (X : Cx) (e : Expr) : TT := fun σ H Q => ∀ pins s, Inv X pins σ H s → wpAny (model X.prog X.w) X.A (isTrue e X.env (eval e X.env)) (TP X pins σ Q) X.xe s
def JA (X : Cx) (es : List Expr) : TA := fun σ H Q => ∀ pos pins s, Inv X pins σ H s → wpAny (model X.prog X.w) X.A (spliced (backTo pos (starEach es X.env))) (AP X pins σ Q) X.xe s
def JS (X : Cx) (st : Stmt) : TS := fun D σ H => ∀ pins s, Inv X pins σ H s → wpAny (model X.prog X.w) X.A (exec st X.env) (SP X pins D) X.xe s
def JSs (X : Cx) (sts : List Stmt) : TS := fun D σ H => ∀ pins s, Inv X pins σ H s → wpAny (model X.prog X.w) X.A (execs sts X.env) (SP X pins D) X.xe s
theorem je : PE X e (JE X e) := ⟨fun pins s _ _ _ I h => h pins s I⟩
theorem jt : PT X e (JT X e) := ⟨fun pins s _ _ _ I h => h pins s I⟩
theorem ja : PA X es (JA X es) := ⟨fun pos pins s _ _ _ I h => h pos pins s I⟩
theorem js : PS X st (JS X st) := ⟨fun pins s _ _ _ I h => h pins s I⟩
theorem jss : PSs X sts (JSs X sts) := ⟨fun pins s _ _ _ I h => h pins s I⟩
theorem toE {t : TE} {Q : VK} (h : PE X e t) (q : t σ H Q) : JE X e σ H Q := fun pins s I => h.run pins s σ H Q I q
theorem toT {t : TT} {Q : Bool → Hp → Prop} (h : PT X e t) (q : t σ H Q) : JT X e σ H Q := fun pins s I => h.run pins s σ H Q I q
theorem toA {t : TA} {Q : List V → Hp → Prop} (h : PA X es t) (q : t σ H Q) : JA X es σ H Q := fun pos pins s I => h.run pos pins s σ H Q I q
theorem toS {t : TS} {D : Ends} (h : PS X st t) (q : t D σ H) : JS X st D σ H := fun pins s I => h.run pins s σ H D I q
theorem toSs {t : TS} {D : Ends} (h : PSs X sts t) (q : t D σ H) : JSs X sts D σ H := fun pins s I => h.run pins s σ H D I q
end

/-! ### data in the heap -/
section
variable {K : PySem.W.Frag} {H H' : Hp}
mutual
theorem dp_map (f : ∀ b xs, SqL K H b xs → SqL K H' b xs) (g : ∀ b xs, SqT K H b xs → SqT K H' b xs) : ∀ (d : PyData) (v : V), Dp K H v d → Dp K H' v d
  | .none, _, h => by cases h; exact .non
  | .bool b, _, h => by cases h; exact .bl b
  | .int i, _, h => by cases h; exact .int i
  | .str x, _, h => by cases h; exact .str x
  | .list ds, _, h => by
    cases h with
    | lst h1 h2 => exact .lst (f _ _ h1) (dp_mapAll f g ds _ h2)
  | .tuple ds, _, h => by
    cases h with
    | tup h1 h2 => exact .tup (g _ _ h1) (dp_mapAll f g ds _ h2)
  | .dict _, _, h => by cases h
theorem dp_mapAll (f : ∀ b xs, SqL K H b xs → SqL K H' b xs) (g : ∀ b xs, SqT K H b xs → SqT K H' b xs) : ∀ (ds : List PyData) (vs : List V), DpAll K H vs ds → DpAll K H' vs ds
  | [], _, h => by cases h; exact .nil
  | d :: ds, _, h => by
    cases h with
    | cons h1 h2 => exact .cons (dp_map f g d _ h1) (dp_mapAll f g ds _ h2)
end
theorem same_l (s : Same H H') (b : Addr) (xs : List V) (h : SqL K H b xs) : SqL K H' b xs := s.seq h
theorem same_t (s : Same H H') (b : Addr) (xs : List V) (h : SqT K H b xs) : SqT K H' b xs := by
  rcases h with (h | ⟨o, h⟩) | h
  · exact .inl (.inl (s _ _ h))
  · exact .inl (.inr ⟨o, s _ _ h⟩)
  · exact .inr h
theorem dp_same {v : V} {d : PyData} (s : Same H H') (h : Dp K H v d) : Dp K H' v d := dp_map (same_l s) (same_t s) d v h
theorem dps_same {vs : List V} {ds : List PyData} (s : Same H H') (h : DpAll K H vs ds) : DpAll K H' vs ds := dp_mapAll (same_l s) (same_t s) ds vs h
/-- all but the dict at a stays -/
def Kp (a : Addr) (H H' : Hp) : Prop := (∀ b o, b ≠ a → H b = some o → H' b = some o) ∧ ((∃ kvs, H a = some (.dK kvs)) → ∃ kvs, H' a = some (.dK kvs))
theorem Kp.of {a : Addr} (s : Same H H') : Kp a H H' := ⟨fun b o _ h => s b o h, fun ⟨kvs, h⟩ => ⟨kvs, s _ _ h⟩⟩
theorem Kp.refl {a : Addr} : Kp a H H := .of (Same.refl H)
theorem Kp.trans {a : Addr} {H1 : Hp} (x : Kp a H H1) (y : Kp a H1 H') : Kp a H H' := ⟨fun b o n h => y.1 b o n (x.1 b o n h), fun h => y.2 (x.2 h)⟩
theorem kp_l {a : Addr} (s : Kp a H H') (ha : ∃ kvs, H a = some (.dK kvs)) (b : Addr) (xs : List V) (h : SqL K H b xs) : SqL K H' b xs := by
  obtain ⟨kvs, ha⟩ := ha
  rcases h with (h | ⟨o, h⟩) | h
  · exact .inl (.inl (s.1 _ _ (ne_of h ha (by intro z; cases z)) h))
  · exact .inl (.inr ⟨o, s.1 _ _ (ne_of h ha (by intro z; cases z)) h⟩)
  · exact .inr h
theorem kp_t {a : Addr} (s : Kp a H H') (ha : ∃ kvs, H a = some (.dK kvs)) (b : Addr) (xs : List V) (h : SqT K H b xs) : SqT K H' b xs := by
  obtain ⟨kvs, ha⟩ := ha
  rcases h with (h | ⟨o, h⟩) | h
  · exact .inl (.inl (s.1 _ _ (ne_of h ha (by intro z; cases z)) h))
  · exact .inl (.inr ⟨o, s.1 _ _ (ne_of h ha (by intro z; cases z)) h⟩)
  · exact .inr h
theorem dp_kp {a : Addr} {v : V} {d : PyData} (s : Kp a H H') (ha : ∃ kvs, H a = some (.dK kvs)) (h : Dp K H v d) : Dp K H' v d := dp_map (kp_l s ha) (kp_t s ha) d v h
theorem dps_kp {a : Addr} {vs : List V} {ds : List PyData} (s : Kp a H H') (ha : ∃ kvs, H a = some (.dK kvs)) (h : DpAll K H vs ds) : DpAll K H' vs ds := dp_mapAll (kp_l s ha) (kp_t s ha) ds vs h

theorem dp_int {v : V} {i : Int} (h : Dp K H v (.int i)) : v = .int i := by cases h; rfl
theorem dp_str {v : V} {x : Str} (h : Dp K H v (.str x)) : v = .str x := by cases h; rfl
theorem dp_bool {v : V} {b : Bool} (h : Dp K H v (.bool b)) : v = .bl b := by cases h; rfl
theorem dp_non {v : V} (h : Dp K H v .none) : v = .non := by cases h; rfl
theorem dp_tup {v : V} {ds : List PyData} (h : Dp K H v (.tuple ds)) : ∃ p xs, v = .ref p ∧ SqT K H p xs ∧ DpAll K H xs ds := by
  cases h with
  | tup h1 h2 => exact ⟨_, _, rfl, h1, h2⟩
theorem dp_lst {v : V} {ds : List PyData} (h : Dp K H v (.list ds)) : ∃ p xs, v = .ref p ∧ SqL K H p xs ∧ DpAll K H xs ds := by
  cases h with
  | lst h1 h2 => exact ⟨_, _, rfl, h1, h2⟩
theorem dps_len {vs : List V} {ds : List PyData} (h : DpAll K H vs ds) : vs.length = ds.length := by
  induction ds generalizing vs with
  | nil => cases h; rfl
  | cons d ds ih =>
    cases h with
    | cons h1 h2 => rw [List.length_cons, List.length_cons, ih h2]
theorem dps_get : ∀ {ds : List PyData} {vs : List V} {i : Nat} {d : PyData}, DpAll K H vs ds → ds[i]? = some d → ∃ v, vs[i]? = some v ∧ Dp K H v d
  | [], _, _, _, _, e => by simp at e
  | d :: ds, _, 0, d', h, e => by
    cases h with
    | cons h1 h2 =>
      have e' : d = d' := by simpa using e
      subst e'
      exact ⟨_, rfl, h1⟩
  | d :: ds, _, i + 1, _, h, e => by
    cases h with
    | cons h1 h2 =>
      obtain ⟨v, a, b⟩ := dps_get (i := i) h2 (by simpa using e)
      exact ⟨v, by simpa using a, b⟩
theorem dps_append {vs us : List V} {ds es : List PyData} (h : DpAll K H vs ds) (h' : DpAll K H us es) : DpAll K H (vs ++ us) (ds ++ es) := by
  induction ds generalizing vs with
  | nil => cases h; exact h'
  | cons d ds ih =>
    cases h with
    | cons h1 h2 => exact .cons h1 (ih h2)
theorem dps_snoc {vs : List V} {v : V} {ds : List PyData} {d : PyData} (h : DpAll K H vs ds) (h' : Dp K H v d) : DpAll K H (vs ++ [v]) (ds ++ [d]) := dps_append h (.cons h' .nil)
theorem dps_drop {vs : List V} {ds : List PyData} (n : Nat) (h : DpAll K H vs ds) : DpAll K H (vs.drop n) (ds.drop n) := by
  induction n generalizing vs ds with
  | zero => exact h
  | succ n ih =>
    cases ds with
    | nil => cases h; exact .nil
    | cons d ds =>
      cases h with
      | cons h1 h2 => exact ih h2
theorem dps_take {vs : List V} {ds : List PyData} (n : Nat) (h : DpAll K H vs ds) : DpAll K H (vs.take n) (ds.take n) := by
  induction n generalizing vs ds with
  | zero => exact .nil
  | succ n ih =>
    cases ds with
    | nil => cases h; exact .nil
    | cons d ds =>
      cases h with
      | cons h1 h2 => exact .cons h1 (ih h2)
theorem dps_ints (ns : List Int) : DpAll K H (ns.map V.int) (ns.map PyData.int) := by
  induction ns with
  | nil => exact .nil
  | cons n ns ih => exact .cons (.int n) ih
theorem vs_ints {vs : List V} {ns : List Int} (h : DpAll K H vs (ns.map PyData.int)) : vs = ns.map V.int := by
  induction ns generalizing vs with
  | nil => cases h; rfl
  | cons n ns ih =>
    cases h with
    | cons h1 h2 => rw [dp_int h1, ih h2] <;> rfl
theorem vs_bools {vs : List V} {ns : List Bool} (h : DpAll K H vs (ns.map PyData.bool)) : vs = ns.map V.bl := by
  induction ns generalizing vs with
  | nil => cases h; rfl
  | cons n ns ih =>
    cases h with
    | cons h1 h2 => rw [dp_bool h1, ih h2] <;> rfl
theorem dp_newT {p : Addr} {xs : List V} {ds : List PyData} (hp : H p = none) (h : DpAll K H xs ds) : Dp K (upd H p (.tup xs)) (.ref p) (.tuple ds) :=
  .tup (.of upd_same) (dps_same (fun b o e => by rw [upd_ne (ne_of_none e hp)]; exact e) h)
theorem dp_newL {p : Addr} {xs : List V} {ds : List PyData} (hp : H p = none) (h : DpAll K H xs ds) : Dp K (upd H p (.lst xs)) (.ref p) (.list ds) :=
  .lst (.of upd_same) (dps_same (fun b o e => by rw [upd_ne (ne_of_none e hp)]; exact e) h)
theorem same_new {p : Addr} {o : HO} (hp : H p = none) : Same H (upd H p o) := fun b u e => by rw [upd_ne (ne_of_none e hp)]; exact e
end

/-! ### a part of the heap left out of sight (a list that a comprehension is filling) -/
open Classical in
noncomputable def off (T : Addr → Prop) (H : Hp) : Hp := fun b => if T b then none else H b
def Din (T : Addr → Prop) (H : Hp) : Prop := ∀ b, T b → H b ≠ none
section
variable {K : PySem.W.Frag} {H H' : Hp} {T : Addr → Prop}
theorem off_yes {b : Addr} (h : T b) : off T H b = none := by unfold off; rw [if_pos h]
theorem off_no {b : Addr} (h : ¬ T b) : off T H b = H b := by unfold off; rw [if_neg h]
theorem off_some {b : Addr} {o : HO} (h : off T H b = some o) : H b = some o ∧ ¬ T b := by
  by_cases hb : T b
  · rw [off_yes hb] at h
    cases h
  · rw [off_no hb] at h
    exact ⟨h, hb⟩
theorem off_same (s : Same H H') : Same (off T H) (off T H') := fun b o h => by
  obtain ⟨h1, h2⟩ := off_some h
  rw [off_no h2]
  exact s b o h1
theorem off_in : Same (off T H) H := fun b o h => (off_some h).1
theorem Din.same (d : Din T H) (s : Same H H') : Din T H' := fun b hb z => by
  cases q : H b with
  | none => exact d b hb q
  | some o =>
    rw [s b o q] at z
    cases z
theorem off_free {p : Addr} (h : H p = none) : off T H p = none := by
  by_cases hp : T p
  · exact off_yes hp
  · rw [off_no hp]
    exact h
theorem off_new {p : Addr} {o : HO} (d : Din T H) (h : H p = none) : off T (upd H p o) = upd (off T H) p o := by
  funext b
  by_cases hb : b = p
  · subst hb
    rw [upd_same, off_no (fun z => d b z h), upd_same]
  · rw [upd_ne hb]
    by_cases ht : T b
    · rw [off_yes ht, off_yes ht]
    · rw [off_no ht, off_no ht, upd_ne hb]
theorem dp_off {v : V} {d : PyData} (h : Dp K (off T H) v d) : Dp K H v d := dp_same off_in h
theorem dps_off {vs : List V} {ds : List PyData} (h : DpAll K (off T H) vs ds) : DpAll K H vs ds := dps_same off_in h
theorem dpo {v : V} {d : PyData} (s : Same H H') (h : Dp K (off T H) v d) : Dp K (off T H') v d := dp_same (off_same s) h
theorem dpso {vs : List V} {ds : List PyData} (s : Same H H') (h : DpAll K (off T H) vs ds) : DpAll K (off T H') vs ds := dps_same (off_same s) h
theorem dpo_newT {p : Addr} {xs : List V} {ds : List PyData} (t : Din T H) (hp : H p = none) (h : DpAll K (off T H) xs ds) : Dp K (off T (upd H p (.tup xs))) (.ref p) (.tuple ds) := by
  rw [off_new t hp]
  exact dp_newT (off_free hp) h
theorem dpo_newL {p : Addr} {xs : List V} {ds : List PyData} (t : Din T H) (hp : H p = none) (h : DpAll K (off T H) xs ds) : Dp K (off T (upd H p (.lst xs))) (.ref p) (.list ds) := by
  rw [off_new t hp]
  exact dp_newL (off_free hp) h
theorem dpo_tup {v : V} {ds : List PyData} (h : Dp K (off T H) v (.tuple ds)) : ∃ p xs, v = .ref p ∧ SqT K H p xs ∧ DpAll K (off T H) xs ds := by
  obtain ⟨p, xs, e, h1, h2⟩ := dp_tup h
  exact ⟨p, xs, e, same_t off_in _ _ h1, h2⟩
theorem dpo_lst {v : V} {ds : List PyData} (h : Dp K (off T H) v (.list ds)) : ∃ p xs, v = .ref p ∧ SqL K H p xs ∧ DpAll K (off T H) xs ds := by
  obtain ⟨p, xs, e, h1, h2⟩ := dp_lst h
  exact ⟨p, xs, e, same_l off_in _ _ h1, h2⟩
theorem off_nothing : off (fun _ => False) H = H := by
  funext b
  exact off_no (fun z => z)
theorem Din.nothing : Din (fun _ => False) H := fun _ z => z.elim
theorem Din.new {p : Addr} {o : HO} (d : Din T H) (h : H p = none) : Din (fun b => T b ∨ b = p) (upd H p o) := fun b hb => by
  rcases hb with hb | hb
  · rw [upd_ne (fun z => d b hb (by rw [z]; exact h))]
    exact d b hb
  · rw [hb, upd_same]
    simp
theorem off_more {p : Addr} {o : HO} (h : H p = none) : off (fun b => T b ∨ b = p) (upd H p o) = off T H := by
  funext b
  by_cases hb : b = p
  · subst hb
    rw [off_yes (.inr rfl), off_free h]
  · by_cases ht : T b
    · rw [off_yes (.inl ht), off_yes ht]
    · rw [off_no (fun z => z.elim ht hb), off_no ht, upd_ne hb]
theorem off_put {p : Addr} {o : HO} (h : T p) : off T (upd H p o) = off T H := by
  funext b
  by_cases ht : T b
  · rw [off_yes ht, off_yes ht]
  · rw [off_no ht, off_no ht, upd_ne (fun z => ht (by rw [z]; exact h))]
theorem off_less {p : Addr} : Same (off (fun b => T b ∨ b = p) H) (off T H) := fun b o h => by
  obtain ⟨h1, h2⟩ := off_some h
  rw [off_no (fun z => h2 (.inl z))]
  exact h1
end

/-! ### slots that hold data, or the law's state -/
inductive DV where
  | dat (d : PyData)
  | hnd
abbrev Rho := List (Option DV)
def RelD (K : PySem.W.Frag) (a : Addr) (H : Hp) (v : V) : DV → Prop
  | .dat d => Dp K H v d
  | .hnd => v = .ref a
structure SD (K : PySem.W.Frag) (a : Addr) (T : Addr → Prop) (H : Hp) (σ : L2.St) (ρ : Rho) : Prop where
  len : σ.length = ρ.length
  dm : Din T H
  sl : ∀ (i : Nat) (x : DV), ρ[i]? = some (some x) → ∃ v, σ[i]? = some (some v) ∧ RelD K a (off T H) v x
section
variable {K : PySem.W.Frag} {a : Addr} {T : Addr → Prop} {H H' : Hp} {σ : L2.St} {ρ : Rho}
theorem SD.same (h : SD K a T H σ ρ) (s : Same H H') : SD K a T H' σ ρ := ⟨h.len, h.dm.same s, fun i x e => by
  obtain ⟨v, h1, h2⟩ := h.sl i x e
  refine ⟨v, h1, ?_⟩
  cases x with
  | dat d => exact dpo s h2
  | hnd => exact h2⟩
theorem SD.kp (h : SD K a (fun _ => False) H σ ρ) (s : Kp a H H') (ha : ∃ kvs, H a = some (.dK kvs)) : SD K a (fun _ => False) H' σ ρ := ⟨h.len, .nothing, fun i x e => by
  obtain ⟨v, h1, h2⟩ := h.sl i x e
  refine ⟨v, h1, ?_⟩
  rw [off_nothing] at h2 ⊢
  cases x with
  | dat d => exact dp_kp s ha h2
  | hnd => exact h2⟩
theorem SD.put {i : Nat} {v : V} {x : DV} (h : SD K a T H σ ρ) (hx : RelD K a (off T H) v x) : SD K a T H (σ.set i (some v)) (ρ.set i (some x)) := by
  refine ⟨by rw [List.length_set, List.length_set, h.len], h.dm, fun j y e => ?_⟩
  by_cases hj : i = j
  · subst hj
    by_cases hi : i < ρ.length
    · rw [List.getElem?_set_self hi] at e
      cases e
      exact ⟨v, by rw [List.getElem?_set_self (by rw [h.len]; exact hi)], hx⟩
    · rw [List.getElem?_eq_none (by simpa using hi)] at e
      cases e
  · rw [List.getElem?_set_ne hj] at e ⊢
    exact h.sl j y e
theorem SD.clear {i : Nat} (h : SD K a T H σ ρ) : SD K a T H (σ.set i none) (ρ.set i none) := by
  refine ⟨by rw [List.length_set, List.length_set, h.len], h.dm, fun j y e => ?_⟩
  by_cases hj : i = j
  · subst hj
    by_cases hi : i < ρ.length
    · rw [List.getElem?_set_self hi] at e
      cases e
    · rw [List.getElem?_eq_none (by simpa using hi)] at e
      cases e
  · rw [List.getElem?_set_ne hj] at e ⊢
    exact h.sl j y e
def wipeR (ρ : Rho) : List Nat → Rho
  | [] => ρ
  | v :: vs => (wipeR ρ vs).set v none
theorem SD.wipe (h : SD K a T H σ ρ) : ∀ vs : List Nat, SD K a T H (L2.wipe σ vs) (wipeR ρ vs)
  | [] => h
  | v :: vs => (SD.wipe h vs).clear
/-- one more thing out of sight -/
theorem SD.more {p : Addr} {o : HO} (h : SD K a T H σ ρ) (hp : H p = none) : SD K a (fun b => T b ∨ b = p) (upd H p o) σ ρ :=
  ⟨h.len, h.dm.new hp, fun i x e => by
    rw [off_more hp]
    exact h.sl i x e⟩
def dats (ds : List PyData) : Rho := ds.map fun d => some (.dat d)
theorem SD.start {N : List Str} {vs : List V} {ds : List PyData} (t : Din T H) (h : DpAll K (off T H) vs ds) : SD K a T H (start N vs) (dats ds ++ List.replicate (N.length - ds.length) none) := by
  have hl := dps_len h
  unfold L2.start dats
  refine ⟨by simp [hl], t, fun i x e => ?_⟩
  by_cases hi : i < ds.length
  · rw [List.getElem?_append_left (by simpa using hi)] at e
    rw [List.getElem?_map] at e
    obtain ⟨d, h1⟩ : ∃ d, ds[i]? = some d := ⟨ds[i], by simp [hi]⟩
    rw [h1] at e
    cases e
    obtain ⟨v, h3, h4⟩ := dps_get h h1
    exact ⟨v, by rw [List.getElem?_append_left (by simpa [hl] using hi), List.getElem?_map, h3]; rfl, h4⟩
  · rw [List.getElem?_append_right (by simpa using hi)] at e
    rw [List.getElem?_replicate] at e
    split at e <;> cases e
end
end Zj
/-! What an expression, a test, an argument list, a block comes to, said of data. -/
namespace Zj
open PySem PySem.Spec PyProof.Rows L2
section
variable {X : Cx} {a : Addr} {ρ : Rho}
def EvE (X : Cx) (a : Addr) (e : Expr) (ρ : Rho) (d : PyData) : Prop := ∀ T σ H, SD X.K a T H σ ρ → ∀ Q : VK, (∀ v H2, Same H H2 → Dp X.K (off T H2) v d → Q v H2) → JE X e σ H Q
def EvT (X : Cx) (a : Addr) (e : Expr) (ρ : Rho) (b : Bool) : Prop := ∀ T σ H, SD X.K a T H σ ρ → ∀ Q : Bool → Hp → Prop, (∀ H2, Same H H2 → Q b H2) → JT X e σ H Q
def EvA (X : Cx) (a : Addr) (es : List Expr) (ρ : Rho) (ds : List PyData) : Prop := ∀ T σ H, SD X.K a T H σ ρ → ∀ Q : List V → Hp → Prop, (∀ vs H2, Same H H2 → DpAll X.K (off T H2) vs ds → Q vs H2) → JA X es σ H Q
def EvO (X : Cx) (a : Addr) (e : Option Expr) (ρ : Rho) (o : Option Int) : Prop := ∃ t, PO X e t ∧ ∀ T σ H, SD X.K a T H σ ρ → ∀ Q : Option Int → Hp → Prop, (∀ H2, Same H H2 → Q o H2) → t σ H Q

theorem e_var {x : Str} {pos : Pos} {i : Nat} {d : PyData} (h : ρ[i]? = some (some (.dat d))) (hN : X.N[i]? = some x := by rfl)
    (hv : Vis X.env.scope x := by first | exact Or.inl rfl | exact Or.inr (Or.inl rfl) | exact Or.inr (Or.inr rfl)) (hd : (x == ("__debug__" : Str)) = false := by decide) (hcd : (x == ("__classdict__" : Str)) = false := by decide) :
    EvE X a (.Name x pos) ρ d := fun T σ H S Q q => by
  obtain ⟨v, h1, h2⟩ := S.sl i _ h
  exact toE (pe_var hN hv hd hcd) ⟨v, h1, q v H (Same.refl H) h2⟩
theorem e_int {i : Int} {j : Nat} {pos : Pos} : EvE X a (.Constant (.int i) j pos) ρ (.int i) := fun T σ H S Q q => toE pe_int (q _ H (Same.refl H) (.int i))
theorem e_bl {i : Bool} {j : Nat} {pos : Pos} : EvE X a (.Constant (.bool i) j pos) ρ (.bool i) := fun T σ H S Q q => toE pe_bl (q _ H (Same.refl H) (.bl i))
theorem e_str {i : Str} {j : Nat} {pos : Pos} : EvE X a (.Constant (.str i) j pos) ρ (.str i) := fun T σ H S Q q => toE pe_str (q _ H (Same.refl H) (.str i))
theorem e_non {j : Nat} {pos : Pos} : EvE X a (.Constant .none j pos) ρ .none := fun T σ H S Q q => toE pe_non (q _ H (Same.refl H) .non)

variable {l r e c : Expr} {es : List Expr} {pos : Pos} {d d1 d2 : PyData} {i j : Int}
/-- what an operator does with data -/
def OpD (X : Cx) (f : Value → Value → Sem Value) (d1 d2 d : PyData) : Prop := ∃ r : R2, OpR X f r ∧ ∀ T v1 v2 H, Din T H → Dp X.K (off T H) v1 d1 → Dp X.K (off T H) v2 d2 → ∀ Q : VK, (∀ v H2, Same H H2 → Dp X.K (off T H2) v d → Q v H2) → r v1 v2 H Q
theorem e_bin {op : Operator} (ho : OpD X (binaryOp op) d1 d2 d) (h1 : EvE X a l ρ d1) (h2 : EvE X a r ρ d2) : EvE X a (.BinOp l op r pos) ρ d := fun T σ H S Q q => by
  obtain ⟨rr, hr, hq⟩ := ho
  exact toE (pe_op hr je je) (h1 T σ H S _ fun v1 H1 s1 p1 => h2 T σ H1 (S.same s1) _ fun v2 H2 s2 p2 => hq T v1 v2 H2 (S.same (s1.trans s2)).dm (dpo s2 p1) p2 Q fun v H3 s3 p3 => q v H3 ((s1.trans s2).trans s3) p3)
theorem e_cmp {op : CmpOp} (ho : OpD X (compareOp op) d1 d2 d) (h1 : EvE X a l ρ d1) (h2 : EvE X a r ρ d2) (hm : behindInMarks op r = false) : EvE X a (.Compare l [op] [r] pos) ρ d := fun T σ H S Q q => by
  obtain ⟨rr, hr, hq⟩ := ho
  exact toE (pe_cmpR hr je je hm) (h1 T σ H S _ fun v1 H1 s1 p1 => h2 T σ H1 (S.same s1) _ fun v2 H2 s2 p2 => hq T v1 v2 H2 (S.same (s1.trans s2)).dm (dpo s2 p1) p2 Q fun v H3 s3 p3 => q v H3 ((s1.trans s2).trans s3) p3)
theorem t_cmp {op : CmpOp} {b : Bool} (ho : OpD X (compareOp op) d1 d2 (.bool b)) (h1 : EvE X a l ρ d1) (h2 : EvE X a r ρ d2) (hm : behindInMarks op r = false) : EvT X a (.Compare l [op] [r] pos) ρ b := fun T σ H S Q q => by
  obtain ⟨rr, hr, hq⟩ := ho
  exact toT (pt_cmpR hr je je hm) (h1 T σ H S _ fun v1 H1 s1 p1 => h2 T σ H1 (S.same s1) _ fun v2 H2 s2 p2 => hq T v1 v2 H2 (S.same (s1.trans s2)).dm (dpo s2 p1) p2 _ fun v H3 s3 p3 => ⟨b, dp_bool p3, q H3 ((s1.trans s2).trans s3)⟩)

theorem od_I {f : Value → Value → Sem Value} {g : Int → Int → V} {C : Int → Int → Prop} (ho : OpR X f (rI C g)) (hc : C i j) (hd : ∀ H, Dp X.K H (g i j) d) : OpD X f (.int i) (.int j) d :=
  ⟨_, ho, fun T v1 v2 H dm p1 p2 Q q => ⟨i, j, dp_int p1, dp_int p2, hc, q _ H (Same.refl H) (hd _)⟩⟩
theorem od_I0 {f : Value → Value → Sem Value} {g : Int → Int → V} (ho : OpR X f (rI0 g)) (hd : ∀ H, Dp X.K H (g i j) d) : OpD X f (.int i) (.int j) d :=
  ⟨_, ho, fun T v1 v2 H dm p1 p2 Q q => ⟨i, j, dp_int p1, dp_int p2, q _ H (Same.refl H) (hd _)⟩⟩
theorem op_mulX : OpR X (binaryOp .Mult) (rI IntMulOk fun i j => .int (i * j)) := opI fun _ _ _ _ _ _ _ hc q => mul_int q hc
theorem op_fdivX : OpR X (binaryOp .FloorDiv) (rI (fun _ j => j ≠ 0 ∧ j.natAbs.log2 < 9000) fun i j => .int (i.fdiv j)) := opI fun i j _ _ _ _ _ hc q =>
  floordiv_int hc.1 q (.inl (PyProof.noPylong_of_log2 hc.2))
/-- numbers of less than n binary figures -/
def Bits (n : Nat) (i : Int) : Prop := i.natAbs < 2 ^ n
theorem mul_ok {m n : Nat} (h1 : Bits m i) (h2 : Bits n j) (h : m + n ≤ 100000000) : IntMulOk i j := by
  have b : ∀ (x : Int) (k : Nat), Bits k x → Builtin.Int.intBits x ≤ k := fun x k hx => by
    unfold Builtin.Int.intBits
    split
    · omega
    · rename_i hx0
      have hx1 : x.natAbs ≠ 0 := by simpa using hx0
      have : x.natAbs.log2 < k := (Nat.log2_lt hx1).mpr hx
      omega
  have h1' := b i m h1
  have h2' := b j n h2
  have e : bitsLine = 134217728 := by decide
  unfold IntMulOk
  intro z
  rw [Bool.and_eq_true] at z
  have z2 := z.2
  unfold Builtin.Int.intTooBig at z2
  have z3 := of_decide_eq_true z2
  rw [e] at z3
  omega
theorem od_add : OpD X (binaryOp .Add) (.int i) (.int j) (.int (i + j)) := od_I0 op_add fun _ => .int _
theorem od_sub : OpD X (binaryOp .Sub) (.int i) (.int j) (.int (i - j)) := od_I0 op_sub fun _ => .int _
theorem od_mul (h : IntMulOk i j) : OpD X (binaryOp .Mult) (.int i) (.int j) (.int (i * j)) := od_I op_mulX h fun _ => .int _
theorem od_fdiv (h : j ≠ 0) (hb : j.natAbs.log2 < 9000) : OpD X (binaryOp .FloorDiv) (.int i) (.int j) (.int (i.fdiv j)) := od_I op_fdivX ⟨h, hb⟩ fun _ => .int _
theorem od_mod (h : 0 < j) : OpD X (binaryOp .Mod) (.int i) (.int j) (.int (i % j)) := od_I op_mod h fun _ => .int _
theorem od_pow (h : CPow i j) : OpD X (binaryOp .Pow) (.int i) (.int j) (.int (i ^ j.toNat)) := od_I op_pow h fun _ => .int _
theorem od_lt : OpD X (compareOp .Lt) (.int i) (.int j) (.bool (decide (i < j))) := od_I0 op_lt fun _ => .bl _
theorem od_le : OpD X (compareOp .LtE) (.int i) (.int j) (.bool (decide (i ≤ j))) := od_I0 op_le fun _ => .bl _
theorem od_gt : OpD X (compareOp .Gt) (.int i) (.int j) (.bool (decide (j < i))) := od_I0 op_gt fun _ => .bl _
theorem od_ge : OpD X (compareOp .GtE) (.int i) (.int j) (.bool (decide (j ≤ i))) := od_I0 op_ge fun _ => .bl _
theorem od_eqI : OpD X (compareOp .Eq) (.int i) (.int j) (.bool (i == j)) :=
  ⟨_, op_eq, fun T v1 v2 H dm p1 p2 Q q => by rw [dp_int p1, dp_int p2]; exact ⟨rfl, by rw [dec_int]; exact q _ H (Same.refl H) (.bl _)⟩⟩
theorem od_neI : OpD X (compareOp .NotEq) (.int i) (.int j) (.bool (!(i == j))) :=
  ⟨_, op_ne, fun T v1 v2 H dm p1 p2 Q q => by rw [dp_int p1, dp_int p2]; exact ⟨rfl, by rw [dec_int]; exact q _ H (Same.refl H) (.bl _)⟩⟩
theorem od_eqS {x y : Str} : OpD X (compareOp .Eq) (.str x) (.str y) (.bool (x == y)) :=
  ⟨_, op_eq, fun T v1 v2 H dm p1 p2 Q q => by rw [dp_str p1, dp_str p2]; exact ⟨rfl, by rw [dec_str]; exact q _ H (Same.refl H) (.bl _)⟩⟩
theorem od_eqB {x y : Bool} : OpD X (compareOp .Eq) (.bool x) (.bool y) (.bool (x == y)) :=
  ⟨_, op_eq, fun T v1 v2 H dm p1 p2 Q q => by rw [dp_bool p1, dp_bool p2]; exact ⟨rfl, by rw [dec_bl]; exact q _ H (Same.refl H) (.bl _)⟩⟩
theorem od_neB {x y : Bool} : OpD X (compareOp .NotEq) (.bool x) (.bool y) (.bool (!(x == y))) :=
  ⟨_, op_ne, fun T v1 v2 H dm p1 p2 Q q => by rw [dp_bool p1, dp_bool p2]; exact ⟨rfl, by rw [dec_bl]; exact q _ H (Same.refl H) (.bl _)⟩⟩
theorem od_eqD (hu : X.A.units + 64 < cLine) (h1 : SeqAt.shaped d1 = true) (h2 : SeqAt.shaped d2 = true) : OpD X (compareOp .Eq) d1 d2 (.bool (PyData.eqv d1 d2)) :=
  ⟨_, op_eqD hu, fun T v1 v2 H dm p1 p2 Q q => ⟨d1, d2, dp_off p1, dp_off p2, h1, h2, q _ H (Same.refl H) (.bl _)⟩⟩
theorem od_neD (hu : X.A.units + 64 < cLine) (h1 : SeqAt.shaped d1 = true) (h2 : SeqAt.shaped d2 = true) : OpD X (compareOp .NotEq) d1 d2 (.bool (!PyData.eqv d1 d2)) :=
  ⟨_, op_neD hu, fun T v1 v2 H dm p1 p2 Q q => ⟨d1, d2, dp_off p1, dp_off p2, h1, h2, q _ H (Same.refl H) (.bl _)⟩⟩
/-- whether data is None -/
def isN : PyData → Bool
  | .none => true
  | _ => false
theorem dp_isN {K : PySem.W.Frag} {H : Hp} {v : V} (p : Dp K H v d) : decide (v = .non) = isN d := by
  cases p <;> rfl
theorem od_isN : OpD X (compareOp .Is) d .none (.bool (isN d)) := ⟨_, op_isN, fun T v1 v2 H dm p1 p2 Q q => ⟨dp_non p2, by rw [dp_isN p1]; exact q _ H (Same.refl H) (.bl _)⟩⟩
theorem od_notN : OpD X (compareOp .IsNot) d .none (.bool (!isN d)) := ⟨_, op_notN, fun T v1 v2 H dm p1 p2 Q q => ⟨dp_non p2, by rw [dp_isN p1]; exact q _ H (Same.refl H) (.bl _)⟩⟩
theorem e_neg (h : EvE X a e ρ (.int i)) : EvE X a (.UnaryOp .USub e pos) ρ (.int (-i)) := fun T σ H S Q q =>
  toE (pe_un un_neg je) (h T σ H S _ fun v H1 s1 p1 => ⟨i, dp_int p1, q _ H1 s1 (.int _)⟩)

/-! tests -/
theorem t_not {b : Bool} (h : EvT X a e ρ b) : EvT X a (.UnaryOp .Not e pos) ρ (!b) := fun T σ H S Q q => toT (pt_not jt) (h T σ H S _ fun H1 s1 => q H1 s1)
theorem t_val {b : Bool} (h : EvE X a e ρ (.bool b)) (he : ∀ whole, isTrue e X.env whole = (do let v ← whole; standAt e.pos; holding [v] (truthy v)) := by intro _; rfl) : EvT X a e ρ b := fun T σ H S Q q =>
  toT (pt_val je he) (h T σ H S _ fun v H1 s1 p1 => ⟨b, dp_bool p1, q H1 s1⟩)
theorem t_is {b b' : Bool} (h : EvT X a e ρ b) (hb : b = b') : EvT X a e ρ b' := hb ▸ h
theorem e_is {d'} (h : EvE X a e ρ d) (hb : d = d') : EvE X a e ρ d' := hb ▸ h
theorem t_and1 {b : Bool} (h : EvT X a e ρ b) : EvT X a (.BoolOp .And [e] pos) ρ b := fun T σ H S Q q => toT (PW.pt (pw_and1 jt)) (h T σ H S Q q)
theorem t_or1 {b : Bool} (h : EvT X a e ρ b) : EvT X a (.BoolOp .Or [e] pos) ρ b := fun T σ H S Q q => toT (PW.pt (pw_or1 jt)) (h T σ H S Q q)
end
section
variable {X : Cx} {a : Addr} {ρ : Rho} {c e f : Expr} {es : List Expr} {pos : Pos} {d : PyData}
theorem e_ifT (h : EvT X a c ρ true) (h1 : EvE X a e ρ d) : EvE X a (.IfExp c e f pos) ρ d := fun T σ H S Q q =>
  toE (pe_ifExp jt je je) (h T σ H S _ fun H1 s1 => iteT (h1 T σ H1 (S.same s1) _ fun v H2 s2 p => q v H2 (s1.trans s2) p))
theorem e_ifF (h : EvT X a c ρ false) (h1 : EvE X a f ρ d) : EvE X a (.IfExp c e f pos) ρ d := fun T σ H S Q q =>
  toE (pe_ifExp jt je je) (h T σ H S _ fun H1 s1 => iteF (h1 T σ H1 (S.same s1) _ fun v H2 s2 p => q v H2 (s1.trans s2) p))
theorem e_if {b : Bool} (h : EvT X a c ρ b) (h1 : b = true → EvE X a e ρ d) (h2 : b = false → EvE X a f ρ d) : EvE X a (.IfExp c e f pos) ρ d := by
  cases b with
  | true => exact e_ifT h (h1 rfl)
  | false => exact e_ifF h (h2 rfl)

/-! argument lists, displays -/
theorem a_nil : EvA X a [] ρ [] := fun T σ H S Q q => toA pa_nil (q _ H (Same.refl H) .nil)
theorem a_cons {ds : List PyData} (h : EvE X a e ρ d) (h2 : EvA X a es ρ ds) (hs : starEach (e :: es) X.env = (false, eval e X.env) :: starEach es X.env := by rfl) : EvA X a (e :: es) ρ (d :: ds) := fun T σ H S Q q =>
  toA (pa_cons je ja hs) (h T σ H S _ fun v H1 s1 p1 => h2 T σ H1 (S.same s1) _ fun vs H2 s2 p2 => q _ H2 (s1.trans s2) (.cons (dpo s2 p1) p2))
theorem szl {n : Nat} (h : n ≤ 100000) : n ≤ sizeLine := Nat.le_trans h (by decide)
theorem e_tup {x1} {ds : List PyData} (h : EvA X a es ρ ds) (hl : ds.length ≤ 100000 := by first | (simp; done) | decide) : EvE X a (.Tuple es x1 pos) ρ (.tuple ds) := fun T σ H S Q q =>
  toE (pe_tup ja) (h T σ H S _ fun vs H1 s1 p1 => ⟨by rw [dps_len p1]; exact szl hl, fun p hp => q _ _ (s1.trans (same_new hp)) (dpo_newT (S.dm.same s1) hp p1)⟩)
theorem e_lst {ds : List PyData} (h : EvA X a es ρ ds) (hl : ds.length ≤ 100000 := by first | (simp; done) | decide) : EvE X a (.List es pos) ρ (.list ds) := fun T σ H S Q q =>
  toE (pe_lst ja) (h T σ H S _ fun vs H1 s1 p1 => ⟨by rw [dps_len p1]; exact szl hl, fun p hp => q _ _ (s1.trans (same_new hp)) (dpo_newL (S.dm.same s1) hp p1)⟩)

/-! items, slices, sums of sequences -/
variable {i j : Int} {ds : List PyData} {o : Expr}
theorem ati_dps {K : PySem.W.Frag} {H : Hp} {vs : List V} (h : DpAll K H vs ds) (e : atI ds i = some d) : ∃ v, atI vs i = some v ∧ Dp K H v d := by
  unfold atI at e ⊢
  rw [dps_len h]
  cases q : ixN ds.length i with
  | none => rw [q] at e; cases e
  | some k =>
    rw [q] at e
    obtain ⟨v, h1, h2⟩ := dps_get h (show ds[k]? = some d from e)
    exact ⟨v, h1, h2⟩
theorem e_ixT (h1 : EvE X a o ρ (.tuple ds)) (h2 : EvE X a e ρ (.int i)) (h : atI ds i = some d) (hs : PlainIx e := by exact fun _ _ => rfl) : EvE X a (.Subscript o e pos) ρ d := fun T σ H S Q q =>
  toE (pe_ix ix_tup je je hs) (h1 T σ H S _ fun v1 H1 s1 p1 => h2 T σ H1 (S.same s1) _ fun v2 H2 s2 p2 => by
    obtain ⟨p, xs, rfl, g1, g2⟩ := dpo_tup (dpo s2 p1)
    obtain ⟨v, g3, g4⟩ := ati_dps g2 h
    exact ⟨p, xs, i, v, rfl, dp_int p2, g1, g3, q v H2 (s1.trans s2) g4⟩)
theorem e_ixL (h1 : EvE X a o ρ (.list ds)) (h2 : EvE X a e ρ (.int i)) (h : atI ds i = some d) (hs : PlainIx e := by exact fun _ _ => rfl) : EvE X a (.Subscript o e pos) ρ d := fun T σ H S Q q =>
  toE (pe_ix ix_list je je hs) (h1 T σ H S _ fun v1 H1 s1 p1 => h2 T σ H1 (S.same s1) _ fun v2 H2 s2 p2 => by
    obtain ⟨p, xs, rfl, g1, g2⟩ := dpo_lst (dpo s2 p1)
    obtain ⟨v, g3, g4⟩ := ati_dps g2 h
    exact ⟨p, xs, i, v, rfl, dp_int p2, g1, g3, q v H2 (s1.trans s2) g4⟩)
theorem o_non : EvO X a none ρ none := ⟨_, po_none, fun T σ H S Q q => q H (Same.refl H)⟩
theorem o_int (h : EvE X a e ρ (.int i)) : EvO X a (some e) ρ (some i) := ⟨_, po_some je, fun T σ H S Q q => h T σ H S _ fun v H1 s1 p1 => ⟨i, dp_int p1, q H1 s1⟩⟩
def cutD (xs : List PyData) (lo hi : Option Int) : List PyData := (xs.drop (HT.sIx xs.length 0 lo)).take (HT.sIx xs.length xs.length hi - HT.sIx xs.length 0 lo)
theorem cut_dps {K : PySem.W.Frag} {H : Hp} {vs : List V} (h : DpAll K H vs ds) (lo hi : Option Int) : DpAll K H (cutV vs lo hi) (cutD ds lo hi) := by
  unfold cutV cutD
  rw [dps_len h]
  exact dps_take _ (dps_drop _ h)
theorem e_slT {lo hi : Option Expr} {x y : Option Int} {p2 : Pos} (h1 : EvE X a o ρ (.tuple ds)) (h2 : EvO X a lo ρ x) (h3 : EvO X a hi ρ y) (hw : ¬ (HT.sIx ds.length 0 x = 0 ∧ HT.sIx ds.length ds.length y = ds.length)) :
    EvE X a (.Subscript o (.Slice lo hi none p2) pos) ρ (.tuple (cutD ds x y)) := fun T σ H S Q q => by
  obtain ⟨tl, g2, k2⟩ := h2
  obtain ⟨th, g3, k3⟩ := h3
  refine toE (pe_slice sl_tup je g2 g3) (h1 T σ H S _ fun v1 H1 s1 p1 => k2 T σ H1 (S.same s1) _ fun H2 s2 => k3 T σ H2 (S.same (s1.trans s2)) _ fun H3 s3 => ?_)
  obtain ⟨p, xs, rfl, g4, g5⟩ := dpo_tup (dpo (s2.trans s3) p1)
  have hl := dps_len g5
  exact ⟨p, xs, rfl, g4, by rw [hl]; exact hw, fun p' hp => q _ _ (((s1.trans s2).trans s3).trans (same_new hp)) (dpo_newT (S.dm.same ((s1.trans s2).trans s3)) hp (cut_dps g5 x y))⟩
theorem e_slL {lo hi : Option Expr} {x y : Option Int} {p2 : Pos} (h1 : EvE X a o ρ (.list ds)) (h2 : EvO X a lo ρ x) (h3 : EvO X a hi ρ y) :
    EvE X a (.Subscript o (.Slice lo hi none p2) pos) ρ (.list (cutD ds x y)) := fun T σ H S Q q => by
  obtain ⟨tl, g2, k2⟩ := h2
  obtain ⟨th, g3, k3⟩ := h3
  refine toE (pe_slice sl_list je g2 g3) (h1 T σ H S _ fun v1 H1 s1 p1 => k2 T σ H1 (S.same s1) _ fun H2 s2 => k3 T σ H2 (S.same (s1.trans s2)) _ fun H3 s3 => ?_)
  obtain ⟨p, xs, rfl, g4, g5⟩ := dpo_lst (dpo (s2.trans s3) p1)
  exact ⟨p, xs, rfl, g4, fun p' hp => q _ _ (((s1.trans s2).trans s3).trans (same_new hp)) (dpo_newL (S.dm.same ((s1.trans s2).trans s3)) hp (cut_dps g5 x y))⟩
theorem od_catT {es fs : List PyData} (h : es ≠ []) (hl : es.length + fs.length ≤ 100000) : OpD X (binaryOp .Add) (.tuple es) (.tuple fs) (.tuple (es ++ fs)) :=
  ⟨_, op_catT, fun T v1 v2 H dm p1 p2 Q q => by
    obtain ⟨p, xs, rfl, g1, g2⟩ := dpo_tup p1
    obtain ⟨p', ys, rfl, g3, g4⟩ := dpo_tup p2
    have l1 := dps_len g2
    have l2 := dps_len g4
    refine ⟨p, p', xs, ys, rfl, rfl, g1, g3, fun z => h ?_, by rw [l1, l2]; exact szl hl, fun z => ?_, fun z r hr => q _ _ (same_new hr) (dpo_newT dm hr (dps_append g2 g4))⟩
    · rw [z] at l1
      exact List.eq_nil_of_length_eq_zero l1.symm
    · rw [z] at l2
      rw [List.eq_nil_of_length_eq_zero l2.symm, List.append_nil] at q
      exact q _ H (Same.refl H) p1⟩
/-- list + list, whoever holds them -/
theorem op_catX {X : Cx} : OpR X (binaryOp .Add) (fun x y H Q => ∃ l b xs zs, x = .ref l ∧ y = .ref b ∧ SqL X.K H l xs ∧ SqL X.K H b zs ∧ xs.length + zs.length ≤ sizeLine ∧ ∀ p, H p = none → Q (.ref p) (upd H p (.lst (xs ++ zs)))) := by
  intro pins s σ H x y v u Q I rx ry h
  obtain ⟨l, b, xs, zs, rfl, rfl, hH, hB, hz, q⟩ := h
  cases rx
  cases ry
  obtain ⟨its, r, pl, hl⟩ := I.list hH
  obtain ⟨its2, r2, pl2, hl2⟩ := I.list hB
  obtain ⟨⟨c1, dd1, da1, sl1⟩, n1, e1, k1, d1, b1⟩ := pl
  obtain ⟨⟨c2, dd2, da2, sl2⟩, n2, e2, k2, d2, b2⟩ := pl2
  have e3 := r.length
  have e4 := r2.length
  simp only at k1 d1 b1 k2 d2 b2
  subst k1 b1 k2 b2
  have ea : its.toArray ++ its2.toArray = (its ++ its2).toArray := by simp
  have sz : its.toArray.size + its2.toArray.size ≤ sizeLine := by rw [List.size_toArray, List.size_toArray, ← e3, ← e4]; exact hz
  refine concat_meets ⟨_, e1, rfl⟩ ⟨_, e2, rfl⟩ noFill_list_add seq_list_add F.slot_list_add F.entry_list_add (F.args_list_add_2 _ _)
    (list_addW l b its.toArray its2.toArray n1 n2 dd1 dd2 sl1 sl2 sz) ⟨e1, e2, ?_⟩
  rw [ea]
  exact ⟨.ref _, _, I.lnew (t' := s.toks) (r.append r2) (by rw [List.length_append]; exact hz), rfl, q _ I.fresh⟩
theorem od_catL {es fs : List PyData} (hl : es.length + fs.length ≤ 100000) : OpD X (binaryOp .Add) (.list es) (.list fs) (.list (es ++ fs)) :=
  ⟨_, op_catX, fun T v1 v2 H dm p1 p2 Q q => by
    obtain ⟨p, xs, rfl, g1, g2⟩ := dpo_lst p1
    obtain ⟨p', ys, rfl, g3, g4⟩ := dpo_lst p2
    have l1 := dps_len g2
    have l2 := dps_len g4
    exact ⟨p, p', xs, ys, rfl, rfl, g1, g3, by rw [l1, l2]; exact szl hl, fun r hr => q _ _ (same_new hr) (dpo_newL dm hr (dps_append g2 g4))⟩⟩
/-! calls -/
structure Cal (P : Program) (w : World) (K : PySem.W.Frag) (mg : Str → Option Value) (base : Heap) (k : Nat) (x : Str) (ps : List Str) (sp : Sp) : Prop where
  ex : ∃ f fd, FnOk P w K mg base CX0 k f fd ps sp ∧ mg x = some (.ref f) ∧ PySem.W.keepIn K (.ref f) = true ∧ Binds K fd ps []
/-- a def that keeps all and hands on data: R tells of the arguments what comes of them -/
def spR (K : PySem.W.Frag) (R : List PyData → PyData → Prop) : Sp := fun vs H Q _ => ∃ T ds d, Din T H ∧ DpAll K (off T H) vs ds ∧ R ds d ∧ ∀ v H', Same H H' → Dp K (off T H') v d → Q v H'
theorem e_call {k : Nat} {x : Str} {p : Pos} {ps : List Str} {R : List PyData → PyData → Prop} (C : Cal X.prog X.w X.K X.mg X.base k x ps (spR X.K R)) (hr : Room k X.A) (ha : EvA X a (e :: es) ρ ds) (hR : R ds d)
    (hg : Gl X x := by rfl) (hdb : (x == ("__debug__" : Str)) = false := by decide) (he : starEach (e :: es) X.env = (false, eval e X.env) :: starEach es X.env := by rfl) (hpl : (backTo pos (starEach es X.env)).any (·.1) = false := by rfl) :
    EvE X a (.Call (.Name x p) (e :: es) [] pos) ρ d := fun T σ H S Q q => by
  obtain ⟨f, fd, F, hm, hk, hb⟩ := C.ex
  refine toE (pe_call F hr hg hm hk hb (ds := []) (dvs := []) .nil pass0 ja hdb he hpl) (ha T σ H S _ fun vs H1 s1 p1 => ?_)
  rw [List.append_nil]
  exact ⟨T, ds, d, S.dm.same s1, p1, hR, fun v H2 s2 p2 => q v H2 (s1.trans s2) p2⟩
/-- what a built-in does with data -/
def CaD (X : Cx) (f : Value) (ds : List PyData) (d : PyData) : Prop := ∃ r, CallR X f r ∧ ∀ T vs H, Din T H → DpAll X.K (off T H) vs ds → ∀ Q : VK, (∀ v H2, Same H H2 → Dp X.K (off T H2) v d → Q v H2) → r vs H Q
theorem e_callB {x : Str} {p : Pos} {id : String} (hc : CaD X (.builtin id) ds d) (ha : EvA X a (e :: es) ρ ds) (hm : X.mg x = none) (hv : bootBuiltins x = some (.builtin id)) (hg : Gl X x := by rfl) (hn : x ≠ "__name__" := by decide) (hdb : (x == ("__debug__" : Str)) = false := by decide)
    (he : starEach (e :: es) X.env = (false, eval e X.env) :: starEach es X.env := by rfl) (hpl : (backTo pos (starEach es X.env)).any (·.1) = false := by rfl) : EvE X a (.Call (.Name x p) (e :: es) [] pos) ρ d := fun T σ H S Q q => by
  obtain ⟨r, h1, h2⟩ := hc
  exact toE (pe_callB h1 hg hm hv ja hn hdb he hpl) (ha T σ H S _ fun vs H1 s1 p1 => h2 T vs H1 (S.dm.same s1) p1 Q fun v H2 s2 p2 => q v H2 (s1.trans s2) p2)
theorem e_callT {x : Str} {p : Pos} {Ty : String} (hc : CaD X (.type Ty) ds d) (ha : EvA X a (e :: es) ρ ds) (hm : X.mg x = none) (hv : bootBuiltins x = some (.type Ty)) (hg : Gl X x := by rfl) (hn : x ≠ "__name__" := by decide) (hdb : (x == ("__debug__" : Str)) = false := by decide)
    (he : starEach (e :: es) X.env = (false, eval e X.env) :: starEach es X.env := by rfl) (hpl : (backTo pos (starEach es X.env)).any (·.1) = false := by rfl) : EvE X a (.Call (.Name x p) (e :: es) [] pos) ρ d := fun T σ H S Q q => by
  obtain ⟨r, h1, h2⟩ := hc
  exact toE (pe_callTy h1 hg hm hv ja hn hdb he hpl) (ha T σ H S _ fun vs H1 s1 p1 => h2 T vs H1 (S.dm.same s1) p1 Q fun v H2 s2 p2 => q v H2 (s1.trans s2) p2)
theorem e_callM {x : Str} {p : Pos} {id : String} (hc : CaD X (.builtin id) ds d) (ha : EvA X a (e :: es) ρ ds) (hm : X.mg x = some (.builtin id)) (hg : Gl X x := by rfl) (hdb : (x == ("__debug__" : Str)) = false := by decide)
    (he : starEach (e :: es) X.env = (false, eval e X.env) :: starEach es X.env := by rfl) (hpl : (backTo pos (starEach es X.env)).any (·.1) = false := by rfl) : EvE X a (.Call (.Name x p) (e :: es) [] pos) ρ d := fun T σ H S Q q => by
  obtain ⟨r, h1, h2⟩ := hc
  exact toE (pe_callBfun h1 hg hm ja hdb he hpl) (ha T σ H S _ fun vs H1 s1 p1 => h2 T vs H1 (S.dm.same s1) p1 Q fun v H2 s2 p2 => q v H2 (s1.trans s2) p2)
theorem dps1 {K : PySem.W.Frag} {H : Hp} {vs : List V} (h : DpAll K H vs [d]) : ∃ v, vs = [v] ∧ Dp K H v d := by
  cases h with
  | cons h1 h2 => cases h2; exact ⟨_, rfl, h1⟩
theorem dps2 {K : PySem.W.Frag} {H : Hp} {vs : List V} {d' : PyData} (h : DpAll K H vs [d, d']) : ∃ v v', vs = [v, v'] ∧ Dp K H v d ∧ Dp K H v' d' := by
  cases h with
  | cons h1 h2 =>
    obtain ⟨v', rfl, h3⟩ := dps1 h2
    exact ⟨_, v', rfl, h1, h3⟩
theorem ca_lenT : CaD X (.builtin "len") [.tuple ds] (.int ds.length) := ⟨_, call_len_seq, fun T vs H dm p Q q => by
  obtain ⟨v, rfl, h⟩ := dps1 p
  obtain ⟨pa, xs, rfl, g1, g2⟩ := dpo_tup h
  exact ⟨pa, xs, rfl, .inr g1, by rw [dps_len g2]; exact q _ H (Same.refl H) (.int _)⟩⟩
theorem ca_lenL : CaD X (.builtin "len") [.list ds] (.int ds.length) := ⟨_, call_len_seq, fun T vs H dm p Q q => by
  obtain ⟨v, rfl, h⟩ := dps1 p
  obtain ⟨pa, xs, rfl, g1, g2⟩ := dpo_lst h
  exact ⟨pa, xs, rfl, .inl g1, by rw [dps_len g2]; exact q _ H (Same.refl H) (.int _)⟩⟩
theorem ca_abs : CaD X (.builtin "abs") [.int i] (.int (if i < 0 then -i else i)) := ⟨_, call_abs, fun T vs H dm p Q q => by
  obtain ⟨v, rfl, h⟩ := dps1 p
  exact ⟨i, by rw [dp_int h], q _ H (Same.refl H) (.int _)⟩⟩
theorem ca_int : CaD X (.type "int") [.int i] (.int i) := ⟨_, call_int1, fun T vs H dm p Q q => by
  obtain ⟨v, rfl, h⟩ := dps1 p
  exact .inl ⟨i, by rw [dp_int h], q _ H (Same.refl H) (.int _)⟩⟩
theorem ca_intB {b : Bool} : CaD X (.type "int") [.bool b] (.int (if b then 1 else 0)) := ⟨_, call_int1, fun T vs H dm p Q q => by
  obtain ⟨v, rfl, h⟩ := dps1 p
  exact .inr ⟨b, by rw [dp_bool h], q _ H (Same.refl H) (.int _)⟩⟩
theorem ca_max (hc : X.calm = true) : CaD X (.builtin "max") [.int i, .int j] (.int (if j > i then j else i)) := ⟨_, call_max2 hc, fun T vs H dm p Q q => by
  obtain ⟨v, v', rfl, h, h'⟩ := dps2 p
  exact ⟨i, j, by rw [dp_int h, dp_int h'], q _ H (Same.refl H) (.int _)⟩⟩
theorem ca_min (hc : X.calm = true) : CaD X (.builtin "min") [.int i, .int j] (.int (if j < i then j else i)) := ⟨_, call_min2 hc, fun T vs H dm p Q q => by
  obtain ⟨v, v', rfl, h, h'⟩ := dps2 p
  exact ⟨i, j, by rw [dp_int h, dp_int h'], q _ H (Same.refl H) (.int _)⟩⟩
theorem ca_gcd : CaD X (.builtin "math.gcd") [.int i, .int j] (.int ((Nat.gcd i.natAbs j.natAbs : Nat) : Int)) := ⟨_, cr_gcd, fun T vs H dm p Q q => by
  obtain ⟨v, v', rfl, h, h'⟩ := dps2 p
  exact ⟨i, j, by rw [dp_int h, dp_int h'], q _ H (Same.refl H) (.int _)⟩⟩
theorem ca_tupL : CaD X (.type "tuple") [.list ds] (.tuple ds) := ⟨_, call_tuple_of, fun T vs H dm p Q q => by
  obtain ⟨v, rfl, h⟩ := dps1 p
  obtain ⟨pa, xs, rfl, g1, g2⟩ := dpo_lst h
  exact ⟨pa, xs, rfl, .inl ⟨g1, fun l hl => q _ _ (same_new hl) (dpo_newT dm hl g2)⟩⟩⟩
theorem ca_tupT : CaD X (.type "tuple") [.tuple ds] (.tuple ds) := ⟨_, call_tuple_of, fun T vs H dm p Q q => by
  obtain ⟨v, rfl, h⟩ := dps1 p
  obtain ⟨pa, xs, rfl, g1, g2⟩ := dpo_tup h
  exact ⟨pa, xs, rfl, .inr ⟨g1, q _ H (Same.refl H) h⟩⟩⟩
theorem ca_listT : CaD X (.type "list") [.tuple ds] (.list ds) := ⟨_, call_list_of, fun T vs H dm p Q q => by
  obtain ⟨v, rfl, h⟩ := dps1 p
  obtain ⟨pa, xs, rfl, g1, g2⟩ := dpo_tup h
  exact ⟨pa, xs, rfl, .inr g1, fun l hl => q _ _ (same_new hl) (dpo_newL dm hl g2)⟩⟩
theorem ca_listL : CaD X (.type "list") [.list ds] (.list ds) := ⟨_, call_list_of, fun T vs H dm p Q q => by
  obtain ⟨v, rfl, h⟩ := dps1 p
  obtain ⟨pa, xs, rfl, g1, g2⟩ := dpo_lst h
  exact ⟨pa, xs, rfl, .inl g1, fun l hl => q _ _ (same_new hl) (dpo_newL dm hl g2)⟩⟩
theorem ca_sum (hc : X.calm = true) {ns : List Int} : CaD X (.builtin "sum") [.list (ns.map .int)] (.int ns.sum) := ⟨_, cr_sum hc, fun T vs H dm p Q q => by
  obtain ⟨v, rfl, h⟩ := dps1 p
  obtain ⟨pa, xs, rfl, g1, g2⟩ := dpo_lst h
  exact ⟨pa, ns, rfl, by rw [← vs_ints g2]; exact g1, q _ H (Same.refl H) (.int _)⟩⟩
theorem ca_all (hc : X.calm = true) {bs : List Bool} : CaD X (.builtin "all") [.list (bs.map .bool)] (.bool (bs.all id)) := ⟨_, cr_all hc, fun T vs H dm p Q q => by
  obtain ⟨v, rfl, h⟩ := dps1 p
  obtain ⟨pa, xs, rfl, g1, g2⟩ := dpo_lst h
  exact ⟨pa, bs, rfl, by rw [← vs_bools g2]; exact g1, q _ H (Same.refl H) (.bl _)⟩⟩
end
end Zj
/-! enumerate of a tuple. -/
namespace Zj
open PySem PySem.Spec PyProof.Rows L2
open AutoSeq1 (wpAny_loadPart')
theorem enumT_new (l : Addr) (items : Array Value) (n : Nat) (dct : Option Addr) (sl : Array (Option Value)) :
    Meets (Builtin.«enumerate.__new__» ⟨[.type "enumerate", .ref l], []⟩) (fun _ R s => s.heap.get? l = some { cls := .type "tuple", dict := dct, data := .seq items n, slots := sl } ∧
      R (.ok (.ret (.ref (s.heap.push { cls := .type "tuple_iterator", data := .fields #[.ref l, .int 0 0] }).objs.size)))
        { s with heap := (s.heap.push { cls := .type "tuple_iterator", data := .fields #[.ref l, .int 0 0] }).push { cls := .type "enumerate", data := .fields #[.none, .bool false, .ref s.heap.objs.size, rawInt 0, .none, .none] } }) :=
  .of_wp fun prog w A R s h => by
    obtain ⟨hp, g, d, tk, os⟩ := s
    obtain ⟨hl, h⟩ := h
    have hsub := sub_enumerate
    have hTu : Heap.IsTuple (Shared.heap ⟨hp, g, d, tk, os⟩) l items := ⟨_, hl, rfl, n, rfl⟩
    wp_walk using wpAny_loadPart' hl
    refine wpAny_stack_any fun st => wpAny_pure ?_
    split
    · rename_i c _ _ _ _ _
      cases (c == Value.type "enumerate")
      all_goals
        wp_walk using wpAny_loadPart' hl, wpAny_pyIter_tuple hTu
        exact ⟨_, rfl, h⟩
    · wp_walk using wpAny_loadPart' hl, wpAny_pyIter_tuple hTu
      exact ⟨_, rfl, h⟩
section
variable {prog : Program} {w : World} {A : Around} {E : Value → Shared → Prop} {s : Shared}
theorem call_enumT {l : Addr} {items : Array Value} {Q : Value → Shared → Prop} (hT : IsTup s.heap l items)
    (h : ∀ h', IsEnum h' (s.heap.objs.size + 1) s.heap.objs.size 0 .none → h'.IsTupleIter s.heap.objs.size l 0 → (∀ b o, s.heap.get? b = some o → h'.get? b = some o) → Q (.ref (s.heap.objs.size + 1)) { s with heap := h' }) :
    wpAny (model prog w) A (call (.type "enumerate") [.ref l]) Q E s := by
  obtain ⟨⟨c, dct, dt, sl⟩, hl, hc, n, hd⟩ := hT
  simp only at hc hd
  subst hc hd
  refine callType_new F.called_enumerate (by decide) (F.typeCall_enumerate_1 _) (F.newCall_enumerate_1 _) (fun obj => F.args_object_init_2 obj _) F.entry_enumerate_new (enumT_new l items n dct sl) ⟨hl, ?_⟩
  have hz : (s.heap.push { cls := .type "tuple_iterator", data := .fields #[.ref l, .int 0 0] }).objs.size = s.heap.objs.size + 1 := Heap.size_push ..
  have he := Heap.get?_push_size (s.heap.push { cls := .type "tuple_iterator", data := .fields #[.ref l, .int 0 0] }) (o := { cls := .type "enumerate", data := .fields #[.none, .bool false, .ref s.heap.objs.size, rawInt 0, .none, .none] }) rfl
  rw [hz] at he
  show _ ∧ _
  rw [hz]
  exact ⟨⟨_, he, rfl⟩, h _ he ⟨_, Heap.get?_push_of_some _ (Heap.get?_push_size _ rfl), rfl, rfl⟩ fun b o x => Heap.get?_push_of_some _ (Heap.get?_push_of_some _ x)⟩
end
/-- the tuple at a, each item in a new pair -/
def IteT (K : PySem.W.Frag) (a : Addr) : It :=
  ⟨fun i H => ∃ (xs : List V) (x : V), SqT K H a xs ∧ xs[i]? = some x, fun i H v H' => ∃ T x, v = .ref T ∧ H T = none ∧ H' = upd H T (.tup [.int (i : Nat), x]) ∧ ∀ xs, SqT K H a xs → xs[i]? = some x, fun i H => ∃ xs : List V, SqT K H a xs ∧ xs.length ≤ i⟩
theorem turn_enumT {P : Program} {w : World} {K : PySem.W.Frag} {elts : List Expr} {kk : Nat} {tpos : Pos} (a e it : Addr) :
    Turn P w K (.Tuple elts kk tpos) (IteT K a) [e, it] e (fun i h => (∃ old, IsEnum h e it ((i : Nat) : Int) old) ∧ h.IsTupleIter it a i ∧ e ≠ it ∧ e ≠ a ∧ a ≠ it) where
  mem := by simp
  obj := fun i h st b hb => by
    obtain ⟨⟨old, he⟩, ⟨o, ho, hc, hd⟩, _⟩ := st
    have e' : b = e ∨ b = it := by simpa using hb
    rcases e' with z | z
    · rw [z]; exact ⟨_, he, fun v q => nomatch q⟩
    · rw [z]; exact ⟨o, ho, fun v q => by rw [hd] at q; cases q⟩
  keep := fun i h h' st k => by
    obtain ⟨⟨old, he⟩, hi, hne⟩ := st
    exact ⟨⟨old, k e (by simp) _ he⟩, hi.at fun o q => k it (by simp) o q, hne⟩
  item := by
    intro X hP hw hK hc i pins s σ H E I hf st hg
    subst hP hw hK
    obtain ⟨⟨old, he⟩, hit, hne, hea, hai⟩ := st
    obtain ⟨xs, x, hq, hx⟩ := hg
    obtain ⟨its, rv, p, hz⟩ := I.tuple hq
    obtain ⟨u, hu, ru⟩ := rv.get hx
    have hlt : i < its.toArray.size := by
      have := (List.getElem?_eq_some_iff.mp hu).1
      simpa using this
    have hel : e < s.heap.objs.size := Heap.lt_size he
    have hil : it < s.heap.objs.size := by obtain ⟨_, q, _⟩ := hit; exact Heap.lt_size q
    refine wpAny_pyNext_enum_itemD (Draws.tuple (A := X.A.in1) (I.ok.hd hc) it a hai its.toArray) he ⟨hit, p⟩ hlt hne (by simp; exact ⟨hne, hea⟩) fun x' h' tk hx' ho hst' hT hsz hk => ?_
    have exu : x' = u := by
      have z : some u = some x' := by
        rw [← hx']
        simpa using hu.symm
      exact (Option.some.inj z).symm
    subst exu
    refine ⟨_, rfl, wpAny_letOwnedTupleGo_enum (s := { s with heap := h', toks := tk + 1 }) ho fun h'' he' sb => ?_⟩
    have hT2 : h''.get? s.heap.objs.size = some { cls := .type "tuple", data := .seq #[.int i tk, x'] } := (sb.2 _ (Nat.ne_of_gt hel)).trans hT
    have new : ObjOk X.prog X.w (upd H s.heap.objs.size (.tup [.int (i : Nat), x])) h'' s.heap.objs.size (.tup [.int (i : Nat), x]) :=
      ⟨by show 2 ≤ sizeLine; decide, [.int i tk, x'], .cons ⟨_, rfl⟩ (.cons ru .nil), ⟨_, hT2, rfl, _, rfl⟩⟩
    have I1 : Inv X pins σ (upd H s.heap.objs.size (.tup [.int (i : Nat), x])) { s with heap := h'', toks := tk + 1 } := by
      refine I.turnedNew (ch := [e, it]) (fun b ob hb q => ?_) hf (Nat.le_refl _) new
      exact (sb.2 b (fun z => hb (by simp [z]))).trans (hk b ob (fun z => hb (by simp [z])) (fun z => hb (by simp [z])) q)
    refine ⟨.ref s.heap.objs.size, _, I1, rfl, ⟨_, x, rfl, I.hok.fresh (Nat.le_refl _), rfl, fun ys hy => by rw [I.tuple_inj hy hq]; exact hx⟩, ⟨⟨x', ?_⟩, hst'.1.at fun o q => (sb.2 it (Ne.symm hne)).trans q, hne, hea, hai⟩, fun b hb => ?_⟩
    · have e1 : ((i + 1 : Nat) : Int) = (i : Int) + 1 := by omega
      rw [e1]
      exact he'
    · have hb' : b < s.heap.objs.size := by
        have e' : b = e ∨ b = it := by simpa using hb
        rcases e' with z | z
        · rw [z]; exact hel
        · rw [z]; exact hil
      rw [upd_ne (Nat.ne_of_lt hb')]
      exact (hf b hb).1
  done := by
    intro X hP hw hK hc i pins s σ H E I hf st hg
    subst hP hw hK
    obtain ⟨⟨old, he⟩, hit, hne, hea, hai⟩ := st
    obtain ⟨xs, hq, hx⟩ := hg
    obtain ⟨its, rv, p, hz⟩ := I.tuple hq
    obtain ⟨f0, f1, f2, f3, f4, f5⟩ := hf it (by simp)
    have hl := rv.length
    have D : Draws X.prog X.w X.A.in1 it [it, a] i (fun i v => its.toArray[i]? = some v) (fun j h => j = i ∧ h.IsTupleIter it a j ∧ h.IsTuple a its.toArray ∧ its.toArray.size ≤ i) := {
      live := fun j h st => by obtain ⟨_, ⟨o, ho, _⟩, _⟩ := st; exact ⟨o, ho⟩
      frame := fun j h h' st hk => ⟨st.1, st.2.1.at fun o e => hk it (by simp) o e, st.2.2.1.at fun o e => hk a (by simp) o e, st.2.2.2⟩
      item := fun j s Q E hi st hQ => by
        have := st.1
        omega
      done := fun s Q E st hE => wpAny_nextOf_tuple_end (I.ok.hd hc) st.2.1 st.2.2.1 (by have := st.2.2.2; simp only [Array.getElem?_eq_none_iff]; omega) hE }
    exact wpAny_pyNext_enum_endD D he ⟨rfl, hit, p, by simp; omega⟩ fun h' eb => ⟨rfl, I.turned (t' := s.toks) (fun b o hb q => eb b o hb q) f0 f1 f3 f4 f5⟩
  self := fun A i s Q E st h => by
    obtain ⟨⟨_, he⟩, _⟩ := st
    exact wpAny_pyIter_enum he h
def iEnumT (K : PySem.W.Frag) (ta : TA) : TI := fun σ H R => ta σ H fun vs H1 => ∃ a xs, vs = [.ref a] ∧ SqT K H1 a xs ∧ R (IteT K a) H1
theorem pi_enumT {X : Cx} {e : Expr} {ta : TA} {p pos tpos : Pos} {elts : List Expr} {kk : Nat} (hg : Gl X "enumerate") (hm : X.mg "enumerate" = none) (ha : PA X [e] ta) (hs : starEach [e] X.env = [(false, eval e X.env)] := by rfl) :
    PI X (.Tuple elts kk tpos) (.Call (.Name "enumerate" p) [e] [] pos) (iEnumT X.K ta) := by
  refine ⟨fun pins s σ H R I h => ?_⟩
  refine Call_ (ld_blt I hg hm boot_enumerate (PyProof.Rows.callWith_type1 (thn (ha.run pos pins s σ H _ I h) fun us s1 hv => ?_) hs rfl))
  obtain ⟨vs, H1, I1, r1, a, xs, rfl, hq, q⟩ := hv
  obtain ⟨u, rfl, ru⟩ := vals1 r1
  cases ru
  obtain ⟨its, rv, p', hz⟩ := I1.tuple hq
  have al : a < s1.heap.objs.size := p'.lt
  refine call_enumT p' fun h' he hit hk => wpAny_pyIter_enum he ?_
  have I2 : Inv X pins σ H1 { s1 with heap := h' } := I1.kept (t' := s1.toks) hk
  refine ⟨s1.heap.objs.size + 1, [s1.heap.objs.size + 1, s1.heap.objs.size], _, _, H1, rfl, I2, turn_enumT a (s1.heap.objs.size + 1) s1.heap.objs.size, ⟨⟨.none, he⟩, hit, Nat.succ_ne_self _, Nat.ne_of_gt (Nat.lt_succ_of_lt al), Nat.ne_of_lt al⟩, fun b hb => ?_, q⟩
  have hle : s1.heap.objs.size ≤ b := by
    have e' : b = s1.heap.objs.size + 1 ∨ b = s1.heap.objs.size := by simpa using hb
    rcases e' with z | z
    · rw [z]; exact Nat.le_add_right _ _
    · rw [z]; exact Nat.le_refl _
  exact I1.fpOk hle (I1.hok.fresh hle)
theorem walk_enumT {K : PySem.W.Frag} {a : Addr} {xs : List V} : Walk (IteT K a) xs.length (fun H => SqT K H a xs) (YPair (fun i => some (.int (i : Nat))) (fun i => xs[i]?)) := by
  refine ⟨fun i _ hi q => ⟨xs, xs[i], q, by simp [hi]⟩, fun _ q => ⟨xs, q, Nat.le_refl _⟩, fun i H v H' _ q y => ?_⟩
  obtain ⟨T, x, h1, h2, h3, h4⟩ := y
  exact ⟨T, .int (i : Nat), x, h1, h2, h3, rfl, h4 xs q⟩
theorem walk_zipT {K : PySem.W.Frag} {a b : Addr} {xs ys : List V} {n : Nat} (hn : n = min xs.length ys.length) : Walk (RZ.ItzT K a b) n (fun H => SqT K H a xs ∧ SqT K H b ys) (YPair (fun i => xs[i]?) (fun i => ys[i]?)) := by
  subst hn
  refine ⟨fun i _ hi q => ?_, fun _ q => ⟨xs, ys, q.1, q.2, by omega⟩, fun i H v H' _ q y => ?_⟩
  · have h1 : i < xs.length := by omega
    have h2 : i < ys.length := by omega
    exact ⟨xs, ys, xs[i], ys[i], q.1, q.2, by simp [h1], by simp [h2]⟩
  · obtain ⟨T, x, z, h1, h2, h3, h4, h5⟩ := y
    exact ⟨T, x, z, h1, h2, h3, h4 xs q.1, h5 ys q.2⟩
end Zj
/-! Blocks, loops, comprehensions, said of data. -/
namespace Zj
open PySem PySem.Spec PyProof.Rows L2
structure Good (X : Cx) : Prop where
  nd : X.N.Nodup
  calm : X.calm = true
  ow : PassesOwn (model X.prog X.w) X.A X.env X.xe
  un : X.A.units + 64 < cLine
section
variable {X : Cx} {a : Addr} {ρ : Rho} {N : Rho → Prop} {R : PyData → Prop}
def Run (X : Cx) (a : Addr) (sts : List Stmt) (ρ : Rho) (N : Rho → Prop) (R : PyData → Prop) : Prop := ∀ T σ H D, SD X.K a T H σ ρ → (∀ σ' H' ρ', Same H H' → SD X.K a T H' σ' ρ' → N ρ' → D.nx σ' H') → (∀ v H' d, Same H H' → Dp X.K (off T H') v d → R d → D.rt v H') → JSs X sts D σ H
def RunS (X : Cx) (a : Addr) (st : Stmt) (ρ : Rho) (N : Rho → Prop) (R : PyData → Prop) : Prop := ∀ T σ H D, SD X.K a T H σ ρ → (∀ σ' H' ρ', Same H H' → SD X.K a T H' σ' ρ' → N ρ' → D.nx σ' H') → (∀ v H' d, Same H H' → Dp X.K (off T H') v d → R d → D.rt v H') → JS X st D σ H
variable {st : Stmt} {sts : List Stmt} {e : Expr} {d : PyData} {pos : Pos}
theorem r_nil (h : N ρ) : Run X a [] ρ N R := fun T σ H D S kn kr => toSs pss_nil (kn σ H ρ (Same.refl H) S h)
theorem r_cons (h : RunS X a st ρ (fun ρ' => Run X a sts ρ' N R) R) : Run X a (st :: sts) ρ N R := fun T σ H D S kn kr =>
  toSs (pss_cons js jss) (h T σ H { D with nx := fun σ' H' => JSs X sts D σ' H' } S (fun σ' H' ρ' s S' hN => hN T σ' H' D S' (fun σ2 H2 ρ2 s2 S2 n2 => kn σ2 H2 ρ2 (s.trans s2) S2 n2) fun v H2 d s2 p r => kr v H2 d (s.trans s2) p r) kr)
theorem r_one (h : RunS X a st ρ N R) : Run X a [st] ρ N R := fun T σ H D S kn kr => toSs (pss_one js) (h T σ H D S kn kr)
theorem r_never (h : False) : Run X a sts ρ N R := h.elim
theorem rs_ret (h : EvE X a e ρ d) (hr : R d) : RunS X a (.Return (some e) pos) ρ N R := fun T σ H D S kn kr => toS (ps_ret je) (h T σ H S _ fun v H1 s1 p1 => kr v H1 d s1 p1 hr)
theorem rs_expr (h : EvE X a e ρ d) (hn : N ρ) (hs : swapsWith e none pos.line X.env = pure false := by rfl) : RunS X a (.Expr e pos) ρ N R := fun T σ H D S kn kr => toS (ps_expr je hs) (h T σ H S _ fun v H1 s1 p1 => kn σ H1 ρ s1 (S.same s1) hn)
theorem rs_set {i : Nat} {x : Str} {pos' : Pos} (G : Good X) (h : EvE X a e ρ d) (hn : N (ρ.set i (some (.dat d)))) (hi : X.N[i]? = some x := by rfl) (hx : Loc X.env.scope x := by first | exact Or.inl rfl | exact Or.inr rfl)
    (hs : swapsWith e (some (.Name x pos')) pos.line X.env = pure false := by rfl) (hf : X.fn x = true ∨ X.env.scope.names.lookup x = some .local := by first | exact .inl rfl | exact .inr rfl) : RunS X a (.Assign [.Name x pos'] e pos) ρ N R := fun T σ H D S kn kr =>
  toS (ps_set G.nd hi hx je hs hf) (h T σ H S _ fun v H1 s1 p1 => kn _ H1 _ s1 ((S.same s1).put (x := .dat d) p1) hn)
theorem rs_if {c : Expr} {b : Bool} {body orelse : List Stmt} (hc : EvT X a c ρ b) (h1 : b = true → Run X a body ρ N R) (h2 : b = false → Run X a orelse ρ N R) : RunS X a (.If c body orelse pos) ρ N R := fun T σ H D S kn kr =>
  toS (ps_if jt jss jss) (hc T σ H S _ fun H1 s1 => by
    cases b with
    | true => exact iteT (h1 rfl T σ H1 D (S.same s1) (fun σ2 H2 ρ2 s2 S2 n2 => kn σ2 H2 ρ2 (s1.trans s2) S2 n2) fun v H2 d s2 p r => kr v H2 d (s1.trans s2) p r)
    | false => exact iteF (h2 rfl T σ H1 D (S.same s1) (fun σ2 H2 ρ2 s2 S2 n2 => kn σ2 H2 ρ2 (s1.trans s2) S2 n2) fun v H2 d s2 p r => kr v H2 d (s1.trans s2) p r))
/-- two plain local names at once -/
theorem rs_par {i j : Nat} {x y : Str} {e1 e2 : Expr} {px py pt : Pos} {kt k2 pt2} {d1 d2 : PyData} (G : Good X) (h : EvA X a [e1, e2] ρ [d1, d2]) (hn : N ((ρ.set i (some (.dat d1))).set j (some (.dat d2)))) (hi : X.N[i]? = some x := by rfl) (hj : X.N[j]? = some y := by rfl) (hij : i ≠ j := by decide)
    (hx : X.env.scope.names.lookup x = some .local := by rfl) (hy : X.env.scope.names.lookup y = some .local := by rfl)
    (hw : swappedStores [.Tuple [.Name x px, .Name y py] kt pt] (.Tuple [e1, e2] k2 pt2) X.env = pure (some [x, y]) := by rfl)
    (hs : swapsWithSole [.Tuple [.Name x px, .Name y py] kt pt] (.Tuple [e1, e2] k2 pt2) pos.line X.env = pure false := by rfl) :
    RunS X a (.Assign [.Tuple [.Name x px, .Name y py] kt pt] (.Tuple [e1, e2] k2 pt2) pos) ρ N R := fun T σ H D S kn kr =>
  toS (ps_par G.calm G.nd hi hj hij hx hy ja hw hs) (h T σ H S _ fun vs H1 s1 p1 => by
    obtain ⟨v, v', rfl, q1, q2⟩ := dps2 p1
    exact ⟨v, v', rfl, kn _ H1 _ s1 (((S.same s1).put (x := .dat d1) q1).put (x := .dat d2) q2) hn⟩)
/-- a target of two or three names, from a tuple -/
theorem rs_asg {tg : Expr} {g : TG} {ρ' : Rho} (h : EvE X a e ρ d) (hg : PG X tg g) (ht : ∀ T σ H v, SD X.K a T H σ ρ → Dp X.K (off T H) v d → ∀ Q : L2.St → Hp → Prop, (∀ σ', SD X.K a T H σ' ρ' → Q σ' H) → g v σ H Q) (hn : N ρ')
    (hs : swapsWithSole [tg] e pos.line X.env = pure false := by rfl) (hw : swappedStores [tg] e X.env = pure none := by rfl) (h1 : (assignEach [tg] X.env).map (·.2) = [assign tg X.env] := by rfl) : RunS X a (.Assign [tg] e pos) ρ N R := fun T σ H D S kn kr =>
  toS (ps_asg je hg hs hw h1) (h T σ H S _ fun v H1 s1 p1 => ht T σ H1 v (S.same s1) p1 _ fun σ' S' => kn σ' H1 ρ' s1 S' hn)
theorem rs_while {c : Expr} {body : List Stmt} (G : Good X) (W : Nat → Rho → Prop) (m0 : Nat) (h0 : W m0 ρ)
    (hs : ∀ m ρ', W m ρ' → ∃ b, EvT X a c ρ' b ∧ (b = true → Run X a body ρ' (fun ρ2 => ∃ m', m' < m ∧ W m' ρ2) R) ∧ (b = false → N ρ')) : RunS X a (.While c body [] pos) ρ N R := fun T σ H D S kn kr =>
  toS (ps_while G.ow jt jss) ⟨fun m σ' H' => Same H H' ∧ ∃ ρ', SD X.K a T H' σ' ρ' ∧ W m ρ', ⟨m0, Same.refl H, ρ, S, h0⟩, fun m σ' H' hW => by
    obtain ⟨s1, ρ', S', w⟩ := hW
    obtain ⟨b, hb, k1, k2⟩ := hs m ρ' w
    refine hb T σ' H' S' _ fun H2 s2 => ?_
    cases b with
    | true =>
      refine iteT ⟨fun σ3 H3 => ∃ m', m' < m ∧ (Same H H3 ∧ ∃ ρ', SD X.K a T H3 σ3 ρ' ∧ W m' ρ'), fun _ _ q => q, ?_⟩
      exact k1 rfl T σ' H2 _ (S'.same s2) (fun σ3 H3 ρ3 s3 S3 ⟨m', hm, w'⟩ => ⟨m', hm, (s1.trans s2).trans s3, ρ3, S3, w'⟩) fun v H3 d s3 p r => kr v H3 d ((s1.trans s2).trans s3) p r
    | false => exact iteF (kn σ' H2 ρ' (s1.trans s2) (S'.same s2) (k2 rfl))⟩
end

/-! ### what is walked -/
section
variable {X : Cx} {a : Addr} {ρ : Rho} {tg it e e2 : Expr} {es : List Expr} {ds items : List PyData} {p pos : Pos}
/-- from H1 on, T out of sight, what was in sight stays in sight -/
def Sees (T : Addr → Prop) (H1 : Hp) (T' : Addr → Prop) (H' : Hp) : Prop := Din T' H' ∧ Same (off T H1) (off T' H')
def Src (X : Cx) (a : Addr) (tg it : Expr) (ρ : Rho) (items : List PyData) : Prop := ∃ wi, PI X tg it wi ∧ ∀ T σ H, SD X.K a T H σ ρ → ∀ R : It → Hp → Prop,
  (∀ J H1 (Gd : Hp → Prop) Y, Same H H1 → Walk J items.length Gd Y → (∀ T' H', Sees T H1 T' H' → Gd H') →
    (∀ T' i H' x H'', i < items.length → Sees T H1 T' H' → Y i H' x H'' → Same H' H'' ∧ ∃ d, items[i]? = some d ∧ Dp X.K (off T' H'') x d) → R J H1) → wi σ H R
theorem src_L (h : EvE X a e ρ (.list ds)) : Src X a tg e ρ ds := ⟨_, pi_list je, fun T σ H S R k => h T σ H S _ fun v H1 s1 p1 => by
  obtain ⟨pa, xs, rfl, g1, g2⟩ := dp_lst p1
  have hl := dps_len g2
  refine ⟨pa, rfl, ⟨xs, same_l off_in _ _ g1⟩, k _ H1 (fun H => SqL X.K H pa xs) (YAt xs) s1 (by rw [← hl]; exact walk_list) (fun T' H' s => same_l off_in _ _ (same_l s.2 _ _ g1)) fun T' i H' x H'' hin s y => ?_⟩
  obtain ⟨rfl, hx⟩ := y
  obtain ⟨d, hd⟩ : ∃ d, ds[i]? = some d := by
    have := (List.getElem?_eq_some_iff.mp hx).1
    exact ⟨ds[i]'(by omega), by simp⟩
  obtain ⟨v, hv, pv⟩ := dps_get g2 hd
  rw [hx] at hv
  cases hv
  exact ⟨Same.refl _, d, hd, dp_same s.2 pv⟩⟩
theorem src_T (h : EvE X a e ρ (.tuple ds)) : Src X a tg e ρ ds := ⟨_, pi_tup je, fun T σ H S R k => h T σ H S _ fun v H1 s1 p1 => by
  obtain ⟨pa, xs, rfl, g1, g2⟩ := dp_tup p1
  have hl := dps_len g2
  refine ⟨pa, rfl, ⟨xs, same_t off_in _ _ g1⟩, k _ H1 (fun H => SqT X.K H pa xs) (YAt xs) s1 (by rw [← hl]; exact walk_tup) (fun T' H' s => same_t off_in _ _ (same_t s.2 _ _ g1)) fun T' i H' x H'' hin s y => ?_⟩
  obtain ⟨rfl, hx⟩ := y
  obtain ⟨d, hd⟩ : ∃ d, ds[i]? = some d := by
    have := (List.getElem?_eq_some_iff.mp hx).1
    exact ⟨ds[i]'(by omega), by simp⟩
  obtain ⟨v, hv, pv⟩ := dps_get g2 hd
  rw [hx] at hv
  cases hv
  exact ⟨Same.refl _, d, hd, dp_same s.2 pv⟩⟩
/-- the whole numbers below n -/
def upTo (n : Nat) : List PyData := (List.range n).map fun (i : Nat) => PyData.int (i : Int)
theorem src_R {n : Int} (h : EvA X a [e] ρ [.int n]) (hn : n < 2 ^ 62) (h0 : -(2 ^ 62) ≤ n) (hm : X.mg "range" = none) (hg : Gl X "range" := by rfl) (hs : starEach [e] X.env = [(false, eval e X.env)] := by rfl) :
    Src X a tg (.Call (.Name "range" p) [e] [] pos) ρ (upTo n.toNat) := ⟨_, pi_range1 hg hm ja hs, fun T σ H S R k => h T σ H S _ fun vs H1 s1 p1 => by
  obtain ⟨v, rfl, q⟩ := dps1 p1
  refine ⟨n, by rw [dp_int q], h0, hn, k _ H1 _ _ s1 (by rw [show (upTo n.toNat).length = n.toNat by simp [upTo]]; exact walk_range) (fun _ _ _ => trivial) fun T' i H' x H'' hin s y => ?_⟩
  obtain ⟨rfl, rfl⟩ := y
  have hi : i < n.toNat := by simpa [upTo] using hin
  refine ⟨Same.refl _, .int (i : Int), ?_, ?_⟩
  · unfold upTo
    rw [List.getElem?_map, List.getElem?_range hi] <;> rfl
  · have e : V.int ((0 : Int) + (i : Int)) = V.int (i : Int) := by rw [Int.zero_add]
    show Dp X.K (off T' H'') (V.int ((0 : Int) + (i : Int))) (.int (i : Int))
    rw [e]
    exact .int _⟩
theorem dpo_pair {K : PySem.W.Frag} {T : Addr → Prop} {H : Hp} {q : Addr} {x y : V} {d1 d2 : PyData} (t : Din T H) (hq : H q = none) (h1 : Dp K (off T H) x d1) (h2 : Dp K (off T H) y d2) : Dp K (off T (upd H q (.tup [x, y]))) (.ref q) (.tuple [d1, d2]) :=
  dpo_newT t hq (.cons h1 (.cons h2 .nil))
/-- each with its number -/
def numbered (ds : List PyData) : List PyData := (List.range ds.length).map fun (i : Nat) => PyData.tuple [.int (i : Int), ds.getD i .none]
theorem numbered_get {i : Nat} {d : PyData} (h : ds[i]? = some d) : (numbered ds)[i]? = some (.tuple [.int (i : Int), d]) := by
  have hi := (List.getElem?_eq_some_iff.mp h).1
  unfold numbered
  rw [List.getElem?_map, List.getElem?_range hi]
  show some (PyData.tuple [.int (i : Int), ds.getD i .none]) = _
  rw [List.getD_eq_getElem?_getD, h] <;> rfl
theorem src_ET {elts : List Expr} {kk : Nat} {tpos : Pos} (h : EvA X a [e] ρ [.tuple ds]) (hm : X.mg "enumerate" = none) (hg : Gl X "enumerate" := by rfl) (hs : starEach [e] X.env = [(false, eval e X.env)] := by rfl) :
    Src X a (.Tuple elts kk tpos) (.Call (.Name "enumerate" p) [e] [] pos) ρ (numbered ds) := ⟨_, pi_enumT hg hm ja hs, fun T σ H S R k => h T σ H S _ fun vs H1 s1 p1 => by
  obtain ⟨v, rfl, q⟩ := dps1 p1
  obtain ⟨pa, xs, rfl, g1, g2⟩ := dp_tup q
  have hl := dps_len g2
  refine ⟨pa, xs, rfl, same_t off_in _ _ g1, k _ H1 _ _ s1 (by rw [show (numbered ds).length = xs.length by simp [numbered, hl]]; exact walk_enumT) (fun T' H' s => same_t off_in _ _ (same_t s.2 _ _ g1)) fun T' i H' x H'' hin s y => ?_⟩
  obtain ⟨T0, y1, y2, rfl, hT, rfl, e1, e2⟩ := y
  have e2 : xs[i]? = some y2 := e2
  cases e1
  obtain ⟨d, hd⟩ : ∃ d, ds[i]? = some d := by
    have := (List.getElem?_eq_some_iff.mp e2).1
    exact ⟨ds[i]'(by omega), by simp⟩
  obtain ⟨v, hv, pv⟩ := dps_get g2 hd
  rw [e2] at hv
  cases hv
  exact ⟨same_new hT, _, numbered_get hd, dpo_pair s.1 hT (.int _) (dp_same s.2 pv)⟩⟩
theorem src_ZT {elts : List Expr} {kk : Nat} {tpos : Pos} {ds2 : List PyData} (h : EvA X a [e, e2] ρ [.tuple ds, .tuple ds2]) (hm : X.mg "zip" = none) (hg : Gl X "zip" := by rfl)
    (hs : starEach [e, e2] X.env = (false, eval e X.env) :: starEach [e2] X.env := by rfl) (hpl : (backTo pos (starEach [e2] X.env)).any (·.1) = false := by rfl) :
    Src X a (.Tuple elts kk tpos) (.Call (.Name "zip" p) [e, e2] [] pos) ρ (List.zipWith (fun x y => PyData.tuple [x, y]) ds ds2) := ⟨_, RZ.pi_zipA hg hm ja hs hpl, fun T σ H S R k => h T σ H S _ fun vs H1 s1 p1 => by
  obtain ⟨v, v2, rfl, q, q2⟩ := dps2 p1
  obtain ⟨pa, xs, rfl, g1, g2⟩ := dp_tup q
  obtain ⟨pb, ys, rfl, g3, g4⟩ := dp_tup q2
  have hl := dps_len g2
  have hl2 := dps_len g4
  refine ⟨pa, pb, xs, ys, rfl, .inr ⟨same_t off_in _ _ g1, same_t off_in _ _ g3, k _ H1 _ _ s1 (walk_zipT (xs := xs) (ys := ys) (by rw [List.length_zipWith, hl, hl2])) (fun T' H' s => ⟨same_t off_in _ _ (same_t s.2 _ _ g1), same_t off_in _ _ (same_t s.2 _ _ g3)⟩) fun T' i H' x H'' hin s y => ?_⟩⟩
  obtain ⟨T0, y1, y2, rfl, hT, rfl, e1, e2⟩ := y
  have e1 : xs[i]? = some y1 := e1
  have e2 : ys[i]? = some y2 := e2
  obtain ⟨d, hd⟩ : ∃ d, ds[i]? = some d := by
    have := (List.getElem?_eq_some_iff.mp e1).1
    exact ⟨ds[i]'(by omega), by simp⟩
  obtain ⟨d2, hd2⟩ : ∃ d, ds2[i]? = some d := by
    have := (List.getElem?_eq_some_iff.mp e2).1
    exact ⟨ds2[i]'(by omega), by simp⟩
  obtain ⟨v, hv, pv⟩ := dps_get g2 hd
  rw [e1] at hv
  cases hv
  obtain ⟨v2, hv2, pv2⟩ := dps_get g4 hd2
  rw [e2] at hv2
  cases hv2
  exact ⟨same_new hT, _, by rw [List.getElem?_zipWith, hd, hd2], dpo_pair s.1 hT (dp_same s.2 pv) (dp_same s.2 pv2)⟩⟩
end
/-! ### targets -/
def TgSem (K : PySem.W.Frag) (a : Addr) (g : TG) (vs : List Nat) (f : PyData → Rho → Option Rho) : Prop := ∀ T σ H v d ρ ρ', SD K a T H σ ρ → Dp K (off T H) v d → f d ρ = some ρ' → ∀ Q : L2.St → Hp → Prop, (∀ σ', SD K a T H σ' ρ' → L2.wipe σ' vs = L2.wipe σ vs → Q σ' H) → g v σ H Q
theorem wipe_get (σ : L2.St) (k : Nat) : ∀ vs : List Nat, (L2.wipe σ vs)[k]? = if k ∈ vs then (if k < σ.length then some none else none) else σ[k]?
  | [] => by rw [if_neg (by simp)]; rfl
  | v :: vs => by
    unfold L2.wipe
    have ih := wipe_get σ k vs
    have hl := wipe_length σ vs
    by_cases hv : v = k
    · subst hv
      rw [if_pos (by simp)]
      by_cases hk : v < σ.length
      · rw [if_pos hk, List.getElem?_set_self (by rw [hl]; exact hk)]
      · rw [if_neg hk]
        exact List.getElem?_eq_none (by rw [List.length_set, hl]; omega)
    · rw [List.getElem?_set_ne hv, ih]
      by_cases hm : k ∈ vs
      · have h1 : k ∈ v :: vs := List.mem_cons_of_mem _ hm
        rw [if_pos hm, if_pos h1]
      · have h1 : ¬ k ∈ v :: vs := fun z => by
          rcases List.mem_cons.mp z with z | z
          · exact hv z.symm
          · exact hm z
        rw [if_neg hm, if_neg h1]
theorem wipe_set {σ : L2.St} {j : Nat} {x : Option V} {vs : List Nat} (h : j ∈ vs) : L2.wipe (σ.set j x) vs = L2.wipe σ vs := by
  apply List.ext_getElem?
  intro k
  rw [wipe_get, wipe_get, List.length_set]
  by_cases hk : k ∈ vs
  · rw [if_pos hk, if_pos hk]
  · rw [if_neg hk, if_neg hk, List.getElem?_set_ne (fun z => hk (by rw [← z]; exact h))]
def fName (i : Nat) : PyData → Rho → Option Rho := fun d ρ => some (ρ.set i (some (.dat d)))
def fPair (i j : Nat) : PyData → Rho → Option Rho := fun d ρ => match d with
  | .tuple [x, y] => some ((ρ.set i (some (.dat x))).set j (some (.dat y)))
  | _ => none
section
variable {K : PySem.W.Frag} {a : Addr}
theorem tg_name {i : Nat} {vs : List Nat} (h : i ∈ vs) : TgSem K a (gName i) vs (fName i) := fun T σ H v d ρ ρ' S p e Q q => by
  cases e
  exact q _ (S.put (x := .dat d) p) (wipe_set h)
theorem tg_pair {i j : Nat} {vs : List Nat} (h : i ∈ vs) (h2 : j ∈ vs) : TgSem K a (gTup K 2 (gCons (gName i) (gCons (gName j) gNil))) vs (fPair i j) := fun T σ H v d ρ ρ' S p e Q q => by
  unfold fPair at e
  split at e
  · rename_i x y
    cases e
    obtain ⟨pa, xs, rfl, g1, g2⟩ := dpo_tup p
    obtain ⟨v1, v2, rfl, q1, q2⟩ := dps2 g2
    refine ⟨pa, _, rfl, g1, rfl, v1, _, rfl, v2, _, rfl, rfl, q _ ((S.put (x := .dat x) q1).put (x := .dat y) q2) ?_⟩
    rw [wipe_set h2, wipe_set h]
  · cases e
end
/-! ### for -/
section
variable {X : Cx} {a : Addr} {ρ : Rho} {N : Rho → Prop} {R : PyData → Prop} {tg it : Expr} {items : List PyData} {pos : Pos} {body : List Stmt} {g : TG} {vs : List Nat} {f : PyData → Rho → Option Rho}
theorem Sees.refl {T : Addr → Prop} {H : Hp} (d : Din T H) : Sees T H T H := ⟨d, Same.refl _⟩
theorem Sees.same {T : Addr → Prop} {H H' : Hp} (d : Din T H) (s : Same H H') : Sees T H T H' := ⟨d.same s, off_same s⟩
theorem rs_for (G : Good X) (hs : Src X a tg it ρ items) (hg : PG X tg g) (ht : TgSem X.K a g vs f) (J : Nat → Rho → Prop) (h0 : J 0 ρ)
    (hb : ∀ n d ρ1, items[n]? = some d → J n ρ1 → ∃ ρ2, f d ρ1 = some ρ2 ∧ Run X a body ρ2 (J (n + 1)) R) (hd : ∀ ρ', J items.length ρ' → N ρ')
    (hf : ∀ x, foldedSetIterable it X.env x = pure x := by intro _; rfl) : RunS X a (.For tg it body [] pos) ρ N R := fun T σ H D S kn kr => by
  obtain ⟨wi, hw, hq⟩ := hs
  refine toS (ps_for G.ow G.calm hw hg jss hf) (hq T σ H S _ fun Ji H1 Gd Y s1 w hG hY => ?_)
  refine for_it w (fun n σ' H' => Same H1 H' ∧ ∃ ρ', SD X.K a T H' σ' ρ' ∧ J n ρ') ⟨Same.refl H1, ρ, S.same s1, h0⟩ (fun i σ' H' _ hp => hG T H' (.same (S.same s1).dm hp.1)) (fun i x σ' H' H'' hi hp y => ?_) fun σ' H' hp => ?_
  · obtain ⟨s2, ρ', S', hj⟩ := hp
    obtain ⟨s3, d, hdi, pd⟩ := hY T i H' x H'' hi (.same (S.same s1).dm s2) y
    obtain ⟨ρ2, e2, hrun⟩ := hb i d ρ' hdi hj
    refine ht T σ' H'' x d ρ' ρ2 (S'.same s3) pd e2 _ fun σ2 S2 _ => ?_
    exact hrun T σ2 H'' _ S2 (fun σ3 H3 ρ3 s4 S3 n3 => ⟨(s2.trans s3).trans s4, ρ3, S3, n3⟩) fun v H3 d s4 p r => kr v H3 d (((s1.trans s2).trans s3).trans s4) p r
  · obtain ⟨s2, ρ', S', hj⟩ := hp
    exact kn σ' H' ρ' (s1.trans s2) S' (hd ρ' hj)
end
/-! ### comprehensions -/
section
variable {X : Cx} {a : Addr} {ρ : Rho} {N : Rho → Prop} {R : PyData → Prop} {tg it elt c : Expr} {ifs : List Expr} {scope : Scope} {own : List (Str × Nat)} {items : List PyData} {pos : Pos} {g : TG} {f : PyData → Rho → Option Rho}
/-- in every block that the comprehension may run in -/
def JEb (X : Cx) (scope : Scope) (e : Expr) : TE := fun σ H Q => ∀ s H0 C cl fp, JE (X.blk s H0 scope (compEnvC scope cl C X.env) fp) e σ H Q
def JTb (X : Cx) (scope : Scope) (e : Expr) : TT := fun σ H Q => ∀ s H0 C cl fp, JT (X.blk s H0 scope (compEnvC scope cl C X.env) fp) e σ H Q
def EvEb (X : Cx) (scope : Scope) (a : Addr) (e : Expr) (ρ : Rho) (d : PyData) : Prop := ∀ s H0 C cl fp, EvE (X.blk s H0 scope (compEnvC scope cl C X.env) fp) a e ρ d
def EvTb (X : Cx) (scope : Scope) (a : Addr) (e : Expr) (ρ : Rho) (b : Bool) : Prop := ∀ s H0 C cl fp, EvT (X.blk s H0 scope (compEnvC scope cl C X.env) fp) a e ρ b
/-- what a list that is being filled holds so far -/
def Fill (K : PySem.W.Frag) (T : Addr → Prop) (H1 : Hp) (D : Addr) (ds : List PyData) (H' : Hp) : Prop := H1 D = none ∧ (∀ b o, H1 b = some o → H' b = some o) ∧ ∃ acc, H' D = some (.lst acc) ∧ DpAll K (off (fun b => T b ∨ b = D) H') acc ds
theorem Fill.sees {K : PySem.W.Frag} {T : Addr → Prop} {H1 H' : Hp} {D : Addr} {ds : List PyData} (t : Din T H1) (h : Fill K T H1 D ds H') : Sees T H1 (fun b => T b ∨ b = D) H' := by
  obtain ⟨h1, h2, acc, h3, h4⟩ := h
  refine ⟨fun b hb => ?_, fun b o ho => ?_⟩
  · rcases hb with hb | hb
    · exact (t.same h2) b hb
    · rw [hb, h3]
      simp
  · obtain ⟨q1, q2⟩ := off_some ho
    rw [off_no (fun z => z.elim q2 fun z => by rw [z, h1] at q1; cases q1)]
    exact h2 b o q1
theorem Fill.same {K : PySem.W.Frag} {T : Addr → Prop} {H1 H' H'' : Hp} {D : Addr} {ds : List PyData} (h : Fill K T H1 D ds H') (s : Same H' H'') : Fill K T H1 D ds H'' := by
  obtain ⟨h1, h2, acc, h3, h4⟩ := h
  exact ⟨h1, fun b o e => s b o (h2 b o e), acc, s _ _ h3, dpso s h4⟩
theorem Fill.done {K : PySem.W.Frag} {T : Addr → Prop} {H1 H' : Hp} {D : Addr} {ds : List PyData} (h : Fill K T H1 D ds H') (hT : ¬ T D) : Same H1 H' ∧ Dp K (off T H') (.ref D) (.list ds) := by
  obtain ⟨h1, h2, acc, h3, h4⟩ := h
  exact ⟨h2, .lst (.of (by rw [off_no hT]; exact h3)) (dps_same off_less h4)⟩
theorem Fill.add {K : PySem.W.Frag} {T : Addr → Prop} {H1 H' : Hp} {D : Addr} {ds : List PyData} {d : PyData} {y : V} {acc : List V} (h1 : H1 D = none) (h2 : ∀ b o, H1 b = some o → H' b = some o)
    (h4 : DpAll K (off (fun b => T b ∨ b = D) H') acc ds) (hy : Dp K (off (fun b => T b ∨ b = D) H') y d) : Fill K T H1 D (ds ++ [d]) (upd H' D (.lst (acc ++ [y]))) := by
  refine ⟨h1, fun b o e => ?_, acc ++ [y], upd_same, ?_⟩
  · rw [upd_ne (fun z => by rw [z, h1] at e; cases e)]
    exact h2 b o e
  · rw [off_put (.inr rfl)]
    exact dps_snoc h4 hy
def kept (keep : PyData → Bool) (val : PyData → PyData) (items : List PyData) : List PyData := (items.filter keep).map val
theorem kept_succ {keep : PyData → Bool} {val : PyData → PyData} {i : Nat} {d : PyData} (h : items[i]? = some d) : kept keep val (items.take (i + 1)) = if keep d then kept keep val (items.take i) ++ [val d] else kept keep val (items.take i) := by
  unfold kept
  rw [List.take_add_one, h]
  simp only [Option.toList_some, List.filter_append, List.map_append]
  cases hk : keep d with
  | true => rw [if_pos rfl, List.filter_cons_of_pos hk] <;> rfl
  | false =>
    rw [List.filter_cons_of_neg (by rw [hk]; exact Bool.false_ne_true)]
    show _ ++ ([] : List PyData) = _
    rw [List.append_nil] <;> rfl
theorem kept_len {keep : PyData → Bool} {val : PyData → PyData} : (kept keep val items).length ≤ items.length := by
  unfold kept
  rw [List.length_map]
  exact List.length_filter_le _ _
/-- the reading of a comprehension, from its turns -/
theorem lc_read {wi : TI} {tt : TT} {te : TE} {vs : List Nat} {keep : PyData → Bool} {val : PyData → PyData} {T : Addr → Prop} {σ : L2.St} {H : Hp} {Q : VK} (S : SD X.K a T H σ ρ) (hz : items.length < 100000)
    (hq : ∀ R : It → Hp → Prop,
  (∀ J H1 (Gd : Hp → Prop) Y, Same H H1 → Walk J items.length Gd Y → (∀ T' H', Sees T H1 T' H' → Gd H') →
    (∀ T' i H' x H'', i < items.length → Sees T H1 T' H' → Y i H' x H'' → Same H' H'' ∧ ∃ d, items[i]? = some d ∧ Dp X.K (off T' H'') x d) → R J H1) → wi σ H R)
    (ht : TgSem X.K a g vs f)
    (hb : ∀ d, d ∈ items → ∃ ρ2, f d (wipeR ρ vs) = some ρ2 ∧ (∀ T σ H, SD X.K a T H σ ρ2 → ∀ Q : Bool → Hp → Prop, (∀ H2, Same H H2 → Q (keep d) H2) → tt σ H Q) ∧
      (keep d = true → ∀ T σ H, SD X.K a T H σ ρ2 → ∀ Q : VK, (∀ v H2, Same H H2 → Dp X.K (off T H2) v (val d) → Q v H2) → te σ H Q))
    (k : ∀ v H2, Same H H2 → Dp X.K (off T H2) v (.list (kept keep val items)) → Q v H2) : tLc wi g tt te vs σ H Q := by
  refine hq _ fun J H1 Gd Y s1 w hG hY => ?_
  intro D hD
  have S1 := S.same s1
  have nD : ¬ T D := fun z => S1.dm D z hD
  refine lc_it w (fun n H' => Fill X.K T H1 D (kept keep val (items.take n)) H') ⟨hD, fun b o e => by rw [upd_ne (ne_of_none e hD)]; exact e, [], upd_same, .nil⟩
    (fun i H' _ p => hG _ H' (p.sees S1.dm)) (fun i x H' H'' hi p y => ?_) fun H' p => ?_
  · have sees := p.sees S1.dm
    obtain ⟨s3, d, hdi, pd⟩ := hY _ i H' x H'' hi sees y
    obtain ⟨ρ2, e2, k1, k2⟩ := hb d (List.mem_of_getElem? hdi)
    have p' := p.same s3
    have sees' := p'.sees S1.dm
    have S2 : SD X.K a (fun b => T b ∨ b = D) H'' (L2.wipe σ vs) (wipeR ρ vs) := ⟨(S1.wipe vs).len, sees'.1, fun j z e => by
      obtain ⟨v, q1, q2⟩ := (S1.wipe vs).sl j z e
      refine ⟨v, q1, ?_⟩
      cases z with
      | dat d => exact dp_same sees'.2 q2
      | hnd => exact q2⟩
    refine ht _ _ H'' x d _ ρ2 S2 pd e2 _ fun σ2 S3 hw => ⟨?_, ?_⟩
    · rw [hw]
      apply List.ext_getElem?
      intro n
      rw [wipe_get, wipe_get, wipe_length]
      by_cases hn : n ∈ vs
      · rw [if_pos hn, if_pos hn]
      · rw [if_neg hn, if_neg hn]
    · refine k1 _ σ2 H'' S3 _ fun H3 s4 => ?_
      rw [kept_succ hdi]
      cases hk : keep d with
      | false => exact iteF (p'.same s4)
      | true =>
        refine iteT (k2 hk _ σ2 H3 (S3.same s4) _ fun y H4 s5 py => ?_)
        obtain ⟨h1, h2, acc, h3, h4⟩ := (p'.same s4).same s5
        refine ⟨acc, h3, ?_, .add h1 h2 h4 py⟩
        have := dps_len h4
        have := kept_len (keep := keep) (val := val) (items := items.take i)
        have := List.length_take_le i items
        exact Nat.lt_of_lt_of_le (show acc.length < 100000 by omega) (by decide)
  · rw [List.take_length] at p
    obtain ⟨q1, q2⟩ := p.done nD
    exact k _ H' (s1.trans q1) q2
theorem e_lc {keep : PyData → Bool} {val : PyData → PyData} (G : Good X) (hs : Src X a tg it ρ items) (hz : items.length < 100000) (ok : BlkOk X.N X.env.scope scope own)
    (hg : ∀ (s : Shared) (H : Hp) (C : Addr) (cl : List (Str × Addr)) (fp : List Addr), PG (X.blk s H scope (compEnvC scope cl C X.env) fp) tg g) (ht : TgSem X.K a g (own.map (·.2)) f)
    (hb : ∀ d, d ∈ items → ∃ ρ2, f d (wipeR ρ (own.map (·.2))) = some ρ2 ∧ EvTb X scope a c ρ2 (keep d) ∧ (keep d = true → EvEb X scope a elt ρ2 (val d)))
    (hf : ∀ x, foldedSetIterable it X.env x = pure x := by intro _; rfl) : EvE X a (.ListComp elt [⟨tg, it, [c], 0⟩] scope pos) ρ (.list (kept keep val items)) := fun T σ H S Q q => by
  obtain ⟨wi, hw, hq⟩ := hs
  refine toE (pe_lc (own := own) (te := JEb X scope elt) (tt := JTb X scope c) G.calm G.nd hw ok hg (fun s H0 C cl fp => pts_one ⟨fun pins s' σ' H' Q' I h => h s H0 C cl fp pins s' I⟩) (fun s H0 C cl fp => ⟨fun pins s' σ' H' Q' I h => h s H0 C cl fp pins s' I⟩) hf) ?_
  refine lc_read (f := f) S hz (hq T σ H S) ht (fun d hd => ?_) q
  obtain ⟨ρ2, e, k1, k2⟩ := hb d hd
  exact ⟨ρ2, e, fun T σ H S Q q s H0 C cl fp => k1 s H0 C cl fp T σ H S Q q, fun hk T σ H S Q q s H0 C cl fp => k2 hk s H0 C cl fp T σ H S Q q⟩
def yes (_ : PyData) : Bool := true
theorem kept_yes {val : PyData → PyData} : kept yes val items = items.map val := by
  unfold kept
  rw [List.filter_eq_self.mpr (show ∀ z ∈ items, yes z = true from fun _ _ => rfl)]
theorem e_lc0 {val : PyData → PyData} (G : Good X) (hs : Src X a tg it ρ items) (hz : items.length < 100000) (ok : BlkOk X.N X.env.scope scope own)
    (hg : ∀ (s : Shared) (H : Hp) (C : Addr) (cl : List (Str × Addr)) (fp : List Addr), PG (X.blk s H scope (compEnvC scope cl C X.env) fp) tg g) (ht : TgSem X.K a g (own.map (·.2)) f)
    (hb : ∀ d, d ∈ items → ∃ ρ2, f d (wipeR ρ (own.map (·.2))) = some ρ2 ∧ EvEb X scope a elt ρ2 (val d))
    (hf : ∀ x, foldedSetIterable it X.env x = pure x := by intro _; rfl) : EvE X a (.ListComp elt [⟨tg, it, [], 0⟩] scope pos) ρ (.list (items.map val)) := fun T σ H S Q q => by
  obtain ⟨wi, hw, hq⟩ := hs
  refine toE (pe_lc (own := own) (te := JEb X scope elt) (tt := tYes) G.calm G.nd hw ok hg (fun s H0 C cl fp => pts_nil) (fun s H0 C cl fp => ⟨fun pins s' σ' H' Q' I h => h s H0 C cl fp pins s' I⟩) hf) ?_
  rw [← kept_yes] at q
  refine lc_read (f := f) (keep := yes) S hz (hq T σ H S) ht (fun d hd => ?_) q
  obtain ⟨ρ2, e, k2⟩ := hb d hd
  exact ⟨ρ2, e, fun T σ H S Q q => q H (Same.refl H), fun hk T σ H S Q q s H0 C cl fp => k2 s H0 C cl fp T σ H S Q q⟩
theorem rs_lc {i : Nat} {y : Str} {py spos : Pos} {keep : PyData → Bool} {val : PyData → PyData} (G : Good X) (hs : Src X a tg it ρ items) (hz : items.length < 100000) (ok : BlkOk X.N X.env.scope scope own)
    (hg : ∀ (s : Shared) (H : Hp) (C : Addr) (cl : List (Str × Addr)) (fp : List Addr), PG (X.blk s H scope (compEnvC scope cl C X.env) fp) tg g) (ht : TgSem X.K a g (own.map (·.2)) f)
    (hb : ∀ d, d ∈ items → ∃ ρ2, f d (wipeR ρ (own.map (·.2))) = some ρ2 ∧ EvTb X scope a c ρ2 (keep d) ∧ (keep d = true → EvEb X scope a elt ρ2 (val d)))
    (hn : N (ρ.set i (some (.dat (.list (kept keep val items)))))) (hy : X.N[i]? = some y := by rfl) (hyl : X.env.scope.names.lookup y = some .local := by rfl)
    (hsw : swapsWith (.ListComp elt [⟨tg, it, [c], 0⟩] scope pos) (some (.Name y py)) spos.line X.env = pure true := by exact sw_true rfl rfl rfl (by decide +kernel))
    (hf : ∀ x, foldedSetIterable it X.env x = pure x := by intro _; rfl) : RunS X a (.Assign [.Name y py] (.ListComp elt [⟨tg, it, [c], 0⟩] scope pos) spos) ρ N R := fun T σ H D S kn kr => by
  obtain ⟨wi, hw, hq⟩ := hs
  refine toS (ps_setLc (own := own) (te := JEb X scope elt) (tt := JTb X scope c) G.calm G.nd hy hyl hsw hw ok hg (fun s H0 C cl fp => pts_one ⟨fun pins s' σ' H' Q' I h => h s H0 C cl fp pins s' I⟩) (fun s H0 C cl fp => ⟨fun pins s' σ' H' Q' I h => h s H0 C cl fp pins s' I⟩) hf) ?_
  refine lc_read (f := f) S hz (hq T σ H S) ht (fun d hd => ?_) fun v H2 s2 p2 => kn _ H2 _ s2 ((S.same s2).put (x := .dat _) p2) hn
  obtain ⟨ρ2, e, k1, k2⟩ := hb d hd
  exact ⟨ρ2, e, fun T σ H S Q q s H0 C cl fp => k1 s H0 C cl fp T σ H S Q q, fun hk T σ H S Q q s H0 C cl fp => k2 hk s H0 C cl fp T σ H S Q q⟩
theorem rs_lc0 {i : Nat} {y : Str} {py spos : Pos} {val : PyData → PyData} (G : Good X) (hs : Src X a tg it ρ items) (hz : items.length < 100000) (ok : BlkOk X.N X.env.scope scope own)
    (hg : ∀ (s : Shared) (H : Hp) (C : Addr) (cl : List (Str × Addr)) (fp : List Addr), PG (X.blk s H scope (compEnvC scope cl C X.env) fp) tg g) (ht : TgSem X.K a g (own.map (·.2)) f)
    (hb : ∀ d, d ∈ items → ∃ ρ2, f d (wipeR ρ (own.map (·.2))) = some ρ2 ∧ EvEb X scope a elt ρ2 (val d))
    (hn : N (ρ.set i (some (.dat (.list (items.map val)))))) (hy : X.N[i]? = some y := by rfl) (hyl : X.env.scope.names.lookup y = some .local := by rfl)
    (hsw : swapsWith (.ListComp elt [⟨tg, it, [], 0⟩] scope pos) (some (.Name y py)) spos.line X.env = pure true := by exact sw_true rfl rfl rfl (by decide +kernel))
    (hf : ∀ x, foldedSetIterable it X.env x = pure x := by intro _; rfl) : RunS X a (.Assign [.Name y py] (.ListComp elt [⟨tg, it, [], 0⟩] scope pos) spos) ρ N R := fun T σ H D S kn kr => by
  obtain ⟨wi, hw, hq⟩ := hs
  refine toS (ps_setLc (own := own) (te := JEb X scope elt) (tt := tYes) G.calm G.nd hy hyl hsw hw ok hg (fun s H0 C cl fp => pts_nil) (fun s H0 C cl fp => ⟨fun pins s' σ' H' Q' I h => h s H0 C cl fp pins s' I⟩) hf) ?_
  rw [← kept_yes] at hn
  refine lc_read (f := f) (keep := yes) S hz (hq T σ H S) ht (fun d hd => ?_) fun v H2 s2 p2 => kn _ H2 _ s2 ((S.same s2).put (x := .dat _) p2) hn
  obtain ⟨ρ2, e, k2⟩ := hb d hd
  exact ⟨ρ2, e, fun T σ H S Q q => q H (Same.refl H), fun hk T σ H S Q q s H0 C cl fp => k2 s H0 C cl fp T σ H S Q q⟩
end
end Zj
/-! Defs by their blocks; repr of data; defs that want nothing under way of repr. -/
namespace Zj
open PySem PySem.Spec PyProof.Rows L2
section
variable {P : Program} {w : World} {K : PySem.W.Frag} {mg : Str → Option Value} {base : Heap}
/-- a def that hands on data, from its block -/
theorem fnR {x qual : Str} {st : Stmt} {f : Addr} {fd : FuncData} {N ps : List Str} {k : Nat} {R : List PyData → PyData → Prop} (F : Fun K x qual st f fd) (S : FnScope N ps (defScope st)) (hl : ∀ ds d, R ds d → ds.length = ps.length)
    (hb : ∀ (cdv : Value) (A : Around) (outer : List Env) (s : Shared) (H : Hp) (E : XK), Good (cxOf CX0 P w K mg base N qual (defScope st) f cdv A outer s H E).nox → Room k (cxOf CX0 P w K mg base N qual (defScope st) f cdv A outer s H E).nox.A → ∀ ds d, R ds d →
      Run (cxOf CX0 P w K mg base N qual (defScope st) f cdv A outer s H E).nox 0 (defBody st) (dats ds ++ List.replicate (N.length - ds.length) none) (fun _ => d = .none) (fun d' => d' = d)) : FnOk P w K mg base CX0 (k + 1) f fd ps (spR K R) :=
  F.ok S (fun vs H Q E h => by
    obtain ⟨T, ds, d, _, h1, h2, _⟩ := h
    rw [dps_len h1]
    exact hl ds d h2) fun cdv A outer s H vs Q E hr h => by
    obtain ⟨T, ds, d, dm, h1, h2, h3⟩ := h
    refine ⟨_, jss, hb cdv A outer s H E ⟨S.nd, rfl, PassesOwn.never, hr.units⟩ hr ds d h2 T _ H _ (SD.start dm h1) (fun σ' H' ρ' s1 S1 e => ?_) fun v H' d' s1 p e => ?_⟩
    · exact h3 _ H' s1 (by rw [e]; exact .non)
    · subst e
      exact h3 v H' s1 p
end

/-! ### repr -/
mutual
/-- data whose text is no long one -/
def Tm : PyData → Prop
  | .none | .bool _ => True
  | .int i => i.natAbs.log2 < 1920
  | .str x => ∀ c ∈ x.cps.toList, c < 16 ^ 8
  | .list xs | .tuple xs => TmAll xs
  | .dict _ => False
def TmAll : List PyData → Prop
  | [] => True
  | x :: xs => Tm x ∧ TmAll xs
end
mutual
theorem tm_show : ∀ d : PyData, Tm d → d.showable = true ∧ d.hasDict = false ∧ d.leavesShort 2000 = true
  | .none, _ => ⟨by simp only [PyData.showable], by simp only [PyData.hasDict], by simp only [PyData.leavesShort]⟩
  | .bool _, _ => ⟨by simp only [PyData.showable], by simp only [PyData.hasDict], by simp only [PyData.leavesShort]⟩
  | .int i, h => by
    have h : i.natAbs.log2 < 1920 := by simpa only [Tm] using h
    refine ⟨by simp only [PyData.showable]; exact decide_eq_true h, by simp only [PyData.hasDict], ?_⟩
    simp only [PyData.leavesShort, PyData.shown]
    have := int_text_len_1921 h
    exact decide_eq_true (by omega)
  | .str x, h => by
    have h : ∀ c ∈ x.cps.toList, c < 16 ^ 8 := by simpa only [Tm] using h
    refine ⟨by simp only [PyData.showable], by simp only [PyData.hasDict], ?_⟩
    simp only [PyData.leavesShort, List.all_eq_true, decide_eq_true_eq]
    exact h
  | .list xs, h => by
    obtain ⟨h1, h2, h3⟩ := tm_showAll xs (by simpa only [Tm] using h)
    exact ⟨by simpa only [PyData.showable] using h1, by simpa only [PyData.hasDict] using h2, by simpa only [PyData.leavesShort] using h3⟩
  | .tuple xs, h => by
    obtain ⟨h1, h2, h3⟩ := tm_showAll xs (by simpa only [Tm] using h)
    exact ⟨by simpa only [PyData.showable] using h1, by simpa only [PyData.hasDict] using h2, by simpa only [PyData.leavesShort] using h3⟩
  | .dict _, h => by simp only [Tm] at h
theorem tm_showAll : ∀ ds : List PyData, TmAll ds → PyData.showableAll ds = true ∧ PyData.hasDictAll ds = false ∧ PyData.leavesShortAll 2000 ds = true
  | [], _ => ⟨by simp only [PyData.showableAll], by simp only [PyData.hasDictAll], by simp only [PyData.leavesShortAll]⟩
  | x :: xs, h => by
    have h : Tm x ∧ TmAll xs := by simpa only [TmAll] using h
    obtain ⟨a1, a2, a3⟩ := tm_show x h.1
    obtain ⟨b1, b2, b3⟩ := tm_showAll xs h.2
    exact ⟨by simp only [PyData.showableAll, a1, b1, Bool.and_self], by simp only [PyData.hasDictAll, a2, b2, Bool.or_self], by simp only [PyData.leavesShortAll, a3, b3, Bool.and_self]⟩
end
structure Tame (d : PyData) : Prop where
  tm : Tm d
  bk : d.bulk ≤ 8000
  dp : d.depth ≤ 60
theorem Tame.len {d : PyData} (t : Tame d) : d.shown.length ≤ sizeLine := by
  have h := PyData.shown_le_bulk 2000 (by decide) d (tm_show d t.tm).2.2
  have := t.bk
  have e : sizeLine = 16777216 := sizeLine_eq
  have : 2002 * d.bulk ≤ 2002 * 8000 := Nat.mul_le_mul_left _ t.bk
  omega
section
variable {X : Cx} {d : PyData}
theorem call_repr (hg : X.A.guards = some []) (hu : X.A.units + 64 < cLine) : CallR X (.builtin "repr") (fun vs H Q => ∃ v d, vs = [v] ∧ Dp X.K H v d ∧ Tame d ∧ Q (.str d.shown) H) := by
  intro pins s σ H vs us Q I r h
  obtain ⟨v, d, rfl, p, t, q⟩ := h
  obtain ⟨u, rfl, ru⟩ := vals1 r
  have ts := tm_show d t.tm
  have big : ∀ pa : Addr, u = .ref pa → wpAny (model X.prog X.w) X.A (call (.builtin "repr") [u]) (EP X pins σ Q) X.xe s := fun pa e => by
    subst e
    obtain ⟨as, hr⟩ := Dp.reads I d v _ p ru
    refine repr_of_reads' hr ts.1 (PyData.noDict_hsm ts.2.1) hg (by have := t.dp; omega) (fun _ _ e => e) (fun h' u tk hk => ?_) t.len
    exact ⟨.str d.shown, H, I.kept (t' := tk) hk, ⟨u, rfl⟩, q⟩
  cases p with
  | non =>
    cases ru
    exact PySem.P.repr_of_none ⟨.str _, H, I.tok _, ⟨_, rfl⟩, by simpa only [PyData.shown] using q⟩
  | bl b =>
    cases ru
    exact PySem.P.repr_of_bool ⟨.str _, H, I.tok _, ⟨_, rfl⟩, by simpa only [PyData.shown] using q⟩
  | int i =>
    obtain ⟨t', rfl⟩ := ru
    exact PySem.P.repr_of_int (by simpa only [Tm] using t.tm) ⟨.str _, H, I.tok _, ⟨_, rfl⟩, by simpa only [PyData.shown] using q⟩
  | str x =>
    obtain ⟨t', rfl⟩ := ru
    exact PySem.P.repr_of_str ⟨.str _, H, I.tok _, ⟨_, rfl⟩, by simpa only [PyData.shown] using q⟩ (by have := t.len; simpa only [PyData.shown] using this)
  | lst _ _ => exact big _ ru
  | tup _ _ => exact big _ ru
theorem ca_repr (hg : X.A.guards = some []) (hu : X.A.units + 64 < cLine) (t : Tame d) : CaD X (.builtin "repr") [d] (.str d.shown) := ⟨_, call_repr hg hu, fun T vs H dm p Q q => by
  obtain ⟨v, rfl, h⟩ := dps1 p
  exact ⟨v, d, rfl, dp_off h, t, q _ H (Same.refl H) (.str _)⟩⟩
end

/-! ### defs that are called while no repr is under way -/
structure FnG (P : Program) (w : World) (K : PySem.W.Frag) (mg : Str → Option Value) (base : Heap) (CX : CXT) (k : Nat) (f : Addr) (fd : FuncData) (ps : List Str) (sp : Sp) : Prop where
  len : ∀ vs H Q E, sp vs H Q E → vs.length = ps.length
  run : ∀ (A : Around) (outer : List Env) (s : Shared) (H : Hp) (args : Args) (us : List Value) (vs : List V) (Q : VK) (E : XK), A.guards = some [] → Room k A → Env0 P w K mg base A outer s H → BindsTo s fd args (ps.zip us) → Vals vs us → sp vs H Q E →
    codeAny (model P w) A (.call (.ref f) args) (CR CX outer P w H s Q E) s
section
variable {P : Program} {w : World} {K : PySem.W.Frag} {mg : Str → Option Value} {base : Heap} {CX : CXT}
theorem FnG.of {k : Nat} {f : Addr} {fd : FuncData} {ps : List Str} {sp : Sp} (F : FnOk P w K mg base CX k f fd ps sp) : FnG P w K mg base CX k f fd ps sp :=
  ⟨F.len, fun A outer s H args us vs Q E _ hr e0 hb hv hs => F.run A outer s H args us vs Q E hr e0 hb hv hs⟩
theorem fnG {x qual : Str} {st : Stmt} {f : Addr} {fd : FuncData} {N ps : List Str} {k : Nat} {sp : Sp} (F : Fun K x qual st f fd) (S : FnScope N ps (defScope st)) (len : ∀ vs H Q E, sp vs H Q E → vs.length = ps.length)
    (hbody : ∀ (cdv : Value) (A : Around) (outer : List Env) (s : Shared) (H : Hp) (vs : List V) (Q : VK) (E : XK), A.guards = some [] → Room k (A.deeper (envOfC qual (defScope st) s.heap.objs.size f cdv)) → sp vs H Q E →
      JSs (cxOf CX0 P w K mg base N qual (defScope st) f cdv A outer s H E).nox (defBody st) { nx := fun _ H' => Q .non H', rt := Q } (start N vs) H) : FnG P w K mg base CX0 (k + 1) f fd ps sp := by
  obtain ⟨oc, od, kV, doc, pm, an, cdv, ct, osl, rfl, lk, hcd⟩ := F.ex
  refine ⟨len, fun A outer s H args us vs Q E hgd hr e0 hb r hsp => ?_⟩
  have toS : ∀ b o, base.get? b = some o → s.heap.get? b = some o := fun b o e => (e0.bs b o e).1
  have KX : K.In s.heap := e0.mod.kin.keeps toS
  refine codeAny_call_function hr.depth (KX _ _ lk) rfl S.co S.gen rfl (PySem.W.codeRec_of KX hcd) (hb _ _ _ _ ?_)
  refine wpAny_newFunctionEnv_cells S.kind (fun y hy => ?_) fun env he s1 x => ?_
  · rcases S.par y.1 (List.of_mem_zip (show (y.1, y.2) ∈ ps.zip us from hy)).1 with q | q
    · exact .inl q
    · exact .inr ⟨q, PySem.W.cellsFrom_some _ _ _ (.inl q)⟩
  · subst he
    refine ⟨(e0.mod.nolimit.keeps toS).keeps x.toInCall.keep, codeAny_func ?_⟩
    have J0 := inv_start (CX := CX0) (E := E) S hr.hd e0 (len _ _ _ _ hsp) r x
    have body := (jss.nox).run [] s1 (start N vs) H _ J0 (hbody cdv A outer s H vs Q E hgd (hr.deeper _) hsp)
    refine wpAny_mono body (fun fl s' hs => ?_) fun e s' hs => hs
    cases fl with
    | ret u =>
      obtain ⟨v, σ', H', J, rv, q⟩ := hs
      exact ⟨v, H', J.os, J.bare, J.base, J.hok, rv, q⟩
    | next =>
      obtain ⟨σ', H', J, q⟩ := hs
      exact ⟨.non, H', J.os, J.bare, J.base, J.hok, rfl, q⟩
    | brk =>
      obtain ⟨_, _, _, q⟩ := hs
      exact q.elim
    | cont =>
      obtain ⟨_, _, _, q⟩ := hs
      exact q.elim
end
structure CalG (P : Program) (w : World) (K : PySem.W.Frag) (mg : Str → Option Value) (base : Heap) (k : Nat) (x : Str) (ps : List Str) (sp : Sp) : Prop where
  ex : ∃ f fd, FnG P w K mg base CX0 k f fd ps sp ∧ mg x = some (.ref f) ∧ PySem.W.keepIn K (.ref f) = true ∧ Binds K fd ps []
section
variable {X : Cx} {k : Nat} {x : Str} {ps : List Str} {sp : Sp} {e : Expr} {es : List Expr} {p pos : Pos}
theorem pe_callG {t : TA} (C : CalG X.prog X.w X.K X.mg X.base k x ps sp) (hgd : X.A.guards = some []) (hr : Room k X.A) (ha : PA X (e :: es) t) (hg : Gl X x := by rfl) (hdb : (x == ("__debug__" : Str)) = false := by decide)
    (he : starEach (e :: es) X.env = (false, eval e X.env) :: starEach es X.env := by rfl) (hpl : (backTo pos (starEach es X.env)).any (·.1) = false := by rfl) :
    PE X (.Call (.Name x p) (e :: es) [] pos) (fun σ H Q => t σ H fun vs H1 => sp vs H1 Q E0) := by
  obtain ⟨f, fd, F, hm, hk, hb⟩ := C.ex
  refine ⟨fun pins s σ H Q I h => ?_⟩
  refine wpAny_Call_Name_kw (ld_glob I hg hm ?_ hdb)
  refine PySem.W.callWith_K (h₀ := X.base) I.ok.mod.kin hk (thn (ha.run pos pins s σ H _ I h) fun us s1 hv => ?_) he hpl
  obtain ⟨vs, H1, I1, r1, q1⟩ := hv
  refine ⟨I1.kIn, ?_⟩
  have hl : us.length = ps.length := by rw [← r1.length]; exact F.len _ _ _ _ q1
  have hbd := hb s1 us I1.kIn (by rw [List.append_nil]; exact hl)
  rw [List.append_nil] at hbd
  refine wpAny_call (codeAny_mono (F.run X.A X.stack s1 H1 ⟨us, []⟩ us vs Q E0 hgd hr I1.env0 hbd r1 q1) fun r s' hq => ?_)
  cases r with
  | error e => exact hq.elim
  | ok fl =>
    cases fl with
    | ret u => exact I1.after hq
    | next => exact hq.elim
    | brk => exact hq.elim
    | cont => exact hq.elim
end
end Zj
/-! The law's own call, at the top. -/
namespace Zj
open PySem PySem.Spec PyProof.Rows L2
section
variable {P : Program} {w : World} {K : PySem.W.Frag} {mg mb : Str → Option Value} {k : Nat} {fa a : Addr} {fd : FuncData} {x : Str} {sp : Sp} {s1 : Shared} {vs : List Value} {ns : List Int}
/-- from an abstract heap that tracks the script or nothing -/
theorem law_core (KX : K.In s1.heap) (hns : s1.heap.Ns mainGlobals mg) (hb : s1.heap.Ns builtinsNs mb) (hbb : ∀ x : Str, x ≠ "__name__" → mb x = bootBuiltins x) (hlim : s1.heap.NoLimit) (hg : s1.gens = #[])
    (ha : s1.heap.get? a = some { cls := .type "list", data := .seq vs.toArray }) (hr : Room k callerA)
    (F : ∀ base : Heap, K.In base → base.Ns mainGlobals mg → FnG P w K mg base CX0 k fa fd [x] sp) (hbind : ∀ (s : Shared) (u : Value), BindsTo s fd ⟨[u], []⟩ [(x, u)])
    {H : Hp} (hO : Only H) (hS : SqL K H a (ns.map V.int)) (hok : HOk P w H s1.heap) (hA : ∀ b, H b ≠ none → b = a) (hK : H a ≠ none → K.lookup a = none)
    (hsp : sp [.ref a] H (fun v _ => v = .bl true) fun _ _ _ => False) :
    codeAny (model P w) callerA (.call (.ref fa) ⟨[.ref a], []⟩) (fun r s' => r = .ok (.ret (.bool true)) ∧ OldK s1.heap s'.heap ∧ s'.os = s1.os ∧ AllBare s'.gens) s1 := by
  have only : ∀ {b : Addr} {o : Obj}, s1.heap.get? b = some o → (∀ vs n, o.data ≠ .seq vs n) → H b = none := fun {b o} e d => by
    cases q : H b with
    | none => rfl
    | some u =>
      have e' := hA b (by rw [q]; exact fun z => by cases z)
      rw [e', ha] at e
      cases e
      exact (d _ _ rfl).elim
  have ns' : ∀ {b : Addr} {m : Str → Option Value}, s1.heap.Ns b m → (hidT s1.heap H).Ns b m := fun {b m} ⟨o, es, ep, e, d, r⟩ =>
    ⟨o, es, ep, hidT_get e (only e fun vs n z => by rw [d] at z; cases z), d, r⟩
  have kin : K.In (hidT s1.heap H) := fun b o e => by
    refine hidT_get (KX b o e) ?_
    cases q : H b with
    | none => rfl
    | some u =>
      have e' := hA b (by rw [q]; exact fun z => by cases z)
      subst e'
      rw [hK (by rw [q]; exact fun z => by cases z)] at e
      cases e
  obtain ⟨mc, lim1, lim2⟩ := hlim
  have md : L2.Mod K mg (hidT s1.heap H) := ⟨kin, ns' hns, ⟨mb, ns' hb, hbb⟩, ⟨mc, ns' lim1, lim2⟩⟩
  have e0 : Env0 P w K mg (hidT s1.heap H) callerA [] s1 H := {
    frames := rfl
    mod := md
    bs := fun b o e => of_hidT e
    bsz := Nat.le_of_eq (hidT_size _ _)
    funs := trivial
    frf := fun b z => by cases z
    hok := hok
    bare := .of_eq hg }
  have run := (F _ kin (ns' hns)).run callerA [] s1 H ⟨[.ref a], []⟩ [.ref a] [.ref a] _ _ rfl hr e0 (hbind s1 (.ref a)) (.cons rfl .nil) hsp
  refine codeAny_mono run fun r s' h => ?_
  cases r with
  | error e => exact h.elim
  | ok fl =>
    cases fl with
    | next => exact h.elim
    | brk => exact h.elim
    | cont => exact h.elim
    | ret u =>
      obtain ⟨v, H', os, bare, un, hok', r', q⟩ := h
      cases q
      cases r'
      refine ⟨rfl, OldK.of_keep fun b o e => ?_, os, bare⟩
      rcases hO b with z | ⟨ob, xs, z⟩
      · exact un.keep b o e z (fun y => by cases y) (fun y => by cases y)
      · have g1 := (hok b _ z).1
        have g2 := (hok' b _ (un.frzs b ob _ z)).1
        rw [e] at g1
        cases g1
        exact g2
theorem law_endG (KX : K.In s1.heap) (hns : s1.heap.Ns mainGlobals mg) (hb : s1.heap.Ns builtinsNs mb) (hbb : ∀ x : Str, x ≠ "__name__" → mb x = bootBuiltins x) (hlim : s1.heap.NoLimit) (hg : s1.gens = #[])
    (ha : s1.heap.get? a = some { cls := .type "list", data := .seq vs.toArray }) (hi : IntsAre vs ns) (hl : ns.length ≤ sizeLine) (hr : Room k callerA)
    (F : ∀ base : Heap, K.In base → base.Ns mainGlobals mg → FnG P w K mg base CX0 k fa fd [x] sp) (hbind : ∀ (s : Shared) (u : Value), BindsTo s fd ⟨[u], []⟩ [(x, u)])
    (hsp : ∀ H : Hp, Only H → SqL K H a (ns.map V.int) → sp [.ref a] H (fun v _ => v = .bl true) fun _ _ _ => False) :
    codeAny (model P w) callerA (.call (.ref fa) ⟨[.ref a], []⟩) (fun r s' => r = .ok (.ret (.bool true)) ∧ OldK s1.heap s'.heap ∧ s'.os = s1.os ∧ AllBare s'.gens) s1 := by
  have rv := vals_ints hi
  cases hk : K.lookup a with
  | some o =>
    have e := KX a o hk
    rw [ha] at e
    cases e
    have hS : SqL K (fun _ => none) a (ns.map V.int) := .inr ⟨_, vs.toArray, _, hk, rfl, rfl, rfl, by rw [List.size_toArray, hi.length]; exact hl, by simpa using rv⟩
    have hO : Only fun _ => none := fun _ => .inl rfl
    exact law_core KX hns hb hbb hlim hg ha hr F hbind hO hS (fun b u z => by cases z) (fun b z => (z rfl).elim) (fun z => (z rfl).elim) (hsp _ hO hS)
  | none =>
    let H0 : Hp := upd (fun _ => none) a (.frz { cls := .type "list", data := .seq vs.toArray } (.lst (ns.map V.int)))
    have at0 : ∀ b, b ≠ a → H0 b = none := fun b hb => upd_ne hb
    have hS : SqL K H0 a (ns.map V.int) := .inl (.inr ⟨_, upd_same⟩)
    have hO : Only H0 := fun b => by
      by_cases hb : b = a
      · subst hb
        exact .inr ⟨_, _, upd_same⟩
      · exact .inl (at0 b hb)
    refine law_core KX hns hb hbb hlim hg ha hr F hbind hO hS (fun b u z => ?_) (fun b z => ?_) (fun _ => hk) (hsp _ hO hS)
    · by_cases hb : b = a
      · subst hb
        have z' := upd_same.symm.trans z
        cases z'
        exact ⟨ha, by rw [List.length_map]; exact hl, vs, _, rv, ha⟩
      · rw [at0 b hb] at z
        cases z
    · by_cases hb : b = a
      · exact hb
      · exact absurd (at0 b hb) z
end
theorem walk_G {l : PySem.W.OpenLaw} {n k : Nat} {q : Program} {loose : List Str} {XP : (Str → Option Value) → Heap → Prop} {YP : World → Heap → Prop} {d : DefRec} {K : Params → PySem.W.Frag} {sp : PySem.W.Frag → Sp} {x : Str}
    (hn : l.most = some n) (hn2 : n ≤ sizeLine) (hdf : d.params.defaults = []) (hr : Room k callerA) (hY : ∀ (w : World) (h : Heap), YP w h → (K w.params).In h)
    (F : ∀ (w : World) (mg : Str → Option Value) (fa : Addr) (h : Heap), (K w.params).In h → h.Ns mainGlobals mg → mg d.name = some (.ref fa) →
      ∃ fd : FuncData, (∀ (s : Shared) (u : Value), BindsTo s fd ⟨[u], []⟩ [(x, u)]) ∧ ∀ base : Heap, (K w.params).In base → base.Ns mainGlobals mg → FnG l.prog w (K w.params) mg base CX0 k fa fd [x] (sp (K w.params)))
    (hsp : ∀ (K : PySem.W.Frag) (H : Hp) (a : Addr) (ns : List Int), ns.length ≤ n → (∀ z ∈ ns, Builtin.Int.intBits z ≤ 1048576) → Only H → SqL K H a (ns.map V.int) → sp K [.ref a] H (fun v _ => v = .bl true) fun _ _ _ => False) :
    PySem.W.WalkO q loose XP YP l.row.toRowW d [] (fun f vs => PySem.call f vs) :=
  Att.attach_callB hn hdf fun w s0 s1 mg mb fa o pm cd doc a vs ns G Y ho hd hcd hmg hobj hints hlen hbits hg => by
    obtain ⟨fd, hb, hF⟩ := F w mg fa _ (hY w _ Y) G.T.g hmg
    exact law_endG (hY w _ Y) G.T.g G.T.b G.T.builtins G.T.nolimit hg hobj hints (Nat.le_trans hlen hn2) hr hF hb fun H hO hS => hsp _ H a ns hlen hbits hO hS
end Zj
/-! Text that draws from the law's own state. -/
namespace Zj
open PySem PySem.Spec PyProof.Rows L2
/-- the pairs of the law's state -/
def sts (left seed : Int) (pc : Addr) (spot : Int) : List (Key × V) := [(Sum.inr "left", .int left), (Sum.inr "seed", .int seed), (Sum.inr "cells", .ref pc), (Sum.inr "spot", .int spot)]
/-- the law's state stands at a; n more numbers may be drawn -/
def MS (K : PySem.W.Frag) (H : Hp) (a : Addr) (n : Nat) : Prop := ∃ (left seed : Int) (pc : Addr) (spot : Int) (cells : List Int), H a = some (.dK (sts left seed pc spot)) ∧ SqL K H pc (cells.map V.int) ∧ 1 ≤ cells.length ∧ cells.length ≤ 100 ∧
  (∀ c ∈ cells, Bits 2000000 c) ∧ 0 ≤ seed ∧ seed < 2147483647 ∧ 0 ≤ spot ∧ spot + n ≤ 1000000000000
section
variable {K : PySem.W.Frag} {H H' : Hp} {a : Addr} {n m : Nat} {T : Addr → Prop} {σ : L2.St} {ρ : Rho}
theorem MS.mono (h : MS K H a n) (hm : m ≤ n) : MS K H a m := by
  obtain ⟨left, seed, pc, spot, cells, h1, h2, h3, h4, h5, h6, h7, h8, h9⟩ := h
  exact ⟨left, seed, pc, spot, cells, h1, h2, h3, h4, h5, h6, h7, h8, by omega⟩
theorem MS.same (h : MS K H a n) (s : Same H H') : MS K H' a n := by
  obtain ⟨left, seed, pc, spot, cells, h1, h2, h3⟩ := h
  exact ⟨left, seed, pc, spot, cells, s _ _ h1, s.seq h2, h3⟩
theorem MS.dic (h : MS K H a n) : ∃ kvs, H a = some (.dK kvs) := by
  obtain ⟨left, seed, pc, spot, cells, h1, _⟩ := h
  exact ⟨_, h1⟩
theorem MS.vis (h : MS K (off T H) a n) : ¬ T a ∧ ∃ kvs, H a = some (.dK kvs) := by
  obtain ⟨kvs, h1⟩ := h.dic
  obtain ⟨h2, h3⟩ := off_some h1
  exact ⟨h3, kvs, h2⟩
theorem kp_off (s : Kp a H H') (h : ¬ T a) : Kp a (off T H) (off T H') := by
  refine ⟨fun b o hb e => ?_, fun ⟨kvs, e⟩ => ?_⟩
  · obtain ⟨e1, e2⟩ := off_some e
    rw [off_no e2]
    exact s.1 b o hb e1
  · obtain ⟨e1, e2⟩ := off_some e
    rw [off_no h]
    exact s.2 ⟨kvs, e1⟩
theorem Din.kp (d : Din T H) (s : Kp a H H') (h : ¬ T a) : Din T H' := fun b hb z => by
  have hne : b ≠ a := fun e => h (by rw [← e]; exact hb)
  cases q : H b with
  | none => exact d b hb q
  | some o =>
    rw [s.1 b o hne q] at z
    cases z
theorem SD.kpo (h : SD K a T H σ ρ) (s : Kp a H H') (m : MS K (off T H) a n) : SD K a T H' σ ρ := by
  obtain ⟨h1, kvs, h2⟩ := m.vis
  refine ⟨h.len, h.dm.kp s h1, fun i x e => ?_⟩
  obtain ⟨v, g1, g2⟩ := h.sl i x e
  refine ⟨v, g1, ?_⟩
  cases x with
  | dat d => exact dp_kp (kp_off s h1) m.dic g2
  | hnd => exact g2
theorem dp_kpo {v : V} {d : PyData} (h : Dp K (off T H) v d) (s : Kp a H H') (m : MS K (off T H) a n) : Dp K (off T H') v d := dp_kp (kp_off s m.vis.1) m.dic h
theorem dps_kpo {v : List V} {d : List PyData} (h : DpAll K (off T H) v d) (s : Kp a H H') (m : MS K (off T H) a n) : DpAll K (off T H') v d := dps_kp (kp_off s m.vis.1) m.dic h
end

section
variable {X : Cx} {a : Addr} {ρ : Rho}
/-- an expression that may draw: from n left to m left, what comes of it is told by P -/
def EvM (X : Cx) (a : Addr) (e : Expr) (ρ : Rho) (n m : Nat) (P : PyData → Prop) : Prop := ∀ T σ H, SD X.K a T H σ ρ → MS X.K (off T H) a n → ∀ Q : VK, (∀ v d H2, Kp a H H2 → MS X.K (off T H2) a m → Dp X.K (off T H2) v d → P d → Q v H2) → JE X e σ H Q
def EvMT (X : Cx) (a : Addr) (e : Expr) (ρ : Rho) (n m : Nat) (P : Bool → Prop) : Prop := ∀ T σ H, SD X.K a T H σ ρ → MS X.K (off T H) a n → ∀ Q : Bool → Hp → Prop, (∀ b H2, Kp a H H2 → MS X.K (off T H2) a m → P b → Q b H2) → JT X e σ H Q
def EvMA (X : Cx) (a : Addr) (es : List Expr) (ρ : Rho) (n m : Nat) (P : List PyData → Prop) : Prop := ∀ T σ H, SD X.K a T H σ ρ → MS X.K (off T H) a n → ∀ Q : List V → Hp → Prop, (∀ vs ds H2, Kp a H H2 → MS X.K (off T H2) a m → DpAll X.K (off T H2) vs ds → P ds → Q vs H2) → JA X es σ H Q
variable {e l r : Expr} {es : List Expr} {pos : Pos} {n m k : Nat} {d : PyData} {P P1 : PyData → Prop} {P2 : PyData → PyData → Prop}
theorem m_pure (h : EvE X a e ρ d) (hp : P d) (hm : m ≤ n) : EvM X a e ρ n m P := fun T σ H S ms Q q => h T σ H S Q fun v H2 s p => q v d H2 (.of s) ((ms.same (off_same s)).mono hm) p hp
theorem mt_pure {b : Bool} {PB : Bool → Prop} (h : EvT X a e ρ b) (hp : PB b) (hm : m ≤ n) : EvMT X a e ρ n m PB := fun T σ H S ms Q q => h T σ H S Q fun H2 s => q b H2 (.of s) ((ms.same (off_same s)).mono hm) hp
theorem ma_pure {ds : List PyData} {PA : List PyData → Prop} (h : EvA X a es ρ ds) (hp : PA ds) (hm : m ≤ n) : EvMA X a es ρ n m PA := fun T σ H S ms Q q => h T σ H S Q fun vs H2 s p => q vs ds H2 (.of s) ((ms.same (off_same s)).mono hm) p hp
theorem m_weak {n' m' : Nat} {P' : PyData → Prop} (h : EvM X a e ρ n m P) (h1 : n ≤ n') (h2 : m' ≤ m) (h3 : ∀ d, P d → P' d) : EvM X a e ρ n' m' P' := fun T σ H S ms Q q => h T σ H S (ms.mono h1) Q fun v d H2 s ms2 p hp => q v d H2 s (ms2.mono h2) p (h3 d hp)
theorem ma_nil (hm : m ≤ n) : EvMA X a [] ρ n m (fun ds => ds = []) := ma_pure a_nil rfl hm
theorem ma_cons {P2 : PyData → List PyData → Prop} (h : EvM X a e ρ n m P) (h2 : ∀ d, P d → EvMA X a es ρ m k (P2 d)) (hs : starEach (e :: es) X.env = (false, eval e X.env) :: starEach es X.env := by rfl) : EvMA X a (e :: es) ρ n k (fun ds => ∃ d ds', ds = d :: ds' ∧ P d ∧ P2 d ds') := fun T σ H S ms Q q =>
  toA (pa_cons je ja hs) (h T σ H S ms _ fun v d H1 s1 ms1 p1 hp => h2 d hp T σ H1 (S.kpo s1 ms) ms1 _ fun vs ds H2 s2 ms2 p2 hp2 => q _ _ H2 (s1.trans s2) ms2 (.cons (dp_kpo p1 s2 ms1) p2) ⟨d, ds, rfl, hp, hp2⟩)
theorem m_bin {op : Operator} (h1 : EvM X a l ρ n m P1) (h2 : ∀ d, P1 d → EvM X a r ρ m k (P2 d)) (ho : ∀ d1 d2, P1 d1 → P2 d1 d2 → ∃ d, OpD X (binaryOp op) d1 d2 d ∧ P d) : EvM X a (.BinOp l op r pos) ρ n k P := fun T σ H S ms Q q => by
  intro pins s I
  have key : ∀ (rr : R2), (∀ x y H Q, rr x y H Q → ∃ r' : R2, OpR X (binaryOp op) r' ∧ r' x y H Q) → OpR X (binaryOp op) rr := fun rr hrr pins s σ H x y v u Q I rx ry h => by
    obtain ⟨r', h1, h2⟩ := hrr x y H Q h
    exact h1 pins s σ H x y v u Q I rx ry h2
  refine (pe_op (key (fun x y H Q => ∃ r' : R2, OpR X (binaryOp op) r' ∧ r' x y H Q) fun _ _ _ _ h => h) je je).run pins s σ H Q I ?_
  refine h1 T σ H S ms _ fun v1 d1 H1 s1 ms1 p1 q1 => h2 d1 q1 T σ H1 (S.kpo s1 ms) ms1 _ fun v2 d2 H2 s2 ms2 p2 q2 => ?_
  obtain ⟨d, ⟨r', hr, hq⟩, hP⟩ := ho d1 d2 q1 q2
  exact ⟨r', hr, hq T v1 v2 H2 ((S.kpo s1 ms).kpo s2 ms1).dm (dp_kpo p1 s2 ms1) p2 Q fun v H3 s3 p3 => q v d H3 ((s1.trans s2).trans (.of s3)) (ms2.same (off_same s3)) p3 hP⟩
theorem m_cmp {op : CmpOp} (h1 : EvM X a l ρ n m P1) (h2 : ∀ d, P1 d → EvM X a r ρ m k (P2 d)) (ho : ∀ d1 d2, P1 d1 → P2 d1 d2 → ∃ d, OpD X (compareOp op) d1 d2 d ∧ P d) (hm : behindInMarks op r = false) : EvM X a (.Compare l [op] [r] pos) ρ n k P := fun T σ H S ms Q q => by
  intro pins s I
  have key : ∀ (rr : R2), (∀ x y H Q, rr x y H Q → ∃ r' : R2, OpR X (compareOp op) r' ∧ r' x y H Q) → OpR X (compareOp op) rr := fun rr hrr pins s σ H x y v u Q I rx ry h => by
    obtain ⟨r', h1, h2⟩ := hrr x y H Q h
    exact h1 pins s σ H x y v u Q I rx ry h2
  refine (pe_cmpR (key (fun x y H Q => ∃ r' : R2, OpR X (compareOp op) r' ∧ r' x y H Q) fun _ _ _ _ h => h) je je hm).run pins s σ H Q I ?_
  refine h1 T σ H S ms _ fun v1 d1 H1 s1 ms1 p1 q1 => h2 d1 q1 T σ H1 (S.kpo s1 ms) ms1 _ fun v2 d2 H2 s2 ms2 p2 q2 => ?_
  obtain ⟨d, ⟨r', hr, hq⟩, hP⟩ := ho d1 d2 q1 q2
  exact ⟨r', hr, hq T v1 v2 H2 ((S.kpo s1 ms).kpo s2 ms1).dm (dp_kpo p1 s2 ms1) p2 Q fun v H3 s3 p3 => q v d H3 ((s1.trans s2).trans (.of s3)) (ms2.same (off_same s3)) p3 hP⟩
theorem mt_cmp {op : CmpOp} {PB : Bool → Prop} (h1 : EvM X a l ρ n m P1) (h2 : ∀ d, P1 d → EvM X a r ρ m k (P2 d)) (ho : ∀ d1 d2, P1 d1 → P2 d1 d2 → ∃ b, OpD X (compareOp op) d1 d2 (.bool b) ∧ PB b) (hm : behindInMarks op r = false) : EvMT X a (.Compare l [op] [r] pos) ρ n k PB := fun T σ H S ms Q q => by
  intro pins s I
  have key : ∀ (rr : R2), (∀ x y H Q, rr x y H Q → ∃ r' : R2, OpR X (compareOp op) r' ∧ r' x y H Q) → OpR X (compareOp op) rr := fun rr hrr pins s σ H x y v u Q I rx ry h => by
    obtain ⟨r', h1, h2⟩ := hrr x y H Q h
    exact h1 pins s σ H x y v u Q I rx ry h2
  refine (pt_cmpR (key (fun x y H Q => ∃ r' : R2, OpR X (compareOp op) r' ∧ r' x y H Q) fun _ _ _ _ h => h) je je hm).run pins s σ H Q I ?_
  refine h1 T σ H S ms _ fun v1 d1 H1 s1 ms1 p1 q1 => h2 d1 q1 T σ H1 (S.kpo s1 ms) ms1 _ fun v2 d2 H2 s2 ms2 p2 q2 => ?_
  obtain ⟨b, ⟨r', hr, hq⟩, hP⟩ := ho d1 d2 q1 q2
  exact ⟨r', hr, hq T v1 v2 H2 ((S.kpo s1 ms).kpo s2 ms1).dm (dp_kpo p1 s2 ms1) p2 _ fun v H3 s3 p3 => ⟨b, dp_bool p3, q b H3 ((s1.trans s2).trans (.of s3)) (ms2.same (off_same s3)) hP⟩⟩
theorem mt_not {PB : Bool → Prop} (h : EvMT X a e ρ n m fun b => PB (!b)) : EvMT X a (.UnaryOp .Not e pos) ρ n m PB := fun T σ H S ms Q q => toT (pt_not jt) (h T σ H S ms _ fun b H2 s2 ms2 hp => q (!b) H2 s2 ms2 hp)
theorem mt_val {PB : Bool → Prop} (h : EvM X a e ρ n m fun d => ∃ b, d = .bool b ∧ PB b) (he : ∀ whole, isTrue e X.env whole = (do let v ← whole; standAt e.pos; holding [v] (truthy v)) := by intro _; rfl) : EvMT X a e ρ n m PB := fun T σ H S ms Q q =>
  toT (pt_val je he) (h T σ H S ms _ fun v d H2 s2 ms2 p hp => by
    obtain ⟨b, rfl, hb⟩ := hp
    exact ⟨b, dp_bool p, q b H2 s2 ms2 hb⟩)
/-- a or b, where a is known to fail -/
theorem mt_orF {PB : Bool → Prop} {b : Expr} {rest : List Expr} (h : EvMT X a e ρ n m fun b => b = false) (h2 : EvMT X a (.BoolOp .Or (b :: rest) pos) ρ m k PB) (hw : PW X (.BoolOp .Or (b :: rest) pos) (JT X (.BoolOp .Or (b :: rest) pos))) : EvMT X a (.BoolOp .Or (e :: b :: rest) pos) ρ n k PB := fun T σ H S ms Q q =>
  toT (PW.pt (pw_or jt hw)) (h T σ H S ms _ fun b H1 s1 ms1 hb => by
    subst hb
    exact iteF (h2 T σ H1 (S.kpo s1 ms) ms1 _ fun b H2 s2 ms2 hp => q b H2 (s1.trans s2) ms2 hp))
theorem m_ixL {o i : Expr} {ds : List PyData} {PI : PyData → Prop} (h1 : EvE X a o ρ (.list ds)) (h2 : EvM X a i ρ n m PI) (hi : ∀ d, PI d → ∃ j d', d = .int j ∧ atI ds j = some d' ∧ P d') (hs : PlainIx i := by exact fun _ _ => rfl) : EvM X a (.Subscript o i pos) ρ n m P := fun T σ H S ms Q q =>
  toE (pe_ix ix_list je je hs) (h1 T σ H S _ fun v1 H1 s1 p1 => h2 T σ H1 (S.same s1) (ms.same (off_same s1)) _ fun v2 d2 H2 s2 ms2 p2 hp2 => by
    obtain ⟨j, d', rfl, g0, gP⟩ := hi d2 hp2
    obtain ⟨pa, xs, rfl, g1, g2⟩ := dpo_lst (dp_kpo p1 s2 (ms.same (off_same s1)))
    obtain ⟨v, g3, g4⟩ := ati_dps g2 g0
    exact ⟨pa, xs, j, v, rfl, dp_int p2, g1, g3, q v d' H2 ((Kp.of s1).trans s2) ms2 g4 gP⟩)
end
end Zj
/-! Calls, blocks, loops, comprehensions that draw. -/
namespace Zj
open PySem PySem.Spec PyProof.Rows L2
/-- a def that may draw at most c numbers: of the arguments behind the state R tells what comes of them -/
def spM (K : PySem.W.Frag) (c : Nat) (R : List PyData → (PyData → Prop) → Prop) : Sp := fun vs H Q _ => ∃ a T n vs' ds P, vs = .ref a :: vs' ∧ Din T H ∧ MS K (off T H) a (n + c) ∧ DpAll K (off T H) vs' ds ∧ R ds P ∧ ∀ v d H', Kp a H H' → MS K (off T H') a n → Dp K (off T H') v d → P d → Q v H'
section
variable {X : Cx} {a : Addr} {ρ : Rho} {e l r : Expr} {es : List Expr} {pos p pm : Pos} {n m k c : Nat} {d : PyData} {P : PyData → Prop} {x y : Str} {ps : List Str} {lv : Nat}
theorem m_call {R : List PyData → (PyData → Prop) → Prop} {i : Nat} {ds : List PyData} (C : CalG X.prog X.w X.K X.mg X.base lv x ps (spM X.K c R)) (hgd : X.A.guards = some []) (hr : Room lv X.A) (hi : ρ[i]? = some (some .hnd)) (ha : EvA X a es ρ ds) (hR : R ds P) (hn : m + c ≤ n)
    (hN : X.N[i]? = some y := by rfl) (hv : Vis X.env.scope y := by first | exact Or.inl rfl | exact Or.inr (Or.inl rfl) | exact Or.inr (Or.inr rfl)) (hd : (y == ("__debug__" : Str)) = false := by decide) (hcd : (y == ("__classdict__" : Str)) = false := by decide)
    (hs : starEach (.Name y pm :: es) X.env = (false, eval (.Name y pm) X.env) :: starEach es X.env := by rfl) (hg : Gl X x := by rfl) (hdb : (x == ("__debug__" : Str)) = false := by decide) (hpl : (backTo pos (starEach es X.env)).any (·.1) = false := by rfl) :
    EvM X a (.Call (.Name x p) (.Name y pm :: es) [] pos) ρ n m P := fun T σ H S ms Q q => by
  obtain ⟨v, h1, h2⟩ := S.sl i _ hi
  have h2 : v = .ref a := h2
  subst h2
  refine toE (pe_callG C hgd hr (pa_cons (pe_var hN hv hd hcd) ja hs) hg hdb hs hpl) ⟨_, h1, ha T σ H S _ fun vs H1 s1 p1 => ?_⟩
  exact ⟨a, T, m, vs, ds, P, rfl, S.dm.same s1, (ms.same (off_same s1)).mono hn, p1, hR, fun v d H' s2 ms2 p2 hp => q v d H' ((Kp.of s1).trans s2) ms2 p2 hp⟩
/-- a def that keeps all, of what was drawn -/
theorem m_callR {R : List PyData → PyData → Prop} {PA : List PyData → Prop} (C : Cal X.prog X.w X.K X.mg X.base lv x ps (spR X.K R)) (hr : Room lv X.A) (ha : EvMA X a (e :: es) ρ n m PA) (hR : ∀ ds, PA ds → ∃ d, R ds d ∧ P d)
    (hg : Gl X x := by rfl) (hdb : (x == ("__debug__" : Str)) = false := by decide) (he : starEach (e :: es) X.env = (false, eval e X.env) :: starEach es X.env := by rfl) (hpl : (backTo pos (starEach es X.env)).any (·.1) = false := by rfl) :
    EvM X a (.Call (.Name x p) (e :: es) [] pos) ρ n m P := fun T σ H S ms Q q => by
  obtain ⟨f, fd, F, hm, hk, hb⟩ := C.ex
  refine toE (pe_call F hr hg hm hk hb (ds := []) (dvs := []) .nil pass0 ja hdb he hpl) (ha T σ H S ms _ fun vs ds H1 s1 ms1 p1 hp => ?_)
  rw [List.append_nil]
  obtain ⟨d, h1, h2⟩ := hR ds hp
  exact ⟨T, ds, d, (S.kpo s1 ms).dm, p1, h1, fun v H2 s2 p2 => q v d H2 (s1.trans (.of s2)) (ms1.same (off_same s2)) p2 h2⟩
theorem e_callG {R : List PyData → PyData → Prop} {ds : List PyData} (C : CalG X.prog X.w X.K X.mg X.base lv x ps (spR X.K R)) (hgd : X.A.guards = some []) (hr : Room lv X.A) (ha : EvA X a (e :: es) ρ ds) (hR : R ds d)
    (hg : Gl X x := by rfl) (hdb : (x == ("__debug__" : Str)) = false := by decide) (he : starEach (e :: es) X.env = (false, eval e X.env) :: starEach es X.env := by rfl) (hpl : (backTo pos (starEach es X.env)).any (·.1) = false := by rfl) :
    EvE X a (.Call (.Name x p) (e :: es) [] pos) ρ d := fun T σ H S Q q =>
  toE (pe_callG C hgd hr ja hg hdb he hpl) (ha T σ H S _ fun vs H1 s1 p1 => ⟨T, ds, d, S.dm.same s1, p1, hR, fun v H2 s2 p2 => q v H2 (s1.trans s2) p2⟩)
/-- a built-in, of what was drawn -/
theorem m_callT {id : String} {PA : List PyData → Prop} (hc : ∀ ds, PA ds → ∃ d, CaD X (.type id) ds d ∧ P d) (ha : EvMA X a (e :: es) ρ n m PA) (hm : X.mg x = none) (hv : bootBuiltins x = some (.type id)) (hg : Gl X x := by rfl) (hn : x ≠ "__name__" := by decide) (hdb : (x == ("__debug__" : Str)) = false := by decide)
    (he : starEach (e :: es) X.env = (false, eval e X.env) :: starEach es X.env := by rfl) (hpl : (backTo pos (starEach es X.env)).any (·.1) = false := by rfl) : EvM X a (.Call (.Name x p) (e :: es) [] pos) ρ n m P := fun T σ H S ms Q q => by
  have key : CallR X (.type id) (fun vs H Q => ∃ r', CallR X (.type id) r' ∧ r' vs H Q) := fun pins s σ H vs us Q I r h => by
    obtain ⟨r', h1, h2⟩ := h
    exact h1 pins s σ H vs us Q I r h2
  refine toE (pe_callTy key hg hm hv ja hn hdb he hpl) (ha T σ H S ms _ fun vs ds H1 s1 ms1 p1 hp => ?_)
  obtain ⟨d, ⟨r', h1, h2⟩, h3⟩ := hc ds hp
  exact ⟨r', h1, h2 T vs H1 (S.kpo s1 ms).dm p1 Q fun v H2 s2 p2 => q v d H2 (s1.trans (.of s2)) (ms1.same (off_same s2)) p2 h3⟩
theorem m_tup {x1} {PA : List PyData → Prop} (h : EvMA X a es ρ n m PA) (hP : ∀ ds, PA ds → ds.length ≤ 100000 ∧ P (.tuple ds)) : EvM X a (.Tuple es x1 pos) ρ n m P := fun T σ H S ms Q q =>
  toE (pe_tup ja) (h T σ H S ms _ fun vs ds H1 s1 ms1 p1 hp => ⟨by rw [dps_len p1]; exact szl (hP ds hp).1, fun p h0 => q _ _ _ (s1.trans (.of (same_new h0))) (ms1.same (off_same (same_new h0))) (dpo_newT (S.kpo s1 ms).dm h0 p1) (hP ds hp).2⟩)
theorem m_lst {PA : List PyData → Prop} (h : EvMA X a es ρ n m PA) (hP : ∀ ds, PA ds → ds.length ≤ 100000 ∧ P (.list ds)) : EvM X a (.List es pos) ρ n m P := fun T σ H S ms Q q =>
  toE (pe_lst ja) (h T σ H S ms _ fun vs ds H1 s1 ms1 p1 hp => ⟨by rw [dps_len p1]; exact szl (hP ds hp).1, fun p h0 => q _ _ _ (s1.trans (.of (same_new h0))) (ms1.same (off_same (same_new h0))) (dpo_newL (S.kpo s1 ms).dm h0 p1) (hP ds hp).2⟩)
end

/-! ### blocks -/
section
variable {X : Cx} {a : Addr} {ρ : Rho} {n m : Nat} {N : Nat → Rho → Prop} {R : Nat → PyData → Prop} {st : Stmt} {sts : List Stmt} {e : Expr} {d : PyData} {pos : Pos} {P : PyData → Prop}
def RunM (X : Cx) (a : Addr) (sts : List Stmt) (ρ : Rho) (n : Nat) (N : Nat → Rho → Prop) (R : Nat → PyData → Prop) : Prop := ∀ T σ H D, SD X.K a T H σ ρ → MS X.K (off T H) a n → (∀ σ' H' ρ' m, Kp a H H' → SD X.K a T H' σ' ρ' → MS X.K (off T H') a m → N m ρ' → D.nx σ' H') → (∀ v H' d m, Kp a H H' → MS X.K (off T H') a m → Dp X.K (off T H') v d → R m d → D.rt v H') → JSs X sts D σ H
def RunMS (X : Cx) (a : Addr) (st : Stmt) (ρ : Rho) (n : Nat) (N : Nat → Rho → Prop) (R : Nat → PyData → Prop) : Prop := ∀ T σ H D, SD X.K a T H σ ρ → MS X.K (off T H) a n → (∀ σ' H' ρ' m, Kp a H H' → SD X.K a T H' σ' ρ' → MS X.K (off T H') a m → N m ρ' → D.nx σ' H') → (∀ v H' d m, Kp a H H' → MS X.K (off T H') a m → Dp X.K (off T H') v d → R m d → D.rt v H') → JS X st D σ H
theorem q_nil (h : N n ρ) : RunM X a [] ρ n N R := fun T σ H D S ms kn kr => toSs pss_nil (kn σ H ρ n Kp.refl S ms h)
theorem q_cons (h : RunMS X a st ρ n (fun m ρ' => RunM X a sts ρ' m N R) R) : RunM X a (st :: sts) ρ n N R := fun T σ H D S ms kn kr =>
  toSs (pss_cons js jss) (h T σ H { D with nx := fun σ' H' => JSs X sts D σ' H' } S ms (fun σ' H' ρ' m s S' ms' hN => hN T σ' H' D S' ms' (fun σ2 H2 ρ2 m2 s2 S2 ms2 n2 => kn σ2 H2 ρ2 m2 (s.trans s2) S2 ms2 n2) fun v H2 d m2 s2 ms2 p r => kr v H2 d m2 (s.trans s2) ms2 p r) kr)
theorem q_one (h : RunMS X a st ρ n N R) : RunM X a [st] ρ n N R := fun T σ H D S ms kn kr => toSs (pss_one js) (h T σ H D S ms kn kr)
/-- a statement that draws nothing -/
theorem q_pure {R' : PyData → Prop} {N' : Rho → Prop} (h : RunS X a st ρ N' R') (hn : ∀ ρ', N' ρ' → N n ρ') (hr : ∀ d, R' d → R n d) : RunMS X a st ρ n N R := fun T σ H D S ms kn kr =>
  h T σ H D S (fun σ' H' ρ' s S' h' => kn σ' H' ρ' n (.of s) S' (ms.same (off_same s)) (hn ρ' h')) fun v H' d s p r => kr v H' d n (.of s) (ms.same (off_same s)) p (hr d r)
theorem qs_ret (h : EvM X a e ρ n m P) (hr : ∀ d, P d → R m d) : RunMS X a (.Return (some e) pos) ρ n N R := fun T σ H D S ms kn kr => toS (ps_ret je) (h T σ H S ms _ fun v d H1 s1 ms1 p1 hp => kr v H1 d m s1 ms1 p1 (hr d hp))
theorem qs_set {i : Nat} {x : Str} {pos' : Pos} (G : Good X) (h : EvM X a e ρ n m P) (hn : ∀ d, P d → N m (ρ.set i (some (.dat d)))) (hi : X.N[i]? = some x := by rfl) (hx : Loc X.env.scope x := by first | exact Or.inl rfl | exact Or.inr rfl)
    (hs : swapsWith e (some (.Name x pos')) pos.line X.env = pure false := by rfl) (hf : X.fn x = true ∨ X.env.scope.names.lookup x = some .local := by first | exact .inl rfl | exact .inr rfl) : RunMS X a (.Assign [.Name x pos'] e pos) ρ n N R := fun T σ H D S ms kn kr =>
  toS (ps_set G.nd hi hx je hs hf) (h T σ H S ms _ fun v d H1 s1 ms1 p1 hp => kn _ H1 _ m s1 ((S.kpo s1 ms).put (x := .dat d) p1) ms1 (hn d hp))
theorem qs_par {i j : Nat} {x y : Str} {e1 e2 : Expr} {px py pt : Pos} {kt k2 pt2} {PA : List PyData → Prop} (G : Good X) (h : EvMA X a [e1, e2] ρ n m PA) (hn : ∀ ds, PA ds → ∃ d1 d2, ds = [d1, d2] ∧ N m ((ρ.set i (some (.dat d1))).set j (some (.dat d2)))) (hi : X.N[i]? = some x := by rfl) (hj : X.N[j]? = some y := by rfl) (hij : i ≠ j := by decide)
    (hx : X.env.scope.names.lookup x = some .local := by rfl) (hy : X.env.scope.names.lookup y = some .local := by rfl)
    (hw : swappedStores [.Tuple [.Name x px, .Name y py] kt pt] (.Tuple [e1, e2] k2 pt2) X.env = pure (some [x, y]) := by rfl)
    (hs : swapsWithSole [.Tuple [.Name x px, .Name y py] kt pt] (.Tuple [e1, e2] k2 pt2) pos.line X.env = pure false := by rfl) :
    RunMS X a (.Assign [.Tuple [.Name x px, .Name y py] kt pt] (.Tuple [e1, e2] k2 pt2) pos) ρ n N R := fun T σ H D S ms kn kr =>
  toS (ps_par G.calm G.nd hi hj hij hx hy ja hw hs) (h T σ H S ms _ fun vs ds H1 s1 ms1 p1 hp => by
    obtain ⟨d1, d2, rfl, hN⟩ := hn ds hp
    obtain ⟨v, v', rfl, q1, q2⟩ := dps2 p1
    exact ⟨v, v', rfl, kn _ H1 _ m s1 (((S.kpo s1 ms).put (x := .dat d1) q1).put (x := .dat d2) q2) ms1 hN⟩)
theorem qs_asg {tg : Expr} {g : TG} {vs : List Nat} {f : PyData → Rho → Option Rho} (h : EvM X a e ρ n m P) (hg : PG X tg g) (ht : TgSem X.K a g vs f) (hn : ∀ d, P d → ∃ ρ', f d ρ = some ρ' ∧ N m ρ')
    (hs : swapsWithSole [tg] e pos.line X.env = pure false := by rfl) (hw : swappedStores [tg] e X.env = pure none := by rfl) (h1 : (assignEach [tg] X.env).map (·.2) = [assign tg X.env] := by rfl) : RunMS X a (.Assign [tg] e pos) ρ n N R := fun T σ H D S ms kn kr =>
  toS (ps_asg je hg hs hw h1) (h T σ H S ms _ fun v d H1 s1 ms1 p1 hp => by
    obtain ⟨ρ', e', hN⟩ := hn d hp
    exact ht T σ H1 v d ρ ρ' (S.kpo s1 ms) p1 e' _ fun σ' S' _ => kn σ' H1 ρ' m s1 S' ms1 hN)
theorem qs_if {c : Expr} {PB : Bool → Prop} {body orelse : List Stmt} (hc : EvMT X a c ρ n m PB) (h1 : PB true → RunM X a body ρ m N R) (h2 : PB false → RunM X a orelse ρ m N R) : RunMS X a (.If c body orelse pos) ρ n N R := fun T σ H D S ms kn kr =>
  toS (ps_if jt jss jss) (hc T σ H S ms _ fun b H1 s1 ms1 hb => by
    cases b with
    | true => exact iteT (h1 hb T σ H1 D (S.kpo s1 ms) ms1 (fun σ2 H2 ρ2 m2 s2 S2 ms2 n2 => kn σ2 H2 ρ2 m2 (s1.trans s2) S2 ms2 n2) fun v H2 d m2 s2 ms2 p r => kr v H2 d m2 (s1.trans s2) ms2 p r)
    | false => exact iteF (h2 hb T σ H1 D (S.kpo s1 ms) ms1 (fun σ2 H2 ρ2 m2 s2 S2 ms2 n2 => kn σ2 H2 ρ2 m2 (s1.trans s2) S2 ms2 n2) fun v H2 d m2 s2 ms2 p r => kr v H2 d m2 (s1.trans s2) ms2 p r))
end
/-! ### the state out of sight, while something is walked -/
section
variable {K : PySem.W.Frag} {a : Addr} {T : Addr → Prop} {H H' : Hp} {σ : L2.St} {ρ : Rho} {n : Nat}
def And1 (T : Addr → Prop) (a : Addr) : Addr → Prop := fun b => T b ∨ b = a
theorem dp_hide {v : V} {d : PyData} (h : Dp K (off T H) v d) (m : MS K (off T H) a n) : Dp K (off (And1 T a) H) v d := by
  obtain ⟨kvs, hk⟩ := m.dic
  have key : ∀ b o, off T H b = some o → (∀ k, o ≠ .dK k) → off (And1 T a) H b = some o := fun b o e hn => by
    have hne : b ≠ a := fun z => by
      rw [z, hk] at e
      cases e
      exact hn _ rfl
    obtain ⟨e1, e2⟩ := off_some e
    rw [off_no (fun z => z.elim e2 hne)]
    exact e1
  refine dp_map (fun b xs h => ?_) (fun b xs h => ?_) d v h
  · rcases h with (h | ⟨o, h⟩) | h
    · exact .inl (.inl (key _ _ h fun k z => by cases z))
    · exact .inl (.inr ⟨o, key _ _ h fun k z => by cases z⟩)
    · exact .inr h
  · rcases h with (h | ⟨o, h⟩) | h
    · exact .inl (.inl (key _ _ h fun k z => by cases z))
    · exact .inl (.inr ⟨o, key _ _ h fun k z => by cases z⟩)
    · exact .inr h
theorem Din.and1 (d : Din T H) (m : MS K (off T H) a n) : Din (And1 T a) H := fun b hb => by
  rcases hb with hb | hb
  · exact d b hb
  · obtain ⟨_, kvs, h⟩ := m.vis
    rw [hb, h]
    exact fun z => by cases z
theorem SD.hide (h : SD K a T H σ ρ) (m : MS K (off T H) a n) : SD K a (And1 T a) H σ ρ := ⟨h.len, h.dm.and1 m, fun i x e => by
  obtain ⟨v, g1, g2⟩ := h.sl i x e
  refine ⟨v, g1, ?_⟩
  cases x with
  | dat d => exact dp_hide g2 m
  | hnd => exact g2⟩
theorem kp_same1 (s : Kp a H H') : Same (off (And1 T a) H) (off (And1 T a) H') := fun b o e => by
  obtain ⟨e1, e2⟩ := off_some e
  rw [off_no e2]
  exact s.1 b o (fun z => e2 (.inr z)) e1
inductive Fa2 (V : PyData → PyData → Prop) : List PyData → List PyData → Prop
  | nil : Fa2 V [] []
  | cons {x y : PyData} {xs ys : List PyData} : V x y → Fa2 V xs ys → Fa2 V (x :: xs) (y :: ys)
theorem Fa2.len {V : PyData → PyData → Prop} {xs ys : List PyData} (h : Fa2 V xs ys) : xs.length = ys.length := by
  induction h with
  | nil => rfl
  | cons _ _ ih => rw [List.length_cons, List.length_cons, ih]
theorem Fa2.snoc {V : PyData → PyData → Prop} {xs ys : List PyData} {x y : PyData} (h : Fa2 V xs ys) (hx : V x y) : Fa2 V (xs ++ [x]) (ys ++ [y]) := by
  induction h with
  | nil => exact .cons hx .nil
  | cons a _ ih => exact .cons a ih
theorem Fa2.all {V : PyData → PyData → Prop} {W : PyData → Prop} {xs ys : List PyData} (h : Fa2 V xs ys) (hw : ∀ x y, V x y → W y) : ∀ y ∈ ys, W y := by
  induction h with
  | nil => exact fun y hy => by cases hy
  | cons a _ ih =>
    intro z hz
    rcases List.mem_cons.mp hz with e | e
    · rw [e]
      exact hw _ _ a
    · exact ih z e
end
section
variable {X : Cx} {a : Addr} {ρ : Rho} {n k c ce : Nat} {N : Nat → Rho → Prop} {R : Nat → PyData → Prop} {tg it elt t : Expr} {items : List PyData} {pos : Pos} {body : List Stmt} {g : TG} {vs : List Nat} {f : PyData → Rho → Option Rho} {scope : Scope} {own : List (Str × Nat)} {P : PyData → Prop}
theorem qs_for (G : Good X) (hs : Src X a tg it ρ items) (hg : PG X tg g) (ht : TgSem X.K a g vs f) (J : Nat → Nat → Rho → Prop) (h0 : J 0 n ρ)
    (hb : ∀ i d m ρ1, items[i]? = some d → J i m ρ1 → ∃ ρ2, f d ρ1 = some ρ2 ∧ RunM X a body ρ2 m (fun m' ρ' => J (i + 1) m' ρ') R) (hd : ∀ m ρ', J items.length m ρ' → N m ρ')
    (hf : ∀ x, foldedSetIterable it X.env x = pure x := by intro _; rfl) : RunMS X a (.For tg it body [] pos) ρ n N R := fun T σ H D S ms kn kr => by
  obtain ⟨wi, hw, hq⟩ := hs
  refine toS (ps_for G.ow G.calm hw hg jss hf) (hq (And1 T a) σ H (S.hide ms) _ fun Ji H1 Gd Y s1 w hG hY => ?_)
  have ms1 := ms.same (off_same s1)
  have S1 := S.same s1
  have sees : ∀ {H'}, Kp a H1 H' → Sees (And1 T a) H1 (And1 T a) H' := fun {H'} s => by
    refine ⟨fun b hb => ?_, kp_same1 s⟩
    rcases hb with hb | hb
    · exact (S1.dm.kp s ms1.vis.1) b hb
    · obtain ⟨kvs, hk⟩ := s.2 ms1.vis.2
      rw [hb, hk]
      exact fun z => by cases z
  refine for_it w (fun i σ' H' => Kp a H1 H' ∧ ∃ ρ' m, SD X.K a T H' σ' ρ' ∧ MS X.K (off T H') a m ∧ J i m ρ') ⟨Kp.refl, ρ, n, S1, ms1, h0⟩ (fun i σ' H' _ hp => hG _ H' (sees hp.1)) (fun i x σ' H' H'' hi hp y => ?_) fun σ' H' hp => ?_
  · obtain ⟨s2, ρ', m, S', ms', hj⟩ := hp
    obtain ⟨s3, d, hdi, pd⟩ := hY _ i H' x H'' hi (sees s2) y
    obtain ⟨ρ2, e2, hrun⟩ := hb i d m ρ' hdi hj
    refine ht T σ' H'' x d ρ' ρ2 (S'.same s3) (dp_same off_less pd) e2 _ fun σ2 S2 _ => ?_
    have s23 : Kp a H1 H'' := s2.trans (.of s3)
    exact hrun T σ2 H'' _ S2 (ms'.same (off_same s3)) (fun σ3 H3 ρ3 m3 s4 S3 ms3 n3 => ⟨s23.trans s4, ρ3, m3, S3, ms3, n3⟩) fun v H3 d m3 s4 ms4 p r => kr v H3 d m3 ((Kp.of s1).trans (s23.trans s4)) ms4 p r
  · obtain ⟨s2, ρ', m, S', ms', hj⟩ := hp
    exact kn σ' H' ρ' m ((Kp.of s1).trans s2) S' ms' (hd m ρ' hj)

def FillM (K : PySem.W.Frag) (a : Addr) (T : Addr → Prop) (H1 : Hp) (D : Addr) (m : Nat) (V : PyData → PyData → Prop) (xs : List PyData) (H' : Hp) : Prop := H1 D = none ∧ Kp a H1 H' ∧ Din (And1 T D) H' ∧ MS K (off (And1 T D) H') a m ∧ ∃ acc ds, H' D = some (.lst acc) ∧ DpAll K (off (And1 T D) H') acc ds ∧ Fa2 V xs ds
theorem lcM_read {wi : TI} {tt : TT} {te : TE} {keep : PyData → Bool} {V : PyData → PyData → Prop} {T : Addr → Prop} {σ : L2.St} {H : Hp} {Q : VK} (S : SD X.K a T H σ ρ) (ms : MS X.K (off T H) a n) (hn : k + c * items.length ≤ n) (hz : items.length < 100000)
    (hq : ∀ R : It → Hp → Prop,
  (∀ J H1 (Gd : Hp → Prop) Y, Same H H1 → Walk J items.length Gd Y → (∀ T' H', Sees (And1 T a) H1 T' H' → Gd H') →
    (∀ T' i H' x H'', i < items.length → Sees (And1 T a) H1 T' H' → Y i H' x H'' → Same H' H'' ∧ ∃ d, items[i]? = some d ∧ Dp X.K (off T' H'') x d) → R J H1) → wi σ H R)
    (ht : TgSem X.K a g vs f)
    (hb : ∀ d, d ∈ items → ∃ ρ2, f d (wipeR ρ vs) = some ρ2 ∧ ∀ m, (∀ T σ H, SD X.K a T H σ ρ2 → MS X.K (off T H) a (m + c) → ∀ Q : Bool → Hp → Prop, (∀ H2, Kp a H H2 → MS X.K (off T H2) a (m + ce) → Q (keep d) H2) → tt σ H Q) ∧
      (keep d = true → ∀ T σ H, SD X.K a T H σ ρ2 → MS X.K (off T H) a (m + ce) → ∀ Q : VK, (∀ v d' H2, Kp a H H2 → MS X.K (off T H2) a m → Dp X.K (off T H2) v d' → V d d' → Q v H2) → te σ H Q))
    (kq : ∀ v ds H2, Kp a H H2 → MS X.K (off T H2) a k → Dp X.K (off T H2) v (.list ds) → Fa2 V (items.filter keep) ds → Q v H2) : tLc wi g tt te vs σ H Q := by
  refine hq _ fun J H1 Gd Y s1 w hG hY => ?_
  intro D hD
  have S1 := S.same s1
  have ms1 := ms.same (off_same s1)
  have nD : ¬ T D := fun z => S1.dm D z hD
  have Da : D ≠ a := fun z => by
    obtain ⟨_, kvs, hk⟩ := ms1.vis
    rw [← z, hD] at hk
    cases hk
  have sees : ∀ {H' xs m}, FillM X.K a T H1 D m V xs H' → Sees (And1 T a) H1 (And1 (And1 T D) a) H' := fun {H' xs m} p => by
    obtain ⟨h1, h2, h3, h4, _⟩ := p
    refine ⟨h3.and1 h4, fun b o e => ?_⟩
    obtain ⟨e1, e2⟩ := off_some e
    have hb : b ≠ D := fun z => by
      rw [z, h1] at e1
      cases e1
    rw [off_no (fun z => z.elim (fun z => z.elim (fun z => e2 (.inl z)) hb) fun z => e2 (.inr z))]
    exact h2.1 b o (fun z => e2 (.inr z)) e1
  have start : FillM X.K a T H1 D (k + c * items.length) V ((items.take 0).filter keep) (upd H1 D (.lst [])) :=
    ⟨hD, .of (same_new hD), S1.dm.new hD, by
      have e : off (And1 T D) (upd H1 D (.lst [])) = off T H1 := off_more hD
      rw [e]
      exact ms1.mono hn, [], [], upd_same, .nil, .nil⟩
  have fsame : ∀ {H' H'' xs m}, FillM X.K a T H1 D m V xs H' → Same H' H'' → FillM X.K a T H1 D m V xs H'' := fun {H' H'' xs m} p s => by
    obtain ⟨h1, h2, h3, h4, acc, ds, h5, h6, h7⟩ := p
    exact ⟨h1, h2.trans (.of s), h3.same s, h4.same (off_same s), acc, ds, s _ _ h5, dpso s h6, h7⟩
  have fkp : ∀ {H' H'' xs m m'}, FillM X.K a T H1 D m V xs H' → Kp a H' H'' → MS X.K (off (And1 T D) H'') a m' → FillM X.K a T H1 D m' V xs H'' := fun {H' H'' xs m m'} p s ms' => by
    obtain ⟨h1, h2, h3, h4, acc, ds, h5, h6, h7⟩ := p
    exact ⟨h1, h2.trans s, h3.kp s h4.vis.1, ms', acc, ds, s.1 _ _ Da h5, dps_kpo h6 s h4, h7⟩
  have key : ∀ i, i < items.length → c * (items.length - i) = c * (items.length - (i + 1)) + c := fun i hi => by
    rw [show items.length - i = (items.length - (i + 1)) + 1 by omega, Nat.mul_add, Nat.mul_one]
  refine lc_it w (fun i H' => i ≤ items.length ∧ FillM X.K a T H1 D (k + c * (items.length - i)) V ((items.take i).filter keep) H') ⟨Nat.zero_le _, start⟩
    (fun i H' _ p => hG _ H' (sees p.2)) (fun i x H' H'' hi p y => ?_) fun H' p => ?_
  · obtain ⟨s3, d, hdi, pd⟩ := hY _ i H' x H'' hi (sees p.2) y
    obtain ⟨ρ2, e2, hm⟩ := hb d (List.mem_of_getElem? hdi)
    obtain ⟨k1, k2⟩ := hm (k + c * (items.length - (i + 1)))
    have p' := fsame p.2 s3
    have ee : k + c * (items.length - (i + 1)) + c = k + c * (items.length - i) := by rw [key i hi]; omega
    have S2 : SD X.K a (And1 T D) H'' (L2.wipe σ vs) (wipeR ρ vs) := ⟨(S1.wipe vs).len, p'.2.2.1, fun j z e => by
      obtain ⟨v, q1, q2⟩ := ((S1.hide ms1).wipe vs).sl j z e
      refine ⟨v, q1, ?_⟩
      cases z with
      | dat d => exact dp_same off_less (dp_same (sees p').2 q2)
      | hnd => exact q2⟩
    refine ht _ _ H'' x d _ ρ2 S2 (dp_same off_less pd) e2 _ fun σ2 S3 hw => ⟨?_, ?_⟩
    · rw [hw]
      apply List.ext_getElem?
      intro n
      rw [wipe_get, wipe_get, wipe_length]
      by_cases hn : n ∈ vs
      · rw [if_pos hn, if_pos hn]
      · rw [if_neg hn, if_neg hn]
    · have msp := p'.2.2.2.1
      rw [← ee] at msp
      refine k1 _ σ2 H'' S3 msp _ fun H3 s4 ms4 => ?_
      have tk : (items.take (i + 1)).filter keep = if keep d then (items.take i).filter keep ++ [d] else (items.take i).filter keep := by
        rw [List.take_add_one, hdi]
        simp only [Option.toList_some, List.filter_append]
        cases hk : keep d with
        | true => rw [if_pos rfl, List.filter_cons_of_pos hk] <;> rfl
        | false =>
          rw [List.filter_cons_of_neg (by rw [hk]; exact Bool.false_ne_true)]
          show _ ++ ([] : List PyData) = _
          rw [List.append_nil] <;> rfl
      have p3 := fkp p' s4 ms4
      rw [tk]
      cases hk : keep d with
      | false => exact iteF ⟨hi, fkp p' s4 (ms4.mono (Nat.le_add_right _ _))⟩
      | true =>
        refine iteT (k2 hk _ σ2 H3 (S3.kpo s4 msp) ms4 _ fun y d' H4 s5 ms5 py hV => ?_)
        obtain ⟨h1, h2, h3, h4, acc, ds, h5, h6, h7⟩ := fkp p3 s5 ms5
        refine ⟨acc, h5, ?_, hi, h1, ⟨fun b o hb e => ?_, fun z => ?_⟩, fun b hb => ?_, ?_, acc ++ [y], ds ++ [d'], upd_same, ?_, h7.snoc hV⟩
        · have e1 := dps_len h6
          have e2 := h7.len
          have e3 := List.length_filter_le keep (items.take i)
          have e4 := List.length_take_le i items
          exact Nat.lt_of_lt_of_le (show acc.length < 100000 by omega) (by decide)
        · rw [upd_ne (fun z => by rw [z, h1] at e; cases e)]
          exact h2.1 b o hb e
        · rw [upd_ne (Ne.symm Da)]
          exact h2.2 z
        · by_cases hbD : b = D
          · rw [hbD, upd_same]
            exact fun z => by cases z
          · rw [upd_ne hbD]
            exact h3 b hb
        · have e : off (And1 T D) (upd H4 D (.lst (acc ++ [y]))) = off (And1 T D) H4 := off_put (.inr rfl)
          rw [e]
          exact ms5
        · have e : off (And1 T D) (upd H4 D (.lst (acc ++ [y]))) = off (And1 T D) H4 := off_put (.inr rfl)
          rw [e]
          exact dps_snoc h6 py
  · obtain ⟨_, h1, h2, h3, h4, acc, ds, h5, h6, h7⟩ := p
    rw [List.take_length] at h7
    have h4' : MS X.K (off T H') a k := (h4.mono (by rw [Nat.sub_self]; omega)).same off_less
    exact kq _ ds H' ((Kp.of s1).trans h2) h4' (.lst (.of (by rw [off_no nD]; exact h5)) (dps_same off_less h6)) h7
end
end Zj
/-! Comprehensions that draw, by their text; defs that draw. -/
namespace Zj
open PySem PySem.Spec PyProof.Rows L2
section
variable {X : Cx} {a : Addr} {ρ : Rho} {n k c ce : Nat} {N : Nat → Rho → Prop} {R : Nat → PyData → Prop} {tg it elt t : Expr} {items : List PyData} {pos : Pos} {g : TG} {f : PyData → Rho → Option Rho} {scope : Scope} {own : List (Str × Nat)} {P : PyData → Prop}
def EvMb (X : Cx) (scope : Scope) (a : Addr) (e : Expr) (ρ : Rho) (n m : Nat) (P : PyData → Prop) : Prop := ∀ s H0 C cl fp, EvM (X.blk s H0 scope (compEnvC scope cl C X.env) fp) a e ρ n m P
def EvMTb (X : Cx) (scope : Scope) (a : Addr) (e : Expr) (ρ : Rho) (n m : Nat) (P : Bool → Prop) : Prop := ∀ s H0 C cl fp, EvMT (X.blk s H0 scope (compEnvC scope cl C X.env) fp) a e ρ n m P
theorem m_lc0 {V : PyData → PyData → Prop} (G : Good X) (hs : Src X a tg it ρ items) (hn : k + c * items.length ≤ n) (hz : items.length < 100000) (ok : BlkOk X.N X.env.scope scope own)
    (hg : ∀ (s : Shared) (H : Hp) (C : Addr) (cl : List (Str × Addr)) (fp : List Addr), PG (X.blk s H scope (compEnvC scope cl C X.env) fp) tg g) (ht : TgSem X.K a g (own.map (·.2)) f)
    (hb : ∀ d, d ∈ items → ∃ ρ2, f d (wipeR ρ (own.map (·.2))) = some ρ2 ∧ ∀ m, EvMb X scope a elt ρ2 (m + c) m (V d)) (hP : ∀ ds, Fa2 V items ds → P (.list ds))
    (hf : ∀ x, foldedSetIterable it X.env x = pure x := by intro _; rfl) : EvM X a (.ListComp elt [⟨tg, it, [], 0⟩] scope pos) ρ n k P := fun T σ H S ms Q q => by
  obtain ⟨wi, hw, hq⟩ := hs
  refine toE (pe_lc (own := own) (te := JEb X scope elt) (tt := tYes) G.calm G.nd hw ok hg (fun s H0 C cl fp => pts_nil) (fun s H0 C cl fp => ⟨fun pins s' σ' H' Q' I h => h s H0 C cl fp pins s' I⟩) hf) ?_
  refine lcM_read (f := f) (V := V) (keep := yes) (ce := c) S ms hn hz (hq _ σ H (S.hide ms)) ht (fun d hd => ?_) fun v ds H2 s2 ms2 p2 h2 => q v _ H2 s2 ms2 p2 (hP ds ?_)
  · obtain ⟨ρ2, e, k2⟩ := hb d hd
    exact ⟨ρ2, e, fun m => ⟨fun T σ H S ms Q q => q H Kp.refl ms, fun hk T σ H S ms Q q s H0 C cl fp => k2 m s H0 C cl fp T σ H S ms Q q⟩⟩
  · rw [List.filter_eq_self.mpr (show ∀ z ∈ items, yes z = true from fun _ _ => rfl)] at h2
    exact h2
theorem m_lc1 {V : PyData → PyData → Prop} {keep : PyData → Bool} (G : Good X) (hs : Src X a tg it ρ items) (hn : k + c * items.length ≤ n) (hz : items.length < 100000) (ok : BlkOk X.N X.env.scope scope own)
    (hg : ∀ (s : Shared) (H : Hp) (C : Addr) (cl : List (Str × Addr)) (fp : List Addr), PG (X.blk s H scope (compEnvC scope cl C X.env) fp) tg g) (ht : TgSem X.K a g (own.map (·.2)) f)
    (hb : ∀ d, d ∈ items → ∃ ρ2, f d (wipeR ρ (own.map (·.2))) = some ρ2 ∧ ∀ m, EvMTb X scope a t ρ2 (m + c) (m + ce) (· = keep d) ∧ (keep d = true → EvMb X scope a elt ρ2 (m + ce) m (V d))) (hP : ∀ ds, Fa2 V (items.filter keep) ds → P (.list ds))
    (hf : ∀ x, foldedSetIterable it X.env x = pure x := by intro _; rfl) : EvM X a (.ListComp elt [⟨tg, it, [t], 0⟩] scope pos) ρ n k P := fun T σ H S ms Q q => by
  obtain ⟨wi, hw, hq⟩ := hs
  refine toE (pe_lc (own := own) (te := JEb X scope elt) (tt := JTb X scope t) G.calm G.nd hw ok hg (fun s H0 C cl fp => pts_one ⟨fun pins s' σ' H' Q' I h => h s H0 C cl fp pins s' I⟩) (fun s H0 C cl fp => ⟨fun pins s' σ' H' Q' I h => h s H0 C cl fp pins s' I⟩) hf) ?_
  refine lcM_read (f := f) (V := V) (keep := keep) (ce := ce) S ms hn hz (hq _ σ H (S.hide ms)) ht (fun d hd => ?_) fun v ds H2 s2 ms2 p2 h2 => q v _ H2 s2 ms2 p2 (hP ds h2)
  obtain ⟨ρ2, e, k2⟩ := hb d hd
  refine ⟨ρ2, e, fun m => ⟨fun T σ H S ms Q q s H0 C cl fp => (k2 m).1 s H0 C cl fp T σ H S ms Q fun b H2 s2 ms2 hb => ?_, fun hk T σ H S ms Q q s H0 C cl fp => (k2 m).2 hk s H0 C cl fp T σ H S ms Q q⟩⟩
  rw [hb]
  exact q H2 s2 ms2
theorem qs_lc0 {i : Nat} {y : Str} {py spos : Pos} {V : PyData → PyData → Prop} (G : Good X) (hs : Src X a tg it ρ items) (hn : k + c * items.length ≤ n) (hz : items.length < 100000) (ok : BlkOk X.N X.env.scope scope own)
    (hg : ∀ (s : Shared) (H : Hp) (C : Addr) (cl : List (Str × Addr)) (fp : List Addr), PG (X.blk s H scope (compEnvC scope cl C X.env) fp) tg g) (ht : TgSem X.K a g (own.map (·.2)) f)
    (hb : ∀ d, d ∈ items → ∃ ρ2, f d (wipeR ρ (own.map (·.2))) = some ρ2 ∧ ∀ m, EvMb X scope a elt ρ2 (m + c) m (V d)) (hP : ∀ ds, Fa2 V items ds → N k (ρ.set i (some (.dat (.list ds)))))
    (hy : X.N[i]? = some y := by rfl) (hyl : X.env.scope.names.lookup y = some .local := by rfl)
    (hsw : swapsWith (.ListComp elt [⟨tg, it, [], 0⟩] scope pos) (some (.Name y py)) spos.line X.env = pure true := by exact sw_true rfl rfl rfl (by decide +kernel))
    (hf : ∀ x, foldedSetIterable it X.env x = pure x := by intro _; rfl) : RunMS X a (.Assign [.Name y py] (.ListComp elt [⟨tg, it, [], 0⟩] scope pos) spos) ρ n N R := fun T σ H D S ms kn kr => by
  obtain ⟨wi, hw, hq⟩ := hs
  refine toS (ps_setLc (own := own) (te := JEb X scope elt) (tt := tYes) G.calm G.nd hy hyl hsw hw ok hg (fun s H0 C cl fp => pts_nil) (fun s H0 C cl fp => ⟨fun pins s' σ' H' Q' I h => h s H0 C cl fp pins s' I⟩) hf) ?_
  refine lcM_read (f := f) (V := V) (keep := yes) (ce := c) S ms hn hz (hq _ σ H (S.hide ms)) ht (fun d hd => ?_) fun v ds H2 s2 ms2 p2 h2 => kn _ H2 _ k s2 ((S.kpo s2 ms).put (x := .dat _) p2) ms2 (hP ds ?_)
  · obtain ⟨ρ2, e, k2⟩ := hb d hd
    exact ⟨ρ2, e, fun m => ⟨fun T σ H S ms Q q => q H Kp.refl ms, fun hk T σ H S ms Q q s H0 C cl fp => k2 m s H0 C cl fp T σ H S ms Q q⟩⟩
  · rw [List.filter_eq_self.mpr (show ∀ z ∈ items, yes z = true from fun _ _ => rfl)] at h2
    exact h2
end
section
variable {P : Program} {w : World} {K : PySem.W.Frag} {mg : Str → Option Value} {base : Heap}
theorem SD.startM {a : Addr} {T : Addr → Prop} {H : Hp} {N : List Str} {vs : List V} {ds : List PyData} (t : Din T H) (h : DpAll K (off T H) vs ds) : SD K a T H (L2.start N (.ref a :: vs)) (some .hnd :: dats ds ++ List.replicate (N.length - (ds.length + 1)) none) := by
  have hl := dps_len h
  refine ⟨?_, t, fun i x e => ?_⟩
  · unfold L2.start dats
    simp [hl]
  · cases i with
    | zero =>
      cases (show some (some DV.hnd) = some (some x) from e)
      exact ⟨.ref a, rfl, rfl⟩
    | succ i =>
      have S := SD.start (a := a) (N := List.replicate (N.length - 1) "") t h
      obtain ⟨v, h1, h2⟩ := S.sl i x (by
        have e' : (dats ds ++ List.replicate (N.length - (ds.length + 1)) none)[i]? = some (some x) := e
        rw [List.length_replicate, show N.length - 1 - ds.length = N.length - (ds.length + 1) by omega]
        exact e')
      refine ⟨v, ?_, h2⟩
      have h1' : (vs.map some ++ List.replicate (N.length - 1 - vs.length) none)[i]? = some (some v) := by
        have h1 := h1
        unfold L2.start at h1
        rw [List.length_replicate] at h1
        exact h1
      show (vs.map some ++ List.replicate (N.length - (vs.length + 1)) none)[i]? = some (some v)
      rw [show N.length - (vs.length + 1) = N.length - 1 - vs.length by omega]
      exact h1'
theorem fnM {x qual : Str} {st : Stmt} {f : Addr} {fd : FuncData} {N ps : List Str} {k c : Nat} {R : List PyData → (PyData → Prop) → Prop} (F : Fun K x qual st f fd) (S : FnScope N ps (defScope st)) (hl : ∀ ds P, R ds P → ds.length + 1 = ps.length)
    (hb : ∀ (cdv : Value) (A : Around) (outer : List Env) (s : Shared) (H : Hp) (E : XK), Good (cxOf CX0 P w K mg base N qual (defScope st) f cdv A outer s H E).nox → Room k (cxOf CX0 P w K mg base N qual (defScope st) f cdv A outer s H E).nox.A →
      (cxOf CX0 P w K mg base N qual (defScope st) f cdv A outer s H E).nox.A.guards = some [] → ∀ a n ds Pd, R ds Pd →
      RunM (cxOf CX0 P w K mg base N qual (defScope st) f cdv A outer s H E).nox a (defBody st) (some .hnd :: dats ds ++ List.replicate (N.length - (ds.length + 1)) none) (n + c) (fun m _ => n ≤ m ∧ Pd .none) (fun m d => n ≤ m ∧ Pd d)) : FnG P w K mg base CX0 (k + 1) f fd ps (spM K c R) :=
  fnG F S (fun vs H Q E h => by
    obtain ⟨a, T, n, vs', ds, Pd, rfl, _, _, h2, h3, _⟩ := h
    rw [List.length_cons, dps_len h2]
    exact hl ds Pd h3) fun cdv A outer s H vs Q E hgd hr h => by
    obtain ⟨a, T, n, vs', ds, Pd, rfl, dm, ms, h2, h3, h4⟩ := h
    refine hb cdv A outer s H E ⟨S.nd, rfl, PassesOwn.never, hr.units⟩ hr hgd a n ds Pd h3 T _ H _ (SD.startM dm h2) ms (fun σ' H' ρ' m s1 S1 ms1 e => ?_) fun v H' d m s1 ms1 p e => ?_
    · exact h4 .non .none H' s1 (ms1.mono e.1) .non e.2
    · exact h4 v d H' s1 (ms1.mono e.1) p e.2
/-- a def that keeps all and asks for texts of data -/
theorem fnRG {x qual : Str} {st : Stmt} {f : Addr} {fd : FuncData} {N ps : List Str} {k : Nat} {R : List PyData → PyData → Prop} (F : Fun K x qual st f fd) (S : FnScope N ps (defScope st)) (hl : ∀ ds d, R ds d → ds.length = ps.length)
    (hb : ∀ (cdv : Value) (A : Around) (outer : List Env) (s : Shared) (H : Hp) (E : XK), Good (cxOf CX0 P w K mg base N qual (defScope st) f cdv A outer s H E).nox → Room k (cxOf CX0 P w K mg base N qual (defScope st) f cdv A outer s H E).nox.A →
      (cxOf CX0 P w K mg base N qual (defScope st) f cdv A outer s H E).nox.A.guards = some [] → ∀ ds d, R ds d →
      Run (cxOf CX0 P w K mg base N qual (defScope st) f cdv A outer s H E).nox 0 (defBody st) (dats ds ++ List.replicate (N.length - ds.length) none) (fun _ => d = .none) (fun d' => d' = d)) : FnG P w K mg base CX0 (k + 1) f fd ps (spR K R) :=
  fnG F S (fun vs H Q E h => by
    obtain ⟨T, ds, d, _, h1, h2, _⟩ := h
    rw [dps_len h1]
    exact hl ds d h2) fun cdv A outer s H vs Q E hgd hr h => by
    obtain ⟨T, ds, d, dm, h1, h2, h3⟩ := h
    refine hb cdv A outer s H E ⟨S.nd, rfl, PassesOwn.never, hr.units⟩ hr hgd ds d h2 T _ H _ (SD.start dm h1) (fun σ' H' ρ' s1 S1 e => ?_) fun v H' d' s1 p e => ?_
    · exact h3 _ H' s1 (by rw [e]; exact .non)
    · subst e
      exact h3 v H' s1 p
end
end Zj
/-! isinstance, and/or as values, calls by names. -/
namespace Zj
open PySem PySem.Spec PyProof.Rows L2
def tyD : PyData → String
  | .none => "NoneType"
  | .bool _ => "bool"
  | .int _ => "int"
  | .str _ => "str"
  | .list _ => "list"
  | .tuple _ => "tuple"
  | .dict _ => "dict"
section
variable {X : Cx} {a : Addr} {ρ : Rho} {e f : Expr} {es rest : List Expr} {pos p p2 : Pos} {d : PyData}
theorem dp_ty {K : PySem.W.Frag} {H : Hp} {v : V} (h : Dp K H v d) : TyX K H v (.type (tyD d)) := by
  cases h with
  | non => exact .base .non
  | bl b => exact .base (.bl b)
  | int i => exact .base (.int i)
  | str x => exact .base (.str x)
  | lst h1 h2 =>
    rcases h1 with (h | ⟨o, h⟩) | h
    · exact .base (.lst h)
    · exact .base (.frz h)
    · obtain ⟨o, its, n, e, c, _⟩ := h
      exact .kList e c
  | tup h1 h2 =>
    rcases h1 with (h | ⟨o, h⟩) | h
    · exact .base (.tup h)
    · exact .fTuple h
    · obtain ⟨o, its, n, e, c, _⟩ := h
      exact .kTuple e c
theorem e_isi {ty : Str} {tn : String} {b : Bool} (h : EvE X a e ρ d) (hk : kitB (tyD d) tn = some b) (hv : bootBuiltins ty = some (.type tn)) (hm : X.mg "isinstance" = none) (hmT : X.mg ty = none) (hg : Gl X "isinstance" := by rfl) (hgT : Gl X ty := by rfl)
    (hn : ty ≠ "__name__" := by decide) (hd : (ty == ("__debug__" : Str)) = false := by decide)
    (hs1 : starEach (e :: [.Name ty p2]) X.env = (false, eval e X.env) :: starEach [.Name ty p2] X.env := by rfl) (hs2 : starEach (.Name ty p2 :: []) X.env = (false, eval (.Name ty p2) X.env) :: starEach [] X.env := by rfl)
    (hpl : (backTo pos (starEach [.Name ty p2] X.env)).any (·.1) = false := by rfl) :
    EvE X a (.Call (.Name "isinstance" p) [e, .Name ty p2] [] pos) ρ (.bool b) := fun T σ H S Q q =>
  toE (pe_callB call_isi hg hm (by decide +kernel) (pa_cons je (pa_cons (pe_bltn (v := .ty tn) hgT hmT hv rfl hn hd) pa_nil hs2) hs1) (by decide) (by decide) hs1 hpl) (h T σ H S _ fun v H1 s1 p1 =>
    ⟨v, .ty tn, _, _, b, rfl, .ty tn, dp_ty (dp_off p1), kit_ty hk, q _ H1 s1 (.bl b)⟩)
theorem e_one {op} (h : EvE X a e ρ d) : EvE X a (.BoolOp op [e] pos) ρ d := fun T σ H S Q q => toE (pe_one je) (h T σ H S Q q)
theorem e_andT (h : EvE X a e ρ (.bool true)) (h2 : EvE X a (.BoolOp .And (f :: rest) pos) ρ d) : EvE X a (.BoolOp .And (e :: f :: rest) pos) ρ d := fun T σ H S Q q =>
  toE (pe_and je je) (h T σ H S _ fun v H1 s1 p1 => ⟨true, dp_bool p1, iteT (h2 T σ H1 (S.same s1) _ fun v H2 s2 p => q v H2 (s1.trans s2) p)⟩)
theorem e_andF (h : EvE X a e ρ (.bool false)) (hd : d = .bool false) : EvE X a (.BoolOp .And (e :: f :: rest) pos) ρ d := fun T σ H S Q q =>
  toE (pe_and je je) (h T σ H S _ fun v H1 s1 p1 => ⟨false, dp_bool p1, iteF (q _ H1 s1 (by subst hd; exact .bl false))⟩)
theorem e_not {b : Bool} (h : EvE X a e ρ (.bool b)) : EvE X a (.UnaryOp .Not e pos) ρ (.bool (!b)) := fun T σ H S Q q =>
  toE (pe_not je) (h T σ H S _ fun v H1 s1 p1 => ⟨b, dp_bool p1, q _ H1 s1 (.bl _)⟩)
/-- an 'and', an 'or' as a test is its own whole -/
theorem pw_self {op} {l : List Expr} : PW X (.BoolOp op l pos) (JT X (.BoolOp op l pos)) := ⟨fun wh pins s σ H Q I h => by
  have h1 := h pins s I
  simp only [PySem.isTrue] at h1 ⊢
  exact h1⟩
/-- or, and as tests, the first part known -/
theorem t_orF {b : Bool} (h : EvT X a e ρ false) (h2 : EvT X a (.BoolOp .Or (f :: rest) pos) ρ b) : EvT X a (.BoolOp .Or (e :: f :: rest) pos) ρ b := fun T σ H S Q q =>
  toT (PW.pt (pw_or jt pw_self)) (h T σ H S _ fun H1 s1 => iteF (h2 T σ H1 (S.same s1) _ fun H2 s2 => q H2 (s1.trans s2)))
theorem t_orT (h : EvT X a e ρ true) : EvT X a (.BoolOp .Or (e :: f :: rest) pos) ρ true := fun T σ H S Q q =>
  toT (PW.pt (pw_or jt pw_self)) (h T σ H S _ fun H1 s1 => iteT (q H1 s1))
theorem t_andT {b : Bool} (h : EvT X a e ρ true) (h2 : EvT X a (.BoolOp .And (f :: rest) pos) ρ b) : EvT X a (.BoolOp .And (e :: f :: rest) pos) ρ b := fun T σ H S Q q =>
  toT (PW.pt (pw_and jt pw_self)) (h T σ H S _ fun H1 s1 => iteT (h2 T σ H1 (S.same s1) _ fun H2 s2 => q H2 (s1.trans s2)))
theorem t_andF (h : EvT X a e ρ false) : EvT X a (.BoolOp .And (e :: f :: rest) pos) ρ false := fun T σ H S Q q =>
  toT (PW.pt (pw_and jt pw_self)) (h T σ H S _ fun H1 s1 => iteF (q H1 s1))
theorem mt_or {PB : Bool → Prop} {n m k : Nat} (h : EvMT X a e ρ n m fun b => b = false) (h2 : EvMT X a (.BoolOp .Or (f :: rest) pos) ρ m k PB) : EvMT X a (.BoolOp .Or (e :: f :: rest) pos) ρ n k PB := mt_orF h h2 pw_self
theorem mt_or1 {PB : Bool → Prop} {n m : Nat} (h : EvMT X a e ρ n m PB) : EvMT X a (.BoolOp .Or [e] pos) ρ n m PB := fun T σ H S ms Q q => toT (PW.pt (pw_or1 jt)) (h T σ H S ms Q q)
end

/-! calls by names alone -/
structure CalK (P : Program) (w : World) (K : PySem.W.Frag) (mg : Str → Option Value) (base : Heap) (k : Nat) (x : Str) (st : Stmt) (ps : List Str) (sp : Sp) : Prop where
  ex : ∃ f fd, Fun K x x st f fd ∧ FnOk P w K mg base CX0 k f fd ps sp ∧ mg x = some (.ref f)
section
variable {X : Cx} {a : Addr} {ρ : Rho} {e : Expr} {kws : List Keyword} {pos p kpos : Pos} {d : PyData} {ds : List PyData} {nm : Option Str}
def JK (X : Cx) (kws : List Keyword) : TA := fun σ H Q => ∀ pos pins s, Inv X pins σ H s → wpAny (model X.prog X.w) X.A (evalAll ((backToKw pos (keywordEach kws X.env)).map (·.2))) (AP X pins σ Q) X.xe s
theorem jk : PK X kws (JK X kws) := ⟨fun pos pins s _ _ _ I h => h pos pins s I⟩
def EvK (X : Cx) (a : Addr) (kws : List Keyword) (ρ : Rho) (ds : List PyData) : Prop := ∀ T σ H, SD X.K a T H σ ρ → ∀ Q : List V → Hp → Prop, (∀ vs H2, Same H H2 → DpAll X.K (off T H2) vs ds → Q vs H2) → JK X kws σ H Q
theorem k_nil : EvK X a [] ρ [] := fun T σ H S Q q pos pins s I => pk_nil.run pos pins s σ H Q I (q _ H (Same.refl H) .nil)
theorem k_cons (h : EvE X a e ρ d) (h2 : EvK X a kws ρ ds) : EvK X a (⟨nm, e, kpos⟩ :: kws) ρ (d :: ds) := fun T σ H S Q q pos pins s I =>
  (pk_cons (nm := nm) (kpos := kpos) je jk).run pos pins s σ H Q I (h T σ H S _ fun v H1 s1 p1 => h2 T σ H1 (S.same s1) _ fun vs H2 s2 p2 => q _ H2 (s1.trans s2) (.cons (dpo s2 p1) p2))
/-- f(k = v, ..), two names; fl: they stand in the other order -/
def turn2 (fl : Bool) {α : Type} : List α → List α
  | [x, y] => if fl then [y, x] else [x, y]
  | l => l
def gK (fl : Bool) {α : Type} (us ws : List α) : List α := match us with
  | [] => turn2 fl ws
  | _ => []
theorem turn2_len {fl : Bool} {α : Type} (l : List α) : (turn2 fl l).length = l.length := by
  unfold turn2
  split
  · cases fl <;> rfl
  · rfl
theorem turn2_vals {fl : Bool} {vs : List V} {us : List Value} (r : Vals vs us) : Vals (turn2 fl vs) (turn2 fl us) := by
  unfold turn2
  cases r with
  | nil => exact .nil
  | cons a r =>
    cases r with
    | nil => exact .cons a .nil
    | cons b r =>
      cases r with
      | nil =>
        cases fl
        · exact .cons a (.cons b .nil)
        · exact .cons b (.cons a .nil)
      | cons c r => exact .cons a (.cons b (.cons c r))
theorem turn2_dps {fl : Bool} {K : PySem.W.Frag} {H : Hp} {vs : List V} (r : DpAll K H vs ds) : DpAll K H (turn2 fl vs) (turn2 fl ds) := by
  unfold turn2
  cases r with
  | nil => exact .nil
  | cons a r =>
    cases r with
    | nil => exact .cons a .nil
    | cons b r =>
      cases r with
      | nil =>
        cases fl
        · exact .cons a (.cons b .nil)
        · exact .cons b (.cons a .nil)
      | cons c r => exact .cons a (.cons b (.cons c r))
theorem pe_callK0 {CX : CXT} {k : Nat} {f : Addr} {fd : FuncData} {ps ks : List Str} {sp : Sp} {E : XK} {x : Str} {g : List Value → List Value → List Value} {gV : List V → List V → List V} {tk : TA} (F : FnOk X.prog X.w X.K X.mg X.base CX k f fd ps sp) (hr : Room k X.A) (hg : Gl X x) (hm : X.mg x = some (.ref f)) (hk : PySem.W.keepIn X.K (.ref f) = true) (hb : KBinds X.K fd ps ks g gV) (hx : Passes CX X E)
    (hkw : PK X kws tk) (hall : (backToKw pos (keywordEach kws X.env)).all (·.1.isSome) = true) (hks : (backToKw pos (keywordEach kws X.env)).filterMap (·.1) = ks) (hdb : (x == ("__debug__" : Str)) = false)
    (hpl : ((backTo pos (starEach [] X.env)).any (·.1) || (backToKw pos (keywordEach kws X.env)).any (·.1.isNone)) = false) :
    PE X (.Call (.Name x p) [] kws pos) (fun σ H Q => tk σ H fun zs H2 => sp (gV [] zs) H2 Q E) := by
  refine ⟨fun pins s σ H Q I h => ?_⟩
  refine wpAny_Call_Name_kw (ld_glob I hg hm ?_ hdb)
  refine PySem.W.callWith_KW0 (h₀ := X.base) I.ok.mod.kin hk hall (thn (hkw.run pos pins s σ H _ I h) fun ws s2 hv => ?_) hpl
  obtain ⟨zs, H2, I2, rz, q2⟩ := hv
  refine ⟨I2.kIn, ?_⟩
  rw [hks]
  exact run_fnk F hr hb hx I2 (us := []) (vs := []) .nil rz q2
theorem e_callK {lv : Nat} {x : Str} {st : Stmt} {ps ks : List Str} {R : List PyData → PyData → Prop} (fl : Bool) (hne : ps ≠ []) (C : CalK X.prog X.w X.K X.mg X.base lv x st ps (spR X.K R)) (hr : Room lv X.A) (ha : EvK X a kws ρ ds) (hR : R (turn2 fl ds) d)
    (hb : ∀ (kV doc pm : Value) (an : Option Addr) (cdv ct : Value) (ws : List Value), ws.length = ps.length → bindArgs (PySem.W.fnOf x x (defArgs st) (defBody st) (defScope st) .none kV doc pm an cdv ct) ⟨[], ks.zip ws⟩ = pure (ps.zip (turn2 fl ws)))
    (hg : Gl X x := by rfl) (hall : (backToKw pos (keywordEach kws X.env)).all (·.1.isSome) = true := by rfl) (hks : (backToKw pos (keywordEach kws X.env)).filterMap (·.1) = ks := by rfl)
    (hdb : (x == ("__debug__" : Str)) = false := by decide) (hpl : ((backTo pos (starEach [] X.env)).any (·.1) || (backToKw pos (keywordEach kws X.env)).any (·.1.isNone)) = false := by rfl) :
    EvE X a (.Call (.Name x p) [] kws pos) ρ d := fun T σ H S Q q => by
  obtain ⟨f, fd, F, FO, hm⟩ := C.ex
  have hk := F.kp
  obtain ⟨oc, od, kV, doc, pm, an, cdv, ct, osl, rfl, lk, hcd⟩ := F.ex
  have KB : KBinds X.K (PySem.W.fnOf x x (defArgs st) (defBody st) (defScope st) .none kV doc pm an cdv ct) ps ks (gK fl) (gK fl) := {
    to := fun s us ws _ hl => by
      cases us with
      | nil => exact .of_eq (hb kV doc pm an cdv ct ws (by rw [← hl]; exact (turn2_len ws).symm))
      | cons u us =>
        cases ps with
        | nil => exact (hne rfl).elim
        | cons _ _ => cases hl
    rel := fun {vs us zs ws} r rz => by
      cases r with
      | nil => exact turn2_vals rz
      | cons _ _ => exact .nil }
  exact toE (pe_callK0 (E := E0) FO hr hg hm hk KB pass0 jk hall hks hdb hpl) (ha T σ H S _ fun vs H1 s1 p1 => ⟨T, _, d, S.dm.same s1, turn2_dps p1, hR, fun v H2 s2 p2 => q v H2 (s1.trans s2) p2⟩)
end
end Zj
/-! Whole numbers, rows of them: plain mathematics. -/
namespace Zj
open PySem PySem.Spec PyProof.Rows L2
abbrev tI (xs : List Int) : PyData := .tuple (xs.map .int)
abbrev lI (xs : List Int) : PyData := .list (xs.map .int)
/-- all of them below n binary figures -/
def BitsL (n : Nat) (xs : List Int) : Prop := ∀ x ∈ xs, Bits n x
theorem Bits.mono {m n : Nat} {x : Int} (h : Bits m x) (l : m ≤ n) : Bits n x := Nat.lt_of_lt_of_le h (Nat.pow_le_pow_right (by decide) l)
theorem BitsL.mono {m n : Nat} {xs : List Int} (h : BitsL m xs) (l : m ≤ n) : BitsL n xs := fun x hx => (h x hx).mono l
theorem Bits.mul {m n : Nat} {x y : Int} (h : Bits m x) (l : Bits n y) : Bits (m + n) (x * y) := by
  unfold Bits at *
  rw [Int.natAbs_mul, Nat.pow_add]
  exact Nat.mul_lt_mul'' h l
theorem Bits.add {m : Nat} {x y : Int} (h : Bits m x) (l : Bits m y) : Bits (m + 1) (x + y) := by
  unfold Bits at *
  rw [Nat.pow_succ]
  omega
theorem Bits.sub {m : Nat} {x y : Int} (h : Bits m x) (l : Bits m y) : Bits (m + 1) (x - y) := by
  unfold Bits at *
  rw [Nat.pow_succ]
  omega
theorem Bits.neg {m : Nat} {x : Int} (h : Bits m x) : Bits m (-x) := by
  unfold Bits at *
  rw [Int.natAbs_neg]
  exact h
theorem Bits.log {m : Nat} {x : Int} (h : Bits m x) (h0 : 0 < m) : x.natAbs.log2 < m := PySem.Flt.log2_lt_of h0 h
theorem Bits.le {m : Nat} {x y : Int} (h : Bits m y) (l : x.natAbs ≤ y.natAbs) : Bits m x := Nat.lt_of_le_of_lt l h
def gcdL (xs : List Int) : Nat := xs.foldl (fun g x => Nat.gcd g x.natAbs) 0
theorem gcd_fold (xs : List Int) (g : Nat) : xs.foldl (fun g x => Nat.gcd g x.natAbs) g = Nat.gcd g (gcdL xs) := by
  induction xs generalizing g with
  | nil =>
    show g = Nat.gcd g 0
    rw [Nat.gcd_zero_right]
  | cons x xs ih =>
    show xs.foldl _ (Nat.gcd g x.natAbs) = Nat.gcd g (xs.foldl _ (Nat.gcd 0 x.natAbs))
    rw [ih, ih, Nat.gcd_zero_left, Nat.gcd_assoc]
theorem gcdL_cons (x : Int) (xs : List Int) : gcdL (x :: xs) = Nat.gcd x.natAbs (gcdL xs) := by
  show xs.foldl _ (Nat.gcd 0 x.natAbs) = _
  rw [gcd_fold, Nat.gcd_zero_left]
theorem gcdL_nil : gcdL [] = 0 := rfl
theorem gcdL_append (xs ys : List Int) : gcdL (xs ++ ys) = Nat.gcd (gcdL xs) (gcdL ys) := by
  unfold gcdL
  rw [List.foldl_append, gcd_fold]
  rfl
theorem gcdL_dvd {xs : List Int} {x : Int} (h : x ∈ xs) : (gcdL xs : Int) ∣ x := by
  induction xs with
  | nil => cases h
  | cons y ys ih =>
    rw [gcdL_cons]
    rcases List.mem_cons.mp h with e | e
    · subst e
      exact Int.ofNat_dvd_left.mpr (Nat.gcd_dvd_left _ _)
    · exact Int.dvd_trans (Int.ofNat_dvd.mpr (Nat.gcd_dvd_right _ _)) (ih e)
theorem gcdL_zero {xs : List Int} (h : gcdL xs = 0) : ∀ x ∈ xs, x = 0 := fun x hx => by
  have := gcdL_dvd hx
  rw [h] at this
  exact Int.zero_dvd.mp this
theorem gcdL_le {xs : List Int} {x : Int} (h : x ∈ xs) (h0 : x ≠ 0) : gcdL xs ≤ x.natAbs := by
  have h1 : gcdL xs ∣ x.natAbs := Int.natAbs_dvd_natAbs.mpr (gcdL_dvd h) |> fun z => by simpa using z
  exact Nat.le_of_dvd (by omega) h1
theorem gcdL_bits {xs : List Int} {n : Nat} (h : BitsL n xs) : Bits n (gcdL xs : Int) := by
  by_cases h0 : gcdL xs = 0
  · rw [h0]
    show (0 : Nat) < 2 ^ n
    exact Nat.pow_pos (by decide)
  · have : ∃ x ∈ xs, x ≠ 0 := Classical.byContradiction fun hn => h0 (by
      have hz : ∀ x ∈ xs, x = 0 := fun x hx => Classical.byContradiction fun z => hn ⟨x, hx, z⟩
      clear hn h0 h
      induction xs with
      | nil => rfl
      | cons y ys ih =>
        rw [gcdL_cons, ih (fun x hx => hz x (List.mem_cons_of_mem _ hx)), hz y List.mem_cons_self]
        rfl)
    obtain ⟨x, hx, hx0⟩ := this
    exact (h x hx).le (by simpa using gcdL_le hx hx0)
/-- divided by what all are multiples of -/
def shortL (xs : List Int) : List Int := if gcdL xs < 2 then xs else xs.map fun x => x.fdiv (gcdL xs : Int)
theorem shortL_len (xs : List Int) : (shortL xs).length = xs.length := by
  unfold shortL
  split
  · rfl
  · rw [List.length_map]
theorem fdiv_le {x : Int} {g : Nat} : (x.fdiv (g : Int)).natAbs ≤ x.natAbs := by
  by_cases hg : g = 0
  · subst hg
    simp
  · rw [Int.fdiv_eq_ediv_of_nonneg x (by omega)]
    exact Int.natAbs_ediv_le_natAbs x g
theorem shortL_bits {xs : List Int} {n : Nat} (h : BitsL n xs) : BitsL n (shortL xs) := fun y hy => by
  unfold shortL at hy
  split at hy
  · exact h y hy
  · obtain ⟨x, hx, rfl⟩ := List.mem_map.mp hy
    exact (h x hx).le fdiv_le
/-- it is one multiple of the short ones -/
theorem shortL_mul (xs : List Int) (h : ∃ x ∈ xs, x ≠ 0) : 0 < gcdL xs ∧ xs = (shortL xs).map fun y => (gcdL xs : Int) * y := by
  have hg : 0 < gcdL xs := Nat.pos_of_ne_zero fun z => by
    obtain ⟨x, hx, h0⟩ := h
    exact h0 (gcdL_zero z x hx)
  refine ⟨hg, ?_⟩
  unfold shortL
  split
  · have : gcdL xs = 1 := by omega
    rw [this]
    simp
  · rw [List.map_map]
    conv => lhs; rw [← List.map_id xs]
    refine List.map_congr_left fun x hx => ?_
    obtain ⟨c, hc⟩ := gcdL_dvd hx
    show x = (gcdL xs : Int) * x.fdiv (gcdL xs : Int)
    rw [Int.fdiv_eq_ediv_of_nonneg x (by omega)]
    conv => rhs; rw [hc]
    rw [Int.mul_ediv_cancel_left c (by omega)]
    exact hc
def sgn (n : Int) : Int := if 0 < n then 1 else if n < 0 then -1 else 0
def dot (xs ys : List Int) : Int := (List.zipWith (· * ·) xs ys).sum
/-- the place of the first that is not 0 -/
def lead (xs : List Int) : Option Nat := xs.findIdx? fun x => !(x == 0)
def planeL (row : List Int) : Option (List Int) := match lead row.dropLast with
  | none => none
  | some p => some (if (shortL row).getD p 0 < 0 then (shortL row).map (fun x => -x) else shortL row)
def planeD (row : List Int) : PyData := match planeL row with
  | none => .none
  | some xs => tI xs
def fracL (top bottom : Int) : List Int := if 0 < bottom then shortL [top, bottom] else (shortL [top, bottom]).map fun x => -x
def pointL (ns : List Int) (b : Int) : List Int := shortL (ns.map (fun x => (if 0 < b then 1 else -1) * x) ++ [(if 0 < b then 1 else -1) * b])
/-! what is walked, in pairs -/
def onPair (g : Int → Int → Int) : PyData → PyData
  | .tuple [.int x, .int y] => .int (g x y)
  | _ => .none
theorem mem_zipI {xs ys : List Int} {d : PyData} (h : d ∈ List.zipWith (fun x y => PyData.tuple [x, y]) (xs.map .int) (ys.map .int)) : ∃ x ∈ xs, ∃ y ∈ ys, d = .tuple [.int x, .int y] := by
  induction xs generalizing ys with
  | nil => cases h
  | cons x xs ih =>
    cases ys with
    | nil => cases h
    | cons y ys =>
      rcases List.mem_cons.mp h with e | e
      · exact ⟨x, List.mem_cons_self, y, List.mem_cons_self, e⟩
      · obtain ⟨x', h1, y', h2, e'⟩ := ih e
        exact ⟨x', List.mem_cons_of_mem _ h1, y', List.mem_cons_of_mem _ h2, e'⟩
theorem zipI_map (g : Int → Int → Int) (xs ys : List Int) : (List.zipWith (fun x y => PyData.tuple [x, y]) (xs.map .int) (ys.map .int)).map (onPair g) = (List.zipWith g xs ys).map .int := by
  induction xs generalizing ys with
  | nil => rfl
  | cons x xs ih =>
    cases ys with
    | nil => rfl
    | cons y ys =>
      show PyData.int (g x y) :: _ = PyData.int (g x y) :: _
      rw [← ih ys]
def onInt (g : Int → Int) : PyData → PyData
  | .int x => .int (g x)
  | _ => .none
theorem mapI (g : Int → Int) (xs : List Int) : (xs.map PyData.int).map (onInt g) = (xs.map g).map .int := by
  rw [List.map_map, List.map_map] <;> rfl
theorem mem_mapI {xs : List Int} {d : PyData} (h : d ∈ xs.map PyData.int) : ∃ x ∈ xs, d = .int x := by
  obtain ⟨x, hx, e⟩ := List.mem_map.mp h
  exact ⟨x, hx, e.symm⟩
end Zj
/-! More plain mathematics: places, parts. -/
namespace Zj
open PySem PySem.Spec PyProof.Rows L2
theorem six_none (n d : Nat) : HT.sIx n d none = d := HT.sIx_none n d
theorem six_last (n d : Nat) (h : 1 ≤ n) : HT.sIx n d (some (-1)) = n - 1 := by
  have e := HT.clip_eq (-1) n d
  rw [if_pos (by decide)] at e
  have : max ((-1 : Int) + (n : Int)) 0 = ((n - 1 : Nat) : Int) := by omega
  rw [this] at e
  exact (Int.ofNat.inj e).symm
theorem cutD_init (ds : List PyData) (h : 1 ≤ ds.length) : cutD ds none (some (-1)) = ds.dropLast := by
  unfold cutD
  rw [six_none, six_last _ _ h, List.drop_zero, Nat.sub_zero, List.dropLast_eq_take]
theorem cutD_tail (ds : List PyData) (h : 1 ≤ ds.length) : cutD ds (some (-1)) none = ds.drop (ds.length - 1) := by
  unfold cutD
  rw [six_none, six_last _ _ h]
  exact List.take_of_length_le (by rw [List.length_drop]; exact Nat.le_refl _)
theorem cut_part (ds : List PyData) (h : 1 ≤ ds.length) : ¬ (HT.sIx ds.length 0 none = 0 ∧ HT.sIx ds.length ds.length (some (-1)) = ds.length) := by
  rw [six_last _ _ h]
  omega
theorem ati_last {α : Type} {xs : List α} {x : α} (h : xs.getLast? = some x) : atI xs (-1) = some x := by
  obtain ⟨l, rfl⟩ : ∃ l, xs = l ++ [x] := List.getLast?_eq_some_iff.mp h
  exact atI_last l x
theorem ati_of {α : Type} {xs : List α} {i : Int} {j : Nat} {x : α} (e : i = (j : Int)) (h : xs[j]? = some x) : atI xs i = some x := by
  rw [e]
  exact atI_nat h
theorem lastI {xs : List Int} {x : Int} (h : xs.getLast? = some x) : (xs.map PyData.int).getLast? = some (.int x) := by
  rw [List.getLast?_map, h] <;> rfl
theorem initI (xs : List Int) : (xs.map PyData.int).dropLast = xs.dropLast.map .int := (List.map_dropLast).symm
def wholeD : PyData → Bool
  | .int _ => true
  | _ => false
def badAt (ds : List PyData) : Option Nat := ds.findIdx? fun x => !wholeD x
def placeD : Option Nat → PyData
  | some k => .int (k : Int)
  | none => .none
def wrongD (v : PyData) (m : Int) : PyData := match v with
  | .tuple ds => if (ds.length : Int) = m then placeD (badAt ds) else .int (-1)
  | _ => .int (-1)
theorem badAt_ints (xs : List Int) : badAt (xs.map .int) = none := by
  unfold badAt
  rw [List.findIdx?_eq_none_iff]
  intro x hx
  obtain ⟨i, _, rfl⟩ := List.mem_map.mp hx
  rfl
/-- the first place of which something holds, told turn by turn -/
theorem find_hit {α : Type} {p : α → Bool} {xs : List α} {n : Nat} {x : α} (h : xs[n]? = some x) (hx : p x = true) (hb : ∀ i y, i < n → xs[i]? = some y → p y = false) : xs.findIdx? p = some n := by
  rw [List.findIdx?_eq_some_iff_getElem]
  obtain ⟨hn1, hn2⟩ := (List.getElem?_eq_some_iff.mp h)
  refine ⟨hn1, by rw [hn2]; exact hx, fun j hj => ?_⟩
  have hj' : j < xs.length := by omega
  have := hb j xs[j] hj (by simp)
  rw [this]
  exact Bool.false_ne_true
theorem find_miss {α : Type} {p : α → Bool} {xs : List α} (hb : ∀ i y, i < xs.length → xs[i]? = some y → p y = false) : xs.findIdx? p = none := by
  rw [List.findIdx?_eq_none_iff]
  intro x hx
  obtain ⟨i, hi, e⟩ := List.getElem_of_mem hx
  exact hb i x hi (by rw [← e]; simp)
theorem gcdL_take {xs : List Int} {n : Nat} {x : Int} (h : xs[n]? = some x) : gcdL (xs.take (n + 1)) = Nat.gcd (gcdL (xs.take n)) x.natAbs := by
  rw [List.take_add_one, h]
  show gcdL (xs.take n ++ [x]) = _
  rw [gcdL_append, gcdL_cons, gcdL_nil, Nat.gcd_zero_right]
theorem getI {xs : List Int} {n : Nat} {d : PyData} (h : (xs.map PyData.int)[n]? = some d) : ∃ x, xs[n]? = some x ∧ d = .int x := by
  rw [List.getElem?_map] at h
  cases e : xs[n]? with
  | none => rw [e] at h; cases h
  | some x => rw [e] at h; cases h; exact ⟨x, rfl, rfl⟩
theorem getN {ds : List PyData} {n : Nat} {d : PyData} (h : (numbered ds)[n]? = some d) : ∃ x, ds[n]? = some x ∧ d = .tuple [.int (n : Int), x] := by
  unfold numbered at h
  rw [List.getElem?_map] at h
  by_cases hn : n < ds.length
  · rw [List.getElem?_range hn] at h
    cases h
    refine ⟨ds[n], by simp, ?_⟩
    show PyData.tuple [.int (n : Int), ds.getD n .none] = _
    rw [List.getD_eq_getElem?_getD, List.getElem?_eq_getElem hn] <;> rfl
  · rw [List.getElem?_eq_none (by simpa using hn)] at h
    cases h
theorem mem_numbered {ds : List PyData} {d : PyData} (h : d ∈ numbered ds) : ∃ (n : Nat) (x : PyData), ds[n]? = some x ∧ d = .tuple [.int (n : Int), x] := by
  obtain ⟨n, hn, e⟩ := List.getElem_of_mem h
  obtain ⟨x, h1, h2⟩ := getN (show (numbered ds)[n]? = some d by rw [← e]; simp)
  exact ⟨n, x, h1, h2⟩
theorem numbered_len (ds : List PyData) : (numbered ds).length = ds.length := by simp [numbered]
/-- a fraction of two numbers, by any common divisor of the right sign -/
theorem frac_lowest {t b : Int} (hb : b ≠ 0) : ([t.fdiv (if b < 0 then -((Nat.gcd t.natAbs b.natAbs : Nat) : Int) else ((Nat.gcd t.natAbs b.natAbs : Nat) : Int)), b.fdiv (if b < 0 then -((Nat.gcd t.natAbs b.natAbs : Nat) : Int) else ((Nat.gcd t.natAbs b.natAbs : Nat) : Int))] : List Int) = fracL t b := by
  have eg : gcdL [t, b] = Nat.gcd t.natAbs b.natAbs := by rw [gcdL_cons, gcdL_cons, gcdL_nil, Nat.gcd_zero_right]
  have gp : 0 < Nat.gcd t.natAbs b.natAbs := Nat.gcd_pos_of_pos_right _ (by omega)
  have d1 : ((Nat.gcd t.natAbs b.natAbs : Nat) : Int) ∣ t := Int.ofNat_dvd_left.mpr (Nat.gcd_dvd_left _ _)
  have d2 : ((Nat.gcd t.natAbs b.natAbs : Nat) : Int) ∣ b := Int.ofNat_dvd_left.mpr (Nat.gcd_dvd_right _ _)
  have sh : shortL [t, b] = [t.fdiv ((Nat.gcd t.natAbs b.natAbs : Nat) : Int), b.fdiv ((Nat.gcd t.natAbs b.natAbs : Nat) : Int)] := by
    unfold shortL
    rw [eg]
    split
    · have : Nat.gcd t.natAbs b.natAbs = 1 := by omega
      rw [this]
      simp
    · rfl
  have neg : ∀ x : Int, ((Nat.gcd t.natAbs b.natAbs : Nat) : Int) ∣ x → x.fdiv (-((Nat.gcd t.natAbs b.natAbs : Nat) : Int)) = -(x.fdiv ((Nat.gcd t.natAbs b.natAbs : Nat) : Int)) := fun x ⟨c, hc⟩ => by
    have g0 : ((Nat.gcd t.natAbs b.natAbs : Nat) : Int) ≠ 0 := by omega
    generalize ((Nat.gcd t.natAbs b.natAbs : Nat) : Int) = g at g0 hc ⊢
    have e1 : x.fdiv g = c := by rw [hc]; exact Int.mul_fdiv_cancel_left c g0
    have e2 : x.fdiv (-g) = -c := by
      rw [hc, show g * c = (-g) * (-c) by rw [Int.neg_mul_neg]]
      exact Int.mul_fdiv_cancel_left (-c) (by omega)
    rw [e1, e2]
  unfold fracL
  rw [sh]
  by_cases h : b < 0
  · rw [if_pos h, if_neg (by omega), neg t d1, neg b d2] <;> rfl
  · rw [if_neg h, if_pos (by omega)]
def intD : PyData → Bool
  | .int _ | .bool _ => true
  | _ => false
def boolD : PyData → Bool
  | .bool _ => true
  | _ => false
def tupD : PyData → Bool
  | .tuple _ => true
  | _ => false
theorem kit_int (d : PyData) : kitB (tyD d) "int" = some (intD d) := by
  cases d with
  | none => show kitB "NoneType" "int" = some false; decide +kernel
  | bool b => show kitB "bool" "int" = some true; decide +kernel
  | int b => show kitB "int" "int" = some true; decide +kernel
  | str b => show kitB "str" "int" = some false; decide +kernel
  | list b => show kitB "list" "int" = some false; decide +kernel
  | tuple b => show kitB "tuple" "int" = some false; decide +kernel
  | dict b => show kitB "dict" "int" = some false; decide +kernel
theorem kit_bool (d : PyData) : kitB (tyD d) "bool" = some (boolD d) := by
  cases d with
  | none => show kitB "NoneType" "bool" = some false; decide +kernel
  | bool b => show kitB "bool" "bool" = some true; decide +kernel
  | int b => show kitB "int" "bool" = some false; decide +kernel
  | str b => show kitB "str" "bool" = some false; decide +kernel
  | list b => show kitB "list" "bool" = some false; decide +kernel
  | tuple b => show kitB "tuple" "bool" = some false; decide +kernel
  | dict b => show kitB "dict" "bool" = some false; decide +kernel
theorem kit_tup (d : PyData) : kitB (tyD d) "tuple" = some (tupD d) := by
  cases d with
  | none => show kitB "NoneType" "tuple" = some false; decide +kernel
  | bool b => show kitB "bool" "tuple" = some false; decide +kernel
  | int b => show kitB "int" "tuple" = some false; decide +kernel
  | str b => show kitB "str" "tuple" = some false; decide +kernel
  | list b => show kitB "list" "tuple" = some false; decide +kernel
  | tuple b => show kitB "tuple" "tuple" = some true; decide +kernel
  | dict b => show kitB "dict" "tuple" = some false; decide +kernel
theorem whole_is (d : PyData) : wholeD d = (intD d && !boolD d) := by cases d <;> rfl
section
variable {X : Cx} {a : Addr} {ρ : Rho} {e : Expr} {pos p p2 : Pos} {d : PyData}
theorem e_isInt (h : EvE X a e ρ d) (hm : X.mg "isinstance" = none) (hmT : X.mg "int" = none) (hg : Gl X "isinstance" := by rfl) (hgT : Gl X "int" := by rfl)
    (hs1 : starEach (e :: [.Name "int" p2]) X.env = (false, eval e X.env) :: starEach [.Name "int" p2] X.env := by rfl) (hs2 : starEach (.Name "int" p2 :: []) X.env = (false, eval (.Name "int" p2) X.env) :: starEach [] X.env := by rfl)
    (hpl : (backTo pos (starEach [.Name "int" p2] X.env)).any (·.1) = false := by rfl) : EvE X a (.Call (.Name "isinstance" p) [e, .Name "int" p2] [] pos) ρ (.bool (intD d)) :=
  e_isi (tn := "int") h (kit_int d) (by decide +kernel) hm hmT hg hgT (by decide) (by decide) hs1 hs2 hpl
theorem e_isBool (h : EvE X a e ρ d) (hm : X.mg "isinstance" = none) (hmT : X.mg "bool" = none) (hg : Gl X "isinstance" := by rfl) (hgT : Gl X "bool" := by rfl)
    (hs1 : starEach (e :: [.Name "bool" p2]) X.env = (false, eval e X.env) :: starEach [.Name "bool" p2] X.env := by rfl) (hs2 : starEach (.Name "bool" p2 :: []) X.env = (false, eval (.Name "bool" p2) X.env) :: starEach [] X.env := by rfl)
    (hpl : (backTo pos (starEach [.Name "bool" p2] X.env)).any (·.1) = false := by rfl) : EvE X a (.Call (.Name "isinstance" p) [e, .Name "bool" p2] [] pos) ρ (.bool (boolD d)) :=
  e_isi (tn := "bool") h (kit_bool d) (by decide +kernel) hm hmT hg hgT (by decide) (by decide) hs1 hs2 hpl
theorem e_isTup (h : EvE X a e ρ d) (hm : X.mg "isinstance" = none) (hmT : X.mg "tuple" = none) (hg : Gl X "isinstance" := by rfl) (hgT : Gl X "tuple" := by rfl)
    (hs1 : starEach (e :: [.Name "tuple" p2]) X.env = (false, eval e X.env) :: starEach [.Name "tuple" p2] X.env := by rfl) (hs2 : starEach (.Name "tuple" p2 :: []) X.env = (false, eval (.Name "tuple" p2) X.env) :: starEach [] X.env := by rfl)
    (hpl : (backTo pos (starEach [.Name "tuple" p2] X.env)).any (·.1) = false := by rfl) : EvE X a (.Call (.Name "isinstance" p) [e, .Name "tuple" p2] [] pos) ρ (.bool (tupD d)) :=
  e_isi (tn := "tuple") h (kit_tup d) (by decide +kernel) hm hmT hg hgT (by decide) (by decide) hs1 hs2 hpl
/-- and, as a value, of two -/
theorem e_and2 {f : Expr} {b c : Bool} (h : EvE X a e ρ (.bool b)) (h2 : EvE X a f ρ (.bool c)) : EvE X a (.BoolOp .And [e, f] pos) ρ (.bool (b && c)) := by
  cases b with
  | true => exact e_andT h (e_one h2)
  | false => exact e_andF h rfl
theorem t_or2 {f : Expr} {b c : Bool} (h : EvT X a e ρ b) (h2 : b = false → EvT X a f ρ c) (hb : b = true → c = true) : EvT X a (.BoolOp .Or [e, f] pos) ρ c := by
  cases b with
  | true => rw [hb rfl]; exact t_orT h
  | false => exact t_orF h (t_or1 (h2 rfl))
theorem t_and2 {f : Expr} {b c : Bool} (h : EvT X a e ρ b) (h2 : b = true → EvT X a f ρ c) (hb : b = false → c = false) : EvT X a (.BoolOp .And [e, f] pos) ρ c := by
  cases b with
  | true => exact t_andT h (t_and1 (h2 rfl))
  | false => rw [hb rfl]; exact t_andF h
end
end Zj
/-! Data that is short, data that is alike, places with their numbers. -/
namespace Zj
open PySem PySem.Spec PyProof.Rows L2
/-- short data: nodes at most b, depth at most n -/
structure Tam (b n : Nat) (d : PyData) : Prop where
  tm : Tm d
  bk : d.bulk ≤ b
  dp : d.depth ≤ n
theorem Tam.tame {b n : Nat} {d : PyData} (t : Tam b n d) (hb : b ≤ 8000) (hn : n ≤ 60) : Tame d := ⟨t.tm, Nat.le_trans t.bk hb, Nat.le_trans t.dp hn⟩
theorem Tam.mono {b n b' n' : Nat} {d : PyData} (t : Tam b n d) (hb : b ≤ b') (hn : n ≤ n') : Tam b' n' d := ⟨t.tm, Nat.le_trans t.bk hb, Nat.le_trans t.dp hn⟩
theorem tam_int {i : Int} (h : Bits 1900 i) : Tam 0 0 (.int i) := ⟨by simp only [Tm]; exact Nat.lt_of_lt_of_le (h.log (by decide)) (by decide), by simp only [PyData.bulk]; exact Nat.le_refl _, by simp only [PyData.depth]; exact Nat.le_refl _⟩
theorem tam_non : Tam 0 0 .none := ⟨by simp only [Tm], by simp only [PyData.bulk]; exact Nat.le_refl _, by simp only [PyData.depth]; exact Nat.le_refl _⟩
theorem tam_bool {b : Bool} : Tam 0 0 (.bool b) := ⟨by simp only [Tm], by simp only [PyData.bulk]; exact Nat.le_refl _, by simp only [PyData.depth]; exact Nat.le_refl _⟩
theorem tam_all {b n : Nat} : ∀ {ds : List PyData}, (∀ d ∈ ds, Tam b n d) → TmAll ds ∧ PyData.bulkAll ds ≤ (b + 1) * ds.length ∧ PyData.depthAll ds ≤ n
  | [], _ => ⟨by simp only [TmAll], by simp only [PyData.bulkAll]; exact Nat.zero_le _, by simp only [PyData.depthAll]; exact Nat.zero_le _⟩
  | d :: ds, h => by
    obtain ⟨h1, h2, h3⟩ := tam_all (ds := ds) fun x hx => h x (List.mem_cons_of_mem _ hx)
    have t := h d List.mem_cons_self
    refine ⟨by simp only [TmAll]; exact ⟨t.tm, h1⟩, ?_, ?_⟩
    · simp only [PyData.bulkAll, List.length_cons]
      have := t.bk
      rw [Nat.mul_add, Nat.mul_one]
      omega
    · simp only [PyData.depthAll]
      have := t.dp
      omega
theorem tam_lst {b n l : Nat} {ds : List PyData} (h : ∀ d ∈ ds, Tam b n d) (hl : ds.length ≤ l) : Tam ((b + 1) * l) (n + 1) (.list ds) := by
  obtain ⟨h1, h2, h3⟩ := tam_all h
  have := Nat.mul_le_mul_left (b + 1) hl
  exact ⟨by simp only [Tm]; exact h1, by simp only [PyData.bulk]; omega, by simp only [PyData.depth]; omega⟩
theorem tam_tup {b n l : Nat} {ds : List PyData} (h : ∀ d ∈ ds, Tam b n d) (hl : ds.length ≤ l) : Tam ((b + 1) * l) (n + 1) (.tuple ds) := by
  obtain ⟨h1, h2, h3⟩ := tam_all h
  have := Nat.mul_le_mul_left (b + 1) hl
  exact ⟨by simp only [Tm]; exact h1, by simp only [PyData.bulk]; omega, by simp only [PyData.depth]; omega⟩
theorem tam_tI {xs : List Int} {l : Nat} (h : BitsL 1900 xs) (hl : xs.length ≤ l) : Tam l 1 (tI xs) := by
  have := tam_tup (b := 0) (n := 0) (l := l) (ds := xs.map PyData.int) (fun d hd => by
    obtain ⟨x, hx, rfl⟩ := mem_mapI hd
    exact tam_int (h x hx)) (by simpa using hl)
  exact this.mono (by omega) (Nat.le_refl _)
/-! alike -/
theorem lay_ints (xs : List Int) : PyData.canLayAll0 (xs.map .int) = true := by
  induction xs with
  | nil => simp [PyData.canLayAll0]
  | cons x xs ih => simp [PyData.canLayAll0, PyData.canLay0, ih]
theorem depth_ints (xs : List Int) : PyData.depthAll (xs.map .int) = 0 := by
  induction xs with
  | nil => simp [PyData.depthAll]
  | cons x xs ih => simp [PyData.depthAll, PyData.depth, ih]
theorem shaped_tI (xs : List Int) : SeqAt.shaped (tI xs) = true := by
  unfold SeqAt.shaped
  simp [PyData.canLay0, lay_ints, PyData.depth, depth_ints]
theorem shaped_lI (xs : List Int) : SeqAt.shaped (lI xs) = true := by
  unfold SeqAt.shaped
  simp [PyData.canLay0, lay_ints, PyData.depth, depth_ints]
theorem shaped_non : SeqAt.shaped .none = true := by
  unfold SeqAt.shaped
  simp [PyData.canLay0, PyData.depth]
theorem eqvAll_ints : ∀ (xs ys : List Int), PyData.eqvAll (xs.map .int) (ys.map .int) = (xs == ys)
  | [], [] => by simp [PyData.eqvAll]
  | [], _ :: _ => by simp [PyData.eqvAll]
  | _ :: _, [] => by simp [PyData.eqvAll]
  | x :: xs, y :: ys => by
    have ih := eqvAll_ints xs ys
    simp only [List.map_cons, PyData.eqvAll, PyData.eqv, ih]
    rfl
theorem eqv_tI (xs ys : List Int) : PyData.eqv (tI xs) (tI ys) = (xs == ys) := by simp only [PyData.eqv, eqvAll_ints]
theorem eqv_lI (xs ys : List Int) : PyData.eqv (lI xs) (lI ys) = (xs == ys) := by simp only [PyData.eqv, eqvAll_ints]
/-! each with its number, from a number on -/
def numFrom (k : Nat) : List PyData → List PyData
  | [] => []
  | x :: xs => .tuple [.int (k : Int), x] :: numFrom (k + 1) xs
theorem numFrom_get : ∀ (k : Nat) (ds : List PyData) (i : Nat), (numFrom k ds)[i]? = ds[i]?.map fun x => PyData.tuple [.int ((k + i : Nat) : Int), x]
  | k, [], i => by simp [numFrom]
  | k, x :: xs, 0 => by simp [numFrom]
  | k, x :: xs, i + 1 => by
    have ih := numFrom_get (k + 1) xs i
    simp only [numFrom, List.getElem?_cons_succ, ih]
    rw [show k + 1 + i = k + (i + 1) by omega]
theorem numbered_eq (ds : List PyData) : numbered ds = numFrom 0 ds := by
  apply List.ext_getElem?
  intro i
  rw [numFrom_get, Nat.zero_add]
  cases h : ds[i]? with
  | none =>
    have : ds.length ≤ i := List.getElem?_eq_none_iff.mp h
    rw [List.getElem?_eq_none (by rw [numbered_len]; exact this)]
    rfl
  | some x => exact numbered_get h
/-- what a comprehension over numbered whole numbers keeps: the places of those that are not 0 -/
def keepNZ : PyData → Bool
  | .tuple [_, .int x] => !(x == 0)
  | _ => false
def valK : PyData → PyData
  | .tuple [k, _] => k
  | _ => .none
def nzFrom (k : Nat) : List Int → List Int
  | [] => []
  | x :: xs => if x == 0 then nzFrom (k + 1) xs else (k : Int) :: nzFrom (k + 1) xs
theorem kept_nz : ∀ (k : Nat) (xs : List Int), kept keepNZ valK (numFrom k (xs.map .int)) = (nzFrom k xs).map .int
  | k, [] => rfl
  | k, x :: xs => by
    have ih := kept_nz (k + 1) xs
    unfold kept at ih ⊢
    show ((PyData.tuple [.int (k : Int), .int x] :: numFrom (k + 1) (xs.map .int)).filter keepNZ).map valK = _
    unfold nzFrom
    cases hx : x == 0 with
    | true =>
      rw [List.filter_cons_of_neg (by show ¬ (!(x == 0)) = true; rw [hx]; exact Bool.false_ne_true), ih, if_pos rfl]
    | false =>
      rw [List.filter_cons_of_pos (by show (!(x == 0)) = true; rw [hx]; rfl), if_neg Bool.false_ne_true, List.map_cons, ih, List.map_cons]
      rfl
theorem lead_nil : lead [] = none := rfl
theorem lead_cons (x : Int) (xs : List Int) : lead (x :: xs) = if x == 0 then (lead xs).map (· + 1) else some 0 := by
  unfold lead
  rw [List.findIdx?_cons]
  cases x == 0 <;> rfl
theorem nz_lead : ∀ (k : Nat) (xs : List Int), match lead xs with
    | none => nzFrom k xs = []
    | some p => ∃ tl, nzFrom k xs = ((k + p : Nat) : Int) :: tl
  | k, [] => rfl
  | k, x :: xs => by
    have ih := nz_lead (k + 1) xs
    rw [lead_cons]
    unfold nzFrom
    cases hx : x == 0 with
    | true =>
      rw [if_pos rfl, if_pos rfl]
      cases hl : lead xs with
      | none =>
        rw [hl] at ih
        exact ih
      | some p =>
        rw [hl] at ih
        obtain ⟨tl, e⟩ := ih
        exact ⟨tl, by rw [e, show k + 1 + p = k + (p + 1) by omega]⟩
    | false => exact ⟨_, rfl⟩
theorem lead_get {xs : List Int} {p : Nat} (h : lead xs = some p) : ∃ x, xs[p]? = some x ∧ x ≠ 0 := by
  unfold lead at h
  rw [List.findIdx?_eq_some_iff_getElem] at h
  obtain ⟨h1, h2, _⟩ := h
  exact ⟨xs[p], by simp, by simpa using h2⟩
end Zj
/-! Reading and writing the law's state. -/
namespace Zj
open PySem PySem.Spec PyProof.Rows L2
def PInt (d : PyData) : Prop := ∃ i : Int, d = .int i
def PCells (d : PyData) : Prop := ∃ xs : List Int, d = lI xs ∧ 1 ≤ xs.length ∧ xs.length ≤ 100 ∧ BitsL 2000000 xs
def PSpot (n : Nat) (d : PyData) : Prop := ∃ i : Int, d = .int i ∧ 0 ≤ i ∧ i + n ≤ 1000000000000
section
variable {X : Cx} {a : Addr} {ρ : Rho} {n m : Nat} {N : Nat → Rho → Prop} {R : Nat → PyData → Prop} {e : Expr} {P : PyData → Prop} {y : Str} {i j : Nat} {pm kp pos : Pos}
theorem m_get {key : Str} (hu : X.A.units + 64 < cLine) (hi : ρ[i]? = some (some .hnd))
    (hk : ∀ (left seed : Int) (pc : Addr) (spot : Int) (cells : List Int) (H : Hp), SqL X.K H pc (cells.map V.int) → 1 ≤ cells.length → cells.length ≤ 100 → (∀ c ∈ cells, Bits 2000000 c) → 0 ≤ seed → seed < 2147483647 → 0 ≤ spot → spot + n ≤ 1000000000000 →
      ∃ v d, valV (sts left seed pc spot) (Sum.inr key) = some v ∧ Dp X.K H v d ∧ P d)
    (hN : X.N[i]? = some y := by rfl) (hv : Vis X.env.scope y := by first | exact Or.inl rfl | exact Or.inr (Or.inl rfl) | exact Or.inr (Or.inr rfl)) (hd : (y == ("__debug__" : Str)) = false := by decide) (hcd : (y == ("__classdict__" : Str)) = false := by decide) :
    EvM X a (.Subscript (.Name y pm) (.Constant (.str key) j kp) pos) ρ n n P := fun T σ H S ms Q q => by
  obtain ⟨v, h1, h2⟩ := S.sl i _ hi
  have h2 : v = .ref a := h2
  subst h2
  have ms0 := ms
  obtain ⟨left, seed, pc, spot, cells, g1, g2, g3, g4, g5, g6, g7, g8, g9⟩ := ms
  obtain ⟨v, d, k1, k2, k3⟩ := hk left seed pc spot cells _ g2 g3 g4 g5 g6 g7 g8 g9
  exact toE (pe_dget (Nat.lt_of_le_of_lt (Nat.add_le_add_left (by decide) _) hu) (pe_var hN hv hd hcd) pe_str (fun _ _ => rfl)) ⟨_, h1, a, v, rfl, by rw [← k1]; exact DGet.k (k := Sum.inr key) (off_some g1).1, q v d H Kp.refl ms0 k2 k3⟩
theorem m_left (hu : X.A.units + 64 < cLine) (hi : ρ[i]? = some (some .hnd)) (hN : X.N[i]? = some y := by rfl) (hv : Vis X.env.scope y := by first | exact Or.inl rfl | exact Or.inr (Or.inl rfl) | exact Or.inr (Or.inr rfl)) (hd : (y == ("__debug__" : Str)) = false := by decide) (hcd : (y == ("__classdict__" : Str)) = false := by decide) :
    EvM X a (.Subscript (.Name y pm) (.Constant (.str "left") j kp) pos) ρ n n PInt :=
  m_get hu hi (fun left seed pc spot cells H _ _ _ _ _ _ _ _ => ⟨.int left, .int left, rfl, .int _, left, rfl⟩) hN hv hd hcd
theorem m_seed (hu : X.A.units + 64 < cLine) (hi : ρ[i]? = some (some .hnd)) (hN : X.N[i]? = some y := by rfl) (hv : Vis X.env.scope y := by first | exact Or.inl rfl | exact Or.inr (Or.inl rfl) | exact Or.inr (Or.inr rfl)) (hd : (y == ("__debug__" : Str)) = false := by decide) (hcd : (y == ("__classdict__" : Str)) = false := by decide) :
    EvM X a (.Subscript (.Name y pm) (.Constant (.str "seed") j kp) pos) ρ n n PInt :=
  m_get hu hi (fun left seed pc spot cells H _ _ _ _ _ _ _ _ => ⟨.int seed, .int seed, rfl, .int _, seed, rfl⟩) hN hv hd hcd
theorem m_cells (hu : X.A.units + 64 < cLine) (hi : ρ[i]? = some (some .hnd)) (hN : X.N[i]? = some y := by rfl) (hv : Vis X.env.scope y := by first | exact Or.inl rfl | exact Or.inr (Or.inl rfl) | exact Or.inr (Or.inr rfl)) (hd : (y == ("__debug__" : Str)) = false := by decide) (hcd : (y == ("__classdict__" : Str)) = false := by decide) :
    EvM X a (.Subscript (.Name y pm) (.Constant (.str "cells") j kp) pos) ρ n n PCells :=
  m_get hu hi (fun left seed pc spot cells H g2 g3 g4 g5 _ _ _ _ => ⟨.ref pc, lI cells, rfl, .lst g2 (dps_ints cells), cells, rfl, g3, g4, g5⟩) hN hv hd hcd
theorem m_spot (hu : X.A.units + 64 < cLine) (hi : ρ[i]? = some (some .hnd)) (hN : X.N[i]? = some y := by rfl) (hv : Vis X.env.scope y := by first | exact Or.inl rfl | exact Or.inr (Or.inl rfl) | exact Or.inr (Or.inr rfl)) (hd : (y == ("__debug__" : Str)) = false := by decide) (hcd : (y == ("__classdict__" : Str)) = false := by decide) :
    EvM X a (.Subscript (.Name y pm) (.Constant (.str "spot") j kp) pos) ρ n n (PSpot n) :=
  m_get hu hi (fun left seed pc spot cells H _ _ _ _ _ _ g8 g9 => ⟨.int spot, .int spot, rfl, .int _, spot, rfl, g8, g9⟩) hN hv hd hcd
theorem qs_put {key : Str} {k : Nat} {sp : Pos} (hu : X.A.units + 64 < cLine) (hi : ρ[i]? = some (some .hnd)) (h : EvM X a e ρ n m P)
    (hk : ∀ d, P d → ∃ z : Int, d = .int z ∧ ∀ (left seed : Int) (pc : Addr) (spot : Int), 0 ≤ spot → spot + m ≤ 1000000000000 → ∃ left' spot', putK (sts left seed pc spot) (Sum.inr key) (.int z) = sts left' seed pc spot' ∧ 0 ≤ spot' ∧ spot' + k ≤ 1000000000000)
    (hn : N k ρ) (hs : swapsWith e (some (.Subscript (.Name y pm) (.Constant (.str key) j kp) sp)) pos.line X.env = pure false := by rfl)
    (hN : X.N[i]? = some y := by rfl) (hv : Vis X.env.scope y := by first | exact Or.inl rfl | exact Or.inr (Or.inl rfl) | exact Or.inr (Or.inr rfl)) (hd : (y == ("__debug__" : Str)) = false := by decide) (hcd : (y == ("__classdict__" : Str)) = false := by decide) :
    RunMS X a (.Assign [.Subscript (.Name y pm) (.Constant (.str key) j kp) sp] e pos) ρ n N R := fun T σ H D S ms kn kr => by
  obtain ⟨v, h1, h2⟩ := S.sl i _ hi
  have h2 : v = .ref a := h2
  subst h2
  refine toS (ps_dput (Nat.lt_of_le_of_lt (Nat.add_le_add_left (by decide) _) hu) (pe_var hN hv hd hcd) pe_str je hs) (h T σ H S ms _ fun v d H1 s1 ms1 p1 hp => ?_)
  obtain ⟨z, rfl, hz⟩ := hk d hp
  obtain rfl := dp_int p1
  have S1 := S.kpo s1 ms
  have ms1' := ms1
  obtain ⟨left, seed, pc, spot, cells, g1, g2, g3, g4, g5, g6, g7, g8, g9⟩ := ms1
  obtain ⟨e1, e2⟩ := off_some g1
  obtain ⟨left', spot', w1, w2, w3⟩ := hz left seed pc spot g8 g9
  have kp : Kp a H1 (upd H1 a (.dK (sts left' seed pc spot'))) := ⟨fun b o hb hh => by rw [upd_ne hb]; exact hh, fun _ => ⟨_, upd_same⟩⟩
  refine ⟨_, h1, a, upd H1 a (.dK (putK (sts left seed pc spot) (Sum.inr key) (.int z))), rfl, DPut.k (k := Sum.inr key) e1 (by show 4 < sizeLine; decide), ?_⟩
  rw [w1]
  refine kn σ _ ρ k (s1.trans kp) (S1.kpo kp ms1') ⟨left', seed, pc, spot', cells, ?_, kp_l (kp_off kp e2) ⟨_, g1⟩ _ _ g2, g3, g4, g5, g6, g7, w2, w3⟩ hn
  rw [off_no e2, upd_same]
theorem qs_putLeft {sp : Pos} (hu : X.A.units + 64 < cLine) (hi : ρ[i]? = some (some .hnd)) (h : EvM X a e ρ n m PInt) (hn : N m ρ)
    (hs : swapsWith e (some (.Subscript (.Name y pm) (.Constant (.str "left") j kp) sp)) pos.line X.env = pure false := by rfl)
    (hN : X.N[i]? = some y := by rfl) (hv : Vis X.env.scope y := by first | exact Or.inl rfl | exact Or.inr (Or.inl rfl) | exact Or.inr (Or.inr rfl)) (hd : (y == ("__debug__" : Str)) = false := by decide) (hcd : (y == ("__classdict__" : Str)) = false := by decide) :
    RunMS X a (.Assign [.Subscript (.Name y pm) (.Constant (.str "left") j kp) sp] e pos) ρ n N R :=
  qs_put hu hi h (fun d hp => by
    obtain ⟨z, rfl⟩ := hp
    exact ⟨z, rfl, fun left seed pc spot h1 h2 => ⟨z, spot, rfl, h1, h2⟩⟩) hn hs hN hv hd hcd
theorem qs_putSpot {k : Nat} {sp : Pos} (hu : X.A.units + 64 < cLine) (hi : ρ[i]? = some (some .hnd)) (h : EvM X a e ρ n m (PSpot k)) (hn : N k ρ)
    (hs : swapsWith e (some (.Subscript (.Name y pm) (.Constant (.str "spot") j kp) sp)) pos.line X.env = pure false := by rfl)
    (hN : X.N[i]? = some y := by rfl) (hv : Vis X.env.scope y := by first | exact Or.inl rfl | exact Or.inr (Or.inl rfl) | exact Or.inr (Or.inr rfl)) (hd : (y == ("__debug__" : Str)) = false := by decide) (hcd : (y == ("__classdict__" : Str)) = false := by decide) :
    RunMS X a (.Assign [.Subscript (.Name y pm) (.Constant (.str "spot") j kp) sp] e pos) ρ n N R :=
  qs_put hu hi h (fun d hp => by
    obtain ⟨z, rfl, h1, h2⟩ := hp
    exact ⟨z, rfl, fun left seed pc spot _ _ => ⟨left, z, rfl, h1, h2⟩⟩) hn hs hN hv hd hcd
theorem dps_rep {K : PySem.W.Frag} {H : Hp} {vs : List V} {ds : List PyData} (h : DpAll K H vs ds) : ∀ n : Nat, DpAll K H (List.replicate n vs).flatten (List.replicate n ds).flatten
  | 0 => .nil
  | n + 1 => by
    rw [List.replicate_succ, List.replicate_succ, List.flatten_cons, List.flatten_cons]
    exact dps_append h (dps_rep h n)
theorem e_rep {X : Cx} {a : Addr} {ρ : Rho} {es : List Expr} {e : Expr} {ds : List PyData} {k : Int} {pos pos' : Pos} (h : EvA X a es ρ ds) (h2 : EvE X a e ρ (.int k)) (h0 : 0 ≤ k) (hk : k ≤ 1000) (hl : ds.length ≤ 50) : EvE X a (.BinOp (.List es pos') .Mult e pos) ρ (.list (List.replicate k.toNat ds).flatten) := fun T σ H S Q q => by
  refine toE (pe_op op_rep (pe_lst ja) je) (h T σ H S _ fun vs H1 s1 p1 => ⟨by rw [dps_len p1]; exact szl (by omega), fun p hp => ?_⟩)
  have S1 := (S.same s1).same (same_new (o := .lst vs) hp)
  refine h2 T σ _ S1 _ fun v2 H2 s2 p2 => ?_
  obtain rfl := dp_int p2
  have lz : vs.length * k.toNat ≤ 50 * 1000 := by
    rw [dps_len p1]
    exact Nat.mul_le_mul hl (by omega)
  refine ⟨p, k, vs, rfl, rfl, s2 _ _ upd_same, by omega, by omega, szl (by omega), fun r hr => ?_⟩
  have s3 := (s1.trans (same_new (o := .lst vs) hp)).trans s2
  exact q _ _ (s3.trans (same_new hr)) (dpo_newL (S.same s3).dm hr (dps_rep (dpso ((same_new (o := .lst vs) hp).trans s2) p1) _))
end
end Zj
/-! Planes and rows, as numbers. -/
namespace Zj
open PySem PySem.Spec PyProof.Rows L2
theorem lead_scale {c : Int} (hc : c ≠ 0) : ∀ xs : List Int, lead (xs.map fun x => c * x) = lead xs
  | [] => rfl
  | x :: xs => by
    rw [List.map_cons, lead_cons, lead_cons, lead_scale hc xs]
    have : ((c * x) == 0) = (x == 0) := by
      rw [Bool.eq_iff_iff, beq_iff_eq, beq_iff_eq]
      constructor
      · intro h
        rcases Int.mul_eq_zero.mp h with h | h
        · exact absurd h hc
        · exact h
      · intro h
        rw [h, Int.mul_zero]
    rw [this]
theorem gcdL_scale (c : Int) : ∀ xs : List Int, gcdL (xs.map fun x => c * x) = c.natAbs * gcdL xs
  | [] => by simp [gcdL_nil]
  | x :: xs => by
    rw [List.map_cons, gcdL_cons, gcdL_cons, gcdL_scale c xs, Int.natAbs_mul, Nat.gcd_mul_left]
/-- what is so many times a tuple with no common divisor -/
theorem shortL_scale {c : Int} (hc : c ≠ 0) {xs : List Int} (h : ∃ x ∈ xs, x ≠ 0) : shortL (xs.map fun x => c * x) = (shortL xs).map fun y => (if 0 < c then 1 else -1) * y := by
  obtain ⟨g0, e⟩ := shortL_mul xs h
  obtain ⟨x, hx, hx0⟩ := h
  obtain ⟨g1, e1⟩ := shortL_mul (xs.map fun x => c * x) ⟨c * x, List.mem_map.mpr ⟨x, hx, rfl⟩, fun z => by
    rcases Int.mul_eq_zero.mp z with z | z
    · exact hc z
    · exact hx0 z⟩
  apply List.ext_getElem?
  intro i
  have ei : xs[i]? = ((shortL xs).map fun y => (gcdL xs : Int) * y)[i]? := by rw [← e]
  have e1i : (xs.map fun x => c * x)[i]? = ((shortL (xs.map fun x => c * x)).map fun y => (gcdL (xs.map fun x => c * x) : Int) * y)[i]? := by rw [← e1]
  rw [List.getElem?_map] at ei e1i
  rw [List.getElem?_map] at e1i
  rw [ei, gcdL_scale] at e1i
  rw [List.getElem?_map]
  cases hs : (shortL xs)[i]? with
  | none =>
    rw [hs] at e1i
    cases ht : (shortL (xs.map fun x => c * x))[i]? with
    | none => rfl
    | some t => rw [ht] at e1i; cases e1i
  | some s =>
    rw [hs] at e1i
    cases ht : (shortL (xs.map fun x => c * x))[i]? with
    | none => rw [ht] at e1i; cases e1i
    | some t =>
      rw [ht] at e1i
      have q : c * ((gcdL xs : Int) * s) = ((c.natAbs * gcdL xs : Nat) : Int) * t := by simpa using e1i
      show some t = some ((if 0 < c then 1 else -1) * s)
      congr 1
      have gp : (gcdL xs : Int) ≠ 0 := by omega
      rw [Int.natCast_mul] at q
      by_cases hp : 0 < c
      · rw [if_pos hp, Int.one_mul]
        rw [show ((c.natAbs : Nat) : Int) = c by omega, Int.mul_assoc] at q
        exact (Int.eq_of_mul_eq_mul_left gp (Int.eq_of_mul_eq_mul_left hc q)).symm
      · rw [if_neg hp]
        rw [show ((c.natAbs : Nat) : Int) = -c by omega, Int.neg_mul, Int.neg_mul, ← Int.mul_neg, Int.mul_assoc] at q
        have q2 := Int.eq_of_mul_eq_mul_left hc q
        have := Int.eq_of_mul_eq_mul_left gp q2
        omega
theorem lead_row {row : List Int} {p : Nat} (hp : lead row.dropLast = some p) : ∃ x, row[p]? = some x ∧ x ≠ 0 := by
  obtain ⟨x, hx, hx0⟩ := lead_get hp
  refine ⟨x, ?_, hx0⟩
  rw [List.getElem?_dropLast] at hx
  split at hx
  · exact hx
  · cases hx
theorem short_at {row : List Int} {p : Nat} (hp : lead row.dropLast = some p) : ∃ y, (shortL row)[p]? = some y ∧ y ≠ 0 := by
  obtain ⟨x, hx, hx0⟩ := lead_row hp
  obtain ⟨g0, e⟩ := shortL_mul row ⟨x, List.mem_of_getElem? hx, hx0⟩
  rw [e, List.getElem?_map] at hx
  cases hy : (shortL row)[p]? with
  | none => rw [hy] at hx; cases hx
  | some y =>
    rw [hy] at hx
    refine ⟨y, rfl, fun h => ?_⟩
    subst h
    cases hx
    exact hx0 (Int.mul_zero _)
theorem planeL_some {row : List Int} {p : Nat} (hp : lead row.dropLast = some p) : ∃ y, (shortL row)[p]? = some y ∧ y ≠ 0 ∧ planeL row = some (if y < 0 then (shortL row).map (fun x => -x) else shortL row) := by
  obtain ⟨y, hy, hy0⟩ := short_at hp
  refine ⟨y, hy, hy0, ?_⟩
  unfold planeL
  rw [hp]
  show some (if (shortL row).getD p 0 < 0 then _ else _) = _
  rw [List.getD_eq_getElem?_getD, hy] <;> rfl
theorem planeL_scale {c : Int} (hc : c ≠ 0) (row : List Int) : planeL (row.map fun x => c * x) = planeL row := by
  have hl : lead (row.map fun x => c * x).dropLast = lead row.dropLast := by
    rw [← List.map_dropLast, lead_scale hc]
  cases hp : lead row.dropLast with
  | none =>
    unfold planeL
    rw [hl, hp]
  | some p =>
    obtain ⟨x, hx, hx0⟩ := lead_row hp
    obtain ⟨y, hy, hy0, e⟩ := planeL_some hp
    obtain ⟨z, hz, hz0, e2⟩ := planeL_some (hl.trans hp)
    have sc := shortL_scale hc ⟨x, List.mem_of_getElem? hx, hx0⟩
    rw [e, e2]
    rw [sc, List.getElem?_map, hy] at hz
    have hz : (if 0 < c then 1 else -1) * y = z := by simpa using hz
    rw [sc]
    congr 1
    by_cases hp : 0 < c
    · rw [if_pos hp] at hz
      have : z = y := by omega
      subst this
      rw [if_pos hp, show (fun y : Int => 1 * y) = id from funext fun y => Int.one_mul y, List.map_id]
    · rw [if_neg hp] at hz
      have : z = -y := by omega
      subst this
      rw [if_neg hp, show (fun y : Int => -1 * y) = (fun y => -y) from funext fun y => by omega, List.map_map, show ((fun x : Int => -x) ∘ fun y : Int => -y) = id from funext fun y => Int.neg_neg y, List.map_id]
      by_cases hy' : y < 0
      · rw [if_pos hy', if_neg (by omega)]
      · rw [if_neg hy', if_pos (by omega)]
/-- a row is so many times its plane -/
theorem plane_times {row pl : List Int} (h : planeL row = some pl) : ∃ c : Int, c ≠ 0 ∧ row = pl.map fun x => c * x := by
  cases hp : lead row.dropLast with
  | none =>
    unfold planeL at h
    rw [hp] at h
    cases h
  | some p =>
    obtain ⟨x, hx, hx0⟩ := lead_row hp
    obtain ⟨y, hy, hy0, e⟩ := planeL_some hp
    obtain ⟨g0, e1⟩ := shortL_mul row ⟨x, List.mem_of_getElem? hx, hx0⟩
    rw [e] at h
    cases h
    by_cases hy' : y < 0
    · rw [if_pos hy']
      refine ⟨-(gcdL row : Int), by omega, ?_⟩
      rw [List.map_map]
      conv => lhs; rw [e1]
      apply List.map_congr_left
      intro z _
      show (gcdL row : Int) * z = -(gcdL row : Int) * -z
      rw [Int.neg_mul_neg]
    · rw [if_neg hy']
      exact ⟨gcdL row, by omega, e1⟩
theorem planeL_self {row pl : List Int} (h : planeL row = some pl) : planeL pl = some pl := by
  obtain ⟨c, hc, e⟩ := plane_times h
  rw [← planeL_scale hc pl, ← e]
  exact h
theorem planeL_len {row pl : List Int} (h : planeL row = some pl) : pl.length = row.length := by
  obtain ⟨c, hc, e⟩ := plane_times h
  rw [e, List.length_map]
theorem planeL_bits {row pl : List Int} {n : Nat} (h : planeL row = some pl) (hb : BitsL n row) : BitsL n pl := by
  obtain ⟨c, hc, e⟩ := plane_times h
  intro x hx
  refine (hb (c * x) (by rw [e]; exact List.mem_map.mpr ⟨x, hx, rfl⟩)).le ?_
  rw [Int.natAbs_mul]
  exact Nat.le_mul_of_pos_left _ (by omega)
theorem dot_scale (c : Int) : ∀ xs ys : List Int, dot (xs.map fun x => c * x) ys = c * dot xs ys
  | [], _ => by simp [dot]
  | _ :: _, [] => by simp [dot]
  | x :: xs, y :: ys => by
    have ih := dot_scale c xs ys
    unfold dot at ih ⊢
    rw [List.map_cons, List.zipWith_cons_cons, List.zipWith_cons_cons, List.sum_cons, List.sum_cons, ih, Int.mul_add, Int.mul_assoc]
theorem dot_nil (ys : List Int) : dot [] ys = 0 := rfl
theorem dot_cons (x y : Int) (xs ys : List Int) : dot (x :: xs) (y :: ys) = x * y + dot xs ys := by
  unfold dot
  rw [List.zipWith_cons_cons, List.sum_cons]
theorem dot_comm (xs ys : List Int) : dot xs ys = dot ys xs := by
  unfold dot
  rw [List.zipWith_comm]
  congr 1
  congr 1
  funext a b
  exact Int.mul_comm _ _
theorem dot_zero {row pl pt : List Int} (h : planeL row = some pl) : (sgn (dot pl pt) == 0) = (dot row pt == 0) := by
  obtain ⟨c, hc, e⟩ := plane_times h
  have e2 : dot row pt = c * dot pl pt := by
    conv => lhs; rw [e]
    exact dot_scale c pl pt
  rw [Bool.eq_iff_iff, beq_iff_eq, beq_iff_eq, e2]
  unfold sgn
  constructor
  · intro h
    split at h
    · cases h
    · split at h
      · cases h
      · rw [show dot pl pt = 0 by omega, Int.mul_zero]
  · intro h
    rcases Int.mul_eq_zero.mp h with h | h
    · exact absurd h hc
    · rw [h] <;> rfl
/-- a row at a point moved on -/
theorem dot_moved (l b : Int) : ∀ (ns ws : List Int) (rs : List Int) (r : Int), ns.length = ws.length → rs.length = ns.length →
    dot (rs ++ [r]) (List.zipWith (fun n s => n * 2 + s * 1 * l) ns ws ++ [l * 2]) = 2 * dot (rs ++ [r]) (ns ++ [l]) + l * dot rs ws
  | [], [], [], r, _, _ => by
    show dot [r] [l * 2] = 2 * dot [r] [l] + l * dot [] []
    rw [dot_cons, dot_cons, dot_nil]
    show r * (l * 2) + dot [] [] = 2 * (r * l + 0) + l * dot [] []
    rw [dot_nil]
    grind
  | n :: ns, s :: ws, x :: rs, r, h1, h2 => by
    have ih := dot_moved l b ns ws rs r (by simpa using h1) (by simpa using h2)
    rw [List.zipWith_cons_cons, List.cons_append, List.cons_append, List.cons_append, dot_cons, dot_cons, dot_cons, ih]
    grind
  | [], _ :: _, _, _, h, _ => by simp at h
  | _ :: _, [], _, _, h, _ => by simp at h
  | [], [], _ :: _, _, _, h => by simp at h
  | _ :: _, _ :: _, [], _, _, h => by simp at h
theorem fracL_two {t b : Int} (hb : 0 < b) : ∃ u v g : Int, fracL t b = [u, v] ∧ 0 < g ∧ t = g * u ∧ b = g * v := by
  unfold fracL
  rw [if_pos hb]
  obtain ⟨g0, e⟩ := shortL_mul [t, b] ⟨b, by simp, by omega⟩
  have hl := shortL_len [t, b]
  match h : shortL [t, b], hl with
  | [u, v], _ =>
    rw [h] at e
    refine ⟨u, v, gcdL [t, b], rfl, by omega, ?_, ?_⟩
    · exact (List.cons.inj e).1
    · exact (List.cons.inj (List.cons.inj e).2).1
end Zj
/-! The text of the program and of the law, by places. -/
namespace K3
open PySem PySem.Spec PyProof.Rows L2 Zj
def top (i : Nat) : Stmt := PySem.Challenge.pw_onesolid_k03_rows_and_planes.main.body.getD i (.Pass ⟨0, 0, 0, 0⟩)
abbrev st_is_whole : Stmt := top 6
abbrev n_is_whole : List Str := ["value"]
theorem sc_is_whole : FnScope n_is_whole ["value"] (defScope st_is_whole) := ⟨rfl, rfl, rfl, by decide +kernel, rfl, by decide +kernel, by decide +kernel⟩
abbrev st_wrong_place : Stmt := top 7
abbrev n_wrong_place : List Str := ["value", "many", "place", "number"]
theorem sc_wrong_place : FnScope n_wrong_place ["value", "many"] (defScope st_wrong_place) := ⟨rfl, rfl, rfl, by decide +kernel, rfl, by decide +kernel, by decide +kernel⟩
abbrev st_common_divisor : Stmt := top 8
abbrev n_common_divisor : List Str := ["numbers", "divisor", "number"]
theorem sc_common_divisor : FnScope n_common_divisor ["numbers"] (defScope st_common_divisor) := ⟨rfl, rfl, rfl, by decide +kernel, rfl, by decide +kernel, by decide +kernel⟩
abbrev st_shortened : Stmt := top 9
abbrev n_shortened : List Str := ["numbers", "divisor", "number"]
theorem sc_shortened : FnScope n_shortened ["numbers"] (defScope st_shortened) := ⟨rfl, rfl, rfl, by decide +kernel, rfl, by decide +kernel, by decide +kernel⟩
abbrev st_sign_of : Stmt := top 10
abbrev n_sign_of : List Str := ["number"]
theorem sc_sign_of : FnScope n_sign_of ["number"] (defScope st_sign_of) := ⟨rfl, rfl, rfl, by decide +kernel, rfl, by decide +kernel, by decide +kernel⟩
abbrev st_lowest : Stmt := top 11
abbrev n_lowest : List Str := ["top", "bottom", "divisor"]
theorem sc_lowest : FnScope n_lowest ["top", "bottom"] (defScope st_lowest) := ⟨rfl, rfl, rfl, by decide +kernel, rfl, by decide +kernel, by decide +kernel⟩
abbrev st_check_row : Stmt := top 13
abbrev n_check_row : List Str := ["dimension", "value", "place"]
theorem sc_check_row : FnScope n_check_row ["dimension", "value"] (defScope st_check_row) := ⟨rfl, rfl, rfl, by decide +kernel, rfl, by decide +kernel, by decide +kernel⟩
abbrev st_check_plane : Stmt := top 14
abbrev n_check_plane : List Str := ["dimension", "value"]
theorem sc_check_plane : FnScope n_check_plane ["dimension", "value"] (defScope st_check_plane) := ⟨rfl, rfl, rfl, by decide +kernel, rfl, by decide +kernel, by decide +kernel⟩
abbrev st_first_place : Stmt := top 15
abbrev n_first_place : List Str := ["numbers", "place", "number"]
theorem sc_first_place : FnScope n_first_place ["numbers"] (defScope st_first_place) := ⟨rfl, rfl, rfl, by decide +kernel, rfl, by decide +kernel, by decide +kernel⟩
abbrev st_plane_of : Stmt := top 16
abbrev n_plane_of : List Str := ["row", "place", "plane", "number"]
theorem sc_plane_of : FnScope n_plane_of ["row"] (defScope st_plane_of) := ⟨rfl, rfl, rfl, by decide +kernel, rfl, by decide +kernel, by decide +kernel⟩
abbrev st_weighed : Stmt := top 17
abbrev n_weighed : List Str := ["row", "point", "number", "part"]
theorem sc_weighed : FnScope n_weighed ["row", "point"] (defScope st_weighed) := ⟨rfl, rfl, rfl, by decide +kernel, rfl, by decide +kernel, by decide +kernel⟩
abbrev st_value_at : Stmt := top 18
abbrev n_value_at : List Str := ["row", "point"]
theorem sc_value_at : FnScope n_value_at ["row", "point"] (defScope st_value_at) := ⟨rfl, rfl, rfl, by decide +kernel, rfl, by decide +kernel, by decide +kernel⟩
abbrev st_sign_at : Stmt := top 19
abbrev n_sign_at : List Str := ["row", "point"]
theorem sc_sign_at : FnScope n_sign_at ["row", "point"] (defScope st_sign_at) := ⟨rfl, rfl, rfl, by decide +kernel, rfl, by decide +kernel, by decide +kernel⟩
abbrev st_signs_at : Stmt := top 20
abbrev n_signs_at : List Str := ["planes", "point", "plane"]
theorem sc_signs_at : FnScope n_signs_at ["planes", "point"] (defScope st_signs_at) := ⟨rfl, rfl, rfl, by decide +kernel, rfl, by decide +kernel, by decide +kernel⟩
abbrev st_product_of : Stmt := top 21
abbrev n_product_of : List Str := ["numbers", "others", "number", "other"]
theorem sc_product_of : FnScope n_product_of ["numbers", "others"] (defScope st_product_of) := ⟨rfl, rfl, rfl, by decide +kernel, rfl, by decide +kernel, by decide +kernel⟩
abbrev st_slope : Stmt := top 22
abbrev n_slope : List Str := ["row", "direction"]
theorem sc_slope : FnScope n_slope ["row", "direction"] (defScope st_slope) := ⟨rfl, rfl, rfl, by decide +kernel, rfl, by decide +kernel, by decide +kernel⟩
abbrev st_moved_by : Stmt := top 24
abbrev n_moved_by : List Str := ["point", "direction", "amount", "top", "bottom", "weight", "moved", "number", "step"]
theorem sc_moved_by : FnScope n_moved_by ["point", "direction", "amount"] (defScope st_moved_by) := ⟨rfl, rfl, rfl, by decide +kernel, rfl, by decide +kernel, by decide +kernel⟩
abbrev st__law_begun : Stmt := top 26
abbrev n__law_begun : List Str := ["script", "k", "cells", "cell", "great", "seed"]
theorem sc__law_begun : FnScope n__law_begun ["script", "k"] (defScope st__law_begun) := ⟨rfl, rfl, rfl, by decide +kernel, rfl, by decide +kernel, by decide +kernel⟩
abbrev st__law_draw : Stmt := top 27
abbrev n__law_draw : List Str := ["m", "bound", "found", "spot", "cells", "extra", "cell", "blend"]
theorem sc__law_draw : FnScope n__law_draw ["m", "bound"] (defScope st__law_draw) := ⟨rfl, rfl, rfl, by decide +kernel, rfl, by decide +kernel, by decide +kernel⟩
abbrev st__law_like : Stmt := top 28
abbrev n__law_like : List Str := ["told", "due"]
theorem sc__law_like : FnScope n__law_like ["told", "due"] (defScope st__law_like) := ⟨rfl, rfl, rfl, by decide +kernel, rfl, by decide +kernel, by decide +kernel⟩
abbrev st__law_sign : Stmt := top 29
abbrev n__law_sign : List Str := ["number"]
theorem sc__law_sign : FnScope n__law_sign ["number"] (defScope st__law_sign) := ⟨rfl, rfl, rfl, by decide +kernel, rfl, by decide +kernel, by decide +kernel⟩
abbrev st__law_common : Stmt := top 30
abbrev n__law_common : List Str := ["numbers", "found", "number", "remnant"]
theorem sc__law_common : FnScope n__law_common ["numbers"] (defScope st__law_common) := ⟨rfl, rfl, rfl, by decide +kernel, rfl, by decide +kernel, by decide +kernel⟩
abbrev st__law_lowered : Stmt := top 31
abbrev n__law_lowered : List Str := ["numbers", "whole", "number"]
theorem sc__law_lowered : FnScope n__law_lowered ["numbers"] (defScope st__law_lowered) := ⟨rfl, rfl, rfl, by decide +kernel, rfl, by decide +kernel, by decide +kernel⟩
abbrev st__law_fraction : Stmt := top 32
abbrev n__law_fraction : List Str := ["top", "bottom", "found"]
theorem sc__law_fraction : FnScope n__law_fraction ["top", "bottom"] (defScope st__law_fraction) := ⟨rfl, rfl, rfl, by decide +kernel, rfl, by decide +kernel, by decide +kernel⟩
abbrev st__law_point : Stmt := top 33
abbrev n__law_point : List Str := ["numbers", "bottom", "sign", "number"]
theorem sc__law_point : FnScope n__law_point ["numbers", "bottom"] (defScope st__law_point) := ⟨rfl, rfl, rfl, by decide +kernel, rfl, by decide +kernel, by decide +kernel⟩
abbrev st__law_total : Stmt := top 34
abbrev n__law_total : List Str := ["row_so", "point_so", "one", "other"]
theorem sc__law_total : FnScope n__law_total ["row_so", "point_so"] (defScope st__law_total) := ⟨rfl, rfl, rfl, by decide +kernel, rfl, by decide +kernel, by decide +kernel⟩
abbrev st__law_signs : Stmt := top 35
abbrev n__law_signs : List Str := ["planes_so", "point_so", "plane"]
theorem sc__law_signs : FnScope n__law_signs ["planes_so", "point_so"] (defScope st__law_signs) := ⟨rfl, rfl, rfl, by decide +kernel, rfl, by decide +kernel, by decide +kernel⟩
abbrev st__law_plane : Stmt := top 36
abbrev n__law_plane : List Str := ["row_so", "spots", "found", "k", "number"]
theorem sc__law_plane : FnScope n__law_plane ["row_so"] (defScope st__law_plane) := ⟨rfl, rfl, rfl, by decide +kernel, rfl, by decide +kernel, by decide +kernel⟩
abbrev st__law_some_row : Stmt := top 37
abbrev n__law_some_row : List Str := ["m", "dimension", "row_so", "way", "k", "number"]
theorem sc__law_some_row : FnScope n__law_some_row ["m", "dimension"] (defScope st__law_some_row) := ⟨rfl, rfl, rfl, by decide +kernel, rfl, by decide +kernel, by decide +kernel⟩
abbrev st__law_spot : Stmt := top 38
abbrev n__law_spot : List Str := ["m", "dimension", "k"]
theorem sc__law_spot : FnScope n__law_spot ["m", "dimension"] (defScope st__law_spot) := ⟨rfl, rfl, rfl, by decide +kernel, rfl, by decide +kernel, by decide +kernel⟩
abbrev st__law_row_right : Stmt := top 39
abbrev n__law_row_right : List Str := ["m", "dimension", "row_so", "plane", "by", "spots", "spot", "total", "k", "number"]
theorem sc__law_row_right : FnScope n__law_row_right ["m", "dimension", "row_so"] (defScope st__law_row_right) := ⟨rfl, rfl, rfl, by decide +kernel, rfl, by decide +kernel, by decide +kernel⟩
abbrev st__law_slope_right : Stmt := top 40
abbrev n__law_slope_right : List Str := ["m", "dimension", "row_so", "way", "due", "spot", "top", "bottom", "near", "low", "k", "a", "b"]
theorem sc__law_slope_right : FnScope n__law_slope_right ["m", "dimension", "row_so"] (defScope st__law_slope_right) := ⟨rfl, rfl, rfl, by decide +kernel, rfl, by decide +kernel, by decide +kernel⟩
abbrev st__law_hand_right : Stmt := top 41
abbrev n__law_hand_right : List Str := ["told"]
theorem sc__law_hand_right : FnScope n__law_hand_right [] (defScope st__law_hand_right) := ⟨rfl, rfl, rfl, by decide +kernel, rfl, by decide +kernel, by decide +kernel⟩
abbrev st_law : Stmt := top 42
abbrev n_law : List Str := ["script", "k", "m", "turn", "dimension", "rows", "planes_so", "spot", "number", "row_so"]
theorem sc_law : FnScope n_law ["script"] (defScope st_law) := ⟨rfl, rfl, rfl, by decide +kernel, rfl, by decide +kernel, by decide +kernel⟩
end K3
/-! The program's defs. -/
namespace K3
open PySem PySem.Spec PyProof.Rows L2 Zj
structure Tx (mg : Str → Option Value) : Prop where
  isi : mg "isinstance" = none
  int : mg "int" = none
  bool : mg "bool" = none
  tuple : mg "tuple" = none
  len : mg "len" = none
  enum : mg "enumerate" = none
  sum : mg "sum" = none
  zip : mg "zip" = none
  range : mg "range" = none
  abs : mg "abs" = none
  repr : mg "repr" = none
  max : mg "max" = none
  min : mg "min" = none
  gcd : mg "gcd" = some (.builtin "math.gcd")
section
variable {P : Program} {w : World} {K : PySem.W.Frag} {mg : Str → Option Value} {base : Heap} {f : Addr} {fd : FuncData}
def R_weighed (ds : List PyData) (d : PyData) : Prop := ∃ xs ys, ds = [tI xs, tI ys] ∧ BitsL 20000 xs ∧ BitsL 20000 ys ∧ xs.length ≤ 1000 ∧ d = .int (dot xs ys)
theorem ok_weighed (F : Fun K "weighed" "weighed" st_weighed f fd) (T : Tx mg) : FnOk P w K mg base CX0 1 f fd ["row", "point"] (spR K R_weighed) := by
  refine fnR F sc_weighed (fun ds d h => by obtain ⟨xs, ys, rfl, _⟩ := h; rfl) fun cdv A outer s H E G hr ds d h => ?_
  obtain ⟨xs, ys, rfl, hx, hy, hl, rfl⟩ := h
  refine r_one (rs_ret (d := .int (dot xs ys)) (e_callB (ca_sum rfl (ns := List.zipWith (· * ·) xs ys)) (a_cons (e_is (e_lc0 (own := [("number", 2), ("part", 3)]) (f := fPair 2 3) (val := onPair (· * ·)) G
    (src_ZT (a_cons (e_var (i := 0) rfl) (a_cons (e_var (i := 1) rfl) a_nil)) T.zip) (by simp; omega) (blkOk_by (N := n_weighed) (sc := defScope st_weighed) (by decide +kernel))
    (fun _ _ _ _ _ => pg_tup rfl (pgs_cons (pg_name (i := 2) sc_weighed.nd rfl (Or.inl rfl)) (pgs_cons (pg_name (i := 3) sc_weighed.nd rfl (Or.inl rfl)) pgs_nil))) (tg_pair (by decide) (by decide)) (fun d hd => ?_)) (by rw [zipI_map])) a_nil) T.sum (by decide +kernel)) rfl)
  obtain ⟨x, h1, y, h2, rfl⟩ := mem_zipI hd
  exact ⟨_, rfl, fun s H C cl fp => e_bin (od_mul (mul_ok (hx x h1) (hy y h2) (by decide))) (e_var (i := 2) rfl) (e_var (i := 3) rfl)⟩

def R_whole (ds : List PyData) (d : PyData) : Prop := ∃ x, ds = [x] ∧ d = .bool (wholeD x)
theorem ok_whole (F : Fun K "is_whole" "is_whole" st_is_whole f fd) (T : Tx mg) : FnOk P w K mg base CX0 1 f fd ["value"] (spR K R_whole) := by
  refine fnR F sc_is_whole (fun ds d h => by obtain ⟨x, rfl, _⟩ := h; rfl) fun cdv A outer s H E G hr ds d h => ?_
  obtain ⟨x, rfl, rfl⟩ := h
  rw [whole_is]
  exact r_one (rs_ret (e_and2 (e_isInt (e_var (i := 0) rfl) T.isi T.int) (e_not (e_isBool (e_var (i := 0) rfl) T.isi T.bool))) rfl)

def R_wrong (ds : List PyData) (d : PyData) : Prop := ∃ v m, ds = [v, .int m] ∧ (∀ xs, v = .tuple xs → xs.length ≤ 1000) ∧ d = wrongD v m
theorem ok_wrong (F : Fun K "wrong_place" "wrong_place" st_wrong_place f fd) (T : Tx mg) (C1 : Cal P w K mg base 1 "is_whole" ["value"] (spR K R_whole)) : FnOk P w K mg base CX0 2 f fd ["value", "many"] (spR K R_wrong) := by
  refine fnR F sc_wrong_place (fun ds d h => by obtain ⟨v, m, rfl, _⟩ := h; rfl) fun cdv A outer s H E G hr ds d h => ?_
  obtain ⟨v, m, rfl, hz, rfl⟩ := h
  by_cases hv : ∃ xs, v = .tuple xs ∧ (xs.length : Int) = m
  · obtain ⟨xs, rfl, rfl⟩ := hv
    have hz := hz xs rfl
    have e0 : wrongD (.tuple xs) xs.length = placeD (badAt xs) := by
      show (if (xs.length : Int) = xs.length then placeD (badAt xs) else _) = _
      rw [if_pos rfl]
    rw [e0]
    refine r_cons (rs_if (b := false) (t_or2 (b := false) (t_is (t_not (t_val (e_isTup (e_var (i := 0) rfl) T.isi T.tuple))) rfl) (fun _ => t_is (t_cmp od_neI (e_callB ca_lenT (a_cons (e_var (i := 0) rfl) a_nil) T.len (by decide +kernel)) (e_var (i := 1) rfl) (nomark _)) (by simp)) nofun) nofun fun _ => r_nil ?_)
    refine r_cons (rs_for G (src_ET (a_cons (e_var (i := 0) rfl) a_nil) T.enum) (pg_tup rfl (pgs_cons (pg_name (i := 2) sc_wrong_place.nd rfl (Or.inl rfl)) (pgs_cons (pg_name (i := 3) sc_wrong_place.nd rfl (Or.inl rfl)) pgs_nil))) (tg_pair (vs := [2, 3]) (by decide) (by decide))
      (fun n ρ' => (∃ x y, ρ' = [some (.dat (.tuple xs)), some (.dat (.int xs.length)), x, y]) ∧ ∀ i y, i < n → xs[i]? = some y → (!wholeD y) = false) ⟨⟨_, _, rfl⟩, fun i y hi => by omega⟩ (fun n d ρ1 hd hJ => ?_) fun ρ' hJ => ?_)
    · obtain ⟨x, hx, rfl⟩ := getN hd
      obtain ⟨⟨_, _, rfl⟩, hb⟩ := hJ
      refine ⟨_, rfl, r_one (rs_if (t_not (t_val (e_call C1 (hr.mono (by decide)) (a_cons (e_var (i := 3) rfl) a_nil) ⟨x, rfl, rfl⟩))) (fun hw => r_one (rs_ret (e_var (i := 2) rfl) ?_)) fun hw => r_nil ⟨⟨_, _, rfl⟩, fun i y hi hy => ?_⟩)⟩
      · rw [show badAt xs = some n from find_hit hx hw hb] <;> rfl
      · by_cases hin : i = n
        · subst hin
          rw [hx] at hy
          cases hy
          exact hw
        · exact hb i y (by omega) hy
    · obtain ⟨⟨_, _, rfl⟩, hb⟩ := hJ
      rw [numbered_len] at hb
      refine r_one (rs_ret e_non ?_)
      rw [show badAt xs = none from find_miss hb] <;> rfl
  · have e0 : wrongD v m = .int (-1) := by
      cases v with
      | tuple xs =>
        show (if (xs.length : Int) = m then placeD (badAt xs) else .int (-1)) = _
        rw [if_neg (fun z => hv ⟨xs, rfl, z⟩)]
      | _ => rfl
    rw [e0]
    refine r_cons (rs_if (b := true) (t_or2 (t_not (t_val (e_isTup (e_var (i := 0) rfl) T.isi T.tuple))) (fun hb => ?_) fun _ => rfl) (fun _ => r_one (rs_ret (e_neg e_int) rfl)) nofun)
    cases v with
    | tuple xs => exact t_is (t_cmp od_neI (e_callB ca_lenT (a_cons (e_var (i := 0) rfl) a_nil) T.len (by decide +kernel)) (e_var (i := 1) rfl) (nomark _)) (by
        have hne : ¬ (xs.length : Int) = m := fun z => hv ⟨xs, rfl, z⟩
        simp [hne])
    | _ => cases hb
end
end K3
namespace K3
open PySem PySem.Spec PyProof.Rows L2 Zj
section
variable {P : Program} {w : World} {K : PySem.W.Frag} {mg : Str → Option Value} {base : Heap} {f : Addr} {fd : FuncData}
/-- the greatest common divisor of all -/
def R_cd (ds : List PyData) (d : PyData) : Prop := ∃ xs : List Int, (ds = [tI xs] ∨ ds = [lI xs]) ∧ d = .int (gcdL xs)
theorem ok_cd (F : Fun K "common_divisor" "common_divisor" st_common_divisor f fd) (T : Tx mg) : FnOk P w K mg base CX0 1 f fd ["numbers"] (spR K R_cd) := by
  refine fnR F sc_common_divisor (fun ds d h => by obtain ⟨x, h, _⟩ := h; rcases h with rfl | rfl <;> rfl) fun cdv A outer s H E G hr ds d h => ?_
  obtain ⟨xs, h, rfl⟩ := h
  have main : ∀ v : PyData, (∀ tg p (ρ : Rho), ρ[0]? = some (some (.dat v)) → Src (cxOf CX0 P w K mg base n_common_divisor "common_divisor" (defScope st_common_divisor) f cdv A outer s H E).nox 0 tg (.Name "numbers" p) ρ (xs.map .int)) →
      Run (cxOf CX0 P w K mg base n_common_divisor "common_divisor" (defScope st_common_divisor) f cdv A outer s H E).nox 0 (defBody st_common_divisor) [some (.dat v), none, none] (fun _ => PyData.int (gcdL xs) = .none) (fun d' => d' = .int (gcdL xs)) := fun v hs => by
    refine r_cons (rs_set (i := 1) G e_int ?_)
    refine r_cons (rs_for G (hs _ _ _ rfl) (pg_name (i := 2) sc_common_divisor.nd rfl (Or.inl rfl)) (tg_name (vs := [2]) (by decide)) (fun n ρ' => ∃ y, ρ' = [some (.dat v), some (.dat (.int (gcdL (xs.take n)))), y]) ⟨_, rfl⟩ (fun n d ρ1 hd hJ => ?_) fun ρ' hJ => ?_)
    · obtain ⟨x, hx, rfl⟩ := getI hd
      obtain ⟨_, rfl⟩ := hJ
      refine ⟨_, rfl, r_one (rs_set (i := 1) G (e_callM ca_gcd (a_cons (e_var (i := 1) rfl) (a_cons (e_var (i := 2) rfl) a_nil)) T.gcd) ⟨some (.dat (.int x)), ?_⟩)⟩
      rw [gcdL_take hx] <;> rfl
    · obtain ⟨_, rfl⟩ := hJ
      rw [List.length_map, List.take_length]
      exact r_one (rs_ret (e_var (i := 1) rfl) rfl)
  rcases h with rfl | rfl
  · exact main _ fun _ _ ρ hρ => src_T (e_var (i := 0) hρ)
  · exact main _ fun _ _ ρ hρ => src_L (e_var (i := 0) hρ)

def R_short (ds : List PyData) (d : PyData) : Prop := ∃ xs : List Int, (ds = [tI xs] ∨ ds = [lI xs]) ∧ BitsL 8000 xs ∧ xs.length ≤ 1000 ∧ d = tI (shortL xs)
theorem ok_short (F : Fun K "shortened" "shortened" st_shortened f fd) (T : Tx mg) (C1 : Cal P w K mg base 1 "common_divisor" ["numbers"] (spR K R_cd)) : FnOk P w K mg base CX0 2 f fd ["numbers"] (spR K R_short) := by
  refine fnR F sc_shortened (fun ds d h => by obtain ⟨x, h, _⟩ := h; rcases h with rfl | rfl <;> rfl) fun cdv A outer s H E G hr ds d h => ?_
  obtain ⟨xs, h, hb, hl, rfl⟩ := h
  have main : ∀ v : PyData, (v = tI xs ∨ v = lI xs) → (∀ tg p (ρ : Rho), ρ[0]? = some (some (.dat v)) → Src (cxOf CX0 P w K mg base n_shortened "shortened" (defScope st_shortened) f cdv A outer s H E).nox 0 tg (.Name "numbers" p) ρ (xs.map .int)) →
      CaD (cxOf CX0 P w K mg base n_shortened "shortened" (defScope st_shortened) f cdv A outer s H E).nox (.type "tuple") [v] (tI xs) →
      Run (cxOf CX0 P w K mg base n_shortened "shortened" (defScope st_shortened) f cdv A outer s H E).nox 0 (defBody st_shortened) [some (.dat v), none, none] (fun _ => tI (shortL xs) = .none) (fun d' => d' = tI (shortL xs)) := fun v hv hs hc => by
    refine r_cons (rs_set (i := 1) G (e_call C1 (hr.mono (by decide)) (a_cons (e_var (i := 0) rfl) a_nil) ⟨xs, by rcases hv with rfl | rfl <;> simp, rfl⟩) ?_)
    refine r_cons (rs_if (t_cmp od_lt (e_var (i := 1) rfl) e_int (nomark _)) (fun h2 => r_one (rs_ret (e_callT hc (a_cons (e_var (i := 0) rfl) a_nil) T.tuple (by decide +kernel)) ?_)) fun h2 => r_nil ?_)
    · have h2 := of_decide_eq_true h2
      unfold shortL
      rw [if_pos (by omega)]
    · have h2 := of_decide_eq_false h2
      have g0 : (gcdL xs : Int) ≠ 0 := by omega
      have gb : (gcdL xs : Int).natAbs.log2 < 9000 := Nat.lt_of_lt_of_le ((gcdL_bits hb).log (by decide)) (by decide)
      refine r_one (rs_ret (e_callT ca_tupL (a_cons (e_lc0 (own := [("number", 2)]) (f := fName 2) (val := onInt fun x => x.fdiv (gcdL xs : Int)) G (hs _ _ _ rfl) (by simp; omega) (blkOk_by (N := n_shortened) (sc := defScope st_shortened) (by decide +kernel))
        (fun _ _ _ _ _ => pg_name (i := 2) sc_shortened.nd rfl (Or.inl rfl)) (tg_name (by decide)) fun d hd => ?_) a_nil) T.tuple (by decide +kernel)) ?_)
      · obtain ⟨x, hx, rfl⟩ := mem_mapI hd
        exact ⟨_, rfl, fun s H C cl fp => e_bin (od_fdiv g0 gb) (e_var (i := 2) rfl) (e_var (i := 1) rfl)⟩
      · rw [mapI]
        unfold shortL
        rw [if_neg (by omega)]
  rcases h with rfl | rfl
  · exact main _ (.inl rfl) (fun _ _ ρ hρ => src_T (e_var (i := 0) hρ)) ca_tupT
  · exact main _ (.inr rfl) (fun _ _ ρ hρ => src_L (e_var (i := 0) hρ)) ca_tupL
def R_sign (ds : List PyData) (d : PyData) : Prop := ∃ n, ds = [.int n] ∧ d = .int (sgn n)
theorem ok_sign (F : Fun K "sign_of" "sign_of" st_sign_of f fd) : FnOk P w K mg base CX0 1 f fd ["number"] (spR K R_sign) := by
  refine fnR F sc_sign_of (fun ds d h => by obtain ⟨x, rfl, _⟩ := h; rfl) fun cdv A outer s H E G hr ds d h => ?_
  obtain ⟨n, rfl, rfl⟩ := h
  refine r_cons (rs_if (t_cmp od_gt (e_var (i := 0) rfl) e_int (nomark _)) (fun h => r_one (rs_ret e_int ?_)) fun h => r_nil (r_cons (rs_if (t_cmp od_lt (e_var (i := 0) rfl) e_int (nomark _)) (fun h' => r_one (rs_ret (e_neg e_int) ?_)) fun h' => r_nil (r_one (rs_ret e_int ?_)))))
  · unfold sgn
    rw [if_pos (of_decide_eq_true h)]
  · unfold sgn
    rw [if_neg (of_decide_eq_false h), if_pos (of_decide_eq_true h')]
  · unfold sgn
    rw [if_neg (of_decide_eq_false h), if_neg (of_decide_eq_false h')]
def R_lowest (ds : List PyData) (d : PyData) : Prop := ∃ t b, ds = [.int t, .int b] ∧ b ≠ 0 ∧ Bits 8000 b ∧ d = tI (fracL t b)
theorem ok_lowest (F : Fun K "lowest" "lowest" st_lowest f fd) (T : Tx mg) : FnOk P w K mg base CX0 1 f fd ["top", "bottom"] (spR K R_lowest) := by
  refine fnR F sc_lowest (fun ds d h => by obtain ⟨t, b, rfl, _⟩ := h; rfl) fun cdv A outer s H E G hr ds d h => ?_
  obtain ⟨t, b, rfl, hb, hbb, rfl⟩ := h
  have gp : 0 < Nat.gcd t.natAbs b.natAbs := Nat.gcd_pos_of_pos_right _ (by omega)
  have gl : Nat.gcd t.natAbs b.natAbs ≤ b.natAbs := Nat.gcd_le_right _ (by omega)
  have bits : ∀ z : Int, z.natAbs = Nat.gcd t.natAbs b.natAbs → z ≠ 0 ∧ z.natAbs.log2 < 9000 := fun z hz => ⟨by omega, Nat.lt_of_lt_of_le ((hbb.le (x := z) (by omega)).log (by decide)) (by decide)⟩
  refine r_cons (rs_if (b := false) (t_is (t_cmp od_eqI (e_var (i := 1) rfl) e_int (nomark _)) (by simp [hb])) nofun fun _ => r_nil ?_)
  refine r_cons (rs_set (i := 2) G (e_callM ca_gcd (a_cons (e_var (i := 0) rfl) (a_cons (e_var (i := 1) rfl) a_nil)) T.gcd) ?_)
  have fin : ∀ z : Int, z = (if b < 0 then -((Nat.gcd t.natAbs b.natAbs : Nat) : Int) else ((Nat.gcd t.natAbs b.natAbs : Nat) : Int)) →
      Run (cxOf CX0 P w K mg base n_lowest "lowest" (defScope st_lowest) f cdv A outer s H E).nox 0 ((defBody st_lowest).drop 3) [some (.dat (.int t)), some (.dat (.int b)), some (.dat (.int z))] (fun _ => tI (fracL t b) = .none) (fun d' => d' = tI (fracL t b)) := fun z hz => by
    obtain ⟨z0, zb⟩ := bits z (by rw [hz]; split <;> simp)
    refine r_one (rs_ret (e_tup (a_cons (e_bin (od_fdiv z0 zb) (e_var (i := 0) rfl) (e_var (i := 2) rfl)) (a_cons (e_bin (od_fdiv z0 zb) (e_var (i := 1) rfl) (e_var (i := 2) rfl)) a_nil))) ?_)
    rw [← frac_lowest hb, ← hz] <;> rfl
  refine r_cons (rs_if (t_cmp od_lt (e_var (i := 1) rfl) e_int (nomark _)) (fun h => r_one (rs_set (i := 2) G (e_neg (e_var (i := 2) rfl)) ?_)) fun h => r_nil ?_)
  · exact fin _ (by rw [if_pos (of_decide_eq_true h)])
  · exact fin _ (by rw [if_neg (of_decide_eq_false h)])
def R_crow (ds : List PyData) (d : PyData) : Prop := ∃ (n : Int) (xs : List Int), ds = [.int n, tI xs] ∧ (xs.length : Int) = n + 1 ∧ xs.length ≤ 1000 ∧ d = tI xs
theorem ok_crow (F : Fun K "check_row" "check_row" st_check_row f fd) (C2 : Cal P w K mg base 2 "wrong_place" ["value", "many"] (spR K R_wrong)) : FnOk P w K mg base CX0 3 f fd ["dimension", "value"] (spR K R_crow) := by
  refine fnR F sc_check_row (fun ds d h => by obtain ⟨t, b, rfl, _⟩ := h; rfl) fun cdv A outer s H E G hr ds d h => ?_
  obtain ⟨n, xs, rfl, hn, hz, rfl⟩ := h
  refine r_cons (rs_set (i := 2) G (e_call (d := .none) C2 (hr.mono (by decide)) (a_cons (e_var (i := 1) rfl) (a_cons (e_bin od_add (e_var (i := 0) rfl) e_int) a_nil)) ⟨_, _, rfl, fun ys e => ?_, ?_⟩) ?_)
  · cases e
    simpa using hz
  · show PyData.none = (if ((xs.map PyData.int).length : Int) = n + 1 then placeD (badAt (xs.map .int)) else .int (-1))
    rw [List.length_map, if_pos hn, badAt_ints] <;> rfl
  · exact r_cons (rs_if (b := false) (t_is (t_cmp od_notN (e_var (i := 2) rfl) e_non (nomark _)) rfl) nofun fun _ => r_nil (r_one (rs_ret (e_var (i := 1) rfl) rfl)))
end
end K3
namespace K3
open PySem PySem.Spec PyProof.Rows L2 Zj
section
variable {P : Program} {w : World} {K : PySem.W.Frag} {mg : Str → Option Value} {base : Heap} {f : Addr} {fd : FuncData}
def R_first (ds : List PyData) (d : PyData) : Prop := ∃ xs : List Int, ds = [tI xs] ∧ d = placeD (lead xs)
theorem ok_first (F : Fun K "first_place" "first_place" st_first_place f fd) (T : Tx mg) : FnOk P w K mg base CX0 1 f fd ["numbers"] (spR K R_first) := by
  refine fnR F sc_first_place (fun ds d h => by obtain ⟨x, rfl, _⟩ := h; rfl) fun cdv A outer s H E G hr ds d h => ?_
  obtain ⟨xs, rfl, rfl⟩ := h
  refine r_cons (rs_for G (src_ET (a_cons (e_var (i := 0) rfl) a_nil) T.enum) (pg_tup rfl (pgs_cons (pg_name (i := 1) sc_first_place.nd rfl (Or.inl rfl)) (pgs_cons (pg_name (i := 2) sc_first_place.nd rfl (Or.inl rfl)) pgs_nil))) (tg_pair (vs := [1, 2]) (by decide) (by decide))
    (fun n ρ' => (∃ x y, ρ' = [some (.dat (tI xs)), x, y]) ∧ ∀ i y, i < n → xs[i]? = some y → (!(y == 0)) = false) ⟨⟨_, _, rfl⟩, fun i y hi => by omega⟩ (fun n d ρ1 hd hJ => ?_) fun ρ' hJ => ?_)
  · obtain ⟨x', hx', rfl⟩ := getN hd
    obtain ⟨x, hx, rfl⟩ := getI hx'
    obtain ⟨⟨_, _, rfl⟩, hb⟩ := hJ
    refine ⟨_, rfl, r_one (rs_if (t_cmp od_neI (e_var (i := 2) rfl) e_int (nomark _)) (fun hw => r_one (rs_ret (e_var (i := 1) rfl) ?_)) fun hw => r_nil ⟨⟨_, _, rfl⟩, fun i y hi hy => ?_⟩)⟩
    · rw [show lead xs = some n from find_hit hx hw hb] <;> rfl
    · by_cases hin : i = n
      · subst hin
        rw [hx] at hy
        cases hy
        exact hw
      · exact hb i y (by omega) hy
  · obtain ⟨⟨_, _, rfl⟩, hb⟩ := hJ
    rw [numbered_len, List.length_map] at hb
    refine r_one (rs_ret e_non ?_)
    rw [show lead xs = none from find_miss hb] <;> rfl
def R_plane (ds : List PyData) (d : PyData) : Prop := ∃ row : List Int, ds = [tI row] ∧ 1 ≤ row.length ∧ row.length ≤ 1000 ∧ BitsL 8000 row ∧ d = planeD row
theorem ok_plane (F : Fun K "plane_of" "plane_of" st_plane_of f fd) (T : Tx mg) (C1 : Cal P w K mg base 1 "first_place" ["numbers"] (spR K R_first)) (C2 : Cal P w K mg base 2 "shortened" ["numbers"] (spR K R_short)) : FnOk P w K mg base CX0 3 f fd ["row"] (spR K R_plane) := by
  refine fnR F sc_plane_of (fun ds d h => by obtain ⟨x, rfl, _⟩ := h; rfl) fun cdv A outer s H E G hr ds d h => ?_
  obtain ⟨row, rfl, h1, hl, hb, rfl⟩ := h
  have h1' : 1 ≤ (row.map PyData.int).length := by simpa using h1
  refine r_cons (rs_set (i := 1) G (e_call C1 (hr.mono (by decide)) (a_cons (e_slT (e_var (i := 0) rfl) o_non (o_int (e_neg e_int)) (cut_part _ h1')) a_nil) ⟨row.dropLast, by rw [cutD_init _ h1', initI], rfl⟩) ?_)
  refine r_cons (rs_if (t_cmp od_isN (e_var (i := 1) rfl) e_non (nomark _)) (fun hn => r_one (rs_ret e_non ?_)) fun hn => r_nil ?_)
  · cases hp : lead row.dropLast with
    | none =>
      unfold planeD planeL
      rw [hp]
    | some p => rw [hp] at hn; cases hn
  · cases hp : lead row.dropLast with
    | none => rw [hp] at hn; cases hn
    | some p =>
      obtain ⟨x, hx, hx0⟩ := lead_get hp
      have hpl : p < row.length := by
        have := (List.getElem?_eq_some_iff.mp hx).1
        rw [List.length_dropLast] at this
        omega
      have hps : p < (shortL row).length := by rw [shortL_len]; exact hpl
      have e0 : planeD row = tI (if (shortL row).getD p 0 < 0 then (shortL row).map (fun x => -x) else shortL row) := by
        unfold planeD planeL
        rw [hp]
      rw [e0]
      refine r_cons (rs_set (i := 2) G (e_call C2 (hr.mono (by decide)) (a_cons (e_var (i := 0) rfl) a_nil) ⟨row, .inl rfl, hb, hl, rfl⟩) ?_)
      have hat : atI ((shortL row).map PyData.int) (p : Int) = some (.int ((shortL row).getD p 0)) := atI_nat (by
        rw [List.getElem?_map, List.getElem?_eq_getElem hps, List.getD_eq_getElem?_getD, List.getElem?_eq_getElem hps] <;> rfl)
      refine r_cons (rs_if (t_cmp od_lt (e_ixT (e_var (i := 2) rfl) (e_var (i := 1) rfl) hat) e_int (nomark _)) (fun hlt => r_one (rs_ret (e_callT ca_tupL (a_cons (e_lc0 (own := [("number", 3)]) (f := fName 3) (val := onInt fun x => -x) G (src_T (e_var (i := 2) rfl)) (by simp [shortL_len]; omega) (blkOk_by (N := n_plane_of) (sc := defScope st_plane_of) (by decide +kernel))
        (fun _ _ _ _ _ => pg_name (i := 3) sc_plane_of.nd rfl (Or.inl rfl)) (tg_name (by decide)) fun d hd => ?_) a_nil) T.tuple (by decide +kernel)) ?_)) fun hlt => r_nil (r_one (rs_ret (e_var (i := 2) rfl) ?_)))
      · obtain ⟨x, hx, rfl⟩ := mem_mapI hd
        exact ⟨_, rfl, fun s H C cl fp => e_neg (e_var (i := 3) rfl)⟩
      · rw [mapI, if_pos (of_decide_eq_true hlt)]
      · rw [if_neg (of_decide_eq_false hlt)]
def R_cplane (ds : List PyData) (d : PyData) : Prop := ∃ (n : Int) (xs : List Int), ds = [.int n, tI xs] ∧ (xs.length : Int) = n + 1 ∧ 1 ≤ xs.length ∧ xs.length ≤ 1000 ∧ BitsL 8000 xs ∧ planeL xs = some xs ∧ d = tI xs
theorem ok_cplane (F : Fun K "check_plane" "check_plane" st_check_plane f fd) (C1 : Cal P w K mg base 3 "check_row" ["dimension", "value"] (spR K R_crow)) (C2 : Cal P w K mg base 3 "plane_of" ["row"] (spR K R_plane)) : FnOk P w K mg base CX0 4 f fd ["dimension", "value"] (spR K R_cplane) := by
  refine fnR F sc_check_plane (fun ds d h => by obtain ⟨_, x, rfl, _⟩ := h; rfl) fun cdv A outer s H E G hr ds d h => ?_
  obtain ⟨n, xs, rfl, hn, h1, hl, hb, hp, rfl⟩ := h
  refine r_cons (rs_expr (e_call C1 (hr.mono (by decide)) (a_cons (e_var (i := 0) rfl) (a_cons (e_var (i := 1) rfl) a_nil)) ⟨n, xs, rfl, hn, hl, rfl⟩) ?_)
  have e0 : planeD xs = tI xs := by
    unfold planeD
    rw [hp]
  refine r_cons (rs_if (b := false) (t_is (t_cmp (od_neD G.un (shaped_tI xs) (shaped_tI xs)) (e_is (e_call C2 (hr.mono (by decide)) (a_cons (e_var (i := 1) rfl) a_nil) ⟨xs, rfl, h1, hl, hb, rfl⟩) e0) (e_var (i := 1) rfl) (nomark _)) (by rw [eqv_tI]; simp)) nofun fun _ => r_nil (r_one (rs_ret (e_var (i := 1) rfl) rfl)))
def R_value (ds : List PyData) (d : PyData) : Prop := ∃ (row pt : List Int) (l : Int), ds = [tI row, tI pt] ∧ pt.getLast? = some l ∧ 0 < l ∧ BitsL 8000 row ∧ BitsL 8000 pt ∧ row.length ≤ 1000 ∧ d = tI (fracL (dot row pt) l)
theorem ok_value (F : Fun K "value_at" "value_at" st_value_at f fd) (C1 : Cal P w K mg base 1 "lowest" ["top", "bottom"] (spR K R_lowest)) (C2 : Cal P w K mg base 1 "weighed" ["row", "point"] (spR K R_weighed)) : FnOk P w K mg base CX0 2 f fd ["row", "point"] (spR K R_value) := by
  refine fnR F sc_value_at (fun ds d h => by obtain ⟨_, x, _, rfl, _⟩ := h; rfl) fun cdv A outer s H E G hr ds d h => ?_
  obtain ⟨row, pt, l, rfl, hl, hp, hb, hb2, hz, rfl⟩ := h
  exact r_one (rs_ret (e_call C1 (hr.mono (by decide)) (a_cons (e_call C2 (hr.mono (by decide)) (a_cons (e_var (i := 0) rfl) (a_cons (e_var (i := 1) rfl) a_nil)) ⟨row, pt, rfl, hb.mono (by decide), hb2.mono (by decide), hz, rfl⟩)
    (a_cons (e_ixT (e_var (i := 1) rfl) (e_neg e_int) (ati_last (lastI hl))) a_nil)) ⟨_, _, rfl, by omega, hb2 l (List.mem_of_getLast? hl), rfl⟩) rfl)
def R_signat (ds : List PyData) (d : PyData) : Prop := ∃ (row pt : List Int), ds = [tI row, tI pt] ∧ BitsL 8000 row ∧ BitsL 8000 pt ∧ row.length ≤ 1000 ∧ d = .int (sgn (dot row pt))
theorem ok_signat (F : Fun K "sign_at" "sign_at" st_sign_at f fd) (C1 : Cal P w K mg base 1 "sign_of" ["number"] (spR K R_sign)) (C2 : Cal P w K mg base 1 "weighed" ["row", "point"] (spR K R_weighed)) : FnOk P w K mg base CX0 2 f fd ["row", "point"] (spR K R_signat) := by
  refine fnR F sc_sign_at (fun ds d h => by obtain ⟨_, x, rfl, _⟩ := h; rfl) fun cdv A outer s H E G hr ds d h => ?_
  obtain ⟨row, pt, rfl, hb, hb2, hz, rfl⟩ := h
  exact r_one (rs_ret (e_call C1 (hr.mono (by decide)) (a_cons (e_call C2 (hr.mono (by decide)) (a_cons (e_var (i := 0) rfl) (a_cons (e_var (i := 1) rfl) a_nil)) ⟨row, pt, rfl, hb.mono (by decide), hb2.mono (by decide), hz, rfl⟩) a_nil) ⟨_, rfl, rfl⟩) rfl)
def onRow (g : List Int → Int) : PyData → PyData
  | .tuple ds => .int (g (ds.map fun d => match d with | .int x => x | _ => 0))
  | _ => .none
theorem onRow_tI (g : List Int → Int) (xs : List Int) : onRow g (tI xs) = .int (g xs) := by
  show PyData.int (g ((xs.map PyData.int).map _)) = _
  rw [List.map_map]
  congr 2
  conv => rhs; rw [← List.map_id xs]
  rfl
theorem onRows (g : List Int → Int) (rows : List (List Int)) : (rows.map tI).map (onRow g) = (rows.map g).map .int := by
  rw [List.map_map, List.map_map]
  exact List.map_congr_left fun r _ => onRow_tI g r
def R_signs (ds : List PyData) (d : PyData) : Prop := ∃ (rows : List (List Int)) (pt : List Int), ds = [.tuple (rows.map tI), tI pt] ∧ (∀ row ∈ rows, BitsL 8000 row ∧ row.length ≤ 1000) ∧ BitsL 8000 pt ∧ rows.length ≤ 1000 ∧ d = tI (rows.map fun r => sgn (dot r pt))
theorem ok_signs (F : Fun K "signs_at" "signs_at" st_signs_at f fd) (T : Tx mg) (C1 : Cal P w K mg base 2 "sign_at" ["row", "point"] (spR K R_signat)) : FnOk P w K mg base CX0 3 f fd ["planes", "point"] (spR K R_signs) := by
  refine fnR F sc_signs_at (fun ds d h => by obtain ⟨_, x, rfl, _⟩ := h; rfl) fun cdv A outer s H E G hr ds d h => ?_
  obtain ⟨rows, pt, rfl, hb, hb2, hz, rfl⟩ := h
  refine r_one (rs_ret (e_callT ca_tupL (a_cons (e_lc0 (own := [("plane", 2)]) (f := fName 2) (val := onRow fun r => sgn (dot r pt)) G (src_T (e_var (i := 0) rfl)) (by simp; omega) (blkOk_by (N := n_signs_at) (sc := defScope st_signs_at) (by decide +kernel))
    (fun _ _ _ _ _ => pg_name (i := 2) sc_signs_at.nd rfl (Or.inl rfl)) (tg_name (by decide)) fun d hd => ?_) a_nil) T.tuple (by decide +kernel)) ?_)
  · obtain ⟨r, hr', rfl⟩ := List.mem_map.mp hd
    refine ⟨_, rfl, fun s H C cl fp => e_is (e_call C1 (hr.mono (by decide)) (a_cons (e_var (i := 2) rfl) (a_cons (e_var (i := 1) rfl) a_nil)) ⟨r, pt, rfl, (hb r hr').1, hb2, (hb r hr').2, rfl⟩) (onRow_tI (fun r => sgn (dot r pt)) r).symm⟩
  · rw [onRows]
def R_slope (ds : List PyData) (d : PyData) : Prop := ∃ (row way : List Int), ds = [tI row, tI way] ∧ 1 ≤ row.length ∧ BitsL 8000 row ∧ BitsL 8000 way ∧ row.length ≤ 1000 ∧ d = .int (dot row.dropLast way)
def R_prod (ds : List PyData) (d : PyData) : Prop := ∃ (xs ys : List Int), ds = [tI xs, tI ys] ∧ BitsL 8000 xs ∧ BitsL 8000 ys ∧ xs.length ≤ 1000 ∧ d = .int (dot xs ys)
theorem ok_prod (F : Fun K "product_of" "product_of" st_product_of f fd) (T : Tx mg) : FnOk P w K mg base CX0 1 f fd ["numbers", "others"] (spR K R_prod) := by
  refine fnR F sc_product_of (fun ds d h => by obtain ⟨xs, ys, rfl, _⟩ := h; rfl) fun cdv A outer s H E G hr ds d h => ?_
  obtain ⟨xs, ys, rfl, hx, hy, hl, rfl⟩ := h
  refine r_one (rs_ret (d := .int (dot xs ys)) (e_callB (ca_sum rfl (ns := List.zipWith (· * ·) xs ys)) (a_cons (e_is (e_lc0 (own := [("number", 2), ("other", 3)]) (f := fPair 2 3) (val := onPair (· * ·)) G
    (src_ZT (a_cons (e_var (i := 0) rfl) (a_cons (e_var (i := 1) rfl) a_nil)) T.zip) (by simp; omega) (blkOk_by (N := n_product_of) (sc := defScope st_product_of) (by decide +kernel))
    (fun _ _ _ _ _ => pg_tup rfl (pgs_cons (pg_name (i := 2) sc_product_of.nd rfl (Or.inl rfl)) (pgs_cons (pg_name (i := 3) sc_product_of.nd rfl (Or.inl rfl)) pgs_nil))) (tg_pair (by decide) (by decide)) (fun d hd => ?_)) (by rw [zipI_map])) a_nil) T.sum (by decide +kernel)) rfl)
  obtain ⟨x, h1, y, h2, rfl⟩ := mem_zipI hd
  exact ⟨_, rfl, fun s H C cl fp => e_bin (od_mul (mul_ok (hx x h1) (hy y h2) (by decide))) (e_var (i := 2) rfl) (e_var (i := 3) rfl)⟩
theorem ok_slope (F : Fun K "slope" "slope" st_slope f fd) (CP : Cal P w K mg base 1 "product_of" ["numbers", "others"] (spR K R_prod)) : FnOk P w K mg base CX0 2 f fd ["row", "direction"] (spR K R_slope) := by
  refine fnR F sc_slope (fun ds d h => by obtain ⟨_, x, rfl, _⟩ := h; rfl) fun cdv A outer s H E G hr ds d h => ?_
  obtain ⟨row, way, rfl, h1, hb, hb2, hz, rfl⟩ := h
  have h1' : 1 ≤ (row.map PyData.int).length := by simpa using h1
  exact r_one (rs_ret (e_call CP (hr.mono (by decide)) (a_cons (e_is (e_slT (e_var (i := 0) rfl) o_non (o_int (e_neg e_int)) (cut_part _ h1')) (by rw [cutD_init _ h1', initI])) (a_cons (e_var (i := 1) rfl) a_nil)) ⟨row.dropLast, way, rfl, fun x hx => hb x (List.dropLast_subset _ hx), hb2, by rw [List.length_dropLast]; omega, rfl⟩) rfl)
end
end K3
namespace K3
open PySem PySem.Spec PyProof.Rows L2 Zj
section
variable {P : Program} {w : World} {K : PySem.W.Frag} {mg : Str → Option Value} {base : Heap} {f : Addr} {fd : FuncData}
def movedL (pt way : List Int) (t b l : Int) : List Int := shortL (List.zipWith (fun n s => n * b + s * t * l) pt.dropLast way ++ [l * b])
def R_moved (ds : List PyData) (d : PyData) : Prop := ∃ (pt way : List Int) (t b l : Int), ds = [tI pt, tI way, tI [t, b]] ∧ pt.getLast? = some l ∧ BitsL 1500 pt ∧ BitsL 1500 way ∧ Bits 1500 t ∧ Bits 1500 b ∧ pt.length ≤ 900 ∧ d = tI (movedL pt way t b l)
theorem zip_bits {pt way : List Int} {t b l : Int} (hb : BitsL 1500 pt) (hw : BitsL 1500 way) (ht : Bits 1500 t) (hbb : Bits 1500 b) (hl : Bits 1500 l) : BitsL 8000 (List.zipWith (fun n s => n * b + s * t * l) pt.dropLast way ++ [l * b]) := by
  intro x hx
  rcases List.mem_append.mp hx with hx | hx
  · obtain ⟨i, hi⟩ := List.getElem?_of_mem hx
    rw [List.getElem?_zipWith] at hi
    split at hi
    · rename_i n s e1 e2
      cases hi
      have q1 := hb n (List.dropLast_subset _ (List.mem_of_getElem? e1))
      have q2 := hw s (List.mem_of_getElem? e2)
      exact Bits.mono (Bits.add (m := 4500) ((Bits.mul q1 hbb).mono (by decide)) ((Bits.mul (Bits.mul q2 ht) hl).mono (by decide))) (by decide)
    · cases hi
  · rw [List.mem_singleton] at hx
    subst hx
    exact (Bits.mul hl hbb).mono (by decide)
theorem ok_moved (F : Fun K "moved_by" "moved_by" st_moved_by f fd) (T : Tx mg) (C1 : Cal P w K mg base 2 "shortened" ["numbers"] (spR K R_short)) : FnOk P w K mg base CX0 3 f fd ["point", "direction", "amount"] (spR K R_moved) := by
  refine fnR F sc_moved_by (fun ds d h => by obtain ⟨x, _, _, _, _, rfl, _⟩ := h; rfl) fun cdv A outer s H E G hr ds d h => ?_
  obtain ⟨pt, way, t, b, l, rfl, hl, hb, hw, ht, hbb, hz, rfl⟩ := h
  have hlb : Bits 1500 l := hb l (List.mem_of_getLast? hl)
  have h1' : 1 ≤ (pt.map PyData.int).length := by
    cases pt with
    | nil => cases hl
    | cons => simp
  refine r_cons (rs_asg (ρ' := [some (.dat (tI pt)), some (.dat (tI way)), some (.dat (tI [t, b])), some (.dat (.int t)), some (.dat (.int b)), none, none, none, none]) (e_var (i := 2) rfl) (pg_tup rfl (pgs_cons (pg_name (i := 3) sc_moved_by.nd rfl (Or.inr rfl)) (pgs_cons (pg_name (i := 4) sc_moved_by.nd rfl (Or.inr rfl)) pgs_nil)))
    (fun T σ H v S p Q q => tg_pair (vs := [3, 4]) (by decide) (by decide) T σ H v _ _ _ S p rfl Q (fun σ' h _ => q σ' h)) ?_)
  refine r_cons (rs_set (i := 5) G (e_ixT (e_var (i := 0) rfl) (e_neg e_int) (ati_last (lastI hl))) ?_)
  refine r_cons (rs_lc0 (i := 6) (own := [("number", 7), ("step", 8)]) (f := fPair 7 8) (val := onPair fun n s => n * b + s * t * l) (items := List.zipWith (fun x y => PyData.tuple [x, y]) (pt.dropLast.map .int) (way.map .int)) G
    (src_ZT (a_cons (e_is (e_slT (e_var (i := 0) rfl) o_non (o_int (e_neg e_int)) (cut_part _ h1')) (by rw [cutD_init _ h1', initI])) (a_cons (e_var (i := 1) rfl) a_nil)) T.zip) (by simp; omega) (blkOk_by (N := n_moved_by) (sc := defScope st_moved_by) (by decide +kernel))
    (fun _ _ _ _ _ => pg_tup rfl (pgs_cons (pg_name (i := 7) sc_moved_by.nd rfl (Or.inl rfl)) (pgs_cons (pg_name (i := 8) sc_moved_by.nd rfl (Or.inl rfl)) pgs_nil))) (tg_pair (by decide) (by decide)) (fun d hd => ?_) ?_)
  · obtain ⟨x, g1, y, g2, rfl⟩ := mem_zipI hd
    have q1 := hb x (List.dropLast_subset _ g1)
    have q2 := hw y g2
    exact ⟨_, rfl, fun s H C cl fp => e_bin od_add (e_bin (od_mul (mul_ok q1 hbb (by decide))) (e_var (i := 7) rfl) (e_var (i := 4) rfl)) (e_bin (od_mul (mul_ok (Bits.mul q2 ht) hlb (by decide))) (e_bin (od_mul (mul_ok q2 ht (by decide))) (e_var (i := 8) rfl) (e_var (i := 3) rfl)) (e_var (i := 5) rfl))⟩
  · rw [zipI_map]
    refine r_one (rs_ret (e_call C1 (hr.mono (by decide)) (a_cons (e_is (d' := lI (List.zipWith (fun n s => n * b + s * t * l) pt.dropLast way ++ [l * b])) (e_bin (od_catL (by simp; omega)) (e_var (i := 6) rfl) (e_lst (a_cons (e_bin (od_mul (mul_ok hlb hbb (by decide))) (e_var (i := 5) rfl) (e_var (i := 4) rfl)) a_nil))) ?_) a_nil) ⟨_, .inr rfl, zip_bits hb hw ht hbb hlb, ?_, rfl⟩) rfl)
    · show PyData.list _ = PyData.list (List.map _ _)
      rw [List.map_append]
      rfl
    · simp
      omega
def R_like (ds : List PyData) (d : PyData) : Prop := ∃ x, ds = [x, x] ∧ Tame x ∧ d = .bool true
theorem ok_like (F : Fun K "_law_like" "_law_like" st__law_like f fd) (T : Tx mg) : FnG P w K mg base CX0 1 f fd ["told", "due"] (spR K R_like) := by
  refine fnRG F sc__law_like (fun ds d h => by obtain ⟨x, rfl, _⟩ := h; rfl) fun cdv A outer s H E G hr hgd ds d h => ?_
  obtain ⟨x, rfl, ht, rfl⟩ := h
  exact r_one (rs_ret (e_cmp od_eqS (e_callB (ca_repr hgd G.un ht) (a_cons (e_var (i := 0) rfl) a_nil) T.repr (by decide +kernel)) (e_callB (ca_repr hgd G.un ht) (a_cons (e_var (i := 1) rfl) a_nil) T.repr (by decide +kernel)) (nomark _)) (by rw [beq_self_eq_true]))
theorem ok_lsign (F : Fun K "_law_sign" "_law_sign" st__law_sign f fd) (T : Tx mg) : FnOk P w K mg base CX0 1 f fd ["number"] (spR K R_sign) := by
  refine fnR F sc__law_sign (fun ds d h => by obtain ⟨x, rfl, _⟩ := h; rfl) fun cdv A outer s H E G hr ds d h => ?_
  obtain ⟨n, rfl, rfl⟩ := h
  refine r_one (rs_ret (e_bin od_sub (e_callT ca_intB (a_cons (e_cmp od_gt (e_var (i := 0) rfl) e_int (nomark _)) a_nil) T.int (by decide +kernel)) (e_callT ca_intB (a_cons (e_cmp od_lt (e_var (i := 0) rfl) e_int (nomark _)) a_nil) T.int (by decide +kernel))) ?_)
  unfold sgn
  rcases Int.lt_trichotomy n 0 with h | h | h
  · rw [if_neg (show ¬ 0 < n by omega), if_pos h, decide_eq_false (show ¬ 0 < n by omega), decide_eq_true h] <;> rfl
  · subst h
    rfl
  · rw [if_pos h, decide_eq_true h, decide_eq_false (show ¬ n < 0 by omega)] <;> rfl
theorem ok_common (F : Fun K "_law_common" "_law_common" st__law_common f fd) (T : Tx mg) : FnOk P w K mg base CX0 1 f fd ["numbers"] (spR K R_cd) := by
  refine fnR F sc__law_common (fun ds d h => by obtain ⟨x, h, _⟩ := h; rcases h with rfl | rfl <;> rfl) fun cdv A outer s H E G hr ds d h => ?_
  obtain ⟨xs, h, rfl⟩ := h
  have main : ∀ v : PyData, (∀ tg p (ρ : Rho), ρ[0]? = some (some (.dat v)) → Src (cxOf CX0 P w K mg base n__law_common "_law_common" (defScope st__law_common) f cdv A outer s H E).nox 0 tg (.Name "numbers" p) ρ (xs.map .int)) →
      Run (cxOf CX0 P w K mg base n__law_common "_law_common" (defScope st__law_common) f cdv A outer s H E).nox 0 (defBody st__law_common) [some (.dat v), none, none, none] (fun _ => PyData.int (gcdL xs) = .none) (fun d' => d' = .int (gcdL xs)) := fun v hs => by
    refine r_cons (rs_set (i := 1) G e_int ?_)
    refine r_cons (rs_for G (hs _ _ _ rfl) (pg_name (i := 2) sc__law_common.nd rfl (Or.inl rfl)) (tg_name (vs := [2]) (by decide)) (fun n ρ' => ∃ y z, ρ' = [some (.dat v), some (.dat (.int (gcdL (xs.take n)))), y, z]) ⟨_, _, rfl⟩ (fun n d ρ1 hd hJ => ?_) fun ρ' hJ => ?_)
    · obtain ⟨x, hx, rfl⟩ := getI hd
      obtain ⟨_, _, rfl⟩ := hJ
      refine ⟨_, rfl, r_cons (rs_set (i := 3) G (e_callB ca_abs (a_cons (e_var (i := 2) rfl) a_nil) T.abs (by decide +kernel)) ?_)⟩
      refine r_one (rs_while G (fun m ρ' => ∃ a b : Nat, b = m ∧ Nat.gcd a b = gcdL (xs.take (n + 1)) ∧ ρ' = [some (.dat v), some (.dat (.int (a : Int))), some (.dat (.int x)), some (.dat (.int (b : Int)))]) x.natAbs ⟨gcdL (xs.take n), x.natAbs, rfl, (gcdL_take hx).symm, ?_⟩ fun m ρ' hW => ?_)
      · have : (if x < 0 then -x else x) = (x.natAbs : Int) := by
          split <;> omega
        rw [this] <;> rfl
      · obtain ⟨a, b, rfl, hg, rfl⟩ := hW
        refine ⟨_, t_cmp od_neI (e_var (i := 3) rfl) e_int (nomark _), fun hne => ?_, fun he => ?_⟩
        · have hb0 : 0 < b := by
            rcases Nat.eq_zero_or_pos b with h | h
            · subst h; cases hne
            · exact h
          refine r_one (rs_par (i := 1) (j := 3) G (a_cons (e_var (i := 3) rfl) (a_cons (e_bin (od_mod (by omega)) (e_callT ca_int (a_cons (e_var (i := 1) rfl) a_nil) T.int (by decide +kernel)) (e_var (i := 3) rfl)) a_nil)) ⟨a % b, Nat.mod_lt _ hb0, b, a % b, rfl, ?_, ?_⟩)
          · rw [Nat.gcd_comm b, ← Nat.gcd_rec, Nat.gcd_comm, hg]
          · rw [show ((a : Int) % (b : Int)) = ((a % b : Nat) : Int) by omega] <;> rfl
        · have hb0 : b = 0 := by
            have he' : (!((b : Int) == 0)) = false := he
            rw [Bool.not_eq_false', beq_iff_eq] at he'
            omega
          subst hb0
          rw [Nat.gcd_zero_right] at hg
          exact ⟨_, _, by rw [hg]⟩
    · obtain ⟨_, _, rfl⟩ := hJ
      rw [List.length_map, List.take_length]
      exact r_one (rs_ret (e_var (i := 1) rfl) rfl)
  rcases h with rfl | rfl
  · exact main _ fun _ _ ρ hρ => src_T (e_var (i := 0) hρ)
  · exact main _ fun _ _ ρ hρ => src_L (e_var (i := 0) hρ)
theorem ok_lowered (F : Fun K "_law_lowered" "_law_lowered" st__law_lowered f fd) (T : Tx mg) (C1 : Cal P w K mg base 1 "_law_common" ["numbers"] (spR K R_cd)) : FnOk P w K mg base CX0 2 f fd ["numbers"] (spR K R_short) := by
  refine fnR F sc__law_lowered (fun ds d h => by obtain ⟨x, h, _⟩ := h; rcases h with rfl | rfl <;> rfl) fun cdv A outer s H E G hr ds d h => ?_
  obtain ⟨xs, h, hb, hl, rfl⟩ := h
  have main : ∀ v : PyData, (v = tI xs ∨ v = lI xs) → (∀ tg p (ρ : Rho), ρ[0]? = some (some (.dat v)) → Src (cxOf CX0 P w K mg base n__law_lowered "_law_lowered" (defScope st__law_lowered) f cdv A outer s H E).nox 0 tg (.Name "numbers" p) ρ (xs.map .int)) →
      CaD (cxOf CX0 P w K mg base n__law_lowered "_law_lowered" (defScope st__law_lowered) f cdv A outer s H E).nox (.type "tuple") [v] (tI xs) →
      Run (cxOf CX0 P w K mg base n__law_lowered "_law_lowered" (defScope st__law_lowered) f cdv A outer s H E).nox 0 (defBody st__law_lowered) [some (.dat v), none, none] (fun _ => tI (shortL xs) = .none) (fun d' => d' = tI (shortL xs)) := fun v hv hs hc => by
    refine r_cons (rs_set (i := 1) G (e_call C1 (hr.mono (by decide)) (a_cons (e_var (i := 0) rfl) a_nil) ⟨xs, by rcases hv with rfl | rfl <;> simp, rfl⟩) ?_)
    refine r_one (rs_ret (e_if (d := tI (shortL xs)) (t_cmp od_gt (e_var (i := 1) rfl) e_int (nomark _)) (fun h2 => ?_) (fun h2 => ?_)) rfl)
    · have h2 := of_decide_eq_true h2
      have g0 : (gcdL xs : Int) ≠ 0 := by omega
      have gb : (gcdL xs : Int).natAbs.log2 < 9000 := Nat.lt_of_lt_of_le ((gcdL_bits hb).log (by decide)) (by decide)
      refine e_is (e_callT ca_tupL (a_cons (e_lc0 (own := [("number", 2)]) (f := fName 2) (val := onInt fun x => x.fdiv (gcdL xs : Int)) G (hs _ _ _ rfl) (by simp; omega) (blkOk_by (N := n__law_lowered) (sc := defScope st__law_lowered) (by decide +kernel))
        (fun _ _ _ _ _ => pg_name (i := 2) sc__law_lowered.nd rfl (Or.inl rfl)) (tg_name (by decide)) fun d hd => ?_) a_nil) T.tuple (by decide +kernel)) ?_
      · obtain ⟨x, hx, rfl⟩ := mem_mapI hd
        exact ⟨_, rfl, fun s H C cl fp => e_bin (od_fdiv g0 gb) (e_var (i := 2) rfl) (e_var (i := 1) rfl)⟩
      · rw [mapI]
        unfold shortL
        rw [if_neg (by omega)]
    · have h2 := of_decide_eq_false h2
      refine e_is (e_callT hc (a_cons (e_var (i := 0) rfl) a_nil) T.tuple (by decide +kernel)) ?_
      unfold shortL
      rw [if_pos (by omega)]
  rcases h with rfl | rfl
  · exact main _ (.inl rfl) (fun _ _ ρ hρ => src_T (e_var (i := 0) hρ)) ca_tupT
  · exact main _ (.inr rfl) (fun _ _ ρ hρ => src_L (e_var (i := 0) hρ)) ca_tupL
end
end K3
namespace K3
open PySem PySem.Spec PyProof.Rows L2 Zj
theorem lead_row {row : List Int} {p : Nat} (hp : lead row.dropLast = some p) : ∃ x, row[p]? = some x ∧ x ≠ 0 := by
  obtain ⟨x, hx, hx0⟩ := lead_get hp
  refine ⟨x, ?_, hx0⟩
  rw [List.getElem?_dropLast] at hx
  split at hx
  · exact hx
  · cases hx
theorem short_at {row : List Int} {p : Nat} (hp : lead row.dropLast = some p) : ∃ y, (shortL row)[p]? = some y ∧ y ≠ 0 := by
  obtain ⟨x, hx, hx0⟩ := lead_row hp
  obtain ⟨g0, e⟩ := shortL_mul row ⟨x, List.mem_of_getElem? hx, hx0⟩
  rw [e, List.getElem?_map] at hx
  cases hy : (shortL row)[p]? with
  | none => rw [hy] at hx; cases hx
  | some y =>
    rw [hy] at hx
    refine ⟨y, rfl, fun h => ?_⟩
    subst h
    cases hx
    exact hx0 (Int.mul_zero _)
section
variable {P : Program} {w : World} {K : PySem.W.Frag} {mg : Str → Option Value} {base : Heap} {f : Addr} {fd : FuncData}
def R_fraction (ds : List PyData) (d : PyData) : Prop := ∃ t b, ds = [.int t, .int b] ∧ Bits 8000 t ∧ Bits 8000 b ∧ d = tI (fracL t b)
theorem ok_fraction (F : Fun K "_law_fraction" "_law_fraction" st__law_fraction f fd) (C1 : Cal P w K mg base 2 "_law_lowered" ["numbers"] (spR K R_short)) : FnOk P w K mg base CX0 3 f fd ["top", "bottom"] (spR K R_fraction) := by
  refine fnR F sc__law_fraction (fun ds d h => by obtain ⟨x, _, rfl, _⟩ := h; rfl) fun cdv A outer s H E G hr ds d h => ?_
  obtain ⟨t, b, rfl, ht, hb, rfl⟩ := h
  refine r_cons (rs_set (i := 2) G (e_call C1 (hr.mono (by decide)) (a_cons (e_lst (a_cons (e_var (i := 0) rfl) (a_cons (e_var (i := 1) rfl) a_nil))) a_nil) ⟨[t, b], .inr rfl, fun x hx => ?_, by simp, rfl⟩) ?_)
  · rcases List.mem_cons.mp hx with rfl | hx
    · exact ht
    · rw [List.mem_singleton] at hx
      subst hx
      exact hb
  · obtain ⟨u, v, e⟩ : ∃ u v, shortL [t, b] = [u, v] := by
      have := shortL_len [t, b]
      match h : shortL [t, b], this with
      | [u, v], _ => exact ⟨u, v, rfl⟩
    have e2 : ∀ c : Bool, c = decide (0 < b) → fracL t b = if c = true then [u, v] else [-u, -v] := fun c hc => by
      unfold fracL
      rw [e, hc]
      by_cases hbp : 0 < b
      · rw [if_pos hbp, if_pos (decide_eq_true hbp)]
      · rw [if_neg hbp, if_neg (by simpa using hbp)] <;> rfl
    rw [e]
    refine r_one (rs_ret (e_if (d := tI (fracL t b)) (t_cmp od_gt (e_var (i := 1) rfl) e_int (nomark _)) (fun h2 => e_is (e_var (i := 2) rfl) ?_) (fun h2 => e_is (e_tup (a_cons (e_neg (e_ixT (e_var (i := 2) rfl) e_int (d := .int u) rfl)) (a_cons (e_neg (e_ixT (e_var (i := 2) rfl) e_int (d := .int v) rfl)) a_nil))) ?_)) rfl)
    · rw [e2 _ rfl, if_pos h2]
    · rw [e2 _ rfl, if_neg (by rw [h2]; exact Bool.false_ne_true)] <;> rfl
def R_point (ds : List PyData) (d : PyData) : Prop := ∃ (ns : List Int) (b : Int), ds = [lI ns, .int b] ∧ 0 < b ∧ BitsL 7000 ns ∧ Bits 7000 b ∧ ns.length ≤ 900 ∧ d = tI (shortL (ns ++ [b]))
theorem ok_point (F : Fun K "_law_point" "_law_point" st__law_point f fd) (C1 : Cal P w K mg base 2 "_law_lowered" ["numbers"] (spR K R_short)) : FnOk P w K mg base CX0 3 f fd ["numbers", "bottom"] (spR K R_point) := by
  refine fnR F sc__law_point (fun ds d h => by obtain ⟨x, _, rfl, _⟩ := h; rfl) fun cdv A outer s H E G hr ds d h => ?_
  obtain ⟨ns, b, rfl, h0, hb, hb2, hz, rfl⟩ := h
  have b1 : Bits 10 1 := show (1 : Nat) < 2 ^ 10 by decide
  refine r_cons (rs_set (i := 2) G (e_ifT (t_is (t_cmp od_gt (e_var (i := 1) rfl) e_int (nomark _)) (decide_eq_true h0)) e_int) ?_)
  refine r_one (rs_ret (e_call C1 (hr.mono (by decide)) (a_cons (e_is (d' := lI (ns ++ [b])) (e_bin (od_catL (by simp; omega)) (e_lc0 (own := [("number", 3)]) (f := fName 3) (val := onInt fun x => 1 * x) G (src_L (e_var (i := 0) rfl)) (by simp; omega) (blkOk_by (N := n__law_point) (sc := defScope st__law_point) (by decide +kernel))
        (fun _ _ _ _ _ => pg_name (i := 3) sc__law_point.nd rfl (Or.inl rfl)) (tg_name (by decide)) fun d hd => ?_) (e_lst (a_cons (e_bin (od_mul (mul_ok b1 hb2 (by decide))) (e_var (i := 2) rfl) (e_var (i := 1) rfl)) a_nil))) ?_) a_nil) ⟨_, .inr rfl, fun x hx => ?_, by simp; omega, rfl⟩) rfl)
  · obtain ⟨x, hx, rfl⟩ := mem_mapI hd
    exact ⟨_, rfl, fun s H C cl fp => e_bin (od_mul (mul_ok b1 (hb x hx) (by decide))) (e_var (i := 2) rfl) (e_var (i := 3) rfl)⟩
  · rw [mapI, show (fun x : Int => 1 * x) = id from funext fun x => Int.one_mul x, List.map_id, Int.one_mul]
    show PyData.list _ = PyData.list (List.map _ _)
    rw [List.map_append]
    rfl
  · rcases List.mem_append.mp hx with hx | hx
    · exact (hb x hx).mono (by decide)
    · rw [List.mem_singleton] at hx
      subst hx
      exact hb2.mono (by decide)
theorem ok_total (F : Fun K "_law_total" "_law_total" st__law_total f fd) (T : Tx mg) : FnOk P w K mg base CX0 1 f fd ["row_so", "point_so"] (spR K R_weighed) := by
  refine fnR F sc__law_total (fun ds d h => by obtain ⟨xs, ys, rfl, _⟩ := h; rfl) fun cdv A outer s H E G hr ds d h => ?_
  obtain ⟨xs, ys, rfl, hx, hy, hl, rfl⟩ := h
  refine r_one (rs_ret (d := .int (dot xs ys)) (e_callB (ca_sum rfl (ns := List.zipWith (· * ·) xs ys)) (a_cons (e_is (e_lc0 (own := [("one", 2), ("other", 3)]) (f := fPair 2 3) (val := onPair (· * ·)) G
    (src_ZT (a_cons (e_var (i := 0) rfl) (a_cons (e_var (i := 1) rfl) a_nil)) T.zip) (by simp; omega) (blkOk_by (N := n__law_total) (sc := defScope st__law_total) (by decide +kernel))
    (fun _ _ _ _ _ => pg_tup rfl (pgs_cons (pg_name (i := 2) sc__law_total.nd rfl (Or.inl rfl)) (pgs_cons (pg_name (i := 3) sc__law_total.nd rfl (Or.inl rfl)) pgs_nil))) (tg_pair (by decide) (by decide)) (fun d hd => ?_)) (by rw [zipI_map])) a_nil) T.sum (by decide +kernel)) rfl)
  obtain ⟨x, h1, y, h2, rfl⟩ := mem_zipI hd
  exact ⟨_, rfl, fun s H C cl fp => e_bin (od_mul (mul_ok (hx x h1) (hy y h2) (by decide))) (e_var (i := 2) rfl) (e_var (i := 3) rfl)⟩
theorem ok_lsigns (F : Fun K "_law_signs" "_law_signs" st__law_signs f fd) (T : Tx mg) (C1 : Cal P w K mg base 1 "_law_sign" ["number"] (spR K R_sign)) (C2 : Cal P w K mg base 1 "_law_total" ["row_so", "point_so"] (spR K R_weighed)) : FnOk P w K mg base CX0 2 f fd ["planes_so", "point_so"] (spR K R_signs) := by
  refine fnR F sc__law_signs (fun ds d h => by obtain ⟨_, x, rfl, _⟩ := h; rfl) fun cdv A outer s H E G hr ds d h => ?_
  obtain ⟨rows, pt, rfl, hb, hb2, hz, rfl⟩ := h
  refine r_one (rs_ret (e_callT ca_tupL (a_cons (e_lc0 (own := [("plane", 2)]) (f := fName 2) (val := onRow fun r => sgn (dot r pt)) G (src_T (e_var (i := 0) rfl)) (by simp; omega) (blkOk_by (N := n__law_signs) (sc := defScope st__law_signs) (by decide +kernel))
    (fun _ _ _ _ _ => pg_name (i := 2) sc__law_signs.nd rfl (Or.inl rfl)) (tg_name (by decide)) fun d hd => ?_) a_nil) T.tuple (by decide +kernel)) ?_)
  · obtain ⟨r, hr', rfl⟩ := List.mem_map.mp hd
    refine ⟨_, rfl, fun s H C cl fp => e_is (e_call C1 (hr.mono (by decide)) (a_cons (e_call C2 (hr.mono (by decide)) (a_cons (e_var (i := 2) rfl) (a_cons (e_var (i := 1) rfl) a_nil)) ⟨r, pt, rfl, (hb r hr').1.mono (by decide), hb2.mono (by decide), (hb r hr').2, rfl⟩) a_nil) ⟨_, rfl, rfl⟩) (onRow_tI (fun r => sgn (dot r pt)) r).symm⟩
  · rw [onRows]
theorem ok_lplane (F : Fun K "_law_plane" "_law_plane" st__law_plane f fd) (T : Tx mg) (C1 : Cal P w K mg base 2 "_law_lowered" ["numbers"] (spR K R_short)) : FnOk P w K mg base CX0 3 f fd ["row_so"] (spR K R_plane) := by
  refine fnR F sc__law_plane (fun ds d h => by obtain ⟨x, rfl, _⟩ := h; rfl) fun cdv A outer s H E G hr ds d h => ?_
  obtain ⟨row, rfl, h1, hl, hb, rfl⟩ := h
  have h1' : 1 ≤ (row.map PyData.int).length := by simpa using h1
  refine r_cons (rs_lc (i := 1) (own := [("k", 3), ("number", 4)]) (f := fPair 3 4) (keep := keepNZ) (val := valK) (items := numbered (row.dropLast.map .int)) G
    (src_ET (a_cons (e_is (e_slT (e_var (i := 0) rfl) o_non (o_int (e_neg e_int)) (cut_part _ h1')) (by rw [cutD_init _ h1', initI])) a_nil) T.enum) (by rw [numbered_len]; simp; omega) (blkOk_by (N := n__law_plane) (sc := defScope st__law_plane) (by decide +kernel))
    (fun _ _ _ _ _ => pg_tup rfl (pgs_cons (pg_name (i := 3) sc__law_plane.nd rfl (Or.inl rfl)) (pgs_cons (pg_name (i := 4) sc__law_plane.nd rfl (Or.inl rfl)) pgs_nil))) (tg_pair (by decide) (by decide)) (fun d hd => ?_) ?_)
  · obtain ⟨n, x, hx, rfl⟩ := mem_numbered hd
    obtain ⟨x, _, rfl⟩ := getI hx
    exact ⟨_, rfl, fun s H C cl fp => t_cmp od_neI (e_var (i := 4) rfl) e_int (nomark _), fun _ s H C cl fp => e_var (i := 3) rfl⟩
  · rw [numbered_eq, kept_nz]
    have hnz := nz_lead 0 row.dropLast
    cases hp : lead row.dropLast with
    | none =>
      rw [hp] at hnz
      rw [hnz]
      refine r_cons (rs_if (b := true) (t_is (t_cmp (od_eqD G.un (shaped_lI []) (shaped_lI [])) (e_var (i := 1) rfl) (e_lst a_nil) (nomark _)) rfl) (fun _ => r_one (rs_ret e_non ?_)) nofun)
      unfold planeD planeL
      rw [hp]
    | some p =>
      rw [hp] at hnz
      obtain ⟨tl, e⟩ := hnz
      rw [e, Nat.zero_add]
      obtain ⟨y, hy, hy0⟩ := short_at hp
      have hat : atI ((shortL row).map PyData.int) (p : Int) = some (.int y) := atI_nat (by rw [List.getElem?_map, hy] <;> rfl)
      have e0 : planeD row = tI (if y < 0 then (shortL row).map (fun x => -x) else shortL row) := by
        unfold planeD planeL
        rw [hp]
        show tI (if (shortL row).getD p 0 < 0 then _ else _) = _
        rw [List.getD_eq_getElem?_getD, hy] <;> rfl
      rw [e0]
      refine r_cons (rs_if (b := false) (t_is (t_cmp (od_eqD G.un (shaped_lI ((p : Int) :: tl)) (shaped_lI [])) (e_var (i := 1) rfl) (e_lst a_nil) (nomark _)) (by rw [eqv_lI] <;> rfl)) nofun fun _ => r_nil ?_)
      refine r_cons (rs_set (i := 2) G (e_call C1 (hr.mono (by decide)) (a_cons (e_var (i := 0) rfl) a_nil) ⟨row, .inl rfl, hb, hl, rfl⟩) ?_)
      refine r_one (rs_ret (e_if (d := tI (if y < 0 then (shortL row).map (fun x => -x) else shortL row)) (t_cmp od_gt (e_ixT (e_var (i := 2) rfl) (e_ixL (ds := ((p : Int) :: tl).map .int) (d := .int (p : Int)) (e_var (i := 1) rfl) e_int (ati_of (j := 0) rfl rfl)) hat) e_int (nomark _)) (fun hgt => e_is (e_var (i := 2) rfl) ?_) fun hgt => e_is (e_callT ca_tupL (a_cons (e_lc0 (own := [("number", 4)]) (f := fName 4) (val := onInt fun x => -x) G (src_T (e_var (i := 2) rfl)) (by simp [shortL_len]; omega) (blkOk_by (N := n__law_plane) (sc := defScope st__law_plane) (by decide +kernel))
        (fun _ _ _ _ _ => pg_name (i := 4) sc__law_plane.nd rfl (Or.inl rfl)) (tg_name (by decide)) fun d hd => ?_) a_nil) T.tuple (by decide +kernel)) ?_) rfl)
      · have := of_decide_eq_true hgt
        rw [if_neg (show ¬ y < 0 by omega)]
      · obtain ⟨x, hx, rfl⟩ := mem_mapI hd
        exact ⟨_, rfl, fun s H C cl fp => e_neg (e_var (i := 4) rfl)⟩
      · have := of_decide_eq_false hgt
        rw [mapI, if_pos (show y < 0 by omega)]
end
end K3
namespace K3
open PySem PySem.Spec PyProof.Rows L2 Zj
section
variable {P : Program} {w : World} {K : PySem.W.Frag} {mg : Str → Option Value} {base : Heap} {f : Addr} {fd : FuncData}
/-- a number from 0 to b - 1 -/
def R_draw (ds : List PyData) (Q : PyData → Prop) : Prop := ∃ b : Int, ds = [.int b] ∧ 0 < b ∧ Bits 8000 b ∧ ∀ r : Int, 0 ≤ r → r < b → Q (.int r)
theorem bits_lt {x : Int} {n : Nat} (h0 : 0 ≤ x) (h : x < 2 ^ n) : Bits n x := by
  unfold Bits
  have e : ((2 ^ n : Nat) : Int) = (2 : Int) ^ n := by norm_cast
  omega
theorem at_mod {α : Type} {xs : List α} {s : Int} (h0 : 0 ≤ s) (h1 : 1 ≤ xs.length) : ∃ x, x ∈ xs ∧ atI xs (s % (xs.length : Int)) = some x := by
  have p0 : 0 ≤ s % (xs.length : Int) := Int.emod_nonneg _ (by omega)
  have p1 : s % (xs.length : Int) < xs.length := Int.emod_lt_of_pos _ (by omega)
  obtain ⟨n, hn⟩ : ∃ n : Nat, s % (xs.length : Int) = n := ⟨(s % (xs.length : Int)).toNat, by omega⟩
  have hl : n < xs.length := by omega
  exact ⟨xs[n], List.getElem_mem hl, by rw [hn]; exact atI_nat (List.getElem?_eq_getElem hl)⟩
theorem ok_draw (F : Fun K "_law_draw" "_law_draw" st__law_draw f fd) (T : Tx mg) : FnG P w K mg base CX0 1 f fd ["m", "bound"] (spM K 1 R_draw) := by
  refine fnM F sc__law_draw (fun ds Pd h => by obtain ⟨b, rfl, _⟩ := h; rfl) fun cdv A outer s H E G hr hgd a n ds Pd h => ?_
  obtain ⟨b, rfl, hb, hbb, hP⟩ := h
  have hb9 : b.natAbs.log2 < 9000 := Nat.lt_of_lt_of_le (hbb.log (by decide)) (by decide)
  refine q_cons (qs_if (PB := fun _ => True) (m := n + 1) (mt_cmp (P1 := PInt) (P2 := fun _ d => d = .int 0) (m := n + 1) (m_left (i := 0) G.un rfl) (fun _ _ => m_pure e_int rfl (Nat.le_refl _)) (fun d1 d2 h1 h2 => by
    obtain ⟨i, rfl⟩ := h1
    subst h2
    exact ⟨_, od_gt, trivial⟩) (nomark _)) (fun _ => ?_) fun _ => q_nil ?_)
  · refine q_cons (qs_set (i := 2) (m := n + 1) G (P := fun d => ∃ r : Int, d = .int r ∧ 0 ≤ r ∧ r < b) (m_bin (P1 := PInt) (P2 := fun _ d => d = .int b) (m := n + 1)
      (m_callT (PA := fun ds => ∃ d ds', ds = d :: ds' ∧ PInt d ∧ ds' = []) (fun ds h => by
        obtain ⟨d, _, rfl, ⟨i, rfl⟩, rfl⟩ := h
        exact ⟨_, ca_int, i, rfl⟩) (ma_cons (m_left (i := 0) G.un rfl) fun _ _ => ma_nil (Nat.le_refl _)) T.int (by decide +kernel))
      (fun _ _ => m_pure (e_var (i := 1) rfl) rfl (Nat.le_refl _)) (fun d1 d2 h1 h2 => by
        obtain ⟨i, rfl⟩ := h1
        subst h2
        exact ⟨_, od_mod hb, _, rfl, Int.emod_nonneg _ (by omega), Int.emod_lt_of_pos _ hb⟩)) fun d hd => ?_)
    obtain ⟨r, rfl, r0, r1⟩ := hd
    refine q_cons (qs_putLeft (i := 0) (m := n + 1) G.un rfl (m_bin (P1 := PInt) (P2 := fun _ d => d = .int b) (m := n + 1) (m_left (i := 0) G.un rfl) (fun _ _ => m_pure (e_var (i := 1) rfl) rfl (Nat.le_refl _)) (fun d1 d2 h1 h2 => by
        obtain ⟨i, rfl⟩ := h1
        subst h2
        exact ⟨_, od_fdiv (by omega) hb9, _, rfl⟩)) ?_)
    exact q_one (qs_ret (m := n + 1) (P := fun d => d = .int r) (m_pure (e_var (i := 2) rfl) rfl (Nat.le_refl _)) fun d hd => by
      subst hd
      exact ⟨by omega, hP r r0 r1⟩)
  · refine q_cons (qs_set (i := 3) (m := n + 1) G (m_spot (i := 0) G.un rfl) fun d hd => ?_)
    obtain ⟨sp, rfl, s0, s1⟩ := hd
    have sb : Bits 41 sp := bits_lt s0 (by omega)
    refine q_cons (qs_putSpot (i := 0) (m := n + 1) (k := n) G.un rfl (m_pure (e_bin od_add (e_var (i := 3) rfl) e_int) ⟨_, rfl, by omega, by omega⟩ (Nat.le_refl _)) ?_)
    have b4 : Bits 16 40503 := show (40503 : Nat) < 2 ^ 16 by decide
    refine q_cons (qs_par (i := 4) (j := 5) (m := n) (PA := fun ds => ∃ d ds', ds = d :: ds' ∧ PCells d ∧ ∃ d2 ds2, ds' = d2 :: ds2 ∧ PInt d2 ∧ ds2 = []) G (ma_cons (m_cells (i := 0) G.un rfl) fun _ _ => ma_cons (m_bin (P1 := PInt) (P2 := fun _ => PInt) (m := n) (m_seed (i := 0) G.un rfl)
      (fun _ _ => m_pure (e_bin (od_mul (mul_ok (Bits.mul b4 sb) sb (by decide))) (e_bin (od_mul (mul_ok b4 sb (by decide))) e_int (e_var (i := 3) rfl)) (e_var (i := 3) rfl)) ⟨_, rfl⟩ (Nat.le_refl _)) (fun d1 d2 h1 h2 => by
        obtain ⟨i, rfl⟩ := h1
        obtain ⟨j, rfl⟩ := h2
        exact ⟨_, od_add, _, rfl⟩)) fun _ _ => ma_nil (Nat.le_refl _)) fun ds hds => ?_)
    obtain ⟨_, _, rfl, ⟨cells, rfl, c1, c2, c3⟩, _, _, rfl, ⟨extra, rfl⟩, rfl⟩ := hds
    refine ⟨_, _, rfl, ?_⟩
    have c1' : 1 ≤ (cells.map PyData.int).length := by simpa using c1
    obtain ⟨cd, hc, hat⟩ := at_mod (xs := cells.map PyData.int) s0 c1'
    obtain ⟨cell, hcell, rfl⟩ := List.mem_map.mp hc
    refine q_cons (qs_set (i := 6) (m := n) (P := fun d => d = .int cell) G (m_pure (e_ixL (e_var (i := 4) rfl) (e_bin (od_mod (by omega)) (e_callT ca_int (a_cons (e_var (i := 3) rfl) a_nil) T.int (by decide +kernel)) (e_callB ca_lenL (a_cons (e_var (i := 4) rfl) a_nil) T.len (by decide +kernel))) hat) rfl (Nat.le_refl _)) fun d hd => ?_)
    subst hd
    have cb : Bits 2000000 cell := c3 cell hcell
    have b2 : Bits 2 2 := show (2 : Nat) < 2 ^ 2 by decide
    have q3 : Bits 44 (2 * sp + 3) := bits_lt (by omega) (by omega)
    refine q_cons (qs_set (i := 7) (m := n) (P := fun d => ∃ r : Int, d = .int r ∧ 0 ≤ r ∧ r < 2147483647) G (m_pure (e_bin (od_mod (by decide)) (e_callT ca_int (a_cons (e_bin od_add (e_bin (od_mul (mul_ok cb q3 (by decide))) (e_var (i := 6) rfl) (e_bin od_add (e_bin (od_mul (mul_ok b2 sb (by decide))) e_int (e_var (i := 3) rfl)) e_int)) (e_var (i := 5) rfl)) a_nil) T.int (by decide +kernel)) e_int) ⟨_, rfl, Int.emod_nonneg _ (by decide), Int.emod_lt_of_pos _ (by decide)⟩ (Nat.le_refl _)) fun d hd => ?_)
    obtain ⟨bl, rfl, u0, u1⟩ := hd
    have ub : Bits 31 bl := bits_lt u0 (by omega)
    have b6 : Bits 17 69621 := show (69621 : Nat) < 2 ^ 17 by decide
    refine q_cons (qs_set (i := 7) (m := n) (P := fun d => ∃ r : Int, d = .int r ∧ 0 ≤ r ∧ r < 2147483629) G (m_bin (P1 := PInt) (P2 := fun _ d => d = .int 2147483629) (m := n)
      (m_callT (PA := fun ds => ∃ d ds', ds = d :: ds' ∧ PInt d ∧ ds' = []) (fun ds h => by
        obtain ⟨d, _, rfl, ⟨i, rfl⟩, rfl⟩ := h
        exact ⟨_, ca_int, i, rfl⟩) (ma_cons (m_bin (P1 := PInt) (P2 := fun _ => PInt) (m := n)
          (m_pure (e_bin od_add (e_bin (od_mul (mul_ok ub ub (by decide))) (e_var (i := 7) rfl) (e_var (i := 7) rfl)) (e_bin (od_mul (mul_ok b6 sb (by decide))) e_int (e_var (i := 3) rfl))) ⟨_, rfl⟩ (Nat.le_refl _))
          (fun _ _ => m_seed (i := 0) G.un rfl) (fun d1 d2 h1 h2 => by
            obtain ⟨i, rfl⟩ := h1
            obtain ⟨j, rfl⟩ := h2
            exact ⟨_, od_add, _, rfl⟩)) fun _ _ => ma_nil (Nat.le_refl _)) T.int (by decide +kernel))
      (fun _ _ => m_pure e_int rfl (Nat.le_refl _)) (fun d1 d2 h1 h2 => by
        obtain ⟨i, rfl⟩ := h1
        subst h2
        exact ⟨_, od_mod (by decide), _, rfl, Int.emod_nonneg _ (by decide), Int.emod_lt_of_pos _ (by decide)⟩)) fun d hd => ?_)
    obtain ⟨b3, rfl, v0, v1⟩ := hd
    have vb : Bits 31 b3 := bits_lt v0 (by omega)
    have b7 : Bits 17 48271 := show (48271 : Nat) < 2 ^ 17 by decide
    exact q_one (qs_ret (m := n) (P := Pd) (m_pure (e_bin (od_mod hb) (e_bin (od_fdiv (by decide) (by decide)) (e_bin (od_mod (by decide)) (e_callT ca_int (a_cons (e_bin od_add (e_bin (od_mul (mul_ok vb b7 (by decide))) (e_var (i := 7) rfl) e_int) (e_var (i := 3) rfl)) a_nil) T.int (by decide +kernel)) e_int) e_int) (e_var (i := 1) rfl)) (hP _ (Int.emod_nonneg _ (by omega)) (Int.emod_lt_of_pos _ hb)) (Nat.le_refl _)) fun d hd => ⟨Nat.le_refl _, hd⟩)
end
end K3
namespace K3
open PySem PySem.Spec PyProof.Rows L2 Zj
theorem q_run {X : Cx} {a : Addr} {sts : List Stmt} {ρ : Rho} {n : Nat} {N : Nat → Rho → Prop} {R : Nat → PyData → Prop} {N' : Rho → Prop} {R' : PyData → Prop} (h : Run X a sts ρ N' R') (hn : ∀ ρ', N' ρ' → N n ρ') (hr : ∀ d, R' d → R n d) : RunM X a sts ρ n N R := fun T σ H D S ms kn kr =>
  h T σ H D S (fun σ' H' ρ' s S' e => kn σ' H' ρ' n (.of s) S' (ms.same (off_same s)) (hn _ e)) fun v H' d s p e => kr v H' d n (.of s) (ms.same (off_same s)) p (hr d e)
theorem fa2_ints {Q : Int → Prop} {xs ds : List PyData} (h : Fa2 (fun _ d => ∃ x : Int, d = .int x ∧ Q x) xs ds) : ∃ ns : List Int, ds = ns.map .int ∧ ns.length = xs.length ∧ ∀ x ∈ ns, Q x := by
  induction h with
  | nil => exact ⟨[], rfl, rfl, nofun⟩
  | cons hx _ ih =>
    obtain ⟨x, rfl, hq⟩ := hx
    obtain ⟨ns, rfl, hl, hn⟩ := ih
    refine ⟨x :: ns, rfl, by simp [hl], fun y hy => ?_⟩
    rcases List.mem_cons.mp hy with rfl | hy
    · exact hq
    · exact hn y hy
theorem bits_small {x : Int} (h0 : 0 ≤ x) (h : x < 2 ^ 60) : Bits 8000 x := (bits_lt h0 h).mono (by decide)
theorem bits_abs {x : Int} {n : Nat} (h : x.natAbs < 2 ^ n) : Bits n x := h
def SpotL (D : Nat) (pt : List Int) : Prop := ∃ l, pt.getLast? = some l ∧ 0 < l ∧ pt.length = D + 1 ∧ BitsL 10 pt
theorem last_map {α β : Type} (g : α → β) (xs : List α) : (xs.map g).getLast? = xs.getLast?.map g := by
  rw [List.getLast?_map]
theorem spot_of {ns : List Int} {b : Int} {D : Nat} (hl : ns.length = D) (hn : BitsL 10 ns) (h0 : 0 < b) (hb : Bits 10 b) : SpotL D (shortL (ns ++ [b])) := by
  obtain ⟨g0, e⟩ := shortL_mul (ns ++ [b]) ⟨b, by simp, by omega⟩
  have hlast : (ns ++ [b]).getLast? = some b := by simp
  rw [e, last_map] at hlast
  cases hz : (shortL (ns ++ [b])).getLast? with
  | none => rw [hz] at hlast; cases hlast
  | some l =>
    rw [hz] at hlast
    have hlb : (gcdL (ns ++ [b]) : Int) * l = b := by simpa using hlast
    refine ⟨l, hz, ?_, by rw [shortL_len]; simp [hl], shortL_bits fun x hx => ?_⟩
    · have gp : (0 : Int) < gcdL (ns ++ [b]) := by omega
      rcases Int.lt_or_le 0 l with h | h
      · exact h
      · have := Int.mul_le_mul_of_nonneg_left h (Int.le_of_lt gp)
        omega
    · rcases List.mem_append.mp hx with hx | hx
      · exact hn x hx
      · rw [List.mem_singleton] at hx
        subst hx
        exact hb
section
variable {P : Program} {w : World} {K : PySem.W.Frag} {mg : Str → Option Value} {base : Heap} {f : Addr} {fd : FuncData}
theorem upto_len (n : Nat) : (Zj.upTo n).length = n := by simp [Zj.upTo]
def R_spot (ds : List PyData) (Q : PyData → Prop) : Prop := ∃ D : Nat, ds = [.int (D : Int)] ∧ D ≤ 4 ∧ ∀ pt, SpotL D pt → Q (tI pt)
theorem ok_spot (F : Fun K "_law_spot" "_law_spot" st__law_spot f fd) (T : Tx mg) (C1 : CalG P w K mg base 1 "_law_draw" ["m", "bound"] (spM K 1 R_draw)) (C2 : Cal P w K mg base 3 "_law_point" ["numbers", "bottom"] (spR K R_point)) : FnG P w K mg base CX0 4 f fd ["m", "dimension"] (spM K 5 R_spot) := by
  refine fnM F sc__law_spot (fun ds Pd h => by obtain ⟨b, rfl, _⟩ := h; rfl) fun cdv A outer s H E G hr hgd a n ds Pd h => ?_
  obtain ⟨D, rfl, hD, hP⟩ := h
  refine q_one (qs_ret (m := n) (P := Pd) (m_callR C2 (hr.mono (by decide)) (PA := fun ds => ∃ d ds', ds = d :: ds' ∧ (∃ ns : List Int, d = lI ns ∧ ns.length = D ∧ BitsL 5 ns) ∧ ∃ d2 ds2, ds' = d2 :: ds2 ∧ (∃ b : Int, d2 = .int b ∧ 0 < b ∧ Bits 5 b) ∧ ds2 = [])
    (ma_cons (m := n + 1) (P := fun d => ∃ ns : List Int, d = lI ns ∧ ns.length = D ∧ BitsL 5 ns) (m_lc0 (c := 1) (own := [("k", 2)]) (f := fName 2) (V := fun _ d => ∃ x : Int, d = .int x ∧ Bits 5 x) (items := Zj.upTo (D : Int).toNat) G (src_R (a_cons (e_var (i := 1) rfl) a_nil) (by omega) (by omega) T.range)
      (by rw [upto_len]; omega) (by rw [upto_len]; omega) (blkOk_by (N := n__law_spot) (sc := defScope st__law_spot) (by decide +kernel)) (fun _ _ _ _ _ => pg_name (i := 2) sc__law_spot.nd rfl (Or.inl rfl)) (tg_name (by decide)) (fun d hd => ⟨_, rfl, fun m s H C cl fp => ?_⟩) fun ds hds => ?_)
      fun _ _ => ma_cons (m := n) (P := fun d => ∃ b : Int, d = .int b ∧ 0 < b ∧ Bits 5 b) (m_bin (P1 := fun d => d = .int 1) (P2 := fun _ d => ∃ r : Int, d = .int r ∧ 0 ≤ r ∧ r < 4) (m := n + 1) (m_pure e_int rfl (Nat.le_refl _))
        (fun _ _ => m_call (i := 0) (ds := [.int 4]) C1 hgd (hr.mono (by decide)) rfl (a_cons e_int a_nil) ⟨4, rfl, by decide, bits_small (by decide) (by decide), fun r r0 r1 => ⟨r, rfl, r0, r1⟩⟩ (Nat.le_refl _)) (fun d1 d2 h1 h2 => by
          subst h1
          obtain ⟨r, rfl, r0, r1⟩ := h2
          exact ⟨_, od_add, _, rfl, by omega, bits_lt (by omega) (by omega)⟩)) fun _ _ => ma_nil (Nat.le_refl _)) fun ds hds => ?_) fun d hd => ⟨Nat.le_refl _, hd⟩)
  · refine m_bin (P1 := fun d => ∃ r : Int, d = .int r ∧ 0 ≤ r ∧ r < 13) (P2 := fun _ d => d = .int 6) (m := m) (m_call (i := 0) (ds := [.int 13]) C1 hgd (hr.mono (by decide)) rfl (a_cons e_int a_nil) ⟨13, rfl, by decide, bits_small (by decide) (by decide), fun r r0 r1 => ⟨r, rfl, r0, r1⟩⟩ (Nat.le_refl _)) (fun _ _ => m_pure e_int rfl (Nat.le_refl _)) (fun d1 d2 h1 h2 => by
      obtain ⟨r, rfl, r0, r1⟩ := h1
      subst h2
      exact ⟨_, od_sub, _, rfl, bits_abs (by omega)⟩)
  · obtain ⟨ns, rfl, hl, hn⟩ := fa2_ints hds
    exact ⟨ns, rfl, by rw [hl, upto_len]; omega, hn⟩
  · obtain ⟨_, _, rfl, ⟨ns, rfl, hl, hn⟩, _, _, rfl, ⟨b, rfl, h0, hb⟩, rfl⟩ := hds
    exact ⟨_, ⟨ns, b, rfl, h0, hn.mono (by decide), hb.mono (by decide), by omega, rfl⟩, hP _ (spot_of hl (hn.mono (by decide)) h0 (hb.mono (by decide)))⟩
def R_somerow (ds : List PyData) (Q : PyData → Prop) : Prop := ∃ D : Nat, ds = [.int (D : Int)] ∧ D ≤ 4 ∧ ∀ row : List Int, row.length = D + 1 → BitsL 100 row → Q (tI row)
theorem flat_zero : ∀ D : Nat, (List.replicate D [PyData.int 0]).flatten = (List.replicate D (0 : Int)).map .int
  | 0 => rfl
  | D + 1 => by
    rw [List.replicate_succ, List.flatten_cons, flat_zero D, List.replicate_succ, List.map_cons]
    rfl
theorem ok_somerow (F : Fun K "_law_some_row" "_law_some_row" st__law_some_row f fd) (T : Tx mg) (C1 : CalG P w K mg base 1 "_law_draw" ["m", "bound"] (spM K 1 R_draw)) : FnG P w K mg base CX0 2 f fd ["m", "dimension"] (spM K 6 R_somerow) := by
  refine fnM F sc__law_some_row (fun ds Pd h => by obtain ⟨b, rfl, _⟩ := h; rfl) fun cdv A outer s H E G hr hgd a n ds Pd h => ?_
  obtain ⟨D, rfl, hD, hP⟩ := h
  refine q_cons (qs_lc0 (k := n + 1) (c := 1) (i := 2) (own := [("k", 4)]) (f := fName 4) (V := fun _ d => ∃ x : Int, d = .int x ∧ Bits 4 x) (items := Zj.upTo ((D : Int) + 1).toNat) G (src_R (a_cons (e_bin od_add (e_var (i := 1) rfl) e_int) a_nil) (by omega) (by omega) T.range)
      (by rw [upto_len]; omega) (by rw [upto_len]; omega) (blkOk_by (N := n__law_some_row) (sc := defScope st__law_some_row) (by decide +kernel)) (fun _ _ _ _ _ => pg_name (i := 4) sc__law_some_row.nd rfl (Or.inl rfl)) (tg_name (by decide)) (fun d hd => ⟨_, rfl, fun m s H C cl fp => ?_⟩) fun ds hds => ?_)
  · refine m_bin (P1 := fun d => ∃ r : Int, d = .int r ∧ 0 ≤ r ∧ r < 9) (P2 := fun _ d => d = .int 4) (m := m) (m_call (i := 0) (ds := [.int 9]) C1 hgd (hr.mono (by decide)) rfl (a_cons e_int a_nil) ⟨9, rfl, by decide, bits_small (by decide) (by decide), fun r r0 r1 => ⟨r, rfl, r0, r1⟩⟩ (Nat.le_refl _)) (fun _ _ => m_pure e_int rfl (Nat.le_refl _)) (fun d1 d2 h1 h2 => by
      obtain ⟨r, rfl, r0, r1⟩ := h1
      subst h2
      exact ⟨_, od_sub, _, rfl, bits_abs (by omega)⟩)
  · obtain ⟨ns, rfl, hl, hn⟩ := fa2_ints hds
    have hl : ns.length = D + 1 := by rw [hl, upto_len]; omega
    have hn : BitsL 4 ns := hn
    refine q_cons (qs_set (i := 3) (m := n) (P := fun d => ∃ r : Int, d = .int r ∧ 0 ≤ r ∧ r < 6) G (m_call (i := 0) (ds := [.int 6]) C1 hgd (hr.mono (by decide)) rfl (a_cons e_int a_nil) ⟨6, rfl, by decide, bits_small (by decide) (by decide), fun r r0 r1 => ⟨r, rfl, r0, r1⟩⟩ (Nat.le_refl _)) fun d hd => ?_)
    obtain ⟨way, rfl, _, _⟩ := hd
    refine q_run (N' := fun _ => Pd .none) (R' := Pd) ?_ (fun _ h => ⟨Nat.le_refl _, h⟩) (fun d h => ⟨Nat.le_refl _, h⟩)
    have fin2 : ∀ (row : List Int) y z, row.length = D + 1 → BitsL 100 row → Run (cxOf CX0 P w K mg base n__law_some_row "_law_some_row" (defScope st__law_some_row) f cdv A outer s H E).nox a ((defBody st__law_some_row).drop 4) [some .hnd, some (.dat (.int (D : Int))), some (.dat (lI row)), some (.dat (.int way)), y, z] (fun _ => Pd .none) Pd := fun row y z h1 h2 =>
      r_one (rs_ret (e_callT ca_tupL (a_cons (e_var (i := 2) rfl) a_nil) T.tuple (by decide +kernel)) (hP row h1 h2))
    have fin1 : ∀ (row : List Int) y z, row.length = D + 1 → BitsL 10 row → Run (cxOf CX0 P w K mg base n__law_some_row "_law_some_row" (defScope st__law_some_row) f cdv A outer s H E).nox a ((defBody st__law_some_row).drop 3) [some .hnd, some (.dat (.int (D : Int))), some (.dat (lI row)), some (.dat (.int way)), y, z] (fun _ => Pd .none) Pd := fun row y z h1 h2 => by
      refine r_cons (rs_if (t_cmp od_eqI (e_var (i := 3) rfl) e_int (nomark _)) (fun _ => r_one (rs_lc0 (i := 2) (own := [("number", 5)]) (f := fName 5) (val := onInt fun x => x * (10 ^ Int.toNat 25 + 7)) G (src_L (e_var (i := 2) rfl)) (by simp; omega) (blkOk_by (N := n__law_some_row) (sc := defScope st__law_some_row) (by decide +kernel))
        (fun _ _ _ _ _ => pg_name (i := 5) sc__law_some_row.nd rfl (Or.inl rfl)) (tg_name (by decide)) (fun d hd => ?_) ?_)) fun _ => r_nil (fin2 row _ _ h1 (h2.mono (by decide))))
      · obtain ⟨x, hx, rfl⟩ := mem_mapI hd
        have hp : Bits 84 (10 ^ Int.toNat 25 + 7) := by unfold Bits; decide +kernel
        exact ⟨_, rfl, fun s H C cl fp => e_bin (od_mul (mul_ok (h2 x hx) hp (by decide))) (e_var (i := 5) rfl) (e_bin od_add (e_bin (od_pow ⟨by decide, by decide, by decide⟩) e_int e_int) e_int)⟩
      · rw [mapI]
        refine fin2 _ _ _ (by simpa using h1) fun y hy => ?_
        obtain ⟨x, hx, rfl⟩ := List.mem_map.mp hy
        have hp : Bits 84 (10 ^ Int.toNat 25 + 7) := by unfold Bits; decide +kernel
        exact (Bits.mul (h2 x hx) hp).mono (by decide)
    refine r_cons (rs_if (t_cmp od_eqI (e_var (i := 3) rfl) e_int (nomark _)) (fun _ => r_one (rs_set (i := 2) (d := lI (List.replicate D 0 ++ ns.drop (ns.length - 1))) G (e_is (e_bin (od_catL ?_) (e_rep (ds := [.int 0]) (a_cons e_int a_nil) (e_var (i := 1) rfl) (by omega) (by omega) (by simp)) (e_slL (e_var (i := 2) rfl) (o_int (e_neg e_int)) o_non)) ?_) (fin1 _ _ _ ?_ fun x hx => ?_))) fun _ => r_nil (fin1 ns _ _ hl (hn.mono (by decide))))
    · rw [cutD_tail _ (by simp; omega)]
      simp
      omega
    · rw [cutD_tail _ (by simp; omega), show ((D : Int)).toNat = D by omega, flat_zero]
      show PyData.list _ = PyData.list (List.map _ _)
      rw [List.map_append, List.length_map, List.map_drop]
    · simp
      omega
    · rcases List.mem_append.mp hx with hx | hx
      · rw [List.eq_of_mem_replicate hx]
        exact show (0 : Nat) < 2 ^ 10 by decide
      · exact (hn x (List.mem_of_mem_drop hx)).mono (by decide)
end
end K3
namespace K3
open PySem PySem.Spec PyProof.Rows L2 Zj
section
variable {X : Cx} {a : Addr} {ρ : Rho} {c e1 e2 : Expr} {body : List Stmt} {pos p pos' : Pos} {n : Nat} {N : Nat → Rho → Prop} {R : Nat → PyData → Prop} {N' : Rho → Prop} {R' : PyData → Prop} {d : PyData}
theorem r_skip (hc : EvT X a c ρ false) (h : N' ρ) : RunS X a (.If c body [] pos) ρ N' R' := rs_if (b := false) hc nofun fun _ => r_nil h
theorem q_skip (hc : EvT X a c ρ false) (h : N n ρ) : RunMS X a (.If c body [] pos) ρ n N R := q_pure (N' := fun ρ' => ρ' = ρ) (R' := fun _ => False) (r_skip hc rfl) (fun ρ' e => by rw [e]; exact h) nofun
theorem t_notlike (C : CalG X.prog X.w X.K X.mg X.base 1 "_law_like" ["told", "due"] (spR X.K R_like)) (hgd : X.A.guards = some []) (hr : Room 1 X.A) (ha : EvA X a [e1, e2] ρ [d, d]) (ht : Tame d) (hg : Gl X "_law_like" := by rfl)
    (he : starEach [e1, e2] X.env = (false, eval e1 X.env) :: starEach [e2] X.env := by rfl) (hpl : (backTo pos' (starEach [e2] X.env)).any (·.1) = false := by rfl)
    (hit : ∀ whole, isTrue (.Call (.Name "_law_like" p) [e1, e2] [] pos') X.env whole = (do let v ← whole; standAt pos'; holding [v] (truthy v)) := by intro _; rfl) :
    EvT X a (.UnaryOp .Not (.Call (.Name "_law_like" p) [e1, e2] [] pos') pos) ρ false :=
  t_is (t_not (t_val (e_callG C hgd hr ha ⟨d, rfl, ht, rfl⟩ hg (by decide) he hpl) hit)) rfl
end
theorem dot_bits {m k : Nat} : ∀ (xs ys : List Int), BitsL m xs → BitsL k ys → Bits (m + k + xs.length) (dot xs ys)
  | [], _, _, _ => by
    rw [dot_nil]
    exact Nat.pow_pos (by decide)
  | _ :: _, [], _, _ => by
    show Bits _ 0
    exact Nat.pow_pos (by decide)
  | x :: xs, y :: ys, h1, h2 => by
    rw [dot_cons]
    have ih := dot_bits xs ys (fun z hz => h1 z (List.mem_cons_of_mem _ hz)) fun z hz => h2 z (List.mem_cons_of_mem _ hz)
    have q := Bits.mul (h1 x List.mem_cons_self) (h2 y List.mem_cons_self)
    exact (Bits.add (q.mono (Nat.le_add_right _ xs.length)) ih).mono (by rw [List.length_cons]; omega)
theorem bits2 {m : Nat} {t b : Int} (h1 : Bits m t) (h2 : Bits m b) : BitsL m [t, b] := fun x hx => by
  rcases List.mem_cons.mp hx with rfl | hx
  · exact h1
  · rw [List.mem_singleton] at hx
    subst hx
    exact h2
theorem fracL_bits {m : Nat} {t b : Int} (h1 : Bits m t) (h2 : Bits m b) : BitsL m (fracL t b) := by
  have q := shortL_bits (bits2 h1 h2)
  unfold fracL
  split
  · exact q
  · intro x hx
    obtain ⟨y, hy, rfl⟩ := List.mem_map.mp hx
    exact (q y hy).neg
theorem fracL_len {t b : Int} : (fracL t b).length = 2 := by
  unfold fracL
  split
  · rw [shortL_len] <;> rfl
  · rw [List.length_map, shortL_len] <;> rfl
theorem planeD_some {row pl : List Int} (h : planeL row = some pl) : planeD row = tI pl := by
  unfold planeD
  rw [h]
theorem planeD_none {row : List Int} (h : planeL row = none) : planeD row = .none := by
  unfold planeD
  rw [h]
theorem tame_plane {row : List Int} (hb : BitsL 100 row) (hl : row.length ≤ 5) : Tame (planeD row) := by
  cases h : planeL row with
  | none =>
    rw [planeD_none h]
    exact tam_non.tame (by decide) (by decide)
  | some pl =>
    rw [planeD_some h]
    exact (tam_tI (l := 5) ((planeL_bits h hb).mono (by decide)) (by rw [planeL_len h]; exact hl)).tame (by decide) (by decide)
section
variable {P : Program} {w : World} {K : PySem.W.Frag} {mg : Str → Option Value} {base : Heap} {f : Addr} {fd : FuncData}
def R_right (ds : List PyData) (Q : PyData → Prop) : Prop := ∃ (D : Nat) (row : List Int), ds = [.int (D : Int), tI row] ∧ 1 ≤ D ∧ D ≤ 4 ∧ row.length = D + 1 ∧ BitsL 100 row ∧ Q (.bool true)
theorem ok_rowright (F : Fun K "_law_row_right" "_law_row_right" st__law_row_right f fd) (T : Tx mg) (C1 : CalG P w K mg base 1 "_law_draw" ["m", "bound"] (spM K 1 R_draw)) (C2 : CalG P w K mg base 4 "_law_spot" ["m", "dimension"] (spM K 5 R_spot))
    (CL : CalG P w K mg base 1 "_law_like" ["told", "due"] (spR K R_like)) (CP : Cal P w K mg base 3 "plane_of" ["row"] (spR K R_plane)) (CQ : Cal P w K mg base 3 "_law_plane" ["row_so"] (spR K R_plane)) (CR : Cal P w K mg base 3 "check_row" ["dimension", "value"] (spR K R_crow))
    (CC : Cal P w K mg base 4 "check_plane" ["dimension", "value"] (spR K R_cplane)) (CT : Cal P w K mg base 1 "_law_total" ["row_so", "point_so"] (spR K R_weighed)) (CV : Cal P w K mg base 2 "value_at" ["row", "point"] (spR K R_value)) (CS : Cal P w K mg base 2 "sign_at" ["row", "point"] (spR K R_signat))
    (CF : Cal P w K mg base 3 "_law_fraction" ["top", "bottom"] (spR K R_fraction)) (CG : Cal P w K mg base 1 "_law_sign" ["number"] (spR K R_sign)) : FnG P w K mg base CX0 5 f fd ["m", "dimension", "row_so"] (spM K 16 R_right) := by
  refine fnM F sc__law_row_right (fun ds Pd h => by obtain ⟨D, row, rfl, _⟩ := h; rfl) fun cdv A outer s H E G hr hgd a n ds Pd h => ?_
  obtain ⟨D, row, rfl, hD1, hD, hl, hb, hP⟩ := h
  have hb8 : BitsL 8000 row := hb.mono (by decide)
  refine q_cons (qs_asg (m := n + 15) (P := fun d => ∃ c : Int, d = .tuple [planeD row, .int c] ∧ c ≠ 0 ∧ Bits 41 c) (m_tup (PA := fun ds => ∃ d ds', ds = d :: ds' ∧ d = planeD row ∧ ∃ d2 ds2, ds' = d2 :: ds2 ∧ (∃ c : Int, d2 = .int c ∧ c ≠ 0 ∧ Bits 41 c) ∧ ds2 = [])
    (ma_cons (m := n + 16) (m_pure (e_call CP (hr.mono (by decide)) (a_cons (e_var (i := 2) rfl) a_nil) ⟨row, rfl, by omega, by omega, hb8, rfl⟩) rfl (Nat.le_refl _)) fun _ _ => ma_cons (m := n + 15) (P := fun d2 => ∃ c : Int, d2 = .int c ∧ c ≠ 0 ∧ Bits 41 c)
      (m_ixL (ds := [.int 1, .int (-1), .int 2, .int (-3), .int (10 ^ Int.toNat 12)]) (PI := fun d => ∃ r : Int, d = .int r ∧ 0 ≤ r ∧ r < 5) (e_lst (a_cons e_int (a_cons (e_neg e_int) (a_cons e_int (a_cons (e_neg e_int) (a_cons (e_bin (od_pow ⟨by decide, by decide, by decide⟩) e_int e_int) a_nil))))))
        (m_call (i := 0) (ds := [.int 5]) C1 hgd (hr.mono (by decide)) rfl (a_cons e_int a_nil) ⟨5, rfl, by decide, bits_small (by decide) (by decide), fun r r0 r1 => ⟨r, rfl, r0, r1⟩⟩ (Nat.le_refl _)) (fun d hd => ?_)) fun _ _ => ma_nil (Nat.le_refl _)) fun ds hds => ?_) (pg_tup rfl (pgs_cons (pg_name (i := 3) sc__law_row_right.nd rfl (Or.inl rfl)) (pgs_cons (pg_name (i := 4) sc__law_row_right.nd rfl (Or.inr rfl)) pgs_nil))) (tg_pair (vs := [3, 4]) (by decide) (by decide)) fun d hd => ?_)
  · obtain ⟨r, rfl, r0, r1⟩ := hd
    have : r = 0 ∨ r = 1 ∨ r = 2 ∨ r = 3 ∨ r = 4 := by omega
    rcases this with rfl | rfl | rfl | rfl | rfl
    · exact ⟨0, _, rfl, ati_of (j := 0) rfl rfl, _, rfl, by decide, by unfold Bits; decide +kernel⟩
    · exact ⟨1, _, rfl, ati_of (j := 1) rfl rfl, _, rfl, by decide, by unfold Bits; decide +kernel⟩
    · exact ⟨2, _, rfl, ati_of (j := 2) rfl rfl, _, rfl, by decide, by unfold Bits; decide +kernel⟩
    · exact ⟨3, _, rfl, ati_of (j := 3) rfl rfl, _, rfl, by decide, by unfold Bits; decide +kernel⟩
    · exact ⟨4, _, rfl, ati_of (j := 4) rfl rfl, _, rfl, by decide, by unfold Bits; decide +kernel⟩
  · obtain ⟨_, _, rfl, rfl, _, _, rfl, ⟨c, rfl, hc, hcb⟩, rfl⟩ := hds
    exact ⟨by simp, c, rfl, hc, hcb⟩
  obtain ⟨c, rfl, hc, hcb⟩ := hd
  refine ⟨_, rfl, ?_⟩
  have ht : Tame (planeD row) := tame_plane hb (by omega)
  refine q_cons (q_skip (t_or2 (b := false) (t_notlike CL hgd (hr.mono (by decide)) (a_cons (e_var (i := 3) rfl) (a_cons (e_call CQ (hr.mono (by decide)) (a_cons (e_var (i := 2) rfl) a_nil) ⟨row, rfl, by omega, by omega, hb8, rfl⟩) a_nil)) ht)
    (fun _ => t_notlike CL hgd (hr.mono (by decide)) (a_cons (e_call CR (hr.mono (by decide)) (a_cons (e_var (i := 1) rfl) (a_cons (e_var (i := 2) rfl) a_nil)) ⟨_, row, rfl, by omega, by omega, rfl⟩) (a_cons (e_var (i := 2) rfl) a_nil)) ((tam_tI (l := 5) (hb.mono (by decide)) (by omega)).tame (by decide) (by decide))) nofun) ?_)
  refine q_cons (q_skip (t_notlike CL hgd (hr.mono (by decide)) (a_cons (e_is (e_call CP (hr.mono (by decide)) (a_cons (e_is (e_callT ca_tupL (a_cons (e_lc0 (own := [("number", 9)]) (f := fName 9) (val := onInt fun x => c * x) G (src_T (e_var (i := 2) rfl)) (by simp; omega) (blkOk_by (N := n__law_row_right) (sc := defScope st__law_row_right) (by decide +kernel))
        (fun _ _ _ _ _ => pg_name (i := 9) sc__law_row_right.nd rfl (Or.inl rfl)) (tg_name (by decide)) fun d hd => ?_) a_nil) T.tuple (by decide +kernel)) (d' := tI (row.map fun x => c * x)) ?_) a_nil) ⟨row.map fun x => c * x, rfl, by simp; omega, by simp; omega, fun y hy => ?_, rfl⟩) ?_) (a_cons (e_var (i := 3) rfl) a_nil)) ht) ?_)
  · obtain ⟨x, hx, rfl⟩ := mem_mapI hd
    exact ⟨_, rfl, fun s H C cl fp => e_bin (od_mul (mul_ok hcb (hb x hx) (by decide))) (e_var (i := 4) rfl) (e_var (i := 9) rfl)⟩
  · rw [mapI]
  · obtain ⟨x, hx, rfl⟩ := List.mem_map.mp hy
    exact (Bits.mul hcb (hb x hx)).mono (by decide)
  · unfold planeD
    rw [planeL_scale hc]
  refine q_cons (q_skip ?_ ?_)
  · cases hp : planeL row with
    | none =>
      rw [planeD_none hp]
      exact t_and2 (b := false) (t_cmp od_notN (e_var (i := 3) rfl) e_non (nomark _)) nofun fun _ => rfl
    | some pl =>
      rw [planeD_some hp]
      refine t_and2 (b := true) (t_cmp od_notN (e_var (i := 3) rfl) e_non (nomark _)) (fun _ => t_notlike CL hgd (hr.mono (by decide)) (a_cons (e_call CC (hr.mono (by decide)) (a_cons (e_var (i := 1) rfl) (a_cons (e_var (i := 3) rfl) a_nil)) ⟨_, pl, rfl, ?_, ?_, ?_, (planeL_bits hp hb).mono (by decide), planeL_self hp, rfl⟩) (a_cons (e_var (i := 3) rfl) a_nil)) (by rw [← planeD_some hp]; exact ht)) nofun
      · rw [planeL_len hp]
        omega
      · rw [planeL_len hp]
        omega
      · rw [planeL_len hp]
        omega
  refine q_cons (qs_lc0 (k := n) (c := 5) (i := 5) (own := [("k", 8)]) (f := fName 8) (V := fun _ d => ∃ pt, d = tI pt ∧ SpotL D pt) (items := Zj.upTo (3 : Int).toNat) G (src_R (a_cons e_int a_nil) (by decide) (by decide) T.range)
      (by rw [upto_len]; omega) (by rw [upto_len]; decide) (blkOk_by (N := n__law_row_right) (sc := defScope st__law_row_right) (by decide +kernel)) (fun _ _ _ _ _ => pg_name (i := 8) sc__law_row_right.nd rfl (Or.inl rfl)) (tg_name (by decide)) (fun d hd => ⟨_, rfl, fun m s H C cl fp => ?_⟩) fun ds hds => ?_)
  · exact m_call (i := 0) (ds := [.int (D : Int)]) C2 hgd (hr.mono (by decide)) rfl (a_cons (e_var (i := 1) rfl) a_nil) ⟨D, rfl, hD, fun pt h => ⟨pt, rfl, h⟩⟩ (Nat.le_refl _)
  · refine q_run (N' := fun _ => Pd .none) (R' := Pd) ?_ (fun _ h => ⟨Nat.le_refl _, h⟩) (fun d h => ⟨Nat.le_refl _, h⟩)
    have hall : ∀ d ∈ ds, ∃ pt, d = tI pt ∧ SpotL D pt := hds.all (W := fun d => ∃ pt, d = tI pt ∧ SpotL D pt) fun _ _ h => h
    refine r_cons (rs_for G (src_L (e_var (i := 5) rfl)) (pg_name (i := 6) sc__law_row_right.nd rfl (Or.inl rfl)) (tg_name (vs := [6]) (by decide))
      (fun _ ρ' => ∃ y z, ρ' = [some .hnd, some (.dat (.int (D : Int))), some (.dat (tI row)), some (.dat (planeD row)), some (.dat (.int c)), some (.dat (.list ds)), y, z, none, none]) ⟨_, _, rfl⟩ (fun i d ρ1 hd hJ => ?_) fun ρ' hJ => ?_)
    · obtain ⟨pt, rfl, l, hlast, hl0, hlen, hpb⟩ := hall d (List.mem_of_getElem? hd)
      obtain ⟨_, _, rfl⟩ := hJ
      have hlb : Bits 10 l := hpb l (List.mem_of_getLast? hlast)
      have hdb : Bits 120 (dot row pt) := (dot_bits row pt hb hpb).mono (by omega)
      refine ⟨_, rfl, r_cons (rs_set (i := 7) G (e_call CT (hr.mono (by decide)) (a_cons (e_var (i := 2) rfl) (a_cons (e_var (i := 6) rfl) a_nil)) ⟨row, pt, rfl, hb.mono (by decide), hpb.mono (by decide), by omega, rfl⟩) ?_)⟩
      refine r_cons (r_skip (t_notlike CL hgd (hr.mono (by decide)) (a_cons (e_lst (a_cons (e_call CV (hr.mono (by decide)) (a_cons (e_var (i := 2) rfl) (a_cons (e_var (i := 6) rfl) a_nil)) ⟨row, pt, l, rfl, hlast, hl0, hb8, hpb.mono (by decide), by omega, rfl⟩)
        (a_cons (e_call CS (hr.mono (by decide)) (a_cons (e_var (i := 2) rfl) (a_cons (e_var (i := 6) rfl) a_nil)) ⟨row, pt, rfl, hb8, hpb.mono (by decide), by omega, rfl⟩) a_nil)))
        (a_cons (e_lst (a_cons (e_call CF (hr.mono (by decide)) (a_cons (e_var (i := 7) rfl) (a_cons (e_ixT (e_var (i := 6) rfl) (e_neg e_int) (ati_last (lastI hlast))) a_nil)) ⟨_, _, rfl, hdb.mono (by decide), hlb.mono (by decide), rfl⟩)
        (a_cons (e_call CG (hr.mono (by decide)) (a_cons (e_var (i := 7) rfl) a_nil) ⟨_, rfl, rfl⟩) a_nil))) a_nil)) ((tam_lst (b := 2) (n := 1) (l := 2) (fun d hd => ?_) (by simp)).tame (by decide) (by decide))) ?_)
      · rcases List.mem_cons.mp hd with rfl | hd
        · exact (tam_tI (l := 2) ((fracL_bits hdb (hlb.mono (by decide))).mono (by decide)) (by rw [fracL_len]; decide))
        · rw [List.mem_singleton] at hd
          subst hd
          refine (tam_int (show Bits 1900 (sgn (dot row pt)) from ?_)).mono (by decide) (by decide)
          refine Bits.mono (m := 1) ?_ (by decide)
          unfold sgn Bits
          split
          · decide
          · split
            · decide
            · decide
      refine r_one (r_skip ?_ ⟨_, _, rfl⟩)
      cases hp : planeL row with
      | none =>
        rw [planeD_none hp]
        exact t_and2 (b := false) (t_cmp od_notN (e_var (i := 3) rfl) e_non (nomark _)) nofun fun _ => rfl
      | some pl =>
        rw [planeD_some hp]
        refine t_and2 (b := true) (t_cmp od_notN (e_var (i := 3) rfl) e_non (nomark _)) (fun _ => t_is (t_cmp od_neB (e_cmp od_eqI (e_call CS (hr.mono (by decide)) (a_cons (e_var (i := 3) rfl) (a_cons (e_var (i := 6) rfl) a_nil)) ⟨pl, pt, rfl, (planeL_bits hp hb).mono (by decide), hpb.mono (by decide), ?_, rfl⟩) e_int (nomark _)) (e_cmp od_eqI (e_var (i := 7) rfl) e_int (nomark _)) (nomark _)) ?_) nofun
        · rw [planeL_len hp]
          omega
        · rw [dot_zero hp, beq_self_eq_true] <;> rfl
    · obtain ⟨_, _, rfl⟩ := hJ
      exact r_one (rs_ret e_bl hP)
end
end K3
namespace K3
open PySem PySem.Spec PyProof.Rows L2 Zj
theorem last_two {α : Type} {xs : List α} {l : α} (h : xs.getLast? = some l) : xs = xs.dropLast ++ [l] := by
  cases xs with
  | nil => cases h
  | cons x xs =>
    rw [List.getLast?_eq_some_getLast (List.cons_ne_nil x xs)] at h
    cases h
    exact (List.dropLast_concat_getLast (List.cons_ne_nil x xs)).symm
theorem short_last {q : List Int} {z : Int} (hq : q.getLast? = some z) (hz : 0 < z) : ∃ g l' : Int, 0 < g ∧ (shortL q).getLast? = some l' ∧ z = g * l' ∧ 0 < l' ∧ ∀ row, dot row q = g * dot row (shortL q) := by
  obtain ⟨g0, e⟩ := shortL_mul q ⟨z, List.mem_of_getLast? hq, by omega⟩
  have hq2 := hq
  rw [e, List.getLast?_map] at hq2
  cases hs : (shortL q).getLast? with
  | none => rw [hs] at hq2; cases hq2
  | some l' =>
    rw [hs] at hq2
    have hz2 : (gcdL q : Int) * l' = z := by simpa using hq2
    have gp : (0 : Int) < gcdL q := by omega
    refine ⟨gcdL q, l', gp, rfl, hz2.symm, ?_, fun row => ?_⟩
    · rcases Int.lt_or_le 0 l' with h | h
      · exact h
      · have := Int.mul_le_mul_of_nonneg_left h (Int.le_of_lt gp)
        omega
    · rw [dot_comm row (shortL q), ← dot_scale, ← e, dot_comm]
/-- the value of a row at a point moved by a half -/
theorem moved_value {row pt way : List Int} {D : Nat} {l : Int} (hr : row.length = D + 1) (hl : pt.getLast? = some l) (h0 : 0 < l) (hp : pt.length = D + 1) (hw : way.length = D) :
    ∃ l', (movedL pt way 1 2 l).getLast? = some l' ∧ 0 < l' ∧ (movedL pt way 1 2 l).length = D + 1 ∧
      ∀ u v s t, fracL (dot row (movedL pt way 1 2 l)) l' = [u, v] → fracL (dot row pt) l = [s, t] → 2 * (u * t - s * v) = dot row.dropLast way * v * t := by
  have hql : (List.zipWith (fun n s => n * 2 + s * 1 * l) pt.dropLast way ++ [l * 2]).length = D + 1 := by
    simp
    omega
  have hd : dot row (List.zipWith (fun n s => n * 2 + s * 1 * l) pt.dropLast way ++ [l * 2]) = 2 * dot row pt + l * dot row.dropLast way := by
    have hrl : row ≠ [] := fun z => by rw [z] at hr; simp at hr
    have er : row = row.dropLast ++ [row.getLast hrl] := (List.dropLast_concat_getLast hrl).symm
    have ep := last_two hl
    have := dot_moved l 0 pt.dropLast way row.dropLast (row.getLast hrl) (by simp; omega) (by simp; omega)
    rw [← er, ← ep] at this
    exact this
  obtain ⟨g, l', gp, hl', hz, lp, hdot⟩ := short_last (q := List.zipWith (fun n s => n * 2 + s * 1 * l) pt.dropLast way ++ [l * 2]) (z := l * 2) (by simp) (by omega)
  refine ⟨l', hl', lp, by unfold movedL; rw [shortL_len, hql], fun u v s t e1 e2 => ?_⟩
  have hd2 := hdot row
  rw [hd] at hd2
  have hmv : shortL (List.zipWith (fun n s => n * 2 + s * 1 * l) pt.dropLast way ++ [l * 2]) = movedL pt way 1 2 l := rfl
  rw [hmv] at hd2
  obtain ⟨u', v', h, f1, hp1, a1, a2⟩ := fracL_two (t := dot row (movedL pt way 1 2 l)) lp
  obtain ⟨s', t', k, f2, kp, b1, b2⟩ := fracL_two (t := dot row pt) h0
  rw [e1] at f1
  rw [e2] at f2
  cases f1
  cases f2
  rw [a1, b1] at hd2
  generalize dot row.dropLast way = S at *
  have E1 : 2 * (k * s) + l * S = g * (h * u) := hd2
  have E2 : l * 2 = g * (h * v) := by rw [hz, a2]
  have gh : g * h ≠ 0 := fun z => by
    rcases Int.mul_eq_zero.mp z with z | z <;> omega
  apply Int.eq_of_mul_eq_mul_left gh
  clear e1 e2 a1 b1 hd2 hdot hd hql hl' hmv
  subst b2
  grind
theorem moved_bits {pt way : List Int} {l : Int} (hb : BitsL 10 pt) (hw : BitsL 10 way) (hl : Bits 10 l) : BitsL 40 (movedL pt way 1 2 l) := by
  refine shortL_bits fun x hx => ?_
  have t1 : Bits 2 1 := show (1 : Nat) < 2 ^ 2 by decide
  have t2 : Bits 2 2 := show (2 : Nat) < 2 ^ 2 by decide
  rcases List.mem_append.mp hx with hx | hx
  · obtain ⟨i, hi⟩ := List.getElem?_of_mem hx
    rw [List.getElem?_zipWith] at hi
    split at hi
    · rename_i n s e1 e2
      cases hi
      have q1 := hb n (List.dropLast_subset _ (List.mem_of_getElem? e1))
      have q2 := hw s (List.mem_of_getElem? e2)
      exact Bits.mono (Bits.add (m := 22) ((Bits.mul q1 t2).mono (by decide)) ((Bits.mul (Bits.mul q2 t1) hl).mono (by decide))) (by decide)
    · cases hi
  · rw [List.mem_singleton] at hx
    subst hx
    exact (Bits.mul hl t2).mono (by decide)
section
variable {P : Program} {w : World} {K : PySem.W.Frag} {mg : Str → Option Value} {base : Heap} {f : Addr} {fd : FuncData}
theorem ok_sloperight (F : Fun K "_law_slope_right" "_law_slope_right" st__law_slope_right f fd) (T : Tx mg) (C1 : CalG P w K mg base 1 "_law_draw" ["m", "bound"] (spM K 1 R_draw)) (C2 : CalG P w K mg base 4 "_law_spot" ["m", "dimension"] (spM K 5 R_spot))
    (CL : CalG P w K mg base 1 "_law_like" ["told", "due"] (spR K R_like)) (CW : Cal P w K mg base 2 "_law_lowered" ["numbers"] (spR K R_short)) (CS : Cal P w K mg base 2 "slope" ["row", "direction"] (spR K R_slope))
    (CV : Cal P w K mg base 2 "value_at" ["row", "point"] (spR K R_value)) (CM : Cal P w K mg base 3 "moved_by" ["point", "direction", "amount"] (spR K R_moved)) : FnG P w K mg base CX0 5 f fd ["m", "dimension", "row_so"] (spM K 9 R_right) := by
  refine fnM F sc__law_slope_right (fun ds Pd h => by obtain ⟨D, row, rfl, _⟩ := h; rfl) fun cdv A outer s H E G hr hgd a n ds Pd h => ?_
  obtain ⟨D, row, rfl, hD1, hD, hl, hb, hP⟩ := h
  have hb8 : BitsL 8000 row := hb.mono (by decide)
  have h1' : 1 ≤ (row.map PyData.int).length := by simp; omega
  refine q_cons (qs_set (i := 3) (m := n + 5) (P := fun d => ∃ ws, d = tI ws ∧ ws.length = D ∧ BitsL 10 ws) G (m_callR CW (hr.mono (by decide)) (PA := fun ds => ∃ d ds', ds = d :: ds' ∧ (∃ us : List Int, d = lI us ∧ us.length = D ∧ BitsL 5 us) ∧ ds' = [])
    (ma_cons (m := n + 5) (m_bin (m := n + 6) (P1 := fun d => ∃ us : List Int, d = lI us ∧ us.length = D - 1 ∧ BitsL 5 us) (P2 := fun _ d => ∃ b : Int, d = lI [b] ∧ Bits 5 b)
      (m_lc0 (c := 1) (own := [("k", 10)]) (f := fName 10) (V := fun _ d => ∃ x : Int, d = .int x ∧ Bits 5 x) (items := Zj.upTo ((D : Int) - 1).toNat) G (src_R (a_cons (e_bin od_sub (e_var (i := 1) rfl) e_int) a_nil) (by omega) (by omega) T.range)
      (by rw [upto_len]; omega) (by rw [upto_len]; omega) (blkOk_by (N := n__law_slope_right) (sc := defScope st__law_slope_right) (by decide +kernel)) (fun _ _ _ _ _ => pg_name (i := 10) sc__law_slope_right.nd rfl (Or.inl rfl)) (tg_name (by decide)) (fun d hd => ⟨_, rfl, fun m s H C cl fp => ?_⟩) fun ds hds => ?_)
      (fun _ _ => m_lst (PA := fun ds => ∃ d ds', ds = d :: ds' ∧ (∃ b : Int, d = .int b ∧ Bits 5 b) ∧ ds' = []) (ma_cons (m := n + 5) (m_bin (P1 := fun d => d = .int 1) (P2 := fun _ d => ∃ r : Int, d = .int r ∧ 0 ≤ r ∧ r < 3) (m := n + 6) (m_pure e_int rfl (Nat.le_refl _))
        (fun _ _ => m_call (i := 0) (ds := [.int 3]) C1 hgd (hr.mono (by decide)) rfl (a_cons e_int a_nil) ⟨3, rfl, by decide, bits_small (by decide) (by decide), fun r r0 r1 => ⟨r, rfl, r0, r1⟩⟩ (Nat.le_refl _)) (fun d1 d2 h1 h2 => by
          subst h1
          obtain ⟨r, rfl, r0, r1⟩ := h2
          exact ⟨_, od_add, _, rfl, bits_lt (by omega) (by omega)⟩)) fun _ _ => ma_nil (Nat.le_refl _)) fun ds hds => by
        obtain ⟨_, _, rfl, ⟨b, rfl, hb⟩, rfl⟩ := hds
        exact ⟨by simp, b, rfl, hb⟩) fun d1 d2 h1 h2 => ?_) fun _ _ => ma_nil (Nat.le_refl _)) fun ds hds => ?_) fun d hd => ?_)
  · refine m_bin (P1 := fun d => ∃ r : Int, d = .int r ∧ 0 ≤ r ∧ r < 7) (P2 := fun _ d => d = .int 3) (m := m) (m_call (i := 0) (ds := [.int 7]) C1 hgd (hr.mono (by decide)) rfl (a_cons e_int a_nil) ⟨7, rfl, by decide, bits_small (by decide) (by decide), fun r r0 r1 => ⟨r, rfl, r0, r1⟩⟩ (Nat.le_refl _)) (fun _ _ => m_pure e_int rfl (Nat.le_refl _)) (fun d1 d2 h1 h2 => by
      obtain ⟨r, rfl, r0, r1⟩ := h1
      subst h2
      exact ⟨_, od_sub, _, rfl, bits_abs (by omega)⟩)
  · obtain ⟨ns, rfl, hl, hn⟩ := fa2_ints hds
    exact ⟨ns, rfl, by rw [hl, upto_len]; omega, hn⟩
  · obtain ⟨us, rfl, hu, hub⟩ := h1
    obtain ⟨b, rfl, hbb⟩ := h2
    refine ⟨_, od_catL (by simp; omega), us ++ [b], ?_, by simp; omega, fun x hx => ?_⟩
    · show PyData.list _ = PyData.list (List.map _ _)
      rw [List.map_append]
    · rcases List.mem_append.mp hx with hx | hx
      · exact hub x hx
      · rw [List.mem_singleton] at hx
        subst hx
        exact hbb
  · obtain ⟨_, _, rfl, ⟨us, rfl, hu, hub⟩, rfl⟩ := hds
    exact ⟨_, ⟨us, .inr rfl, hub.mono (by decide), by omega, rfl⟩, _, rfl, by rw [shortL_len, hu], shortL_bits (hub.mono (by decide))⟩
  obtain ⟨way, rfl, hwl, hwb⟩ := hd
  refine q_cons (qs_par (i := 4) (j := 5) (m := n) (PA := fun ds => ∃ d ds', ds = d :: ds' ∧ d = .int (dot row.dropLast way) ∧ ∃ d2 ds2, ds' = d2 :: ds2 ∧ (∃ pt, d2 = tI pt ∧ SpotL D pt) ∧ ds2 = []) G
    (ma_cons (m := n + 5) (m_pure (e_callB (ca_sum rfl (ns := List.zipWith (· * ·) row.dropLast way)) (a_cons (e_is (e_lc0 (own := [("a", 11), ("b", 12)]) (f := fPair 11 12) (val := onPair (· * ·)) (items := List.zipWith (fun x y => PyData.tuple [x, y]) (row.dropLast.map .int) (way.map .int)) G
    (src_ZT (a_cons (e_is (e_slT (e_var (i := 2) rfl) o_non (o_int (e_neg e_int)) (cut_part _ h1')) (by rw [cutD_init _ h1', initI])) (a_cons (e_var (i := 3) rfl) a_nil)) T.zip) (by simp; omega) (blkOk_by (N := n__law_slope_right) (sc := defScope st__law_slope_right) (by decide +kernel))
    (fun _ _ _ _ _ => pg_tup rfl (pgs_cons (pg_name (i := 11) sc__law_slope_right.nd rfl (Or.inl rfl)) (pgs_cons (pg_name (i := 12) sc__law_slope_right.nd rfl (Or.inl rfl)) pgs_nil))) (tg_pair (by decide) (by decide)) (fun d hd => ?_)) (by rw [zipI_map])) a_nil) T.sum (by decide +kernel)) rfl (Nat.le_refl _))
    fun _ _ => ma_cons (m := n) (P := fun d2 => ∃ pt, d2 = tI pt ∧ SpotL D pt) (m_call (i := 0) (ds := [.int (D : Int)]) C2 hgd (hr.mono (by decide)) rfl (a_cons (e_var (i := 1) rfl) a_nil) ⟨D, rfl, hD, fun pt h => ⟨pt, rfl, h⟩⟩ (Nat.le_refl _)) fun _ _ => ma_nil (Nat.le_refl _)) fun ds hds => ?_)
  · obtain ⟨x, g1, y, g2, rfl⟩ := mem_zipI hd
    exact ⟨_, rfl, fun s H C cl fp => e_bin (od_mul (mul_ok (hb x (List.dropLast_subset _ g1)) (hwb y g2) (by decide))) (e_var (i := 11) rfl) (e_var (i := 12) rfl)⟩
  obtain ⟨_, _, rfl, rfl, _, _, rfl, ⟨pt, rfl, l, hlast, hl0, hlen, hpb⟩, rfl⟩ := hds
  refine ⟨_, _, rfl, ?_⟩
  have hlb : Bits 10 l := hpb l (List.mem_of_getLast? hlast)
  have hdb : Bits 120 (dot row pt) := (dot_bits row pt hb hpb).mono (by omega)
  have hsb : Bits 120 (dot row.dropLast way) := (dot_bits row.dropLast way (fun x hx => hb x (List.dropLast_subset _ hx)) hwb).mono (by rw [List.length_dropLast]; omega)
  obtain ⟨l', hl', hl0', hlen', eqn⟩ := moved_value hl hlast hl0 hlen hwl
  have hmb : BitsL 40 (movedL pt way 1 2 l) := moved_bits hpb hwb hlb
  have hlb' : Bits 40 l' := hmb l' (List.mem_of_getLast? hl')
  have hdb' : Bits 150 (dot row (movedL pt way 1 2 l)) := (dot_bits row _ hb hmb).mono (by omega)
  obtain ⟨u, v, _, f1, _⟩ := fracL_two (t := dot row (movedL pt way 1 2 l)) hl0'
  obtain ⟨sv, tv, _, f2, _⟩ := fracL_two (t := dot row pt) hl0
  have eqn := eqn u v sv tv f1 f2
  have fb1 := fracL_bits hdb' (hlb'.mono (n := 150) (by decide))
  have fb2 := fracL_bits hdb (hlb.mono (n := 120) (by decide))
  rw [f1] at fb1
  rw [f2] at fb2
  have ub := fb1 u (by simp)
  have vb := fb1 v (by simp)
  have sb := fb2 sv (by simp)
  have tb := fb2 tv (by simp)
  have t1 : Bits 2 1 := show (1 : Nat) < 2 ^ 2 by decide
  have t2 : Bits 2 2 := show (2 : Nat) < 2 ^ 2 by decide
  refine q_run (N' := fun _ => Pd .none) (R' := Pd) ?_ (fun _ h => ⟨Nat.le_refl _, h⟩) (fun d h => ⟨Nat.le_refl _, h⟩)
  refine r_cons (r_skip (t_notlike CL hgd (hr.mono (by decide)) (a_cons (e_call CS (hr.mono (by decide)) (a_cons (e_var (i := 2) rfl) (a_cons (e_var (i := 3) rfl) a_nil)) ⟨row, way, rfl, by omega, hb8, hwb.mono (by decide), by omega, rfl⟩) (a_cons (e_var (i := 4) rfl) a_nil)) ((tam_int (hsb.mono (by decide))).tame (by decide) (by decide))) ?_)
  refine r_cons (rs_asg (ρ' := [some .hnd, some (.dat (.int (D : Int))), some (.dat (tI row)), some (.dat (tI way)), some (.dat (.int (dot row.dropLast way))), some (.dat (tI pt)), some (.dat (.int u)), some (.dat (.int v)), none, none, none, none, none])
    (e_is (d' := tI [u, v]) (e_call CV (hr.mono (by decide)) (a_cons (e_var (i := 2) rfl) (a_cons (e_call CM (hr.mono (by decide)) (a_cons (e_var (i := 5) rfl) (a_cons (e_var (i := 3) rfl) (a_cons (e_tup (a_cons e_int (a_cons e_int a_nil))) a_nil))) ⟨pt, way, 1, 2, l, rfl, hlast, hpb.mono (by decide), hwb.mono (by decide), t1.mono (by decide), t2.mono (by decide), by omega, rfl⟩) a_nil))
      ⟨row, movedL pt way 1 2 l, l', rfl, hl', hl0', hb8, hmb.mono (by decide), by omega, rfl⟩) (by rw [f1])) (pg_tup rfl (pgs_cons (pg_name (i := 6) sc__law_slope_right.nd rfl (Or.inl rfl)) (pgs_cons (pg_name (i := 7) sc__law_slope_right.nd rfl (Or.inl rfl)) pgs_nil)))
    (fun T σ H v S p Q q => tg_pair (vs := [6, 7]) (by decide) (by decide) T σ H v _ _ _ S p rfl Q (fun σ' h _ => q σ' h)) ?_)
  refine r_cons (rs_asg (ρ' := [some .hnd, some (.dat (.int (D : Int))), some (.dat (tI row)), some (.dat (tI way)), some (.dat (.int (dot row.dropLast way))), some (.dat (tI pt)), some (.dat (.int u)), some (.dat (.int v)), some (.dat (.int sv)), some (.dat (.int tv)), none, none, none])
    (e_is (d' := tI [sv, tv]) (e_call CV (hr.mono (by decide)) (a_cons (e_var (i := 2) rfl) (a_cons (e_var (i := 5) rfl) a_nil)) ⟨row, pt, l, rfl, hlast, hl0, hb8, hpb.mono (by decide), by omega, rfl⟩) (by rw [f2])) (pg_tup rfl (pgs_cons (pg_name (i := 8) sc__law_slope_right.nd rfl (Or.inl rfl)) (pgs_cons (pg_name (i := 9) sc__law_slope_right.nd rfl (Or.inl rfl)) pgs_nil)))
    (fun T σ H v S p Q q => tg_pair (vs := [8, 9]) (by decide) (by decide) T σ H v _ _ _ S p rfl Q (fun σ' h _ => q σ' h)) ?_)
  have q1 : Bits 700 (u * tv - sv * v) := Bits.mono (Bits.sub (m := 600) ((Bits.mul ub tb).mono (by decide)) ((Bits.mul sb vb).mono (by decide))) (by decide)
  refine r_one (rs_ret (d := .bool true) (e_is (e_cmp od_eqI (e_bin (od_mul (mul_ok t2 q1 (by decide))) e_int (e_bin od_sub (e_bin (od_mul (mul_ok ub tb (by decide))) (e_var (i := 6) rfl) (e_var (i := 9) rfl)) (e_bin (od_mul (mul_ok sb vb (by decide))) (e_var (i := 8) rfl) (e_var (i := 7) rfl))))
    (e_bin (od_mul (mul_ok (Bits.mul hsb vb) tb (by decide))) (e_bin (od_mul (mul_ok hsb vb (by decide))) (e_var (i := 4) rfl) (e_var (i := 7) rfl)) (e_var (i := 9) rfl)) (nomark _)) (by rw [eqn, beq_self_eq_true])) hP)
end
end K3
namespace K3
open PySem PySem.Spec PyProof.Rows L2 Zj
theorem js_cons {X : Cx} {a : Addr} {st : Stmt} {sts : List Stmt} {ρ : Rho} {N : Rho → Prop} {T : Addr → Prop} {σ : L2.St} {H : Hp} {D} (h : RunS X a st ρ N (fun _ => False)) (S : SD X.K a T H σ ρ) (k : ∀ σ' H' ρ', Same H H' → SD X.K a T H' σ' ρ' → N ρ' → JSs X sts D σ' H') : JSs X (st :: sts) D σ H :=
  toSs (pss_cons js jss) (h T σ H { D with nx := fun σ' H' => JSs X sts D σ' H' } S k fun _ _ _ _ _ f => f.elim)
theorem ev {X : Cx} {a : Addr} {e : Expr} {ρ : Rho} {d : PyData} {T : Addr → Prop} {σ : L2.St} {H : Hp} {Q : VK} (h : EvE X a e ρ d) (S : SD X.K a T H σ ρ) (q : ∀ v H2, Same H H2 → Dp X.K (off T H2) v d → Q v H2) : JE X e σ H Q := h T σ H S Q q
/-- the law's state is made -/
def spB (K : PySem.W.Frag) : Sp := fun vs H Q _ => ∃ T xs, ∃ k : Nat, Din T H ∧ DpAll K (off T H) vs [lI xs, .int (k : Int)] ∧ k ≤ 3 ∧ xs.length ≤ 63 ∧ BitsL 1100000 xs ∧ ∀ p H', H p = none → Same H H' → MS K (off T H') p 900000000000 → Q (.ref p) H'
def keepBig : PyData → Bool
  | .int x => decide ((10 ^ Int.toNat 18 : Int) ≤ x)
  | _ => false
def valSame : PyData → PyData := fun d => d
theorem kept_big : ∀ xs : List Int, ∃ ys : List Int, kept keepBig valSame (xs.map .int) = ys.map .int
  | [] => ⟨[], rfl⟩
  | x :: xs => by
    obtain ⟨ys, h⟩ := kept_big xs
    unfold kept at h ⊢
    rw [List.map_cons]
    cases hk : keepBig (.int x) with
    | true =>
      refine ⟨x :: ys, ?_⟩
      rw [List.filter_cons_of_pos hk, List.map_cons, h, List.map_cons] <;> rfl
    | false =>
      refine ⟨ys, ?_⟩
      rw [List.filter_cons_of_neg (by rw [hk]; exact Bool.false_ne_true), h]
theorem dps_ints_inv {K : PySem.W.Frag} {H : Hp} : ∀ {ns : List Int} {vs : List V}, DpAll K H vs (ns.map PyData.int) → vs = ns.map V.int
  | [], _, h => by cases h; rfl
  | n :: ns, _, h => by
    cases h with
    | cons h1 h2 => rw [dp_int h1, dps_ints_inv h2] <;> rfl
theorem cut_cells (xs : List Int) (k : Nat) : ∃ ys : List Int, Zj.cutD (xs.map .int) (some (k : Int)) none ++ Zj.cutD (xs.map .int) none (some (k : Int)) = ys.map .int ∧ ys.length = xs.length ∧ ∀ y ∈ ys, y ∈ xs := by
  refine ⟨xs.drop (min k xs.length) ++ xs.take (min k xs.length), ?_, ?_, fun y hy => ?_⟩
  · unfold Zj.cutD
    rw [HT.sIx_nat, HT.sIx_nat, HT.sIx_none, HT.sIx_none, List.length_map, List.map_append, List.map_drop, List.map_take, List.drop_zero, Nat.sub_zero]
    congr 1
    rw [List.take_of_length_le (by simp)]
  · simp
    omega
  · rcases List.mem_append.mp hy with hy | hy
    · exact List.mem_of_mem_drop hy
    · exact List.mem_of_mem_take hy
section
variable {P : Program} {w : World} {K : PySem.W.Frag} {mg : Str → Option Value} {base : Heap} {f : Addr} {fd : FuncData}
theorem ok_begun (F : Fun K "_law_begun" "_law_begun" st__law_begun f fd) (T : Tx mg) : FnG P w K mg base CX0 1 f fd ["script", "k"] (spB K) := by
  refine fnG F sc__law_begun (fun vs H Q E h => by
    obtain ⟨T, xs, k, _, h1, _⟩ := h
    exact dps_len h1) fun cdv A outer s H vs Q E hgd hr h => ?_
  obtain ⟨T', xs, k, dm, hd, hk, hl, hb, hq⟩ := h
  have G : Good (cxOf CX0 P w K mg base n__law_begun "_law_begun" (defScope st__law_begun) f cdv A outer s H E).nox := ⟨sc__law_begun.nd, rfl, PassesOwn.never, hr.units⟩
  obtain ⟨cells, hc, hcl, hcm⟩ := cut_cells xs k
  obtain ⟨great, hg⟩ := kept_big cells
  have hcb : BitsL 1100000 cells := fun y hy => hb y (hcm y hy)
  have S0 := SD.start (N := n__law_begun) (a := 0) dm hd
  refine js_cons (N := fun ρ' => ρ' = [some (.dat (lI xs)), some (.dat (.int (k : Int))), some (.dat (lI cells)), none, none, none]) (rs_set (i := 2) (d := lI cells) G (e_is (e_bin (od_catL ?_) (e_slL (e_var (i := 0) rfl) (o_int (e_var (i := 1) rfl)) o_non) (e_slL (e_var (i := 0) rfl) o_non (o_int (e_var (i := 1) rfl)))) (by rw [hc])) rfl) S0 fun σ1 H1 ρ1 s1 S1 e1 => ?_
  · have := congrArg List.length hc
    rw [List.length_append, List.length_map] at this
    omega
  subst e1
  refine js_cons (N := fun ρ' => ρ' = [some (.dat (lI xs)), some (.dat (.int (k : Int))), some (.dat (lI cells)), none, some (.dat (lI great)), none]) (rs_lc (i := 4) (own := [("cell", 3)]) (f := fName 3) (keep := keepBig) (val := valSame) G (src_L (e_var (i := 2) rfl)) (by simp; omega) (blkOk_by (N := n__law_begun) (sc := defScope st__law_begun) (by decide +kernel))
    (fun _ _ _ _ _ => pg_name (i := 3) sc__law_begun.nd rfl (Or.inl rfl)) (tg_name (by decide)) (fun d hd => ?_) (by rw [hg] <;> rfl)) S1 fun σ2 H2 ρ2 s2 S2 e2 => ?_
  · obtain ⟨x, hx, rfl⟩ := mem_mapI hd
    exact ⟨_, rfl, fun s H C cl fp => t_cmp od_ge (e_var (i := 3) rfl) (e_bin (od_pow ⟨by decide, by decide, by decide⟩) e_int e_int) (nomark _), fun _ s H C cl fp => e_var (i := 3) rfl⟩
  subst e2
  refine js_cons (N := fun ρ' => ρ' = [some (.dat (lI xs)), some (.dat (.int (k : Int))), some (.dat (lI cells)), none, some (.dat (lI great)), some (.dat (.int (86 + (k : Int))))]) (rs_set (i := 5) G (e_bin od_add e_int (e_var (i := 1) rfl)) rfl) S2 fun σ3 H3 ρ3 s3 S3 e3 => ?_
  subst e3
  refine js_cons (N := fun ρ' => ∃ (y : Option DV) (sd : Int), 0 ≤ sd ∧ sd < 2147483647 ∧ ρ' = [some (.dat (lI xs)), some (.dat (.int (k : Int))), some (.dat (lI cells)), y, some (.dat (lI great)), some (.dat (.int sd))]) (rs_for G (src_L (e_var (i := 2) rfl)) (pg_name (i := 3) sc__law_begun.nd rfl (Or.inl rfl)) (tg_name (vs := [3]) (by decide))
    (fun _ ρ' => ∃ (y : Option DV) (sd : Int), 0 ≤ sd ∧ sd < 2147483647 ∧ ρ' = [some (.dat (lI xs)), some (.dat (.int (k : Int))), some (.dat (lI cells)), y, some (.dat (lI great)), some (.dat (.int sd))]) ⟨_, _, by omega, by omega, rfl⟩ (fun i d ρ1 hd hJ => ?_) fun ρ' hJ => hJ) S3 fun σ4 H4 ρ4 s4 S4 e4 => ?_
  · obtain ⟨c, hc, rfl⟩ := getI hd
    obtain ⟨y, sd, d0, d1, rfl⟩ := hJ
    have b7 : Bits 17 48271 := show (48271 : Nat) < 2 ^ 17 by decide
    have bs : Bits 31 sd := bits_lt d0 (by omega)
    exact ⟨_, rfl, r_one (rs_set (i := 5) G (e_bin (od_mod (by decide)) (e_callT ca_int (a_cons (e_bin od_add (e_bin (od_mul (mul_ok bs b7 (by decide))) (e_var (i := 5) rfl) e_int) (e_var (i := 3) rfl)) a_nil) T.int (by decide +kernel)) e_int) ⟨_, _, Int.emod_nonneg _ (by decide), Int.emod_lt_of_pos _ (by decide), rfl⟩)⟩
  obtain ⟨y, sd, d0, d1, rfl⟩ := e4
  have hleft : ∃ left : Int, ∀ p1 p2 p3 p4 p5 p6 p7 p8, EvE (cxOf CX0 P w K mg base n__law_begun "_law_begun" (defScope st__law_begun) f cdv A outer s H E).nox 0
      (.IfExp (.Compare (.Name "great" p1) [.NotEq] [.List [] p2] p3) (.Subscript (.Name "great" p4) (.Constant (.int 0) 0 p5) p6) (.Constant (.int 0) 0 p8) p7)
      [some (.dat (lI xs)), some (.dat (.int (k : Int))), some (.dat (lI cells)), y, some (.dat (lI great)), some (.dat (.int sd))] (.int left) := by
    cases great with
    | nil => exact ⟨0, fun _ _ _ _ _ _ _ _ => e_ifF (t_is (t_cmp (od_neD G.un (shaped_lI []) (shaped_lI [])) (e_var (i := 4) rfl) (e_lst a_nil) (nomark _)) rfl) e_int⟩
    | cons g gs => exact ⟨g, fun _ _ _ _ _ _ _ _ => e_ifT (t_is (t_cmp (od_neD G.un (shaped_lI (g :: gs)) (shaped_lI [])) (e_var (i := 4) rfl) (e_lst a_nil) (nomark _)) (by rw [eqv_lI] <;> rfl)) (e_ixL (e_var (i := 4) rfl) e_int (ati_of (j := 0) rfl rfl))⟩
  obtain ⟨left, hleft⟩ := hleft
  have b53 : Bits 10 53 := show (53 : Nat) < 2 ^ 10 by decide
  have bk : Bits 10 (k : Int) := bits_lt (by omega) (by omega)
  refine toSs (pss_one js) (toS (ps_ret (pe_disp (pps_cons je je (pps_cons je je (pps_cons je je (pps_cons je je pps_nil)))) rfl rfl (by exact fun z => by cases z) (by decide))) ?_)
  intro p hp
  have S5 := S4.same (same_new (o := .dK []) hp)
  refine e_str T' σ4 _ S5 _ fun v1 H5 s5 p5 => ?_
  refine hleft _ _ _ _ _ _ _ _ T' σ4 _ (S5.same s5) _ fun v2 H6 s6 p6 => ?_
  have t6 := s5.trans s6
  refine e_str T' σ4 _ (S5.same t6) _ fun v3 H7 s7 p7 => ?_
  have t7 := t6.trans s7
  refine ev (e_var (i := 5) rfl) (S5.same t7) fun v4 H8 s8 p8 => ?_
  have t8 := t7.trans s8
  refine e_str T' σ4 _ (S5.same t8) _ fun v5 H9 s9 p9 => ?_
  have t9 := t8.trans s9
  refine e_is (d' := lI (cells ++ [53 * (k : Int) + 11])) (e_bin (od_catL (by simp; omega)) (e_var (i := 2) rfl) (e_lst (a_cons (e_bin od_add (e_bin (od_mul (mul_ok b53 bk (by decide))) e_int (e_var (i := 1) rfl)) e_int) a_nil))) (by
    show PyData.list _ = PyData.list (List.map _ _)
    rw [List.map_append]
    rfl) T' σ4 _ (S5.same t9) _ fun v6 H10 s10 p10 => ?_
  have t10 := t9.trans s10
  refine e_str T' σ4 _ (S5.same t10) _ fun v7 H11 s11 p11 => ?_
  have t11 := t10.trans s11
  refine e_int T' σ4 _ (S5.same t11) _ fun v8 H12 s12 p12 => ?_
  have t12 := t11.trans s12
  obtain rfl := dp_str p5
  obtain rfl := dp_int p6
  obtain rfl := dp_str p7
  obtain rfl := dp_int p8
  obtain rfl := dp_str p9
  obtain rfl := dp_str p11
  obtain rfl := dp_int p12
  obtain ⟨pc, xs', rfl, g1, g2⟩ := dp_lst p10
  obtain rfl := dps_ints_inv g2
  have at12 : H12 p = some (.dK []) := t12 _ _ upd_same
  have hTp : ¬ T' p := fun z => (S4.dm p z) hp
  have kp : Kp p H12 (upd H12 p (.dK (sts left sd pc 0))) := ⟨fun b o hb hh => by rw [upd_ne hb]; exact hh, fun _ => ⟨_, upd_same⟩⟩
  have s04 : Same H H4 := ((s1.trans s2).trans s3).trans s4
  have hp0 : H p = none := by
    cases hh : H p with
    | none => rfl
    | some o =>
      rw [s04 _ _ hh] at hp
      cases hp
  refine ⟨at12, sts left sd pc 0, rfl, by show 4 ≤ 15; decide, ?_⟩
  refine hq p _ hp0 (fun b o hh => ?_) ⟨left, sd, pc, 0, cells ++ [53 * (k : Int) + 11], ?_, ?_, by simp, by simp; omega, fun c hc => ?_, d0, d1, Int.le_refl _, by decide⟩
  · have hbp : b ≠ p := fun z => by
      rw [z, hp0] at hh
      cases hh
    rw [upd_ne hbp]
    exact t12 b o (by rw [upd_ne hbp]; exact s04 b o hh)
  · rw [off_no hTp, upd_same]
    rfl
  · exact kp_l (kp_off kp hTp) ⟨_, by rw [off_no hTp]; exact at12⟩ _ _ (same_l (off_same (s11.trans s12)) _ _ g1)
  · rcases List.mem_append.mp hc with hc | hc
    · exact (hcb c hc).mono (by decide)
    · rw [List.mem_singleton] at hc
      subst hc
      exact (bits_lt (n := 60) (by omega) (by omega)).mono (by decide)
end
end K3
namespace K3
open PySem PySem.Spec PyProof.Rows L2 Zj
theorem pv1 : planeL [0, 0, 3] = none := by decide +kernel
theorem pv2 : planeL [0, -2, 4] = some [0, 1, -2] := by decide +kernel
theorem pv3 : planeL [6, 4, -2] = some [3, 2, -1] := by decide +kernel
theorem pv4 : planeL [0, 0] = none := by decide +kernel
theorem pv5 : planeL [-5, 0] = some [1, 0] := by decide +kernel
theorem pv6 : planeL [0, 2] = none := by decide +kernel
theorem fv1 : fracL (dot [2, -1, 3] [1, 2, 4]) 4 = [3, 1] := by decide +kernel
theorem fv2 : fracL (dot [1, 1] [1, 2]) 2 = [3, 2] := by decide +kernel
instance (n : Nat) (x : Int) : Decidable (Bits n x) := inferInstanceAs (Decidable (x.natAbs < 2 ^ n))
theorem bitsOf {xs : List Int} {n : Nat} (h : ∀ x ∈ xs, x.natAbs < 2 ^ n) : BitsL n xs := h
theorem small {xs : List Int} (h : xs.all (fun x => decide (x.natAbs < 2 ^ 10)) = true) : BitsL 8000 xs := fun x hx => Bits.mono (m := 10) (of_decide_eq_true (List.all_eq_true.mp h x hx)) (by decide)
theorem small19 {xs : List Int} (h : xs.all (fun x => decide (x.natAbs < 2 ^ 10)) = true) : BitsL 1900 xs := fun x hx => Bits.mono (m := 10) (of_decide_eq_true (List.all_eq_true.mp h x hx)) (by decide)
section
variable {P : Program} {w : World} {K : PySem.W.Frag} {mg : Str → Option Value} {base : Heap} {f : Addr} {fd : FuncData}
def R_hand (ds : List PyData) (d : PyData) : Prop := ds = [] ∧ d = .bool true
theorem tm_I {xs : List Int} (h : xs.all (fun x => decide (x.natAbs < 2 ^ 10)) = true) (hl : xs.length ≤ 10) : Tam 10 1 (tI xs) := tam_tI (small19 h) hl
theorem ok_hand (F : Fun K "_law_hand_right" "_law_hand_right" st__law_hand_right f fd) (T : Tx mg)
    (CL : CalG P w K mg base 1 "_law_like" ["told", "due"] (spR K R_like)) (CP : Cal P w K mg base 3 "plane_of" ["row"] (spR K R_plane)) (CV : Cal P w K mg base 2 "value_at" ["row", "point"] (spR K R_value)) (CS : Cal P w K mg base 2 "sign_at" ["row", "point"] (spR K R_signat))
    (CG : Cal P w K mg base 3 "signs_at" ["planes", "point"] (spR K R_signs)) (CO : Cal P w K mg base 2 "slope" ["row", "direction"] (spR K R_slope))
    (KP : CalK P w K mg base 3 "plane_of" st_plane_of ["row"] (spR K R_plane)) (KV : CalK P w K mg base 2 "value_at" st_value_at ["row", "point"] (spR K R_value)) (KS : CalK P w K mg base 2 "sign_at" st_sign_at ["row", "point"] (spR K R_signat))
    (KG : CalK P w K mg base 3 "signs_at" st_signs_at ["planes", "point"] (spR K R_signs)) (KO : CalK P w K mg base 2 "slope" st_slope ["row", "direction"] (spR K R_slope)) : FnG P w K mg base CX0 4 f fd [] (spR K R_hand) := by
  refine fnRG F sc__law_hand_right (fun ds d h => by obtain ⟨rfl, _⟩ := h; rfl) fun cdv A outer s H E G hr hgd ds d h => ?_
  obtain ⟨rfl, rfl⟩ := h
  refine r_cons (rs_set (i := 0) (d := .list [.none, tI [0, 1, -2], tI [3, 2, -1], .none, tI [1, 0]]) G (e_lst
    (a_cons (e_is (e_call CP (hr.mono (by decide)) (a_cons (e_tup (a_cons e_int (a_cons e_int (a_cons e_int a_nil)))) a_nil) ⟨[0, 0, 3], rfl, by decide, by decide, small (by decide), rfl⟩) (planeD_none pv1))
    (a_cons (e_is (e_call CP (hr.mono (by decide)) (a_cons (e_tup (a_cons e_int (a_cons (e_neg e_int) (a_cons e_int a_nil)))) a_nil) ⟨[0, -2, 4], rfl, by decide, by decide, small (by decide), rfl⟩) (planeD_some pv2))
    (a_cons (e_is (e_call CP (hr.mono (by decide)) (a_cons (e_tup (a_cons e_int (a_cons e_int (a_cons (e_neg e_int) a_nil)))) a_nil) ⟨[6, 4, -2], rfl, by decide, by decide, small (by decide), rfl⟩) (planeD_some pv3))
    (a_cons (e_is (e_call CP (hr.mono (by decide)) (a_cons (e_tup (a_cons e_int (a_cons e_int a_nil))) a_nil) ⟨[0, 0], rfl, by decide, by decide, small (by decide), rfl⟩) (planeD_none pv4))
    (a_cons (e_is (e_call CP (hr.mono (by decide)) (a_cons (e_tup (a_cons (e_neg e_int) (a_cons e_int a_nil))) a_nil) ⟨[-5, 0], rfl, by decide, by decide, small (by decide), rfl⟩) (planeD_some pv5)) a_nil)))))) ?_)
  refine r_cons (r_skip (t_notlike CL hgd (hr.mono (by decide)) (a_cons (e_var (i := 0) rfl) (a_cons (e_lst (a_cons e_non (a_cons (e_tup (a_cons e_int (a_cons e_int (a_cons (e_neg e_int) a_nil)))) (a_cons (e_tup (a_cons e_int (a_cons e_int (a_cons (e_neg e_int) a_nil)))) (a_cons e_non (a_cons (e_tup (a_cons e_int (a_cons e_int a_nil))) a_nil)))))) a_nil)) ((tam_lst (b := 10) (n := 1) (l := 5) (fun d hd => ?_) (by simp)).tame (by decide) (by decide))) ?_)
  · simp only [List.mem_cons, List.not_mem_nil, or_false] at hd
    rcases hd with rfl | rfl | rfl | rfl | rfl
    · exact tam_non.mono (by decide) (by decide)
    · exact tm_I (by decide) (by decide)
    · exact tm_I (by decide) (by decide)
    · exact tam_non.mono (by decide) (by decide)
    · exact tm_I (by decide) (by decide)
  refine r_cons (rs_set (i := 0) (d := .list [tI [3, 1], .int 0, tI [1, 0, -1], .int (-3)]) G (e_lst
    (a_cons (e_is (e_call CV (hr.mono (by decide)) (a_cons (e_tup (a_cons e_int (a_cons (e_neg e_int) (a_cons e_int a_nil)))) (a_cons (e_tup (a_cons e_int (a_cons e_int (a_cons e_int a_nil)))) a_nil)) ⟨[2, -1, 3], [1, 2, 4], 4, rfl, rfl, by decide, small (by decide), small (by decide), by decide, rfl⟩) (by rw [fv1]))
    (a_cons (e_is (e_callK (ks := ["row", "point"]) false (by decide) KS (hr.mono (by decide)) (k_cons (e_tup (a_cons e_int (a_cons (e_neg e_int) a_nil))) (k_cons (e_tup (a_cons e_int (a_cons e_int a_nil))) k_nil)) ⟨[1, -1], [1, 1], rfl, small (by decide), small (by decide), by decide, rfl⟩ (fun kV doc pm an cdv ct ws hl => by
        match ws, hl with
        | [_, _], _ => rfl)) (congrArg PyData.int (show sgn (dot [1, -1] [1, 1]) = 0 by decide +kernel)))
    (a_cons (e_is (e_call CG (hr.mono (by decide)) (a_cons (e_tup (a_cons (e_tup (a_cons e_int (a_cons e_int a_nil))) (a_cons (e_tup (a_cons e_int (a_cons (e_neg e_int) a_nil))) (a_cons (e_tup (a_cons e_int (a_cons (e_neg e_int) a_nil))) a_nil)))) (a_cons (e_tup (a_cons e_int (a_cons e_int a_nil))) a_nil)) ⟨[[1, 0], [1, -1], [1, -2]], [1, 1], rfl, fun row hrow => ?_, small (by decide), by decide, rfl⟩) (congrArg tI (show List.map (fun r => sgn (dot r [1, 1])) [[1, 0], [1, -1], [1, -2]] = [1, 0, -1] by decide +kernel)))
    (a_cons (e_is (e_call CO (hr.mono (by decide)) (a_cons (e_tup (a_cons e_int (a_cons e_int (a_cons e_int a_nil)))) (a_cons (e_tup (a_cons e_int (a_cons (e_neg e_int) a_nil))) a_nil)) ⟨[2, 5, 9], [1, -1], rfl, by decide, small (by decide), small (by decide), by decide, rfl⟩) (congrArg PyData.int (show dot [2, 5, 9].dropLast [1, -1] = -3 by decide +kernel))) a_nil))))) ?_)
  · simp only [List.mem_cons, List.not_mem_nil, or_false] at hrow
    rcases hrow with rfl | rfl | rfl
    · exact ⟨small (by decide), by decide⟩
    · exact ⟨small (by decide), by decide⟩
    · exact ⟨small (by decide), by decide⟩
  refine r_cons (r_skip (t_notlike CL hgd (hr.mono (by decide)) (a_cons (e_var (i := 0) rfl) (a_cons (e_lst (a_cons (e_tup (a_cons e_int (a_cons e_int a_nil))) (a_cons e_int (a_cons (e_tup (a_cons e_int (a_cons e_int (a_cons (e_neg e_int) a_nil)))) (a_cons (e_neg e_int) a_nil))))) a_nil)) ((tam_lst (b := 10) (n := 1) (l := 5) (fun d hd => ?_) (by simp)).tame (by decide) (by decide))) ?_)
  · simp only [List.mem_cons, List.not_mem_nil, or_false] at hd
    rcases hd with rfl | rfl | rfl | rfl
    · exact tm_I (by decide) (by decide)
    · exact (tam_int (by decide)).mono (by decide) (by decide)
    · exact tm_I (by decide) (by decide)
    · exact (tam_int (by decide)).mono (by decide) (by decide)
  refine r_cons (rs_set (i := 0) (d := .list [tI [], .none, tI [3, 2], .int (-2)]) G (e_lst
    (a_cons (e_callK (ks := ["planes", "point"]) false (by decide) KG (hr.mono (by decide)) (k_cons (e_tup a_nil) (k_cons (e_tup (a_cons e_int (a_cons e_int a_nil))) k_nil)) ⟨[], [0, 1], rfl, nofun, small (by decide), by decide, rfl⟩ (fun kV doc pm an cdv ct ws hl => by
        match ws, hl with
        | [_, _], _ => rfl))
    (a_cons (e_is (e_callK (ks := ["row"]) false (by decide) KP (hr.mono (by decide)) (k_cons (e_tup (a_cons e_int (a_cons e_int a_nil))) k_nil) ⟨[0, 2], rfl, by decide, by decide, small (by decide), rfl⟩ (fun kV doc pm an cdv ct ws hl => by
        match ws, hl with
        | [_], _ => rfl)) (planeD_none pv6))
    (a_cons (e_is (e_callK (ks := ["point", "row"]) true (by decide) KV (hr.mono (by decide)) (k_cons (e_tup (a_cons e_int (a_cons e_int a_nil))) (k_cons (e_tup (a_cons e_int (a_cons e_int a_nil))) k_nil)) ⟨[1, 1], [1, 2], 2, rfl, rfl, by decide, small (by decide), small (by decide), by decide, rfl⟩ (fun kV doc pm an cdv ct ws hl => by
        match ws, hl with
        | [_, _], _ => rfl)) (by rw [fv2]))
    (a_cons (e_is (e_callK (ks := ["direction", "row"]) true (by decide) KO (hr.mono (by decide)) (k_cons (e_tup (a_cons (e_neg e_int) a_nil)) (k_cons (e_tup (a_cons e_int (a_cons e_int a_nil))) k_nil)) ⟨[2, 7], [-1], rfl, by decide, small (by decide), small (by decide), by decide, rfl⟩ (fun kV doc pm an cdv ct ws hl => by
        match ws, hl with
        | [_, _], _ => rfl)) (congrArg PyData.int (show dot [2, 7].dropLast [-1] = -2 by decide +kernel))) a_nil))))) ?_)
  refine r_one (rs_ret (e_callG CL hgd (hr.mono (by decide)) (a_cons (e_var (i := 0) rfl) (a_cons (e_lst (a_cons (e_tup a_nil) (a_cons e_non (a_cons (e_tup (a_cons e_int (a_cons e_int a_nil))) (a_cons (e_neg e_int) a_nil))))) a_nil)) ⟨_, rfl, (tam_lst (b := 10) (n := 1) (l := 5) (fun d hd => ?_) (by simp)).tame (by decide) (by decide), rfl⟩) rfl)
  simp only [List.mem_cons, List.not_mem_nil, or_false] at hd
  rcases hd with rfl | rfl | rfl | rfl
  · exact tm_I (by decide) (by decide)
  · exact tam_non.mono (by decide) (by decide)
  · exact tm_I (by decide) (by decide)
  · exact (tam_int (by decide)).mono (by decide) (by decide)
end
end K3
namespace K3
open PySem PySem.Spec PyProof.Rows L2 Zj
def unh : Option DV → Option DV
  | some .hnd => none
  | x => x
theorem SD_unh {K : PySem.W.Frag} {a b : Addr} {T : Addr → Prop} {H : Hp} {σ : L2.St} {ρ : Rho} (h : SD K a T H σ ρ) : SD K b T H σ (ρ.map unh) := ⟨by rw [List.length_map]; exact h.len, h.dm, fun i x e => by
  rw [List.getElem?_map] at e
  cases hρ : ρ[i]? with
  | none => rw [hρ] at e; cases e
  | some o =>
    rw [hρ] at e
    have e : unh o = some x := by simpa using e
    cases o with
    | none => cases e
    | some z =>
      cases z with
      | hnd => cases e
      | dat d =>
        cases e
        exact h.sl i _ hρ⟩
section
variable {X : Cx} {x : Str} {p pos : Pos} {k : Nat} {sp : Sp}
theorem pe_call0G (C : CalG X.prog X.w X.K X.mg X.base k x [] sp) (hgd : X.A.guards = some []) (hr : Room k X.A) (hg : Gl X x := by rfl) (hdb : (x == ("__debug__" : Str)) = false := by decide)
    (hall : (backToKw pos (keywordEach [] X.env)).all (·.1.isSome) = true := by rfl) (hks : (backToKw pos (keywordEach [] X.env)).filterMap (·.1) = [] := by rfl)
    (hpl : ((backTo pos (starEach [] X.env)).any (·.1) || (backToKw pos (keywordEach [] X.env)).any (·.1.isNone)) = false := by rfl) :
    PE X (.Call (.Name x p) [] [] pos) (fun σ H Q => sp [] H Q E0) := by
  obtain ⟨f, fd, F, hm, hk, hb⟩ := C.ex
  refine ⟨fun pins s σ H Q I h => ?_⟩
  refine wpAny_Call_Name_kw (ld_glob I hg hm ?_ hdb)
  refine PySem.W.callWith_KW0 (h₀ := X.base) I.ok.mod.kin hk hall (thn (pk_nil.run pos pins s σ H (fun vs H1 => vs = [] ∧ H1 = H) I ⟨rfl, rfl⟩) fun us s1 hv => ?_) hpl
  obtain ⟨vs, H1, I1, r1, rfl, rfl⟩ := hv
  cases r1
  refine ⟨I1.kIn, ?_⟩
  rw [hks]
  have hbd := hb s1 [] I1.kIn rfl
  refine wpAny_call (codeAny_mono (F.run X.A X.stack s1 H1 ⟨[], []⟩ [] [] Q E0 hgd hr I1.env0 hbd .nil h) fun r s' hq => ?_)
  cases r with
  | error e => exact hq.elim
  | ok fl =>
    cases fl with
    | ret u => exact I1.after hq
    | next => exact hq.elim
    | brk => exact hq.elim
    | cont => exact hq.elim
theorem e_call0 {a : Addr} {ρ : Rho} {d : PyData} {R : List PyData → PyData → Prop} (C : CalG X.prog X.w X.K X.mg X.base k x [] (spR X.K R)) (hgd : X.A.guards = some []) (hr : Room k X.A) (hR : R [] d) (hg : Gl X x := by rfl) (hdb : (x == ("__debug__" : Str)) = false := by decide)
    (hall : (backToKw pos (keywordEach [] X.env)).all (·.1.isSome) = true := by rfl) (hks : (backToKw pos (keywordEach [] X.env)).filterMap (·.1) = [] := by rfl)
    (hpl : ((backTo pos (starEach [] X.env)).any (·.1) || (backToKw pos (keywordEach [] X.env)).any (·.1.isNone)) = false := by rfl) : EvE X a (.Call (.Name x p) [] [] pos) ρ d := fun T σ H S Q q =>
  toE (pe_call0G C hgd hr hg hdb hall hks hpl) ⟨T, [], d, S.dm, .nil, hR, fun v H2 s2 p2 => q v H2 s2 p2⟩
/-- m = _law_begun(..), and what follows -/
theorem r_begun {a : Addr} {ρ : Rho} {N : Rho → Prop} {R : PyData → Prop} {i : Nat} {y : Str} {pos' ps : Pos} {e : Expr} {es : List Expr} {xs : List Int} {kk : Nat} {sts : List Stmt} (G : Good X) (C : CalG X.prog X.w X.K X.mg X.base k x ["script", "k"] (spB X.K)) (hgd : X.A.guards = some []) (hr : Room k X.A)
    (ha : EvA X a (e :: es) ρ [lI xs, .int (kk : Int)]) (hk : kk ≤ 3) (hl : xs.length ≤ 63) (hb : BitsL 1100000 xs)
    (hrest : ∀ q, RunM X q sts ((ρ.map unh).set i (some .hnd)) 900000000000 (fun _ ρ' => N (ρ'.map unh)) (fun _ d => R d))
    (hi : X.N[i]? = some y := by rfl) (hx : Loc X.env.scope y := by first | exact Or.inl rfl | exact Or.inr rfl)
    (hs : swapsWith (.Call (.Name x p) (e :: es) [] pos) (some (.Name y pos')) ps.line X.env = pure false := by rfl) (hf : X.fn y = true ∨ X.env.scope.names.lookup y = some .local := by first | exact .inl rfl | exact .inr rfl)
    (hg : Gl X x := by rfl) (hdb : (x == ("__debug__" : Str)) = false := by decide) (he : starEach (e :: es) X.env = (false, eval e X.env) :: starEach es X.env := by rfl) (hpl : (backTo pos (starEach es X.env)).any (·.1) = false := by rfl) :
    Run X a (.Assign [.Name y pos'] (.Call (.Name x p) (e :: es) [] pos) ps :: sts) ρ N R := fun T σ H D S kn kr => by
  refine toSs (pss_cons js jss) (toS (ps_set G.nd hi hx (pe_callG C hgd hr ja hg hdb he hpl) hs hf) (ha T σ H S _ fun vs H1 s1 p1 => ⟨T, xs, kk, S.dm.same s1, p1, hk, hl, hb, fun q H2 hq s2 ms => ?_⟩))
  have S2 : SD X.K q T H2 (σ.set i (some (.ref q))) ((ρ.map unh).set i (some .hnd)) := (SD_unh ((S.same s1).same s2)).put (x := .hnd) rfl
  have key : ∀ {H'}, Kp q H2 H' → Same H H' := fun {H'} kp b o hh => by
    have h1 := s1 b o hh
    have hne : b ≠ q := fun z => by
      rw [z, hq] at h1
      cases h1
    exact kp.1 b o hne (s2 b o h1)
  exact hrest q T _ H2 D S2 ms (fun σ' H' ρ' m kp S' _ hN => kn σ' H' _ (key kp) (SD_unh S') hN) fun v H' d m kp _ pd hR => kr v H' d (key kp) pd hR
end
end K3
namespace K3
open PySem PySem.Spec PyProof.Rows L2 Zj
def onPl : PyData → PyData
  | .tuple ds => planeD (ds.map fun d => match d with | .int x => x | _ => 0)
  | _ => .none
theorem onPl_tI (xs : List Int) : onPl (tI xs) = planeD xs := by
  show planeD ((xs.map PyData.int).map _) = _
  rw [List.map_map]
  congr 1
  conv => rhs; rw [← List.map_id xs]
  rfl
def keepPl (d : PyData) : Bool := !isN (onPl d)
theorem kept_pl : ∀ ds : List PyData, (∀ d ∈ ds, ∃ row : List Int, d = tI row ∧ row.length ≤ 5 ∧ BitsL 100 row) → ∃ pls : List (List Int), kept keepPl onPl ds = pls.map tI ∧ pls.length ≤ ds.length ∧ ∀ pl ∈ pls, BitsL 100 pl ∧ pl.length ≤ 5
  | [], _ => ⟨[], rfl, Nat.le_refl _, nofun⟩
  | d :: ds, h => by
    obtain ⟨pls, e, hl, hp⟩ := kept_pl ds fun x hx => h x (List.mem_cons_of_mem _ hx)
    obtain ⟨row, rfl, h1, h2⟩ := h d List.mem_cons_self
    unfold kept at e ⊢
    cases hpl : planeL row with
    | none =>
      have hk : keepPl (tI row) = false := by
        unfold keepPl
        rw [onPl_tI, planeD_none hpl] <;> rfl
      refine ⟨pls, ?_, by rw [List.length_cons]; omega, hp⟩
      rw [List.filter_cons_of_neg (by rw [hk]; exact Bool.false_ne_true), e]
    | some pl =>
      have hk : keepPl (tI row) = true := by
        unfold keepPl
        rw [onPl_tI, planeD_some hpl] <;> rfl
      refine ⟨pl :: pls, ?_, by rw [List.length_cons, List.length_cons]; omega, fun z hz => ?_⟩
      · rw [List.filter_cons_of_pos hk, List.map_cons, e, onPl_tI, planeD_some hpl, List.map_cons]
      · rcases List.mem_cons.mp hz with rfl | hz
        · exact ⟨planeL_bits hpl h2, by rw [planeL_len hpl]; exact h1⟩
        · exact hp z hz
section
variable {P : Program} {w : World} {K : PySem.W.Frag} {mg : Str → Option Value} {base : Heap} {f : Addr} {fd : FuncData}
def R_law (ds : List PyData) (d : PyData) : Prop := ∃ xs, ds = [lI xs] ∧ xs.length ≤ 63 ∧ BitsL 1100000 xs ∧ d = .bool true
theorem ok_law (F : Fun K "law" "law" st_law f fd) (T : Tx mg) (CH : CalG P w K mg base 4 "_law_hand_right" [] (spR K R_hand)) (CB : CalG P w K mg base 1 "_law_begun" ["script", "k"] (spB K)) (C1 : CalG P w K mg base 1 "_law_draw" ["m", "bound"] (spM K 1 R_draw))
    (C2 : CalG P w K mg base 4 "_law_spot" ["m", "dimension"] (spM K 5 R_spot)) (CR : CalG P w K mg base 2 "_law_some_row" ["m", "dimension"] (spM K 6 R_somerow)) (CX : CalG P w K mg base 5 "_law_row_right" ["m", "dimension", "row_so"] (spM K 16 R_right)) (CY : CalG P w K mg base 5 "_law_slope_right" ["m", "dimension", "row_so"] (spM K 9 R_right))
    (CL : CalG P w K mg base 1 "_law_like" ["told", "due"] (spR K R_like)) (CQ : Cal P w K mg base 3 "_law_plane" ["row_so"] (spR K R_plane)) (CG : Cal P w K mg base 3 "signs_at" ["planes", "point"] (spR K R_signs)) (CS : Cal P w K mg base 2 "_law_signs" ["planes_so", "point_so"] (spR K R_signs)) : FnG P w K mg base CX0 6 f fd ["script"] (spR K R_law) := by
  refine fnRG F sc_law (fun ds d h => by obtain ⟨xs, rfl, _⟩ := h; rfl) fun cdv A outer s H E G hr hgd ds d h => ?_
  obtain ⟨xs, rfl, hl, hb, rfl⟩ := h
  refine r_cons (r_skip (t_is (t_not (t_val (e_call0 CH hgd (hr.mono (by decide)) ⟨rfl, rfl⟩))) rfl) ?_)
  obtain ⟨M, hM0, hM4, hM⟩ : ∃ M : Int, 0 ≤ M ∧ M ≤ 4 ∧ (if (if (4 : Int) < ((xs.map PyData.int).length : Int) then 4 else ((xs.map PyData.int).length : Int)) > 2 then (if (4 : Int) < ((xs.map PyData.int).length : Int) then 4 else ((xs.map PyData.int).length : Int)) else 2) = M := by
    refine ⟨_, ?_, ?_, rfl⟩
    · split
      · omega
      · omega
    · split
      · split <;> omega
      · omega
  refine r_cons (rs_for G (src_R (n := M) (a_cons (e_is (e_callB (ca_max G.calm) (a_cons e_int (a_cons (e_callB (ca_min G.calm) (a_cons (e_callB ca_lenL (a_cons (e_var (i := 0) rfl) a_nil) T.len (by decide +kernel)) (a_cons e_int a_nil)) T.min (by decide +kernel)) a_nil)) T.max (by decide +kernel)) (by rw [hM])) a_nil) (by omega) (by omega) T.range)
    (pg_name (i := 1) sc_law.nd rfl (Or.inl rfl)) (tg_name (vs := [1]) (by decide)) (fun _ ρ' => ∃ y1 y2 y3 y4 y5 y6 y7 y8, ρ' = [some (.dat (lI xs)), y1, none, y2, y3, y4, y5, y6, y7, y8]) ⟨_, _, _, _, _, _, _, _, rfl⟩ (fun i d ρ1 hd hJ => ?_) fun ρ' hJ => ?_)
  · obtain ⟨y1, y2, y3, y4, y5, y6, y7, y8, rfl⟩ := hJ
    have hi : i < M.toNat ∧ d = .int (i : Int) := by
      unfold Zj.upTo at hd
      rw [List.getElem?_map] at hd
      by_cases hlt : i < M.toNat
      · rw [List.getElem?_range hlt] at hd
        cases hd
        exact ⟨hlt, rfl⟩
      · rw [List.getElem?_eq_none (by simpa using hlt)] at hd
        cases hd
    obtain ⟨hi, rfl⟩ := hi
    refine ⟨_, rfl, r_begun (i := 2) (kk := i) (xs := xs) G CB hgd (hr.mono (by decide)) (a_cons (e_var (i := 0) rfl) (a_cons (e_var (i := 1) rfl) a_nil)) (by omega) hl hb fun q => ?_⟩
    refine q_one (qs_for G (src_R (n := 4) (a_cons e_int a_nil) (by decide) (by decide) T.range) (pg_name (i := 3) sc_law.nd rfl (Or.inl rfl)) (tg_name (vs := [3]) (by decide))
      (fun j m ρ' => 1000 ≤ m + 100 * j ∧ ∃ z1 z2 z3 z4 z5 z6 z7, ρ' = [some (.dat (lI xs)), some (.dat (.int (i : Int))), some .hnd, z1, z2, z3, z4, z5, z6, z7]) ⟨by decide, _, _, _, _, _, _, _, rfl⟩ (fun j d m ρ1 hd hJ => ?_) fun m ρ' hJ => ?_)
    · obtain ⟨hm, z1, z2, z3, z4, z5, z6, z7, rfl⟩ := hJ
      have hj : j < 4 := by
        have := (List.getElem?_eq_some_iff.mp hd).1
        rw [upto_len] at this
        omega
      obtain ⟨r, rfl⟩ : ∃ r, m = r + 68 := ⟨m - 68, by omega⟩
      refine ⟨_, rfl, ?_⟩
      refine q_cons (qs_set (i := 4) (m := r + 67) (P := fun d => ∃ D : Nat, d = .int (D : Int) ∧ 1 ≤ D ∧ D ≤ 4) G (m_bin (P1 := fun d => d = .int 1) (P2 := fun _ d => ∃ r : Int, d = .int r ∧ 0 ≤ r ∧ r < 4) (m := r + 68) (m_pure e_int rfl (Nat.le_refl _))
        (fun _ _ => m_call (i := 2) (ds := [.int 4]) C1 hgd (hr.mono (by decide)) rfl (a_cons e_int a_nil) ⟨4, rfl, by decide, bits_small (by decide) (by decide), fun r r0 r1 => ⟨r, rfl, r0, r1⟩⟩ (Nat.le_refl _)) (fun d1 d2 h1 h2 => by
          subst h1
          obtain ⟨v, rfl, r0, r1⟩ := h2
          exact ⟨_, od_add, (1 + v).toNat, congrArg PyData.int (by omega), by omega, by omega⟩)) fun d hd => ?_)
      obtain ⟨D, rfl, hD1, hD⟩ := hd
      refine q_cons (qs_lc0 (k := r + 55) (c := 6) (i := 5) (own := [("number", 8)]) (f := fName 8) (V := fun _ d => ∃ row : List Int, d = tI row ∧ row.length = D + 1 ∧ BitsL 100 row) (items := Zj.upTo (2 : Int).toNat) G (src_R (a_cons e_int a_nil) (by decide) (by decide) T.range)
        (by rw [upto_len]; omega) (by rw [upto_len]; decide) (blkOk_by (N := n_law) (sc := defScope st_law) (by decide +kernel)) (fun _ _ _ _ _ => pg_name (i := 8) sc_law.nd rfl (Or.inl rfl)) (tg_name (by decide)) (fun d hd => ⟨_, rfl, fun m s H C cl fp => ?_⟩) fun ds hds => ?_)
      · exact m_call (i := 2) (ds := [.int (D : Int)]) CR hgd (hr.mono (by decide)) rfl (a_cons (e_var (i := 4) rfl) a_nil) ⟨D, rfl, hD, fun row h1 h2 => ⟨row, rfl, h1, h2⟩⟩ (Nat.le_refl _)
      have hdl : ds.length = 2 := by
        have := hds.len
        rw [upto_len] at this
        omega
      have hall : ∀ d ∈ ds, ∃ row : List Int, d = tI row ∧ row.length = D + 1 ∧ BitsL 100 row := hds.all (W := fun d => ∃ row : List Int, d = tI row ∧ row.length = D + 1 ∧ BitsL 100 row) fun _ _ h => h
      refine q_cons (qs_if (PB := fun b => b = false) (m := r + 5) (mt_cmp (P1 := fun d => d = lI []) (P2 := fun _ d => d = lI []) (m := r + 5)
        (m_lc1 (c := 25) (ce := 0) (k := r + 5) (own := [("row_so", 9)]) (f := fName 9) (V := fun _ _ => True) (keep := fun _ => false) G (src_L (e_var (i := 5) rfl)) (by rw [hdl]; omega) (by rw [hdl]; decide) (blkOk_by (N := n_law) (sc := defScope st_law) (by decide +kernel))
          (fun _ _ _ _ _ => pg_name (i := 9) sc_law.nd rfl (Or.inl rfl)) (tg_name (by decide)) (fun d hd => ?_) (fun ds' h' => ?_)) (fun _ _ => m_pure (e_lst a_nil) rfl (Nat.le_refl _)) (fun d1 d2 h1 h2 => ?_) (nomark _)) (fun h => by cases h) fun _ => q_nil ?_)
      · obtain ⟨row, rfl, hrl, hrb⟩ := hall d hd
        refine ⟨_, rfl, fun m => ⟨fun s H C cl fp => ?_, nofun⟩⟩
        refine mt_or (m := m + 9) (mt_not (mt_val (m_call (i := 2) (ds := [.int (D : Int), tI row]) CX hgd (hr.mono (by decide)) rfl (a_cons (e_var (i := 4) rfl) (a_cons (e_var (i := 9) rfl) a_nil)) ⟨D, row, rfl, hD1, hD, hrl, hrb, true, rfl, rfl⟩ (Nat.le_refl _))))
          (mt_or1 (mt_not (mt_val (m_call (i := 2) (ds := [.int (D : Int), tI row]) CY hgd (hr.mono (by decide)) rfl (a_cons (e_var (i := 4) rfl) (a_cons (e_var (i := 9) rfl) a_nil)) ⟨D, row, rfl, hD1, hD, hrl, hrb, true, rfl, rfl⟩ (Nat.le_refl _)))))
      · rw [List.filter_eq_nil_iff.mpr (by simp)] at h'
        cases h'
        rfl
      · subst h1
        subst h2
        exact ⟨_, od_neD G.un (shaped_lI []) (shaped_lI []), rfl⟩
      obtain ⟨pls, hpl, hpll, hplb⟩ := kept_pl ds fun d hd => by
        obtain ⟨row, rfl, h1, h2⟩ := hall d hd
        exact ⟨row, rfl, by omega, h2⟩
      refine q_cons (qs_par (i := 6) (j := 7) (m := r) (PA := fun ds => ∃ d ds', ds = d :: ds' ∧ d = .tuple (pls.map tI) ∧ ∃ d2 ds2, ds' = d2 :: ds2 ∧ (∃ pt, d2 = tI pt ∧ SpotL D pt) ∧ ds2 = []) G
        (ma_cons (m := r + 5) (m_pure (e_callT ca_tupL (a_cons (e_lc (own := [("row_so", 9)]) (f := fName 9) (keep := keepPl) (val := onPl) G (src_L (e_var (i := 5) rfl)) (by rw [hdl]; decide) (blkOk_by (N := n_law) (sc := defScope st_law) (by decide +kernel))
          (fun _ _ _ _ _ => pg_name (i := 9) sc_law.nd rfl (Or.inl rfl)) (tg_name (by decide)) (fun d hd => ?_)) a_nil) T.tuple (by decide +kernel)) (by rw [hpl]) (Nat.le_refl _))
        fun _ _ => ma_cons (m := r) (P := fun d2 => ∃ pt, d2 = tI pt ∧ SpotL D pt) (m_call (i := 2) (ds := [.int (D : Int)]) C2 hgd (hr.mono (by decide)) rfl (a_cons (e_var (i := 4) rfl) a_nil) ⟨D, rfl, hD, fun pt h => ⟨pt, rfl, h⟩⟩ (Nat.le_refl _)) fun _ _ => ma_nil (Nat.le_refl _)) fun ds2 hds2 => ?_)
      · obtain ⟨row, rfl, hrl, hrb⟩ := hall d hd
        exact ⟨_, rfl, fun s H C cl fp => t_cmp od_notN (e_is (e_call CQ (hr.mono (by decide)) (a_cons (e_var (i := 9) rfl) a_nil) ⟨row, rfl, by omega, by omega, hrb.mono (by decide), rfl⟩) (onPl_tI row).symm) e_non (nomark _),
          fun _ s H C cl fp => e_is (e_call CQ (hr.mono (by decide)) (a_cons (e_var (i := 9) rfl) a_nil) ⟨row, rfl, by omega, by omega, hrb.mono (by decide), rfl⟩) (onPl_tI row).symm⟩
      obtain ⟨_, _, rfl, rfl, _, _, rfl, ⟨pt, rfl, l, hlast, hl0, hlen, hpb⟩, rfl⟩ := hds2
      refine ⟨_, _, rfl, ?_⟩
      have hrows : ∀ row ∈ pls, BitsL 8000 row ∧ row.length ≤ 1000 := fun row hrow => ⟨(hplb row hrow).1.mono (by decide), by have := (hplb row hrow).2; omega⟩
      refine q_one (q_skip (t_notlike CL hgd (hr.mono (by decide)) (a_cons (e_call CG (hr.mono (by decide)) (a_cons (e_var (i := 6) rfl) (a_cons (e_var (i := 7) rfl) a_nil)) ⟨pls, pt, rfl, hrows, hpb.mono (by decide), by omega, rfl⟩)
        (a_cons (e_call CS (hr.mono (by decide)) (a_cons (e_var (i := 6) rfl) (a_cons (e_var (i := 7) rfl) a_nil)) ⟨pls, pt, rfl, hrows, hpb.mono (by decide), by omega, rfl⟩) a_nil)) ((tam_tI (l := 2) (fun x hx => ?_) (by rw [List.length_map]; omega)).tame (by decide) (by decide))) ⟨by omega, _, _, _, _, _, _, _, rfl⟩)
      obtain ⟨row, _, rfl⟩ := List.mem_map.mp hx
      refine Bits.mono (m := 1) ?_ (by decide)
      unfold sgn Bits
      split
      · decide
      · split <;> decide
    · obtain ⟨_, z1, z2, z3, z4, z5, z6, z7, rfl⟩ := hJ
      exact ⟨_, _, _, _, _, _, _, _, rfl⟩
  · obtain ⟨y1, y2, y3, y4, y5, y6, y7, y8, rfl⟩ := hJ
    exact r_one (rs_ret e_bl rfl)
end
end K3
namespace K3
open PySem PySem.Spec PyProof.Rows L2 Zj
/-- a def of the top, where the name finds it -/
structure Df (K : PySem.W.Frag) (x : Str) (st : Stmt) : Prop where
  ex : ∃ f fd, PySem.W.nsIn K mainGlobals x = some (some (.ref f)) ∧ Fun K x x st f fd
theorem df_mk {K : PySem.W.Frag} {x : Str} {st : Stmt} {f : Addr} {oc : Value} {od an : Option Addr} {osl : Array (Option Value)} {kV doc pm cdv ct : Value} (a : PySem.W.nsIn K mainGlobals x = some (some (.ref f)))
    (l : K.lookup f = some ⟨oc, od, .func (PySem.W.fnOf x x (defArgs st) (defBody st) (defScope st) .none kV doc pm an cdv ct), osl⟩)
    (c : PySem.W.codeIn K cdv x = true) (k : PySem.W.keepIn K (.ref f) = true) : Df K x st := ⟨_, _, a, fun_mk l c k⟩
def Tk (st : Stmt) (x : Str) (ps : List Str) : Prop := ∀ (kV doc pm : Value) (an : Option Addr) (cdv ct : Value) (us : List Value), us.length = ps.length → bindArgs (PySem.W.fnOf x x (defArgs st) (defBody st) (defScope st) .none kV doc pm an cdv ct) ⟨us, []⟩ = pure (ps.zip us)
section
variable {P : Program} {w : World} {K : PySem.W.Frag} {h base : Heap} {mg : Str → Option Value} {x : Str} {st : Stmt} {ps : List Str} {k : Nat} {sp : Sp}
theorem cal_mk (X : K.In h) (G : h.Ns mainGlobals mg) (d : Df K x st) (b : Tk st x ps) (ok : ∀ f fd, Fun K x x st f fd → FnOk P w K mg base CX0 k f fd ps sp) : Cal P w K mg base k x ps sp := by
  obtain ⟨f, fd, a, F⟩ := d.ex
  exact ⟨f, fd, ok f fd F, PySem.W.mg_of X G a, F.kp, F.binds b⟩
theorem calG_mk (X : K.In h) (G : h.Ns mainGlobals mg) (d : Df K x st) (b : Tk st x ps) (ok : ∀ f fd, Fun K x x st f fd → FnG P w K mg base CX0 k f fd ps sp) : CalG P w K mg base k x ps sp := by
  obtain ⟨f, fd, a, F⟩ := d.ex
  exact ⟨f, fd, ok f fd F, PySem.W.mg_of X G a, F.kp, F.binds b⟩
theorem calK_mk (X : K.In h) (G : h.Ns mainGlobals mg) (d : Df K x st) (ok : ∀ f fd, Fun K x x st f fd → FnOk P w K mg base CX0 k f fd ps sp) : CalK P w K mg base k x st ps sp := by
  obtain ⟨f, fd, a, F⟩ := d.ex
  exact ⟨f, fd, F, ok f fd F, PySem.W.mg_of X G a⟩
end
theorem tk0 {st : Stmt} {x : Str} (e : ∀ (kV doc pm : Value) (an : Option Addr) (cdv ct : Value), bindArgs (PySem.W.fnOf x x (defArgs st) (defBody st) (defScope st) .none kV doc pm an cdv ct) ⟨[], []⟩ = pure []) : Tk st x [] := fun kV doc pm an cdv ct us hl => by
  match us, hl with
  | [], _ => exact e kV doc pm an cdv ct
theorem tk1 {st : Stmt} {x a : Str} (e : ∀ (kV doc pm : Value) (an : Option Addr) (cdv ct u : Value), bindArgs (PySem.W.fnOf x x (defArgs st) (defBody st) (defScope st) .none kV doc pm an cdv ct) ⟨[u], []⟩ = pure [(a, u)]) : Tk st x [a] := fun kV doc pm an cdv ct us hl => by
  match us, hl with
  | [u], _ => exact e kV doc pm an cdv ct u
theorem tk2 {st : Stmt} {x a b : Str} (e : ∀ (kV doc pm : Value) (an : Option Addr) (cdv ct u v : Value), bindArgs (PySem.W.fnOf x x (defArgs st) (defBody st) (defScope st) .none kV doc pm an cdv ct) ⟨[u, v], []⟩ = pure [(a, u), (b, v)]) : Tk st x [a, b] := fun kV doc pm an cdv ct us hl => by
  match us, hl with
  | [u, v], _ => exact e kV doc pm an cdv ct u v
theorem tk3 {st : Stmt} {x a b c : Str} (e : ∀ (kV doc pm : Value) (an : Option Addr) (cdv ct u v z : Value), bindArgs (PySem.W.fnOf x x (defArgs st) (defBody st) (defScope st) .none kV doc pm an cdv ct) ⟨[u, v, z], []⟩ = pure [(a, u), (b, v), (c, z)]) : Tk st x [a, b, c] := fun kV doc pm an cdv ct us hl => by
  match us, hl with
  | [u, v, z], _ => exact e kV doc pm an cdv ct u v z
/-- what the top leaves -/
structure Tops (K : PySem.W.Frag) : Prop where
  whole : Df K "is_whole" st_is_whole
  wrong : Df K "wrong_place" st_wrong_place
  cd : Df K "common_divisor" st_common_divisor
  short : Df K "shortened" st_shortened
  sign : Df K "sign_of" st_sign_of
  low : Df K "lowest" st_lowest
  crow : Df K "check_row" st_check_row
  cplane : Df K "check_plane" st_check_plane
  first : Df K "first_place" st_first_place
  plane : Df K "plane_of" st_plane_of
  weigh : Df K "weighed" st_weighed
  value : Df K "value_at" st_value_at
  signat : Df K "sign_at" st_sign_at
  signs : Df K "signs_at" st_signs_at
  slope : Df K "slope" st_slope
  prodf : Df K "product_of" st_product_of
  moved : Df K "moved_by" st_moved_by
  lbegun : Df K "_law_begun" st__law_begun
  ldraw : Df K "_law_draw" st__law_draw
  llike : Df K "_law_like" st__law_like
  lsign : Df K "_law_sign" st__law_sign
  lcommon : Df K "_law_common" st__law_common
  llow : Df K "_law_lowered" st__law_lowered
  lfrac : Df K "_law_fraction" st__law_fraction
  lpoint : Df K "_law_point" st__law_point
  ltotal : Df K "_law_total" st__law_total
  lsigns : Df K "_law_signs" st__law_signs
  lplane : Df K "_law_plane" st__law_plane
  lsome : Df K "_law_some_row" st__law_some_row
  lspot : Df K "_law_spot" st__law_spot
  lrow : Df K "_law_row_right" st__law_row_right
  lslope : Df K "_law_slope_right" st__law_slope_right
  lhand : Df K "_law_hand_right" st__law_hand_right
  law : Df K "law" st_law
  zisi : PySem.W.nsIn K mainGlobals "isinstance" = some none
  zint : PySem.W.nsIn K mainGlobals "int" = some none
  zbool : PySem.W.nsIn K mainGlobals "bool" = some none
  ztuple : PySem.W.nsIn K mainGlobals "tuple" = some none
  zlen : PySem.W.nsIn K mainGlobals "len" = some none
  zenum : PySem.W.nsIn K mainGlobals "enumerate" = some none
  zsum : PySem.W.nsIn K mainGlobals "sum" = some none
  zzip : PySem.W.nsIn K mainGlobals "zip" = some none
  zrange : PySem.W.nsIn K mainGlobals "range" = some none
  zabs : PySem.W.nsIn K mainGlobals "abs" = some none
  zrepr : PySem.W.nsIn K mainGlobals "repr" = some none
  zmax : PySem.W.nsIn K mainGlobals "max" = some none
  zmin : PySem.W.nsIn K mainGlobals "min" = some none
  zgcd : PySem.W.nsIn K mainGlobals "gcd" = some (some (.builtin "math.gcd"))
theorem all_ok {P : Program} {w : World} {K : PySem.W.Frag} {h base : Heap} {mg : Str → Option Value} {f : Addr} {fd : FuncData} (X : K.In h) (G : h.Ns mainGlobals mg) (t : Tops K) (F : Fun K "law" "law" st_law f fd) : FnG P w K mg base CX0 6 f fd ["script"] (spR K R_law) := by
  have T : Tx mg := ⟨PySem.W.mg_none_of X G t.zisi, PySem.W.mg_none_of X G t.zint, PySem.W.mg_none_of X G t.zbool, PySem.W.mg_none_of X G t.ztuple, PySem.W.mg_none_of X G t.zlen, PySem.W.mg_none_of X G t.zenum, PySem.W.mg_none_of X G t.zsum, PySem.W.mg_none_of X G t.zzip,
    PySem.W.mg_none_of X G t.zrange, PySem.W.mg_none_of X G t.zabs, PySem.W.mg_none_of X G t.zrepr, PySem.W.mg_none_of X G t.zmax, PySem.W.mg_none_of X G t.zmin, PySem.W.mg_of X G t.zgcd⟩
  have c_whole : Cal P w K mg base 1 "is_whole" ["value"] (spR K R_whole) := cal_mk X G t.whole (tk1 fun _ _ _ _ _ _ _ => rfl) fun f fd F => ok_whole F T
  have c_wrong : Cal P w K mg base 2 "wrong_place" ["value", "many"] (spR K R_wrong) := cal_mk X G t.wrong (tk2 fun _ _ _ _ _ _ _ _ => rfl) fun f fd F => ok_wrong F T c_whole
  have c_cd : Cal P w K mg base 1 "common_divisor" ["numbers"] (spR K R_cd) := cal_mk X G t.cd (tk1 fun _ _ _ _ _ _ _ => rfl) fun f fd F => ok_cd F T
  have c_short : Cal P w K mg base 2 "shortened" ["numbers"] (spR K R_short) := cal_mk X G t.short (tk1 fun _ _ _ _ _ _ _ => rfl) fun f fd F => ok_short F T c_cd
  have c_sign : Cal P w K mg base 1 "sign_of" ["number"] (spR K R_sign) := cal_mk X G t.sign (tk1 fun _ _ _ _ _ _ _ => rfl) fun f fd F => ok_sign F
  have c_low : Cal P w K mg base 1 "lowest" ["top", "bottom"] (spR K R_lowest) := cal_mk X G t.low (tk2 fun _ _ _ _ _ _ _ _ => rfl) fun f fd F => ok_lowest F T
  have c_crow : Cal P w K mg base 3 "check_row" ["dimension", "value"] (spR K R_crow) := cal_mk X G t.crow (tk2 fun _ _ _ _ _ _ _ _ => rfl) fun f fd F => ok_crow F c_wrong
  have c_first : Cal P w K mg base 1 "first_place" ["numbers"] (spR K R_first) := cal_mk X G t.first (tk1 fun _ _ _ _ _ _ _ => rfl) fun f fd F => ok_first F T
  have c_plane : Cal P w K mg base 3 "plane_of" ["row"] (spR K R_plane) := cal_mk X G t.plane (tk1 fun _ _ _ _ _ _ _ => rfl) fun f fd F => ok_plane F T c_first c_short
  have c_cplane : Cal P w K mg base 4 "check_plane" ["dimension", "value"] (spR K R_cplane) := cal_mk X G t.cplane (tk2 fun _ _ _ _ _ _ _ _ => rfl) fun f fd F => ok_cplane F c_crow c_plane
  have c_weigh : Cal P w K mg base 1 "weighed" ["row", "point"] (spR K R_weighed) := cal_mk X G t.weigh (tk2 fun _ _ _ _ _ _ _ _ => rfl) fun f fd F => ok_weighed F T
  have c_value : Cal P w K mg base 2 "value_at" ["row", "point"] (spR K R_value) := cal_mk X G t.value (tk2 fun _ _ _ _ _ _ _ _ => rfl) fun f fd F => ok_value F c_low c_weigh
  have c_signat : Cal P w K mg base 2 "sign_at" ["row", "point"] (spR K R_signat) := cal_mk X G t.signat (tk2 fun _ _ _ _ _ _ _ _ => rfl) fun f fd F => ok_signat F c_sign c_weigh
  have c_signs : Cal P w K mg base 3 "signs_at" ["planes", "point"] (spR K R_signs) := cal_mk X G t.signs (tk2 fun _ _ _ _ _ _ _ _ => rfl) fun f fd F => ok_signs F T c_signat
  have c_prodf : Cal P w K mg base 1 "product_of" ["numbers", "others"] (spR K R_prod) := cal_mk X G t.prodf (tk2 fun _ _ _ _ _ _ _ _ => rfl) fun f fd F => ok_prod F T
  have c_slope : Cal P w K mg base 2 "slope" ["row", "direction"] (spR K R_slope) := cal_mk X G t.slope (tk2 fun _ _ _ _ _ _ _ _ => rfl) fun f fd F => ok_slope F c_prodf
  have c_moved : Cal P w K mg base 3 "moved_by" ["point", "direction", "amount"] (spR K R_moved) := cal_mk X G t.moved (tk3 fun _ _ _ _ _ _ _ _ _ => rfl) fun f fd F => ok_moved F T c_short
  have k_plane : CalK P w K mg base 3 "plane_of" st_plane_of ["row"] (spR K R_plane) := calK_mk X G t.plane fun f fd F => ok_plane F T c_first c_short
  have k_value : CalK P w K mg base 2 "value_at" st_value_at ["row", "point"] (spR K R_value) := calK_mk X G t.value fun f fd F => ok_value F c_low c_weigh
  have k_signat : CalK P w K mg base 2 "sign_at" st_sign_at ["row", "point"] (spR K R_signat) := calK_mk X G t.signat fun f fd F => ok_signat F c_sign c_weigh
  have k_signs : CalK P w K mg base 3 "signs_at" st_signs_at ["planes", "point"] (spR K R_signs) := calK_mk X G t.signs fun f fd F => ok_signs F T c_signat
  have k_slope : CalK P w K mg base 2 "slope" st_slope ["row", "direction"] (spR K R_slope) := calK_mk X G t.slope fun f fd F => ok_slope F c_prodf
  have l_begun : CalG P w K mg base 1 "_law_begun" ["script", "k"] (spB K) := calG_mk X G t.lbegun (tk2 fun _ _ _ _ _ _ _ _ => rfl) fun f fd F => ok_begun F T
  have l_draw : CalG P w K mg base 1 "_law_draw" ["m", "bound"] (spM K 1 R_draw) := calG_mk X G t.ldraw (tk2 fun _ _ _ _ _ _ _ _ => rfl) fun f fd F => ok_draw F T
  have l_like : CalG P w K mg base 1 "_law_like" ["told", "due"] (spR K R_like) := calG_mk X G t.llike (tk2 fun _ _ _ _ _ _ _ _ => rfl) fun f fd F => ok_like F T
  have l_sign : Cal P w K mg base 1 "_law_sign" ["number"] (spR K R_sign) := cal_mk X G t.lsign (tk1 fun _ _ _ _ _ _ _ => rfl) fun f fd F => ok_lsign F T
  have l_common : Cal P w K mg base 1 "_law_common" ["numbers"] (spR K R_cd) := cal_mk X G t.lcommon (tk1 fun _ _ _ _ _ _ _ => rfl) fun f fd F => ok_common F T
  have l_low : Cal P w K mg base 2 "_law_lowered" ["numbers"] (spR K R_short) := cal_mk X G t.llow (tk1 fun _ _ _ _ _ _ _ => rfl) fun f fd F => ok_lowered F T l_common
  have l_frac : Cal P w K mg base 3 "_law_fraction" ["top", "bottom"] (spR K R_fraction) := cal_mk X G t.lfrac (tk2 fun _ _ _ _ _ _ _ _ => rfl) fun f fd F => ok_fraction F l_low
  have l_point : Cal P w K mg base 3 "_law_point" ["numbers", "bottom"] (spR K R_point) := cal_mk X G t.lpoint (tk2 fun _ _ _ _ _ _ _ _ => rfl) fun f fd F => ok_point F l_low
  have l_total : Cal P w K mg base 1 "_law_total" ["row_so", "point_so"] (spR K R_weighed) := cal_mk X G t.ltotal (tk2 fun _ _ _ _ _ _ _ _ => rfl) fun f fd F => ok_total F T
  have l_signs : Cal P w K mg base 2 "_law_signs" ["planes_so", "point_so"] (spR K R_signs) := cal_mk X G t.lsigns (tk2 fun _ _ _ _ _ _ _ _ => rfl) fun f fd F => ok_lsigns F T l_sign l_total
  have l_plane : Cal P w K mg base 3 "_law_plane" ["row_so"] (spR K R_plane) := cal_mk X G t.lplane (tk1 fun _ _ _ _ _ _ _ => rfl) fun f fd F => ok_lplane F T l_low
  have l_some : CalG P w K mg base 2 "_law_some_row" ["m", "dimension"] (spM K 6 R_somerow) := calG_mk X G t.lsome (tk2 fun _ _ _ _ _ _ _ _ => rfl) fun f fd F => ok_somerow F T l_draw
  have l_spot : CalG P w K mg base 4 "_law_spot" ["m", "dimension"] (spM K 5 R_spot) := calG_mk X G t.lspot (tk2 fun _ _ _ _ _ _ _ _ => rfl) fun f fd F => ok_spot F T l_draw l_point
  have l_row : CalG P w K mg base 5 "_law_row_right" ["m", "dimension", "row_so"] (spM K 16 R_right) := calG_mk X G t.lrow (tk3 fun _ _ _ _ _ _ _ _ _ => rfl) fun f fd F => ok_rowright F T l_draw l_spot l_like c_plane l_plane c_crow c_cplane l_total c_value c_signat l_frac l_sign
  have l_slope : CalG P w K mg base 5 "_law_slope_right" ["m", "dimension", "row_so"] (spM K 9 R_right) := calG_mk X G t.lslope (tk3 fun _ _ _ _ _ _ _ _ _ => rfl) fun f fd F => ok_sloperight F T l_draw l_spot l_like l_low c_slope c_value c_moved
  have l_hand : CalG P w K mg base 4 "_law_hand_right" [] (spR K R_hand) := calG_mk X G t.lhand (tk0 fun _ _ _ _ _ _ => rfl) fun f fd F => ok_hand F T l_like c_plane c_value c_signat c_signs c_slope k_plane k_value k_signat k_signs k_slope
  exact ok_law F T l_hand l_begun l_draw l_spot l_some l_row l_slope l_like l_plane c_signs l_signs
theorem fin {P : Program} {w : World} {K : PySem.W.Frag} {h : Heap} {mg : Str → Option Value} {fa : Addr} (X : K.In h) (G : h.Ns mainGlobals mg) (hfa : mg "law" = some (.ref fa)) (t : Tops K) :
    ∃ fd : FuncData, (∀ (s : Shared) (v : Value), BindsTo s fd ⟨[v], []⟩ [("script", v)]) ∧ ∀ base : Heap, K.In base → base.Ns mainGlobals mg → FnG P w K mg base CX0 6 fa fd ["script"] (spR K R_law) := by
  obtain ⟨f, fd, a, F⟩ := t.law.ex
  have e := hfa.symm.trans (PySem.W.mg_of X G a)
  cases e
  refine ⟨fd, fun s v => ?_, fun base _ _ => all_ok X G t F⟩
  obtain ⟨oc, od, kV, doc, pm, an, cdv, ct, osl, rfl, _⟩ := F.ex
  exact .of_eq rfl
theorem hsp (K : PySem.W.Frag) (H : Hp) (a : Addr) (ns : List Int) (hl : ns.length ≤ 63) (hb : ∀ z ∈ ns, Builtin.Int.intBits z ≤ 1048576) (hS : SqL K H a (ns.map V.int)) : spR K R_law [.ref a] H (fun v _ => v = .bl true) fun _ _ _ => False := by
  refine ⟨fun _ => False, [lI ns], .bool true, .nothing, ?_, ⟨ns, rfl, hl, fun z hz => ?_, rfl⟩, fun v H' _ p => dp_bool p⟩
  · rw [off_nothing]
    exact .cons (.lst hS (dps_ints ns)) .nil
  · exact Nat.lt_of_lt_of_le (natAbs_lt_pow_bits z) (Nat.pow_le_pow_right (by decide) (Nat.le_trans (hb z hz) (by decide)))
end K3
open PySem PySem.W PyProof.Rows
set_option maxRecDepth 100000 in
set_option maxHeartbeats 0 in
theorem PySem.Challenge.cw_onesolid_k03_rows_and_planes_holds : PySem.Challenge.rw_onesolid_k03_rows_and_planes.Holds := by
  w_on; o_law; k_head; (case hw => w_witness2)
  k_fill
  refine Zj.walk_G (l := PySem.Challenge.rw_onesolid_k03_rows_and_planes) (n := 63) (k := 6) (x := "script") (sp := fun K => Zj.spR K K3.R_law) rfl (by decide) rfl ⟨rfl, by decide, by decide⟩ (fun w h Y => PySem.W.kIn_of Y) ?F ?S
  case S => exact fun K H a ns hl hb _ hS => K3.hsp K H a ns hl hb hS
  case F =>
    intro w mg fa h KX G hmg
    refine K3.fin KX G hmg ?t
    case t =>
      refine' K3.Tops.mk ?d1 ?d2 ?d3 ?d4 ?d5 ?d6 ?d7 ?d8 ?d9 ?d10 ?d11 ?d12 ?d13 ?d14 ?d15 ?d34 ?d16 ?d17 ?d18 ?d19 ?d20 ?d21 ?d22 ?d23 ?d24 ?d25 ?d26 ?d27 ?d28 ?d29 ?d30 ?d31 ?d32 ?d33 ?z1 ?z2 ?z3 ?z4 ?z5 ?z6 ?z7 ?z8 ?z9 ?z10 ?z11 ?z12 ?z13 ?z14
      (case d1 => (refine' K3.df_mk ?a ?l ?c ?k; (case a => k_is); (case l => k_is); (case c => k_is); (case k => k_is)))
      (case d2 => (refine' K3.df_mk ?a ?l ?c ?k; (case a => k_is); (case l => k_is); (case c => k_is); (case k => k_is)))
      (case d3 => (refine' K3.df_mk ?a ?l ?c ?k; (case a => k_is); (case l => k_is); (case c => k_is); (case k => k_is)))
      (case d4 => (refine' K3.df_mk ?a ?l ?c ?k; (case a => k_is); (case l => k_is); (case c => k_is); (case k => k_is)))
      (case d5 => (refine' K3.df_mk ?a ?l ?c ?k; (case a => k_is); (case l => k_is); (case c => k_is); (case k => k_is)))
      (case d6 => (refine' K3.df_mk ?a ?l ?c ?k; (case a => k_is); (case l => k_is); (case c => k_is); (case k => k_is)))
      (case d7 => (refine' K3.df_mk ?a ?l ?c ?k; (case a => k_is); (case l => k_is); (case c => k_is); (case k => k_is)))
      (case d8 => (refine' K3.df_mk ?a ?l ?c ?k; (case a => k_is); (case l => k_is); (case c => k_is); (case k => k_is)))
      (case d9 => (refine' K3.df_mk ?a ?l ?c ?k; (case a => k_is); (case l => k_is); (case c => k_is); (case k => k_is)))
      (case d10 => (refine' K3.df_mk ?a ?l ?c ?k; (case a => k_is); (case l => k_is); (case c => k_is); (case k => k_is)))
      (case d11 => (refine' K3.df_mk ?a ?l ?c ?k; (case a => k_is); (case l => k_is); (case c => k_is); (case k => k_is)))
      (case d12 => (refine' K3.df_mk ?a ?l ?c ?k; (case a => k_is); (case l => k_is); (case c => k_is); (case k => k_is)))
      (case d13 => (refine' K3.df_mk ?a ?l ?c ?k; (case a => k_is); (case l => k_is); (case c => k_is); (case k => k_is)))
      (case d14 => (refine' K3.df_mk ?a ?l ?c ?k; (case a => k_is); (case l => k_is); (case c => k_is); (case k => k_is)))
      (case d15 => (refine' K3.df_mk ?a ?l ?c ?k; (case a => k_is); (case l => k_is); (case c => k_is); (case k => k_is)))
      (case d16 => (refine' K3.df_mk ?a ?l ?c ?k; (case a => k_is); (case l => k_is); (case c => k_is); (case k => k_is)))
      (case d17 => (refine' K3.df_mk ?a ?l ?c ?k; (case a => k_is); (case l => k_is); (case c => k_is); (case k => k_is)))
      (case d18 => (refine' K3.df_mk ?a ?l ?c ?k; (case a => k_is); (case l => k_is); (case c => k_is); (case k => k_is)))
      (case d19 => (refine' K3.df_mk ?a ?l ?c ?k; (case a => k_is); (case l => k_is); (case c => k_is); (case k => k_is)))
      (case d20 => (refine' K3.df_mk ?a ?l ?c ?k; (case a => k_is); (case l => k_is); (case c => k_is); (case k => k_is)))
      (case d21 => (refine' K3.df_mk ?a ?l ?c ?k; (case a => k_is); (case l => k_is); (case c => k_is); (case k => k_is)))
      (case d22 => (refine' K3.df_mk ?a ?l ?c ?k; (case a => k_is); (case l => k_is); (case c => k_is); (case k => k_is)))
      (case d23 => (refine' K3.df_mk ?a ?l ?c ?k; (case a => k_is); (case l => k_is); (case c => k_is); (case k => k_is)))
      (case d24 => (refine' K3.df_mk ?a ?l ?c ?k; (case a => k_is); (case l => k_is); (case c => k_is); (case k => k_is)))
      (case d25 => (refine' K3.df_mk ?a ?l ?c ?k; (case a => k_is); (case l => k_is); (case c => k_is); (case k => k_is)))
      (case d26 => (refine' K3.df_mk ?a ?l ?c ?k; (case a => k_is); (case l => k_is); (case c => k_is); (case k => k_is)))
      (case d27 => (refine' K3.df_mk ?a ?l ?c ?k; (case a => k_is); (case l => k_is); (case c => k_is); (case k => k_is)))
      (case d28 => (refine' K3.df_mk ?a ?l ?c ?k; (case a => k_is); (case l => k_is); (case c => k_is); (case k => k_is)))
      (case d29 => (refine' K3.df_mk ?a ?l ?c ?k; (case a => k_is); (case l => k_is); (case c => k_is); (case k => k_is)))
      (case d30 => (refine' K3.df_mk ?a ?l ?c ?k; (case a => k_is); (case l => k_is); (case c => k_is); (case k => k_is)))
      (case d31 => (refine' K3.df_mk ?a ?l ?c ?k; (case a => k_is); (case l => k_is); (case c => k_is); (case k => k_is)))
      (case d32 => (refine' K3.df_mk ?a ?l ?c ?k; (case a => k_is); (case l => k_is); (case c => k_is); (case k => k_is)))
      (case d33 => (refine' K3.df_mk ?a ?l ?c ?k; (case a => k_is); (case l => k_is); (case c => k_is); (case k => k_is)))
      (case d34 => (refine' K3.df_mk ?a ?l ?c ?k; (case a => k_is); (case l => k_is); (case c => k_is); (case k => k_is)))
      (case z1 => k_is)
      (case z2 => k_is)
      (case z3 => k_is)
      (case z4 => k_is)
      (case z5 => k_is)
      (case z6 => k_is)
      (case z7 => k_is)
      (case z8 => k_is)
      (case z9 => k_is)
      (case z10 => k_is)
      (case z11 => k_is)
      (case z12 => k_is)
      (case z13 => k_is)
      (case z14 => k_is)
