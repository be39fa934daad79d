import PyProof.Rows.All
import Wide.All
import OpenK.AllK
import Wide.FinOn
import PyProof.EqAt
import PyProof.EqKinds
import PyProof.TupleCall
import HandS.Base
import HandS.Call
import HandS.List
import HandS.Comp
import HandS.Ends
import HandS.Lambda
import HandS.Words
import HandS.Dict
import HandS.Iter
import HandS.Walk
import HandS.Gcd
import HandS.EndBits
import HandS.Zip
import HandS.Wide
import PyProof.ReprRoads
import PyProof.ReprLen
import KE.GoesMore
import HandS.IsInst
import KE.KDflt
import HandS.TryMany
import HandS.ExcInit
import HandS.ExcField
import HandS.EndTab
import HandS.ExcOwn
import HandS.WordsExc
import PyProof.Rows.IntBool
import HandS.TupAny
import HandS.ExcIs
import KE.KNestM
import KE.KMathGC
import HandS.TupMul
import PyProof.ExcBaseAll.ValueError
import KE.KExcIs
import HandS.ExcValue
import PySem.Challenge.RW_onesolid_k00_fractions_and_errors
set_option Elab.async false
set_option linter.all false
set_option maxRecDepth 100000
set_option maxHeartbeats 4000000
/-! Own words over the hand layer: what a piece of program text comes to, said of data. -/
namespace Zj
open PySem PySem.Spec PyProof.Rows L2
/-- the tables of code objects that the law's lambdas fill; the name that each one's code objects bear -/
class Nm where
  nm : Addr → Str
  tabs : List Addr
section
variable {X : Cx} {e : Expr} {es : List Expr} {st : Stmt} {sts : List Stmt} {σ : L2.St} {H : Hp}
/-- the weakest thing that must hold ahead -/
def JE (X : Cx) (e : Expr) : TE := fun σ H Q => ∀ pins s, Inv X pins σ H s → wpAny (model X.prog X.w) X.A (eval e X.env) (EP X pins σ Q) X.xe s
def JT (X : Cx) (e : Expr) : TT := fun σ H Q => ∀ pins s, Inv X pins σ H s → wpAny (model X.prog X.w) X.A (isTrue e X.env (eval e X.env)) (TP X pins σ Q) X.xe s
def JA (X : Cx) (es : List Expr) : TA := fun σ H Q => ∀ pos pins s, Inv X pins σ H s → wpAny (model X.prog X.w) X.A (spliced (backTo pos (starEach es X.env))) (AP X pins σ Q) X.xe s
def JS (X : Cx) (st : Stmt) : TS := fun D σ H => ∀ pins s, Inv X pins σ H s → wpAny (model X.prog X.w) X.A (exec st X.env) (SP X pins D) X.xe s
def JSs (X : Cx) (sts : List Stmt) : TS := fun D σ H => ∀ pins s, Inv X pins σ H s → wpAny (model X.prog X.w) X.A (execs sts X.env) (SP X pins D) X.xe s
theorem je : PE X e (JE X e) := ⟨fun pins s _ _ _ I h => h pins s I⟩
theorem jt : PT X e (JT X e) := ⟨fun pins s _ _ _ I h => h pins s I⟩
theorem ja : PA X es (JA X es) := ⟨fun pos pins s _ _ _ I h => h pos pins s I⟩
theorem js : PS X st (JS X st) := ⟨fun pins s _ _ _ I h => h pins s I⟩
theorem jss : PSs X sts (JSs X sts) := ⟨fun pins s _ _ _ I h => h pins s I⟩
theorem toE {t : TE} {Q : VK} (h : PE X e t) (q : t σ H Q) : JE X e σ H Q := fun pins s I => h.run pins s σ H Q I q
theorem toT {t : TT} {Q : Bool → Hp → Prop} (h : PT X e t) (q : t σ H Q) : JT X e σ H Q := fun pins s I => h.run pins s σ H Q I q
theorem toA {t : TA} {Q : List V → Hp → Prop} (h : PA X es t) (q : t σ H Q) : JA X es σ H Q := fun pos pins s I => h.run pos pins s σ H Q I q
theorem toS {t : TS} {D : Ends} (h : PS X st t) (q : t D σ H) : JS X st D σ H := fun pins s I => h.run pins s σ H D I q
theorem toSs {t : TS} {D : Ends} (h : PSs X sts t) (q : t D σ H) : JSs X sts D σ H := fun pins s I => h.run pins s σ H D I q
end

/-! ### arguments without a star -/
def notStar : Expr → Bool
  | .Starred .. => false
  | _ => true
theorem star_of {e : Expr} {es : List Expr} {env : Env} (h : notStar e = true) : starEach (e :: es) env = (false, eval e env) :: starEach es env := by
  cases e <;> first | rfl | cases h
theorem star_no {es : List Expr} {env : Env} {pos : Pos} (h : es.all notStar = true) : (backTo pos (starEach es env)).any (·.1) = false := by
  induction es with
  | nil => rfl
  | cons e es ih =>
    rw [List.all_cons, Bool.and_eq_true] at h
    rw [star_of h.1]
    show (false || (backTo pos (starEach es env)).any (·.1)) = false
    rw [ih h.2] <;> rfl
/-! ### data in the heap -/
section
variable [Nm] {K : PySem.W.Frag} {H H' : Hp}
/-- what is no table stays -/
def Sa (H H' : Hp) : Prop := ∀ b o, H b = some o → (∀ ps, o ≠ .tbl ps) → H' b = some o
/-- all stays, but that tables of code objects may grow -/
structure Sm (H H' : Hp) : Prop where
  ob : Sa H H'
  tb : ∀ P, LamX.TabS H P (Nm.nm P) → LamX.TabS H' P (Nm.nm P)
  dm : ∀ b, H b ≠ none → H' b ≠ none
theorem Sa.refl (H : Hp) : Sa H H := fun _ _ h _ => h
theorem Sa.trans {H1 : Hp} (x : Sa H H1) (y : Sa H1 H') : Sa H H' := fun b o h n => y b o (x b o h n) n
theorem Sm.of (s : ∀ b o, H b = some o → H' b = some o) : Sm H H' := ⟨fun b o h _ => s b o h, fun P t => t.ext s, fun b h => by
  cases q : H b with
  | none => exact fun _ => h q
  | some o => rw [s b o q]; exact fun z => by cases z⟩
theorem Sm.refl (H : Hp) : Sm H H := .of fun _ _ h => h
theorem Sm.trans {H1 : Hp} (x : Sm H H1) (y : Sm H1 H') : Sm H H' := ⟨x.ob.trans y.ob, fun P t => y.tb P (x.tb P t), fun b h => y.dm b (x.dm b h)⟩
mutual
theorem dp_map (f : ∀ b xs, SqL K H b xs → SqL K H' b xs) (g : ∀ b xs, SqT K H b xs → SqT K H' b xs) : ∀ (d : PyData) (v : V), Dp K H v d → Dp K H' v d
  | .none, _, h => by cases h; exact .non
  | .bool b, _, h => by cases h; exact .bl b
  | .int i, _, h => by cases h; exact .int i
  | .str x, _, h => by cases h; exact .str x
  | .list ds, _, h => by
    cases h with
    | lst h1 h2 => exact .lst (f _ _ h1) (dp_mapAll f g ds _ h2)
  | .tuple ds, _, h => by
    cases h with
    | tup h1 h2 => exact .tup (g _ _ h1) (dp_mapAll f g ds _ h2)
  | .dict _, _, h => by cases h
theorem dp_mapAll (f : ∀ b xs, SqL K H b xs → SqL K H' b xs) (g : ∀ b xs, SqT K H b xs → SqT K H' b xs) : ∀ (ds : List PyData) (vs : List V), DpAll K H vs ds → DpAll K H' vs ds
  | [], _, h => by cases h; exact .nil
  | d :: ds, _, h => by
    cases h with
    | cons h1 h2 => exact .cons (dp_map f g d _ h1) (dp_mapAll f g ds _ h2)
end
theorem same_l (s : Sa H H') (b : Addr) (xs : List V) (h : SqL K H b xs) : SqL K H' b xs := by
  rcases h with (h | ⟨o, h⟩) | h
  · exact .inl (.inl (s _ _ h (by intro ps z; cases z)))
  · exact .inl (.inr ⟨o, s _ _ h (by intro ps z; cases z)⟩)
  · exact .inr h
theorem same_t (s : Sa H H') (b : Addr) (xs : List V) (h : SqT K H b xs) : SqT K H' b xs := by
  rcases h with (h | ⟨o, h⟩) | h
  · exact .inl (.inl (s _ _ h (by intro ps z; cases z)))
  · exact .inl (.inr ⟨o, s _ _ h (by intro ps z; cases z)⟩)
  · exact .inr h
theorem dp_same {v : V} {d : PyData} (s : Sa H H') (h : Dp K H v d) : Dp K H' v d := dp_map (same_l s) (same_t s) d v h
theorem dps_same {vs : List V} {ds : List PyData} (s : Sa H H') (h : DpAll K H vs ds) : DpAll K H' vs ds := dp_mapAll (same_l s) (same_t s) ds vs h
/-- all but the dict at a stays -/
def Ka (a : Addr) (H H' : Hp) : Prop := (∀ b o, b ≠ a → H b = some o → (∀ ps, o ≠ .tbl ps) → H' b = some o) ∧ ((∃ kvs, H a = some (.dK kvs)) → ∃ kvs, H' a = some (.dK kvs))
structure Kp (a : Addr) (H H' : Hp) : Prop where
  ka : Ka a H H'
  tb : ∀ P, LamX.TabS H P (Nm.nm P) → LamX.TabS H' P (Nm.nm P)
  dm : ∀ b, H b ≠ none → H' b ≠ none
theorem Ka.of {a : Addr} (s : Sa H H') : Ka a H H' := ⟨fun b o _ h n => s b o h n, fun ⟨kvs, h⟩ => ⟨kvs, s _ _ h (by intro ps z; cases z)⟩⟩
theorem Kp.of {a : Addr} (s : Sm H H') : Kp a H H' := ⟨.of s.ob, s.tb, s.dm⟩
theorem Kp.refl {a : Addr} : Kp a H H := .of (Sm.refl H)
theorem Kp.trans {a : Addr} {H1 : Hp} (x : Kp a H H1) (y : Kp a H1 H') : Kp a H H' := ⟨⟨fun b o n h m => y.ka.1 b o n (x.ka.1 b o n h m) m, fun h => y.ka.2 (x.ka.2 h)⟩, fun P t => y.tb P (x.tb P t), fun b h => y.dm b (x.dm b h)⟩
/-- the dict at a is written -/
theorem Kp.put {a : Addr} {kvs kvs' : List (Key × V)} (h : H a = some (.dK kvs)) : Kp a H (upd H a (.dK kvs')) := ⟨⟨fun b o hb hh _ => by rw [upd_ne hb]; exact hh, fun _ => ⟨_, upd_same⟩⟩, fun P t => by
    obtain ⟨ps, h1, h2, h3⟩ := t
    refine ⟨ps, by rw [upd_ne (ne_of h1 h (by intro z; cases z))]; exact h1, h2, fun pos cv hc => ?_⟩
    obtain ⟨c, e1, e2⟩ := h3 pos cv hc
    exact ⟨c, e1, by rw [upd_ne (ne_of e2 h (by intro z; unfold LamX.CodeO at z; cases z))]; exact e2⟩, fun b hb => by
    by_cases e : b = a
    · rw [e, upd_same]; exact fun z => by cases z
    · rw [upd_ne e]; exact hb⟩
theorem kp_l {a : Addr} (s : Ka a H H') (ha : ∃ kvs, H a = some (.dK kvs)) (b : Addr) (xs : List V) (h : SqL K H b xs) : SqL K H' b xs := by
  obtain ⟨kvs, ha⟩ := ha
  rcases h with (h | ⟨o, h⟩) | h
  · exact .inl (.inl (s.1 _ _ (ne_of h ha (by intro z; cases z)) h (by intro ps z; cases z)))
  · exact .inl (.inr ⟨o, s.1 _ _ (ne_of h ha (by intro z; cases z)) h (by intro ps z; cases z)⟩)
  · exact .inr h
theorem kp_t {a : Addr} (s : Ka a H H') (ha : ∃ kvs, H a = some (.dK kvs)) (b : Addr) (xs : List V) (h : SqT K H b xs) : SqT K H' b xs := by
  obtain ⟨kvs, ha⟩ := ha
  rcases h with (h | ⟨o, h⟩) | h
  · exact .inl (.inl (s.1 _ _ (ne_of h ha (by intro z; cases z)) h (by intro ps z; cases z)))
  · exact .inl (.inr ⟨o, s.1 _ _ (ne_of h ha (by intro z; cases z)) h (by intro ps z; cases z)⟩)
  · exact .inr h
theorem dp_kp {a : Addr} {v : V} {d : PyData} (s : Ka a H H') (ha : ∃ kvs, H a = some (.dK kvs)) (h : Dp K H v d) : Dp K H' v d := dp_map (kp_l s ha) (kp_t s ha) d v h
theorem dps_kp {a : Addr} {vs : List V} {ds : List PyData} (s : Ka a H H') (ha : ∃ kvs, H a = some (.dK kvs)) (h : DpAll K H vs ds) : DpAll K H' vs ds := dp_mapAll (kp_l s ha) (kp_t s ha) ds vs h

theorem dp_int {v : V} {i : Int} (h : Dp K H v (.int i)) : v = .int i := by cases h; rfl
theorem dp_str {v : V} {x : Str} (h : Dp K H v (.str x)) : v = .str x := by cases h; rfl
theorem dp_bool {v : V} {b : Bool} (h : Dp K H v (.bool b)) : v = .bl b := by cases h; rfl
theorem dp_non {v : V} (h : Dp K H v .none) : v = .non := by cases h; rfl
theorem dp_tup {v : V} {ds : List PyData} (h : Dp K H v (.tuple ds)) : ∃ p xs, v = .ref p ∧ SqT K H p xs ∧ DpAll K H xs ds := by
  cases h with
  | tup h1 h2 => exact ⟨_, _, rfl, h1, h2⟩
theorem dp_lst {v : V} {ds : List PyData} (h : Dp K H v (.list ds)) : ∃ p xs, v = .ref p ∧ SqL K H p xs ∧ DpAll K H xs ds := by
  cases h with
  | lst h1 h2 => exact ⟨_, _, rfl, h1, h2⟩
theorem dps_len {vs : List V} {ds : List PyData} (h : DpAll K H vs ds) : vs.length = ds.length := by
  induction ds generalizing vs with
  | nil => cases h; rfl
  | cons d ds ih =>
    cases h with
    | cons h1 h2 => rw [List.length_cons, List.length_cons, ih h2]
theorem dps_get : ∀ {ds : List PyData} {vs : List V} {i : Nat} {d : PyData}, DpAll K H vs ds → ds[i]? = some d → ∃ v, vs[i]? = some v ∧ Dp K H v d
  | [], _, _, _, _, e => by simp at e
  | d :: ds, _, 0, d', h, e => by
    cases h with
    | cons h1 h2 =>
      have e' : d = d' := by simpa using e
      subst e'
      exact ⟨_, rfl, h1⟩
  | d :: ds, _, i + 1, _, h, e => by
    cases h with
    | cons h1 h2 =>
      obtain ⟨v, a, b⟩ := dps_get (i := i) h2 (by simpa using e)
      exact ⟨v, by simpa using a, b⟩
theorem dps_append {vs us : List V} {ds es : List PyData} (h : DpAll K H vs ds) (h' : DpAll K H us es) : DpAll K H (vs ++ us) (ds ++ es) := by
  induction ds generalizing vs with
  | nil => cases h; exact h'
  | cons d ds ih =>
    cases h with
    | cons h1 h2 => exact .cons h1 (ih h2)
theorem dps_snoc {vs : List V} {v : V} {ds : List PyData} {d : PyData} (h : DpAll K H vs ds) (h' : Dp K H v d) : DpAll K H (vs ++ [v]) (ds ++ [d]) := dps_append h (.cons h' .nil)
theorem dps_drop {vs : List V} {ds : List PyData} (n : Nat) (h : DpAll K H vs ds) : DpAll K H (vs.drop n) (ds.drop n) := by
  induction n generalizing vs ds with
  | zero => exact h
  | succ n ih =>
    cases ds with
    | nil => cases h; exact .nil
    | cons d ds =>
      cases h with
      | cons h1 h2 => exact ih h2
theorem dps_take {vs : List V} {ds : List PyData} (n : Nat) (h : DpAll K H vs ds) : DpAll K H (vs.take n) (ds.take n) := by
  induction n generalizing vs ds with
  | zero => exact .nil
  | succ n ih =>
    cases ds with
    | nil => cases h; exact .nil
    | cons d ds =>
      cases h with
      | cons h1 h2 => exact .cons h1 (ih h2)
theorem dps_ints (ns : List Int) : DpAll K H (ns.map V.int) (ns.map PyData.int) := by
  induction ns with
  | nil => exact .nil
  | cons n ns ih => exact .cons (.int n) ih
theorem vs_ints {vs : List V} {ns : List Int} (h : DpAll K H vs (ns.map PyData.int)) : vs = ns.map V.int := by
  induction ns generalizing vs with
  | nil => cases h; rfl
  | cons n ns ih =>
    cases h with
    | cons h1 h2 => rw [dp_int h1, ih h2] <;> rfl
theorem vs_bools {vs : List V} {ns : List Bool} (h : DpAll K H vs (ns.map PyData.bool)) : vs = ns.map V.bl := by
  induction ns generalizing vs with
  | nil => cases h; rfl
  | cons n ns ih =>
    cases h with
    | cons h1 h2 => rw [dp_bool h1, ih h2] <;> rfl
theorem dp_newT {p : Addr} {xs : List V} {ds : List PyData} (hp : H p = none) (h : DpAll K H xs ds) : Dp K (upd H p (.tup xs)) (.ref p) (.tuple ds) :=
  .tup (.of upd_same) (dps_same (fun b o e _ => by rw [upd_ne (ne_of_none e hp)]; exact e) h)
theorem dp_newL {p : Addr} {xs : List V} {ds : List PyData} (hp : H p = none) (h : DpAll K H xs ds) : Dp K (upd H p (.lst xs)) (.ref p) (.list ds) :=
  .lst (.of upd_same) (dps_same (fun b o e _ => by rw [upd_ne (ne_of_none e hp)]; exact e) h)
theorem same_new {p : Addr} {o : HO} (hp : H p = none) : Sm H (upd H p o) := .of fun b u e => by rw [upd_ne (ne_of_none e hp)]; exact e
end

/-! ### a part of the heap left out of sight (a list that a comprehension is filling) -/
open Classical in
noncomputable def off (T : Addr → Prop) (H : Hp) : Hp := fun b => if T b then none else H b
structure Din [Nm] (T : Addr → Prop) (H : Hp) : Prop where
  dn : ∀ b, T b → H b ≠ none
  tb : ∀ P ∈ Nm.tabs, LamX.TabS H P (Nm.nm P)
section
variable [Nm] {K : PySem.W.Frag} {H H' : Hp} {T : Addr → Prop}
theorem off_yes {b : Addr} (h : T b) : off T H b = none := by unfold off; rw [if_pos h]
theorem off_no {b : Addr} (h : ¬ T b) : off T H b = H b := by unfold off; rw [if_neg h]
theorem off_some {b : Addr} {o : HO} (h : off T H b = some o) : H b = some o ∧ ¬ T b := by
  by_cases hb : T b
  · rw [off_yes hb] at h
    cases h
  · rw [off_no hb] at h
    exact ⟨h, hb⟩
theorem off_sa (s : Sa H H') : Sa (off T H) (off T H') := fun b o h n => by
  obtain ⟨h1, h2⟩ := off_some h
  rw [off_no h2]
  exact s b o h1 n
theorem off_same (s : Sm H H') : Sa (off T H) (off T H') := off_sa s.ob
theorem off_in : Sa (off T H) H := fun b o h _ => (off_some h).1
theorem Din.same (d : Din T H) (s : Sm H H') : Din T H' := ⟨fun b hb => s.dm b (d.dn b hb), fun P hP => s.tb P (d.tb P hP)⟩
theorem off_free {p : Addr} (h : H p = none) : off T H p = none := by
  by_cases hp : T p
  · exact off_yes hp
  · rw [off_no hp]
    exact h
theorem off_new {p : Addr} {o : HO} (d : Din T H) (h : H p = none) : off T (upd H p o) = upd (off T H) p o := by
  funext b
  by_cases hb : b = p
  · subst hb
    rw [upd_same, off_no (fun z => d.dn b z h), upd_same]
  · rw [upd_ne hb]
    by_cases ht : T b
    · rw [off_yes ht, off_yes ht]
    · rw [off_no ht, off_no ht, upd_ne hb]
theorem dp_off {v : V} {d : PyData} (h : Dp K (off T H) v d) : Dp K H v d := dp_same off_in h
theorem dps_off {vs : List V} {ds : List PyData} (h : DpAll K (off T H) vs ds) : DpAll K H vs ds := dps_same off_in h
theorem dpo {v : V} {d : PyData} (s : Sm H H') (h : Dp K (off T H) v d) : Dp K (off T H') v d := dp_same (off_same s) h
theorem dpso {vs : List V} {ds : List PyData} (s : Sm H H') (h : DpAll K (off T H) vs ds) : DpAll K (off T H') vs ds := dps_same (off_same s) h
theorem dpo_newT {p : Addr} {xs : List V} {ds : List PyData} (t : Din T H) (hp : H p = none) (h : DpAll K (off T H) xs ds) : Dp K (off T (upd H p (.tup xs))) (.ref p) (.tuple ds) := by
  rw [off_new t hp]
  exact dp_newT (off_free hp) h
theorem dpo_newL {p : Addr} {xs : List V} {ds : List PyData} (t : Din T H) (hp : H p = none) (h : DpAll K (off T H) xs ds) : Dp K (off T (upd H p (.lst xs))) (.ref p) (.list ds) := by
  rw [off_new t hp]
  exact dp_newL (off_free hp) h
theorem dpo_tup {v : V} {ds : List PyData} (h : Dp K (off T H) v (.tuple ds)) : ∃ p xs, v = .ref p ∧ SqT K H p xs ∧ DpAll K (off T H) xs ds := by
  obtain ⟨p, xs, e, h1, h2⟩ := dp_tup h
  exact ⟨p, xs, e, same_t off_in _ _ h1, h2⟩
theorem dpo_lst {v : V} {ds : List PyData} (h : Dp K (off T H) v (.list ds)) : ∃ p xs, v = .ref p ∧ SqL K H p xs ∧ DpAll K (off T H) xs ds := by
  obtain ⟨p, xs, e, h1, h2⟩ := dp_lst h
  exact ⟨p, xs, e, same_l off_in _ _ h1, h2⟩
theorem off_nothing : off (fun _ => False) H = H := by
  funext b
  exact off_no (fun z => z)
theorem Din.nothing (h : ∀ P ∈ Nm.tabs, LamX.TabS H P (Nm.nm P)) : Din (fun _ => False) H := ⟨fun _ z => z.elim, h⟩
theorem Din.new {p : Addr} {o : HO} (d : Din T H) (h : H p = none) : Din (fun b => T b ∨ b = p) (upd H p o) := ⟨fun b hb => by
  rcases hb with hb | hb
  · rw [upd_ne (fun z => d.dn b hb (by rw [z]; exact h))]
    exact d.dn b hb
  · rw [hb, upd_same]
    simp, fun P hP => (same_new h).tb P (d.tb P hP)⟩
theorem off_more {p : Addr} {o : HO} (h : H p = none) : off (fun b => T b ∨ b = p) (upd H p o) = off T H := by
  funext b
  by_cases hb : b = p
  · subst hb
    rw [off_yes (.inr rfl), off_free h]
  · by_cases ht : T b
    · rw [off_yes (.inl ht), off_yes ht]
    · rw [off_no (fun z => z.elim ht hb), off_no ht, upd_ne hb]
theorem off_put {p : Addr} {o : HO} (h : T p) : off T (upd H p o) = off T H := by
  funext b
  by_cases ht : T b
  · rw [off_yes ht, off_yes ht]
  · rw [off_no ht, off_no ht, upd_ne (fun z => ht (by rw [z]; exact h))]
theorem off_less {p : Addr} : Sa (off (fun b => T b ∨ b = p) H) (off T H) := fun b o h _ => by
  obtain ⟨h1, h2⟩ := off_some h
  rw [off_no (fun z => h2 (.inl z))]
  exact h1
end

/-! ### slots that hold data, or the law's state -/
/-- what is written once: neither a table nor a dict -/
def Kd (o : HO) : Prop := (∀ ps, o ≠ .tbl ps) ∧ ∀ kvs, o ≠ .dK kvs
/-- what is known of a value that is no data -/
structure VR where
  rel : Hp → V → Prop
  per : ∀ {H H' : Hp} {v : V}, (∀ b o, H b = some o → Kd o → H' b = some o) → rel H v → rel H' v
theorem VR.same {R : VR} {H H' : Hp} {v : V} (s : Sa H H') (h : R.rel H v) : R.rel H' v := R.per (fun b o e k => s b o e k.1) h
theorem VR.kp {R : VR} {a : Addr} {H H' : Hp} {v : V} (s : Ka a H H') (ha : ∃ kvs, H a = some (.dK kvs)) (h : R.rel H v) : R.rel H' v := R.per (fun b o e k => by
  by_cases hb : b = a
  · obtain ⟨kvs, ha⟩ := ha
    rw [hb, ha] at e
    cases e
    exact (k.2 _ rfl).elim
  · exact s.1 b o hb e k.1) h
inductive DV where
  | dat (d : PyData)
  | hnd
  | adr (p : Addr)
  | val (R : VR)
abbrev Rho := List (Option DV)
def RelD (K : PySem.W.Frag) (a : Addr) (H : Hp) (v : V) : DV → Prop
  | .dat d => Dp K H v d
  | .hnd => v = .ref a
  | .adr p => v = .ref p
  | .val R => R.rel H v
structure SD [Nm] (K : PySem.W.Frag) (a : Addr) (T : Addr → Prop) (H : Hp) (σ : L2.St) (ρ : Rho) : Prop where
  len : σ.length = ρ.length
  dm : Din T H
  sl : ∀ (i : Nat) (x : DV), ρ[i]? = some (some x) → ∃ v, σ[i]? = some (some v) ∧ RelD K a (off T H) v x
section
variable [Nm] {K : PySem.W.Frag} {a : Addr} {T : Addr → Prop} {H H' : Hp} {σ : L2.St} {ρ : Rho}
theorem SD.same (h : SD K a T H σ ρ) (s : Sm H H') : SD K a T H' σ ρ := ⟨h.len, h.dm.same s, fun i x e => by
  obtain ⟨v, h1, h2⟩ := h.sl i x e
  refine ⟨v, h1, ?_⟩
  cases x with
  | dat d => exact dpo s h2
  | hnd => exact h2
  | adr _ => exact h2
  | val R => exact VR.same (R := R) (off_same s) h2⟩
theorem SD.kp (h : SD K a (fun _ => False) H σ ρ) (s : Kp a H H') (ha : ∃ kvs, H a = some (.dK kvs)) : SD K a (fun _ => False) H' σ ρ := ⟨h.len, .nothing fun P hP => s.tb P (h.dm.tb P hP), fun i x e => by
  obtain ⟨v, h1, h2⟩ := h.sl i x e
  refine ⟨v, h1, ?_⟩
  rw [off_nothing] at h2 ⊢
  cases x with
  | dat d => exact dp_kp s.ka ha h2
  | hnd => exact h2
  | adr _ => exact h2
  | val R => exact VR.kp (R := R) s.ka ha h2⟩
theorem SD.put {i : Nat} {v : V} {x : DV} (h : SD K a T H σ ρ) (hx : RelD K a (off T H) v x) : SD K a T H (σ.set i (some v)) (ρ.set i (some x)) := by
  refine ⟨by rw [List.length_set, List.length_set, h.len], h.dm, fun j y e => ?_⟩
  by_cases hj : i = j
  · subst hj
    by_cases hi : i < ρ.length
    · rw [List.getElem?_set_self hi] at e
      cases e
      exact ⟨v, by rw [List.getElem?_set_self (by rw [h.len]; exact hi)], hx⟩
    · rw [List.getElem?_eq_none (by simpa using hi)] at e
      cases e
  · rw [List.getElem?_set_ne hj] at e ⊢
    exact h.sl j y e
theorem SD.clear {i : Nat} (h : SD K a T H σ ρ) : SD K a T H (σ.set i none) (ρ.set i none) := by
  refine ⟨by rw [List.length_set, List.length_set, h.len], h.dm, fun j y e => ?_⟩
  by_cases hj : i = j
  · subst hj
    by_cases hi : i < ρ.length
    · rw [List.getElem?_set_self hi] at e
      cases e
    · rw [List.getElem?_eq_none (by simpa using hi)] at e
      cases e
  · rw [List.getElem?_set_ne hj] at e ⊢
    exact h.sl j y e
def wipeR (ρ : Rho) : List Nat → Rho
  | [] => ρ
  | v :: vs => (wipeR ρ vs).set v none
theorem SD.wipe (h : SD K a T H σ ρ) : ∀ vs : List Nat, SD K a T H (L2.wipe σ vs) (wipeR ρ vs)
  | [] => h
  | v :: vs => (SD.wipe h vs).clear
/-- one more thing out of sight -/
theorem SD.more {p : Addr} {o : HO} (h : SD K a T H σ ρ) (hp : H p = none) : SD K a (fun b => T b ∨ b = p) (upd H p o) σ ρ :=
  ⟨h.len, h.dm.new hp, fun i x e => by
    rw [off_more hp]
    exact h.sl i x e⟩
def dats (ds : List PyData) : Rho := ds.map fun d => some (.dat d)
theorem SD.start {N : List Str} {vs : List V} {ds : List PyData} (t : Din T H) (h : DpAll K (off T H) vs ds) : SD K a T H (start N vs) (dats ds ++ List.replicate (N.length - ds.length) none) := by
  have hl := dps_len h
  unfold L2.start dats
  refine ⟨by simp [hl], t, fun i x e => ?_⟩
  by_cases hi : i < ds.length
  · rw [List.getElem?_append_left (by simpa using hi)] at e
    rw [List.getElem?_map] at e
    obtain ⟨d, h1⟩ : ∃ d, ds[i]? = some d := ⟨ds[i], by simp [hi]⟩
    rw [h1] at e
    cases e
    obtain ⟨v, h3, h4⟩ := dps_get h h1
    exact ⟨v, by rw [List.getElem?_append_left (by simpa [hl] using hi), List.getElem?_map, h3]; rfl, h4⟩
  · rw [List.getElem?_append_right (by simpa using hi)] at e
    rw [List.getElem?_replicate] at e
    split at e <;> cases e
end
end Zj
/-! What an expression, a test, an argument list, a block comes to, said of data. -/
namespace Zj
open PySem PySem.Spec PyProof.Rows L2
variable [Nm]
section
variable {X : Cx} {a : Addr} {ρ : Rho}
def EvE (X : Cx) (a : Addr) (e : Expr) (ρ : Rho) (d : PyData) : Prop := ∀ T σ H, SD X.K a T H σ ρ → ∀ Q : VK, (∀ v H2, Sm H H2 → Dp X.K (off T H2) v d → Q v H2) → JE X e σ H Q
def EvT (X : Cx) (a : Addr) (e : Expr) (ρ : Rho) (b : Bool) : Prop := ∀ T σ H, SD X.K a T H σ ρ → ∀ Q : Bool → Hp → Prop, (∀ H2, Sm H H2 → Q b H2) → JT X e σ H Q
def EvA (X : Cx) (a : Addr) (es : List Expr) (ρ : Rho) (ds : List PyData) : Prop := ∀ T σ H, SD X.K a T H σ ρ → ∀ Q : List V → Hp → Prop, (∀ vs H2, Sm H H2 → DpAll X.K (off T H2) vs ds → Q vs H2) → JA X es σ H Q
def EvO (X : Cx) (a : Addr) (e : Option Expr) (ρ : Rho) (o : Option Int) : Prop := ∃ t, PO X e t ∧ ∀ T σ H, SD X.K a T H σ ρ → ∀ Q : Option Int → Hp → Prop, (∀ H2, Sm H H2 → Q o H2) → t σ H Q

theorem e_var {x : Str} {pos : Pos} {i : Nat} {d : PyData} (h : ρ[i]? = some (some (.dat d))) (hN : X.N[i]? = some x := by rfl)
    (hv : Vis X.env.scope x := by first | exact Or.inl rfl | exact Or.inr (Or.inl rfl) | exact Or.inr (Or.inr rfl)) (hd : (x == ("__debug__" : Str)) = false := by decide) (hcd : (x == ("__classdict__" : Str)) = false := by decide) :
    EvE X a (.Name x pos) ρ d := fun T σ H S Q q => by
  obtain ⟨v, h1, h2⟩ := S.sl i _ h
  exact toE (pe_var hN hv hd hcd) ⟨v, h1, q v H (Sm.refl H) h2⟩
theorem e_int {i : Int} {j : Nat} {pos : Pos} : EvE X a (.Constant (.int i) j pos) ρ (.int i) := fun T σ H S Q q => toE pe_int (q _ H (Sm.refl H) (.int i))
theorem e_bl {i : Bool} {j : Nat} {pos : Pos} : EvE X a (.Constant (.bool i) j pos) ρ (.bool i) := fun T σ H S Q q => toE pe_bl (q _ H (Sm.refl H) (.bl i))
theorem e_str {i : Str} {j : Nat} {pos : Pos} : EvE X a (.Constant (.str i) j pos) ρ (.str i) := fun T σ H S Q q => toE pe_str (q _ H (Sm.refl H) (.str i))
theorem e_non {j : Nat} {pos : Pos} : EvE X a (.Constant .none j pos) ρ .none := fun T σ H S Q q => toE pe_non (q _ H (Sm.refl H) .non)

variable {l r e c : Expr} {es : List Expr} {pos : Pos} {d d1 d2 : PyData} {i j : Int}
/-- what an operator does with data -/
def OpD (X : Cx) (f : Value → Value → Sem Value) (d1 d2 d : PyData) : Prop := ∃ r : R2, OpR X f r ∧ ∀ T v1 v2 H, Din T H → Dp X.K (off T H) v1 d1 → Dp X.K (off T H) v2 d2 → ∀ Q : VK, (∀ v H2, Sm H H2 → Dp X.K (off T H2) v d → Q v H2) → r v1 v2 H Q
theorem e_bin {op : Operator} (ho : OpD X (binaryOp op) d1 d2 d) (h1 : EvE X a l ρ d1) (h2 : EvE X a r ρ d2) : EvE X a (.BinOp l op r pos) ρ d := fun T σ H S Q q => by
  obtain ⟨rr, hr, hq⟩ := ho
  exact toE (pe_op hr je je) (h1 T σ H S _ fun v1 H1 s1 p1 => h2 T σ H1 (S.same s1) _ fun v2 H2 s2 p2 => hq T v1 v2 H2 (S.same (s1.trans s2)).dm (dpo s2 p1) p2 Q fun v H3 s3 p3 => q v H3 ((s1.trans s2).trans s3) p3)
theorem e_cmp {op : CmpOp} (ho : OpD X (compareOp op) d1 d2 d) (h1 : EvE X a l ρ d1) (h2 : EvE X a r ρ d2) (hm : behindInMarks op r = false) : EvE X a (.Compare l [op] [r] pos) ρ d := fun T σ H S Q q => by
  obtain ⟨rr, hr, hq⟩ := ho
  exact toE (pe_cmpR hr je je hm) (h1 T σ H S _ fun v1 H1 s1 p1 => h2 T σ H1 (S.same s1) _ fun v2 H2 s2 p2 => hq T v1 v2 H2 (S.same (s1.trans s2)).dm (dpo s2 p1) p2 Q fun v H3 s3 p3 => q v H3 ((s1.trans s2).trans s3) p3)
theorem t_cmp {op : CmpOp} {b : Bool} (ho : OpD X (compareOp op) d1 d2 (.bool b)) (h1 : EvE X a l ρ d1) (h2 : EvE X a r ρ d2) (hm : behindInMarks op r = false) : EvT X a (.Compare l [op] [r] pos) ρ b := fun T σ H S Q q => by
  obtain ⟨rr, hr, hq⟩ := ho
  exact toT (pt_cmpR hr je je hm) (h1 T σ H S _ fun v1 H1 s1 p1 => h2 T σ H1 (S.same s1) _ fun v2 H2 s2 p2 => hq T v1 v2 H2 (S.same (s1.trans s2)).dm (dpo s2 p1) p2 _ fun v H3 s3 p3 => ⟨b, dp_bool p3, q H3 ((s1.trans s2).trans s3)⟩)

theorem od_I {f : Value → Value → Sem Value} {g : Int → Int → V} {C : Int → Int → Prop} (ho : OpR X f (rI C g)) (hc : C i j) (hd : ∀ H, Dp X.K H (g i j) d) : OpD X f (.int i) (.int j) d :=
  ⟨_, ho, fun T v1 v2 H dm p1 p2 Q q => ⟨i, j, dp_int p1, dp_int p2, hc, q _ H (Sm.refl H) (hd _)⟩⟩
theorem od_I0 {f : Value → Value → Sem Value} {g : Int → Int → V} (ho : OpR X f (rI0 g)) (hd : ∀ H, Dp X.K H (g i j) d) : OpD X f (.int i) (.int j) d :=
  ⟨_, ho, fun T v1 v2 H dm p1 p2 Q q => ⟨i, j, dp_int p1, dp_int p2, q _ H (Sm.refl H) (hd _)⟩⟩
theorem op_mulX : OpR X (binaryOp .Mult) (rI IntMulOk fun i j => .int (i * j)) := opI fun _ _ _ _ _ _ _ hc q => mul_int q hc
theorem op_fdivX : OpR X (binaryOp .FloorDiv) (rI (fun _ j => j ≠ 0 ∧ j.natAbs.log2 < 9000) fun i j => .int (i.fdiv j)) := opI fun i j _ _ _ _ _ hc q =>
  floordiv_int hc.1 q (.inl (PyProof.noPylong_of_log2 hc.2))
/-- numbers of less than n binary figures -/
def Bits (n : Nat) (i : Int) : Prop := i.natAbs < 2 ^ n
theorem mul_ok {m n : Nat} (h1 : Bits m i) (h2 : Bits n j) (h : m + n ≤ 100000000) : IntMulOk i j := by
  have b : ∀ (x : Int) (k : Nat), Bits k x → Builtin.Int.intBits x ≤ k := fun x k hx => by
    unfold Builtin.Int.intBits
    split
    · omega
    · rename_i hx0
      have hx1 : x.natAbs ≠ 0 := by simpa using hx0
      have : x.natAbs.log2 < k := (Nat.log2_lt hx1).mpr hx
      omega
  have h1' := b i m h1
  have h2' := b j n h2
  have e : bitsLine = 134217728 := by decide
  unfold IntMulOk
  intro z
  rw [Bool.and_eq_true] at z
  have z2 := z.2
  unfold Builtin.Int.intTooBig at z2
  have z3 := of_decide_eq_true z2
  rw [e] at z3
  omega
theorem od_add : OpD X (binaryOp .Add) (.int i) (.int j) (.int (i + j)) := od_I0 op_add fun _ => .int _
theorem od_sub : OpD X (binaryOp .Sub) (.int i) (.int j) (.int (i - j)) := od_I0 op_sub fun _ => .int _
theorem od_mul (h : IntMulOk i j) : OpD X (binaryOp .Mult) (.int i) (.int j) (.int (i * j)) := od_I op_mulX h fun _ => .int _
theorem od_fdiv (h : j ≠ 0) (hb : j.natAbs.log2 < 9000) : OpD X (binaryOp .FloorDiv) (.int i) (.int j) (.int (i.fdiv j)) := od_I op_fdivX ⟨h, hb⟩ fun _ => .int _
theorem od_mod (h : 0 < j) : OpD X (binaryOp .Mod) (.int i) (.int j) (.int (i % j)) := od_I op_mod h fun _ => .int _
theorem od_pow (h : CPow i j) : OpD X (binaryOp .Pow) (.int i) (.int j) (.int (i ^ j.toNat)) := od_I op_pow h fun _ => .int _
theorem od_lt : OpD X (compareOp .Lt) (.int i) (.int j) (.bool (decide (i < j))) := od_I0 op_lt fun _ => .bl _
theorem od_le : OpD X (compareOp .LtE) (.int i) (.int j) (.bool (decide (i ≤ j))) := od_I0 op_le fun _ => .bl _
theorem od_gt : OpD X (compareOp .Gt) (.int i) (.int j) (.bool (decide (j < i))) := od_I0 op_gt fun _ => .bl _
theorem od_ge : OpD X (compareOp .GtE) (.int i) (.int j) (.bool (decide (j ≤ i))) := od_I0 op_ge fun _ => .bl _
theorem od_eqI : OpD X (compareOp .Eq) (.int i) (.int j) (.bool (i == j)) :=
  ⟨_, op_eq, fun T v1 v2 H dm p1 p2 Q q => by rw [dp_int p1, dp_int p2]; exact ⟨rfl, by rw [dec_int]; exact q _ H (Sm.refl H) (.bl _)⟩⟩
theorem od_neI : OpD X (compareOp .NotEq) (.int i) (.int j) (.bool (!(i == j))) :=
  ⟨_, op_ne, fun T v1 v2 H dm p1 p2 Q q => by rw [dp_int p1, dp_int p2]; exact ⟨rfl, by rw [dec_int]; exact q _ H (Sm.refl H) (.bl _)⟩⟩
theorem od_eqS {x y : Str} : OpD X (compareOp .Eq) (.str x) (.str y) (.bool (x == y)) :=
  ⟨_, op_eq, fun T v1 v2 H dm p1 p2 Q q => by rw [dp_str p1, dp_str p2]; exact ⟨rfl, by rw [dec_str]; exact q _ H (Sm.refl H) (.bl _)⟩⟩
theorem od_eqB {x y : Bool} : OpD X (compareOp .Eq) (.bool x) (.bool y) (.bool (x == y)) :=
  ⟨_, op_eq, fun T v1 v2 H dm p1 p2 Q q => by rw [dp_bool p1, dp_bool p2]; exact ⟨rfl, by rw [dec_bl]; exact q _ H (Sm.refl H) (.bl _)⟩⟩
theorem od_neB {x y : Bool} : OpD X (compareOp .NotEq) (.bool x) (.bool y) (.bool (!(x == y))) :=
  ⟨_, op_ne, fun T v1 v2 H dm p1 p2 Q q => by rw [dp_bool p1, dp_bool p2]; exact ⟨rfl, by rw [dec_bl]; exact q _ H (Sm.refl H) (.bl _)⟩⟩
theorem od_eqD (hu : X.A.units + 64 < cLine) (h1 : SeqAt.shaped d1 = true) (h2 : SeqAt.shaped d2 = true) : OpD X (compareOp .Eq) d1 d2 (.bool (PyData.eqv d1 d2)) :=
  ⟨_, op_eqD hu, fun T v1 v2 H dm p1 p2 Q q => ⟨d1, d2, dp_off p1, dp_off p2, h1, h2, q _ H (Sm.refl H) (.bl _)⟩⟩
theorem od_neD (hu : X.A.units + 64 < cLine) (h1 : SeqAt.shaped d1 = true) (h2 : SeqAt.shaped d2 = true) : OpD X (compareOp .NotEq) d1 d2 (.bool (!PyData.eqv d1 d2)) :=
  ⟨_, op_neD hu, fun T v1 v2 H dm p1 p2 Q q => ⟨d1, d2, dp_off p1, dp_off p2, h1, h2, q _ H (Sm.refl H) (.bl _)⟩⟩
/-- whether data is None -/
def isN : PyData → Bool
  | .none => true
  | _ => false
theorem dp_isN {K : PySem.W.Frag} {H : Hp} {v : V} (p : Dp K H v d) : decide (v = .non) = isN d := by
  cases p <;> rfl
theorem od_isN : OpD X (compareOp .Is) d .none (.bool (isN d)) := ⟨_, op_isN, fun T v1 v2 H dm p1 p2 Q q => ⟨dp_non p2, by rw [dp_isN p1]; exact q _ H (Sm.refl H) (.bl _)⟩⟩
theorem od_notN : OpD X (compareOp .IsNot) d .none (.bool (!isN d)) := ⟨_, op_notN, fun T v1 v2 H dm p1 p2 Q q => ⟨dp_non p2, by rw [dp_isN p1]; exact q _ H (Sm.refl H) (.bl _)⟩⟩
theorem e_neg (h : EvE X a e ρ (.int i)) : EvE X a (.UnaryOp .USub e pos) ρ (.int (-i)) := fun T σ H S Q q =>
  toE (pe_un un_neg je) (h T σ H S _ fun v H1 s1 p1 => ⟨i, dp_int p1, q _ H1 s1 (.int _)⟩)

/-! tests -/
theorem t_not {b : Bool} (h : EvT X a e ρ b) : EvT X a (.UnaryOp .Not e pos) ρ (!b) := fun T σ H S Q q => toT (pt_not jt) (h T σ H S _ fun H1 s1 => q H1 s1)
theorem t_val {b : Bool} (h : EvE X a e ρ (.bool b)) (he : ∀ whole, isTrue e X.env whole = (do let v ← whole; standAt e.pos; holding [v] (truthy v)) := by intro _; rfl) : EvT X a e ρ b := fun T σ H S Q q =>
  toT (pt_val je he) (h T σ H S _ fun v H1 s1 p1 => ⟨b, dp_bool p1, q H1 s1⟩)
theorem t_is {b b' : Bool} (h : EvT X a e ρ b) (hb : b = b') : EvT X a e ρ b' := hb ▸ h
theorem e_is {d'} (h : EvE X a e ρ d) (hb : d = d') : EvE X a e ρ d' := hb ▸ h
theorem t_and1 {b : Bool} (h : EvT X a e ρ b) : EvT X a (.BoolOp .And [e] pos) ρ b := fun T σ H S Q q => toT (PW.pt (pw_and1 jt)) (h T σ H S Q q)
theorem t_or1 {b : Bool} (h : EvT X a e ρ b) : EvT X a (.BoolOp .Or [e] pos) ρ b := fun T σ H S Q q => toT (PW.pt (pw_or1 jt)) (h T σ H S Q q)
end
section
variable {X : Cx} {a : Addr} {ρ : Rho} {c e f : Expr} {es : List Expr} {pos : Pos} {d : PyData}
theorem e_ifT (h : EvT X a c ρ true) (h1 : EvE X a e ρ d) : EvE X a (.IfExp c e f pos) ρ d := fun T σ H S Q q =>
  toE (pe_ifExp jt je je) (h T σ H S _ fun H1 s1 => iteT (h1 T σ H1 (S.same s1) _ fun v H2 s2 p => q v H2 (s1.trans s2) p))
theorem e_ifF (h : EvT X a c ρ false) (h1 : EvE X a f ρ d) : EvE X a (.IfExp c e f pos) ρ d := fun T σ H S Q q =>
  toE (pe_ifExp jt je je) (h T σ H S _ fun H1 s1 => iteF (h1 T σ H1 (S.same s1) _ fun v H2 s2 p => q v H2 (s1.trans s2) p))
theorem e_if {b : Bool} (h : EvT X a c ρ b) (h1 : b = true → EvE X a e ρ d) (h2 : b = false → EvE X a f ρ d) : EvE X a (.IfExp c e f pos) ρ d := by
  cases b with
  | true => exact e_ifT h (h1 rfl)
  | false => exact e_ifF h (h2 rfl)

/-! argument lists, displays -/
theorem a_nil : EvA X a [] ρ [] := fun T σ H S Q q => toA pa_nil (q _ H (Sm.refl H) .nil)
theorem a_cons {ds : List PyData} (h : EvE X a e ρ d) (h2 : EvA X a es ρ ds) (hs : starEach (e :: es) X.env = (false, eval e X.env) :: starEach es X.env := by exact star_of rfl) : EvA X a (e :: es) ρ (d :: ds) := fun T σ H S Q q =>
  toA (pa_cons je ja hs) (h T σ H S _ fun v H1 s1 p1 => h2 T σ H1 (S.same s1) _ fun vs H2 s2 p2 => q _ H2 (s1.trans s2) (.cons (dpo s2 p1) p2))
theorem szl {n : Nat} (h : n ≤ 100000) : n ≤ sizeLine := Nat.le_trans h (by decide)
theorem e_tup {x1} {ds : List PyData} (h : EvA X a es ρ ds) (hl : ds.length ≤ 100000 := by first | (simp; done) | decide) : EvE X a (.Tuple es x1 pos) ρ (.tuple ds) := fun T σ H S Q q =>
  toE (pe_tup ja) (h T σ H S _ fun vs H1 s1 p1 => ⟨by rw [dps_len p1]; exact szl hl, fun p hp => q _ _ (s1.trans (same_new hp)) (dpo_newT (S.dm.same s1) hp p1)⟩)
theorem e_lst {ds : List PyData} (h : EvA X a es ρ ds) (hl : ds.length ≤ 100000 := by first | (simp; done) | decide) : EvE X a (.List es pos) ρ (.list ds) := fun T σ H S Q q =>
  toE (pe_lst ja) (h T σ H S _ fun vs H1 s1 p1 => ⟨by rw [dps_len p1]; exact szl hl, fun p hp => q _ _ (s1.trans (same_new hp)) (dpo_newL (S.dm.same s1) hp p1)⟩)

/-! items, slices, sums of sequences -/
variable {i j : Int} {ds : List PyData} {o : Expr}
theorem ati_dps {K : PySem.W.Frag} {H : Hp} {vs : List V} (h : DpAll K H vs ds) (e : atI ds i = some d) : ∃ v, atI vs i = some v ∧ Dp K H v d := by
  unfold atI at e ⊢
  rw [dps_len h]
  cases q : ixN ds.length i with
  | none => rw [q] at e; cases e
  | some k =>
    rw [q] at e
    obtain ⟨v, h1, h2⟩ := dps_get h (show ds[k]? = some d from e)
    exact ⟨v, h1, h2⟩
theorem e_ixT (h1 : EvE X a o ρ (.tuple ds)) (h2 : EvE X a e ρ (.int i)) (h : atI ds i = some d) (hs : PlainIx e := by exact fun _ _ => rfl) : EvE X a (.Subscript o e pos) ρ d := fun T σ H S Q q =>
  toE (pe_ix ix_tup je je hs) (h1 T σ H S _ fun v1 H1 s1 p1 => h2 T σ H1 (S.same s1) _ fun v2 H2 s2 p2 => by
    obtain ⟨p, xs, rfl, g1, g2⟩ := dpo_tup (dpo s2 p1)
    obtain ⟨v, g3, g4⟩ := ati_dps g2 h
    exact ⟨p, xs, i, v, rfl, dp_int p2, g1, g3, q v H2 (s1.trans s2) g4⟩)
theorem e_ixL (h1 : EvE X a o ρ (.list ds)) (h2 : EvE X a e ρ (.int i)) (h : atI ds i = some d) (hs : PlainIx e := by exact fun _ _ => rfl) : EvE X a (.Subscript o e pos) ρ d := fun T σ H S Q q =>
  toE (pe_ix ix_list je je hs) (h1 T σ H S _ fun v1 H1 s1 p1 => h2 T σ H1 (S.same s1) _ fun v2 H2 s2 p2 => by
    obtain ⟨p, xs, rfl, g1, g2⟩ := dpo_lst (dpo s2 p1)
    obtain ⟨v, g3, g4⟩ := ati_dps g2 h
    exact ⟨p, xs, i, v, rfl, dp_int p2, g1, g3, q v H2 (s1.trans s2) g4⟩)
theorem o_non : EvO X a none ρ none := ⟨_, po_none, fun T σ H S Q q => q H (Sm.refl H)⟩
theorem o_int (h : EvE X a e ρ (.int i)) : EvO X a (some e) ρ (some i) := ⟨_, po_some je, fun T σ H S Q q => h T σ H S _ fun v H1 s1 p1 => ⟨i, dp_int p1, q H1 s1⟩⟩
def cutD (xs : List PyData) (lo hi : Option Int) : List PyData := (xs.drop (HT.sIx xs.length 0 lo)).take (HT.sIx xs.length xs.length hi - HT.sIx xs.length 0 lo)
theorem cut_dps {K : PySem.W.Frag} {H : Hp} {vs : List V} (h : DpAll K H vs ds) (lo hi : Option Int) : DpAll K H (cutV vs lo hi) (cutD ds lo hi) := by
  unfold cutV cutD
  rw [dps_len h]
  exact dps_take _ (dps_drop _ h)
theorem e_slT {lo hi : Option Expr} {x y : Option Int} {p2 : Pos} (h1 : EvE X a o ρ (.tuple ds)) (h2 : EvO X a lo ρ x) (h3 : EvO X a hi ρ y) (hw : ¬ (HT.sIx ds.length 0 x = 0 ∧ HT.sIx ds.length ds.length y = ds.length)) :
    EvE X a (.Subscript o (.Slice lo hi none p2) pos) ρ (.tuple (cutD ds x y)) := fun T σ H S Q q => by
  obtain ⟨tl, g2, k2⟩ := h2
  obtain ⟨th, g3, k3⟩ := h3
  refine toE (pe_slice sl_tup je g2 g3) (h1 T σ H S _ fun v1 H1 s1 p1 => k2 T σ H1 (S.same s1) _ fun H2 s2 => k3 T σ H2 (S.same (s1.trans s2)) _ fun H3 s3 => ?_)
  obtain ⟨p, xs, rfl, g4, g5⟩ := dpo_tup (dpo (s2.trans s3) p1)
  have hl := dps_len g5
  exact ⟨p, xs, rfl, g4, by rw [hl]; exact hw, fun p' hp => q _ _ (((s1.trans s2).trans s3).trans (same_new hp)) (dpo_newT (S.dm.same ((s1.trans s2).trans s3)) hp (cut_dps g5 x y))⟩
theorem e_slL {lo hi : Option Expr} {x y : Option Int} {p2 : Pos} (h1 : EvE X a o ρ (.list ds)) (h2 : EvO X a lo ρ x) (h3 : EvO X a hi ρ y) :
    EvE X a (.Subscript o (.Slice lo hi none p2) pos) ρ (.list (cutD ds x y)) := fun T σ H S Q q => by
  obtain ⟨tl, g2, k2⟩ := h2
  obtain ⟨th, g3, k3⟩ := h3
  refine toE (pe_slice sl_list je g2 g3) (h1 T σ H S _ fun v1 H1 s1 p1 => k2 T σ H1 (S.same s1) _ fun H2 s2 => k3 T σ H2 (S.same (s1.trans s2)) _ fun H3 s3 => ?_)
  obtain ⟨p, xs, rfl, g4, g5⟩ := dpo_lst (dpo (s2.trans s3) p1)
  exact ⟨p, xs, rfl, g4, fun p' hp => q _ _ (((s1.trans s2).trans s3).trans (same_new hp)) (dpo_newL (S.dm.same ((s1.trans s2).trans s3)) hp (cut_dps g5 x y))⟩
theorem od_catT {es fs : List PyData} (h : es ≠ []) (hl : es.length + fs.length ≤ 100000) : OpD X (binaryOp .Add) (.tuple es) (.tuple fs) (.tuple (es ++ fs)) :=
  ⟨_, op_catT, fun T v1 v2 H dm p1 p2 Q q => by
    obtain ⟨p, xs, rfl, g1, g2⟩ := dpo_tup p1
    obtain ⟨p', ys, rfl, g3, g4⟩ := dpo_tup p2
    have l1 := dps_len g2
    have l2 := dps_len g4
    refine ⟨p, p', xs, ys, rfl, rfl, g1, g3, fun z => h ?_, by rw [l1, l2]; exact szl hl, fun z => ?_, fun z r hr => q _ _ (same_new hr) (dpo_newT dm hr (dps_append g2 g4))⟩
    · rw [z] at l1
      exact List.eq_nil_of_length_eq_zero l1.symm
    · rw [z] at l2
      rw [List.eq_nil_of_length_eq_zero l2.symm, List.append_nil] at q
      exact q _ H (Sm.refl H) p1⟩
/-- list + list, whoever holds them -/
theorem op_catX {X : Cx} : OpR X (binaryOp .Add) (fun x y H Q => ∃ l b xs zs, x = .ref l ∧ y = .ref b ∧ SqL X.K H l xs ∧ SqL X.K H b zs ∧ xs.length + zs.length ≤ sizeLine ∧ ∀ p, H p = none → Q (.ref p) (upd H p (.lst (xs ++ zs)))) := by
  intro pins s σ H x y v u Q I rx ry h
  obtain ⟨l, b, xs, zs, rfl, rfl, hH, hB, hz, q⟩ := h
  cases rx
  cases ry
  obtain ⟨its, r, pl, hl⟩ := I.list hH
  obtain ⟨its2, r2, pl2, hl2⟩ := I.list hB
  obtain ⟨⟨c1, dd1, da1, sl1⟩, n1, e1, k1, d1, b1⟩ := pl
  obtain ⟨⟨c2, dd2, da2, sl2⟩, n2, e2, k2, d2, b2⟩ := pl2
  have e3 := r.length
  have e4 := r2.length
  simp only at k1 d1 b1 k2 d2 b2
  subst k1 b1 k2 b2
  have ea : its.toArray ++ its2.toArray = (its ++ its2).toArray := by simp
  have sz : its.toArray.size + its2.toArray.size ≤ sizeLine := by rw [List.size_toArray, List.size_toArray, ← e3, ← e4]; exact hz
  refine concat_meets ⟨_, e1, rfl⟩ ⟨_, e2, rfl⟩ noFill_list_add seq_list_add F.slot_list_add F.entry_list_add (F.args_list_add_2 _ _)
    (list_addW l b its.toArray its2.toArray n1 n2 dd1 dd2 sl1 sl2 sz) ⟨e1, e2, ?_⟩
  rw [ea]
  exact ⟨.ref _, _, I.lnew (t' := s.toks) (r.append r2) (by rw [List.length_append]; exact hz), rfl, q _ I.fresh⟩
theorem od_catL {es fs : List PyData} (hl : es.length + fs.length ≤ 100000) : OpD X (binaryOp .Add) (.list es) (.list fs) (.list (es ++ fs)) :=
  ⟨_, op_catX, fun T v1 v2 H dm p1 p2 Q q => by
    obtain ⟨p, xs, rfl, g1, g2⟩ := dpo_lst p1
    obtain ⟨p', ys, rfl, g3, g4⟩ := dpo_lst p2
    have l1 := dps_len g2
    have l2 := dps_len g4
    exact ⟨p, p', xs, ys, rfl, rfl, g1, g3, by rw [l1, l2]; exact szl hl, fun r hr => q _ _ (same_new hr) (dpo_newL dm hr (dps_append g2 g4))⟩⟩
/-! calls -/
structure Cal (P : Program) (w : World) (K : PySem.W.Frag) (mg : Str → Option Value) (base : Heap) (k : Nat) (x : Str) (ps : List Str) (sp : Sp) : Prop where
  ex : ∃ f fd, FnOk P w K mg base CX0 k f fd ps sp ∧ mg x = some (.ref f) ∧ PySem.W.keepIn K (.ref f) = true ∧ Binds K fd ps []
/-- a def that keeps all and hands on data: R tells of the arguments what comes of them -/
def spR (K : PySem.W.Frag) (R : List PyData → PyData → Prop) : Sp := fun vs H Q _ => ∃ T ds d, Din T H ∧ DpAll K (off T H) vs ds ∧ R ds d ∧ ∀ v H', Sm H H' → Dp K (off T H') v d → Q v H'
theorem e_call {k : Nat} {x : Str} {p : Pos} {ps : List Str} {R : List PyData → PyData → Prop} (C : Cal X.prog X.w X.K X.mg X.base k x ps (spR X.K R)) (hr : Room k X.A) (ha : EvA X a (e :: es) ρ ds) (hR : R ds d)
    (hg : Gl X x := by rfl) (hdb : (x == ("__debug__" : Str)) = false := by decide) (he : starEach (e :: es) X.env = (false, eval e X.env) :: starEach es X.env := by exact star_of rfl) (hpl : (backTo pos (starEach es X.env)).any (·.1) = false := by exact star_no rfl) :
    EvE X a (.Call (.Name x p) (e :: es) [] pos) ρ d := fun T σ H S Q q => by
  obtain ⟨f, fd, F, hm, hk, hb⟩ := C.ex
  refine toE (pe_call F hr hg hm hk hb (ds := []) (dvs := []) .nil pass0 ja hdb he hpl) (ha T σ H S _ fun vs H1 s1 p1 => ?_)
  rw [List.append_nil]
  exact ⟨T, ds, d, S.dm.same s1, p1, hR, fun v H2 s2 p2 => q v H2 (s1.trans s2) p2⟩
/-- what a built-in does with data -/
def CaD (X : Cx) (f : Value) (ds : List PyData) (d : PyData) : Prop := ∃ r, CallR X f r ∧ ∀ T vs H, Din T H → DpAll X.K (off T H) vs ds → ∀ Q : VK, (∀ v H2, Sm H H2 → Dp X.K (off T H2) v d → Q v H2) → r vs H Q
theorem e_callB {x : Str} {p : Pos} {id : String} (hc : CaD X (.builtin id) ds d) (ha : EvA X a (e :: es) ρ ds) (hm : X.mg x = none) (hv : bootBuiltins x = some (.builtin id)) (hg : Gl X x := by rfl) (hn : x ≠ "__name__" := by decide) (hdb : (x == ("__debug__" : Str)) = false := by decide)
    (he : starEach (e :: es) X.env = (false, eval e X.env) :: starEach es X.env := by exact star_of rfl) (hpl : (backTo pos (starEach es X.env)).any (·.1) = false := by exact star_no rfl) : EvE X a (.Call (.Name x p) (e :: es) [] pos) ρ d := fun T σ H S Q q => by
  obtain ⟨r, h1, h2⟩ := hc
  exact toE (pe_callB h1 hg hm hv ja hn hdb he hpl) (ha T σ H S _ fun vs H1 s1 p1 => h2 T vs H1 (S.dm.same s1) p1 Q fun v H2 s2 p2 => q v H2 (s1.trans s2) p2)
theorem e_callT {x : Str} {p : Pos} {Ty : String} (hc : CaD X (.type Ty) ds d) (ha : EvA X a (e :: es) ρ ds) (hm : X.mg x = none) (hv : bootBuiltins x = some (.type Ty)) (hg : Gl X x := by rfl) (hn : x ≠ "__name__" := by decide) (hdb : (x == ("__debug__" : Str)) = false := by decide)
    (he : starEach (e :: es) X.env = (false, eval e X.env) :: starEach es X.env := by exact star_of rfl) (hpl : (backTo pos (starEach es X.env)).any (·.1) = false := by exact star_no rfl) : EvE X a (.Call (.Name x p) (e :: es) [] pos) ρ d := fun T σ H S Q q => by
  obtain ⟨r, h1, h2⟩ := hc
  exact toE (pe_callTy h1 hg hm hv ja hn hdb he hpl) (ha T σ H S _ fun vs H1 s1 p1 => h2 T vs H1 (S.dm.same s1) p1 Q fun v H2 s2 p2 => q v H2 (s1.trans s2) p2)
theorem e_callM {x : Str} {p : Pos} {id : String} (hc : CaD X (.builtin id) ds d) (ha : EvA X a (e :: es) ρ ds) (hm : X.mg x = some (.builtin id)) (hg : Gl X x := by rfl) (hdb : (x == ("__debug__" : Str)) = false := by decide)
    (he : starEach (e :: es) X.env = (false, eval e X.env) :: starEach es X.env := by exact star_of rfl) (hpl : (backTo pos (starEach es X.env)).any (·.1) = false := by exact star_no rfl) : EvE X a (.Call (.Name x p) (e :: es) [] pos) ρ d := fun T σ H S Q q => by
  obtain ⟨r, h1, h2⟩ := hc
  exact toE (pe_callBfun h1 hg hm ja hdb he hpl) (ha T σ H S _ fun vs H1 s1 p1 => h2 T vs H1 (S.dm.same s1) p1 Q fun v H2 s2 p2 => q v H2 (s1.trans s2) p2)
theorem dps1 {K : PySem.W.Frag} {H : Hp} {vs : List V} (h : DpAll K H vs [d]) : ∃ v, vs = [v] ∧ Dp K H v d := by
  cases h with
  | cons h1 h2 => cases h2; exact ⟨_, rfl, h1⟩
theorem dps2 {K : PySem.W.Frag} {H : Hp} {vs : List V} {d' : PyData} (h : DpAll K H vs [d, d']) : ∃ v v', vs = [v, v'] ∧ Dp K H v d ∧ Dp K H v' d' := by
  cases h with
  | cons h1 h2 =>
    obtain ⟨v', rfl, h3⟩ := dps1 h2
    exact ⟨_, v', rfl, h1, h3⟩
theorem ca_lenT : CaD X (.builtin "len") [.tuple ds] (.int ds.length) := ⟨_, call_len_seq, fun T vs H dm p Q q => by
  obtain ⟨v, rfl, h⟩ := dps1 p
  obtain ⟨pa, xs, rfl, g1, g2⟩ := dpo_tup h
  exact ⟨pa, xs, rfl, .inr g1, by rw [dps_len g2]; exact q _ H (Sm.refl H) (.int _)⟩⟩
theorem ca_lenL : CaD X (.builtin "len") [.list ds] (.int ds.length) := ⟨_, call_len_seq, fun T vs H dm p Q q => by
  obtain ⟨v, rfl, h⟩ := dps1 p
  obtain ⟨pa, xs, rfl, g1, g2⟩ := dpo_lst h
  exact ⟨pa, xs, rfl, .inl g1, by rw [dps_len g2]; exact q _ H (Sm.refl H) (.int _)⟩⟩
theorem ca_abs : CaD X (.builtin "abs") [.int i] (.int (if i < 0 then -i else i)) := ⟨_, call_abs, fun T vs H dm p Q q => by
  obtain ⟨v, rfl, h⟩ := dps1 p
  exact ⟨i, by rw [dp_int h], q _ H (Sm.refl H) (.int _)⟩⟩
theorem ca_int : CaD X (.type "int") [.int i] (.int i) := ⟨_, call_int1, fun T vs H dm p Q q => by
  obtain ⟨v, rfl, h⟩ := dps1 p
  exact .inl ⟨i, by rw [dp_int h], q _ H (Sm.refl H) (.int _)⟩⟩
theorem ca_intB {b : Bool} : CaD X (.type "int") [.bool b] (.int (if b then 1 else 0)) := ⟨_, call_int1, fun T vs H dm p Q q => by
  obtain ⟨v, rfl, h⟩ := dps1 p
  exact .inr ⟨b, by rw [dp_bool h], q _ H (Sm.refl H) (.int _)⟩⟩
theorem ca_max (hc : X.calm = true) : CaD X (.builtin "max") [.int i, .int j] (.int (if j > i then j else i)) := ⟨_, call_max2 hc, fun T vs H dm p Q q => by
  obtain ⟨v, v', rfl, h, h'⟩ := dps2 p
  exact ⟨i, j, by rw [dp_int h, dp_int h'], q _ H (Sm.refl H) (.int _)⟩⟩
theorem ca_min (hc : X.calm = true) : CaD X (.builtin "min") [.int i, .int j] (.int (if j < i then j else i)) := ⟨_, call_min2 hc, fun T vs H dm p Q q => by
  obtain ⟨v, v', rfl, h, h'⟩ := dps2 p
  exact ⟨i, j, by rw [dp_int h, dp_int h'], q _ H (Sm.refl H) (.int _)⟩⟩
theorem ca_gcd : CaD X (.builtin "math.gcd") [.int i, .int j] (.int ((Nat.gcd i.natAbs j.natAbs : Nat) : Int)) := ⟨_, cr_gcd, fun T vs H dm p Q q => by
  obtain ⟨v, v', rfl, h, h'⟩ := dps2 p
  exact ⟨i, j, by rw [dp_int h, dp_int h'], q _ H (Sm.refl H) (.int _)⟩⟩
theorem ca_tupL : CaD X (.type "tuple") [.list ds] (.tuple ds) := ⟨_, call_tuple_of, fun T vs H dm p Q q => by
  obtain ⟨v, rfl, h⟩ := dps1 p
  obtain ⟨pa, xs, rfl, g1, g2⟩ := dpo_lst h
  exact ⟨pa, xs, rfl, .inl ⟨g1, fun l hl => q _ _ (same_new hl) (dpo_newT dm hl g2)⟩⟩⟩
theorem ca_tupT : CaD X (.type "tuple") [.tuple ds] (.tuple ds) := ⟨_, call_tuple_of, fun T vs H dm p Q q => by
  obtain ⟨v, rfl, h⟩ := dps1 p
  obtain ⟨pa, xs, rfl, g1, g2⟩ := dpo_tup h
  exact ⟨pa, xs, rfl, .inr ⟨g1, q _ H (Sm.refl H) h⟩⟩⟩
theorem ca_listT : CaD X (.type "list") [.tuple ds] (.list ds) := ⟨_, call_list_of, fun T vs H dm p Q q => by
  obtain ⟨v, rfl, h⟩ := dps1 p
  obtain ⟨pa, xs, rfl, g1, g2⟩ := dpo_tup h
  exact ⟨pa, xs, rfl, .inr g1, fun l hl => q _ _ (same_new hl) (dpo_newL dm hl g2)⟩⟩
theorem ca_listL : CaD X (.type "list") [.list ds] (.list ds) := ⟨_, call_list_of, fun T vs H dm p Q q => by
  obtain ⟨v, rfl, h⟩ := dps1 p
  obtain ⟨pa, xs, rfl, g1, g2⟩ := dpo_lst h
  exact ⟨pa, xs, rfl, .inl g1, fun l hl => q _ _ (same_new hl) (dpo_newL dm hl g2)⟩⟩
theorem ca_sum (hc : X.calm = true) {ns : List Int} : CaD X (.builtin "sum") [.list (ns.map .int)] (.int ns.sum) := ⟨_, cr_sum hc, fun T vs H dm p Q q => by
  obtain ⟨v, rfl, h⟩ := dps1 p
  obtain ⟨pa, xs, rfl, g1, g2⟩ := dpo_lst h
  exact ⟨pa, ns, rfl, by rw [← vs_ints g2]; exact g1, q _ H (Sm.refl H) (.int _)⟩⟩
theorem ca_all (hc : X.calm = true) {bs : List Bool} : CaD X (.builtin "all") [.list (bs.map .bool)] (.bool (bs.all id)) := ⟨_, cr_all hc, fun T vs H dm p Q q => by
  obtain ⟨v, rfl, h⟩ := dps1 p
  obtain ⟨pa, xs, rfl, g1, g2⟩ := dpo_lst h
  exact ⟨pa, bs, rfl, by rw [← vs_bools g2]; exact g1, q _ H (Sm.refl H) (.bl _)⟩⟩
end
end Zj
/-! enumerate of a tuple. -/
namespace Zj
open PySem PySem.Spec PyProof.Rows L2
variable [Nm]
open AutoSeq1 (wpAny_loadPart')
theorem enumT_new (l : Addr) (items : Array Value) (n : Nat) (dct : Option Addr) (sl : Array (Option Value)) :
    Meets (Builtin.«enumerate.__new__» ⟨[.type "enumerate", .ref l], []⟩) (fun _ R s => s.heap.get? l = some { cls := .type "tuple", dict := dct, data := .seq items n, slots := sl } ∧
      R (.ok (.ret (.ref (s.heap.push { cls := .type "tuple_iterator", data := .fields #[.ref l, .int 0 0] }).objs.size)))
        { s with heap := (s.heap.push { cls := .type "tuple_iterator", data := .fields #[.ref l, .int 0 0] }).push { cls := .type "enumerate", data := .fields #[.none, .bool false, .ref s.heap.objs.size, rawInt 0, .none, .none] } }) :=
  .of_wp fun prog w A R s h => by
    obtain ⟨hp, g, d, tk, os⟩ := s
    obtain ⟨hl, h⟩ := h
    have hsub := sub_enumerate
    have hTu : Heap.IsTuple (Shared.heap ⟨hp, g, d, tk, os⟩) l items := ⟨_, hl, rfl, n, rfl⟩
    wp_walk using wpAny_loadPart' hl
    refine wpAny_stack_any fun st => wpAny_pure ?_
    split
    · rename_i c _ _ _ _ _
      cases (c == Value.type "enumerate")
      all_goals
        wp_walk using wpAny_loadPart' hl, wpAny_pyIter_tuple hTu
        exact ⟨_, rfl, h⟩
    · wp_walk using wpAny_loadPart' hl, wpAny_pyIter_tuple hTu
      exact ⟨_, rfl, h⟩
section
variable {prog : Program} {w : World} {A : Around} {E : Value → Shared → Prop} {s : Shared}
theorem call_enumT {l : Addr} {items : Array Value} {Q : Value → Shared → Prop} (hT : IsTup s.heap l items)
    (h : ∀ h', IsEnum h' (s.heap.objs.size + 1) s.heap.objs.size 0 .none → h'.IsTupleIter s.heap.objs.size l 0 → (∀ b o, s.heap.get? b = some o → h'.get? b = some o) → Q (.ref (s.heap.objs.size + 1)) { s with heap := h' }) :
    wpAny (model prog w) A (call (.type "enumerate") [.ref l]) Q E s := by
  obtain ⟨⟨c, dct, dt, sl⟩, hl, hc, n, hd⟩ := hT
  simp only at hc hd
  subst hc hd
  refine callType_new F.called_enumerate (by decide) (F.typeCall_enumerate_1 _) (F.newCall_enumerate_1 _) (fun obj => F.args_object_init_2 obj _) F.entry_enumerate_new (enumT_new l items n dct sl) ⟨hl, ?_⟩
  have hz : (s.heap.push { cls := .type "tuple_iterator", data := .fields #[.ref l, .int 0 0] }).objs.size = s.heap.objs.size + 1 := Heap.size_push ..
  have he := Heap.get?_push_size (s.heap.push { cls := .type "tuple_iterator", data := .fields #[.ref l, .int 0 0] }) (o := { cls := .type "enumerate", data := .fields #[.none, .bool false, .ref s.heap.objs.size, rawInt 0, .none, .none] }) rfl
  rw [hz] at he
  show _ ∧ _
  rw [hz]
  exact ⟨⟨_, he, rfl⟩, h _ he ⟨_, Heap.get?_push_of_some _ (Heap.get?_push_size _ rfl), rfl, rfl⟩ fun b o x => Heap.get?_push_of_some _ (Heap.get?_push_of_some _ x)⟩
end
/-- the tuple at a, each item in a new pair -/
def IteT (K : PySem.W.Frag) (a : Addr) : It :=
  ⟨fun i H => ∃ (xs : List V) (x : V), SqT K H a xs ∧ xs[i]? = some x, fun i H v H' => ∃ T x, v = .ref T ∧ H T = none ∧ H' = upd H T (.tup [.int (i : Nat), x]) ∧ ∀ xs, SqT K H a xs → xs[i]? = some x, fun i H => ∃ xs : List V, SqT K H a xs ∧ xs.length ≤ i⟩
theorem turn_enumT {P : Program} {w : World} {K : PySem.W.Frag} {elts : List Expr} {kk : Nat} {tpos : Pos} (a e it : Addr) :
    Turn P w K (.Tuple elts kk tpos) (IteT K a) [e, it] e (fun i h => (∃ old, IsEnum h e it ((i : Nat) : Int) old) ∧ h.IsTupleIter it a i ∧ e ≠ it ∧ e ≠ a ∧ a ≠ it) where
  mem := by simp
  obj := fun i h st b hb => by
    obtain ⟨⟨old, he⟩, ⟨o, ho, hc, hd⟩, _⟩ := st
    have e' : b = e ∨ b = it := by simpa using hb
    rcases e' with z | z
    · rw [z]; exact ⟨_, he, fun v q => nomatch q⟩
    · rw [z]; exact ⟨o, ho, fun v q => by rw [hd] at q; cases q⟩
  keep := fun i h h' st k => by
    obtain ⟨⟨old, he⟩, hi, hne⟩ := st
    exact ⟨⟨old, k e (by simp) _ he⟩, hi.at fun o q => k it (by simp) o q, hne⟩
  item := by
    intro X hP hw hK hc i pins s σ H E I hf st hg
    subst hP hw hK
    obtain ⟨⟨old, he⟩, hit, hne, hea, hai⟩ := st
    obtain ⟨xs, x, hq, hx⟩ := hg
    obtain ⟨its, rv, p, hz⟩ := I.tuple hq
    obtain ⟨u, hu, ru⟩ := rv.get hx
    have hlt : i < its.toArray.size := by
      have := (List.getElem?_eq_some_iff.mp hu).1
      simpa using this
    have hel : e < s.heap.objs.size := Heap.lt_size he
    have hil : it < s.heap.objs.size := by obtain ⟨_, q, _⟩ := hit; exact Heap.lt_size q
    refine wpAny_pyNext_enum_itemD (Draws.tuple (A := X.A.in1) (I.ok.hd hc) it a hai its.toArray) he ⟨hit, p⟩ hlt hne (by simp; exact ⟨hne, hea⟩) fun x' h' tk hx' ho hst' hT hsz hk => ?_
    have exu : x' = u := by
      have z : some u = some x' := by
        rw [← hx']
        simpa using hu.symm
      exact (Option.some.inj z).symm
    subst exu
    refine ⟨_, rfl, wpAny_letOwnedTupleGo_enum (s := { s with heap := h', toks := tk + 1 }) ho fun h'' he' sb => ?_⟩
    have hT2 : h''.get? s.heap.objs.size = some { cls := .type "tuple", data := .seq #[.int i tk, x'] } := (sb.2 _ (Nat.ne_of_gt hel)).trans hT
    have new : ObjOk X.prog X.w (upd H s.heap.objs.size (.tup [.int (i : Nat), x])) h'' s.heap.objs.size (.tup [.int (i : Nat), x]) :=
      ⟨by show 2 ≤ sizeLine; decide, [.int i tk, x'], .cons ⟨_, rfl⟩ (.cons ru .nil), ⟨_, hT2, rfl, _, rfl⟩⟩
    have I1 : Inv X pins σ (upd H s.heap.objs.size (.tup [.int (i : Nat), x])) { s with heap := h'', toks := tk + 1 } := by
      refine I.turnedNew (ch := [e, it]) (fun b ob hb q => ?_) hf (Nat.le_refl _) new
      exact (sb.2 b (fun z => hb (by simp [z]))).trans (hk b ob (fun z => hb (by simp [z])) (fun z => hb (by simp [z])) q)
    refine ⟨.ref s.heap.objs.size, _, I1, rfl, ⟨_, x, rfl, I.hok.fresh (Nat.le_refl _), rfl, fun ys hy => by rw [I.tuple_inj hy hq]; exact hx⟩, ⟨⟨x', ?_⟩, hst'.1.at fun o q => (sb.2 it (Ne.symm hne)).trans q, hne, hea, hai⟩, fun b hb => ?_⟩
    · have e1 : ((i + 1 : Nat) : Int) = (i : Int) + 1 := by omega
      rw [e1]
      exact he'
    · have hb' : b < s.heap.objs.size := by
        have e' : b = e ∨ b = it := by simpa using hb
        rcases e' with z | z
        · rw [z]; exact hel
        · rw [z]; exact hil
      rw [upd_ne (Nat.ne_of_lt hb')]
      exact (hf b hb).1
  done := by
    intro X hP hw hK hc i pins s σ H E I hf st hg
    subst hP hw hK
    obtain ⟨⟨old, he⟩, hit, hne, hea, hai⟩ := st
    obtain ⟨xs, hq, hx⟩ := hg
    obtain ⟨its, rv, p, hz⟩ := I.tuple hq
    obtain ⟨f0, f1, f2, f3, f4, f5⟩ := hf it (by simp)
    have hl := rv.length
    have D : Draws X.prog X.w X.A.in1 it [it, a] i (fun i v => its.toArray[i]? = some v) (fun j h => j = i ∧ h.IsTupleIter it a j ∧ h.IsTuple a its.toArray ∧ its.toArray.size ≤ i) := {
      live := fun j h st => by obtain ⟨_, ⟨o, ho, _⟩, _⟩ := st; exact ⟨o, ho⟩
      frame := fun j h h' st hk => ⟨st.1, st.2.1.at fun o e => hk it (by simp) o e, st.2.2.1.at fun o e => hk a (by simp) o e, st.2.2.2⟩
      item := fun j s Q E hi st hQ => by
        have := st.1
        omega
      done := fun s Q E st hE => wpAny_nextOf_tuple_end (I.ok.hd hc) st.2.1 st.2.2.1 (by have := st.2.2.2; simp only [Array.getElem?_eq_none_iff]; omega) hE }
    exact wpAny_pyNext_enum_endD D he ⟨rfl, hit, p, by simp; omega⟩ fun h' eb => ⟨rfl, I.turned (t' := s.toks) (fun b o hb q => eb b o hb q) f0 f1 f3 f4 f5⟩
  self := fun A i s Q E st h => by
    obtain ⟨⟨_, he⟩, _⟩ := st
    exact wpAny_pyIter_enum he h
def iEnumT (K : PySem.W.Frag) (ta : TA) : TI := fun σ H R => ta σ H fun vs H1 => ∃ a xs, vs = [.ref a] ∧ SqT K H1 a xs ∧ R (IteT K a) H1
theorem pi_enumT {X : Cx} {e : Expr} {ta : TA} {p pos tpos : Pos} {elts : List Expr} {kk : Nat} (hg : Gl X "enumerate") (hm : X.mg "enumerate" = none) (ha : PA X [e] ta) (hs : starEach [e] X.env = [(false, eval e X.env)] := by exact star_of rfl) :
    PI X (.Tuple elts kk tpos) (.Call (.Name "enumerate" p) [e] [] pos) (iEnumT X.K ta) := by
  refine ⟨fun pins s σ H R I h => ?_⟩
  refine Call_ (ld_blt I hg hm boot_enumerate (PyProof.Rows.callWith_type1 (thn (ha.run pos pins s σ H _ I h) fun us s1 hv => ?_) hs rfl))
  obtain ⟨vs, H1, I1, r1, a, xs, rfl, hq, q⟩ := hv
  obtain ⟨u, rfl, ru⟩ := vals1 r1
  cases ru
  obtain ⟨its, rv, p', hz⟩ := I1.tuple hq
  have al : a < s1.heap.objs.size := p'.lt
  refine call_enumT p' fun h' he hit hk => wpAny_pyIter_enum he ?_
  have I2 : Inv X pins σ H1 { s1 with heap := h' } := I1.kept (t' := s1.toks) hk
  refine ⟨s1.heap.objs.size + 1, [s1.heap.objs.size + 1, s1.heap.objs.size], _, _, H1, rfl, I2, turn_enumT a (s1.heap.objs.size + 1) s1.heap.objs.size, ⟨⟨.none, he⟩, hit, Nat.succ_ne_self _, Nat.ne_of_gt (Nat.lt_succ_of_lt al), Nat.ne_of_lt al⟩, fun b hb => ?_, q⟩
  have hle : s1.heap.objs.size ≤ b := by
    have e' : b = s1.heap.objs.size + 1 ∨ b = s1.heap.objs.size := by simpa using hb
    rcases e' with z | z
    · rw [z]; exact Nat.le_add_right _ _
    · rw [z]; exact Nat.le_refl _
  exact I1.fpOk hle (I1.hok.fresh hle)
theorem walk_enumT {K : PySem.W.Frag} {a : Addr} {xs : List V} : Walk (IteT K a) xs.length (fun H => SqT K H a xs) (YPair (fun i => some (.int (i : Nat))) (fun i => xs[i]?)) := by
  refine ⟨fun i _ hi q => ⟨xs, xs[i], q, by simp [hi]⟩, fun _ q => ⟨xs, q, Nat.le_refl _⟩, fun i H v H' _ q y => ?_⟩
  obtain ⟨T, x, h1, h2, h3, h4⟩ := y
  exact ⟨T, .int (i : Nat), x, h1, h2, h3, rfl, h4 xs q⟩
theorem walk_zipT {K : PySem.W.Frag} {a b : Addr} {xs ys : List V} {n : Nat} (hn : n = min xs.length ys.length) : Walk (RZ.ItzT K a b) n (fun H => SqT K H a xs ∧ SqT K H b ys) (YPair (fun i => xs[i]?) (fun i => ys[i]?)) := by
  subst hn
  refine ⟨fun i _ hi q => ?_, fun _ q => ⟨xs, ys, q.1, q.2, by omega⟩, fun i H v H' _ q y => ?_⟩
  · have h1 : i < xs.length := by omega
    have h2 : i < ys.length := by omega
    exact ⟨xs, ys, xs[i], ys[i], q.1, q.2, by simp [h1], by simp [h2]⟩
  · obtain ⟨T, x, z, h1, h2, h3, h4, h5⟩ := y
    exact ⟨T, x, z, h1, h2, h3, h4 xs q.1, h5 ys q.2⟩
end Zj
/-! Blocks, loops, comprehensions, said of data. -/
namespace Zj
open PySem PySem.Spec PyProof.Rows L2
variable [Nm]
structure Good (X : Cx) : Prop where
  nd : X.N.Nodup
  calm : X.calm = true
  ow : PassesOwn (model X.prog X.w) X.A X.env X.xe
  un : X.A.units + 64 < cLine
section
variable {X : Cx} {a : Addr} {ρ : Rho} {N : Rho → Prop} {R : PyData → Prop}
def Run (X : Cx) (a : Addr) (sts : List Stmt) (ρ : Rho) (N : Rho → Prop) (R : PyData → Prop) : Prop := ∀ T σ H D, SD X.K a T H σ ρ → (∀ σ' H' ρ', Sm H H' → SD X.K a T H' σ' ρ' → N ρ' → D.nx σ' H') → (∀ v H' d, Sm H H' → Dp X.K (off T H') v d → R d → D.rt v H') → JSs X sts D σ H
def RunS (X : Cx) (a : Addr) (st : Stmt) (ρ : Rho) (N : Rho → Prop) (R : PyData → Prop) : Prop := ∀ T σ H D, SD X.K a T H σ ρ → (∀ σ' H' ρ', Sm H H' → SD X.K a T H' σ' ρ' → N ρ' → D.nx σ' H') → (∀ v H' d, Sm H H' → Dp X.K (off T H') v d → R d → D.rt v H') → JS X st D σ H
variable {st : Stmt} {sts : List Stmt} {e : Expr} {d : PyData} {pos : Pos}
theorem r_nil (h : N ρ) : Run X a [] ρ N R := fun T σ H D S kn kr => toSs pss_nil (kn σ H ρ (Sm.refl H) S h)
theorem r_cons (h : RunS X a st ρ (fun ρ' => Run X a sts ρ' N R) R) : Run X a (st :: sts) ρ N R := fun T σ H D S kn kr =>
  toSs (pss_cons js jss) (h T σ H { D with nx := fun σ' H' => JSs X sts D σ' H' } S (fun σ' H' ρ' s S' hN => hN T σ' H' D S' (fun σ2 H2 ρ2 s2 S2 n2 => kn σ2 H2 ρ2 (s.trans s2) S2 n2) fun v H2 d s2 p r => kr v H2 d (s.trans s2) p r) kr)
theorem r_one (h : RunS X a st ρ N R) : Run X a [st] ρ N R := fun T σ H D S kn kr => toSs (pss_one js) (h T σ H D S kn kr)
theorem r_never (h : False) : Run X a sts ρ N R := h.elim
theorem rs_ret (h : EvE X a e ρ d) (hr : R d) : RunS X a (.Return (some e) pos) ρ N R := fun T σ H D S kn kr => toS (ps_ret je) (h T σ H S _ fun v H1 s1 p1 => kr v H1 d s1 p1 hr)
theorem rs_expr (h : EvE X a e ρ d) (hn : N ρ) (hs : swapsWith e none pos.line X.env = pure false := by rfl) : RunS X a (.Expr e pos) ρ N R := fun T σ H D S kn kr => toS (ps_expr je hs) (h T σ H S _ fun v H1 s1 p1 => kn σ H1 ρ s1 (S.same s1) hn)
theorem rs_set {i : Nat} {x : Str} {pos' : Pos} (G : Good X) (h : EvE X a e ρ d) (hn : N (ρ.set i (some (.dat d)))) (hi : X.N[i]? = some x := by rfl) (hx : Loc X.env.scope x := by first | exact Or.inl rfl | exact Or.inr rfl)
    (hs : swapsWith e (some (.Name x pos')) pos.line X.env = pure false := by rfl) (hf : X.fn x = true ∨ X.env.scope.names.lookup x = some .local := by first | exact .inl rfl | exact .inr rfl) : RunS X a (.Assign [.Name x pos'] e pos) ρ N R := fun T σ H D S kn kr =>
  toS (ps_set G.nd hi hx je hs hf) (h T σ H S _ fun v H1 s1 p1 => kn _ H1 _ s1 ((S.same s1).put (x := .dat d) p1) hn)
theorem rs_if {c : Expr} {b : Bool} {body orelse : List Stmt} (hc : EvT X a c ρ b) (h1 : b = true → Run X a body ρ N R) (h2 : b = false → Run X a orelse ρ N R) : RunS X a (.If c body orelse pos) ρ N R := fun T σ H D S kn kr =>
  toS (ps_if jt jss jss) (hc T σ H S _ fun H1 s1 => by
    cases b with
    | true => exact iteT (h1 rfl T σ H1 D (S.same s1) (fun σ2 H2 ρ2 s2 S2 n2 => kn σ2 H2 ρ2 (s1.trans s2) S2 n2) fun v H2 d s2 p r => kr v H2 d (s1.trans s2) p r)
    | false => exact iteF (h2 rfl T σ H1 D (S.same s1) (fun σ2 H2 ρ2 s2 S2 n2 => kn σ2 H2 ρ2 (s1.trans s2) S2 n2) fun v H2 d s2 p r => kr v H2 d (s1.trans s2) p r))
/-- two plain local names at once -/
theorem rs_par {i j : Nat} {x y : Str} {e1 e2 : Expr} {px py pt : Pos} {kt k2 pt2} {d1 d2 : PyData} (G : Good X) (h : EvA X a [e1, e2] ρ [d1, d2]) (hn : N ((ρ.set i (some (.dat d1))).set j (some (.dat d2)))) (hi : X.N[i]? = some x := by rfl) (hj : X.N[j]? = some y := by rfl) (hij : i ≠ j := by decide)
    (hx : X.env.scope.names.lookup x = some .local := by rfl) (hy : X.env.scope.names.lookup y = some .local := by rfl)
    (hw : swappedStores [.Tuple [.Name x px, .Name y py] kt pt] (.Tuple [e1, e2] k2 pt2) X.env = pure (some [x, y]) := by rfl)
    (hs : swapsWithSole [.Tuple [.Name x px, .Name y py] kt pt] (.Tuple [e1, e2] k2 pt2) pos.line X.env = pure false := by rfl) :
    RunS X a (.Assign [.Tuple [.Name x px, .Name y py] kt pt] (.Tuple [e1, e2] k2 pt2) pos) ρ N R := fun T σ H D S kn kr =>
  toS (ps_par G.calm G.nd hi hj hij hx hy ja hw hs) (h T σ H S _ fun vs H1 s1 p1 => by
    obtain ⟨v, v', rfl, q1, q2⟩ := dps2 p1
    exact ⟨v, v', rfl, kn _ H1 _ s1 (((S.same s1).put (x := .dat d1) q1).put (x := .dat d2) q2) hn⟩)
/-- a target of two or three names, from a tuple -/
theorem rs_asg {tg : Expr} {g : TG} {ρ' : Rho} (h : EvE X a e ρ d) (hg : PG X tg g) (ht : ∀ T σ H v, SD X.K a T H σ ρ → Dp X.K (off T H) v d → ∀ Q : L2.St → Hp → Prop, (∀ σ', SD X.K a T H σ' ρ' → Q σ' H) → g v σ H Q) (hn : N ρ')
    (hs : swapsWithSole [tg] e pos.line X.env = pure false := by rfl) (hw : swappedStores [tg] e X.env = pure none := by rfl) (h1 : (assignEach [tg] X.env).map (·.2) = [assign tg X.env] := by rfl) : RunS X a (.Assign [tg] e pos) ρ N R := fun T σ H D S kn kr =>
  toS (ps_asg je hg hs hw h1) (h T σ H S _ fun v H1 s1 p1 => ht T σ H1 v (S.same s1) p1 _ fun σ' S' => kn σ' H1 ρ' s1 S' hn)
theorem rs_while {c : Expr} {body : List Stmt} (G : Good X) (W : Nat → Rho → Prop) (m0 : Nat) (h0 : W m0 ρ)
    (hs : ∀ m ρ', W m ρ' → ∃ b, EvT X a c ρ' b ∧ (b = true → Run X a body ρ' (fun ρ2 => ∃ m', m' < m ∧ W m' ρ2) R) ∧ (b = false → N ρ')) : RunS X a (.While c body [] pos) ρ N R := fun T σ H D S kn kr =>
  toS (ps_while G.ow jt jss) ⟨fun m σ' H' => Sm H H' ∧ ∃ ρ', SD X.K a T H' σ' ρ' ∧ W m ρ', ⟨m0, Sm.refl H, ρ, S, h0⟩, fun m σ' H' hW => by
    obtain ⟨s1, ρ', S', w⟩ := hW
    obtain ⟨b, hb, k1, k2⟩ := hs m ρ' w
    refine hb T σ' H' S' _ fun H2 s2 => ?_
    cases b with
    | true =>
      refine iteT ⟨fun σ3 H3 => ∃ m', m' < m ∧ (Sm H H3 ∧ ∃ ρ', SD X.K a T H3 σ3 ρ' ∧ W m' ρ'), fun _ _ q => q, ?_⟩
      exact k1 rfl T σ' H2 _ (S'.same s2) (fun σ3 H3 ρ3 s3 S3 ⟨m', hm, w'⟩ => ⟨m', hm, (s1.trans s2).trans s3, ρ3, S3, w'⟩) fun v H3 d s3 p r => kr v H3 d ((s1.trans s2).trans s3) p r
    | false => exact iteF (kn σ' H2 ρ' (s1.trans s2) (S'.same s2) (k2 rfl))⟩
end

/-! ### what is walked -/
section
variable {X : Cx} {a : Addr} {ρ : Rho} {tg it e e2 : Expr} {es : List Expr} {ds items : List PyData} {p pos : Pos}
/-- from H1 on, T out of sight, what was in sight stays in sight -/
def Sees (T : Addr → Prop) (H1 : Hp) (T' : Addr → Prop) (H' : Hp) : Prop := Din T' H' ∧ Sa (off T H1) (off T' H')
def Src (X : Cx) (a : Addr) (tg it : Expr) (ρ : Rho) (items : List PyData) : Prop := ∃ wi, PI X tg it wi ∧ ∀ T σ H, SD X.K a T H σ ρ → ∀ R : It → Hp → Prop,
  (∀ J H1 (Gd : Hp → Prop) Y, Sm H H1 → Walk J items.length Gd Y → (∀ T' H', Sees T H1 T' H' → Gd H') →
    (∀ T' i H' x H'', i < items.length → Sees T H1 T' H' → Y i H' x H'' → Sm H' H'' ∧ ∃ d, items[i]? = some d ∧ Dp X.K (off T' H'') x d) → R J H1) → wi σ H R
theorem src_L (h : EvE X a e ρ (.list ds)) : Src X a tg e ρ ds := ⟨_, pi_list je, fun T σ H S R k => h T σ H S _ fun v H1 s1 p1 => by
  obtain ⟨pa, xs, rfl, g1, g2⟩ := dp_lst p1
  have hl := dps_len g2
  refine ⟨pa, rfl, ⟨xs, same_l off_in _ _ g1⟩, k _ H1 (fun H => SqL X.K H pa xs) (YAt xs) s1 (by rw [← hl]; exact walk_list) (fun T' H' s => same_l off_in _ _ (same_l s.2 _ _ g1)) fun T' i H' x H'' hin s y => ?_⟩
  obtain ⟨rfl, hx⟩ := y
  obtain ⟨d, hd⟩ : ∃ d, ds[i]? = some d := by
    have := (List.getElem?_eq_some_iff.mp hx).1
    exact ⟨ds[i]'(by omega), by simp⟩
  obtain ⟨v, hv, pv⟩ := dps_get g2 hd
  rw [hx] at hv
  cases hv
  exact ⟨Sm.refl _, d, hd, dp_same s.2 pv⟩⟩
theorem src_T (h : EvE X a e ρ (.tuple ds)) : Src X a tg e ρ ds := ⟨_, pi_tup je, fun T σ H S R k => h T σ H S _ fun v H1 s1 p1 => by
  obtain ⟨pa, xs, rfl, g1, g2⟩ := dp_tup p1
  have hl := dps_len g2
  refine ⟨pa, rfl, ⟨xs, same_t off_in _ _ g1⟩, k _ H1 (fun H => SqT X.K H pa xs) (YAt xs) s1 (by rw [← hl]; exact walk_tup) (fun T' H' s => same_t off_in _ _ (same_t s.2 _ _ g1)) fun T' i H' x H'' hin s y => ?_⟩
  obtain ⟨rfl, hx⟩ := y
  obtain ⟨d, hd⟩ : ∃ d, ds[i]? = some d := by
    have := (List.getElem?_eq_some_iff.mp hx).1
    exact ⟨ds[i]'(by omega), by simp⟩
  obtain ⟨v, hv, pv⟩ := dps_get g2 hd
  rw [hx] at hv
  cases hv
  exact ⟨Sm.refl _, d, hd, dp_same s.2 pv⟩⟩
/-- the whole numbers below n -/
def upTo (n : Nat) : List PyData := (List.range n).map fun (i : Nat) => PyData.int (i : Int)
theorem src_R {n : Int} (h : EvA X a [e] ρ [.int n]) (hn : n < 2 ^ 62) (h0 : -(2 ^ 62) ≤ n) (hm : X.mg "range" = none) (hg : Gl X "range" := by rfl) (hs : starEach [e] X.env = [(false, eval e X.env)] := by exact star_of rfl) :
    Src X a tg (.Call (.Name "range" p) [e] [] pos) ρ (upTo n.toNat) := ⟨_, pi_range1 hg hm ja hs, fun T σ H S R k => h T σ H S _ fun vs H1 s1 p1 => by
  obtain ⟨v, rfl, q⟩ := dps1 p1
  refine ⟨n, by rw [dp_int q], h0, hn, k _ H1 _ _ s1 (by rw [show (upTo n.toNat).length = n.toNat by simp [upTo]]; exact walk_range) (fun _ _ _ => trivial) fun T' i H' x H'' hin s y => ?_⟩
  obtain ⟨rfl, rfl⟩ := y
  have hi : i < n.toNat := by simpa [upTo] using hin
  refine ⟨Sm.refl _, .int (i : Int), ?_, ?_⟩
  · unfold upTo
    rw [List.getElem?_map, List.getElem?_range hi] <;> rfl
  · have e : V.int ((0 : Int) + (i : Int)) = V.int (i : Int) := by rw [Int.zero_add]
    show Dp X.K (off T' H'') (V.int ((0 : Int) + (i : Int))) (.int (i : Int))
    rw [e]
    exact .int _⟩
theorem dpo_pair {K : PySem.W.Frag} {T : Addr → Prop} {H : Hp} {q : Addr} {x y : V} {d1 d2 : PyData} (t : Din T H) (hq : H q = none) (h1 : Dp K (off T H) x d1) (h2 : Dp K (off T H) y d2) : Dp K (off T (upd H q (.tup [x, y]))) (.ref q) (.tuple [d1, d2]) :=
  dpo_newT t hq (.cons h1 (.cons h2 .nil))
/-- each with its number -/
def numbered (ds : List PyData) : List PyData := (List.range ds.length).map fun (i : Nat) => PyData.tuple [.int (i : Int), ds.getD i .none]
theorem numbered_get {i : Nat} {d : PyData} (h : ds[i]? = some d) : (numbered ds)[i]? = some (.tuple [.int (i : Int), d]) := by
  have hi := (List.getElem?_eq_some_iff.mp h).1
  unfold numbered
  rw [List.getElem?_map, List.getElem?_range hi]
  show some (PyData.tuple [.int (i : Int), ds.getD i .none]) = _
  rw [List.getD_eq_getElem?_getD, h] <;> rfl
theorem src_ET {elts : List Expr} {kk : Nat} {tpos : Pos} (h : EvA X a [e] ρ [.tuple ds]) (hm : X.mg "enumerate" = none) (hg : Gl X "enumerate" := by rfl) (hs : starEach [e] X.env = [(false, eval e X.env)] := by exact star_of rfl) :
    Src X a (.Tuple elts kk tpos) (.Call (.Name "enumerate" p) [e] [] pos) ρ (numbered ds) := ⟨_, pi_enumT hg hm ja hs, fun T σ H S R k => h T σ H S _ fun vs H1 s1 p1 => by
  obtain ⟨v, rfl, q⟩ := dps1 p1
  obtain ⟨pa, xs, rfl, g1, g2⟩ := dp_tup q
  have hl := dps_len g2
  refine ⟨pa, xs, rfl, same_t off_in _ _ g1, k _ H1 _ _ s1 (by rw [show (numbered ds).length = xs.length by simp [numbered, hl]]; exact walk_enumT) (fun T' H' s => same_t off_in _ _ (same_t s.2 _ _ g1)) fun T' i H' x H'' hin s y => ?_⟩
  obtain ⟨T0, y1, y2, rfl, hT, rfl, e1, e2⟩ := y
  have e2 : xs[i]? = some y2 := e2
  cases e1
  obtain ⟨d, hd⟩ : ∃ d, ds[i]? = some d := by
    have := (List.getElem?_eq_some_iff.mp e2).1
    exact ⟨ds[i]'(by omega), by simp⟩
  obtain ⟨v, hv, pv⟩ := dps_get g2 hd
  rw [e2] at hv
  cases hv
  exact ⟨same_new hT, _, numbered_get hd, dpo_pair s.1 hT (.int _) (dp_same s.2 pv)⟩⟩
theorem src_ZT {elts : List Expr} {kk : Nat} {tpos : Pos} {ds2 : List PyData} (h : EvA X a [e, e2] ρ [.tuple ds, .tuple ds2]) (hm : X.mg "zip" = none) (hg : Gl X "zip" := by rfl)
    (hs : starEach [e, e2] X.env = (false, eval e X.env) :: starEach [e2] X.env := by exact star_of rfl) (hpl : (backTo pos (starEach [e2] X.env)).any (·.1) = false := by exact star_no rfl) :
    Src X a (.Tuple elts kk tpos) (.Call (.Name "zip" p) [e, e2] [] pos) ρ (List.zipWith (fun x y => PyData.tuple [x, y]) ds ds2) := ⟨_, RZ.pi_zipA hg hm ja hs hpl, fun T σ H S R k => h T σ H S _ fun vs H1 s1 p1 => by
  obtain ⟨v, v2, rfl, q, q2⟩ := dps2 p1
  obtain ⟨pa, xs, rfl, g1, g2⟩ := dp_tup q
  obtain ⟨pb, ys, rfl, g3, g4⟩ := dp_tup q2
  have hl := dps_len g2
  have hl2 := dps_len g4
  refine ⟨pa, pb, xs, ys, rfl, .inr ⟨same_t off_in _ _ g1, same_t off_in _ _ g3, k _ H1 _ _ s1 (walk_zipT (xs := xs) (ys := ys) (by rw [List.length_zipWith, hl, hl2])) (fun T' H' s => ⟨same_t off_in _ _ (same_t s.2 _ _ g1), same_t off_in _ _ (same_t s.2 _ _ g3)⟩) fun T' i H' x H'' hin s y => ?_⟩⟩
  obtain ⟨T0, y1, y2, rfl, hT, rfl, e1, e2⟩ := y
  have e1 : xs[i]? = some y1 := e1
  have e2 : ys[i]? = some y2 := e2
  obtain ⟨d, hd⟩ : ∃ d, ds[i]? = some d := by
    have := (List.getElem?_eq_some_iff.mp e1).1
    exact ⟨ds[i]'(by omega), by simp⟩
  obtain ⟨d2, hd2⟩ : ∃ d, ds2[i]? = some d := by
    have := (List.getElem?_eq_some_iff.mp e2).1
    exact ⟨ds2[i]'(by omega), by simp⟩
  obtain ⟨v, hv, pv⟩ := dps_get g2 hd
  rw [e1] at hv
  cases hv
  obtain ⟨v2, hv2, pv2⟩ := dps_get g4 hd2
  rw [e2] at hv2
  cases hv2
  exact ⟨same_new hT, _, by rw [List.getElem?_zipWith, hd, hd2], dpo_pair s.1 hT (dp_same s.2 pv) (dp_same s.2 pv2)⟩⟩
end
/-! ### targets -/
def TgSem (K : PySem.W.Frag) (a : Addr) (g : TG) (vs : List Nat) (f : PyData → Rho → Option Rho) : Prop := ∀ T σ H v d ρ ρ', SD K a T H σ ρ → Dp K (off T H) v d → f d ρ = some ρ' → ∀ Q : L2.St → Hp → Prop, (∀ σ', SD K a T H σ' ρ' → L2.wipe σ' vs = L2.wipe σ vs → Q σ' H) → g v σ H Q
theorem wipe_get (σ : L2.St) (k : Nat) : ∀ vs : List Nat, (L2.wipe σ vs)[k]? = if k ∈ vs then (if k < σ.length then some none else none) else σ[k]?
  | [] => by rw [if_neg (by simp)]; rfl
  | v :: vs => by
    unfold L2.wipe
    have ih := wipe_get σ k vs
    have hl := wipe_length σ vs
    by_cases hv : v = k
    · subst hv
      rw [if_pos (by simp)]
      by_cases hk : v < σ.length
      · rw [if_pos hk, List.getElem?_set_self (by rw [hl]; exact hk)]
      · rw [if_neg hk]
        exact List.getElem?_eq_none (by rw [List.length_set, hl]; omega)
    · rw [List.getElem?_set_ne hv, ih]
      by_cases hm : k ∈ vs
      · have h1 : k ∈ v :: vs := List.mem_cons_of_mem _ hm
        rw [if_pos hm, if_pos h1]
      · have h1 : ¬ k ∈ v :: vs := fun z => by
          rcases List.mem_cons.mp z with z | z
          · exact hv z.symm
          · exact hm z
        rw [if_neg hm, if_neg h1]
theorem wipe_set {σ : L2.St} {j : Nat} {x : Option V} {vs : List Nat} (h : j ∈ vs) : L2.wipe (σ.set j x) vs = L2.wipe σ vs := by
  apply List.ext_getElem?
  intro k
  rw [wipe_get, wipe_get, List.length_set]
  by_cases hk : k ∈ vs
  · rw [if_pos hk, if_pos hk]
  · rw [if_neg hk, if_neg hk, List.getElem?_set_ne (fun z => hk (by rw [← z]; exact h))]
def fName (i : Nat) : PyData → Rho → Option Rho := fun d ρ => some (ρ.set i (some (.dat d)))
def fPair (i j : Nat) : PyData → Rho → Option Rho := fun d ρ => match d with
  | .tuple [x, y] => some ((ρ.set i (some (.dat x))).set j (some (.dat y)))
  | _ => none
section
variable {K : PySem.W.Frag} {a : Addr}
theorem tg_name {i : Nat} {vs : List Nat} (h : i ∈ vs) : TgSem K a (gName i) vs (fName i) := fun T σ H v d ρ ρ' S p e Q q => by
  cases e
  exact q _ (S.put (x := .dat d) p) (wipe_set h)
theorem tg_pair {i j : Nat} {vs : List Nat} (h : i ∈ vs) (h2 : j ∈ vs) : TgSem K a (gTup K 2 (gCons (gName i) (gCons (gName j) gNil))) vs (fPair i j) := fun T σ H v d ρ ρ' S p e Q q => by
  unfold fPair at e
  split at e
  · rename_i x y
    cases e
    obtain ⟨pa, xs, rfl, g1, g2⟩ := dpo_tup p
    obtain ⟨v1, v2, rfl, q1, q2⟩ := dps2 g2
    refine ⟨pa, _, rfl, g1, rfl, v1, _, rfl, v2, _, rfl, rfl, q _ ((S.put (x := .dat x) q1).put (x := .dat y) q2) ?_⟩
    rw [wipe_set h2, wipe_set h]
  · cases e
end
/-! ### for -/
section
variable {X : Cx} {a : Addr} {ρ : Rho} {N : Rho → Prop} {R : PyData → Prop} {tg it : Expr} {items : List PyData} {pos : Pos} {body : List Stmt} {g : TG} {vs : List Nat} {f : PyData → Rho → Option Rho}
theorem Sees.refl {T : Addr → Prop} {H : Hp} (d : Din T H) : Sees T H T H := ⟨d, Sa.refl _⟩
theorem Sees.same {T : Addr → Prop} {H H' : Hp} (d : Din T H) (s : Sm H H') : Sees T H T H' := ⟨d.same s, off_same s⟩
theorem rs_for (G : Good X) (hs : Src X a tg it ρ items) (hg : PG X tg g) (ht : TgSem X.K a g vs f) (J : Nat → Rho → Prop) (h0 : J 0 ρ)
    (hb : ∀ n d ρ1, items[n]? = some d → J n ρ1 → ∃ ρ2, f d ρ1 = some ρ2 ∧ Run X a body ρ2 (J (n + 1)) R) (hd : ∀ ρ', J items.length ρ' → N ρ')
    (hf : ∀ x, foldedSetIterable it X.env x = pure x := by intro _; rfl) : RunS X a (.For tg it body [] pos) ρ N R := fun T σ H D S kn kr => by
  obtain ⟨wi, hw, hq⟩ := hs
  refine toS (ps_for G.ow G.calm hw hg jss hf) (hq T σ H S _ fun Ji H1 Gd Y s1 w hG hY => ?_)
  refine for_it w (fun n σ' H' => Sm H1 H' ∧ ∃ ρ', SD X.K a T H' σ' ρ' ∧ J n ρ') ⟨Sm.refl H1, ρ, S.same s1, h0⟩ (fun i σ' H' _ hp => hG T H' (.same (S.same s1).dm hp.1)) (fun i x σ' H' H'' hi hp y => ?_) fun σ' H' hp => ?_
  · obtain ⟨s2, ρ', S', hj⟩ := hp
    obtain ⟨s3, d, hdi, pd⟩ := hY T i H' x H'' hi (.same (S.same s1).dm s2) y
    obtain ⟨ρ2, e2, hrun⟩ := hb i d ρ' hdi hj
    refine ht T σ' H'' x d ρ' ρ2 (S'.same s3) pd e2 _ fun σ2 S2 _ => ?_
    exact hrun T σ2 H'' _ S2 (fun σ3 H3 ρ3 s4 S3 n3 => ⟨(s2.trans s3).trans s4, ρ3, S3, n3⟩) fun v H3 d s4 p r => kr v H3 d (((s1.trans s2).trans s3).trans s4) p r
  · obtain ⟨s2, ρ', S', hj⟩ := hp
    exact kn σ' H' ρ' (s1.trans s2) S' (hd ρ' hj)
end
/-! ### comprehensions -/
section
variable {X : Cx} {a : Addr} {ρ : Rho} {N : Rho → Prop} {R : PyData → Prop} {tg it elt c : Expr} {ifs : List Expr} {scope : Scope} {own : List (Str × Nat)} {items : List PyData} {pos : Pos} {g : TG} {f : PyData → Rho → Option Rho}
/-- in every block that the comprehension may run in -/
def JEb (X : Cx) (scope : Scope) (e : Expr) : TE := fun σ H Q => ∀ s H0 C cl fp, JE (X.blk s H0 scope (compEnvC scope cl C X.env) fp) e σ H Q
def JTb (X : Cx) (scope : Scope) (e : Expr) : TT := fun σ H Q => ∀ s H0 C cl fp, JT (X.blk s H0 scope (compEnvC scope cl C X.env) fp) e σ H Q
def EvEb (X : Cx) (scope : Scope) (a : Addr) (e : Expr) (ρ : Rho) (d : PyData) : Prop := ∀ s H0 C cl fp, EvE (X.blk s H0 scope (compEnvC scope cl C X.env) fp) a e ρ d
def EvTb (X : Cx) (scope : Scope) (a : Addr) (e : Expr) (ρ : Rho) (b : Bool) : Prop := ∀ s H0 C cl fp, EvT (X.blk s H0 scope (compEnvC scope cl C X.env) fp) a e ρ b
/-- what a list that is being filled holds so far -/
def Fill (K : PySem.W.Frag) (T : Addr → Prop) (H1 : Hp) (D : Addr) (ds : List PyData) (H' : Hp) : Prop := H1 D = none ∧ Sm H1 H' ∧ ∃ acc, H' D = some (.lst acc) ∧ DpAll K (off (fun b => T b ∨ b = D) H') acc ds
theorem Fill.sees {K : PySem.W.Frag} {T : Addr → Prop} {H1 H' : Hp} {D : Addr} {ds : List PyData} (t : Din T H1) (h : Fill K T H1 D ds H') : Sees T H1 (fun b => T b ∨ b = D) H' := by
  obtain ⟨h1, h2, acc, h3, h4⟩ := h
  refine ⟨⟨fun b hb => ?_, (t.same h2).tb⟩, fun b o ho n => ?_⟩
  · rcases hb with hb | hb
    · exact (t.same h2).dn b hb
    · rw [hb, h3]
      simp
  · obtain ⟨q1, q2⟩ := off_some ho
    rw [off_no (fun z => z.elim q2 fun z => by rw [z, h1] at q1; cases q1)]
    exact h2.ob b o q1 n
theorem Fill.same {K : PySem.W.Frag} {T : Addr → Prop} {H1 H' H'' : Hp} {D : Addr} {ds : List PyData} (h : Fill K T H1 D ds H') (s : Sm H' H'') : Fill K T H1 D ds H'' := by
  obtain ⟨h1, h2, acc, h3, h4⟩ := h
  exact ⟨h1, h2.trans s, acc, s.ob _ _ h3 (by intro ps z; cases z), dpso s h4⟩
theorem Fill.done {K : PySem.W.Frag} {T : Addr → Prop} {H1 H' : Hp} {D : Addr} {ds : List PyData} (h : Fill K T H1 D ds H') (hT : ¬ T D) : Sm H1 H' ∧ Dp K (off T H') (.ref D) (.list ds) := by
  obtain ⟨h1, h2, acc, h3, h4⟩ := h
  exact ⟨h2, .lst (.of (by rw [off_no hT]; exact h3)) (dps_same off_less h4)⟩
theorem Sm.putL {H1 H' : Hp} {D : Addr} {acc acc' : List V} (s : Sm H1 H') (h1 : H1 D = none) (h3 : H' D = some (.lst acc)) : Sm H1 (upd H' D (.lst acc')) := ⟨fun b o e n => by
    rw [upd_ne (fun z => by rw [z, h1] at e; cases e)]
    exact s.ob b o e n, fun P t => by
    have t1 := t
    obtain ⟨ps, g1, _⟩ := t1
    obtain ⟨ps, g2, g3, g4⟩ := s.tb P t
    refine ⟨ps, by rw [upd_ne (fun z => by rw [z, h1] at g1; cases g1)]; exact g2, g3, fun pos cv hc => ?_⟩
    obtain ⟨c, e1, e2⟩ := g4 pos cv hc
    exact ⟨c, e1, by rw [upd_ne (fun z => by rw [z, h3] at e2; unfold LamX.CodeO at e2; cases e2)]; exact e2⟩, fun b hb => by
    rw [upd_ne (fun z => hb (by rw [z]; exact h1))]
    exact s.dm b hb⟩
theorem Fill.add {K : PySem.W.Frag} {T : Addr → Prop} {H1 H' : Hp} {D : Addr} {ds : List PyData} {d : PyData} {y : V} {acc : List V} (h1 : H1 D = none) (h2 : Sm H1 H') (h3 : H' D = some (.lst acc))
    (h4 : DpAll K (off (fun b => T b ∨ b = D) H') acc ds) (hy : Dp K (off (fun b => T b ∨ b = D) H') y d) : Fill K T H1 D (ds ++ [d]) (upd H' D (.lst (acc ++ [y]))) := by
  refine ⟨h1, h2.putL h1 h3, acc ++ [y], upd_same, ?_⟩
  rw [off_put (.inr rfl)]
  exact dps_snoc h4 hy
def kept (keep : PyData → Bool) (val : PyData → PyData) (items : List PyData) : List PyData := (items.filter keep).map val
theorem kept_succ {keep : PyData → Bool} {val : PyData → PyData} {i : Nat} {d : PyData} (h : items[i]? = some d) : kept keep val (items.take (i + 1)) = if keep d then kept keep val (items.take i) ++ [val d] else kept keep val (items.take i) := by
  unfold kept
  rw [List.take_add_one, h]
  simp only [Option.toList_some, List.filter_append, List.map_append]
  cases hk : keep d with
  | true => rw [if_pos rfl, List.filter_cons_of_pos hk] <;> rfl
  | false =>
    rw [List.filter_cons_of_neg (by rw [hk]; exact Bool.false_ne_true)]
    show _ ++ ([] : List PyData) = _
    rw [List.append_nil] <;> rfl
theorem kept_len {keep : PyData → Bool} {val : PyData → PyData} : (kept keep val items).length ≤ items.length := by
  unfold kept
  rw [List.length_map]
  exact List.length_filter_le _ _
/-- the reading of a comprehension, from its turns -/
theorem lc_read {wi : TI} {tt : TT} {te : TE} {vs : List Nat} {keep : PyData → Bool} {val : PyData → PyData} {T : Addr → Prop} {σ : L2.St} {H : Hp} {Q : VK} (S : SD X.K a T H σ ρ) (hz : items.length < 100000)
    (hq : ∀ R : It → Hp → Prop,
  (∀ J H1 (Gd : Hp → Prop) Y, Sm H H1 → Walk J items.length Gd Y → (∀ T' H', Sees T H1 T' H' → Gd H') →
    (∀ T' i H' x H'', i < items.length → Sees T H1 T' H' → Y i H' x H'' → Sm H' H'' ∧ ∃ d, items[i]? = some d ∧ Dp X.K (off T' H'') x d) → R J H1) → wi σ H R)
    (ht : TgSem X.K a g vs f)
    (hb : ∀ d, d ∈ items → ∃ ρ2, f d (wipeR ρ vs) = some ρ2 ∧ (∀ T σ H, SD X.K a T H σ ρ2 → ∀ Q : Bool → Hp → Prop, (∀ H2, Sm H H2 → Q (keep d) H2) → tt σ H Q) ∧
      (keep d = true → ∀ T σ H, SD X.K a T H σ ρ2 → ∀ Q : VK, (∀ v H2, Sm H H2 → Dp X.K (off T H2) v (val d) → Q v H2) → te σ H Q))
    (k : ∀ v H2, Sm H H2 → Dp X.K (off T H2) v (.list (kept keep val items)) → Q v H2) : tLc wi g tt te vs σ H Q := by
  refine hq _ fun J H1 Gd Y s1 w hG hY => ?_
  intro D hD
  have S1 := S.same s1
  have nD : ¬ T D := fun z => S1.dm.dn D z hD
  refine lc_it w (fun n H' => Fill X.K T H1 D (kept keep val (items.take n)) H') ⟨hD, same_new hD, [], upd_same, .nil⟩
    (fun i H' _ p => hG _ H' (p.sees S1.dm)) (fun i x H' H'' hi p y => ?_) fun H' p => ?_
  · have sees := p.sees S1.dm
    obtain ⟨s3, d, hdi, pd⟩ := hY _ i H' x H'' hi sees y
    obtain ⟨ρ2, e2, k1, k2⟩ := hb d (List.mem_of_getElem? hdi)
    have p' := p.same s3
    have sees' := p'.sees S1.dm
    have S2 : SD X.K a (fun b => T b ∨ b = D) H'' (L2.wipe σ vs) (wipeR ρ vs) := ⟨(S1.wipe vs).len, sees'.1, fun j z e => by
      obtain ⟨v, q1, q2⟩ := (S1.wipe vs).sl j z e
      refine ⟨v, q1, ?_⟩
      cases z with
      | dat d => exact dp_same sees'.2 q2
      | hnd => exact q2
      | adr _ => exact q2
      | val R => exact VR.same (R := R) sees'.2 q2⟩
    refine ht _ _ H'' x d _ ρ2 S2 pd e2 _ fun σ2 S3 hw => ⟨?_, ?_⟩
    · rw [hw]
      apply List.ext_getElem?
      intro n
      rw [wipe_get, wipe_get, wipe_length]
      by_cases hn : n ∈ vs
      · rw [if_pos hn, if_pos hn]
      · rw [if_neg hn, if_neg hn]
    · refine k1 _ σ2 H'' S3 _ fun H3 s4 => ?_
      rw [kept_succ hdi]
      cases hk : keep d with
      | false => exact iteF (p'.same s4)
      | true =>
        refine iteT (k2 hk _ σ2 H3 (S3.same s4) _ fun y H4 s5 py => ?_)
        obtain ⟨h1, h2, acc, h3, h4⟩ := (p'.same s4).same s5
        refine ⟨acc, h3, ?_, .add h1 h2 h3 h4 py⟩
        have := dps_len h4
        have := kept_len (keep := keep) (val := val) (items := items.take i)
        have := List.length_take_le i items
        exact Nat.lt_of_lt_of_le (show acc.length < 100000 by omega) (by decide)
  · rw [List.take_length] at p
    obtain ⟨q1, q2⟩ := p.done nD
    exact k _ H' (s1.trans q1) q2
theorem e_lc {keep : PyData → Bool} {val : PyData → PyData} (G : Good X) (hs : Src X a tg it ρ items) (hz : items.length < 100000) (ok : BlkOk X.N X.env.scope scope own)
    (hg : ∀ (s : Shared) (H : Hp) (C : Addr) (cl : List (Str × Addr)) (fp : List Addr), PG (X.blk s H scope (compEnvC scope cl C X.env) fp) tg g) (ht : TgSem X.K a g (own.map (·.2)) f)
    (hb : ∀ d, d ∈ items → ∃ ρ2, f d (wipeR ρ (own.map (·.2))) = some ρ2 ∧ EvTb X scope a c ρ2 (keep d) ∧ (keep d = true → EvEb X scope a elt ρ2 (val d)))
    (hf : ∀ x, foldedSetIterable it X.env x = pure x := by intro _; rfl) : EvE X a (.ListComp elt [⟨tg, it, [c], 0⟩] scope pos) ρ (.list (kept keep val items)) := fun T σ H S Q q => by
  obtain ⟨wi, hw, hq⟩ := hs
  refine toE (pe_lc (own := own) (te := JEb X scope elt) (tt := JTb X scope c) G.calm G.nd hw ok hg (fun s H0 C cl fp => pts_one ⟨fun pins s' σ' H' Q' I h => h s H0 C cl fp pins s' I⟩) (fun s H0 C cl fp => ⟨fun pins s' σ' H' Q' I h => h s H0 C cl fp pins s' I⟩) hf) ?_
  refine lc_read (f := f) S hz (hq T σ H S) ht (fun d hd => ?_) q
  obtain ⟨ρ2, e, k1, k2⟩ := hb d hd
  exact ⟨ρ2, e, fun T σ H S Q q s H0 C cl fp => k1 s H0 C cl fp T σ H S Q q, fun hk T σ H S Q q s H0 C cl fp => k2 hk s H0 C cl fp T σ H S Q q⟩
def yes (_ : PyData) : Bool := true
theorem kept_yes {val : PyData → PyData} : kept yes val items = items.map val := by
  unfold kept
  rw [List.filter_eq_self.mpr (show ∀ z ∈ items, yes z = true from fun _ _ => rfl)]
theorem e_lc0 {val : PyData → PyData} (G : Good X) (hs : Src X a tg it ρ items) (hz : items.length < 100000) (ok : BlkOk X.N X.env.scope scope own)
    (hg : ∀ (s : Shared) (H : Hp) (C : Addr) (cl : List (Str × Addr)) (fp : List Addr), PG (X.blk s H scope (compEnvC scope cl C X.env) fp) tg g) (ht : TgSem X.K a g (own.map (·.2)) f)
    (hb : ∀ d, d ∈ items → ∃ ρ2, f d (wipeR ρ (own.map (·.2))) = some ρ2 ∧ EvEb X scope a elt ρ2 (val d))
    (hf : ∀ x, foldedSetIterable it X.env x = pure x := by intro _; rfl) : EvE X a (.ListComp elt [⟨tg, it, [], 0⟩] scope pos) ρ (.list (items.map val)) := fun T σ H S Q q => by
  obtain ⟨wi, hw, hq⟩ := hs
  refine toE (pe_lc (own := own) (te := JEb X scope elt) (tt := tYes) G.calm G.nd hw ok hg (fun s H0 C cl fp => pts_nil) (fun s H0 C cl fp => ⟨fun pins s' σ' H' Q' I h => h s H0 C cl fp pins s' I⟩) hf) ?_
  rw [← kept_yes] at q
  refine lc_read (f := f) (keep := yes) S hz (hq T σ H S) ht (fun d hd => ?_) q
  obtain ⟨ρ2, e, k2⟩ := hb d hd
  exact ⟨ρ2, e, fun T σ H S Q q => q H (Sm.refl H), fun hk T σ H S Q q s H0 C cl fp => k2 s H0 C cl fp T σ H S Q q⟩
theorem rs_lc {i : Nat} {y : Str} {py spos : Pos} {keep : PyData → Bool} {val : PyData → PyData} (G : Good X) (hs : Src X a tg it ρ items) (hz : items.length < 100000) (ok : BlkOk X.N X.env.scope scope own)
    (hg : ∀ (s : Shared) (H : Hp) (C : Addr) (cl : List (Str × Addr)) (fp : List Addr), PG (X.blk s H scope (compEnvC scope cl C X.env) fp) tg g) (ht : TgSem X.K a g (own.map (·.2)) f)
    (hb : ∀ d, d ∈ items → ∃ ρ2, f d (wipeR ρ (own.map (·.2))) = some ρ2 ∧ EvTb X scope a c ρ2 (keep d) ∧ (keep d = true → EvEb X scope a elt ρ2 (val d)))
    (hn : N (ρ.set i (some (.dat (.list (kept keep val items)))))) (hy : X.N[i]? = some y := by rfl) (hyl : X.env.scope.names.lookup y = some .local := by rfl)
    (hsw : swapsWith (.ListComp elt [⟨tg, it, [c], 0⟩] scope pos) (some (.Name y py)) spos.line X.env = pure true := by exact sw_true rfl rfl rfl (by decide +kernel))
    (hf : ∀ x, foldedSetIterable it X.env x = pure x := by intro _; rfl) : RunS X a (.Assign [.Name y py] (.ListComp elt [⟨tg, it, [c], 0⟩] scope pos) spos) ρ N R := fun T σ H D S kn kr => by
  obtain ⟨wi, hw, hq⟩ := hs
  refine toS (ps_setLc (own := own) (te := JEb X scope elt) (tt := JTb X scope c) G.calm G.nd hy hyl hsw hw ok hg (fun s H0 C cl fp => pts_one ⟨fun pins s' σ' H' Q' I h => h s H0 C cl fp pins s' I⟩) (fun s H0 C cl fp => ⟨fun pins s' σ' H' Q' I h => h s H0 C cl fp pins s' I⟩) hf) ?_
  refine lc_read (f := f) S hz (hq T σ H S) ht (fun d hd => ?_) fun v H2 s2 p2 => kn _ H2 _ s2 ((S.same s2).put (x := .dat _) p2) hn
  obtain ⟨ρ2, e, k1, k2⟩ := hb d hd
  exact ⟨ρ2, e, fun T σ H S Q q s H0 C cl fp => k1 s H0 C cl fp T σ H S Q q, fun hk T σ H S Q q s H0 C cl fp => k2 hk s H0 C cl fp T σ H S Q q⟩
theorem rs_lc0 {i : Nat} {y : Str} {py spos : Pos} {val : PyData → PyData} (G : Good X) (hs : Src X a tg it ρ items) (hz : items.length < 100000) (ok : BlkOk X.N X.env.scope scope own)
    (hg : ∀ (s : Shared) (H : Hp) (C : Addr) (cl : List (Str × Addr)) (fp : List Addr), PG (X.blk s H scope (compEnvC scope cl C X.env) fp) tg g) (ht : TgSem X.K a g (own.map (·.2)) f)
    (hb : ∀ d, d ∈ items → ∃ ρ2, f d (wipeR ρ (own.map (·.2))) = some ρ2 ∧ EvEb X scope a elt ρ2 (val d))
    (hn : N (ρ.set i (some (.dat (.list (items.map val)))))) (hy : X.N[i]? = some y := by rfl) (hyl : X.env.scope.names.lookup y = some .local := by rfl)
    (hsw : swapsWith (.ListComp elt [⟨tg, it, [], 0⟩] scope pos) (some (.Name y py)) spos.line X.env = pure true := by exact sw_true rfl rfl rfl (by decide +kernel))
    (hf : ∀ x, foldedSetIterable it X.env x = pure x := by intro _; rfl) : RunS X a (.Assign [.Name y py] (.ListComp elt [⟨tg, it, [], 0⟩] scope pos) spos) ρ N R := fun T σ H D S kn kr => by
  obtain ⟨wi, hw, hq⟩ := hs
  refine toS (ps_setLc (own := own) (te := JEb X scope elt) (tt := tYes) G.calm G.nd hy hyl hsw hw ok hg (fun s H0 C cl fp => pts_nil) (fun s H0 C cl fp => ⟨fun pins s' σ' H' Q' I h => h s H0 C cl fp pins s' I⟩) hf) ?_
  rw [← kept_yes] at hn
  refine lc_read (f := f) (keep := yes) S hz (hq T σ H S) ht (fun d hd => ?_) fun v H2 s2 p2 => kn _ H2 _ s2 ((S.same s2).put (x := .dat _) p2) hn
  obtain ⟨ρ2, e, k2⟩ := hb d hd
  exact ⟨ρ2, e, fun T σ H S Q q => q H (Sm.refl H), fun hk T σ H S Q q s H0 C cl fp => k2 s H0 C cl fp T σ H S Q q⟩
end
end Zj
/-! Defs by their blocks; repr of data; defs that want nothing under way of repr. -/
namespace Zj
open PySem PySem.Spec PyProof.Rows L2
variable [Nm]
section
variable {P : Program} {w : World} {K : PySem.W.Frag} {mg : Str → Option Value} {base : Heap}
/-- a def that hands on data, from its block -/
theorem fnR {x qual : Str} {st : Stmt} {f : Addr} {fd : FuncData} {N ps : List Str} {k : Nat} {R : List PyData → PyData → Prop} (F : Fun K x qual st f fd) (S : FnScope N ps (defScope st)) (hl : ∀ ds d, R ds d → ds.length = ps.length)
    (hb : ∀ (cdv : Value) (A : Around) (outer : List Env) (s : Shared) (H : Hp) (E : XK), Good (cxOf CX0 P w K mg base N qual (defScope st) f cdv A outer s H E).nox → Room k (cxOf CX0 P w K mg base N qual (defScope st) f cdv A outer s H E).nox.A → ∀ ds d, R ds d →
      Run (cxOf CX0 P w K mg base N qual (defScope st) f cdv A outer s H E).nox 0 (defBody st) (dats ds ++ List.replicate (N.length - ds.length) none) (fun _ => d = .none) (fun d' => d' = d)) : FnOk P w K mg base CX0 (k + 1) f fd ps (spR K R) :=
  F.ok S (fun vs H Q E h => by
    obtain ⟨T, ds, d, _, h1, h2, _⟩ := h
    rw [dps_len h1]
    exact hl ds d h2) fun cdv A outer s H vs Q E hr h => by
    obtain ⟨T, ds, d, dm, h1, h2, h3⟩ := h
    refine ⟨_, jss, hb cdv A outer s H E ⟨S.nd, rfl, PassesOwn.never, hr.units⟩ hr ds d h2 T _ H _ (SD.start dm h1) (fun σ' H' ρ' s1 S1 e => ?_) fun v H' d' s1 p e => ?_⟩
    · exact h3 _ H' s1 (by rw [e]; exact .non)
    · subst e
      exact h3 v H' s1 p
end

/-! ### repr -/
mutual
/-- data whose text is no long one -/
def Tm : PyData → Prop
  | .none | .bool _ => True
  | .int i => i.natAbs.log2 < 1920
  | .str x => ∀ c ∈ x.cps.toList, c < 16 ^ 8
  | .list xs | .tuple xs => TmAll xs
  | .dict _ => False
def TmAll : List PyData → Prop
  | [] => True
  | x :: xs => Tm x ∧ TmAll xs
end
mutual
theorem tm_show : ∀ d : PyData, Tm d → d.showable = true ∧ d.hasDict = false ∧ d.leavesShort 2000 = true
  | .none, _ => ⟨by simp only [PyData.showable], by simp only [PyData.hasDict], by simp only [PyData.leavesShort]⟩
  | .bool _, _ => ⟨by simp only [PyData.showable], by simp only [PyData.hasDict], by simp only [PyData.leavesShort]⟩
  | .int i, h => by
    have h : i.natAbs.log2 < 1920 := by simpa only [Tm] using h
    refine ⟨by simp only [PyData.showable]; exact decide_eq_true h, by simp only [PyData.hasDict], ?_⟩
    simp only [PyData.leavesShort, PyData.shown]
    have := int_text_len_1921 h
    exact decide_eq_true (by omega)
  | .str x, h => by
    have h : ∀ c ∈ x.cps.toList, c < 16 ^ 8 := by simpa only [Tm] using h
    refine ⟨by simp only [PyData.showable], by simp only [PyData.hasDict], ?_⟩
    simp only [PyData.leavesShort, List.all_eq_true, decide_eq_true_eq]
    exact h
  | .list xs, h => by
    obtain ⟨h1, h2, h3⟩ := tm_showAll xs (by simpa only [Tm] using h)
    exact ⟨by simpa only [PyData.showable] using h1, by simpa only [PyData.hasDict] using h2, by simpa only [PyData.leavesShort] using h3⟩
  | .tuple xs, h => by
    obtain ⟨h1, h2, h3⟩ := tm_showAll xs (by simpa only [Tm] using h)
    exact ⟨by simpa only [PyData.showable] using h1, by simpa only [PyData.hasDict] using h2, by simpa only [PyData.leavesShort] using h3⟩
  | .dict _, h => by simp only [Tm] at h
theorem tm_showAll : ∀ ds : List PyData, TmAll ds → PyData.showableAll ds = true ∧ PyData.hasDictAll ds = false ∧ PyData.leavesShortAll 2000 ds = true
  | [], _ => ⟨by simp only [PyData.showableAll], by simp only [PyData.hasDictAll], by simp only [PyData.leavesShortAll]⟩
  | x :: xs, h => by
    have h : Tm x ∧ TmAll xs := by simpa only [TmAll] using h
    obtain ⟨a1, a2, a3⟩ := tm_show x h.1
    obtain ⟨b1, b2, b3⟩ := tm_showAll xs h.2
    exact ⟨by simp only [PyData.showableAll, a1, b1, Bool.and_self], by simp only [PyData.hasDictAll, a2, b2, Bool.or_self], by simp only [PyData.leavesShortAll, a3, b3, Bool.and_self]⟩
end
structure Tame (d : PyData) : Prop where
  tm : Tm d
  bk : d.bulk ≤ 8000
  dp : d.depth ≤ 60
theorem Tame.len {d : PyData} (t : Tame d) : d.shown.length ≤ sizeLine := by
  have h := PyData.shown_le_bulk 2000 (by decide) d (tm_show d t.tm).2.2
  have := t.bk
  have e : sizeLine = 16777216 := sizeLine_eq
  have : 2002 * d.bulk ≤ 2002 * 8000 := Nat.mul_le_mul_left _ t.bk
  omega
section
variable {X : Cx} {d : PyData}
theorem call_repr (hg : X.A.guards = some []) (hu : X.A.units + 64 < cLine) : CallR X (.builtin "repr") (fun vs H Q => ∃ v d, vs = [v] ∧ Dp X.K H v d ∧ Tame d ∧ Q (.str d.shown) H) := by
  intro pins s σ H vs us Q I r h
  obtain ⟨v, d, rfl, p, t, q⟩ := h
  obtain ⟨u, rfl, ru⟩ := vals1 r
  have ts := tm_show d t.tm
  have big : ∀ pa : Addr, u = .ref pa → wpAny (model X.prog X.w) X.A (call (.builtin "repr") [u]) (EP X pins σ Q) X.xe s := fun pa e => by
    subst e
    obtain ⟨as, hr⟩ := Dp.reads I d v _ p ru
    refine repr_of_reads' hr ts.1 (PyData.noDict_hsm ts.2.1) hg (by have := t.dp; omega) (fun _ _ e => e) (fun h' u tk hk => ?_) t.len
    exact ⟨.str d.shown, H, I.kept (t' := tk) hk, ⟨u, rfl⟩, q⟩
  cases p with
  | non =>
    cases ru
    exact PySem.P.repr_of_none ⟨.str _, H, I.tok _, ⟨_, rfl⟩, by simpa only [PyData.shown] using q⟩
  | bl b =>
    cases ru
    exact PySem.P.repr_of_bool ⟨.str _, H, I.tok _, ⟨_, rfl⟩, by simpa only [PyData.shown] using q⟩
  | int i =>
    obtain ⟨t', rfl⟩ := ru
    exact PySem.P.repr_of_int (by simpa only [Tm] using t.tm) ⟨.str _, H, I.tok _, ⟨_, rfl⟩, by simpa only [PyData.shown] using q⟩
  | str x =>
    obtain ⟨t', rfl⟩ := ru
    exact PySem.P.repr_of_str ⟨.str _, H, I.tok _, ⟨_, rfl⟩, by simpa only [PyData.shown] using q⟩ (by have := t.len; simpa only [PyData.shown] using this)
  | lst _ _ => exact big _ ru
  | tup _ _ => exact big _ ru
theorem ca_repr (hg : X.A.guards = some []) (hu : X.A.units + 64 < cLine) (t : Tame d) : CaD X (.builtin "repr") [d] (.str d.shown) := ⟨_, call_repr hg hu, fun T vs H dm p Q q => by
  obtain ⟨v, rfl, h⟩ := dps1 p
  exact ⟨v, d, rfl, dp_off h, t, q _ H (Sm.refl H) (.str _)⟩⟩
end

/-! ### defs that are called while no repr is under way -/
structure FnG (P : Program) (w : World) (K : PySem.W.Frag) (mg : Str → Option Value) (base : Heap) (CX : CXT) (k : Nat) (f : Addr) (fd : FuncData) (ps : List Str) (sp : Sp) : Prop where
  len : ∀ vs H Q E, sp vs H Q E → vs.length = ps.length
  run : ∀ (A : Around) (outer : List Env) (s : Shared) (H : Hp) (args : Args) (us : List Value) (vs : List V) (Q : VK) (E : XK), A.guards = some [] → Room k A → Env0 P w K mg base A outer s H → BindsTo s fd args (ps.zip us) → Vals vs us → sp vs H Q E →
    codeAny (model P w) A (.call (.ref f) args) (CR CX outer P w H s Q E) s
section
variable {P : Program} {w : World} {K : PySem.W.Frag} {mg : Str → Option Value} {base : Heap} {CX : CXT}
theorem FnG.of {k : Nat} {f : Addr} {fd : FuncData} {ps : List Str} {sp : Sp} (F : FnOk P w K mg base CX k f fd ps sp) : FnG P w K mg base CX k f fd ps sp :=
  ⟨F.len, fun A outer s H args us vs Q E _ hr e0 hb hv hs => F.run A outer s H args us vs Q E hr e0 hb hv hs⟩
theorem fnG {x qual : Str} {st : Stmt} {f : Addr} {fd : FuncData} {N ps : List Str} {k : Nat} {sp : Sp} (F : Fun K x qual st f fd) (S : FnScope N ps (defScope st)) (len : ∀ vs H Q E, sp vs H Q E → vs.length = ps.length)
    (hbody : ∀ (cdv : Value), fd.code = cdv → ∀ (A : Around) (outer : List Env) (s : Shared) (H : Hp) (vs : List V) (Q : VK) (E : XK), A.guards = some [] → Room k (A.deeper (envOfC qual (defScope st) s.heap.objs.size f cdv)) → sp vs H Q E →
      JSs (cxOf CX0 P w K mg base N qual (defScope st) f cdv A outer s H E).nox (defBody st) { nx := fun _ H' => Q .non H', rt := Q } (start N vs) H) : FnG P w K mg base CX0 (k + 1) f fd ps sp := by
  obtain ⟨oc, od, kV, doc, pm, an, cdv, ct, osl, rfl, lk, hcd⟩ := F.ex
  refine ⟨len, fun A outer s H args us vs Q E hgd hr e0 hb r hsp => ?_⟩
  have toS : ∀ b o, base.get? b = some o → s.heap.get? b = some o := fun b o e => (e0.bs b o e).1
  have KX : K.In s.heap := e0.mod.kin.keeps toS
  refine codeAny_call_function hr.depth (KX _ _ lk) rfl S.co S.gen rfl (PySem.W.codeRec_of KX hcd) (hb _ _ _ _ ?_)
  refine wpAny_newFunctionEnv_cells S.kind (fun y hy => ?_) fun env he s1 x => ?_
  · rcases S.par y.1 (List.of_mem_zip (show (y.1, y.2) ∈ ps.zip us from hy)).1 with q | q
    · exact .inl q
    · exact .inr ⟨q, PySem.W.cellsFrom_some _ _ _ (.inl q)⟩
  · subst he
    refine ⟨(e0.mod.nolimit.keeps toS).keeps x.toInCall.keep, codeAny_func ?_⟩
    have J0 := inv_start (CX := CX0) (E := E) S hr.hd e0 (len _ _ _ _ hsp) r x
    have body := (jss.nox).run [] s1 (start N vs) H _ J0 (hbody cdv rfl A outer s H vs Q E hgd (hr.deeper _) hsp)
    refine wpAny_mono body (fun fl s' hs => ?_) fun e s' hs => hs
    cases fl with
    | ret u =>
      obtain ⟨v, σ', H', J, rv, q⟩ := hs
      exact ⟨v, H', J.os, J.bare, J.base, J.hok, rv, q⟩
    | next =>
      obtain ⟨σ', H', J, q⟩ := hs
      exact ⟨.non, H', J.os, J.bare, J.base, J.hok, rfl, q⟩
    | brk =>
      obtain ⟨_, _, _, q⟩ := hs
      exact q.elim
    | cont =>
      obtain ⟨_, _, _, q⟩ := hs
      exact q.elim
end
structure CalG (P : Program) (w : World) (K : PySem.W.Frag) (mg : Str → Option Value) (base : Heap) (k : Nat) (x : Str) (ps : List Str) (sp : Sp) : Prop where
  ex : ∃ f fd, FnG P w K mg base CX0 k f fd ps sp ∧ mg x = some (.ref f) ∧ PySem.W.keepIn K (.ref f) = true ∧ Binds K fd ps []
section
variable {X : Cx} {k : Nat} {x : Str} {ps : List Str} {sp : Sp} {e : Expr} {es : List Expr} {p pos : Pos}
theorem pe_callG {t : TA} (C : CalG X.prog X.w X.K X.mg X.base k x ps sp) (hgd : X.A.guards = some []) (hr : Room k X.A) (ha : PA X (e :: es) t) (hg : Gl X x := by rfl) (hdb : (x == ("__debug__" : Str)) = false := by decide)
    (he : starEach (e :: es) X.env = (false, eval e X.env) :: starEach es X.env := by exact star_of rfl) (hpl : (backTo pos (starEach es X.env)).any (·.1) = false := by exact star_no rfl) :
    PE X (.Call (.Name x p) (e :: es) [] pos) (fun σ H Q => t σ H fun vs H1 => sp vs H1 Q E0) := by
  obtain ⟨f, fd, F, hm, hk, hb⟩ := C.ex
  refine ⟨fun pins s σ H Q I h => ?_⟩
  refine wpAny_Call_Name_kw (ld_glob I hg hm ?_ hdb)
  refine PySem.W.callWith_K (h₀ := X.base) I.ok.mod.kin hk (thn (ha.run pos pins s σ H _ I h) fun us s1 hv => ?_) he hpl
  obtain ⟨vs, H1, I1, r1, q1⟩ := hv
  refine ⟨I1.kIn, ?_⟩
  have hl : us.length = ps.length := by rw [← r1.length]; exact F.len _ _ _ _ q1
  have hbd := hb s1 us I1.kIn (by rw [List.append_nil]; exact hl)
  rw [List.append_nil] at hbd
  refine wpAny_call (codeAny_mono (F.run X.A X.stack s1 H1 ⟨us, []⟩ us vs Q E0 hgd hr I1.env0 hbd r1 q1) fun r s' hq => ?_)
  cases r with
  | error e => exact hq.elim
  | ok fl =>
    cases fl with
    | ret u => exact I1.after hq
    | next => exact hq.elim
    | brk => exact hq.elim
    | cont => exact hq.elim
end
end Zj
/-! The law's own call, at the top. -/
namespace Zj
open PySem PySem.Spec PyProof.Rows L2
variable [Nm]
section
variable {P : Program} {w : World} {K : PySem.W.Frag} {mg mb : Str → Option Value} {k : Nat} {fa a : Addr} {fd : FuncData} {x : Str} {sp : Sp} {s1 : Shared} {vs : List Value} {ns : List Int}
/-- from an abstract heap that tracks the script or nothing -/
theorem law_core (KX : K.In s1.heap) (hns : s1.heap.Ns mainGlobals mg) (hb : s1.heap.Ns builtinsNs mb) (hbb : ∀ x : Str, x ≠ "__name__" → mb x = bootBuiltins x) (hlim : s1.heap.NoLimit) (hg : s1.gens = #[])
    (ha : s1.heap.get? a = some { cls := .type "list", data := .seq vs.toArray }) (hr : Room k callerA)
    (F : ∀ base : Heap, K.In base → base.Ns mainGlobals mg → FnG P w K mg base CX0 k fa fd [x] sp) (hbind : ∀ (s : Shared) (u : Value), BindsTo s fd ⟨[u], []⟩ [(x, u)])
    {H : Hp} (hO : Only H) (hS : SqL K H a (ns.map V.int)) (hok : HOk P w H s1.heap) (hA : ∀ b, H b ≠ none → b = a) (hK : H a ≠ none → K.lookup a = none)
    (hsp : sp [.ref a] H (fun v _ => v = .bl true) fun _ _ _ => False) :
    codeAny (model P w) callerA (.call (.ref fa) ⟨[.ref a], []⟩) (fun r s' => r = .ok (.ret (.bool true)) ∧ OldK s1.heap s'.heap ∧ s'.os = s1.os ∧ AllBare s'.gens) s1 := by
  have only : ∀ {b : Addr} {o : Obj}, s1.heap.get? b = some o → (∀ vs n, o.data ≠ .seq vs n) → H b = none := fun {b o} e d => by
    cases q : H b with
    | none => rfl
    | some u =>
      have e' := hA b (by rw [q]; exact fun z => by cases z)
      rw [e', ha] at e
      cases e
      exact (d _ _ rfl).elim
  have ns' : ∀ {b : Addr} {m : Str → Option Value}, s1.heap.Ns b m → (hidT s1.heap H).Ns b m := fun {b m} ⟨o, es, ep, e, d, r⟩ =>
    ⟨o, es, ep, hidT_get e (only e fun vs n z => by rw [d] at z; cases z), d, r⟩
  have kin : K.In (hidT s1.heap H) := fun b o e => by
    refine hidT_get (KX b o e) ?_
    cases q : H b with
    | none => rfl
    | some u =>
      have e' := hA b (by rw [q]; exact fun z => by cases z)
      subst e'
      rw [hK (by rw [q]; exact fun z => by cases z)] at e
      cases e
  obtain ⟨mc, lim1, lim2⟩ := hlim
  have md : L2.Mod K mg (hidT s1.heap H) := ⟨kin, ns' hns, ⟨mb, ns' hb, hbb⟩, ⟨mc, ns' lim1, lim2⟩⟩
  have e0 : Env0 P w K mg (hidT s1.heap H) callerA [] s1 H := {
    frames := rfl
    mod := md
    bs := fun b o e => of_hidT e
    bsz := Nat.le_of_eq (hidT_size _ _)
    funs := trivial
    frf := fun b z => by cases z
    hok := hok
    bare := .of_eq hg }
  have run := (F _ kin (ns' hns)).run callerA [] s1 H ⟨[.ref a], []⟩ [.ref a] [.ref a] _ _ rfl hr e0 (hbind s1 (.ref a)) (.cons rfl .nil) hsp
  refine codeAny_mono run fun r s' h => ?_
  cases r with
  | error e => exact h.elim
  | ok fl =>
    cases fl with
    | next => exact h.elim
    | brk => exact h.elim
    | cont => exact h.elim
    | ret u =>
      obtain ⟨v, H', os, bare, un, hok', r', q⟩ := h
      cases q
      cases r'
      refine ⟨rfl, OldK.of_keep fun b o e => ?_, os, bare⟩
      rcases hO b with z | ⟨ob, xs, z⟩
      · exact un.keep b o e z (fun y => by cases y) (fun y => by cases y)
      · have g1 := (hok b _ z).1
        have g2 := (hok' b _ (un.frzs b ob _ z)).1
        rw [e] at g1
        cases g1
        exact g2
theorem law_endG (KX : K.In s1.heap) (hns : s1.heap.Ns mainGlobals mg) (hb : s1.heap.Ns builtinsNs mb) (hbb : ∀ x : Str, x ≠ "__name__" → mb x = bootBuiltins x) (hlim : s1.heap.NoLimit) (hg : s1.gens = #[])
    (ha : s1.heap.get? a = some { cls := .type "list", data := .seq vs.toArray }) (hi : IntsAre vs ns) (hl : ns.length ≤ sizeLine) (hr : Room k callerA)
    (F : ∀ base : Heap, K.In base → base.Ns mainGlobals mg → FnG P w K mg base CX0 k fa fd [x] sp) (hbind : ∀ (s : Shared) (u : Value), BindsTo s fd ⟨[u], []⟩ [(x, u)])
    (hsp : ∀ H : Hp, Only H → SqL K H a (ns.map V.int) → sp [.ref a] H (fun v _ => v = .bl true) fun _ _ _ => False) :
    codeAny (model P w) callerA (.call (.ref fa) ⟨[.ref a], []⟩) (fun r s' => r = .ok (.ret (.bool true)) ∧ OldK s1.heap s'.heap ∧ s'.os = s1.os ∧ AllBare s'.gens) s1 := by
  have rv := vals_ints hi
  cases hk : K.lookup a with
  | some o =>
    have e := KX a o hk
    rw [ha] at e
    cases e
    have hS : SqL K (fun _ => none) a (ns.map V.int) := .inr ⟨_, vs.toArray, _, hk, rfl, rfl, rfl, by rw [List.size_toArray, hi.length]; exact hl, by simpa using rv⟩
    have hO : Only fun _ => none := fun _ => .inl rfl
    exact law_core KX hns hb hbb hlim hg ha hr F hbind hO hS (fun b u z => by cases z) (fun b z => (z rfl).elim) (fun z => (z rfl).elim) (hsp _ hO hS)
  | none =>
    let H0 : Hp := upd (fun _ => none) a (.frz { cls := .type "list", data := .seq vs.toArray } (.lst (ns.map V.int)))
    have at0 : ∀ b, b ≠ a → H0 b = none := fun b hb => upd_ne hb
    have hS : SqL K H0 a (ns.map V.int) := .inl (.inr ⟨_, upd_same⟩)
    have hO : Only H0 := fun b => by
      by_cases hb : b = a
      · subst hb
        exact .inr ⟨_, _, upd_same⟩
      · exact .inl (at0 b hb)
    refine law_core KX hns hb hbb hlim hg ha hr F hbind hO hS (fun b u z => ?_) (fun b z => ?_) (fun _ => hk) (hsp _ hO hS)
    · by_cases hb : b = a
      · subst hb
        have z' := upd_same.symm.trans z
        cases z'
        exact ⟨ha, by rw [List.length_map]; exact hl, vs, _, rv, ha⟩
      · rw [at0 b hb] at z
        cases z
    · by_cases hb : b = a
      · exact hb
      · exact absurd (at0 b hb) z
end
theorem walk_G {l : PySem.W.OpenLaw} {n k : Nat} {q : Program} {loose : List Str} {XP : (Str → Option Value) → Heap → Prop} {YP : World → Heap → Prop} {d : DefRec} {K : Params → PySem.W.Frag} {sp : PySem.W.Frag → Sp} {x : Str}
    (hn : l.most = some n) (hn2 : n ≤ sizeLine) (hdf : d.params.defaults = []) (hr : Room k callerA) (hY : ∀ (w : World) (h : Heap), YP w h → (K w.params).In h)
    (F : ∀ (w : World) (mg : Str → Option Value) (fa : Addr) (h : Heap), (K w.params).In h → h.Ns mainGlobals mg → mg d.name = some (.ref fa) →
      ∃ fd : FuncData, (∀ (s : Shared) (u : Value), BindsTo s fd ⟨[u], []⟩ [(x, u)]) ∧ ∀ base : Heap, (K w.params).In base → base.Ns mainGlobals mg → FnG l.prog w (K w.params) mg base CX0 k fa fd [x] (sp (K w.params)))
    (hsp : ∀ (K : PySem.W.Frag) (H : Hp) (a : Addr) (ns : List Int), ns.length ≤ n → (∀ z ∈ ns, Builtin.Int.intBits z ≤ 1048576) → Only H → SqL K H a (ns.map V.int) → sp K [.ref a] H (fun v _ => v = .bl true) fun _ _ _ => False) :
    PySem.W.WalkO q loose XP YP l.row.toRowW d [] (fun f vs => PySem.call f vs) :=
  Att.attach_callB hn hdf fun w s0 s1 mg mb fa o pm cd doc a vs ns G Y ho hd hcd hmg hobj hints hlen hbits hg => by
    obtain ⟨fd, hb, hF⟩ := F w mg fa _ (hY w _ Y) G.T.g hmg
    exact law_endG (hY w _ Y) G.T.g G.T.b G.T.builtins G.T.nolimit hg hobj hints (Nat.le_trans hlen hn2) hr hF hb fun H hO hS => hsp _ H a ns hlen hbits hO hS
end Zj
/-! Text that draws from the law's own state. -/
namespace Zj
open PySem PySem.Spec PyProof.Rows L2
variable [Nm]
/-- the pairs of the law's state -/
def sts (left seed : Int) (pc : Addr) (spot : Int) : List (Key × V) := [(Sum.inr "left", .int left), (Sum.inr "seed", .int seed), (Sum.inr "cells", .ref pc), (Sum.inr "spot", .int spot)]
/-- the law's state stands at a; n more numbers may be drawn -/
def MS (K : PySem.W.Frag) (H : Hp) (a : Addr) (n : Nat) : Prop := ∃ (left seed : Int) (pc : Addr) (spot : Int) (cells : List Int), H a = some (.dK (sts left seed pc spot)) ∧ SqL K H pc (cells.map V.int) ∧ 1 ≤ cells.length ∧ cells.length ≤ 100 ∧
  (∀ c ∈ cells, Bits 2000000 c) ∧ 0 ≤ seed ∧ seed < 2147483647 ∧ 0 ≤ spot ∧ spot + n ≤ 1000000000000
section
variable {K : PySem.W.Frag} {H H' : Hp} {a : Addr} {n m : Nat} {T : Addr → Prop} {σ : L2.St} {ρ : Rho}
theorem MS.mono (h : MS K H a n) (hm : m ≤ n) : MS K H a m := by
  obtain ⟨left, seed, pc, spot, cells, h1, h2, h3, h4, h5, h6, h7, h8, h9⟩ := h
  exact ⟨left, seed, pc, spot, cells, h1, h2, h3, h4, h5, h6, h7, h8, by omega⟩
theorem MS.same (h : MS K H a n) (s : Sa H H') : MS K H' a n := by
  obtain ⟨left, seed, pc, spot, cells, h1, h2, h3⟩ := h
  exact ⟨left, seed, pc, spot, cells, s _ _ h1 (by intro ps z; cases z), same_l s _ _ h2, h3⟩
theorem MS.dic (h : MS K H a n) : ∃ kvs, H a = some (.dK kvs) := by
  obtain ⟨left, seed, pc, spot, cells, h1, _⟩ := h
  exact ⟨_, h1⟩
theorem MS.vis (h : MS K (off T H) a n) : ¬ T a ∧ ∃ kvs, H a = some (.dK kvs) := by
  obtain ⟨kvs, h1⟩ := h.dic
  obtain ⟨h2, h3⟩ := off_some h1
  exact ⟨h3, kvs, h2⟩
theorem kp_off (s : Kp a H H') (h : ¬ T a) : Ka a (off T H) (off T H') := by
  refine ⟨fun b o hb e n => ?_, fun ⟨kvs, e⟩ => ?_⟩
  · obtain ⟨e1, e2⟩ := off_some e
    rw [off_no e2]
    exact s.ka.1 b o hb e1 n
  · obtain ⟨e1, e2⟩ := off_some e
    rw [off_no h]
    exact s.ka.2 ⟨kvs, e1⟩
theorem Din.kp (d : Din T H) (s : Kp a H H') : Din T H' := ⟨fun b hb => s.dm b (d.dn b hb), fun P hP => s.tb P (d.tb P hP)⟩
theorem SD.kpo (h : SD K a T H σ ρ) (s : Kp a H H') (m : MS K (off T H) a n) : SD K a T H' σ ρ := by
  obtain ⟨h1, kvs, h2⟩ := m.vis
  refine ⟨h.len, h.dm.kp s, fun i x e => ?_⟩
  obtain ⟨v, g1, g2⟩ := h.sl i x e
  refine ⟨v, g1, ?_⟩
  cases x with
  | dat d => exact dp_kp (kp_off s h1) m.dic g2
  | hnd => exact g2
  | adr _ => exact g2
  | val R => exact VR.kp (R := R) (kp_off s h1) m.dic g2
theorem dp_kpo {v : V} {d : PyData} (h : Dp K (off T H) v d) (s : Kp a H H') (m : MS K (off T H) a n) : Dp K (off T H') v d := dp_kp (kp_off s m.vis.1) m.dic h
theorem dps_kpo {v : List V} {d : List PyData} (h : DpAll K (off T H) v d) (s : Kp a H H') (m : MS K (off T H) a n) : DpAll K (off T H') v d := dps_kp (kp_off s m.vis.1) m.dic h
end

section
variable {X : Cx} {a : Addr} {ρ : Rho}
/-- an expression that may draw: from n left to m left, what comes of it is told by P -/
def EvM (X : Cx) (a : Addr) (e : Expr) (ρ : Rho) (n m : Nat) (P : PyData → Prop) : Prop := ∀ T σ H, SD X.K a T H σ ρ → MS X.K (off T H) a n → ∀ Q : VK, (∀ v d H2, Kp a H H2 → MS X.K (off T H2) a m → Dp X.K (off T H2) v d → P d → Q v H2) → JE X e σ H Q
def EvMT (X : Cx) (a : Addr) (e : Expr) (ρ : Rho) (n m : Nat) (P : Bool → Prop) : Prop := ∀ T σ H, SD X.K a T H σ ρ → MS X.K (off T H) a n → ∀ Q : Bool → Hp → Prop, (∀ b H2, Kp a H H2 → MS X.K (off T H2) a m → P b → Q b H2) → JT X e σ H Q
def EvMA (X : Cx) (a : Addr) (es : List Expr) (ρ : Rho) (n m : Nat) (P : List PyData → Prop) : Prop := ∀ T σ H, SD X.K a T H σ ρ → MS X.K (off T H) a n → ∀ Q : List V → Hp → Prop, (∀ vs ds H2, Kp a H H2 → MS X.K (off T H2) a m → DpAll X.K (off T H2) vs ds → P ds → Q vs H2) → JA X es σ H Q
variable {e l r : Expr} {es : List Expr} {pos : Pos} {n m k : Nat} {d : PyData} {P P1 : PyData → Prop} {P2 : PyData → PyData → Prop}
theorem m_pure (h : EvE X a e ρ d) (hp : P d) (hm : m ≤ n) : EvM X a e ρ n m P := fun T σ H S ms Q q => h T σ H S Q fun v H2 s p => q v d H2 (.of s) ((ms.same (off_same s)).mono hm) p hp
theorem mt_pure {b : Bool} {PB : Bool → Prop} (h : EvT X a e ρ b) (hp : PB b) (hm : m ≤ n) : EvMT X a e ρ n m PB := fun T σ H S ms Q q => h T σ H S Q fun H2 s => q b H2 (.of s) ((ms.same (off_same s)).mono hm) hp
theorem ma_pure {ds : List PyData} {PA : List PyData → Prop} (h : EvA X a es ρ ds) (hp : PA ds) (hm : m ≤ n) : EvMA X a es ρ n m PA := fun T σ H S ms Q q => h T σ H S Q fun vs H2 s p => q vs ds H2 (.of s) ((ms.same (off_same s)).mono hm) p hp
theorem m_weak {n' m' : Nat} {P' : PyData → Prop} (h : EvM X a e ρ n m P) (h1 : n ≤ n') (h2 : m' ≤ m) (h3 : ∀ d, P d → P' d) : EvM X a e ρ n' m' P' := fun T σ H S ms Q q => h T σ H S (ms.mono h1) Q fun v d H2 s ms2 p hp => q v d H2 s (ms2.mono h2) p (h3 d hp)
theorem ma_nil (hm : m ≤ n) : EvMA X a [] ρ n m (fun ds => ds = []) := ma_pure a_nil rfl hm
theorem ma_cons {P2 : PyData → List PyData → Prop} (h : EvM X a e ρ n m P) (h2 : ∀ d, P d → EvMA X a es ρ m k (P2 d)) (hs : starEach (e :: es) X.env = (false, eval e X.env) :: starEach es X.env := by exact star_of rfl) : EvMA X a (e :: es) ρ n k (fun ds => ∃ d ds', ds = d :: ds' ∧ P d ∧ P2 d ds') := fun T σ H S ms Q q =>
  toA (pa_cons je ja hs) (h T σ H S ms _ fun v d H1 s1 ms1 p1 hp => h2 d hp T σ H1 (S.kpo s1 ms) ms1 _ fun vs ds H2 s2 ms2 p2 hp2 => q _ _ H2 (s1.trans s2) ms2 (.cons (dp_kpo p1 s2 ms1) p2) ⟨d, ds, rfl, hp, hp2⟩)
theorem m_bin {op : Operator} (h1 : EvM X a l ρ n m P1) (h2 : ∀ d, P1 d → EvM X a r ρ m k (P2 d)) (ho : ∀ d1 d2, P1 d1 → P2 d1 d2 → ∃ d, OpD X (binaryOp op) d1 d2 d ∧ P d) : EvM X a (.BinOp l op r pos) ρ n k P := fun T σ H S ms Q q => by
  intro pins s I
  have key : ∀ (rr : R2), (∀ x y H Q, rr x y H Q → ∃ r' : R2, OpR X (binaryOp op) r' ∧ r' x y H Q) → OpR X (binaryOp op) rr := fun rr hrr pins s σ H x y v u Q I rx ry h => by
    obtain ⟨r', h1, h2⟩ := hrr x y H Q h
    exact h1 pins s σ H x y v u Q I rx ry h2
  refine (pe_op (key (fun x y H Q => ∃ r' : R2, OpR X (binaryOp op) r' ∧ r' x y H Q) fun _ _ _ _ h => h) je je).run pins s σ H Q I ?_
  refine h1 T σ H S ms _ fun v1 d1 H1 s1 ms1 p1 q1 => h2 d1 q1 T σ H1 (S.kpo s1 ms) ms1 _ fun v2 d2 H2 s2 ms2 p2 q2 => ?_
  obtain ⟨d, ⟨r', hr, hq⟩, hP⟩ := ho d1 d2 q1 q2
  exact ⟨r', hr, hq T v1 v2 H2 ((S.kpo s1 ms).kpo s2 ms1).dm (dp_kpo p1 s2 ms1) p2 Q fun v H3 s3 p3 => q v d H3 ((s1.trans s2).trans (.of s3)) (ms2.same (off_same s3)) p3 hP⟩
theorem m_cmp {op : CmpOp} (h1 : EvM X a l ρ n m P1) (h2 : ∀ d, P1 d → EvM X a r ρ m k (P2 d)) (ho : ∀ d1 d2, P1 d1 → P2 d1 d2 → ∃ d, OpD X (compareOp op) d1 d2 d ∧ P d) (hm : behindInMarks op r = false) : EvM X a (.Compare l [op] [r] pos) ρ n k P := fun T σ H S ms Q q => by
  intro pins s I
  have key : ∀ (rr : R2), (∀ x y H Q, rr x y H Q → ∃ r' : R2, OpR X (compareOp op) r' ∧ r' x y H Q) → OpR X (compareOp op) rr := fun rr hrr pins s σ H x y v u Q I rx ry h => by
    obtain ⟨r', h1, h2⟩ := hrr x y H Q h
    exact h1 pins s σ H x y v u Q I rx ry h2
  refine (pe_cmpR (key (fun x y H Q => ∃ r' : R2, OpR X (compareOp op) r' ∧ r' x y H Q) fun _ _ _ _ h => h) je je hm).run pins s σ H Q I ?_
  refine h1 T σ H S ms _ fun v1 d1 H1 s1 ms1 p1 q1 => h2 d1 q1 T σ H1 (S.kpo s1 ms) ms1 _ fun v2 d2 H2 s2 ms2 p2 q2 => ?_
  obtain ⟨d, ⟨r', hr, hq⟩, hP⟩ := ho d1 d2 q1 q2
  exact ⟨r', hr, hq T v1 v2 H2 ((S.kpo s1 ms).kpo s2 ms1).dm (dp_kpo p1 s2 ms1) p2 Q fun v H3 s3 p3 => q v d H3 ((s1.trans s2).trans (.of s3)) (ms2.same (off_same s3)) p3 hP⟩
theorem mt_cmp {op : CmpOp} {PB : Bool → Prop} (h1 : EvM X a l ρ n m P1) (h2 : ∀ d, P1 d → EvM X a r ρ m k (P2 d)) (ho : ∀ d1 d2, P1 d1 → P2 d1 d2 → ∃ b, OpD X (compareOp op) d1 d2 (.bool b) ∧ PB b) (hm : behindInMarks op r = false) : EvMT X a (.Compare l [op] [r] pos) ρ n k PB := fun T σ H S ms Q q => by
  intro pins s I
  have key : ∀ (rr : R2), (∀ x y H Q, rr x y H Q → ∃ r' : R2, OpR X (compareOp op) r' ∧ r' x y H Q) → OpR X (compareOp op) rr := fun rr hrr pins s σ H x y v u Q I rx ry h => by
    obtain ⟨r', h1, h2⟩ := hrr x y H Q h
    exact h1 pins s σ H x y v u Q I rx ry h2
  refine (pt_cmpR (key (fun x y H Q => ∃ r' : R2, OpR X (compareOp op) r' ∧ r' x y H Q) fun _ _ _ _ h => h) je je hm).run pins s σ H Q I ?_
  refine h1 T σ H S ms _ fun v1 d1 H1 s1 ms1 p1 q1 => h2 d1 q1 T σ H1 (S.kpo s1 ms) ms1 _ fun v2 d2 H2 s2 ms2 p2 q2 => ?_
  obtain ⟨b, ⟨r', hr, hq⟩, hP⟩ := ho d1 d2 q1 q2
  exact ⟨r', hr, hq T v1 v2 H2 ((S.kpo s1 ms).kpo s2 ms1).dm (dp_kpo p1 s2 ms1) p2 _ fun v H3 s3 p3 => ⟨b, dp_bool p3, q b H3 ((s1.trans s2).trans (.of s3)) (ms2.same (off_same s3)) hP⟩⟩
theorem mt_not {PB : Bool → Prop} (h : EvMT X a e ρ n m fun b => PB (!b)) : EvMT X a (.UnaryOp .Not e pos) ρ n m PB := fun T σ H S ms Q q => toT (pt_not jt) (h T σ H S ms _ fun b H2 s2 ms2 hp => q (!b) H2 s2 ms2 hp)
theorem mt_val {PB : Bool → Prop} (h : EvM X a e ρ n m fun d => ∃ b, d = .bool b ∧ PB b) (he : ∀ whole, isTrue e X.env whole = (do let v ← whole; standAt e.pos; holding [v] (truthy v)) := by intro _; rfl) : EvMT X a e ρ n m PB := fun T σ H S ms Q q =>
  toT (pt_val je he) (h T σ H S ms _ fun v d H2 s2 ms2 p hp => by
    obtain ⟨b, rfl, hb⟩ := hp
    exact ⟨b, dp_bool p, q b H2 s2 ms2 hb⟩)
/-- a or b, where a is known to fail -/
theorem mt_orF {PB : Bool → Prop} {b : Expr} {rest : List Expr} (h : EvMT X a e ρ n m fun b => b = false) (h2 : EvMT X a (.BoolOp .Or (b :: rest) pos) ρ m k PB) (hw : PW X (.BoolOp .Or (b :: rest) pos) (JT X (.BoolOp .Or (b :: rest) pos))) : EvMT X a (.BoolOp .Or (e :: b :: rest) pos) ρ n k PB := fun T σ H S ms Q q =>
  toT (PW.pt (pw_or jt hw)) (h T σ H S ms _ fun b H1 s1 ms1 hb => by
    subst hb
    exact iteF (h2 T σ H1 (S.kpo s1 ms) ms1 _ fun b H2 s2 ms2 hp => q b H2 (s1.trans s2) ms2 hp))
theorem m_ixL {o i : Expr} {ds : List PyData} {PI : PyData → Prop} (h1 : EvE X a o ρ (.list ds)) (h2 : EvM X a i ρ n m PI) (hi : ∀ d, PI d → ∃ j d', d = .int j ∧ atI ds j = some d' ∧ P d') (hs : PlainIx i := by exact fun _ _ => rfl) : EvM X a (.Subscript o i pos) ρ n m P := fun T σ H S ms Q q =>
  toE (pe_ix ix_list je je hs) (h1 T σ H S _ fun v1 H1 s1 p1 => h2 T σ H1 (S.same s1) (ms.same (off_same s1)) _ fun v2 d2 H2 s2 ms2 p2 hp2 => by
    obtain ⟨j, d', rfl, g0, gP⟩ := hi d2 hp2
    obtain ⟨pa, xs, rfl, g1, g2⟩ := dpo_lst (dp_kpo p1 s2 (ms.same (off_same s1)))
    obtain ⟨v, g3, g4⟩ := ati_dps g2 g0
    exact ⟨pa, xs, j, v, rfl, dp_int p2, g1, g3, q v d' H2 ((Kp.of s1).trans s2) ms2 g4 gP⟩)
end
end Zj
/-! Calls, blocks, loops, comprehensions that draw. -/
namespace Zj
open PySem PySem.Spec PyProof.Rows L2
variable [Nm]
/-- a def that may draw at most c numbers: of the arguments behind the state R tells what comes of them -/
def spM (K : PySem.W.Frag) (c : Nat) (R : List PyData → (PyData → Prop) → Prop) : Sp := fun vs H Q _ => ∃ a T n vs' ds P, vs = .ref a :: vs' ∧ Din T H ∧ MS K (off T H) a (n + c) ∧ DpAll K (off T H) vs' ds ∧ R ds P ∧ ∀ v d H', Kp a H H' → MS K (off T H') a n → Dp K (off T H') v d → P d → Q v H'
section
variable {X : Cx} {a : Addr} {ρ : Rho} {e l r : Expr} {es : List Expr} {pos p pm : Pos} {n m k c : Nat} {d : PyData} {P : PyData → Prop} {x y : Str} {ps : List Str} {lv : Nat}
theorem m_call {R : List PyData → (PyData → Prop) → Prop} {i : Nat} {ds : List PyData} (C : CalG X.prog X.w X.K X.mg X.base lv x ps (spM X.K c R)) (hgd : X.A.guards = some []) (hr : Room lv X.A) (hi : ρ[i]? = some (some .hnd)) (ha : EvA X a es ρ ds) (hR : R ds P) (hn : m + c ≤ n)
    (hN : X.N[i]? = some y := by rfl) (hv : Vis X.env.scope y := by first | exact Or.inl rfl | exact Or.inr (Or.inl rfl) | exact Or.inr (Or.inr rfl)) (hd : (y == ("__debug__" : Str)) = false := by decide) (hcd : (y == ("__classdict__" : Str)) = false := by decide)
    (hs : starEach (.Name y pm :: es) X.env = (false, eval (.Name y pm) X.env) :: starEach es X.env := by exact star_of rfl) (hg : Gl X x := by rfl) (hdb : (x == ("__debug__" : Str)) = false := by decide) (hpl : (backTo pos (starEach es X.env)).any (·.1) = false := by exact star_no rfl) :
    EvM X a (.Call (.Name x p) (.Name y pm :: es) [] pos) ρ n m P := fun T σ H S ms Q q => by
  obtain ⟨v, h1, h2⟩ := S.sl i _ hi
  have h2 : v = .ref a := h2
  subst h2
  refine toE (pe_callG C hgd hr (pa_cons (pe_var hN hv hd hcd) ja hs) hg hdb hs hpl) ⟨_, h1, ha T σ H S _ fun vs H1 s1 p1 => ?_⟩
  exact ⟨a, T, m, vs, ds, P, rfl, S.dm.same s1, (ms.same (off_same s1)).mono hn, p1, hR, fun v d H' s2 ms2 p2 hp => q v d H' ((Kp.of s1).trans s2) ms2 p2 hp⟩
/-- a def that keeps all, of what was drawn -/
theorem m_callR {R : List PyData → PyData → Prop} {PA : List PyData → Prop} (C : Cal X.prog X.w X.K X.mg X.base lv x ps (spR X.K R)) (hr : Room lv X.A) (ha : EvMA X a (e :: es) ρ n m PA) (hR : ∀ ds, PA ds → ∃ d, R ds d ∧ P d)
    (hg : Gl X x := by rfl) (hdb : (x == ("__debug__" : Str)) = false := by decide) (he : starEach (e :: es) X.env = (false, eval e X.env) :: starEach es X.env := by exact star_of rfl) (hpl : (backTo pos (starEach es X.env)).any (·.1) = false := by exact star_no rfl) :
    EvM X a (.Call (.Name x p) (e :: es) [] pos) ρ n m P := fun T σ H S ms Q q => by
  obtain ⟨f, fd, F, hm, hk, hb⟩ := C.ex
  refine toE (pe_call F hr hg hm hk hb (ds := []) (dvs := []) .nil pass0 ja hdb he hpl) (ha T σ H S ms _ fun vs ds H1 s1 ms1 p1 hp => ?_)
  rw [List.append_nil]
  obtain ⟨d, h1, h2⟩ := hR ds hp
  exact ⟨T, ds, d, (S.kpo s1 ms).dm, p1, h1, fun v H2 s2 p2 => q v d H2 (s1.trans (.of s2)) (ms1.same (off_same s2)) p2 h2⟩
theorem e_callG {R : List PyData → PyData → Prop} {ds : List PyData} (C : CalG X.prog X.w X.K X.mg X.base lv x ps (spR X.K R)) (hgd : X.A.guards = some []) (hr : Room lv X.A) (ha : EvA X a (e :: es) ρ ds) (hR : R ds d)
    (hg : Gl X x := by rfl) (hdb : (x == ("__debug__" : Str)) = false := by decide) (he : starEach (e :: es) X.env = (false, eval e X.env) :: starEach es X.env := by exact star_of rfl) (hpl : (backTo pos (starEach es X.env)).any (·.1) = false := by exact star_no rfl) :
    EvE X a (.Call (.Name x p) (e :: es) [] pos) ρ d := fun T σ H S Q q =>
  toE (pe_callG C hgd hr ja hg hdb he hpl) (ha T σ H S _ fun vs H1 s1 p1 => ⟨T, ds, d, S.dm.same s1, p1, hR, fun v H2 s2 p2 => q v H2 (s1.trans s2) p2⟩)
/-- a built-in, of what was drawn -/
theorem m_callT {id : String} {PA : List PyData → Prop} (hc : ∀ ds, PA ds → ∃ d, CaD X (.type id) ds d ∧ P d) (ha : EvMA X a (e :: es) ρ n m PA) (hm : X.mg x = none) (hv : bootBuiltins x = some (.type id)) (hg : Gl X x := by rfl) (hn : x ≠ "__name__" := by decide) (hdb : (x == ("__debug__" : Str)) = false := by decide)
    (he : starEach (e :: es) X.env = (false, eval e X.env) :: starEach es X.env := by exact star_of rfl) (hpl : (backTo pos (starEach es X.env)).any (·.1) = false := by exact star_no rfl) : EvM X a (.Call (.Name x p) (e :: es) [] pos) ρ n m P := fun T σ H S ms Q q => by
  have key : CallR X (.type id) (fun vs H Q => ∃ r', CallR X (.type id) r' ∧ r' vs H Q) := fun pins s σ H vs us Q I r h => by
    obtain ⟨r', h1, h2⟩ := h
    exact h1 pins s σ H vs us Q I r h2
  refine toE (pe_callTy key hg hm hv ja hn hdb he hpl) (ha T σ H S ms _ fun vs ds H1 s1 ms1 p1 hp => ?_)
  obtain ⟨d, ⟨r', h1, h2⟩, h3⟩ := hc ds hp
  exact ⟨r', h1, h2 T vs H1 (S.kpo s1 ms).dm p1 Q fun v H2 s2 p2 => q v d H2 (s1.trans (.of s2)) (ms1.same (off_same s2)) p2 h3⟩
theorem m_tup {x1} {PA : List PyData → Prop} (h : EvMA X a es ρ n m PA) (hP : ∀ ds, PA ds → ds.length ≤ 100000 ∧ P (.tuple ds)) : EvM X a (.Tuple es x1 pos) ρ n m P := fun T σ H S ms Q q =>
  toE (pe_tup ja) (h T σ H S ms _ fun vs ds H1 s1 ms1 p1 hp => ⟨by rw [dps_len p1]; exact szl (hP ds hp).1, fun p h0 => q _ _ _ (s1.trans (.of (same_new h0))) (ms1.same (off_same (same_new h0))) (dpo_newT (S.kpo s1 ms).dm h0 p1) (hP ds hp).2⟩)
theorem m_lst {PA : List PyData → Prop} (h : EvMA X a es ρ n m PA) (hP : ∀ ds, PA ds → ds.length ≤ 100000 ∧ P (.list ds)) : EvM X a (.List es pos) ρ n m P := fun T σ H S ms Q q =>
  toE (pe_lst ja) (h T σ H S ms _ fun vs ds H1 s1 ms1 p1 hp => ⟨by rw [dps_len p1]; exact szl (hP ds hp).1, fun p h0 => q _ _ _ (s1.trans (.of (same_new h0))) (ms1.same (off_same (same_new h0))) (dpo_newL (S.kpo s1 ms).dm h0 p1) (hP ds hp).2⟩)
end

/-! ### blocks -/
section
variable {X : Cx} {a : Addr} {ρ : Rho} {n m : Nat} {N : Nat → Rho → Prop} {R : Nat → PyData → Prop} {st : Stmt} {sts : List Stmt} {e : Expr} {d : PyData} {pos : Pos} {P : PyData → Prop}
def RunM (X : Cx) (a : Addr) (sts : List Stmt) (ρ : Rho) (n : Nat) (N : Nat → Rho → Prop) (R : Nat → PyData → Prop) : Prop := ∀ T σ H D, SD X.K a T H σ ρ → MS X.K (off T H) a n → (∀ σ' H' ρ' m, Kp a H H' → SD X.K a T H' σ' ρ' → MS X.K (off T H') a m → N m ρ' → D.nx σ' H') → (∀ v H' d m, Kp a H H' → MS X.K (off T H') a m → Dp X.K (off T H') v d → R m d → D.rt v H') → JSs X sts D σ H
def RunMS (X : Cx) (a : Addr) (st : Stmt) (ρ : Rho) (n : Nat) (N : Nat → Rho → Prop) (R : Nat → PyData → Prop) : Prop := ∀ T σ H D, SD X.K a T H σ ρ → MS X.K (off T H) a n → (∀ σ' H' ρ' m, Kp a H H' → SD X.K a T H' σ' ρ' → MS X.K (off T H') a m → N m ρ' → D.nx σ' H') → (∀ v H' d m, Kp a H H' → MS X.K (off T H') a m → Dp X.K (off T H') v d → R m d → D.rt v H') → JS X st D σ H
theorem q_nil (h : N n ρ) : RunM X a [] ρ n N R := fun T σ H D S ms kn kr => toSs pss_nil (kn σ H ρ n Kp.refl S ms h)
theorem q_cons (h : RunMS X a st ρ n (fun m ρ' => RunM X a sts ρ' m N R) R) : RunM X a (st :: sts) ρ n N R := fun T σ H D S ms kn kr =>
  toSs (pss_cons js jss) (h T σ H { D with nx := fun σ' H' => JSs X sts D σ' H' } S ms (fun σ' H' ρ' m s S' ms' hN => hN T σ' H' D S' ms' (fun σ2 H2 ρ2 m2 s2 S2 ms2 n2 => kn σ2 H2 ρ2 m2 (s.trans s2) S2 ms2 n2) fun v H2 d m2 s2 ms2 p r => kr v H2 d m2 (s.trans s2) ms2 p r) kr)
theorem q_one (h : RunMS X a st ρ n N R) : RunM X a [st] ρ n N R := fun T σ H D S ms kn kr => toSs (pss_one js) (h T σ H D S ms kn kr)
/-- a statement that draws nothing -/
theorem q_pure {R' : PyData → Prop} {N' : Rho → Prop} (h : RunS X a st ρ N' R') (hn : ∀ ρ', N' ρ' → N n ρ') (hr : ∀ d, R' d → R n d) : RunMS X a st ρ n N R := fun T σ H D S ms kn kr =>
  h T σ H D S (fun σ' H' ρ' s S' h' => kn σ' H' ρ' n (.of s) S' (ms.same (off_same s)) (hn ρ' h')) fun v H' d s p r => kr v H' d n (.of s) (ms.same (off_same s)) p (hr d r)
theorem qs_ret (h : EvM X a e ρ n m P) (hr : ∀ d, P d → R m d) : RunMS X a (.Return (some e) pos) ρ n N R := fun T σ H D S ms kn kr => toS (ps_ret je) (h T σ H S ms _ fun v d H1 s1 ms1 p1 hp => kr v H1 d m s1 ms1 p1 (hr d hp))
theorem qs_set {i : Nat} {x : Str} {pos' : Pos} (G : Good X) (h : EvM X a e ρ n m P) (hn : ∀ d, P d → N m (ρ.set i (some (.dat d)))) (hi : X.N[i]? = some x := by rfl) (hx : Loc X.env.scope x := by first | exact Or.inl rfl | exact Or.inr rfl)
    (hs : swapsWith e (some (.Name x pos')) pos.line X.env = pure false := by rfl) (hf : X.fn x = true ∨ X.env.scope.names.lookup x = some .local := by first | exact .inl rfl | exact .inr rfl) : RunMS X a (.Assign [.Name x pos'] e pos) ρ n N R := fun T σ H D S ms kn kr =>
  toS (ps_set G.nd hi hx je hs hf) (h T σ H S ms _ fun v d H1 s1 ms1 p1 hp => kn _ H1 _ m s1 ((S.kpo s1 ms).put (x := .dat d) p1) ms1 (hn d hp))
theorem qs_par {i j : Nat} {x y : Str} {e1 e2 : Expr} {px py pt : Pos} {kt k2 pt2} {PA : List PyData → Prop} (G : Good X) (h : EvMA X a [e1, e2] ρ n m PA) (hn : ∀ ds, PA ds → ∃ d1 d2, ds = [d1, d2] ∧ N m ((ρ.set i (some (.dat d1))).set j (some (.dat d2)))) (hi : X.N[i]? = some x := by rfl) (hj : X.N[j]? = some y := by rfl) (hij : i ≠ j := by decide)
    (hx : X.env.scope.names.lookup x = some .local := by rfl) (hy : X.env.scope.names.lookup y = some .local := by rfl)
    (hw : swappedStores [.Tuple [.Name x px, .Name y py] kt pt] (.Tuple [e1, e2] k2 pt2) X.env = pure (some [x, y]) := by rfl)
    (hs : swapsWithSole [.Tuple [.Name x px, .Name y py] kt pt] (.Tuple [e1, e2] k2 pt2) pos.line X.env = pure false := by rfl) :
    RunMS X a (.Assign [.Tuple [.Name x px, .Name y py] kt pt] (.Tuple [e1, e2] k2 pt2) pos) ρ n N R := fun T σ H D S ms kn kr =>
  toS (ps_par G.calm G.nd hi hj hij hx hy ja hw hs) (h T σ H S ms _ fun vs ds H1 s1 ms1 p1 hp => by
    obtain ⟨d1, d2, rfl, hN⟩ := hn ds hp
    obtain ⟨v, v', rfl, q1, q2⟩ := dps2 p1
    exact ⟨v, v', rfl, kn _ H1 _ m s1 (((S.kpo s1 ms).put (x := .dat d1) q1).put (x := .dat d2) q2) ms1 hN⟩)
theorem qs_asg {tg : Expr} {g : TG} {vs : List Nat} {f : PyData → Rho → Option Rho} (h : EvM X a e ρ n m P) (hg : PG X tg g) (ht : TgSem X.K a g vs f) (hn : ∀ d, P d → ∃ ρ', f d ρ = some ρ' ∧ N m ρ')
    (hs : swapsWithSole [tg] e pos.line X.env = pure false := by rfl) (hw : swappedStores [tg] e X.env = pure none := by rfl) (h1 : (assignEach [tg] X.env).map (·.2) = [assign tg X.env] := by rfl) : RunMS X a (.Assign [tg] e pos) ρ n N R := fun T σ H D S ms kn kr =>
  toS (ps_asg je hg hs hw h1) (h T σ H S ms _ fun v d H1 s1 ms1 p1 hp => by
    obtain ⟨ρ', e', hN⟩ := hn d hp
    exact ht T σ H1 v d ρ ρ' (S.kpo s1 ms) p1 e' _ fun σ' S' _ => kn σ' H1 ρ' m s1 S' ms1 hN)
theorem qs_if {c : Expr} {PB : Bool → Prop} {body orelse : List Stmt} (hc : EvMT X a c ρ n m PB) (h1 : PB true → RunM X a body ρ m N R) (h2 : PB false → RunM X a orelse ρ m N R) : RunMS X a (.If c body orelse pos) ρ n N R := fun T σ H D S ms kn kr =>
  toS (ps_if jt jss jss) (hc T σ H S ms _ fun b H1 s1 ms1 hb => by
    cases b with
    | true => exact iteT (h1 hb T σ H1 D (S.kpo s1 ms) ms1 (fun σ2 H2 ρ2 m2 s2 S2 ms2 n2 => kn σ2 H2 ρ2 m2 (s1.trans s2) S2 ms2 n2) fun v H2 d m2 s2 ms2 p r => kr v H2 d m2 (s1.trans s2) ms2 p r)
    | false => exact iteF (h2 hb T σ H1 D (S.kpo s1 ms) ms1 (fun σ2 H2 ρ2 m2 s2 S2 ms2 n2 => kn σ2 H2 ρ2 m2 (s1.trans s2) S2 ms2 n2) fun v H2 d m2 s2 ms2 p r => kr v H2 d m2 (s1.trans s2) ms2 p r))
end
/-! ### the state out of sight, while something is walked -/
section
variable {K : PySem.W.Frag} {a : Addr} {T : Addr → Prop} {H H' : Hp} {σ : L2.St} {ρ : Rho} {n : Nat}
def And1 (T : Addr → Prop) (a : Addr) : Addr → Prop := fun b => T b ∨ b = a
theorem dp_hide {v : V} {d : PyData} (h : Dp K (off T H) v d) (m : MS K (off T H) a n) : Dp K (off (And1 T a) H) v d := by
  obtain ⟨kvs, hk⟩ := m.dic
  have key : ∀ b o, off T H b = some o → (∀ k, o ≠ .dK k) → off (And1 T a) H b = some o := fun b o e hn => by
    have hne : b ≠ a := fun z => by
      rw [z, hk] at e
      cases e
      exact hn _ rfl
    obtain ⟨e1, e2⟩ := off_some e
    rw [off_no (fun z => z.elim e2 hne)]
    exact e1
  refine dp_map (fun b xs h => ?_) (fun b xs h => ?_) d v h
  · rcases h with (h | ⟨o, h⟩) | h
    · exact .inl (.inl (key _ _ h fun k z => by cases z))
    · exact .inl (.inr ⟨o, key _ _ h fun k z => by cases z⟩)
    · exact .inr h
  · rcases h with (h | ⟨o, h⟩) | h
    · exact .inl (.inl (key _ _ h fun k z => by cases z))
    · exact .inl (.inr ⟨o, key _ _ h fun k z => by cases z⟩)
    · exact .inr h
theorem vr_hide {R : VR} {v : V} (h : R.rel (off T H) v) (m : MS K (off T H) a n) : R.rel (off (And1 T a) H) v := R.per (fun b o e k => by
  obtain ⟨e1, e2⟩ := off_some e
  obtain ⟨_, kvs, hk⟩ := m.vis
  have hb : b ≠ a := fun z => by
    rw [z, hk] at e1
    cases e1
    exact k.2 _ rfl
  rw [off_no (fun z => z.elim e2 hb)]
  exact e1) h
theorem Din.and1 (d : Din T H) (m : MS K (off T H) a n) : Din (And1 T a) H := ⟨fun b hb => by
  rcases hb with hb | hb
  · exact d.dn b hb
  · obtain ⟨_, kvs, h⟩ := m.vis
    rw [hb, h]
    exact (fun z => nomatch z), d.tb⟩
theorem SD.hide (h : SD K a T H σ ρ) (m : MS K (off T H) a n) : SD K a (And1 T a) H σ ρ := ⟨h.len, h.dm.and1 m, fun i x e => by
  obtain ⟨v, g1, g2⟩ := h.sl i x e
  refine ⟨v, g1, ?_⟩
  cases x with
  | dat d => exact dp_hide g2 m
  | hnd => exact g2
  | adr _ => exact g2
  | val R => exact vr_hide (R := R) g2 m⟩
theorem kp_same1 (s : Kp a H H') : Sa (off (And1 T a) H) (off (And1 T a) H') := fun b o e n => by
  obtain ⟨e1, e2⟩ := off_some e
  rw [off_no e2]
  exact s.ka.1 b o (fun z => e2 (.inr z)) e1 n
theorem Kp.putL {H1 : Hp} {D : Addr} {acc acc' : List V} (s : Kp a H1 H') (h1 : H1 D = none) (h3 : H' D = some (.lst acc)) (Da : D ≠ a) : Kp a H1 (upd H' D (.lst acc')) := ⟨⟨fun b o hb e n => by
    rw [upd_ne (fun z => by rw [z, h1] at e; cases e)]
    exact s.ka.1 b o hb e n, fun z => by
    rw [upd_ne (Ne.symm Da)]
    exact s.ka.2 z⟩, fun P t => by
    have t1 := t
    obtain ⟨ps, g1, _⟩ := t1
    obtain ⟨ps, g2, g3, g4⟩ := s.tb P t
    refine ⟨ps, by rw [upd_ne (fun z => by rw [z, h1] at g1; cases g1)]; exact g2, g3, fun pos cv hc => ?_⟩
    obtain ⟨c, e1, e2⟩ := g4 pos cv hc
    exact ⟨c, e1, by rw [upd_ne (fun z => by rw [z, h3] at e2; unfold LamX.CodeO at e2; cases e2)]; exact e2⟩, fun b hb => by
    rw [upd_ne (fun z => hb (by rw [z]; exact h1))]
    exact s.dm b hb⟩
inductive Fa2 (V : PyData → PyData → Prop) : List PyData → List PyData → Prop
  | nil : Fa2 V [] []
  | cons {x y : PyData} {xs ys : List PyData} : V x y → Fa2 V xs ys → Fa2 V (x :: xs) (y :: ys)
theorem Fa2.len {V : PyData → PyData → Prop} {xs ys : List PyData} (h : Fa2 V xs ys) : xs.length = ys.length := by
  induction h with
  | nil => rfl
  | cons _ _ ih => rw [List.length_cons, List.length_cons, ih]
theorem Fa2.snoc {V : PyData → PyData → Prop} {xs ys : List PyData} {x y : PyData} (h : Fa2 V xs ys) (hx : V x y) : Fa2 V (xs ++ [x]) (ys ++ [y]) := by
  induction h with
  | nil => exact .cons hx .nil
  | cons a _ ih => exact .cons a ih
theorem Fa2.all {V : PyData → PyData → Prop} {W : PyData → Prop} {xs ys : List PyData} (h : Fa2 V xs ys) (hw : ∀ x y, V x y → W y) : ∀ y ∈ ys, W y := by
  induction h with
  | nil => exact fun y hy => by cases hy
  | cons a _ ih =>
    intro z hz
    rcases List.mem_cons.mp hz with e | e
    · rw [e]
      exact hw _ _ a
    · exact ih z e
end
section
variable {X : Cx} {a : Addr} {ρ : Rho} {n k c ce : Nat} {N : Nat → Rho → Prop} {R : Nat → PyData → Prop} {tg it elt t : Expr} {items : List PyData} {pos : Pos} {body : List Stmt} {g : TG} {vs : List Nat} {f : PyData → Rho → Option Rho} {scope : Scope} {own : List (Str × Nat)} {P : PyData → Prop}
theorem qs_for (G : Good X) (hs : Src X a tg it ρ items) (hg : PG X tg g) (ht : TgSem X.K a g vs f) (J : Nat → Nat → Rho → Prop) (h0 : J 0 n ρ)
    (hb : ∀ i d m ρ1, items[i]? = some d → J i m ρ1 → ∃ ρ2, f d ρ1 = some ρ2 ∧ RunM X a body ρ2 m (fun m' ρ' => J (i + 1) m' ρ') R) (hd : ∀ m ρ', J items.length m ρ' → N m ρ')
    (hf : ∀ x, foldedSetIterable it X.env x = pure x := by intro _; rfl) : RunMS X a (.For tg it body [] pos) ρ n N R := fun T σ H D S ms kn kr => by
  obtain ⟨wi, hw, hq⟩ := hs
  refine toS (ps_for G.ow G.calm hw hg jss hf) (hq (And1 T a) σ H (S.hide ms) _ fun Ji H1 Gd Y s1 w hG hY => ?_)
  have ms1 := ms.same (off_same s1)
  have S1 := S.same s1
  have sees : ∀ {H'}, Kp a H1 H' → Sees (And1 T a) H1 (And1 T a) H' := fun {H'} s => by
    refine ⟨⟨fun b hb => ?_, (S1.dm.kp s).tb⟩, kp_same1 s⟩
    rcases hb with hb | hb
    · exact (S1.dm.kp s).dn b hb
    · obtain ⟨kvs, hk⟩ := s.ka.2 ms1.vis.2
      rw [hb, hk]
      exact fun z => by cases z
  refine for_it w (fun i σ' H' => Kp a H1 H' ∧ ∃ ρ' m, SD X.K a T H' σ' ρ' ∧ MS X.K (off T H') a m ∧ J i m ρ') ⟨Kp.refl, ρ, n, S1, ms1, h0⟩ (fun i σ' H' _ hp => hG _ H' (sees hp.1)) (fun i x σ' H' H'' hi hp y => ?_) fun σ' H' hp => ?_
  · obtain ⟨s2, ρ', m, S', ms', hj⟩ := hp
    obtain ⟨s3, d, hdi, pd⟩ := hY _ i H' x H'' hi (sees s2) y
    obtain ⟨ρ2, e2, hrun⟩ := hb i d m ρ' hdi hj
    refine ht T σ' H'' x d ρ' ρ2 (S'.same s3) (dp_same off_less pd) e2 _ fun σ2 S2 _ => ?_
    have s23 : Kp a H1 H'' := s2.trans (.of s3)
    exact hrun T σ2 H'' _ S2 (ms'.same (off_same s3)) (fun σ3 H3 ρ3 m3 s4 S3 ms3 n3 => ⟨s23.trans s4, ρ3, m3, S3, ms3, n3⟩) fun v H3 d m3 s4 ms4 p r => kr v H3 d m3 ((Kp.of s1).trans (s23.trans s4)) ms4 p r
  · obtain ⟨s2, ρ', m, S', ms', hj⟩ := hp
    exact kn σ' H' ρ' m ((Kp.of s1).trans s2) S' ms' (hd m ρ' hj)

def FillM (K : PySem.W.Frag) (a : Addr) (T : Addr → Prop) (H1 : Hp) (D : Addr) (m : Nat) (V : PyData → PyData → Prop) (xs : List PyData) (H' : Hp) : Prop := H1 D = none ∧ Kp a H1 H' ∧ Din (And1 T D) H' ∧ MS K (off (And1 T D) H') a m ∧ ∃ acc ds, H' D = some (.lst acc) ∧ DpAll K (off (And1 T D) H') acc ds ∧ Fa2 V xs ds
theorem lcM_own {wi : TI} {tt : TT} {te : TE} {keep : PyData → Bool} {V : PyData → PyData → Prop} {T : Addr → Prop} {σ : L2.St} {H : Hp} {Q : VK} (S : SD X.K a T H σ ρ) (ms : MS X.K (off T H) a n) (hn : k + c * items.length ≤ n) (hz : items.length < 100000)
    (hq : ∀ R : It → Hp → Prop,
  (∀ J H1 (Gd : Hp → Prop) Y, Sm H H1 → Walk J items.length Gd Y → (∀ T' H', Sees (And1 T a) H1 T' H' → Gd H') →
    (∀ T' i H' x H'', i < items.length → Sees (And1 T a) H1 T' H' → Y i H' x H'' → Sm H' H'' ∧ ∃ d, items[i]? = some d ∧ Dp X.K (off T' H'') x d) → R J H1) → wi σ H R)
    (ht : TgSem X.K a g vs f)
    (hb : ∀ d, d ∈ items → ∃ ρ2, f d (wipeR ρ vs) = some ρ2 ∧ ∀ m, (∀ T σ H, SD X.K a T H σ ρ2 → MS X.K (off T H) a (m + c) → ∀ Q : Bool → Hp → Prop, (∀ H2, Kp a H H2 → MS X.K (off T H2) a (m + ce) → Q (keep d) H2) → tt σ H Q) ∧
      (keep d = true → ∀ T σ H, SD X.K a T H σ ρ2 → MS X.K (off T H) a (m + ce) → ∀ Q : VK, (∀ v d' H2, Kp a H H2 → MS X.K (off T H2) a m → Dp X.K (off T H2) v d' → V d d' → Q v H2) → te σ H Q))
    (kq : ∀ D acc ds H2, H D = none → ¬ T D → D ≠ a → Kp a H H2 → SD X.K a (And1 T D) H2 σ ρ → MS X.K (off (And1 T D) H2) a k → H2 D = some (.lst acc) → DpAll X.K (off (And1 T D) H2) acc ds → Fa2 V (items.filter keep) ds → Q (.ref D) H2) : tLc wi g tt te vs σ H Q := by
  refine hq _ fun J H1 Gd Y s1 w hG hY => ?_
  intro D hD
  have S1 := S.same s1
  have ms1 := ms.same (off_same s1)
  have nD : ¬ T D := fun z => S1.dm.dn D z hD
  have Da : D ≠ a := fun z => by
    obtain ⟨_, kvs, hk⟩ := ms1.vis
    rw [← z, hD] at hk
    cases hk
  have sees : ∀ {H' xs m}, FillM X.K a T H1 D m V xs H' → Sees (And1 T a) H1 (And1 (And1 T D) a) H' := fun {H' xs m} p => by
    obtain ⟨h1, h2, h3, h4, _⟩ := p
    refine ⟨h3.and1 h4, fun b o e n => ?_⟩
    obtain ⟨e1, e2⟩ := off_some e
    have hb : b ≠ D := fun z => by
      rw [z, h1] at e1
      cases e1
    rw [off_no (fun z => z.elim (fun z => z.elim (fun z => e2 (.inl z)) hb) fun z => e2 (.inr z))]
    exact h2.ka.1 b o (fun z => e2 (.inr z)) e1 n
  have start : FillM X.K a T H1 D (k + c * items.length) V ((items.take 0).filter keep) (upd H1 D (.lst [])) :=
    ⟨hD, .of (same_new hD), S1.dm.new hD, by
      have e : off (And1 T D) (upd H1 D (.lst [])) = off T H1 := off_more hD
      rw [e]
      exact ms1.mono hn, [], [], upd_same, .nil, .nil⟩
  have fsame : ∀ {H' H'' xs m}, FillM X.K a T H1 D m V xs H' → Sm H' H'' → FillM X.K a T H1 D m V xs H'' := fun {H' H'' xs m} p s => by
    obtain ⟨h1, h2, h3, h4, acc, ds, h5, h6, h7⟩ := p
    exact ⟨h1, h2.trans (.of s), h3.same s, h4.same (off_same s), acc, ds, s.ob _ _ h5 (by intro ps z; cases z), dpso s h6, h7⟩
  have fkp : ∀ {H' H'' xs m m'}, FillM X.K a T H1 D m V xs H' → Kp a H' H'' → MS X.K (off (And1 T D) H'') a m' → FillM X.K a T H1 D m' V xs H'' := fun {H' H'' xs m m'} p s ms' => by
    obtain ⟨h1, h2, h3, h4, acc, ds, h5, h6, h7⟩ := p
    exact ⟨h1, h2.trans s, h3.kp s, ms', acc, ds, s.ka.1 _ _ Da h5 (by intro ps z; cases z), dps_kpo h6 s h4, h7⟩
  have key : ∀ i, i < items.length → c * (items.length - i) = c * (items.length - (i + 1)) + c := fun i hi => by
    rw [show items.length - i = (items.length - (i + 1)) + 1 by omega, Nat.mul_add, Nat.mul_one]
  refine lc_it w (fun i H' => i ≤ items.length ∧ FillM X.K a T H1 D (k + c * (items.length - i)) V ((items.take i).filter keep) H') ⟨Nat.zero_le _, start⟩
    (fun i H' _ p => hG _ H' (sees p.2)) (fun i x H' H'' hi p y => ?_) fun H' p => ?_
  · obtain ⟨s3, d, hdi, pd⟩ := hY _ i H' x H'' hi (sees p.2) y
    obtain ⟨ρ2, e2, hm⟩ := hb d (List.mem_of_getElem? hdi)
    obtain ⟨k1, k2⟩ := hm (k + c * (items.length - (i + 1)))
    have p' := fsame p.2 s3
    have ee : k + c * (items.length - (i + 1)) + c = k + c * (items.length - i) := by rw [key i hi]; omega
    have S2 : SD X.K a (And1 T D) H'' (L2.wipe σ vs) (wipeR ρ vs) := ⟨(S1.wipe vs).len, p'.2.2.1, fun j z e => by
      obtain ⟨v, q1, q2⟩ := ((S1.hide ms1).wipe vs).sl j z e
      refine ⟨v, q1, ?_⟩
      cases z with
      | dat d => exact dp_same off_less (dp_same (sees p').2 q2)
      | hnd => exact q2
      | adr _ => exact q2
      | val R => exact VR.same (R := R) off_less (VR.same (R := R) (sees p').2 q2)⟩
    refine ht _ _ H'' x d _ ρ2 S2 (dp_same off_less pd) e2 _ fun σ2 S3 hw => ⟨?_, ?_⟩
    · rw [hw]
      apply List.ext_getElem?
      intro n
      rw [wipe_get, wipe_get, wipe_length]
      by_cases hn : n ∈ vs
      · rw [if_pos hn, if_pos hn]
      · rw [if_neg hn, if_neg hn]
    · have msp := p'.2.2.2.1
      rw [← ee] at msp
      refine k1 _ σ2 H'' S3 msp _ fun H3 s4 ms4 => ?_
      have tk : (items.take (i + 1)).filter keep = if keep d then (items.take i).filter keep ++ [d] else (items.take i).filter keep := by
        rw [List.take_add_one, hdi]
        simp only [Option.toList_some, List.filter_append]
        cases hk : keep d with
        | true => rw [if_pos rfl, List.filter_cons_of_pos hk] <;> rfl
        | false =>
          rw [List.filter_cons_of_neg (by rw [hk]; exact Bool.false_ne_true)]
          show _ ++ ([] : List PyData) = _
          rw [List.append_nil] <;> rfl
      have p3 := fkp p' s4 ms4
      rw [tk]
      cases hk : keep d with
      | false => exact iteF ⟨hi, fkp p' s4 (ms4.mono (Nat.le_add_right _ _))⟩
      | true =>
        refine iteT (k2 hk _ σ2 H3 (S3.kpo s4 msp) ms4 _ fun y d' H4 s5 ms5 py hV => ?_)
        obtain ⟨h1, h2, h3, h4, acc, ds, h5, h6, h7⟩ := fkp p3 s5 ms5
        refine ⟨acc, h5, ?_, hi, h1, h2.putL h1 h5 Da, ⟨fun b hb => ?_, fun P hP => (h2.putL h1 h5 Da).tb P (S1.dm.tb P hP)⟩, ?_, acc ++ [y], ds ++ [d'], upd_same, ?_, h7.snoc hV⟩
        · have e1 := dps_len h6
          have e2 := h7.len
          have e3 := List.length_filter_le keep (items.take i)
          have e4 := List.length_take_le i items
          exact Nat.lt_of_lt_of_le (show acc.length < 100000 by omega) (by decide)
        · by_cases hbD : b = D
          · rw [hbD, upd_same]
            exact fun z => by cases z
          · rw [upd_ne hbD]
            exact h3.dn b hb
        · have e : off (And1 T D) (upd H4 D (.lst (acc ++ [y]))) = off (And1 T D) H4 := off_put (.inr rfl)
          rw [e]
          exact ms5
        · have e : off (And1 T D) (upd H4 D (.lst (acc ++ [y]))) = off (And1 T D) H4 := off_put (.inr rfl)
          rw [e]
          exact dps_snoc h6 py
  · have p0 := p.2
    obtain ⟨_, h1, h2, h3, h4, acc, ds, h5, h6, h7⟩ := p
    rw [List.take_length] at h7
    have n0 : H D = none := by
      cases q : H D with
      | none => rfl
      | some o => exact (s1.dm D (by rw [q]; exact fun z => by cases z) hD).elim
    refine kq D acc ds H' n0 nD Da ((Kp.of s1).trans h2) ⟨S1.len, h3, fun j z e => ?_⟩ (h4.mono (by rw [Nat.sub_self]; omega)) h5 h6 h7
    obtain ⟨v, q1, q2⟩ := (S1.hide ms1).sl j z e
    refine ⟨v, q1, ?_⟩
    cases z with
    | dat d => exact dp_same off_less (dp_same (sees p0).2 q2)
    | hnd => exact q2
    | adr _ => exact q2
    | val R => exact VR.same (R := R) off_less (VR.same (R := R) (sees p0).2 q2)
theorem lcM_read {wi : TI} {tt : TT} {te : TE} {keep : PyData → Bool} {V : PyData → PyData → Prop} {T : Addr → Prop} {σ : L2.St} {H : Hp} {Q : VK} (S : SD X.K a T H σ ρ) (ms : MS X.K (off T H) a n) (hn : k + c * items.length ≤ n) (hz : items.length < 100000)
    (hq : ∀ R : It → Hp → Prop,
  (∀ J H1 (Gd : Hp → Prop) Y, Sm H H1 → Walk J items.length Gd Y → (∀ T' H', Sees (And1 T a) H1 T' H' → Gd H') →
    (∀ T' i H' x H'', i < items.length → Sees (And1 T a) H1 T' H' → Y i H' x H'' → Sm H' H'' ∧ ∃ d, items[i]? = some d ∧ Dp X.K (off T' H'') x d) → R J H1) → wi σ H R)
    (ht : TgSem X.K a g vs f)
    (hb : ∀ d, d ∈ items → ∃ ρ2, f d (wipeR ρ vs) = some ρ2 ∧ ∀ m, (∀ T σ H, SD X.K a T H σ ρ2 → MS X.K (off T H) a (m + c) → ∀ Q : Bool → Hp → Prop, (∀ H2, Kp a H H2 → MS X.K (off T H2) a (m + ce) → Q (keep d) H2) → tt σ H Q) ∧
      (keep d = true → ∀ T σ H, SD X.K a T H σ ρ2 → MS X.K (off T H) a (m + ce) → ∀ Q : VK, (∀ v d' H2, Kp a H H2 → MS X.K (off T H2) a m → Dp X.K (off T H2) v d' → V d d' → Q v H2) → te σ H Q))
    (kq : ∀ v ds H2, Kp a H H2 → MS X.K (off T H2) a k → Dp X.K (off T H2) v (.list ds) → Fa2 V (items.filter keep) ds → Q v H2) : tLc wi g tt te vs σ H Q :=
  lcM_own S ms hn hz hq ht hb fun D acc ds H2 n0 nD Da s S2 ms2 h5 h6 h7 => kq _ ds H2 s (ms2.same off_less) (.lst (.of (by rw [off_no nD]; exact h5)) (dps_same off_less h6)) h7
end
end Zj
/-! Comprehensions that draw, by their text; defs that draw. -/
namespace Zj
open PySem PySem.Spec PyProof.Rows L2
variable [Nm]
section
variable {X : Cx} {a : Addr} {ρ : Rho} {n k c ce : Nat} {N : Nat → Rho → Prop} {R : Nat → PyData → Prop} {tg it elt t : Expr} {items : List PyData} {pos : Pos} {g : TG} {f : PyData → Rho → Option Rho} {scope : Scope} {own : List (Str × Nat)} {P : PyData → Prop}
def EvMb (X : Cx) (scope : Scope) (a : Addr) (e : Expr) (ρ : Rho) (n m : Nat) (P : PyData → Prop) : Prop := ∀ s H0 C cl fp, EvM (X.blk s H0 scope (compEnvC scope cl C X.env) fp) a e ρ n m P
def EvMTb (X : Cx) (scope : Scope) (a : Addr) (e : Expr) (ρ : Rho) (n m : Nat) (P : Bool → Prop) : Prop := ∀ s H0 C cl fp, EvMT (X.blk s H0 scope (compEnvC scope cl C X.env) fp) a e ρ n m P
theorem m_lc0 {V : PyData → PyData → Prop} (G : Good X) (hs : Src X a tg it ρ items) (hn : k + c * items.length ≤ n) (hz : items.length < 100000) (ok : BlkOk X.N X.env.scope scope own)
    (hg : ∀ (s : Shared) (H : Hp) (C : Addr) (cl : List (Str × Addr)) (fp : List Addr), PG (X.blk s H scope (compEnvC scope cl C X.env) fp) tg g) (ht : TgSem X.K a g (own.map (·.2)) f)
    (hb : ∀ d, d ∈ items → ∃ ρ2, f d (wipeR ρ (own.map (·.2))) = some ρ2 ∧ ∀ m, EvMb X scope a elt ρ2 (m + c) m (V d)) (hP : ∀ ds, Fa2 V items ds → P (.list ds))
    (hf : ∀ x, foldedSetIterable it X.env x = pure x := by intro _; rfl) : EvM X a (.ListComp elt [⟨tg, it, [], 0⟩] scope pos) ρ n k P := fun T σ H S ms Q q => by
  obtain ⟨wi, hw, hq⟩ := hs
  refine toE (pe_lc (own := own) (te := JEb X scope elt) (tt := tYes) G.calm G.nd hw ok hg (fun s H0 C cl fp => pts_nil) (fun s H0 C cl fp => ⟨fun pins s' σ' H' Q' I h => h s H0 C cl fp pins s' I⟩) hf) ?_
  refine lcM_read (f := f) (V := V) (keep := yes) (ce := c) S ms hn hz (hq _ σ H (S.hide ms)) ht (fun d hd => ?_) fun v ds H2 s2 ms2 p2 h2 => q v _ H2 s2 ms2 p2 (hP ds ?_)
  · obtain ⟨ρ2, e, k2⟩ := hb d hd
    exact ⟨ρ2, e, fun m => ⟨fun T σ H S ms Q q => q H Kp.refl ms, fun hk T σ H S ms Q q s H0 C cl fp => k2 m s H0 C cl fp T σ H S ms Q q⟩⟩
  · rw [List.filter_eq_self.mpr (show ∀ z ∈ items, yes z = true from fun _ _ => rfl)] at h2
    exact h2
theorem m_lc1 {V : PyData → PyData → Prop} {keep : PyData → Bool} (G : Good X) (hs : Src X a tg it ρ items) (hn : k + c * items.length ≤ n) (hz : items.length < 100000) (ok : BlkOk X.N X.env.scope scope own)
    (hg : ∀ (s : Shared) (H : Hp) (C : Addr) (cl : List (Str × Addr)) (fp : List Addr), PG (X.blk s H scope (compEnvC scope cl C X.env) fp) tg g) (ht : TgSem X.K a g (own.map (·.2)) f)
    (hb : ∀ d, d ∈ items → ∃ ρ2, f d (wipeR ρ (own.map (·.2))) = some ρ2 ∧ ∀ m, EvMTb X scope a t ρ2 (m + c) (m + ce) (· = keep d) ∧ (keep d = true → EvMb X scope a elt ρ2 (m + ce) m (V d))) (hP : ∀ ds, Fa2 V (items.filter keep) ds → P (.list ds))
    (hf : ∀ x, foldedSetIterable it X.env x = pure x := by intro _; rfl) : EvM X a (.ListComp elt [⟨tg, it, [t], 0⟩] scope pos) ρ n k P := fun T σ H S ms Q q => by
  obtain ⟨wi, hw, hq⟩ := hs
  refine toE (pe_lc (own := own) (te := JEb X scope elt) (tt := JTb X scope t) G.calm G.nd hw ok hg (fun s H0 C cl fp => pts_one ⟨fun pins s' σ' H' Q' I h => h s H0 C cl fp pins s' I⟩) (fun s H0 C cl fp => ⟨fun pins s' σ' H' Q' I h => h s H0 C cl fp pins s' I⟩) hf) ?_
  refine lcM_read (f := f) (V := V) (keep := keep) (ce := ce) S ms hn hz (hq _ σ H (S.hide ms)) ht (fun d hd => ?_) fun v ds H2 s2 ms2 p2 h2 => q v _ H2 s2 ms2 p2 (hP ds h2)
  obtain ⟨ρ2, e, k2⟩ := hb d hd
  refine ⟨ρ2, e, fun m => ⟨fun T σ H S ms Q q s H0 C cl fp => (k2 m).1 s H0 C cl fp T σ H S ms Q fun b H2 s2 ms2 hb => ?_, fun hk T σ H S ms Q q s H0 C cl fp => (k2 m).2 hk s H0 C cl fp T σ H S ms Q q⟩⟩
  rw [hb]
  exact q H2 s2 ms2
theorem qs_lc0 {i : Nat} {y : Str} {py spos : Pos} {V : PyData → PyData → Prop} (G : Good X) (hs : Src X a tg it ρ items) (hn : k + c * items.length ≤ n) (hz : items.length < 100000) (ok : BlkOk X.N X.env.scope scope own)
    (hg : ∀ (s : Shared) (H : Hp) (C : Addr) (cl : List (Str × Addr)) (fp : List Addr), PG (X.blk s H scope (compEnvC scope cl C X.env) fp) tg g) (ht : TgSem X.K a g (own.map (·.2)) f)
    (hb : ∀ d, d ∈ items → ∃ ρ2, f d (wipeR ρ (own.map (·.2))) = some ρ2 ∧ ∀ m, EvMb X scope a elt ρ2 (m + c) m (V d)) (hP : ∀ ds, Fa2 V items ds → N k (ρ.set i (some (.dat (.list ds)))))
    (hy : X.N[i]? = some y := by rfl) (hyl : X.env.scope.names.lookup y = some .local := by rfl)
    (hsw : swapsWith (.ListComp elt [⟨tg, it, [], 0⟩] scope pos) (some (.Name y py)) spos.line X.env = pure true := by exact sw_true rfl rfl rfl (by decide +kernel))
    (hf : ∀ x, foldedSetIterable it X.env x = pure x := by intro _; rfl) : RunMS X a (.Assign [.Name y py] (.ListComp elt [⟨tg, it, [], 0⟩] scope pos) spos) ρ n N R := fun T σ H D S ms kn kr => by
  obtain ⟨wi, hw, hq⟩ := hs
  refine toS (ps_setLc (own := own) (te := JEb X scope elt) (tt := tYes) G.calm G.nd hy hyl hsw hw ok hg (fun s H0 C cl fp => pts_nil) (fun s H0 C cl fp => ⟨fun pins s' σ' H' Q' I h => h s H0 C cl fp pins s' I⟩) hf) ?_
  refine lcM_read (f := f) (V := V) (keep := yes) (ce := c) S ms hn hz (hq _ σ H (S.hide ms)) ht (fun d hd => ?_) fun v ds H2 s2 ms2 p2 h2 => kn _ H2 _ k s2 ((S.kpo s2 ms).put (x := .dat _) p2) ms2 (hP ds ?_)
  · obtain ⟨ρ2, e, k2⟩ := hb d hd
    exact ⟨ρ2, e, fun m => ⟨fun T σ H S ms Q q => q H Kp.refl ms, fun hk T σ H S ms Q q s H0 C cl fp => k2 m s H0 C cl fp T σ H S ms Q q⟩⟩
  · rw [List.filter_eq_self.mpr (show ∀ z ∈ items, yes z = true from fun _ _ => rfl)] at h2
    exact h2
end
section
variable {P : Program} {w : World} {K : PySem.W.Frag} {mg : Str → Option Value} {base : Heap}
theorem SD.startM {a : Addr} {T : Addr → Prop} {H : Hp} {N : List Str} {vs : List V} {ds : List PyData} (t : Din T H) (h : DpAll K (off T H) vs ds) : SD K a T H (L2.start N (.ref a :: vs)) (some .hnd :: dats ds ++ List.replicate (N.length - (ds.length + 1)) none) := by
  have hl := dps_len h
  refine ⟨?_, t, fun i x e => ?_⟩
  · unfold L2.start dats
    simp [hl]
  · cases i with
    | zero =>
      cases (show some (some DV.hnd) = some (some x) from e)
      exact ⟨.ref a, rfl, rfl⟩
    | succ i =>
      have S := SD.start (a := a) (N := List.replicate (N.length - 1) "") t h
      obtain ⟨v, h1, h2⟩ := S.sl i x (by
        have e' : (dats ds ++ List.replicate (N.length - (ds.length + 1)) none)[i]? = some (some x) := e
        rw [List.length_replicate, show N.length - 1 - ds.length = N.length - (ds.length + 1) by omega]
        exact e')
      refine ⟨v, ?_, h2⟩
      have h1' : (vs.map some ++ List.replicate (N.length - 1 - vs.length) none)[i]? = some (some v) := by
        have h1 := h1
        unfold L2.start at h1
        rw [List.length_replicate] at h1
        exact h1
      show (vs.map some ++ List.replicate (N.length - (vs.length + 1)) none)[i]? = some (some v)
      rw [show N.length - (vs.length + 1) = N.length - 1 - vs.length by omega]
      exact h1'
theorem fnMC {x qual : Str} {st : Stmt} {f : Addr} {fd : FuncData} {N ps : List Str} {k c : Nat} {R : List PyData → (PyData → Prop) → Prop} (F : Fun K x qual st f fd) (S : FnScope N ps (defScope st)) (hl : ∀ ds P, R ds P → ds.length + 1 = ps.length)
    (hb : ∀ (cdv : Value), fd.code = cdv → ∀ (A : Around) (outer : List Env) (s : Shared) (H : Hp) (E : XK), Good (cxOf CX0 P w K mg base N qual (defScope st) f cdv A outer s H E).nox → Room k (cxOf CX0 P w K mg base N qual (defScope st) f cdv A outer s H E).nox.A →
      (cxOf CX0 P w K mg base N qual (defScope st) f cdv A outer s H E).nox.A.guards = some [] → ∀ a n ds Pd, R ds Pd →
      RunM (cxOf CX0 P w K mg base N qual (defScope st) f cdv A outer s H E).nox a (defBody st) (some .hnd :: dats ds ++ List.replicate (N.length - (ds.length + 1)) none) (n + c) (fun m _ => n ≤ m ∧ Pd .none) (fun m d => n ≤ m ∧ Pd d)) : FnG P w K mg base CX0 (k + 1) f fd ps (spM K c R) :=
  fnG F S (fun vs H Q E h => by
    obtain ⟨a, T, n, vs', ds, Pd, rfl, _, _, h2, h3, _⟩ := h
    rw [List.length_cons, dps_len h2]
    exact hl ds Pd h3) fun cdv hcv A outer s H vs Q E hgd hr h => by
    obtain ⟨a, T, n, vs', ds, Pd, rfl, dm, ms, h2, h3, h4⟩ := h
    refine hb cdv hcv A outer s H E ⟨S.nd, rfl, PassesOwn.never, hr.units⟩ hr hgd a n ds Pd h3 T _ H _ (SD.startM dm h2) ms (fun σ' H' ρ' m s1 S1 ms1 e => ?_) fun v H' d m s1 ms1 p e => ?_
    · exact h4 .non .none H' s1 (ms1.mono e.1) .non e.2
    · exact h4 v d H' s1 (ms1.mono e.1) p e.2
theorem fnM {x qual : Str} {st : Stmt} {f : Addr} {fd : FuncData} {N ps : List Str} {k c : Nat} {R : List PyData → (PyData → Prop) → Prop} (F : Fun K x qual st f fd) (S : FnScope N ps (defScope st)) (hl : ∀ ds P, R ds P → ds.length + 1 = ps.length)
    (hb : ∀ (cdv : Value) (A : Around) (outer : List Env) (s : Shared) (H : Hp) (E : XK), Good (cxOf CX0 P w K mg base N qual (defScope st) f cdv A outer s H E).nox → Room k (cxOf CX0 P w K mg base N qual (defScope st) f cdv A outer s H E).nox.A →
      (cxOf CX0 P w K mg base N qual (defScope st) f cdv A outer s H E).nox.A.guards = some [] → ∀ a n ds Pd, R ds Pd →
      RunM (cxOf CX0 P w K mg base N qual (defScope st) f cdv A outer s H E).nox a (defBody st) (some .hnd :: dats ds ++ List.replicate (N.length - (ds.length + 1)) none) (n + c) (fun m _ => n ≤ m ∧ Pd .none) (fun m d => n ≤ m ∧ Pd d)) : FnG P w K mg base CX0 (k + 1) f fd ps (spM K c R) := fnMC F S hl fun cdv _ => hb cdv
/-- a def that keeps all and asks for texts of data -/
theorem fnRGC {x qual : Str} {st : Stmt} {f : Addr} {fd : FuncData} {N ps : List Str} {k : Nat} {R : List PyData → PyData → Prop} (F : Fun K x qual st f fd) (S : FnScope N ps (defScope st)) (hl : ∀ ds d, R ds d → ds.length = ps.length)
    (hb : ∀ (cdv : Value), fd.code = cdv → ∀ (A : Around) (outer : List Env) (s : Shared) (H : Hp) (E : XK), Good (cxOf CX0 P w K mg base N qual (defScope st) f cdv A outer s H E).nox → Room k (cxOf CX0 P w K mg base N qual (defScope st) f cdv A outer s H E).nox.A →
      (cxOf CX0 P w K mg base N qual (defScope st) f cdv A outer s H E).nox.A.guards = some [] → ∀ ds d, R ds d →
      Run (cxOf CX0 P w K mg base N qual (defScope st) f cdv A outer s H E).nox 0 (defBody st) (dats ds ++ List.replicate (N.length - ds.length) none) (fun _ => d = .none) (fun d' => d' = d)) : FnG P w K mg base CX0 (k + 1) f fd ps (spR K R) :=
  fnG F S (fun vs H Q E h => by
    obtain ⟨T, ds, d, _, h1, h2, _⟩ := h
    rw [dps_len h1]
    exact hl ds d h2) fun cdv hcv A outer s H vs Q E hgd hr h => by
    obtain ⟨T, ds, d, dm, h1, h2, h3⟩ := h
    refine hb cdv hcv A outer s H E ⟨S.nd, rfl, PassesOwn.never, hr.units⟩ hr hgd ds d h2 T _ H _ (SD.start dm h1) (fun σ' H' ρ' s1 S1 e => ?_) fun v H' d' s1 p e => ?_
    · exact h3 _ H' s1 (by rw [e]; exact .non)
    · subst e
      exact h3 v H' s1 p
theorem fnRG {x qual : Str} {st : Stmt} {f : Addr} {fd : FuncData} {N ps : List Str} {k : Nat} {R : List PyData → PyData → Prop} (F : Fun K x qual st f fd) (S : FnScope N ps (defScope st)) (hl : ∀ ds d, R ds d → ds.length = ps.length)
    (hb : ∀ (cdv : Value) (A : Around) (outer : List Env) (s : Shared) (H : Hp) (E : XK), Good (cxOf CX0 P w K mg base N qual (defScope st) f cdv A outer s H E).nox → Room k (cxOf CX0 P w K mg base N qual (defScope st) f cdv A outer s H E).nox.A →
      (cxOf CX0 P w K mg base N qual (defScope st) f cdv A outer s H E).nox.A.guards = some [] → ∀ ds d, R ds d →
      Run (cxOf CX0 P w K mg base N qual (defScope st) f cdv A outer s H E).nox 0 (defBody st) (dats ds ++ List.replicate (N.length - ds.length) none) (fun _ => d = .none) (fun d' => d' = d)) : FnG P w K mg base CX0 (k + 1) f fd ps (spR K R) := fnRGC F S hl fun cdv _ => hb cdv
end
end Zj
/-! isinstance, and/or as values, calls by names. -/
namespace Zj
open PySem PySem.Spec PyProof.Rows L2
variable [Nm]
def tyD : PyData → String
  | .none => "NoneType"
  | .bool _ => "bool"
  | .int _ => "int"
  | .str _ => "str"
  | .list _ => "list"
  | .tuple _ => "tuple"
  | .dict _ => "dict"
section
variable {X : Cx} {a : Addr} {ρ : Rho} {e f : Expr} {es rest : List Expr} {pos p p2 : Pos} {d : PyData}
theorem dp_ty {K : PySem.W.Frag} {H : Hp} {v : V} (h : Dp K H v d) : TyX K H v (.type (tyD d)) := by
  cases h with
  | non => exact .base .non
  | bl b => exact .base (.bl b)
  | int i => exact .base (.int i)
  | str x => exact .base (.str x)
  | lst h1 h2 =>
    rcases h1 with (h | ⟨o, h⟩) | h
    · exact .base (.lst h)
    · exact .base (.frz h)
    · obtain ⟨o, its, n, e, c, _⟩ := h
      exact .kList e c
  | tup h1 h2 =>
    rcases h1 with (h | ⟨o, h⟩) | h
    · exact .base (.tup h)
    · exact .fTuple h
    · obtain ⟨o, its, n, e, c, _⟩ := h
      exact .kTuple e c
theorem e_isi {ty : Str} {tn : String} {b : Bool} (h : EvE X a e ρ d) (hk : kitB (tyD d) tn = some b) (hv : bootBuiltins ty = some (.type tn)) (hm : X.mg "isinstance" = none) (hmT : X.mg ty = none) (hg : Gl X "isinstance" := by rfl) (hgT : Gl X ty := by rfl)
    (hn : ty ≠ "__name__" := by decide) (hd : (ty == ("__debug__" : Str)) = false := by decide)
    (hs1 : starEach (e :: [.Name ty p2]) X.env = (false, eval e X.env) :: starEach [.Name ty p2] X.env := by exact star_of rfl) (hs2 : starEach (.Name ty p2 :: []) X.env = (false, eval (.Name ty p2) X.env) :: starEach [] X.env := by exact star_of rfl)
    (hpl : (backTo pos (starEach [.Name ty p2] X.env)).any (·.1) = false := by exact star_no rfl) :
    EvE X a (.Call (.Name "isinstance" p) [e, .Name ty p2] [] pos) ρ (.bool b) := fun T σ H S Q q =>
  toE (pe_callB call_isi hg hm (by decide +kernel) (pa_cons je (pa_cons (pe_bltn (v := .ty tn) hgT hmT hv rfl hn hd) pa_nil hs2) hs1) (by decide) (by decide) hs1 hpl) (h T σ H S _ fun v H1 s1 p1 =>
    ⟨v, .ty tn, _, _, b, rfl, .ty tn, dp_ty (dp_off p1), kit_ty hk, q _ H1 s1 (.bl b)⟩)
theorem e_one {op} (h : EvE X a e ρ d) : EvE X a (.BoolOp op [e] pos) ρ d := fun T σ H S Q q => toE (pe_one je) (h T σ H S Q q)
theorem e_andT (h : EvE X a e ρ (.bool true)) (h2 : EvE X a (.BoolOp .And (f :: rest) pos) ρ d) : EvE X a (.BoolOp .And (e :: f :: rest) pos) ρ d := fun T σ H S Q q =>
  toE (pe_and je je) (h T σ H S _ fun v H1 s1 p1 => ⟨true, dp_bool p1, iteT (h2 T σ H1 (S.same s1) _ fun v H2 s2 p => q v H2 (s1.trans s2) p)⟩)
theorem e_andF (h : EvE X a e ρ (.bool false)) (hd : d = .bool false) : EvE X a (.BoolOp .And (e :: f :: rest) pos) ρ d := fun T σ H S Q q =>
  toE (pe_and je je) (h T σ H S _ fun v H1 s1 p1 => ⟨false, dp_bool p1, iteF (q _ H1 s1 (by subst hd; exact .bl false))⟩)
theorem e_not {b : Bool} (h : EvE X a e ρ (.bool b)) : EvE X a (.UnaryOp .Not e pos) ρ (.bool (!b)) := fun T σ H S Q q =>
  toE (pe_not je) (h T σ H S _ fun v H1 s1 p1 => ⟨b, dp_bool p1, q _ H1 s1 (.bl _)⟩)
/-- an 'and', an 'or' as a test is its own whole -/
theorem pw_self {op} {l : List Expr} : PW X (.BoolOp op l pos) (JT X (.BoolOp op l pos)) := ⟨fun wh pins s σ H Q I h => by
  have h1 := h pins s I
  simp only [PySem.isTrue] at h1 ⊢
  exact h1⟩
/-- or, and as tests, the first part known -/
theorem t_orF {b : Bool} (h : EvT X a e ρ false) (h2 : EvT X a (.BoolOp .Or (f :: rest) pos) ρ b) : EvT X a (.BoolOp .Or (e :: f :: rest) pos) ρ b := fun T σ H S Q q =>
  toT (PW.pt (pw_or jt pw_self)) (h T σ H S _ fun H1 s1 => iteF (h2 T σ H1 (S.same s1) _ fun H2 s2 => q H2 (s1.trans s2)))
theorem t_orT (h : EvT X a e ρ true) : EvT X a (.BoolOp .Or (e :: f :: rest) pos) ρ true := fun T σ H S Q q =>
  toT (PW.pt (pw_or jt pw_self)) (h T σ H S _ fun H1 s1 => iteT (q H1 s1))
theorem t_andT {b : Bool} (h : EvT X a e ρ true) (h2 : EvT X a (.BoolOp .And (f :: rest) pos) ρ b) : EvT X a (.BoolOp .And (e :: f :: rest) pos) ρ b := fun T σ H S Q q =>
  toT (PW.pt (pw_and jt pw_self)) (h T σ H S _ fun H1 s1 => iteT (h2 T σ H1 (S.same s1) _ fun H2 s2 => q H2 (s1.trans s2)))
theorem t_andF (h : EvT X a e ρ false) : EvT X a (.BoolOp .And (e :: f :: rest) pos) ρ false := fun T σ H S Q q =>
  toT (PW.pt (pw_and jt pw_self)) (h T σ H S _ fun H1 s1 => iteF (q H1 s1))
theorem mt_or {PB : Bool → Prop} {n m k : Nat} (h : EvMT X a e ρ n m fun b => b = false) (h2 : EvMT X a (.BoolOp .Or (f :: rest) pos) ρ m k PB) : EvMT X a (.BoolOp .Or (e :: f :: rest) pos) ρ n k PB := mt_orF h h2 pw_self
theorem mt_or1 {PB : Bool → Prop} {n m : Nat} (h : EvMT X a e ρ n m PB) : EvMT X a (.BoolOp .Or [e] pos) ρ n m PB := fun T σ H S ms Q q => toT (PW.pt (pw_or1 jt)) (h T σ H S ms Q q)
end

/-! calls by names alone -/
structure CalK (P : Program) (w : World) (K : PySem.W.Frag) (mg : Str → Option Value) (base : Heap) (k : Nat) (x : Str) (st : Stmt) (ps : List Str) (sp : Sp) : Prop where
  ex : ∃ f fd, Fun K x x st f fd ∧ FnOk P w K mg base CX0 k f fd ps sp ∧ mg x = some (.ref f)
section
variable {X : Cx} {a : Addr} {ρ : Rho} {e : Expr} {kws : List Keyword} {pos p kpos : Pos} {d : PyData} {ds : List PyData} {nm : Option Str}
def JK (X : Cx) (kws : List Keyword) : TA := fun σ H Q => ∀ pos pins s, Inv X pins σ H s → wpAny (model X.prog X.w) X.A (evalAll ((backToKw pos (keywordEach kws X.env)).map (·.2))) (AP X pins σ Q) X.xe s
theorem jk : PK X kws (JK X kws) := ⟨fun pos pins s _ _ _ I h => h pos pins s I⟩
def EvK (X : Cx) (a : Addr) (kws : List Keyword) (ρ : Rho) (ds : List PyData) : Prop := ∀ T σ H, SD X.K a T H σ ρ → ∀ Q : List V → Hp → Prop, (∀ vs H2, Sm H H2 → DpAll X.K (off T H2) vs ds → Q vs H2) → JK X kws σ H Q
theorem k_nil : EvK X a [] ρ [] := fun T σ H S Q q pos pins s I => pk_nil.run pos pins s σ H Q I (q _ H (Sm.refl H) .nil)
theorem k_cons (h : EvE X a e ρ d) (h2 : EvK X a kws ρ ds) : EvK X a (⟨nm, e, kpos⟩ :: kws) ρ (d :: ds) := fun T σ H S Q q pos pins s I =>
  (pk_cons (nm := nm) (kpos := kpos) je jk).run pos pins s σ H Q I (h T σ H S _ fun v H1 s1 p1 => h2 T σ H1 (S.same s1) _ fun vs H2 s2 p2 => q _ H2 (s1.trans s2) (.cons (dpo s2 p1) p2))
/-- f(k = v, ..), two names; fl: they stand in the other order -/
def turn2 (fl : Bool) {α : Type} : List α → List α
  | [x, y] => if fl then [y, x] else [x, y]
  | l => l
def gK (fl : Bool) {α : Type} (us ws : List α) : List α := match us with
  | [] => turn2 fl ws
  | _ => []
theorem turn2_len {fl : Bool} {α : Type} (l : List α) : (turn2 fl l).length = l.length := by
  unfold turn2
  split
  · cases fl <;> rfl
  · rfl
theorem turn2_vals {fl : Bool} {vs : List V} {us : List Value} (r : Vals vs us) : Vals (turn2 fl vs) (turn2 fl us) := by
  unfold turn2
  cases r with
  | nil => exact .nil
  | cons a r =>
    cases r with
    | nil => exact .cons a .nil
    | cons b r =>
      cases r with
      | nil =>
        cases fl
        · exact .cons a (.cons b .nil)
        · exact .cons b (.cons a .nil)
      | cons c r => exact .cons a (.cons b (.cons c r))
theorem turn2_dps {fl : Bool} {K : PySem.W.Frag} {H : Hp} {vs : List V} (r : DpAll K H vs ds) : DpAll K H (turn2 fl vs) (turn2 fl ds) := by
  unfold turn2
  cases r with
  | nil => exact .nil
  | cons a r =>
    cases r with
    | nil => exact .cons a .nil
    | cons b r =>
      cases r with
      | nil =>
        cases fl
        · exact .cons a (.cons b .nil)
        · exact .cons b (.cons a .nil)
      | cons c r => exact .cons a (.cons b (.cons c r))
theorem pe_callK0 {CX : CXT} {k : Nat} {f : Addr} {fd : FuncData} {ps ks : List Str} {sp : Sp} {E : XK} {x : Str} {g : List Value → List Value → List Value} {gV : List V → List V → List V} {tk : TA} (F : FnOk X.prog X.w X.K X.mg X.base CX k f fd ps sp) (hr : Room k X.A) (hg : Gl X x) (hm : X.mg x = some (.ref f)) (hk : PySem.W.keepIn X.K (.ref f) = true) (hb : KBinds X.K fd ps ks g gV) (hx : Passes CX X E)
    (hkw : PK X kws tk) (hall : (backToKw pos (keywordEach kws X.env)).all (·.1.isSome) = true) (hks : (backToKw pos (keywordEach kws X.env)).filterMap (·.1) = ks) (hdb : (x == ("__debug__" : Str)) = false)
    (hpl : ((backTo pos (starEach [] X.env)).any (·.1) || (backToKw pos (keywordEach kws X.env)).any (·.1.isNone)) = false) :
    PE X (.Call (.Name x p) [] kws pos) (fun σ H Q => tk σ H fun zs H2 => sp (gV [] zs) H2 Q E) := by
  refine ⟨fun pins s σ H Q I h => ?_⟩
  refine wpAny_Call_Name_kw (ld_glob I hg hm ?_ hdb)
  refine PySem.W.callWith_KW0 (h₀ := X.base) I.ok.mod.kin hk hall (thn (hkw.run pos pins s σ H _ I h) fun ws s2 hv => ?_) hpl
  obtain ⟨zs, H2, I2, rz, q2⟩ := hv
  refine ⟨I2.kIn, ?_⟩
  rw [hks]
  exact run_fnk F hr hb hx I2 (us := []) (vs := []) .nil rz q2
theorem e_callK {lv : Nat} {x : Str} {st : Stmt} {ps ks : List Str} {R : List PyData → PyData → Prop} (fl : Bool) (hne : ps ≠ []) (C : CalK X.prog X.w X.K X.mg X.base lv x st ps (spR X.K R)) (hr : Room lv X.A) (ha : EvK X a kws ρ ds) (hR : R (turn2 fl ds) d)
    (hb : ∀ (kV doc pm : Value) (an : Option Addr) (cdv ct : Value) (ws : List Value), ws.length = ps.length → bindArgs (PySem.W.fnOf x x (defArgs st) (defBody st) (defScope st) .none kV doc pm an cdv ct) ⟨[], ks.zip ws⟩ = pure (ps.zip (turn2 fl ws)))
    (hg : Gl X x := by rfl) (hall : (backToKw pos (keywordEach kws X.env)).all (·.1.isSome) = true := by rfl) (hks : (backToKw pos (keywordEach kws X.env)).filterMap (·.1) = ks := by rfl)
    (hdb : (x == ("__debug__" : Str)) = false := by decide) (hpl : ((backTo pos (starEach [] X.env)).any (·.1) || (backToKw pos (keywordEach kws X.env)).any (·.1.isNone)) = false := by rfl) :
    EvE X a (.Call (.Name x p) [] kws pos) ρ d := fun T σ H S Q q => by
  obtain ⟨f, fd, F, FO, hm⟩ := C.ex
  have hk := F.kp
  obtain ⟨oc, od, kV, doc, pm, an, cdv, ct, osl, rfl, lk, hcd⟩ := F.ex
  have KB : KBinds X.K (PySem.W.fnOf x x (defArgs st) (defBody st) (defScope st) .none kV doc pm an cdv ct) ps ks (gK fl) (gK fl) := {
    to := fun s us ws _ hl => by
      cases us with
      | nil => exact .of_eq (hb kV doc pm an cdv ct ws (by rw [← hl]; exact (turn2_len ws).symm))
      | cons u us =>
        cases ps with
        | nil => exact (hne rfl).elim
        | cons _ _ => cases hl
    rel := fun {vs us zs ws} r rz => by
      cases r with
      | nil => exact turn2_vals rz
      | cons _ _ => exact .nil }
  exact toE (pe_callK0 (E := E0) FO hr hg hm hk KB pass0 jk hall hks hdb hpl) (ha T σ H S _ fun vs H1 s1 p1 => ⟨T, _, d, S.dm.same s1, turn2_dps p1, hR, fun v H2 s2 p2 => q v H2 (s1.trans s2) p2⟩)
end
end Zj
/-! Lambdas of no parameter, or of one with a written default. -/
namespace Zj
open PySem PySem.Spec PyProof.Rows L2
variable [Nm]
def lamQ (X : Cx) : Str := X.env.qual ++ "<lambda>"
section
variable {X : Cx} {pins : List (Addr × Obj)} {σ : L2.St} {H : Hp} {s : Shared} {c P : Addr} {params : Arguments} {body : Expr} {scope : Scope} {pos : Pos}
theorem sm_table {H : Hp} {P c' : Addr} {q : Str} {ps more : Array Value} (hP : H P = some (.tbl ps)) (hc : H c' = none) (hq : Nm.nm P = q) (new : LamX.TabS H P q → LamX.TabS (upd (upd H P (.tbl (ps ++ more))) c' (LamX.CodeO c' q)) P q) :
    Sm H (upd (upd H P (.tbl (ps ++ more))) c' (LamX.CodeO c' q)) := by
  have ob : Sa H (upd (upd H P (.tbl (ps ++ more))) c' (LamX.CodeO c' q)) := fun b o e n => by
    have h1 : b ≠ c' := fun z => by
      rw [z, hc] at e
      cases e
    have h2 : b ≠ P := fun z => by
      rw [z, hP] at e
      cases e
      exact n _ rfl
    rw [upd_ne h1, upd_ne h2]
    exact e
  refine ⟨ob, fun P' t => ?_, fun b hb => ?_⟩
  · by_cases hpp : P' = P
    · rw [hpp] at t ⊢
      rw [hq] at t ⊢
      exact new t
    · obtain ⟨ps', a1, a2, a3⟩ := t
      have h1 : P' ≠ c' := fun z => by
        rw [z, hc] at a1
        cases a1
      refine ⟨ps', ?_, a2, fun p' cv hcv => ?_⟩
      · rw [upd_ne h1, upd_ne hpp]
        exact a1
      · obtain ⟨c0, g1, g2⟩ := a3 p' cv hcv
        exact ⟨c0, g1, ob _ _ g2 LamX.codeO_ne⟩
  · by_cases h1 : b = c'
    · rw [h1, upd_same]
      exact fun z => by cases z
    · rw [upd_ne h1]
      by_cases h2 : b = P
      · rw [h2, upd_same]
        exact fun z => by cases z
      · rw [upd_ne h2]
        exact hb
theorem lam_tail {dV : Value} {E Q : Value → Shared → Prop} (I : Inv X pins σ H s) (B : LamX.TabB X.base X.mg c P) (hc0 : X.env.code = .ref c) (hq : Nm.nm P = lamQ X) (hT : LamX.TabS H P (lamQ X)) (hfree : ∀ y ∈ scope.names, y.2 = .free → ∃ c, X.env.cells.lookup y.1 = some c)
    (h : ∀ (f c' : Addr) (doc pm ctv : Value) (H1 : Hp) (s1 : Shared), Inv X pins σ H1 s1 → Sm H H1 → (∀ b o, b ≠ P → s.heap.get? b = some o → s1.heap.get? b = some o) → (∀ b o, s.heap.get? b = some o → H b = none → H1 b = none) →
      s1.heap.get? f = some (PySem.W.kdv_obj "<lambda>" (lamQ X) params (.expr body) scope (cloFrom X.env.cells scope.names []) dV doc pm c' ctv) → H1 f = none → f ∉ frs X.stack → H1 c' = some (LamX.CodeO c' (lamQ X)) → Q (.ref f) s1) :
    wpAny (model X.prog X.w) X.A (PySem.makeTail "<lambda>" (lamQ X) params (.expr body) scope X.env dV .none none pos pos.line) Q E s := by
  have hT0 := hT
  obtain ⟨ps, g1, g2, g3⟩ := hT
  have gP : s.heap.BuiltinsAt X.mg P := B.bm.keeps I.bk
  have gH : s.heap.get? P = some { cls := .none, data := .fields ps } := I.hok P _ g1
  have nofr : ∀ f, s.heap.objs.size ≤ f → f ∉ frs X.stack := fun f hf z => by
    rcases List.mem_cons.mp (I.stkSub _ z) with e | e
    · have l := I.lt
      rw [← e] at l
      exact absurd (Nat.lt_of_lt_of_le l hf) (Nat.lt_irrefl _)
    · exact I.nofs hf e
  cases hca : codeAmong pos ps.toList with
  | none =>
    refine PySem.W.kdv_makeTail (mg := X.mg) (c := c) (P := P) (ps := ps) (closure_ok hfree) I.ok.glob (I.mod.glob.keeps I.bk) hc0 (B.code.keeps I.bk) gH g2 hca B.gP gP ?_
    intro c' ctv doc h1 tk hx hge hlt hrec htb
    obtain ⟨c2, oc, vs, t, e2, w1, w2, w3⟩ := hrec
    cases e2
    have zs : s.heap.objs.size ≤ h1.objs.size := Nat.le_trans hge (Nat.le_of_lt hlt)
    have fresh : H c' = none := I.hok.fresh hge
    have I1 := LamX.inv_table (t' := tk) (more := #[rawInt pos.line, rawInt pos.col, .ref c']) (q := lamQ X)
      (h' := h1.push (PySem.W.kdv_obj "<lambda>" (lamQ X) params (.expr body) scope (cloFrom X.env.cells scope.names []) dV doc ((X.mg "__name__").getD .none) c' ctv)) I g1
      (fun b o hb e => Heap.get?_push_of_some _ (hx b o hb e)) (Heap.get?_push_of_some _ htb) hge ⟨oc, vs, t, Heap.get?_push_of_some _ w1, w2, w3⟩
    have eL : (ps ++ #[rawInt pos.line, rawInt pos.col, .ref c']).toList = ps.toList ++ [rawInt pos.line, rawInt pos.col, .ref c'] := by simp
    have sm : Sm H (upd (upd H P (.tbl (ps ++ #[rawInt pos.line, rawInt pos.col, .ref c']))) c' (LamX.CodeO c' (lamQ X))) := sm_table g1 fresh hq fun _ => by
      refine ⟨_, by rw [upd_ne (ne_of_none g1 fresh), upd_same], ?_, fun p' cv hcv => ?_⟩
      · rw [eL]
        exact PySem.TriplesOk_snoc _ _ _ _ g2
      · rw [eL] at hcv
        rcases LamX.among_app _ g2 hcv with z | z
        · obtain ⟨c0, e1, e2⟩ := g3 p' cv z
          refine ⟨c0, e1, ?_⟩
          rw [upd_ne (ne_of_none e2 fresh), upd_ne (ne_of e2 g1 (LamX.codeO_ne _))]
          exact e2
        · exact ⟨c', z, upd_same⟩
    refine h h1.objs.size c' doc ((X.mg "__name__").getD .none) ctv _ _ I1 sm (fun b o hb e => Heap.get?_push_of_some _ (hx b o hb e)) (fun b o e n => ?_) (Heap.get?_push_size _ rfl) ?_ (nofr _ zs) upd_same
    · rw [upd_ne (Nat.ne_of_lt (Nat.lt_of_lt_of_le (Heap.lt_size e) hge)), upd_ne (fun z => by rw [z, g1] at n; cases n)]
      exact n
    · rw [upd_ne (Nat.ne_of_gt hlt), upd_ne (Nat.ne_of_gt (Nat.lt_of_lt_of_le (Heap.lt_size gH) zs))]
      exact I.hok.fresh zs
  | some cv =>
    obtain ⟨c', e, hco⟩ := g3 pos cv hca
    subst e
    refine PySem.W.kdv_makeTailHit (mg := X.mg) (c := c) (P := P) (ps := ps) (closure_ok hfree) I.ok.glob (I.mod.glob.keeps I.bk) hc0 (B.code.keeps I.bk) gH g2 hca gP ?_
    intro ctv doc h1 tk hx zs
    have I1 : Inv X pins σ H { s with heap := h1.push (PySem.W.kdv_obj "<lambda>" (lamQ X) params (.expr body) scope (cloFrom X.env.cells scope.names []) dV doc ((X.mg "__name__").getD .none) c' ctv), toks := tk } :=
      I.kept fun b o e => Heap.get?_push_of_some _ (hx b o e)
    exact h h1.objs.size c' doc ((X.mg "__name__").getD .none) ctv H _ I1 (Sm.refl H) (fun b o _ e => Heap.get?_push_of_some _ (hx b o e)) (fun b o _ n => n) (Heap.get?_push_size _ rfl) (I.hok.fresh zs) (nofr _ zs) hco
/-- a closure made of the lambda stands at f, its code at c'; is: its default, if there is one -/
structure CloAt (X : Cx) (H : Hp) (h : Heap) (f c' : Addr) (params : Arguments) (body : Expr) (scope : Scope) (is : List Int) : Prop where
  ob : ∃ dV doc pm ctv, h.get? f = some (PySem.W.kdv_obj "<lambda>" (lamQ X) params (.expr body) scope (cloFrom X.env.cells scope.names []) dV doc pm c' ctv) ∧
    ((is = [] ∧ dV = .none) ∨ ∃ (D : Addr) (i : Int) (tk : Tok), is = [i] ∧ dV = .ref D ∧ h.get? D = some (PySem.W.kdv_tup [.int i tk]) ∧ H D = none ∧ D ∉ frs X.stack)
  un : H f = none
  fr : f ∉ frs X.stack
  co : H c' = some (LamX.CodeO c' (lamQ X))
/-- the defaults that are written -/
inductive LamD (env : Env) : Arguments → List Int → Prop
  | no {params : Arguments} (h : defaultsOf params env = ([], [])) : LamD env params []
  | one {params : Arguments} {i : Int} {j : Nat} {p : Pos} (h : params.defaults = [.Constant (.int i) j p]) (hk : params.kw_defaults = []) : LamD env params [i]
theorem lam_made {is : List Int} {E Q : Value → Shared → Prop} (I : Inv X pins σ H s) (B : LamX.TabB X.base X.mg c P) (hc0 : X.env.code = .ref c) (hq : Nm.nm P = lamQ X) (hT : LamX.TabS H P (lamQ X)) (hfree : ∀ y ∈ scope.names, y.2 = .free → ∃ c, X.env.cells.lookup y.1 = some c)
    (hd : LamD X.env params is)
    (h : ∀ (f c' : Addr) (H1 : Hp) (s1 : Shared), Inv X pins σ H1 s1 → Sm H H1 → CloAt X H1 s1.heap f c' params body scope is → Q (.ref f) s1) :
    wpAny (model X.prog X.w) X.A (eval (.Lambda params body scope pos) X.env) Q X.xe s := by
  cases hd with
  | no hd =>
    refine PySem.W.kla_eval hd ?_
    rw [makeFunction_eq]
    simp only [List.zip_nil_right, List.filterMap_nil, List.isEmpty_nil, if_true, pure_bind]
    exact lam_tail I B hc0 hq hT hfree fun f c' doc pm ctv H1 s1 I1 sm _ _ e n m co => h f c' H1 s1 I1 sm ⟨⟨_, doc, pm, ctv, e, .inl ⟨rfl, rfl⟩⟩, n, m, co⟩
  | @one i j p hd hk =>
    refine PySem.W.kdv_lam (by rw [hd]; rfl) hk ?_
    rw [hd]
    refine PySem.W.kdv_all1 (thn ((pe_int (X := X) (i := i) (j := j) (pos := p)).run pins s σ H (fun v H1 => v = .int i ∧ H1 = H) I ⟨rfl, rfl⟩) fun u s0 hv => PySem.W.kdv_all0 ?_)
    obtain ⟨v, H0, I0, rv, rfl, rfl⟩ := hv
    obtain ⟨tk, rfl⟩ := rv
    rw [makeFunction_eq]
    simp only [List.zip_nil_right, List.filterMap_nil, List.isEmpty_nil, List.isEmpty_cons, Bool.false_eq_true, if_false, if_true, pure_bind]
    refine wpAny_bind (wpAny_newTextTuple ?_)
    have I2 : Inv X pins σ H0 { s0 with heap := s0.heap.push (PySem.W.kdv_tup [.int i tk]) } := I0.kept (t' := s0.toks) fun b o e => Heap.get?_push_of_some _ e
    have eD : (s0.heap.push (PySem.W.kdv_tup [.int i tk])).get? s0.heap.objs.size = some (PySem.W.kdv_tup [.int i tk]) := Heap.get?_push_size _ rfl
    have nD : H0 s0.heap.objs.size = none := I0.hok.fresh (Nat.le_refl _)
    have hP : P ≠ s0.heap.objs.size := fun z => by
      obtain ⟨ps, g1, _⟩ := hT
      rw [z, nD] at g1
      cases g1
    refine lam_tail I2 B hc0 hq hT hfree fun f c' doc pm ctv H1 s1 I1 sm kb kn e n m co => h f c' H1 s1 I1 sm ⟨⟨_, doc, pm, ctv, e, .inr ⟨s0.heap.objs.size, i, tk, rfl, rfl, kb _ _ (Ne.symm hP) eD, kn _ _ eD nD, fun z => ?_⟩⟩, n, m, co⟩
    rcases List.mem_cons.mp (I0.stkSub _ z) with e | e
    · have l := I0.lt
      rw [← e] at l
      exact absurd l (Nat.lt_irrefl _)
    · exact I0.nofs (Nat.le_refl _) e
end

/-! ### the lambda's body -/
/-- what it names: its own default's name, captured names, globals -/
structure LamK (sc scope : Scope) : Prop where
  kind : scope.kind = .function
  co : scope.isCoroutine = false
  gen : scope.isGenerator = false
  nocell : ∀ y ∈ scope.names, y.2 ≠ .cell
  nz : scope.names.lookup ("" : Str) = none
  free : ∀ y ∈ scope.names, y.2 = .free → sc.names.lookup y.1 = some .cell ∨ sc.names.lookup y.1 = some .free
def lamKB (sc scope : Scope) : Bool :=
  decide (scope.kind = .function) && (!scope.isCoroutine && (!scope.isGenerator && (decide (scope.names.lookup ("" : Str) = none) && scope.names.all fun y => !decide (y.2 = .cell) && (!decide (y.2 = .free) || decide (sc.names.lookup y.1 = some .cell) || decide (sc.names.lookup y.1 = some .free)))))
theorem lamK_by {sc scope : Scope} (h : lamKB sc scope = true) : LamK sc scope := by
  unfold lamKB at h
  simp only [Bool.and_eq_true, Bool.or_eq_true, Bool.not_eq_true', decide_eq_true_eq, decide_eq_false_iff_not, List.all_eq_true] at h
  obtain ⟨h1, h2, h3, h4, h5⟩ := h
  refine ⟨h1, h2, h3, fun y hy => (h5 y hy).1, h4, fun y hy e => ?_⟩
  rcases (h5 y hy).2 with (z | z) | z
  · exact absurd e z
  · exact .inl z
  · exact .inr z
theorem LamK.has {X : Cx} {scope : Scope} (L : LamK X.env.scope scope) (ok : X.Ok) : ∀ y ∈ scope.names, y.2 = .free → ∃ c, X.env.cells.lookup y.1 = some c := fun y hy e => by
  rcases L.free y hy e with k | k
  · exact ok.has _ (.inl k)
  · exact ok.has _ (.inr k)
/-- a slot of the maker's, as the lambda's body may name it -/
def lamNm (scope : Scope) (x : Str) : Str := if scope.names.lookup x = some .free then x else ("" : Str)
def lamX (X : Cx) (A : Around) (outer : List Env) (s : Shared) (H : Hp) (E : XK) (scope : Scope) (f c' : Addr) : Cx := { LamX.lamCx X A outer s H E scope f c' with N := X.N.map (lamNm scope) }
section
variable {X : Cx} {pins : List (Addr × Obj)} {σ : L2.St} {H HZ : Hp} {s s1 : Shared} {scope : Scope} {f c' : Addr}
theorem lam_enter {A : Around} {outer : List Env} {E : XK} {h₁ : Heap} {tk : Nat} {m : Str → Option Value} (I : Inv X pins σ H s) (L : LamK X.env.scope scope) (e0 : Env0 X.prog X.w X.K X.mg X.base A outer s1 HZ) (hd : A.handled = none)
    (un : Un (frs X.stack) [] H HZ s.heap s1.heap) (hns : h₁.Ns s1.heap.objs.size m) (kp : ∀ b o, s1.heap.get? b = some o → h₁.get? b = some o) :
    Inv (lamX X A outer s1 HZ E scope f c') [] σ HZ { s1 with heap := h₁, toks := tk } := by
  have fr := L.has I.ok
  have cm : ∀ {y c}, (cloFrom X.env.cells scope.names []).lookup y = some c → X.env.cells.lookup y = some c := fun {y c} e => by
    rcases cloFrom_mem (PySem.mem_of_lookup e) with z | ⟨z1, z2⟩
    · cases z
    · obtain ⟨c1, w1⟩ := fr _ z1 rfl
      have w1 : X.env.cells.lookup y = some c1 := w1
      rw [w1] at z2
      rw [w1]
      exact congrArg some z2.symm
  have look : ∀ {y}, scope.names.lookup y = some .free → ∃ c, (cloFrom X.env.cells scope.names []).lookup y = some c := fun {y} w =>
    mem_lookup (cloFrom_has (cells := X.env.cells) (acc := []) (PySem.mem_of_lookup w : (y, NameKind.free) ∈ scope.names))
  have cellK : ∀ {c : Addr} {v : Option Value}, H c = none → s.heap.IsCell c v → h₁.IsCell c v := fun {c v} n ⟨o, w1, w2⟩ => by
    obtain ⟨sl, q⟩ := un.any w1 n (by simp)
    exact ⟨_, kp _ _ q, w2⟩
  have noX : ∀ b : Addr, b ∉ (lamX X A outer s1 HZ E scope f c').ex := fun b z => by cases (show b ∈ ([] : List Addr) from z)
  refine ⟨⟨e0.mod, L.kind, rfl, rfl, Nat.le_refl _, fun y z c e1 e2 => I.ok.inj y z c (cm e1) (cm e2), fun y hy => ?_, fun y c z _ => ?_, fun _ => hd, Around.frames_deeper e0.frames, .inr ⟨rfl, rfl⟩, fun b z => absurd z (noX b), e0.bs, e0.bsz, fun b _ _ => noX b,
      fun b z => absurd z (noX b), e0.funs, e0.frf⟩,
    rfl, e0.bare, Un.kept kp, ⟨m, hns, fun i y v e1 e2 e3 => ?_⟩, fun y c e => ?_, e0.hok.fresh (Nat.le_refl _), fun y c e => ?_, fun q hq => ?_, e0.hok.kept kp, ?_⟩
  · have hy : scope.names.lookup y = some .cell ∨ scope.names.lookup y = some .free := hy
    rcases hy with hy | hy
    · exact absurd rfl (L.nocell _ (PySem.mem_of_lookup hy))
    · exact look hy
  · cases (show false = true from z)
  · have e1 : (X.N.map (lamNm scope))[i]? = some y := e1
    have e3 : Vis scope y := e3
    rw [List.getElem?_map] at e1
    cases hx : X.N[i]? with
    | none => rw [hx] at e1; cases e1
    | some x =>
      rw [hx] at e1
      have e1 : lamNm scope x = y := Option.some.inj e1
      unfold lamNm at e1
      split at e1
      · rename_i k
        subst e1
        obtain ⟨m0, hn, hl⟩ := I.loc
        have hvis : Vis X.env.scope x := (L.free _ (PySem.mem_of_lookup k) rfl).elim (fun k => .inr (.inl k)) (fun k => .inr (.inr k))
        obtain ⟨w', r, q⟩ := hl i x v hx e2 hvis
        obtain ⟨c2, h2⟩ := look k
        refine ⟨w', r, .inr ⟨.inr k, c2, h2, ?_⟩⟩
        have c1 := cm h2
        rcases q with ⟨k', _⟩ | ⟨_, c3, e', z⟩
        · have k' : X.env.scope.names.lookup x = some .local := k'
          rcases L.free _ (PySem.mem_of_lookup k) rfl with k2 | k2
          · have k2 : X.env.scope.names.lookup x = some .cell := k2
            rw [k2] at k'
            cases k'
          · have k2 : X.env.scope.names.lookup x = some .free := k2
            rw [k2] at k'
            cases k'
        · rw [c1] at e'
          cases e'
          exact cellK (I.freeC x _ c1) z
      · subst e1
        exfalso
        rcases e3 with z | z | z
        · rw [L.nz] at z
          cases z
        · rw [L.nz] at z
          cases z
        · rw [L.nz] at z
          cases z
  · obtain ⟨w', z⟩ := I.cell y c (cm e)
    exact ⟨w', cellK (I.freeC y c (cm e)) z⟩
  · obtain ⟨v, o, w1, w2⟩ := I.cell y c (cm e)
    exact un.free c o w1 (I.freeC y c (cm e)) (by simp)
  · cases (show q ∈ ([] : List (Addr × Obj)) from hq)
  · show σ.length = (X.N.map (lamNm scope)).length
    rw [List.length_map]
    exact I.len
/-- what the call of it binds -/
def LamBind (params : Arguments) (body : Expr) (scope : Scope) (is : List Int) : Prop := ∀ (q : Str) (cl : List (Str × Addr)) (dV doc pm cv ctv : Value) (s : Shared),
  ((is = [] ∧ dV = .none) ∨ ∃ (D : Addr) (i : Int) (tk : Tok), is = [i] ∧ dV = .ref D ∧ s.heap.get? D = some (PySem.W.kdv_tup [.int i tk])) →
    ∃ bs : List (Str × Value), BindsTo s (PySem.W.kdv_fn "<lambda>" q params (.expr body) scope cl dV doc pm cv ctv) ⟨[], []⟩ bs ∧ ∀ y ∈ bs, scope.names.lookup y.1 = some .local
theorem lamBind0 {params : Arguments} {body : Expr} (h : ∀ (q : Str) (cl : List (Str × Addr)) (doc pm cv ctv : Value), bindArgs (PySem.W.kdv_fn "<lambda>" q params (.expr body) scope cl .none doc pm cv ctv) ⟨[], []⟩ = pure []) : LamBind params body scope [] := fun q cl dV doc pm cv ctv s hd => by
  rcases hd with ⟨_, rfl⟩ | ⟨D, i, tk, e, _⟩
  · exact ⟨[], .of_eq (h q cl doc pm cv ctv), nofun⟩
  · cases e
theorem lamBind1 {params : Arguments} {body : Expr} {i : Int} {n : Str} (h : ∀ (q : Str) (cl : List (Str × Addr)) (D : Addr) (doc pm cv ctv : Value), ∃ k : Option (Array Value) → Sem (List (Str × Value)), bindArgs (PySem.W.kdv_fn "<lambda>" q params (.expr body) scope cl (.ref D) doc pm cv ctv) ⟨[], []⟩ = seqItems? (.ref D) >>= k ∧ ∀ v, k (some #[v]) = pure [(n, v)])
    (hn : scope.names.lookup n = some .local) : LamBind params body scope [i] := fun q cl dV doc pm cv ctv s hd => by
  rcases hd with ⟨e, _⟩ | ⟨D, i, tk, e, rfl, hD⟩
  · cases e
  · obtain ⟨k, h1, h2⟩ := h q cl D doc pm cv ctv
    refine ⟨[(n, .int i tk)], .of_defaults rfl hD rfl h1 (h2 _), fun y hy => ?_⟩
    rw [List.mem_singleton.mp hy]
    exact hn
theorem pe_act {CXg : CXT} {Eg : XK} {Ng : List Str} {qg : Str} {sg : Scope} {g : Addr} {cdg : Value} {params : Arguments} {body : Expr} {is : List Int} {k i : Nat} {a : Str} {pn : List (Addr × Obj)} {xe : Value → Shared → Prop} {W : WX} {E : XK} {tb : TE} {p1 p2 : Pos}
    (I : Inv X pins σ H s) (L : LamK X.env.scope scope) (hc : CloAt X H s.heap f c' params body scope is) (hb : LamBind params body scope is)
    (tk : Takes ((cxOf CXg X.prog X.w X.K X.mg X.base Ng qg sg g cdg X.A X.stack s H Eg).tr pn xe) W) (hW : ∀ cls d σ' H', E cls d H' → W cls d σ' H') (hr : Room (k + 1) (X.A.deeper (envOfC qg sg s.heap.objs.size g cdg)))
    (hbody : ∀ (A : Around) (outer : List Env) (s : Shared) (H : Hp), A.guards = X.A.guards → Room k (A.deeper (LamX.lamEnv X scope s.heap.objs.size f c')) → PE (lamX X A outer s H E scope f c') body tb)
    (hN : Ng[i]? = some a) (hv : Vis sg a) (hd : (a == ("__debug__" : Str)) = false := by decide) (hcd : (a == ("__classdict__" : Str)) = false := by decide) :
    PE ((cxOf CXg X.prog X.w X.K X.mg X.base Ng qg sg g cdg X.A X.stack s H Eg).tr pn xe) (.Call (.Name a p1) [] [] p2)
      (fun σZ HZ Q => σZ[i]? = some (some (.ref f)) ∧ HZ c' = some (LamX.CodeO c' (lamQ X)) ∧ tb σ HZ Q) := by
  refine ⟨fun pinsZ sZ σZ HZ Q IZ h => ?_⟩
  obtain ⟨g1, g2, g3⟩ := h
  refine wpAny_Call_Name_kw (thn ((pe_var (pos := p1) (i := i) hN hv hd hcd).run pinsZ sZ σZ HZ (fun v H1 => v = .ref f ∧ H1 = HZ) IZ ⟨.ref f, g1, rfl, rfl⟩) fun u s1 hh => ?_)
  obtain ⟨v, H1, I1, r1, rfl, rfl⟩ := hh
  obtain rfl : u = Value.ref f := r1
  have stay : ∀ b o, s.heap.get? b = some o → H b = none → b ∉ frs X.stack → s1.heap.get? b = some o := fun b o e n nf => I1.base.keep b o e n nf (fun z => nomatch (show b ∈ ([] : List Addr) from z))
  obtain ⟨dV, doc, pm, ctv, ob, hD⟩ := hc.ob
  have of1 := stay f _ ob hc.un hc.fr
  refine PySem.W.callWith_F0 ⟨_, _, _, _, of1⟩ ?_
  have un : Un (frs X.stack) [] H H1 s.heap s1.heap := I1.base
  obtain ⟨⟨oc, vs, t, w1, w2, w3⟩, _, _⟩ := I1.hok c' _ g2
  obtain ⟨bs, hbs, hloc⟩ := hb (lamQ X) (cloFrom X.env.cells scope.names []) dV doc pm (.ref c') ctv s1 (hD.imp (fun z => z) fun ⟨D, i, tk, e1, e2, e3, e4, e5⟩ => ⟨D, i, tk, e1, e2, stay D _ e3 e4 e5⟩)
  have rc : codeAny (model X.prog X.w) (X.A.deeper (envOfC qg sg s.heap.objs.size g cdg)) (.call (.ref f) ⟨[], []⟩) (CR (L2.CX X.prog X.w) (envOfC qg sg s.heap.objs.size g cdg :: X.stack) X.prog X.w H1 s1 Q E) s1 := by
    refine PySem.W.kla_callFunE hr.depth of1 rfl L.co L.gen rfl ⟨c', oc, vs, t, rfl, w1, w2, w3⟩ (hbs _ _ _ _ ?_)
    refine wpAny_newFunctionEnv L.nocell hloc (fun h₁ hns hsb => ⟨I1.nolimit.fresh _ hsb, ?_⟩) L.kind
    show codeAny _ _ (.expr body (LamX.lamEnv X scope s1.heap.objs.size f c')) _ _
    have kp : ∀ b o, s1.heap.get? b = some o → h₁.get? b = some o := fun b o e => hsb.extBut b o (Nat.ne_of_lt (Heap.lt_size e)) (Heap.get?_push_of_some _ e)
    have J : Inv (lamX X (X.A.deeper (envOfC qg sg s.heap.objs.size g cdg)) (envOfC qg sg s.heap.objs.size g cdg :: X.stack) s1 H1 E scope f c') [] σ H1 { s1 with heap := h₁, toks := s1.toks + bs.length } :=
      lam_enter I L I1.env0 hr.hd un hns kp
    refine PySem.W.kla_codeExpr (wpAny_mono ((hbody (X.A.deeper (envOfC qg sg s.heap.objs.size g cdg)) _ s1 H1 rfl (hr.deeper _)).run [] _ _ H1 Q J g3) (fun v s' hq => ?_) fun e s' hq => hq)
    obtain ⟨w', H', J', rv, q⟩ := hq
    exact ⟨w', H', J'.os, J'.bare, J'.base, J'.hok, rv, q⟩
  have hx : Passes (L2.CX X.prog X.w) ((cxOf CXg X.prog X.w X.K X.mg X.base Ng qg sg g cdg X.A X.stack s H Eg).tr pn xe) E := passes_call tk hW
  refine wpAny_call (codeAny_mono rc fun r s' hq => ?_)
  cases r with
  | error e => exact hx pinsZ σZ H1 s1 e s' I1 hq
  | ok fl =>
    cases fl with
    | ret u => exact I1.after hq
    | next => exact hq.elim
    | brk => exact hq.elim
    | cont => exact hq.elim
end
end Zj
/-! Whole numbers, rows of them: plain mathematics. -/
namespace Zj
open PySem PySem.Spec PyProof.Rows L2
abbrev tI (xs : List Int) : PyData := .tuple (xs.map .int)
abbrev lI (xs : List Int) : PyData := .list (xs.map .int)
/-- all of them below n binary figures -/
def BitsL (n : Nat) (xs : List Int) : Prop := ∀ x ∈ xs, Bits n x
theorem Bits.mono {m n : Nat} {x : Int} (h : Bits m x) (l : m ≤ n) : Bits n x := Nat.lt_of_lt_of_le h (Nat.pow_le_pow_right (by decide) l)
theorem BitsL.mono {m n : Nat} {xs : List Int} (h : BitsL m xs) (l : m ≤ n) : BitsL n xs := fun x hx => (h x hx).mono l
theorem Bits.mul {m n : Nat} {x y : Int} (h : Bits m x) (l : Bits n y) : Bits (m + n) (x * y) := by
  unfold Bits at *
  rw [Int.natAbs_mul, Nat.pow_add]
  exact Nat.mul_lt_mul'' h l
theorem Bits.add {m : Nat} {x y : Int} (h : Bits m x) (l : Bits m y) : Bits (m + 1) (x + y) := by
  unfold Bits at *
  rw [Nat.pow_succ]
  omega
theorem Bits.sub {m : Nat} {x y : Int} (h : Bits m x) (l : Bits m y) : Bits (m + 1) (x - y) := by
  unfold Bits at *
  rw [Nat.pow_succ]
  omega
theorem Bits.neg {m : Nat} {x : Int} (h : Bits m x) : Bits m (-x) := by
  unfold Bits at *
  rw [Int.natAbs_neg]
  exact h
theorem Bits.log {m : Nat} {x : Int} (h : Bits m x) (h0 : 0 < m) : x.natAbs.log2 < m := PySem.Flt.log2_lt_of h0 h
theorem Bits.le {m : Nat} {x y : Int} (h : Bits m y) (l : x.natAbs ≤ y.natAbs) : Bits m x := Nat.lt_of_le_of_lt l h
def gcdL (xs : List Int) : Nat := xs.foldl (fun g x => Nat.gcd g x.natAbs) 0
theorem gcd_fold (xs : List Int) (g : Nat) : xs.foldl (fun g x => Nat.gcd g x.natAbs) g = Nat.gcd g (gcdL xs) := by
  induction xs generalizing g with
  | nil =>
    show g = Nat.gcd g 0
    rw [Nat.gcd_zero_right]
  | cons x xs ih =>
    show xs.foldl _ (Nat.gcd g x.natAbs) = Nat.gcd g (xs.foldl _ (Nat.gcd 0 x.natAbs))
    rw [ih, ih, Nat.gcd_zero_left, Nat.gcd_assoc]
theorem gcdL_cons (x : Int) (xs : List Int) : gcdL (x :: xs) = Nat.gcd x.natAbs (gcdL xs) := by
  show xs.foldl _ (Nat.gcd 0 x.natAbs) = _
  rw [gcd_fold, Nat.gcd_zero_left]
theorem gcdL_nil : gcdL [] = 0 := rfl
theorem gcdL_append (xs ys : List Int) : gcdL (xs ++ ys) = Nat.gcd (gcdL xs) (gcdL ys) := by
  unfold gcdL
  rw [List.foldl_append, gcd_fold]
  rfl
theorem gcdL_dvd {xs : List Int} {x : Int} (h : x ∈ xs) : (gcdL xs : Int) ∣ x := by
  induction xs with
  | nil => cases h
  | cons y ys ih =>
    rw [gcdL_cons]
    rcases List.mem_cons.mp h with e | e
    · subst e
      exact Int.ofNat_dvd_left.mpr (Nat.gcd_dvd_left _ _)
    · exact Int.dvd_trans (Int.ofNat_dvd.mpr (Nat.gcd_dvd_right _ _)) (ih e)
theorem gcdL_zero {xs : List Int} (h : gcdL xs = 0) : ∀ x ∈ xs, x = 0 := fun x hx => by
  have := gcdL_dvd hx
  rw [h] at this
  exact Int.zero_dvd.mp this
theorem gcdL_le {xs : List Int} {x : Int} (h : x ∈ xs) (h0 : x ≠ 0) : gcdL xs ≤ x.natAbs := by
  have h1 : gcdL xs ∣ x.natAbs := Int.natAbs_dvd_natAbs.mpr (gcdL_dvd h) |> fun z => by simpa using z
  exact Nat.le_of_dvd (by omega) h1
theorem gcdL_bits {xs : List Int} {n : Nat} (h : BitsL n xs) : Bits n (gcdL xs : Int) := by
  by_cases h0 : gcdL xs = 0
  · rw [h0]
    show (0 : Nat) < 2 ^ n
    exact Nat.pow_pos (by decide)
  · have : ∃ x ∈ xs, x ≠ 0 := Classical.byContradiction fun hn => h0 (by
      have hz : ∀ x ∈ xs, x = 0 := fun x hx => Classical.byContradiction fun z => hn ⟨x, hx, z⟩
      clear hn h0 h
      induction xs with
      | nil => rfl
      | cons y ys ih =>
        rw [gcdL_cons, ih (fun x hx => hz x (List.mem_cons_of_mem _ hx)), hz y List.mem_cons_self]
        rfl)
    obtain ⟨x, hx, hx0⟩ := this
    exact (h x hx).le (by simpa using gcdL_le hx hx0)
/-- divided by what all are multiples of -/
def shortL (xs : List Int) : List Int := if gcdL xs < 2 then xs else xs.map fun x => x.fdiv (gcdL xs : Int)
theorem shortL_len (xs : List Int) : (shortL xs).length = xs.length := by
  unfold shortL
  split
  · rfl
  · rw [List.length_map]
theorem fdiv_le {x : Int} {g : Nat} : (x.fdiv (g : Int)).natAbs ≤ x.natAbs := by
  by_cases hg : g = 0
  · subst hg
    simp
  · rw [Int.fdiv_eq_ediv_of_nonneg x (by omega)]
    exact Int.natAbs_ediv_le_natAbs x g
theorem shortL_bits {xs : List Int} {n : Nat} (h : BitsL n xs) : BitsL n (shortL xs) := fun y hy => by
  unfold shortL at hy
  split at hy
  · exact h y hy
  · obtain ⟨x, hx, rfl⟩ := List.mem_map.mp hy
    exact (h x hx).le fdiv_le
/-- it is one multiple of the short ones -/
theorem shortL_mul (xs : List Int) (h : ∃ x ∈ xs, x ≠ 0) : 0 < gcdL xs ∧ xs = (shortL xs).map fun y => (gcdL xs : Int) * y := by
  have hg : 0 < gcdL xs := Nat.pos_of_ne_zero fun z => by
    obtain ⟨x, hx, h0⟩ := h
    exact h0 (gcdL_zero z x hx)
  refine ⟨hg, ?_⟩
  unfold shortL
  split
  · have : gcdL xs = 1 := by omega
    rw [this]
    simp
  · rw [List.map_map]
    conv => lhs; rw [← List.map_id xs]
    refine List.map_congr_left fun x hx => ?_
    obtain ⟨c, hc⟩ := gcdL_dvd hx
    show x = (gcdL xs : Int) * x.fdiv (gcdL xs : Int)
    rw [Int.fdiv_eq_ediv_of_nonneg x (by omega)]
    conv => rhs; rw [hc]
    rw [Int.mul_ediv_cancel_left c (by omega)]
    exact hc
def sgn (n : Int) : Int := if 0 < n then 1 else if n < 0 then -1 else 0
def dot (xs ys : List Int) : Int := (List.zipWith (· * ·) xs ys).sum
/-- the place of the first that is not 0 -/
def lead (xs : List Int) : Option Nat := xs.findIdx? fun x => !(x == 0)
def planeL (row : List Int) : Option (List Int) := match lead row.dropLast with
  | none => none
  | some p => some (if (shortL row).getD p 0 < 0 then (shortL row).map (fun x => -x) else shortL row)
def planeD (row : List Int) : PyData := match planeL row with
  | none => .none
  | some xs => tI xs
def fracL (top bottom : Int) : List Int := if 0 < bottom then shortL [top, bottom] else (shortL [top, bottom]).map fun x => -x
def pointL (ns : List Int) (b : Int) : List Int := shortL (ns.map (fun x => (if 0 < b then 1 else -1) * x) ++ [(if 0 < b then 1 else -1) * b])
/-! what is walked, in pairs -/
def onPair (g : Int → Int → Int) : PyData → PyData
  | .tuple [.int x, .int y] => .int (g x y)
  | _ => .none
theorem mem_zipI {xs ys : List Int} {d : PyData} (h : d ∈ List.zipWith (fun x y => PyData.tuple [x, y]) (xs.map .int) (ys.map .int)) : ∃ x ∈ xs, ∃ y ∈ ys, d = .tuple [.int x, .int y] := by
  induction xs generalizing ys with
  | nil => cases h
  | cons x xs ih =>
    cases ys with
    | nil => cases h
    | cons y ys =>
      rcases List.mem_cons.mp h with e | e
      · exact ⟨x, List.mem_cons_self, y, List.mem_cons_self, e⟩
      · obtain ⟨x', h1, y', h2, e'⟩ := ih e
        exact ⟨x', List.mem_cons_of_mem _ h1, y', List.mem_cons_of_mem _ h2, e'⟩
theorem zipI_map (g : Int → Int → Int) (xs ys : List Int) : (List.zipWith (fun x y => PyData.tuple [x, y]) (xs.map .int) (ys.map .int)).map (onPair g) = (List.zipWith g xs ys).map .int := by
  induction xs generalizing ys with
  | nil => rfl
  | cons x xs ih =>
    cases ys with
    | nil => rfl
    | cons y ys =>
      show PyData.int (g x y) :: _ = PyData.int (g x y) :: _
      rw [← ih ys]
def onInt (g : Int → Int) : PyData → PyData
  | .int x => .int (g x)
  | _ => .none
theorem mapI (g : Int → Int) (xs : List Int) : (xs.map PyData.int).map (onInt g) = (xs.map g).map .int := by
  rw [List.map_map, List.map_map] <;> rfl
theorem mem_mapI {xs : List Int} {d : PyData} (h : d ∈ xs.map PyData.int) : ∃ x ∈ xs, d = .int x := by
  obtain ⟨x, hx, e⟩ := List.mem_map.mp h
  exact ⟨x, hx, e.symm⟩
end Zj
/-! More plain mathematics: places, parts. -/
namespace Zj
open PySem PySem.Spec PyProof.Rows L2
variable [Nm]
theorem six_none (n d : Nat) : HT.sIx n d none = d := HT.sIx_none n d
theorem six_last (n d : Nat) (h : 1 ≤ n) : HT.sIx n d (some (-1)) = n - 1 := by
  have e := HT.clip_eq (-1) n d
  rw [if_pos (by decide)] at e
  have : max ((-1 : Int) + (n : Int)) 0 = ((n - 1 : Nat) : Int) := by omega
  rw [this] at e
  exact (Int.ofNat.inj e).symm
theorem cutD_init (ds : List PyData) (h : 1 ≤ ds.length) : cutD ds none (some (-1)) = ds.dropLast := by
  unfold cutD
  rw [six_none, six_last _ _ h, List.drop_zero, Nat.sub_zero, List.dropLast_eq_take]
theorem cutD_tail (ds : List PyData) (h : 1 ≤ ds.length) : cutD ds (some (-1)) none = ds.drop (ds.length - 1) := by
  unfold cutD
  rw [six_none, six_last _ _ h]
  exact List.take_of_length_le (by rw [List.length_drop]; exact Nat.le_refl _)
theorem cut_part (ds : List PyData) (h : 1 ≤ ds.length) : ¬ (HT.sIx ds.length 0 none = 0 ∧ HT.sIx ds.length ds.length (some (-1)) = ds.length) := by
  rw [six_last _ _ h]
  omega
theorem ati_last {α : Type} {xs : List α} {x : α} (h : xs.getLast? = some x) : atI xs (-1) = some x := by
  obtain ⟨l, rfl⟩ : ∃ l, xs = l ++ [x] := List.getLast?_eq_some_iff.mp h
  exact atI_last l x
theorem ati_of {α : Type} {xs : List α} {i : Int} {j : Nat} {x : α} (e : i = (j : Int)) (h : xs[j]? = some x) : atI xs i = some x := by
  rw [e]
  exact atI_nat h
theorem lastI {xs : List Int} {x : Int} (h : xs.getLast? = some x) : (xs.map PyData.int).getLast? = some (.int x) := by
  rw [List.getLast?_map, h] <;> rfl
theorem initI (xs : List Int) : (xs.map PyData.int).dropLast = xs.dropLast.map .int := (List.map_dropLast).symm
def wholeD : PyData → Bool
  | .int _ => true
  | _ => false
def badAt (ds : List PyData) : Option Nat := ds.findIdx? fun x => !wholeD x
def placeD : Option Nat → PyData
  | some k => .int (k : Int)
  | none => .none
def wrongD (v : PyData) (m : Int) : PyData := match v with
  | .tuple ds => if (ds.length : Int) = m then placeD (badAt ds) else .int (-1)
  | _ => .int (-1)
theorem badAt_ints (xs : List Int) : badAt (xs.map .int) = none := by
  unfold badAt
  rw [List.findIdx?_eq_none_iff]
  intro x hx
  obtain ⟨i, _, rfl⟩ := List.mem_map.mp hx
  rfl
/-- the first place of which something holds, told turn by turn -/
theorem find_hit {α : Type} {p : α → Bool} {xs : List α} {n : Nat} {x : α} (h : xs[n]? = some x) (hx : p x = true) (hb : ∀ i y, i < n → xs[i]? = some y → p y = false) : xs.findIdx? p = some n := by
  rw [List.findIdx?_eq_some_iff_getElem]
  obtain ⟨hn1, hn2⟩ := (List.getElem?_eq_some_iff.mp h)
  refine ⟨hn1, by rw [hn2]; exact hx, fun j hj => ?_⟩
  have hj' : j < xs.length := by omega
  have := hb j xs[j] hj (by simp)
  rw [this]
  exact Bool.false_ne_true
theorem find_miss {α : Type} {p : α → Bool} {xs : List α} (hb : ∀ i y, i < xs.length → xs[i]? = some y → p y = false) : xs.findIdx? p = none := by
  rw [List.findIdx?_eq_none_iff]
  intro x hx
  obtain ⟨i, hi, e⟩ := List.getElem_of_mem hx
  exact hb i x hi (by rw [← e]; simp)
theorem gcdL_take {xs : List Int} {n : Nat} {x : Int} (h : xs[n]? = some x) : gcdL (xs.take (n + 1)) = Nat.gcd (gcdL (xs.take n)) x.natAbs := by
  rw [List.take_add_one, h]
  show gcdL (xs.take n ++ [x]) = _
  rw [gcdL_append, gcdL_cons, gcdL_nil, Nat.gcd_zero_right]
theorem getI {xs : List Int} {n : Nat} {d : PyData} (h : (xs.map PyData.int)[n]? = some d) : ∃ x, xs[n]? = some x ∧ d = .int x := by
  rw [List.getElem?_map] at h
  cases e : xs[n]? with
  | none => rw [e] at h; cases h
  | some x => rw [e] at h; cases h; exact ⟨x, rfl, rfl⟩
theorem getN {ds : List PyData} {n : Nat} {d : PyData} (h : (numbered ds)[n]? = some d) : ∃ x, ds[n]? = some x ∧ d = .tuple [.int (n : Int), x] := by
  unfold numbered at h
  rw [List.getElem?_map] at h
  by_cases hn : n < ds.length
  · rw [List.getElem?_range hn] at h
    cases h
    refine ⟨ds[n], by simp, ?_⟩
    show PyData.tuple [.int (n : Int), ds.getD n .none] = _
    rw [List.getD_eq_getElem?_getD, List.getElem?_eq_getElem hn] <;> rfl
  · rw [List.getElem?_eq_none (by simpa using hn)] at h
    cases h
theorem mem_numbered {ds : List PyData} {d : PyData} (h : d ∈ numbered ds) : ∃ (n : Nat) (x : PyData), ds[n]? = some x ∧ d = .tuple [.int (n : Int), x] := by
  obtain ⟨n, hn, e⟩ := List.getElem_of_mem h
  obtain ⟨x, h1, h2⟩ := getN (show (numbered ds)[n]? = some d by rw [← e]; simp)
  exact ⟨n, x, h1, h2⟩
theorem numbered_len (ds : List PyData) : (numbered ds).length = ds.length := by simp [numbered]
/-- a fraction of two numbers, by any common divisor of the right sign -/
theorem frac_lowest {t b : Int} (hb : b ≠ 0) : ([t.fdiv (if b < 0 then -((Nat.gcd t.natAbs b.natAbs : Nat) : Int) else ((Nat.gcd t.natAbs b.natAbs : Nat) : Int)), b.fdiv (if b < 0 then -((Nat.gcd t.natAbs b.natAbs : Nat) : Int) else ((Nat.gcd t.natAbs b.natAbs : Nat) : Int))] : List Int) = fracL t b := by
  have eg : gcdL [t, b] = Nat.gcd t.natAbs b.natAbs := by rw [gcdL_cons, gcdL_cons, gcdL_nil, Nat.gcd_zero_right]
  have gp : 0 < Nat.gcd t.natAbs b.natAbs := Nat.gcd_pos_of_pos_right _ (by omega)
  have d1 : ((Nat.gcd t.natAbs b.natAbs : Nat) : Int) ∣ t := Int.ofNat_dvd_left.mpr (Nat.gcd_dvd_left _ _)
  have d2 : ((Nat.gcd t.natAbs b.natAbs : Nat) : Int) ∣ b := Int.ofNat_dvd_left.mpr (Nat.gcd_dvd_right _ _)
  have sh : shortL [t, b] = [t.fdiv ((Nat.gcd t.natAbs b.natAbs : Nat) : Int), b.fdiv ((Nat.gcd t.natAbs b.natAbs : Nat) : Int)] := by
    unfold shortL
    rw [eg]
    split
    · have : Nat.gcd t.natAbs b.natAbs = 1 := by omega
      rw [this]
      simp
    · rfl
  have neg : ∀ x : Int, ((Nat.gcd t.natAbs b.natAbs : Nat) : Int) ∣ x → x.fdiv (-((Nat.gcd t.natAbs b.natAbs : Nat) : Int)) = -(x.fdiv ((Nat.gcd t.natAbs b.natAbs : Nat) : Int)) := fun x ⟨c, hc⟩ => by
    have g0 : ((Nat.gcd t.natAbs b.natAbs : Nat) : Int) ≠ 0 := by omega
    generalize ((Nat.gcd t.natAbs b.natAbs : Nat) : Int) = g at g0 hc ⊢
    have e1 : x.fdiv g = c := by rw [hc]; exact Int.mul_fdiv_cancel_left c g0
    have e2 : x.fdiv (-g) = -c := by
      rw [hc, show g * c = (-g) * (-c) by rw [Int.neg_mul_neg]]
      exact Int.mul_fdiv_cancel_left (-c) (by omega)
    rw [e1, e2]
  unfold fracL
  rw [sh]
  by_cases h : b < 0
  · rw [if_pos h, if_neg (by omega), neg t d1, neg b d2] <;> rfl
  · rw [if_neg h, if_pos (by omega)]
def intD : PyData → Bool
  | .int _ | .bool _ => true
  | _ => false
def boolD : PyData → Bool
  | .bool _ => true
  | _ => false
def tupD : PyData → Bool
  | .tuple _ => true
  | _ => false
theorem kit_int (d : PyData) : kitB (tyD d) "int" = some (intD d) := by
  cases d with
  | none => show kitB "NoneType" "int" = some false; decide +kernel
  | bool b => show kitB "bool" "int" = some true; decide +kernel
  | int b => show kitB "int" "int" = some true; decide +kernel
  | str b => show kitB "str" "int" = some false; decide +kernel
  | list b => show kitB "list" "int" = some false; decide +kernel
  | tuple b => show kitB "tuple" "int" = some false; decide +kernel
  | dict b => show kitB "dict" "int" = some false; decide +kernel
theorem kit_bool (d : PyData) : kitB (tyD d) "bool" = some (boolD d) := by
  cases d with
  | none => show kitB "NoneType" "bool" = some false; decide +kernel
  | bool b => show kitB "bool" "bool" = some true; decide +kernel
  | int b => show kitB "int" "bool" = some false; decide +kernel
  | str b => show kitB "str" "bool" = some false; decide +kernel
  | list b => show kitB "list" "bool" = some false; decide +kernel
  | tuple b => show kitB "tuple" "bool" = some false; decide +kernel
  | dict b => show kitB "dict" "bool" = some false; decide +kernel
theorem kit_tup (d : PyData) : kitB (tyD d) "tuple" = some (tupD d) := by
  cases d with
  | none => show kitB "NoneType" "tuple" = some false; decide +kernel
  | bool b => show kitB "bool" "tuple" = some false; decide +kernel
  | int b => show kitB "int" "tuple" = some false; decide +kernel
  | str b => show kitB "str" "tuple" = some false; decide +kernel
  | list b => show kitB "list" "tuple" = some false; decide +kernel
  | tuple b => show kitB "tuple" "tuple" = some true; decide +kernel
  | dict b => show kitB "dict" "tuple" = some false; decide +kernel
theorem whole_is (d : PyData) : wholeD d = (intD d && !boolD d) := by cases d <;> rfl
section
variable {X : Cx} {a : Addr} {ρ : Rho} {e : Expr} {pos p p2 : Pos} {d : PyData}
theorem e_isInt (h : EvE X a e ρ d) (hm : X.mg "isinstance" = none) (hmT : X.mg "int" = none) (hg : Gl X "isinstance" := by rfl) (hgT : Gl X "int" := by rfl)
    (hs1 : starEach (e :: [.Name "int" p2]) X.env = (false, eval e X.env) :: starEach [.Name "int" p2] X.env := by exact star_of rfl) (hs2 : starEach (.Name "int" p2 :: []) X.env = (false, eval (.Name "int" p2) X.env) :: starEach [] X.env := by exact star_of rfl)
    (hpl : (backTo pos (starEach [.Name "int" p2] X.env)).any (·.1) = false := by exact star_no rfl) : EvE X a (.Call (.Name "isinstance" p) [e, .Name "int" p2] [] pos) ρ (.bool (intD d)) :=
  e_isi (tn := "int") h (kit_int d) (by decide +kernel) hm hmT hg hgT (by decide) (by decide) hs1 hs2 hpl
theorem e_isBool (h : EvE X a e ρ d) (hm : X.mg "isinstance" = none) (hmT : X.mg "bool" = none) (hg : Gl X "isinstance" := by rfl) (hgT : Gl X "bool" := by rfl)
    (hs1 : starEach (e :: [.Name "bool" p2]) X.env = (false, eval e X.env) :: starEach [.Name "bool" p2] X.env := by exact star_of rfl) (hs2 : starEach (.Name "bool" p2 :: []) X.env = (false, eval (.Name "bool" p2) X.env) :: starEach [] X.env := by exact star_of rfl)
    (hpl : (backTo pos (starEach [.Name "bool" p2] X.env)).any (·.1) = false := by exact star_no rfl) : EvE X a (.Call (.Name "isinstance" p) [e, .Name "bool" p2] [] pos) ρ (.bool (boolD d)) :=
  e_isi (tn := "bool") h (kit_bool d) (by decide +kernel) hm hmT hg hgT (by decide) (by decide) hs1 hs2 hpl
theorem e_isTup (h : EvE X a e ρ d) (hm : X.mg "isinstance" = none) (hmT : X.mg "tuple" = none) (hg : Gl X "isinstance" := by rfl) (hgT : Gl X "tuple" := by rfl)
    (hs1 : starEach (e :: [.Name "tuple" p2]) X.env = (false, eval e X.env) :: starEach [.Name "tuple" p2] X.env := by exact star_of rfl) (hs2 : starEach (.Name "tuple" p2 :: []) X.env = (false, eval (.Name "tuple" p2) X.env) :: starEach [] X.env := by exact star_of rfl)
    (hpl : (backTo pos (starEach [.Name "tuple" p2] X.env)).any (·.1) = false := by exact star_no rfl) : EvE X a (.Call (.Name "isinstance" p) [e, .Name "tuple" p2] [] pos) ρ (.bool (tupD d)) :=
  e_isi (tn := "tuple") h (kit_tup d) (by decide +kernel) hm hmT hg hgT (by decide) (by decide) hs1 hs2 hpl
/-- and, as a value, of two -/
theorem e_and2 {f : Expr} {b c : Bool} (h : EvE X a e ρ (.bool b)) (h2 : EvE X a f ρ (.bool c)) : EvE X a (.BoolOp .And [e, f] pos) ρ (.bool (b && c)) := by
  cases b with
  | true => exact e_andT h (e_one h2)
  | false => exact e_andF h rfl
theorem t_or2 {f : Expr} {b c : Bool} (h : EvT X a e ρ b) (h2 : b = false → EvT X a f ρ c) (hb : b = true → c = true) : EvT X a (.BoolOp .Or [e, f] pos) ρ c := by
  cases b with
  | true => rw [hb rfl]; exact t_orT h
  | false => exact t_orF h (t_or1 (h2 rfl))
theorem t_and2 {f : Expr} {b c : Bool} (h : EvT X a e ρ b) (h2 : b = true → EvT X a f ρ c) (hb : b = false → c = false) : EvT X a (.BoolOp .And [e, f] pos) ρ c := by
  cases b with
  | true => exact t_andT h (t_and1 (h2 rfl))
  | false => rw [hb rfl]; exact t_andF h
end
end Zj
/-! Data that is short, data that is alike, places with their numbers. -/
namespace Zj
open PySem PySem.Spec PyProof.Rows L2
variable [Nm]
/-- short data: nodes at most b, depth at most n -/
structure Tam (b n : Nat) (d : PyData) : Prop where
  tm : Tm d
  bk : d.bulk ≤ b
  dp : d.depth ≤ n
theorem Tam.tame {b n : Nat} {d : PyData} (t : Tam b n d) (hb : b ≤ 8000) (hn : n ≤ 60) : Tame d := ⟨t.tm, Nat.le_trans t.bk hb, Nat.le_trans t.dp hn⟩
theorem Tam.mono {b n b' n' : Nat} {d : PyData} (t : Tam b n d) (hb : b ≤ b') (hn : n ≤ n') : Tam b' n' d := ⟨t.tm, Nat.le_trans t.bk hb, Nat.le_trans t.dp hn⟩
theorem tam_int {i : Int} (h : Bits 1900 i) : Tam 0 0 (.int i) := ⟨by simp only [Tm]; exact Nat.lt_of_lt_of_le (h.log (by decide)) (by decide), by simp only [PyData.bulk]; exact Nat.le_refl _, by simp only [PyData.depth]; exact Nat.le_refl _⟩
theorem tam_non : Tam 0 0 .none := ⟨by simp only [Tm], by simp only [PyData.bulk]; exact Nat.le_refl _, by simp only [PyData.depth]; exact Nat.le_refl _⟩
theorem tam_bool {b : Bool} : Tam 0 0 (.bool b) := ⟨by simp only [Tm], by simp only [PyData.bulk]; exact Nat.le_refl _, by simp only [PyData.depth]; exact Nat.le_refl _⟩
theorem tam_all {b n : Nat} : ∀ {ds : List PyData}, (∀ d ∈ ds, Tam b n d) → TmAll ds ∧ PyData.bulkAll ds ≤ (b + 1) * ds.length ∧ PyData.depthAll ds ≤ n
  | [], _ => ⟨by simp only [TmAll], by simp only [PyData.bulkAll]; exact Nat.zero_le _, by simp only [PyData.depthAll]; exact Nat.zero_le _⟩
  | d :: ds, h => by
    obtain ⟨h1, h2, h3⟩ := tam_all (ds := ds) fun x hx => h x (List.mem_cons_of_mem _ hx)
    have t := h d List.mem_cons_self
    refine ⟨by simp only [TmAll]; exact ⟨t.tm, h1⟩, ?_, ?_⟩
    · simp only [PyData.bulkAll, List.length_cons]
      have := t.bk
      rw [Nat.mul_add, Nat.mul_one]
      omega
    · simp only [PyData.depthAll]
      have := t.dp
      omega
theorem tam_lst {b n l : Nat} {ds : List PyData} (h : ∀ d ∈ ds, Tam b n d) (hl : ds.length ≤ l) : Tam ((b + 1) * l) (n + 1) (.list ds) := by
  obtain ⟨h1, h2, h3⟩ := tam_all h
  have := Nat.mul_le_mul_left (b + 1) hl
  exact ⟨by simp only [Tm]; exact h1, by simp only [PyData.bulk]; omega, by simp only [PyData.depth]; omega⟩
theorem tam_tup {b n l : Nat} {ds : List PyData} (h : ∀ d ∈ ds, Tam b n d) (hl : ds.length ≤ l) : Tam ((b + 1) * l) (n + 1) (.tuple ds) := by
  obtain ⟨h1, h2, h3⟩ := tam_all h
  have := Nat.mul_le_mul_left (b + 1) hl
  exact ⟨by simp only [Tm]; exact h1, by simp only [PyData.bulk]; omega, by simp only [PyData.depth]; omega⟩
theorem tam_tI {xs : List Int} {l : Nat} (h : BitsL 1900 xs) (hl : xs.length ≤ l) : Tam l 1 (tI xs) := by
  have := tam_tup (b := 0) (n := 0) (l := l) (ds := xs.map PyData.int) (fun d hd => by
    obtain ⟨x, hx, rfl⟩ := mem_mapI hd
    exact tam_int (h x hx)) (by simpa using hl)
  exact this.mono (by omega) (Nat.le_refl _)
/-! alike -/
theorem lay_ints (xs : List Int) : PyData.canLayAll0 (xs.map .int) = true := by
  induction xs with
  | nil => simp [PyData.canLayAll0]
  | cons x xs ih => simp [PyData.canLayAll0, PyData.canLay0, ih]
theorem depth_ints (xs : List Int) : PyData.depthAll (xs.map .int) = 0 := by
  induction xs with
  | nil => simp [PyData.depthAll]
  | cons x xs ih => simp [PyData.depthAll, PyData.depth, ih]
theorem shaped_tI (xs : List Int) : SeqAt.shaped (tI xs) = true := by
  unfold SeqAt.shaped
  simp [PyData.canLay0, lay_ints, PyData.depth, depth_ints]
theorem shaped_lI (xs : List Int) : SeqAt.shaped (lI xs) = true := by
  unfold SeqAt.shaped
  simp [PyData.canLay0, lay_ints, PyData.depth, depth_ints]
theorem shaped_non : SeqAt.shaped .none = true := by
  unfold SeqAt.shaped
  simp [PyData.canLay0, PyData.depth]
theorem eqvAll_ints : ∀ (xs ys : List Int), PyData.eqvAll (xs.map .int) (ys.map .int) = (xs == ys)
  | [], [] => by simp [PyData.eqvAll]
  | [], _ :: _ => by simp [PyData.eqvAll]
  | _ :: _, [] => by simp [PyData.eqvAll]
  | x :: xs, y :: ys => by
    have ih := eqvAll_ints xs ys
    simp only [List.map_cons, PyData.eqvAll, PyData.eqv, ih]
    rfl
theorem eqv_tI (xs ys : List Int) : PyData.eqv (tI xs) (tI ys) = (xs == ys) := by simp only [PyData.eqv, eqvAll_ints]
theorem eqv_lI (xs ys : List Int) : PyData.eqv (lI xs) (lI ys) = (xs == ys) := by simp only [PyData.eqv, eqvAll_ints]
/-! each with its number, from a number on -/
def numFrom (k : Nat) : List PyData → List PyData
  | [] => []
  | x :: xs => .tuple [.int (k : Int), x] :: numFrom (k + 1) xs
theorem numFrom_get : ∀ (k : Nat) (ds : List PyData) (i : Nat), (numFrom k ds)[i]? = ds[i]?.map fun x => PyData.tuple [.int ((k + i : Nat) : Int), x]
  | k, [], i => by simp [numFrom]
  | k, x :: xs, 0 => by simp [numFrom]
  | k, x :: xs, i + 1 => by
    have ih := numFrom_get (k + 1) xs i
    simp only [numFrom, List.getElem?_cons_succ, ih]
    rw [show k + 1 + i = k + (i + 1) by omega]
theorem numbered_eq (ds : List PyData) : numbered ds = numFrom 0 ds := by
  apply List.ext_getElem?
  intro i
  rw [numFrom_get, Nat.zero_add]
  cases h : ds[i]? with
  | none =>
    have : ds.length ≤ i := List.getElem?_eq_none_iff.mp h
    rw [List.getElem?_eq_none (by rw [numbered_len]; exact this)]
    rfl
  | some x => exact numbered_get h
/-- what a comprehension over numbered whole numbers keeps: the places of those that are not 0 -/
def keepNZ : PyData → Bool
  | .tuple [_, .int x] => !(x == 0)
  | _ => false
def valK : PyData → PyData
  | .tuple [k, _] => k
  | _ => .none
def nzFrom (k : Nat) : List Int → List Int
  | [] => []
  | x :: xs => if x == 0 then nzFrom (k + 1) xs else (k : Int) :: nzFrom (k + 1) xs
theorem kept_nz : ∀ (k : Nat) (xs : List Int), kept keepNZ valK (numFrom k (xs.map .int)) = (nzFrom k xs).map .int
  | k, [] => rfl
  | k, x :: xs => by
    have ih := kept_nz (k + 1) xs
    unfold kept at ih ⊢
    show ((PyData.tuple [.int (k : Int), .int x] :: numFrom (k + 1) (xs.map .int)).filter keepNZ).map valK = _
    unfold nzFrom
    cases hx : x == 0 with
    | true =>
      rw [List.filter_cons_of_neg (by show ¬ (!(x == 0)) = true; rw [hx]; exact Bool.false_ne_true), ih, if_pos rfl]
    | false =>
      rw [List.filter_cons_of_pos (by show (!(x == 0)) = true; rw [hx]; rfl), if_neg Bool.false_ne_true, List.map_cons, ih, List.map_cons]
      rfl
theorem lead_nil : lead [] = none := rfl
theorem lead_cons (x : Int) (xs : List Int) : lead (x :: xs) = if x == 0 then (lead xs).map (· + 1) else some 0 := by
  unfold lead
  rw [List.findIdx?_cons]
  cases x == 0 <;> rfl
theorem nz_lead : ∀ (k : Nat) (xs : List Int), match lead xs with
    | none => nzFrom k xs = []
    | some p => ∃ tl, nzFrom k xs = ((k + p : Nat) : Int) :: tl
  | k, [] => rfl
  | k, x :: xs => by
    have ih := nz_lead (k + 1) xs
    rw [lead_cons]
    unfold nzFrom
    cases hx : x == 0 with
    | true =>
      rw [if_pos rfl, if_pos rfl]
      cases hl : lead xs with
      | none =>
        rw [hl] at ih
        exact ih
      | some p =>
        rw [hl] at ih
        obtain ⟨tl, e⟩ := ih
        exact ⟨tl, by rw [e, show k + 1 + p = k + (p + 1) by omega]⟩
    | false => exact ⟨_, rfl⟩
theorem lead_get {xs : List Int} {p : Nat} (h : lead xs = some p) : ∃ x, xs[p]? = some x ∧ x ≠ 0 := by
  unfold lead at h
  rw [List.findIdx?_eq_some_iff_getElem] at h
  obtain ⟨h1, h2, _⟩ := h
  exact ⟨xs[p], by simp, by simpa using h2⟩
end Zj
/-! Reading and writing the law's state. -/
namespace Zj
open PySem PySem.Spec PyProof.Rows L2
variable [Nm]
def PInt (d : PyData) : Prop := ∃ i : Int, d = .int i
def PCells (d : PyData) : Prop := ∃ xs : List Int, d = lI xs ∧ 1 ≤ xs.length ∧ xs.length ≤ 100 ∧ BitsL 2000000 xs
def PSpot (n : Nat) (d : PyData) : Prop := ∃ i : Int, d = .int i ∧ 0 ≤ i ∧ i + n ≤ 1000000000000
section
variable {X : Cx} {a : Addr} {ρ : Rho} {n m : Nat} {N : Nat → Rho → Prop} {R : Nat → PyData → Prop} {e : Expr} {P : PyData → Prop} {y : Str} {i j : Nat} {pm kp pos : Pos}
theorem m_get {key : Str} (hu : X.A.units + 64 < cLine) (hi : ρ[i]? = some (some .hnd))
    (hk : ∀ (left seed : Int) (pc : Addr) (spot : Int) (cells : List Int) (H : Hp), SqL X.K H pc (cells.map V.int) → 1 ≤ cells.length → cells.length ≤ 100 → (∀ c ∈ cells, Bits 2000000 c) → 0 ≤ seed → seed < 2147483647 → 0 ≤ spot → spot + n ≤ 1000000000000 →
      ∃ v d, valV (sts left seed pc spot) (Sum.inr key) = some v ∧ Dp X.K H v d ∧ P d)
    (hN : X.N[i]? = some y := by rfl) (hv : Vis X.env.scope y := by first | exact Or.inl rfl | exact Or.inr (Or.inl rfl) | exact Or.inr (Or.inr rfl)) (hd : (y == ("__debug__" : Str)) = false := by decide) (hcd : (y == ("__classdict__" : Str)) = false := by decide) :
    EvM X a (.Subscript (.Name y pm) (.Constant (.str key) j kp) pos) ρ n n P := fun T σ H S ms Q q => by
  obtain ⟨v, h1, h2⟩ := S.sl i _ hi
  have h2 : v = .ref a := h2
  subst h2
  have ms0 := ms
  obtain ⟨left, seed, pc, spot, cells, g1, g2, g3, g4, g5, g6, g7, g8, g9⟩ := ms
  obtain ⟨v, d, k1, k2, k3⟩ := hk left seed pc spot cells _ g2 g3 g4 g5 g6 g7 g8 g9
  exact toE (pe_dget (Nat.lt_of_le_of_lt (Nat.add_le_add_left (by decide) _) hu) (pe_var hN hv hd hcd) pe_str (fun _ _ => rfl)) ⟨_, h1, a, v, rfl, by rw [← k1]; exact DGet.k (k := Sum.inr key) (off_some g1).1, q v d H Kp.refl ms0 k2 k3⟩
theorem m_left (hu : X.A.units + 64 < cLine) (hi : ρ[i]? = some (some .hnd)) (hN : X.N[i]? = some y := by rfl) (hv : Vis X.env.scope y := by first | exact Or.inl rfl | exact Or.inr (Or.inl rfl) | exact Or.inr (Or.inr rfl)) (hd : (y == ("__debug__" : Str)) = false := by decide) (hcd : (y == ("__classdict__" : Str)) = false := by decide) :
    EvM X a (.Subscript (.Name y pm) (.Constant (.str "left") j kp) pos) ρ n n PInt :=
  m_get hu hi (fun left seed pc spot cells H _ _ _ _ _ _ _ _ => ⟨.int left, .int left, rfl, .int _, left, rfl⟩) hN hv hd hcd
theorem m_seed (hu : X.A.units + 64 < cLine) (hi : ρ[i]? = some (some .hnd)) (hN : X.N[i]? = some y := by rfl) (hv : Vis X.env.scope y := by first | exact Or.inl rfl | exact Or.inr (Or.inl rfl) | exact Or.inr (Or.inr rfl)) (hd : (y == ("__debug__" : Str)) = false := by decide) (hcd : (y == ("__classdict__" : Str)) = false := by decide) :
    EvM X a (.Subscript (.Name y pm) (.Constant (.str "seed") j kp) pos) ρ n n PInt :=
  m_get hu hi (fun left seed pc spot cells H _ _ _ _ _ _ _ _ => ⟨.int seed, .int seed, rfl, .int _, seed, rfl⟩) hN hv hd hcd
theorem m_cells (hu : X.A.units + 64 < cLine) (hi : ρ[i]? = some (some .hnd)) (hN : X.N[i]? = some y := by rfl) (hv : Vis X.env.scope y := by first | exact Or.inl rfl | exact Or.inr (Or.inl rfl) | exact Or.inr (Or.inr rfl)) (hd : (y == ("__debug__" : Str)) = false := by decide) (hcd : (y == ("__classdict__" : Str)) = false := by decide) :
    EvM X a (.Subscript (.Name y pm) (.Constant (.str "cells") j kp) pos) ρ n n PCells :=
  m_get hu hi (fun left seed pc spot cells H g2 g3 g4 g5 _ _ _ _ => ⟨.ref pc, lI cells, rfl, .lst g2 (dps_ints cells), cells, rfl, g3, g4, g5⟩) hN hv hd hcd
theorem m_spot (hu : X.A.units + 64 < cLine) (hi : ρ[i]? = some (some .hnd)) (hN : X.N[i]? = some y := by rfl) (hv : Vis X.env.scope y := by first | exact Or.inl rfl | exact Or.inr (Or.inl rfl) | exact Or.inr (Or.inr rfl)) (hd : (y == ("__debug__" : Str)) = false := by decide) (hcd : (y == ("__classdict__" : Str)) = false := by decide) :
    EvM X a (.Subscript (.Name y pm) (.Constant (.str "spot") j kp) pos) ρ n n (PSpot n) :=
  m_get hu hi (fun left seed pc spot cells H _ _ _ _ _ _ g8 g9 => ⟨.int spot, .int spot, rfl, .int _, spot, rfl, g8, g9⟩) hN hv hd hcd
theorem qs_put {key : Str} {k : Nat} {sp : Pos} (hu : X.A.units + 64 < cLine) (hi : ρ[i]? = some (some .hnd)) (h : EvM X a e ρ n m P)
    (hk : ∀ d, P d → ∃ z : Int, d = .int z ∧ ∀ (left seed : Int) (pc : Addr) (spot : Int), 0 ≤ spot → spot + m ≤ 1000000000000 → ∃ left' spot', putK (sts left seed pc spot) (Sum.inr key) (.int z) = sts left' seed pc spot' ∧ 0 ≤ spot' ∧ spot' + k ≤ 1000000000000)
    (hn : N k ρ) (hs : swapsWith e (some (.Subscript (.Name y pm) (.Constant (.str key) j kp) sp)) pos.line X.env = pure false := by rfl)
    (hN : X.N[i]? = some y := by rfl) (hv : Vis X.env.scope y := by first | exact Or.inl rfl | exact Or.inr (Or.inl rfl) | exact Or.inr (Or.inr rfl)) (hd : (y == ("__debug__" : Str)) = false := by decide) (hcd : (y == ("__classdict__" : Str)) = false := by decide) :
    RunMS X a (.Assign [.Subscript (.Name y pm) (.Constant (.str key) j kp) sp] e pos) ρ n N R := fun T σ H D S ms kn kr => by
  obtain ⟨v, h1, h2⟩ := S.sl i _ hi
  have h2 : v = .ref a := h2
  subst h2
  refine toS (ps_dput (Nat.lt_of_le_of_lt (Nat.add_le_add_left (by decide) _) hu) (pe_var hN hv hd hcd) pe_str je hs) (h T σ H S ms _ fun v d H1 s1 ms1 p1 hp => ?_)
  obtain ⟨z, rfl, hz⟩ := hk d hp
  obtain rfl := dp_int p1
  have S1 := S.kpo s1 ms
  have ms1' := ms1
  obtain ⟨left, seed, pc, spot, cells, g1, g2, g3, g4, g5, g6, g7, g8, g9⟩ := ms1
  obtain ⟨e1, e2⟩ := off_some g1
  obtain ⟨left', spot', w1, w2, w3⟩ := hz left seed pc spot g8 g9
  have kp : Kp a H1 (upd H1 a (.dK (sts left' seed pc spot'))) := .put e1
  refine ⟨_, h1, a, upd H1 a (.dK (putK (sts left seed pc spot) (Sum.inr key) (.int z))), rfl, DPut.k (k := Sum.inr key) e1 (by show 4 < sizeLine; decide), ?_⟩
  rw [w1]
  refine kn σ _ ρ k (s1.trans kp) (S1.kpo kp ms1') ⟨left', seed, pc, spot', cells, ?_, kp_l (kp_off kp e2) ⟨_, g1⟩ _ _ g2, g3, g4, g5, g6, g7, w2, w3⟩ hn
  rw [off_no e2, upd_same]
theorem qs_putLeft {sp : Pos} (hu : X.A.units + 64 < cLine) (hi : ρ[i]? = some (some .hnd)) (h : EvM X a e ρ n m PInt) (hn : N m ρ)
    (hs : swapsWith e (some (.Subscript (.Name y pm) (.Constant (.str "left") j kp) sp)) pos.line X.env = pure false := by rfl)
    (hN : X.N[i]? = some y := by rfl) (hv : Vis X.env.scope y := by first | exact Or.inl rfl | exact Or.inr (Or.inl rfl) | exact Or.inr (Or.inr rfl)) (hd : (y == ("__debug__" : Str)) = false := by decide) (hcd : (y == ("__classdict__" : Str)) = false := by decide) :
    RunMS X a (.Assign [.Subscript (.Name y pm) (.Constant (.str "left") j kp) sp] e pos) ρ n N R :=
  qs_put hu hi h (fun d hp => by
    obtain ⟨z, rfl⟩ := hp
    exact ⟨z, rfl, fun left seed pc spot h1 h2 => ⟨z, spot, rfl, h1, h2⟩⟩) hn hs hN hv hd hcd
theorem qs_putSpot {k : Nat} {sp : Pos} (hu : X.A.units + 64 < cLine) (hi : ρ[i]? = some (some .hnd)) (h : EvM X a e ρ n m (PSpot k)) (hn : N k ρ)
    (hs : swapsWith e (some (.Subscript (.Name y pm) (.Constant (.str "spot") j kp) sp)) pos.line X.env = pure false := by rfl)
    (hN : X.N[i]? = some y := by rfl) (hv : Vis X.env.scope y := by first | exact Or.inl rfl | exact Or.inr (Or.inl rfl) | exact Or.inr (Or.inr rfl)) (hd : (y == ("__debug__" : Str)) = false := by decide) (hcd : (y == ("__classdict__" : Str)) = false := by decide) :
    RunMS X a (.Assign [.Subscript (.Name y pm) (.Constant (.str "spot") j kp) sp] e pos) ρ n N R :=
  qs_put hu hi h (fun d hp => by
    obtain ⟨z, rfl, h1, h2⟩ := hp
    exact ⟨z, rfl, fun left seed pc spot _ _ => ⟨left, z, rfl, h1, h2⟩⟩) hn hs hN hv hd hcd
theorem dps_rep {K : PySem.W.Frag} {H : Hp} {vs : List V} {ds : List PyData} (h : DpAll K H vs ds) : ∀ n : Nat, DpAll K H (List.replicate n vs).flatten (List.replicate n ds).flatten
  | 0 => .nil
  | n + 1 => by
    rw [List.replicate_succ, List.replicate_succ, List.flatten_cons, List.flatten_cons]
    exact dps_append h (dps_rep h n)
theorem e_rep {X : Cx} {a : Addr} {ρ : Rho} {es : List Expr} {e : Expr} {ds : List PyData} {k : Int} {pos pos' : Pos} (h : EvA X a es ρ ds) (h2 : EvE X a e ρ (.int k)) (h0 : 0 ≤ k) (hk : k ≤ 1000) (hl : ds.length ≤ 50) : EvE X a (.BinOp (.List es pos') .Mult e pos) ρ (.list (List.replicate k.toNat ds).flatten) := fun T σ H S Q q => by
  refine toE (pe_op op_rep (pe_lst ja) je) (h T σ H S _ fun vs H1 s1 p1 => ⟨by rw [dps_len p1]; exact szl (by omega), fun p hp => ?_⟩)
  have S1 := (S.same s1).same (same_new (o := .lst vs) hp)
  refine h2 T σ _ S1 _ fun v2 H2 s2 p2 => ?_
  obtain rfl := dp_int p2
  have lz : vs.length * k.toNat ≤ 50 * 1000 := by
    rw [dps_len p1]
    exact Nat.mul_le_mul hl (by omega)
  refine ⟨p, k, vs, rfl, rfl, s2.ob _ _ upd_same (by intro ps z; cases z), by omega, by omega, szl (by omega), fun r hr => ?_⟩
  have s3 := (s1.trans (same_new (o := .lst vs) hp)).trans s2
  exact q _ _ (s3.trans (same_new hr)) (dpo_newL (S.same s3).dm hr (dps_rep (dpso ((same_new (o := .lst vs) hp).trans s2) p1) _))
end
end Zj
/-! Planes and rows, as numbers. -/
namespace Zj
open PySem PySem.Spec PyProof.Rows L2
variable [Nm]
theorem lead_scale {c : Int} (hc : c ≠ 0) : ∀ xs : List Int, lead (xs.map fun x => c * x) = lead xs
  | [] => rfl
  | x :: xs => by
    rw [List.map_cons, lead_cons, lead_cons, lead_scale hc xs]
    have : ((c * x) == 0) = (x == 0) := by
      rw [Bool.eq_iff_iff, beq_iff_eq, beq_iff_eq]
      constructor
      · intro h
        rcases Int.mul_eq_zero.mp h with h | h
        · exact absurd h hc
        · exact h
      · intro h
        rw [h, Int.mul_zero]
    rw [this]
theorem gcdL_scale (c : Int) : ∀ xs : List Int, gcdL (xs.map fun x => c * x) = c.natAbs * gcdL xs
  | [] => by simp [gcdL_nil]
  | x :: xs => by
    rw [List.map_cons, gcdL_cons, gcdL_cons, gcdL_scale c xs, Int.natAbs_mul, Nat.gcd_mul_left]
/-- what is so many times a tuple with no common divisor -/
theorem shortL_scale {c : Int} (hc : c ≠ 0) {xs : List Int} (h : ∃ x ∈ xs, x ≠ 0) : shortL (xs.map fun x => c * x) = (shortL xs).map fun y => (if 0 < c then 1 else -1) * y := by
  obtain ⟨g0, e⟩ := shortL_mul xs h
  obtain ⟨x, hx, hx0⟩ := h
  obtain ⟨g1, e1⟩ := shortL_mul (xs.map fun x => c * x) ⟨c * x, List.mem_map.mpr ⟨x, hx, rfl⟩, fun z => by
    rcases Int.mul_eq_zero.mp z with z | z
    · exact hc z
    · exact hx0 z⟩
  apply List.ext_getElem?
  intro i
  have ei : xs[i]? = ((shortL xs).map fun y => (gcdL xs : Int) * y)[i]? := by rw [← e]
  have e1i : (xs.map fun x => c * x)[i]? = ((shortL (xs.map fun x => c * x)).map fun y => (gcdL (xs.map fun x => c * x) : Int) * y)[i]? := by rw [← e1]
  rw [List.getElem?_map] at ei e1i
  rw [List.getElem?_map] at e1i
  rw [ei, gcdL_scale] at e1i
  rw [List.getElem?_map]
  cases hs : (shortL xs)[i]? with
  | none =>
    rw [hs] at e1i
    cases ht : (shortL (xs.map fun x => c * x))[i]? with
    | none => rfl
    | some t => rw [ht] at e1i; cases e1i
  | some s =>
    rw [hs] at e1i
    cases ht : (shortL (xs.map fun x => c * x))[i]? with
    | none => rw [ht] at e1i; cases e1i
    | some t =>
      rw [ht] at e1i
      have q : c * ((gcdL xs : Int) * s) = ((c.natAbs * gcdL xs : Nat) : Int) * t := by simpa using e1i
      show some t = some ((if 0 < c then 1 else -1) * s)
      congr 1
      have gp : (gcdL xs : Int) ≠ 0 := by omega
      rw [Int.natCast_mul] at q
      by_cases hp : 0 < c
      · rw [if_pos hp, Int.one_mul]
        rw [show ((c.natAbs : Nat) : Int) = c by omega, Int.mul_assoc] at q
        exact (Int.eq_of_mul_eq_mul_left gp (Int.eq_of_mul_eq_mul_left hc q)).symm
      · rw [if_neg hp]
        rw [show ((c.natAbs : Nat) : Int) = -c by omega, Int.neg_mul, Int.neg_mul, ← Int.mul_neg, Int.mul_assoc] at q
        have q2 := Int.eq_of_mul_eq_mul_left hc q
        have := Int.eq_of_mul_eq_mul_left gp q2
        omega
theorem lead_row {row : List Int} {p : Nat} (hp : lead row.dropLast = some p) : ∃ x, row[p]? = some x ∧ x ≠ 0 := by
  obtain ⟨x, hx, hx0⟩ := lead_get hp
  refine ⟨x, ?_, hx0⟩
  rw [List.getElem?_dropLast] at hx
  split at hx
  · exact hx
  · cases hx
theorem short_at {row : List Int} {p : Nat} (hp : lead row.dropLast = some p) : ∃ y, (shortL row)[p]? = some y ∧ y ≠ 0 := by
  obtain ⟨x, hx, hx0⟩ := lead_row hp
  obtain ⟨g0, e⟩ := shortL_mul row ⟨x, List.mem_of_getElem? hx, hx0⟩
  rw [e, List.getElem?_map] at hx
  cases hy : (shortL row)[p]? with
  | none => rw [hy] at hx; cases hx
  | some y =>
    rw [hy] at hx
    refine ⟨y, rfl, fun h => ?_⟩
    subst h
    cases hx
    exact hx0 (Int.mul_zero _)
theorem planeL_some {row : List Int} {p : Nat} (hp : lead row.dropLast = some p) : ∃ y, (shortL row)[p]? = some y ∧ y ≠ 0 ∧ planeL row = some (if y < 0 then (shortL row).map (fun x => -x) else shortL row) := by
  obtain ⟨y, hy, hy0⟩ := short_at hp
  refine ⟨y, hy, hy0, ?_⟩
  unfold planeL
  rw [hp]
  show some (if (shortL row).getD p 0 < 0 then _ else _) = _
  rw [List.getD_eq_getElem?_getD, hy] <;> rfl
theorem planeL_scale {c : Int} (hc : c ≠ 0) (row : List Int) : planeL (row.map fun x => c * x) = planeL row := by
  have hl : lead (row.map fun x => c * x).dropLast = lead row.dropLast := by
    rw [← List.map_dropLast, lead_scale hc]
  cases hp : lead row.dropLast with
  | none =>
    unfold planeL
    rw [hl, hp]
  | some p =>
    obtain ⟨x, hx, hx0⟩ := lead_row hp
    obtain ⟨y, hy, hy0, e⟩ := planeL_some hp
    obtain ⟨z, hz, hz0, e2⟩ := planeL_some (hl.trans hp)
    have sc := shortL_scale hc ⟨x, List.mem_of_getElem? hx, hx0⟩
    rw [e, e2]
    rw [sc, List.getElem?_map, hy] at hz
    have hz : (if 0 < c then 1 else -1) * y = z := by simpa using hz
    rw [sc]
    congr 1
    by_cases hp : 0 < c
    · rw [if_pos hp] at hz
      have : z = y := by omega
      subst this
      rw [if_pos hp, show (fun y : Int => 1 * y) = id from funext fun y => Int.one_mul y, List.map_id]
    · rw [if_neg hp] at hz
      have : z = -y := by omega
      subst this
      rw [if_neg hp, show (fun y : Int => -1 * y) = (fun y => -y) from funext fun y => by omega, List.map_map, show ((fun x : Int => -x) ∘ fun y : Int => -y) = id from funext fun y => Int.neg_neg y, List.map_id]
      by_cases hy' : y < 0
      · rw [if_pos hy', if_neg (by omega)]
      · rw [if_neg hy', if_pos (by omega)]
/-- a row is so many times its plane -/
theorem plane_times {row pl : List Int} (h : planeL row = some pl) : ∃ c : Int, c ≠ 0 ∧ row = pl.map fun x => c * x := by
  cases hp : lead row.dropLast with
  | none =>
    unfold planeL at h
    rw [hp] at h
    cases h
  | some p =>
    obtain ⟨x, hx, hx0⟩ := lead_row hp
    obtain ⟨y, hy, hy0, e⟩ := planeL_some hp
    obtain ⟨g0, e1⟩ := shortL_mul row ⟨x, List.mem_of_getElem? hx, hx0⟩
    rw [e] at h
    cases h
    by_cases hy' : y < 0
    · rw [if_pos hy']
      refine ⟨-(gcdL row : Int), by omega, ?_⟩
      rw [List.map_map]
      conv => lhs; rw [e1]
      apply List.map_congr_left
      intro z _
      show (gcdL row : Int) * z = -(gcdL row : Int) * -z
      rw [Int.neg_mul_neg]
    · rw [if_neg hy']
      exact ⟨gcdL row, by omega, e1⟩
theorem planeL_self {row pl : List Int} (h : planeL row = some pl) : planeL pl = some pl := by
  obtain ⟨c, hc, e⟩ := plane_times h
  rw [← planeL_scale hc pl, ← e]
  exact h
theorem planeL_len {row pl : List Int} (h : planeL row = some pl) : pl.length = row.length := by
  obtain ⟨c, hc, e⟩ := plane_times h
  rw [e, List.length_map]
theorem planeL_bits {row pl : List Int} {n : Nat} (h : planeL row = some pl) (hb : BitsL n row) : BitsL n pl := by
  obtain ⟨c, hc, e⟩ := plane_times h
  intro x hx
  refine (hb (c * x) (by rw [e]; exact List.mem_map.mpr ⟨x, hx, rfl⟩)).le ?_
  rw [Int.natAbs_mul]
  exact Nat.le_mul_of_pos_left _ (by omega)
theorem dot_scale (c : Int) : ∀ xs ys : List Int, dot (xs.map fun x => c * x) ys = c * dot xs ys
  | [], _ => by simp [dot]
  | _ :: _, [] => by simp [dot]
  | x :: xs, y :: ys => by
    have ih := dot_scale c xs ys
    unfold dot at ih ⊢
    rw [List.map_cons, List.zipWith_cons_cons, List.zipWith_cons_cons, List.sum_cons, List.sum_cons, ih, Int.mul_add, Int.mul_assoc]
theorem dot_nil (ys : List Int) : dot [] ys = 0 := rfl
theorem dot_cons (x y : Int) (xs ys : List Int) : dot (x :: xs) (y :: ys) = x * y + dot xs ys := by
  unfold dot
  rw [List.zipWith_cons_cons, List.sum_cons]
theorem dot_comm (xs ys : List Int) : dot xs ys = dot ys xs := by
  unfold dot
  rw [List.zipWith_comm]
  congr 1
  congr 1
  funext a b
  exact Int.mul_comm _ _
theorem dot_zero {row pl pt : List Int} (h : planeL row = some pl) : (sgn (dot pl pt) == 0) = (dot row pt == 0) := by
  obtain ⟨c, hc, e⟩ := plane_times h
  have e2 : dot row pt = c * dot pl pt := by
    conv => lhs; rw [e]
    exact dot_scale c pl pt
  rw [Bool.eq_iff_iff, beq_iff_eq, beq_iff_eq, e2]
  unfold sgn
  constructor
  · intro h
    split at h
    · cases h
    · split at h
      · cases h
      · rw [show dot pl pt = 0 by omega, Int.mul_zero]
  · intro h
    rcases Int.mul_eq_zero.mp h with h | h
    · exact absurd h hc
    · rw [h] <;> rfl
/-- a row at a point moved on -/
theorem dot_moved (l b : Int) : ∀ (ns ws : List Int) (rs : List Int) (r : Int), ns.length = ws.length → rs.length = ns.length →
    dot (rs ++ [r]) (List.zipWith (fun n s => n * 2 + s * 1 * l) ns ws ++ [l * 2]) = 2 * dot (rs ++ [r]) (ns ++ [l]) + l * dot rs ws
  | [], [], [], r, _, _ => by
    show dot [r] [l * 2] = 2 * dot [r] [l] + l * dot [] []
    rw [dot_cons, dot_cons, dot_nil]
    show r * (l * 2) + dot [] [] = 2 * (r * l + 0) + l * dot [] []
    rw [dot_nil]
    grind
  | n :: ns, s :: ws, x :: rs, r, h1, h2 => by
    have ih := dot_moved l b ns ws rs r (by simpa using h1) (by simpa using h2)
    rw [List.zipWith_cons_cons, List.cons_append, List.cons_append, List.cons_append, dot_cons, dot_cons, dot_cons, ih]
    grind
  | [], _ :: _, _, _, h, _ => by simp at h
  | _ :: _, [], _, _, h, _ => by simp at h
  | [], [], _ :: _, _, _, h => by simp at h
  | _ :: _, _ :: _, [], _, _, h => by simp at h
theorem fracL_two {t b : Int} (hb : 0 < b) : ∃ u v g : Int, fracL t b = [u, v] ∧ 0 < g ∧ t = g * u ∧ b = g * v := by
  unfold fracL
  rw [if_pos hb]
  obtain ⟨g0, e⟩ := shortL_mul [t, b] ⟨b, by simp, by omega⟩
  have hl := shortL_len [t, b]
  match h : shortL [t, b], hl with
  | [u, v], _ =>
    rw [h] at e
    refine ⟨u, v, gcdL [t, b], rfl, by omega, ?_, ?_⟩
    · exact (List.cons.inj e).1
    · exact (List.cons.inj (List.cons.inj e).2).1
end Zj
/-! Exceptions as data: what raises, what a block comes to that may raise, defs that may. -/
namespace Zj
open PySem PySem.Spec PyProof.Rows L2
/-- an exception: the name of its class, its fields -/
structure Exc where
  c : Str
  fs : List (Str × PyData)
/-- what a call comes to -/
inductive Out where
  | ok (d : PyData)
  | ex (x : Exc)
variable [Nm]
def ExD (K : PySem.W.Frag) (mg : Str → Option Value) (H : Hp) (x : Exc) (cls : Value) (d : Option Addr) : Prop :=
  ∃ C : Addr, mg x.c = some (.ref C) ∧ cls = .ref C ∧ ∀ p ∈ x.fs, ∃ (dd : Addr) (fs : List (Str × V)) (v : V), d = some dd ∧ H dd = some (.xd fs) ∧ fs.lookup p.1 = some v ∧ Dp K H v p.2
theorem exd_sa {K : PySem.W.Frag} {mg : Str → Option Value} {H H' : Hp} {x : Exc} {cls : Value} {d : Option Addr} (s : Sa H H') (h : ExD K mg H x cls d) : ExD K mg H' x cls d := by
  obtain ⟨C, h1, h2, h3⟩ := h
  refine ⟨C, h1, h2, fun p hp => ?_⟩
  obtain ⟨dd, fs, v, g1, g2, g3, g4⟩ := h3 p hp
  exact ⟨dd, fs, v, g1, s _ _ g2 (by intro ps z; cases z), g3, dp_same s g4⟩
section
variable {X : Cx} {a : Addr} {ρ : Rho}
/-- it raises x -/
def EvX (X : Cx) (a : Addr) (e : Expr) (ρ : Rho) (x : Exc) : Prop := ∀ W : WX, Takes X W → ∀ T σ H, SD X.K a T H σ ρ → (∀ cls d H2, Sm H H2 → ExD X.K X.mg (off T H2) x cls d → W cls d σ H2) → ∀ Q : VK, JE X e σ H Q
/-- a def that keeps all: R tells of the arguments what comes of them -/
def spX (K : PySem.W.Frag) (mg : Str → Option Value) (R : List PyData → Out → Prop) : Sp := fun vs H Q E => ∃ T ds o, Din T H ∧ DpAll K (off T H) vs ds ∧ R ds o ∧ (∀ v H' d, o = .ok d → Sm H H' → Dp K (off T H') v d → Q v H') ∧
  ∀ cls dd H' x, o = .ex x → Sm H H' → ExD K mg (off T H') x cls dd → E cls dd H'
structure CalX (P : Program) (w : World) (K : PySem.W.Frag) (mg : Str → Option Value) (base : Heap) (k : Nat) (x : Str) (ps : List Str) (sp : Sp) : Prop where
  ex : ∃ f fd, FnOk P w K mg base (L2.CX P w) k f fd ps sp ∧ mg x = some (.ref f) ∧ PySem.W.keepIn K (.ref f) = true ∧ Binds K fd ps []
variable {e : Expr} {es : List Expr} {pos p : Pos} {d : PyData} {ds : List PyData} {k : Nat} {f : Str} {ps : List Str} {R : List PyData → Out → Prop} {x : Exc}
theorem e_callX (C : CalX X.prog X.w X.K X.mg X.base k f ps (spX X.K X.mg R)) (hr : Room k X.A) (ha : EvA X a (e :: es) ρ ds) (hR : R ds (.ok d))
    (hg : Gl X f := by rfl) (hdb : (f == ("__debug__" : Str)) = false := by decide) (he : starEach (e :: es) X.env = (false, eval e X.env) :: starEach es X.env := by exact star_of rfl) (hpl : (backTo pos (starEach es X.env)).any (·.1) = false := by exact star_no rfl) :
    EvE X a (.Call (.Name f p) (e :: es) [] pos) ρ d := fun T σ H S Q q => by
  obtain ⟨fa, fd, F, hm, hk, hb⟩ := C.ex
  refine toE (pe_call F hr hg hm hk hb (ds := []) (dvs := []) .nil passL ja hdb he hpl) (ha T σ H S _ fun vs H1 s1 p1 => ?_)
  rw [List.append_nil]
  exact ⟨T, ds, .ok d, S.dm.same s1, p1, hR, fun v H2 d' e' s2 p2 => by cases e'; exact q v H2 (s1.trans s2) p2, fun _ _ _ _ e' => by cases e'⟩
theorem x_call (C : CalX X.prog X.w X.K X.mg X.base k f ps (spX X.K X.mg R)) (hr : Room k X.A) (ha : EvA X a (e :: es) ρ ds) (hR : R ds (.ex x))
    (hg : Gl X f := by rfl) (hdb : (f == ("__debug__" : Str)) = false := by decide) (he : starEach (e :: es) X.env = (false, eval e X.env) :: starEach es X.env := by exact star_of rfl) (hpl : (backTo pos (starEach es X.env)).any (·.1) = false := by exact star_no rfl) :
    EvX X a (.Call (.Name f p) (e :: es) [] pos) ρ x := fun W tk T σ H S q Q => by
  obtain ⟨fa, fd, F, hm, hk, hb⟩ := C.ex
  refine toE (pe_callS (E := WE W) F hr hg hm hk hb (fun σ => passAt tk σ) ja hdb he hpl) (ha T σ H S _ fun vs H1 s1 p1 => ?_)
  exact ⟨T, ds, .ex x, S.dm.same s1, p1, hR, (fun _ _ _ e' => by cases e'), fun cls dd H' x' e' s2 h => by cases e'; exact q cls dd H' (s1.trans s2) h⟩

/-! calls by names alone -/
structure CalXK (P : Program) (w : World) (K : PySem.W.Frag) (mg : Str → Option Value) (base : Heap) (k : Nat) (x : Str) (st : Stmt) (ps : List Str) (sp : Sp) : Prop where
  ex : ∃ f fd, Fun K x x st f fd ∧ FnOk P w K mg base (L2.CX P w) k f fd ps sp ∧ mg x = some (.ref f)
theorem je_callK {CX : CXT} {sp : Sp} {ks : List Str} {fa : Addr} {fd : FuncData} {E : XK} {σ : L2.St} {H : Hp} {Q : VK} {kws : List Keyword} {g : List Value → List Value → List Value} {gV : List V → List V → List V} (F : FnOk X.prog X.w X.K X.mg X.base CX k fa fd ps sp) (hr : Room k X.A) (hg : Gl X f) (hm : X.mg f = some (.ref fa)) (hk : PySem.W.keepIn X.K (.ref fa) = true)
    (hb : KBinds X.K fd ps ks g gV) (hx : PassesAt CX X σ E) (hall : (backToKw pos (keywordEach kws X.env)).all (·.1.isSome) = true) (hks : (backToKw pos (keywordEach kws X.env)).filterMap (·.1) = ks) (hdb : (f == ("__debug__" : Str)) = false)
    (hpl : ((backTo pos (starEach [] X.env)).any (·.1) || (backToKw pos (keywordEach kws X.env)).any (·.1.isNone)) = false) (h : JK X kws σ H (fun zs H2 => sp (gV [] zs) H2 Q E)) : JE X (.Call (.Name f p) [] kws pos) σ H Q := fun pins s I => by
  refine wpAny_Call_Name_kw (ld_glob I hg hm ?_ hdb)
  refine PySem.W.callWith_KW0 (h₀ := X.base) I.ok.mod.kin hk hall (thn (h pos pins s I) fun ws s2 ⟨zs, H2, I2, rz, q2⟩ => ⟨I2.kIn, ?_⟩) hpl
  rw [hks]
  have r2 := hb.rel (vs := []) (us := []) .nil rz
  have l2 : (g [] ws).length = ps.length := by rw [← r2.length]; exact F.len _ _ _ _ q2
  refine wpAny_call (codeAny_mono (F.run X.A X.stack s2 H2 ⟨[], ks.zip ws⟩ (g [] ws) (gV [] zs) Q E hr I2.env0 (hb.to s2 [] ws I2.kIn l2) r2 q2) fun res s3 hq => ?_)
  match res, hq with
  | .error er, hq => exact hx pins H2 s2 er s3 I2 hq
  | .ok (.ret u), hq => exact I2.after hq
  | .ok .next, hq => exact False.elim hq
  | .ok .brk, hq => exact False.elim hq
  | .ok .cont, hq => exact False.elim hq
theorem kb_of {P : Program} {w : World} {K : PySem.W.Frag} {st : Stmt} {ks : List Str} {fa : Addr} {fd : FuncData} (fl : Bool) (hne : ps ≠ []) (F : Fun K f f st fa fd)
    (hb : ∀ (kV doc pm : Value) (an : Option Addr) (cdv ct : Value) (ws : List Value), ws.length = ps.length → bindArgs (PySem.W.fnOf f f (defArgs st) (defBody st) (defScope st) .none kV doc pm an cdv ct) ⟨[], ks.zip ws⟩ = pure (ps.zip (turn2 fl ws))) : KBinds K fd ps ks (gK fl) (gK fl) := by
  obtain ⟨oc, od, kV, doc, pm, an, cdv, ct, osl, rfl, lk, hcd⟩ := F.ex
  exact { to := fun s us ws _ hl => by
            cases us with
            | nil => exact .of_eq (hb kV doc pm an cdv ct ws (by rw [← hl]; exact (turn2_len ws).symm))
            | cons u us =>
              cases ps with
              | nil => exact (hne rfl).elim
              | cons _ _ => cases hl
          rel := fun {vs us zs ws} r rz => by
            cases r with
            | nil => exact turn2_vals rz
            | cons _ _ => exact .nil }
variable {kws : List Keyword} {ks : List Str} {st : Stmt}
theorem e_callXK (fl : Bool) (hne : ps ≠ []) (C : CalXK X.prog X.w X.K X.mg X.base k f st ps (spX X.K X.mg R)) (hr : Room k X.A) (ha : EvK X a kws ρ ds) (hR : R (turn2 fl ds) (.ok d))
    (hb : ∀ (kV doc pm : Value) (an : Option Addr) (cdv ct : Value) (ws : List Value), ws.length = ps.length → bindArgs (PySem.W.fnOf f f (defArgs st) (defBody st) (defScope st) .none kV doc pm an cdv ct) ⟨[], ks.zip ws⟩ = pure (ps.zip (turn2 fl ws)))
    (hg : Gl X f := by rfl) (hall : (backToKw pos (keywordEach kws X.env)).all (·.1.isSome) = true := by rfl) (hks : (backToKw pos (keywordEach kws X.env)).filterMap (·.1) = ks := by rfl)
    (hdb : (f == ("__debug__" : Str)) = false := by decide) (hpl : ((backTo pos (starEach [] X.env)).any (·.1) || (backToKw pos (keywordEach kws X.env)).any (·.1.isNone)) = false := by rfl) :
    EvE X a (.Call (.Name f p) [] kws pos) ρ d := fun T σ H S Q q => by
  obtain ⟨fa, fd, F, FO, hm⟩ := C.ex
  refine je_callK (E := E0) FO hr hg hm F.kp (kb_of (P := X.prog) (w := X.w) fl hne F hb) (fun pins H s e s' I c => passL pins σ H s e s' I c) hall hks hdb hpl (ha T σ H S _ fun vs H1 s1 p1 => ?_)
  exact ⟨T, turn2 fl ds, .ok d, S.dm.same s1, turn2_dps p1, hR, fun v H2 d' e' s2 p2 => by cases e'; exact q v H2 (s1.trans s2) p2, fun _ _ _ _ e' => by cases e'⟩
theorem x_callK (fl : Bool) (hne : ps ≠ []) (C : CalXK X.prog X.w X.K X.mg X.base k f st ps (spX X.K X.mg R)) (hr : Room k X.A) (ha : EvK X a kws ρ ds) (hR : R (turn2 fl ds) (.ex x))
    (hb : ∀ (kV doc pm : Value) (an : Option Addr) (cdv ct : Value) (ws : List Value), ws.length = ps.length → bindArgs (PySem.W.fnOf f f (defArgs st) (defBody st) (defScope st) .none kV doc pm an cdv ct) ⟨[], ks.zip ws⟩ = pure (ps.zip (turn2 fl ws)))
    (hg : Gl X f := by rfl) (hall : (backToKw pos (keywordEach kws X.env)).all (·.1.isSome) = true := by rfl) (hks : (backToKw pos (keywordEach kws X.env)).filterMap (·.1) = ks := by rfl)
    (hdb : (f == ("__debug__" : Str)) = false := by decide) (hpl : ((backTo pos (starEach [] X.env)).any (·.1) || (backToKw pos (keywordEach kws X.env)).any (·.1.isNone)) = false := by rfl) :
    EvX X a (.Call (.Name f p) [] kws pos) ρ x := fun W tk T σ H S q Q => by
  obtain ⟨fa, fd, F, FO, hm⟩ := C.ex
  refine je_callK (E := WE W σ) FO hr hg hm F.kp (kb_of (P := X.prog) (w := X.w) fl hne F hb) (passAt tk σ) hall hks hdb hpl (ha T σ H S _ fun vs H1 s1 p1 => ?_)
  exact ⟨T, turn2 fl ds, .ex x, S.dm.same s1, turn2_dps p1, hR, (fun _ _ _ e' => by cases e'), fun cls dd H' x' e' s2 h => by cases e'; exact q cls dd H' (s1.trans s2) h⟩

/-! ### blocks that may raise -/
def RunX (X : Cx) (a : Addr) (sts : List Stmt) (ρ : Rho) (N : Rho → Prop) (R : PyData → Prop) (RX : Exc → Rho → Prop) : Prop := ∀ W : WX, Takes X W → ∀ T σ H D, SD X.K a T H σ ρ → (∀ σ' H' ρ', Sm H H' → SD X.K a T H' σ' ρ' → N ρ' → D.nx σ' H') →
  (∀ v H' d, Sm H H' → Dp X.K (off T H') v d → R d → D.rt v H') → (∀ σ' cls d H' x ρ', Sm H H' → SD X.K a T H' σ' ρ' → ExD X.K X.mg (off T H') x cls d → RX x ρ' → W cls d σ' H') → JSs X sts D σ H
def RunXS (X : Cx) (a : Addr) (st : Stmt) (ρ : Rho) (N : Rho → Prop) (R : PyData → Prop) (RX : Exc → Rho → Prop) : Prop := ∀ W : WX, Takes X W → ∀ T σ H D, SD X.K a T H σ ρ → (∀ σ' H' ρ', Sm H H' → SD X.K a T H' σ' ρ' → N ρ' → D.nx σ' H') →
  (∀ v H' d, Sm H H' → Dp X.K (off T H') v d → R d → D.rt v H') → (∀ σ' cls d H' x ρ', Sm H H' → SD X.K a T H' σ' ρ' → ExD X.K X.mg (off T H') x cls d → RX x ρ' → W cls d σ' H') → JS X st D σ H
variable {stm : Stmt} {sts : List Stmt} {N : Rho → Prop} {RD : PyData → Prop} {RX : Exc → Rho → Prop}
theorem x_nil (h : N ρ) : RunX X a [] ρ N RD RX := fun W tk T σ H D S kn kr kx => toSs pss_nil (kn σ H ρ (Sm.refl H) S h)
theorem x_cons (h : RunXS X a stm ρ (fun ρ' => RunX X a sts ρ' N RD RX) RD RX) : RunX X a (stm :: sts) ρ N RD RX := fun W tk T σ H D S kn kr kx =>
  toSs (pss_cons js jss) (h W tk T σ H { D with nx := fun σ' H' => JSs X sts D σ' H' } S (fun σ' H' ρ' s S' hN => hN W tk T σ' H' D S' (fun σ2 H2 ρ2 s2 S2 n2 => kn σ2 H2 ρ2 (s.trans s2) S2 n2) (fun v H2 d s2 p r => kr v H2 d (s.trans s2) p r)
    fun σ2 cls d H2 x ρ2 s2 S2 p r => kx σ2 cls d H2 x ρ2 (s.trans s2) S2 p r) kr kx)
theorem x_one (h : RunXS X a stm ρ N RD RX) : RunX X a [stm] ρ N RD RX := fun W tk T σ H D S kn kr kx => toSs (pss_one js) (h W tk T σ H D S kn kr kx)
theorem xs_of (h : RunS X a stm ρ N RD) : RunXS X a stm ρ N RD RX := fun W tk T σ H D S kn kr kx => h T σ H D S kn kr
theorem x_of (h : Run X a sts ρ N RD) : RunX X a sts ρ N RD RX := fun W tk T σ H D S kn kr kx => h T σ H D S kn kr
theorem xs_ret (h : EvX X a e ρ x) (hr : RX x ρ) : RunXS X a (.Return (some e) pos) ρ N RD RX := fun W tk T σ H D S kn kr kx => toS (ps_ret je) (h W tk T σ H S (fun cls d H2 s p => kx σ cls d H2 x ρ s (S.same s) p hr) _)
theorem xs_expr (h : EvX X a e ρ x) (hr : RX x ρ) (hs : swapsWith e none pos.line X.env = pure false := by rfl) : RunXS X a (.Expr e pos) ρ N RD RX := fun W tk T σ H D S kn kr kx => toS (ps_expr je hs) (h W tk T σ H S (fun cls d H2 s p => kx σ cls d H2 x ρ s (S.same s) p hr) _)
theorem xs_set {i : Nat} {y : Str} {pos' : Pos} (G : Good X) (h : EvX X a e ρ x) (hr : RX x ρ) (hi : X.N[i]? = some y := by rfl) (hy : Loc X.env.scope y := by first | exact Or.inl rfl | exact Or.inr rfl)
    (hs : swapsWith e (some (.Name y pos')) pos.line X.env = pure false := by rfl) (hf : X.fn y = true ∨ X.env.scope.names.lookup y = some .local := by first | exact .inl rfl | exact .inr rfl) : RunXS X a (.Assign [.Name y pos'] e pos) ρ N RD RX := fun W tk T σ H D S kn kr kx =>
  toS (ps_set G.nd hi hy je hs hf) (h W tk T σ H S (fun cls d H2 s p => kx σ cls d H2 x ρ s (S.same s) p hr) _)
theorem xs_if {c : Expr} {b : Bool} {body orelse : List Stmt} (hc : EvT X a c ρ b) (h1 : b = true → RunX X a body ρ N RD RX) (h2 : b = false → RunX X a orelse ρ N RD RX) : RunXS X a (.If c body orelse pos) ρ N RD RX := fun W tk T σ H D S kn kr kx =>
  toS (ps_if jt jss jss) (hc T σ H S _ fun H1 s1 => by
    have go : ∀ {l : List Stmt}, RunX X a l ρ N RD RX → JSs X l D σ H1 := fun h => h W tk T σ H1 D (S.same s1) (fun σ2 H2 ρ2 s2 S2 n2 => kn σ2 H2 ρ2 (s1.trans s2) S2 n2) (fun v H2 d s2 p r => kr v H2 d (s1.trans s2) p r) fun σ2 cls d H2 x ρ2 s2 S2 p r => kx σ2 cls d H2 x ρ2 (s1.trans s2) S2 p r
    cases b with
    | true => exact iteT (go (h1 rfl))
    | false => exact iteF (go (h2 rfl)))

/-! ### raise -/
def JMk (X : Cx) (e : Expr) (σ : L2.St) (H : Hp) (Q : XK) : Prop := ∀ pins s, Inv X pins σ H s → wpAny (model X.prog X.w) X.A (eval e X.env) (MkP X pins σ Q) X.xe s
theorem jmk : PMk X e (JMk X e) := fun pins s σ H Q I h => h pins s I
theorem toMk {t : L2.St → Hp → XK → Prop} {σ : L2.St} {H : Hp} {Q : XK} (h : PMk X e t) (q : t σ H Q) : JMk X e σ H Q := fun pins s I => h pins s σ H Q I q
/-- it makes the exception x -/
def EvMk (X : Cx) (a : Addr) (e : Expr) (ρ : Rho) (x : Exc) : Prop := ∀ T σ H, SD X.K a T H σ ρ → ∀ Q : XK, (∀ cls d H2, Sm H H2 → ExD X.K X.mg (off T H2) x cls d → Q cls d H2) → JMk X e σ H Q
theorem xs_raise (G : Good X) (h : EvMk X a e ρ x) (hr : RX x ρ) : RunXS X a (.Raise (some e) none pos) ρ N RD RX := fun W tk T σ H D S kn kr kx =>
  toS (ps_raise G.calm tk jmk) (h T σ H S _ fun cls d H2 s p => kx σ cls d H2 x ρ s (S.same s) p hr)
end

/-! ### a def that may raise, from its block -/
section
variable {P : Program} {w : World} {K : PySem.W.Frag} {mg : Str → Option Value} {base : Heap}
theorem fnX {x qual : Str} {st : Stmt} {f : Addr} {fd : FuncData} {N ps : List Str} {k : Nat} {R : List PyData → Out → Prop} (F : Fun K x qual st f fd) (S : FnScope N ps (defScope st)) (hl : ∀ ds o, R ds o → ds.length = ps.length)
    (hb : ∀ (cdv : Value) (A : Around) (outer : List Env) (s : Shared) (H : Hp) (E : XK), Good (cxOf (L2.CX P w) P w K mg base N qual (defScope st) f cdv A outer s H E) → Room k (cxOf (L2.CX P w) P w K mg base N qual (defScope st) f cdv A outer s H E).A → ∀ ds o, R ds o →
      RunX (cxOf (L2.CX P w) P w K mg base N qual (defScope st) f cdv A outer s H E) 0 (defBody st) (dats ds ++ List.replicate (N.length - ds.length) none) (fun _ => o = .ok .none) (fun d => o = .ok d) (fun x' _ => o = .ex x')) : FnOk P w K mg base (L2.CX P w) (k + 1) f fd ps (spX K mg R) :=
  F.okX S (fun vs H Q E h => by
    obtain ⟨T, ds, o, _, h1, h2, _⟩ := h
    rw [dps_len h1]
    exact hl ds o h2) fun cdv A outer s H vs Q E hr h => by
    obtain ⟨T, ds, o, dm, h1, h2, h3, h4⟩ := h
    refine ⟨_, jss, hb cdv A outer s H E ⟨S.nd, rfl, passes_of rfl, hr.units⟩ hr ds o h2 _ (takes_of (E := E) rfl rfl rfl rfl) T _ H _ (SD.start dm h1) (fun σ' H' ρ' s1 S1 e => ?_) (fun v H' d' s1 p e => ?_) fun σ' cls d H' x' ρ' s1 S1 p e => ?_⟩
    · exact h3 _ H' _ e s1 .non
    · exact h3 v H' d' e s1 p
    · exact h4 cls d H' x' e s1 p
end
end Zj
/-! Own exceptions made; tries with several clauses, named or not; a def that hears what a lambda tells. -/
namespace Zj
open PySem PySem.Spec PyProof.Rows L2
variable [Nm]
/-! ### own exceptions that keep their arguments -/
/-- an __init__ that keeps its arguments under the parameters' names -/
def spI (K : PySem.W.Frag) (ps : List Str) : Sp := fun vs H Q _ => ∃ (a C : Addr) (ys : List V), vs = .ref a :: ys ∧ ys.length = ps.length ∧ OexC K C ∧ H a = some (exo a C none) ∧ (∀ f ∈ ps, PySem.W.findIn K (.ref C) f = some none) ∧
  ∀ (dx : Addr) (fs : List (Str × V)), H dx = none → dx ≠ a → (∀ p ∈ ps.zip ys, fs.lookup p.1 = some p.2) → Q .non (upd (upd H dx (exd dx fs)) a (exo a C (some dx)))
structure ClsI (P : Program) (w : World) (K : PySem.W.Frag) (mg : Str → Option Value) (base : Heap) (k : Nat) (x : Str) (ps : List Str) : Prop where
  ex : ∃ C fI fd, mg x = some (.ref C) ∧ OexC K C ∧ PySem.W.findIn K (.ref C) "__init__" = some (some (.ref fI)) ∧ PySem.W.typeIn K (.ref fI) = some (.type "function") ∧ (∀ f ∈ ps, PySem.W.findIn K (.ref C) f = some none) ∧
    FnOk P w K mg base CX0 k fI fd ("self" :: ps) (spI K ps) ∧ Binds K fd ("self" :: ps) []
theorem zip_dps {K : PySem.W.Frag} {H : Hp} : ∀ {ps : List Str} {vs : List V} {ds : List PyData} {f : Str} {d : PyData}, DpAll K H vs ds → (f, d) ∈ ps.zip ds → ∃ v, (f, v) ∈ ps.zip vs ∧ Dp K H v d
  | [], _, _, _, _, _, h => by simp at h
  | _ :: _, _, [], _, _, _, h => by simp at h
  | p :: ps, vs, d0 :: ds, f, d, hd, h => by
    cases hd with
    | @cons v0 _ vs0 _ h1 h2 =>
      rw [List.zip_cons_cons] at h
      rcases List.mem_cons.mp h with e | e
      · cases e
        exact ⟨v0, by rw [List.zip_cons_cons]; exact List.mem_cons_self, h1⟩
      · obtain ⟨v, g1, g2⟩ := zip_dps h2 e
        exact ⟨v, by rw [List.zip_cons_cons]; exact List.mem_cons_of_mem _ g1, g2⟩
section
variable {X : Cx} {a : Addr} {ρ : Rho} {e : Expr} {es : List Expr} {ds : List PyData} {k : Nat} {x : Str} {ps : List Str} {p pos : Pos}
theorem mk_init (C : ClsI X.prog X.w X.K X.mg X.base k x ps) (hr : Room (k + 1) X.A) (ha : EvA X a (e :: es) ρ ds) (hl : ds.length = ps.length) (hz : ds.length ≤ 1000) (hg : Gl X x := by rfl)
    (hdb : (x == ("__debug__" : Str)) = false := by decide) (he : starEach (e :: es) X.env = (false, eval e X.env) :: starEach es X.env := by exact star_of rfl) (hpl : (backTo pos (starEach es X.env)).any (·.1) = false := by exact star_no rfl) :
    EvMk X a (.Call (.Name x p) (e :: es) [] pos) ρ ⟨x, ps.zip ds⟩ := fun T σ H S Q q => by
  obtain ⟨C, fI, fd, hm, hO, hi, ht, hn, F, hb⟩ := C.ex
  refine toMk (pmk_oex hO hi ht F hr hb (ds := []) (dvs := []) .nil pass0 hg hm ja hdb he hpl) (ha T σ H S _ fun vs H1 s1 p1 => ?_)
  have lv := dps_len p1
  refine ⟨by rw [lv]; exact hz, fun a' na => ?_⟩
  rw [List.append_nil]
  refine ⟨a', C, vs, rfl, by rw [lv]; exact hl, hO, upd_same, hn, fun dx fs hdx hne hfs => ⟨rfl, dx, fs, upd_same, (upd_ne hne).trans upd_same, ?_, ?_⟩⟩
  · rw [upd_ne hne] at hdx
    exact hdx
  · rw [upd_ne hne] at hdx
    have eq : upd (del (upd (upd (upd H1 a' (exo a' C none)) dx (exd dx fs)) a' (exo a' C (some dx))) a') dx (.xd fs) = upd H1 dx (.xd fs) := by
      funext b
      by_cases hb1 : b = dx
      · rw [hb1, upd_same, upd_same]
      · rw [upd_ne hb1, upd_ne hb1]
        by_cases hb2 : b = a'
        · rw [hb2, del_same, na]
        · rw [del_ne hb2, upd_ne hb2, upd_ne hb1, upd_ne hb2]
    rw [eq]
    refine q _ _ _ (s1.trans (same_new hdx)) ⟨C, hm, rfl, fun pr hpr => ?_⟩
    obtain ⟨v, g1, g2⟩ := zip_dps (f := pr.1) (d := pr.2) p1 hpr
    have hd := S.dm.same s1
    refine ⟨dx, fs, v, rfl, ?_, hfs _ g1, dpo (same_new hdx) g2⟩
    rw [off_new hd hdx, upd_same]
/-- a class without arguments, without __init__ -/
structure ClsP (K : PySem.W.Frag) (mg : Str → Option Value) (x : Str) : Prop where
  ex : ∃ (C : Addr) (B newId initId : String) (bmB : List Value), mg x = some (.ref C) ∧ ExcBaseFacts B newId initId bmB ∧ PySem.W.excIn K C bmB newId = true ∧ PySem.W.keepIn K (.ref C) = true ∧
    PySem.W.subIn K (.ref C) (.type "BaseException") = some true ∧ PySem.W.typeIn K (.ref C) = some (.type "type")
theorem mk_plain (C : ClsP X.K X.mg x) (hg : Gl X x := by rfl) (hdb : (x == ("__debug__" : Str)) = false := by decide) : EvMk X a (.Call (.Name x p) [] [] pos) ρ ⟨x, []⟩ := fun T σ H S Q q pins s I => by
  obtain ⟨C, B, newId, initId, bmB, hm, F, hE, hk, hs, ht⟩ := C.ex
  refine wpAny_Call_Name_kw (ld_glob I hg hm ?_ hdb)
  refine PySem.W.callWith_K0 I.kIn hk ?_
  obtain ⟨bm, N, nm, qn, bs, hdct, sn, sub, ab, col, dd, k0, k1, k2, k3, k5, mN, o1, o2, o3, T0⟩ := exc_obj I.kIn hE
  refine wpAny_call_exc_subT F T0 o1 o2 o3 (fun h' e' hm' => ?_) (Nat.zero_le _)
  exact mk_of I hm' (raises_own hs ht) (q _ none H (Sm.refl H) ⟨C, hm, rfl, fun pr hpr => by cases hpr⟩) (I.hok.gone hm'.new)
end
section
variable {P : Program} {w : World} {K : PySem.W.Frag} {mg : Str → Option Value} {base : Heap}
/-- def __init__(self, f): self.f = f -/
theorem init1 {qual : Str} {st : Stmt} {fI : Addr} {fd : FuncData} {f : Str} {p1 p2 p3 p4 : Pos} (F : Fun K "__init__" qual st fI fd) (S : FnScope ["self", f] ["self", f] (defScope st)) (hb : defBody st = [.Assign [.Attribute (.Name "self" p1) f p2] (.Name f p3) p4])
    (h1 : Vis (defScope st) "self") (h2 : Vis (defScope st) f) (hd : (f == ("__debug__" : Str)) = false) (hcd : (f == ("__classdict__" : Str)) = false)
    (hs : ∀ env : Env, swapsWith (.Name f p3) (some (.Attribute (.Name "self" p1) f p2)) p4.line env = pure false) : FnOk P w K mg base CX0 1 fI fd ["self", f] (spI K [f]) := by
  refine F.ok S (fun vs H Q E h => ?_) fun cdv A outer s H vs Q E hr h => ?_
  · obtain ⟨a, C, ys, rfl, hl, _⟩ := h
    rw [List.length_cons, hl] <;> rfl
  · obtain ⟨a, C, ys, rfl, hl, hO, ha, hn, q⟩ := h
    match ys, hl with
    | [y], _ =>
      rw [hb]
      refine ⟨_, pss_one (ps_ost (pe_var (i := 0) rfl h1 (by decide) (by decide)) (pe_var (i := 1) rfl h2 hd hcd) (hs _)), ?_⟩
      refine ⟨_, rfl, _, rfl, a, C, rfl, hO, hn f (by simp), .inl ⟨ha, fun dx n ne => ?_⟩⟩
      exact q dx [(f, y)] n ne fun pr hpr => by
        have hpr : pr = (f, y) := by simpa using hpr
        rw [hpr]
        simp [List.lookup]
/-- def __init__(self, f, g): self.f = f; self.g = g -/
theorem init2 {qual : Str} {st : Stmt} {fI : Addr} {fd : FuncData} {f g : Str} {p1 p2 p3 p4 q1 q2 q3 q4 : Pos} (F : Fun K "__init__" qual st fI fd) (S : FnScope ["self", f, g] ["self", f, g] (defScope st))
    (hb : defBody st = [.Assign [.Attribute (.Name "self" p1) f p2] (.Name f p3) p4, .Assign [.Attribute (.Name "self" q1) g q2] (.Name g q3) q4])
    (h1 : Vis (defScope st) "self") (h2 : Vis (defScope st) f) (h3 : Vis (defScope st) g) (hd : (f == ("__debug__" : Str)) = false) (hcd : (f == ("__classdict__" : Str)) = false) (hd2 : (g == ("__debug__" : Str)) = false) (hcd2 : (g == ("__classdict__" : Str)) = false) (hfg : (f == g) = false)
    (hs : ∀ env : Env, swapsWith (.Name f p3) (some (.Attribute (.Name "self" p1) f p2)) p4.line env = pure false) (hs2 : ∀ env : Env, swapsWith (.Name g q3) (some (.Attribute (.Name "self" q1) g q2)) q4.line env = pure false) : FnOk P w K mg base CX0 1 fI fd ["self", f, g] (spI K [f, g]) := by
  refine F.ok S (fun vs H Q E h => ?_) fun cdv A outer s H vs Q E hr h => ?_
  · obtain ⟨a, C, ys, rfl, hl, _⟩ := h
    rw [List.length_cons, hl] <;> rfl
  · obtain ⟨a, C, ys, rfl, hl, hO, ha, hn, q⟩ := h
    match ys, hl with
    | [y, z], _ =>
      rw [hb]
      refine ⟨_, pss_cons (ps_ost (pe_var (i := 0) rfl h1 (by decide) (by decide)) (pe_var (i := 1) rfl h2 hd hcd) (hs _)) (pss_one (ps_ost (pe_var (i := 0) rfl h1 (by decide) (by decide)) (pe_var (i := 2) rfl h3 hd2 hcd2) (hs2 _))), ?_⟩
      refine ⟨_, rfl, _, rfl, a, C, rfl, hO, hn f (by simp), .inl ⟨ha, fun dx n ne => ?_⟩⟩
      refine ⟨_, rfl, _, rfl, a, C, rfl, hO, hn g (by simp), .inr ⟨dx, [(f, y)], upd_same, (upd_ne ne).trans upd_same, by simp, ?_⟩⟩
      have eq : upd (upd (upd H dx (exd dx [(f, y)])) a (exo a C (some dx))) dx (exd dx [(g, z), (f, y)]) = upd (upd H dx (exd dx [(g, z), (f, y)])) a (exo a C (some dx)) := by
        funext b
        by_cases hb1 : b = dx
        · rw [hb1, upd_same, upd_ne ne, upd_same]
        · rw [upd_ne hb1]
          by_cases hb2 : b = a
          · rw [hb2, upd_same, upd_same]
          · rw [upd_ne hb2, upd_ne hb2, upd_ne hb1, upd_ne hb1]
      show Q V.non (upd (upd (upd H dx (exd dx [(f, y)])) a (exo a C (some dx))) dx (exd dx [(g, z), (f, y)]))
      rw [eq]
      exact q dx [(g, z), (f, y)] n ne fun pr hpr => by
        have hpr : pr = (f, y) ∨ pr = (g, z) := by simpa using hpr
        rcases hpr with hpr | hpr
        · rw [hpr]
          simp [List.lookup, hfg]
        · rw [hpr]
          simp [List.lookup]
end

/-! ### try with clauses, named or not -/
def clr (i : Nat) (D : Ends) : Ends := { nx := fun σ H => D.nx (σ.set i none) H, rt := D.rt, bk := fun σ H => D.bk (σ.set i none) H, ct := fun σ H => D.ct (σ.set i none) H }
/-- a clause: its class, what its suite comes to -/
abbrev Cla := Value × (Addr → Value → Option Addr → TS)
inductive ClaOk (X : Cx) : List ExceptHandler → List Cla → Prop
  | nil : ClaOk X [] []
  | bare {x : Str} {c : Value} {ts : Addr → Value → Option Addr → TS} {b0 : Stmt} {sts : List Stmt} {np hp : Pos} {hds : List ExceptHandler} {l : List Cla} (hc : Names X x c)
      (hsu : ∀ (a : Addr) (oe : Obj) (cls : Value) (d : Option Addr) (pn : List (Addr × Obj)), Zc cls d oe → (∃ vs, oe.data = .fields vs) → PSs (X.suite a ((a, oe) :: pn)) (b0 :: sts) (ts a cls d)) (r : ClaOk X hds l) :
      ClaOk X (.ExceptHandler (some (.Name x np)) none (b0 :: sts) hp :: hds) ((c, ts) :: l)
  | named {x n : Str} {i : Nat} {c : Value} {ts : Addr → Value → Option Addr → TS} {b0 : Stmt} {sts : List Stmt} {np hp : Pos} {hds : List ExceptHandler} {l : List Cla} (hi : X.N[i]? = some n) (hln : X.env.kindOf n = some .local) (hc : Names X x c)
      (hsu : ∀ (a : Addr) (oe : Obj) (cls : Value) (d : Option Addr) (pn : List (Addr × Obj)), Zc cls d oe → (∃ vs, oe.data = .fields vs) → PSs (X.suite a ((a, oe) :: pn)) (b0 :: sts) (ts a cls d)) (r : ClaOk X hds l) :
      ClaOk X (.ExceptHandler (some (.Name x np)) (some n) (b0 :: sts) hp :: hds) ((c, fun a cls d D σ H => ts a cls d (clr i D) (σ.set i (some (.ref a))) H) :: l)
theorem ps_tries {X : Cx} {body : List Stmt} {c0 : ExceptHandler} {cs : List ExceptHandler} {l : List Cla} {tp : Pos} {tb : WX → TS} {Wout : WX} (hst : X.stack = X.env :: X.outer) (hfr : X.env.frame = some X.env.locals) (hN : X.N.Nodup) (tk : Takes X Wout)
    (hb : ∀ (W : WX) (pn : List (Addr × Obj)) (xe : Value → Shared → Prop), Takes (X.tr pn xe) W → PassesOwn (model X.prog X.w) X.A X.env xe → PSs (X.tr pn xe) body (tb W))
    (hh : ClaOk X (c0 :: cs) l) : PS X (.Try body (c0 :: cs) [] [] tp) (fun D σ H => tb (wMany X.K Wout D l) D σ H) := by
  refine ⟨fun pins s σ H D I hyp => ?_⟩
  have hok := I.ok
  have fra : X.A.frames = some (X.env :: X.outer) := by rw [hok.frames, hst]
  refine wpAny_Try_except ?_
  refine wpAny_mono ((hb (wMany X.K Wout D l) (X.pn ++ pins) (fun er s1 => wpAny (model X.prog X.w) X.A (noteFrame er X.env) (fun _ s2 => wpAny (model X.prog X.w) X.A (setFlight er none) (fun _ s3 =>
    wpAny (model X.prog X.w) X.A (handleBy er X.env (c0 :: cs)) (SP X pins D) X.xe s3) X.xe s2) X.xe s1) (fun er s1 hx => ?_) PassesOwn.looking).run [] s σ H D (I.toTry _) hyp) (fun fl s1 hsp => ?_) (fun er s1 hx => hx)
  · obtain ⟨a, B, sI, pins', σ1, H1, cls, d, rfl, J0, nb, up, sky, na, os, ag, w⟩ := hx
    have J : Inv X pins σ1 H1 sI := J0.ofTry hok
    show wpAny (model X.prog X.w) X.A (noteFrame (.ref a) X.env) _ _ _
    refine Sky.land (L := X.env.locals) Zc.steady fra hfr (by rw [← hst]; exact sky) fun h3 g3 up3 => ?_
    have J3 : Inv X pins σ1 H1 { s1 with heap := h3 } := J.landed nb g3.1 (up.trans up3) os ag
    obtain ⟨o3, v3, t1, t2, t3⟩ := g3.there
    have nst : a ∉ frs (X.env :: X.outer) := fun hm => by
      obtain ⟨_, o', z1, z2⟩ := g3.2.2.1.mem hm
      rw [t1] at z1
      cases z1
      exact z2 _ t3
    have nL : a ≠ X.env.locals := fun z => nst (List.mem_filterMap.mpr ⟨X.env, List.mem_cons_self, by rw [hfr, z]⟩)
    have nF : a ∉ X.fs := fun hm => by
      obtain ⟨en, z1, z2⟩ := List.mem_filterMap.mp hm
      exact nst (List.mem_filterMap.mpr ⟨en, List.mem_cons_of_mem _ z1, z2⟩)
    have S3 := J3.suite t1 t3 na nL nF
    have LT : PySem.W.Looks (model X.prog X.w) h3 (typeOf (.ref a)) cls := fun A Q E s k q => wpAny_typeOf_ref (k _ _ t1) (by rw [t2.1]; exact q)
    have test : ∀ {x : Str} {c : Value} {np : Pos} {Q : Value → Shared → Prop} {E : Value → Shared → Prop}, Names X x c → Q c { s1 with heap := h3 } → wpAny (model X.prog X.w) (X.A.mark (some (.ref a))) (eval (.Name x np) X.env) Q E { s1 with heap := h3 } := fun {x c np Q E} hc q => by
      obtain ⟨n1, n2, n3 | ⟨n3, n4, n5⟩⟩ := hc
      · exact ld_glob (X := X.suite a ((a, o3) :: (X.pn ++ pins))) S3 n1 n3 q n2
      · exact ld_blt (X := X.suite a ((a, o3) :: (X.pn ++ pins))) S3 n1 n3 n4 q n5 n2
    have go : ∀ {hds : List ExceptHandler} {ll : List Cla}, ClaOk X hds ll → wMany X.K Wout D ll cls d σ1 H1 → wpAny (model X.prog X.w) X.A (handleBy (.ref a) X.env hds) (SP X pins D) X.xe { s1 with heap := h3 } := by
      intro hds ll hk
      induction hk with
      | nil =>
        intro w
        refine wpAny_handleBy_nil ?_
        obtain ⟨_, _, _, oe, vs, T, oT, ts', y1, _, y3, y4, _⟩ := id g3
        unfold PySem.passOn
        refine wpAny_bind (wpAny_field y1 y3 y4 ?_)
        rw [if_neg (show ¬ ((Value.ref T == Value.none) = true) from by simp)]
        have last : wpAny (model X.prog X.w) X.A (setFlight (.ref a) X.env.frame) (fun _ s4 => wpAny (model X.prog X.w) X.A (throw (.ref a) : Sem Flow) (SP X pins D) X.xe s4) X.xe { s1 with heap := h3 } := by
          rw [hfr]
          refine HandSPX.setFlight_upZ g3 fun h4 g4 up4 => wpAny_throw (tk _ _ ?_)
          exact ⟨a, B, sI, pins, σ1, H1, cls, d, rfl, J, nb, (up.trans up3).trans up4, .inr (.inr (by rw [hst]; exact g4)), na, os, ag, w⟩
        first
          | exact wpAny_bind (wpAny_pure (wpAny_bind last))
          | exact wpAny_bind last
      | @bare x c ts b0 sts np hp hds2 l2 hc hsu r ih =>
        intro w
        obtain ⟨b, w1, w2, w3⟩ := w
        refine wpAny_handleBy_cons (codeAny_handlers_test ?_) (by intro z; cases z)
        refine test hc ((PySem.W.exm_one (M := model X.prog X.w) J3.kIn LT w1).here ?_)
        cases b with
        | false =>
          show wpAny _ X.A (handleBy (.ref a) X.env hds2) _ _ _
          exact ih (w3 rfl)
        | true =>
          refine codeAny_handlers_suite ?_
          refine HandSPX.lands_againZ g3 fun h4 g4 up4 => ?_
          have J4 : Inv X pins σ1 H1 { s1 with heap := h4 } := J.landed nb g4.1 ((up.trans up3).trans up4) os ag
          obtain ⟨o4, v4, u1, u2, u3⟩ := g4.there
          refine wpAny_mono ((hsu a o4 cls d (X.pn ++ pins) u2 ⟨_, u3⟩).run [] _ _ H1 _ (J4.suite u1 u3 na nL nF) (w2 rfl a na)) (fun fl s6 hsp => ?_) (fun _ _ z => False.elim z)
          match fl, hsp with
          | .next, ⟨_, _, S6, q6⟩ => exact ⟨_, _, S6.unsuite hok, q6⟩
          | .brk, ⟨_, _, S6, q6⟩ => exact ⟨_, _, S6.unsuite hok, q6⟩
          | .cont, ⟨_, _, S6, q6⟩ => exact ⟨_, _, S6.unsuite hok, q6⟩
          | .ret u, ⟨_, _, _, S6, r6, q6⟩ => exact ⟨_, _, _, S6.unsuite hok, r6, q6⟩
      | @named x n i c ts b0 sts np hp hds2 l2 hi hln hc hsu r ih =>
        intro w
        obtain ⟨b, w1, w2, w3⟩ := w
        refine wpAny_handleBy_cons (codeAny_handlers_test ?_) (by intro z; cases z)
        refine test hc ((PySem.W.exm_one (M := model X.prog X.w) J3.kIn LT w1).here ?_)
        cases b with
        | false =>
          show wpAny _ X.A (handleBy (.ref a) X.env hds2) _ _ _
          exact ih (w3 rfl)
        | true =>
          refine codeAny_handlers_suite_as ?_
          refine HandSPX.lands_againZ g3 fun h4 g4 up4 => ?_
          have J4 : Inv X pins σ1 H1 { s1 with heap := h4 } := J.landed nb g4.1 ((up.trans up3).trans up4) os ag
          obtain ⟨o4, v4, u1, u2, u3⟩ := g4.there
          refine store_ok (X := X.suite a ((a, o4) :: (X.pn ++ pins))) (v := .ref a) (J4.suite u1 u3 na nL nF) hN hi (.inl hln) rfl (fun s5 S5 => ?_) (.inr hln)
          refine wpAny_mono ((hsu a o4 cls d (X.pn ++ pins) u2 ⟨_, u3⟩).run [] s5 _ H1 _ S5 (w2 rfl a na)) (fun fl s6 hsp => ?_) (fun _ _ z => False.elim z)
          have away : ∀ {σ6 : L2.St} {H6 : Hp} {Q : Shared → Prop}, Inv (X.suite a ((a, o4) :: (X.pn ++ pins))) [] σ6 H6 s6 → (∀ s7, Inv X pins (σ6.set i none) H6 s7 → Q s7) →
              wpAny (model X.prog X.w) X.A (do bindName X.env n .none; unbindBehindTheSuite X.env n hp) (fun _ s7 => Q s7) X.xe s6 := fun {σ6 H6 Q} S6 hq => gone_ok (S6.unsuite hok) hN hi hln hq
          match fl, hsp with
          | .next, ⟨_, _, S6, q6⟩ => exact away S6 fun s7 J7 => ⟨_, _, J7, q6⟩
          | .brk, ⟨_, _, S6, q6⟩ => exact away S6 fun s7 J7 => ⟨_, _, J7, q6⟩
          | .cont, ⟨_, _, S6, q6⟩ => exact away S6 fun s7 J7 => ⟨_, _, J7, q6⟩
          | .ret u, ⟨_, _, _, S6, r6, q6⟩ => exact away S6 fun s7 J7 => ⟨_, _, _, J7, r6, q6⟩
    exact go hh w
  · match fl, hsp with
    | .next, ⟨_, _, J0, q⟩ => exact wpAny_execs_nil ⟨_, _, J0.ofTry hok, q⟩
    | .brk, ⟨_, _, J0, q⟩ => exact ⟨_, _, J0.ofTry hok, q⟩
    | .cont, ⟨_, _, J0, q⟩ => exact ⟨_, _, J0.ofTry hok, q⟩
    | .ret u, ⟨_, _, _, J0, r, q⟩ => exact ⟨_, _, _, J0.ofTry hok, r, q⟩
end Zj
/-! A def that is handed a lambda, calls it, and tells what it came to. -/
namespace Zj
open PySem PySem.Spec PyProof.Rows L2
variable [Nm]
section
variable {X : Cx} {pins : List (Addr × Obj)} {σ : L2.St} {H HZ : Hp} {s : Shared} {scope : Scope} {f c' : Addr}
/-- the lambda is called, by the def that was handed it; at the slots σZ -/
theorem je_act {CXg : CXT} {Eg : XK} {Ng : List Str} {qg : Str} {sg : Scope} {g : Addr} {cdg : Value} {params : Arguments} {body : Expr} {is : List Int} {k i : Nat} {an : Str} {pn : List (Addr × Obj)} {xe : Value → Shared → Prop} {W : WX} {p1 p2 : Pos} {σZ : L2.St} {Q : VK}
    (I : Inv X pins σ H s) (L : LamK X.env.scope scope) (hc : CloAt X H s.heap f c' params body scope is) (hb : LamBind params body scope is)
    (tk : Takes ((cxOf CXg X.prog X.w X.K X.mg X.base Ng qg sg g cdg X.A X.stack s H Eg).tr pn xe) W) (hr : Room (k + 1) (X.A.deeper (envOfC qg sg s.heap.objs.size g cdg)))
    (hbody : ∀ (A : Around) (outer : List Env) (s1 : Shared), A.guards = X.A.guards → Room k (A.deeper (LamX.lamEnv X scope s1.heap.objs.size f c')) → JE (lamX X A outer s1 HZ (WE W σZ) scope f c') body σ HZ Q)
    (g1 : σZ[i]? = some (some (.ref f))) (g2 : HZ c' = some (LamX.CodeO c' (lamQ X)))
    (hN : Ng[i]? = some an) (hv : Vis sg an) (hd : (an == ("__debug__" : Str)) = false := by decide) (hcd : (an == ("__classdict__" : Str)) = false := by decide) :
    JE ((cxOf CXg X.prog X.w X.K X.mg X.base Ng qg sg g cdg X.A X.stack s H Eg).tr pn xe) (.Call (.Name an p1) [] [] p2) σZ HZ Q := fun pinsZ sZ IZ => by
  refine wpAny_Call_Name_kw (thn ((pe_var (pos := p1) (i := i) hN hv hd hcd).run pinsZ sZ σZ HZ (fun v H1 => v = .ref f ∧ H1 = HZ) IZ ⟨.ref f, g1, rfl, rfl⟩) fun u s1 hh => ?_)
  obtain ⟨v, H1, I1, r1, rfl, rfl⟩ := hh
  obtain rfl : u = Value.ref f := r1
  have kept : ∀ b o, s.heap.get? b = some o → H b = none → b ∉ frs X.stack → s1.heap.get? b = some o := fun b o e n nf => I1.base.keep b o e n nf (fun z => nomatch (show b ∈ ([] : List Addr) from z))
  obtain ⟨dV, doc, pm, ctv, ob, hD⟩ := hc.ob
  have of1 := kept f _ ob hc.un hc.fr
  refine PySem.W.callWith_F0 ⟨_, _, _, _, of1⟩ ?_
  have un : Un (frs X.stack) [] H H1 s.heap s1.heap := I1.base
  obtain ⟨⟨oc, vs, t, w1, w2, w3⟩, _, _⟩ := I1.hok c' _ g2
  obtain ⟨bs, hbs, hloc⟩ := hb (lamQ X) (cloFrom X.env.cells scope.names []) dV doc pm (.ref c') ctv s1 (hD.imp (fun z => z) fun ⟨D, i, tk, e1, e2, e3, e4, e5⟩ => ⟨D, i, tk, e1, e2, kept D _ e3 e4 e5⟩)
  have rc : codeAny (model X.prog X.w) (X.A.deeper (envOfC qg sg s.heap.objs.size g cdg)) (.call (.ref f) ⟨[], []⟩) (CR (L2.CX X.prog X.w) (envOfC qg sg s.heap.objs.size g cdg :: X.stack) X.prog X.w H1 s1 Q (WE W σZ)) s1 := by
    refine PySem.W.kla_callFunE hr.depth of1 rfl L.co L.gen rfl ⟨c', oc, vs, t, rfl, w1, w2, w3⟩ (hbs _ _ _ _ ?_)
    refine wpAny_newFunctionEnv L.nocell hloc (fun h1 hns hsb => ⟨I1.nolimit.fresh _ hsb, ?_⟩) L.kind
    show codeAny _ _ (.expr body (LamX.lamEnv X scope s1.heap.objs.size f c')) _ _
    have kp : ∀ b o, s1.heap.get? b = some o → h1.get? b = some o := fun b o e => hsb.extBut b o (Nat.ne_of_lt (Heap.lt_size e)) (Heap.get?_push_of_some _ e)
    have J : Inv (lamX X (X.A.deeper (envOfC qg sg s.heap.objs.size g cdg)) (envOfC qg sg s.heap.objs.size g cdg :: X.stack) s1 H1 (WE W σZ) scope f c') [] σ H1 { s1 with heap := h1, toks := s1.toks + bs.length } :=
      lam_enter I L I1.env0 hr.hd un hns kp
    refine PySem.W.kla_codeExpr (wpAny_mono (hbody (X.A.deeper (envOfC qg sg s.heap.objs.size g cdg)) _ s1 rfl (hr.deeper _) [] _ J) (fun v s' hq => ?_) fun e s' hq => hq)
    obtain ⟨w', H', J', rv, q⟩ := hq
    exact ⟨w', H', J'.os, J'.bare, J'.base, J'.hok, rv, q⟩
  refine wpAny_call (codeAny_mono rc fun r s' hq => ?_)
  match r, hq with
  | .error er, hq => exact tk er s' (XE.of_call I1 (fun _ _ _ h => h) hq)
  | .ok (.ret u), hq => exact I1.after hq
  | .ok .next, hq => exact False.elim hq
  | .ok .brk, hq => exact False.elim hq
  | .ok .cont, hq => exact False.elim hq
end
/-- what a call of the lambda in slot 0 comes to -/
def Act (Z : Cx) (T : Addr → Prop) (f : Addr) (H0 : Hp) (o : Out) (an : Str) : Prop := ∀ (W : WX) (pn : List (Addr × Obj)) (xe : Value → Shared → Prop), Takes (Z.tr pn xe) W → ∀ (σZ : L2.St) (HZ : Hp) (p1 p2 : Pos), σZ[0]? = some (some (.ref f)) → Sm H0 HZ →
  ∀ Q : VK, (∀ v H2 d, o = .ok d → Sm HZ H2 → Dp Z.K (off T H2) v d → Q v H2) → (∀ cls dd H2 x, o = .ex x → Sm HZ H2 → ExD Z.K Z.mg (off T H2) x cls dd → W cls dd σZ H2) → JE (Z.tr pn xe) (.Call (.Name an p1) [] [] p2) σZ HZ Q
def HeardB (Z : Cx) (bg : List Stmt) (Ng : List Str) (an : Str) (o : Out) (r : PyData) : Prop := ∀ (T : Addr → Prop) (f : Addr) (H0 : Hp), Din T H0 → Act Z T f H0 o an → ∀ D : Ends, (∀ v H2, Sm H0 H2 → Dp Z.K (off T H2) v r → D.rt v H2) → JSs Z bg D (L2.start Ng [.ref f]) H0
/-- what the lambda's body comes to -/
def LamO (X : Cx) (a : Addr) (ρ : Rho) (scope : Scope) (body : Expr) (k : Nat) (o : Out) : Prop := ∀ (A : Around) (outer : List Env) (s : Shared) (H : Hp) (E : XK) (f c' : Addr), A.guards = X.A.guards → Room k (A.deeper (LamX.lamEnv X scope s.heap.objs.size f c')) →
  match o with
  | .ok d => EvE (lamX X A outer s H E scope f c') a body ρ d
  | .ex x => EvX (lamX X A outer s H E scope f c') a body ρ x
section
variable {X : Cx} {a : Addr} {ρ : Rho} {scope : Scope} {params : Arguments} {body : Expr} {is : List Int} {lpos p pos : Pos} {k : Nat} {o : Out} {r : PyData} {hn an : Str} {stH : Stmt} {Ng : List Str} {g c P : Addr} {fd : FuncData}
theorem e_heard (F : Fun X.K hn hn stH g fd) (hm : X.mg hn = some (.ref g)) (hb : L2.Binds X.K fd [an] []) (Sg : FnScope Ng [an] (defScope stH)) (h0 : Ng[0]? = some an) (hva : Vis (defScope stH) an)
    (HB : ∀ (cdv : Value) (A : Around) (outer : List Env) (s : Shared) (H : Hp), Good (cxOf CX0 X.prog X.w X.K X.mg X.base Ng hn (defScope stH) g cdv A outer s H E0).nox → HeardB (cxOf CX0 X.prog X.w X.K X.mg X.base Ng hn (defScope stH) g cdv A outer s H E0).nox (defBody stH) Ng an o r)
    (hr : Room (k + 2) X.A) (TB : LamX.TabB X.base X.mg c P) (hc0 : X.env.code = .ref c) (hP : P ∈ Nm.tabs) (hq : Nm.nm P = lamQ X) (L : LamK X.env.scope scope) (hd : LamD X.env params is) (hbd : LamBind params body scope is) (LO : LamO X a ρ scope body k o)
    (hg : Gl X hn := by rfl) (hdb : (hn == ("__debug__" : Str)) = false := by decide) (hd1 : (an == ("__debug__" : Str)) = false := by decide) (hd2 : (an == ("__classdict__" : Str)) = false := by decide) :
    EvE X a (.Call (.Name hn p) [.Lambda params body scope lpos] [] pos) ρ r := fun T σ H S Q q pins s I => by
  have hk := F.kp
  obtain ⟨oc, od, kV, doc, pm, an0, cdv, ct, osl, rfl, lk, hcd⟩ := F.ex
  refine wpAny_Call_Name_kw (ld_glob I hg hm ?_ hdb)
  refine PySem.W.callWith_K (h₀ := X.base) I.ok.mod.kin hk ?_ (by rfl) (by rfl)
  show wpAny _ _ (spliced ((false, eval (.Lambda params body scope lpos) X.env) :: backTo pos (starEach [] X.env))) _ _ s
  refine Calls.spliced_cons (lam_made (E := X.xe) I TB hc0 hq (hq ▸ S.dm.tb P hP) (L.has I.ok) hd fun f c' H1 s1 I1 sm CA => ?_)
  refine Calls.spliced_nil ⟨I1.kIn, ?_⟩
  have rc : codeAny (model X.prog X.w) X.A (.call (.ref g) ⟨[.ref f], []⟩) (CR CX0 X.stack X.prog X.w H1 s1 Q E0) s1 := by
    refine LamX.run_ofS (N := Ng) (ps := [an]) (us := [.ref f]) (vs := [.ref f]) lk hcd Sg hr I1.env0 (hb s1 [.ref f] I1.kIn rfl) (.cons rfl .nil) rfl fun hr1 => ⟨_, jss.nox, ?_⟩
    refine HB cdv X.A X.stack s1 H1 ⟨Sg.nd, rfl, PassesOwn.never, hr1.units⟩ T f H1 (S.dm.same sm) (fun W pn xe tk σZ HZ p1 p2 z1 z2 Q2 ko kx => ?_) _ fun v H2 s2 p2 => q v H2 (sm.trans s2) p2
    refine je_act (CXg := CX0) (Eg := E0) (i := 0) I1 L CA hbd tk hr1 (fun A outer s2 hgd hr2 => ?_) z1 (z2.ob _ _ CA.co LamX.codeO_ne) h0 hva hd1 hd2
    have lo := LO A outer s2 HZ (WE W σZ) f c' hgd hr2
    have S2 : SD X.K a T HZ σ ρ := (S.same sm).same z2
    match o, lo, ko, kx with
    | .ok d, lo, ko, kx => exact lo T σ HZ S2 Q2 fun v H2 s3 p3 => ko v H2 d rfl s3 p3
    | .ex x, lo, ko, kx => exact lo _ (takes_of (E := WE W σZ) rfl rfl rfl rfl) T σ HZ S2 (fun cls d H2 s3 p3 => kx cls d H2 x rfl s3 p3) Q2
  refine wpAny_call (codeAny_mono rc fun res s2 hq => ?_)
  match res, hq with
  | .error er, hq => exact (show False from hq).elim
  | .ok (.ret u), hq => exact I1.after hq
  | .ok .next, hq => exact False.elim hq
  | .ok .brk, hq => exact False.elim hq
  | .ok .cont, hq => exact False.elim hq
end

/-! ### what such a def makes of it -/
/-- a class of exceptions, its fields readable -/
structure XcF (K : PySem.W.Frag) (mg : Str → Option Value) (x : Str) (fs : List Str) : Prop where
  ex : ∃ C, mg x = some (.ref C) ∧ XfC K C ∧ ∀ f ∈ fs, PySem.W.findIn K (.ref C) f = some none
/-- whether an exception of x is one of y's -/
structure Exm (K : PySem.W.Frag) (mg : Str → Option Value) (x y : Str) (b : Bool) : Prop where
  ex : ∃ C D, mg x = some (.ref C) ∧ mg y = some (.ref D) ∧ PySem.W.exmOne K (.ref C) (.ref D) = some b
theorem Exm.at {K : PySem.W.Frag} {mg : Str → Option Value} {x y : Str} {b : Bool} (h : Exm K mg x y b) {C D : Addr} (h1 : mg x = some (.ref C)) (h2 : mg y = some (.ref D)) : PySem.W.exmOne K (.ref C) (.ref D) = some b := by
  obtain ⟨C', D', e1, e2, e3⟩ := h.ex
  rw [h1] at e1
  rw [h2] at e2
  cases e1
  cases e2
  exact e3
section
variable {Z : Cx} {an n w1 w2 x1 x2 f1 f2 : Str} {i : Nat} {k j j1 j2 k1 k2 : Nat} {p1 p2 p3 p4 p5 q1 q2 q3 q4 q5 q6 q7 r1 r2 r3 r4 r5 r6 r7 : Pos} {Ng : List Str} {o : Out} {r : PyData}
/-- the suite: ("w", n.f) -/
def tPair (K : PySem.W.Frag) (mg : Str → Option Value) (i : Nat) (w f : Str) (a : Addr) (cls : Value) (d : Option Addr) : TS := fun D σ H => σ[i]? = some (some (.ref a)) ∧ ∃ (T : Addr → Prop) (x : Exc) (y : PyData), Din T H ∧ (f, y) ∈ x.fs ∧ ExD K mg (off T H) x cls d ∧
  (∃ C, XfC K C ∧ PySem.W.findIn K (.ref C) f = some none ∧ cls = .ref C) ∧ ∀ v H2, Sm H H2 → Dp K (off T H2) v (.tuple [.str w, y]) → D.rt v H2
theorem ps_pair {a : Addr} {oe : Obj} {cls : Value} {d : Option Addr} {pn : List (Addr × Obj)} {w f : Str} (hz : Zc cls d oe) (hf : ∃ vs, oe.data = .fields vs) (hi : Z.N[i]? = some n) (hv : Vis Z.env.scope n) (hd : (n == ("__debug__" : Str)) = false) (hcd : (n == ("__classdict__" : Str)) = false)
    (hs : ∀ e : Expr, starEach (.Constant (.str w) j q1 :: [e]) (Z.suite a ((a, oe) :: pn)).env = (false, eval (.Constant (.str w) j q1) (Z.suite a ((a, oe) :: pn)).env) :: starEach [e] (Z.suite a ((a, oe) :: pn)).env) (hs2 : ∀ e : Expr, e = .Attribute (.Name n q2) f q3 → starEach [e] (Z.suite a ((a, oe) :: pn)).env = (false, eval e (Z.suite a ((a, oe) :: pn)).env) :: starEach [] (Z.suite a ((a, oe) :: pn)).env)
    (hb : attributeBase (.Name n q2) f (Z.suite a ((a, oe) :: pn)).env (eval (.Name n q2) (Z.suite a ((a, oe) :: pn)).env) = eval (.Name n q2) (Z.suite a ((a, oe) :: pn)).env) :
    PSs (Z.suite a ((a, oe) :: pn)) [.Return (some (.Tuple [.Constant (.str w) j q1, .Attribute (.Name n q2) f q3] k q4)) q5] (tPair Z.K Z.mg i w f a cls d) := by
  refine ⟨fun pins s σ H D I h => ?_⟩
  obtain ⟨hσ, T, x, y, dm, hx, he, ⟨C, hX, hno, hC⟩, q⟩ := h
  obtain ⟨C', _, hc', hall⟩ := he
  obtain ⟨dd, fs, v, rfl, hdd, hl, hp⟩ := hall _ hx
  refine (pss_one (ps_ret (pe_tup (pa_cons pe_str (pa_cons (pe_xf hX hno hz hf (pe_var hi hv hd hcd) hb) pa_nil (hs2 _ rfl)) (hs _))))).run pins s σ H D I ?_
  refine ⟨.ref a, hσ, rfl, hC, dd, fs, v, rfl, (off_some hdd).1, hl, szl (by simp), fun pa hpa => ?_⟩
  exact q _ _ (same_new hpa) (dpo_newT dm hpa (.cons (.str w) (.cons hp .nil)))
/-- the try's body: [a()] -/
def tAct (Z : Cx) (T : Addr → Prop) (f : Addr) (H0 : Hp) (o : Out) (an : Str) (W : WX) : TS := fun D σ H => σ[0]? = some (some (.ref f)) ∧ Act Z T f H0 o an ∧ Sm H0 H ∧ Din T H ∧ (∀ v H2 d, o = .ok d → Sm H H2 → Dp Z.K (off T H2) v (.list [d]) → D.rt v H2) ∧
  ∀ cls dd H2 x, o = .ex x → Sm H H2 → ExD Z.K Z.mg (off T H2) x cls dd → W cls dd σ H2
theorem ps_act {T : Addr → Prop} {f : Addr} {H0 : Hp} {W : WX} {pn : List (Addr × Obj)} {xe : Value → Shared → Prop} (tk : Takes (Z.tr pn xe) W) (hs : starEach [.Call (.Name an p1) [] [] p2] (Z.tr pn xe).env = (false, eval (.Call (.Name an p1) [] [] p2) (Z.tr pn xe).env) :: starEach [] (Z.tr pn xe).env) :
    PSs (Z.tr pn xe) [.Return (some (.List [.Call (.Name an p1) [] [] p2] p3)) p4] (tAct Z T f H0 o an W) := by
  refine ⟨fun pins s σ H D I h => ?_⟩
  obtain ⟨h1, h2, h3, h4, h5, h6⟩ := h
  refine (pss_one (ps_ret (pe_lst (pa_cons je pa_nil hs)))).run pins s σ H D I (h2 W pn xe tk σ H p1 p2 h1 h3 _ (fun v H2 d e s2 p => ?_) fun cls dd H2 x e s2 p => h6 cls dd H2 x e s2 p)
  exact ⟨szl (by simp), fun pa hpa => h5 _ _ d e (s2.trans (same_new hpa)) (dpo_newL (h4.same s2) hpa (.cons p .nil))⟩
theorem heard1 (G : Good Z) (hst : Z.stack = Z.env :: Z.outer) (hfr : Z.env.frame = some Z.env.locals) (hi : Z.N[i]? = some n) (hln : Z.env.kindOf n = some .local) (hv : Vis Z.env.scope n) (hd : (n == ("__debug__" : Str)) = false) (hcd : (n == ("__classdict__" : Str)) = false) (g1 : Gl Z x1) (d1 : (x1 == ("__debug__" : Str)) = false)
    (C1 : XcF Z.K Z.mg x1 [f1]) (m11 : Exm Z.K Z.mg x1 x1 true) (h0 : ∀ f : Addr, (L2.start Ng [V.ref f])[0]? = some (some (V.ref f))) (hsl : ∀ f a : Addr, ((L2.start Ng [V.ref f]).set i (some (V.ref a)))[i]? = some (some (V.ref a)))
    (ho : (∃ d, o = .ok d ∧ r = .list [d]) ∨ ∃ y, o = .ex ⟨x1, [(f1, y)]⟩ ∧ r = .tuple [.str w1, y]) :
    HeardB Z [.Try [.Return (some (.List [.Call (.Name an p1) [] [] p2] p3)) p4] [.ExceptHandler (some (.Name x1 q1)) (some n) [.Return (some (.Tuple [.Constant (.str w1) j1 r1, .Attribute (.Name n r2) f1 r3] k1 r4)) r5] q2] [] [] p5] Ng an o r := fun T f H0 dm act D q => by
  obtain ⟨A1, hm1, XA, noA⟩ := C1.ex
  refine toSs (pss_one (ps_tries (tb := fun W => tAct Z T f H0 o an W) (Wout := fun _ _ _ _ => False) hst hfr G.nd takes0 (fun W pn xe tk _ => ps_act tk rfl) (.named hi hln ⟨g1, d1, .inl hm1⟩ (fun a oe cls d pn hz hf => ps_pair hz hf hi hv hd hcd (fun _ => rfl) (fun _ e => by subst e; rfl) rfl) .nil)))
    ⟨h0 f, act, Sm.refl H0, dm, fun v H2 d e s p => ?_, fun cls dd H2 x e s p => ?_⟩
  · rcases ho with ⟨d', e', er⟩ | ⟨y, e', er⟩
    · rw [e'] at e
      cases e
      rw [er] at q
      exact q v H2 s p
    · rw [e'] at e
      cases e
  · rcases ho with ⟨d', e', er⟩ | ⟨y, e', er⟩
    · rw [e'] at e
      cases e
    · rw [e'] at e
      cases e
      have p0 := p
      obtain ⟨C, hc, rfl, _⟩ := p0
      have eC := hm1.symm.trans hc
      cases eC
      exact ⟨true, m11.at hm1 hm1, fun _ a na => ⟨hsl f a, T, _, y, dm.same s, List.mem_singleton.mpr rfl, p, ⟨A1, XA, noA _ (List.mem_singleton.mpr rfl), rfl⟩, fun v H3 s3 p3 => q v H3 (s.trans s3) (er ▸ p3)⟩, fun z => nomatch z⟩
theorem heard2 (G : Good Z) (hst : Z.stack = Z.env :: Z.outer) (hfr : Z.env.frame = some Z.env.locals) (hi : Z.N[i]? = some n) (hln : Z.env.kindOf n = some .local) (hv : Vis Z.env.scope n) (hd : (n == ("__debug__" : Str)) = false) (hcd : (n == ("__classdict__" : Str)) = false) (g1 : Gl Z x1) (d1 : (x1 == ("__debug__" : Str)) = false) (g2 : Gl Z x2) (d2 : (x2 == ("__debug__" : Str)) = false)
    (C1 : XcF Z.K Z.mg x1 [f1]) (C2 : XcF Z.K Z.mg x2 [f2]) (m11 : Exm Z.K Z.mg x1 x1 true) (m21 : Exm Z.K Z.mg x2 x1 false) (m22 : Exm Z.K Z.mg x2 x2 true) (h0 : ∀ f : Addr, (L2.start Ng [V.ref f])[0]? = some (some (V.ref f))) (hsl : ∀ f a : Addr, ((L2.start Ng [V.ref f]).set i (some (V.ref a)))[i]? = some (some (V.ref a)))
    (ho : (∃ d, o = .ok d ∧ r = .list [d]) ∨ (∃ y, o = .ex ⟨x1, [(f1, y)]⟩ ∧ r = .tuple [.str w1, y]) ∨ ∃ y, o = .ex ⟨x2, [(f2, y)]⟩ ∧ r = .tuple [.str w2, y]) :
    HeardB Z [.Try [.Return (some (.List [.Call (.Name an p1) [] [] p2] p3)) p4] [.ExceptHandler (some (.Name x1 q1)) (some n) [.Return (some (.Tuple [.Constant (.str w1) j1 r1, .Attribute (.Name n r2) f1 r3] k1 r4)) r5] q2,
      .ExceptHandler (some (.Name x2 q3)) (some n) [.Return (some (.Tuple [.Constant (.str w2) j2 q5, .Attribute (.Name n q6) f2 q7] k2 r6)) r7] q4] [] [] p5] Ng an o r := fun T f H0 dm act D q => by
  obtain ⟨A1, hm1, XA, noA⟩ := C1.ex
  obtain ⟨A2, hm2, XB, noB⟩ := C2.ex
  refine toSs (pss_one (ps_tries (tb := fun W => tAct Z T f H0 o an W) (Wout := fun _ _ _ _ => False) hst hfr G.nd takes0 (fun W pn xe tk _ => ps_act tk rfl) (.named hi hln ⟨g1, d1, .inl hm1⟩ (fun a oe cls d pn hz hf => ps_pair hz hf hi hv hd hcd (fun _ => rfl) (fun _ e => by subst e; rfl) rfl)
    (.named hi hln ⟨g2, d2, .inl hm2⟩ (fun a oe cls d pn hz hf => ps_pair hz hf hi hv hd hcd (fun _ => rfl) (fun _ e => by subst e; rfl) rfl) .nil))))
    ⟨h0 f, act, Sm.refl H0, dm, fun v H2 d e s p => ?_, fun cls dd H2 x e s p => ?_⟩
  · rcases ho with ⟨d', e', er⟩ | ⟨y, e', er⟩ | ⟨y, e', er⟩
    · rw [e'] at e
      cases e
      rw [er] at q
      exact q v H2 s p
    · rw [e'] at e
      cases e
    · rw [e'] at e
      cases e
  · rcases ho with ⟨d', e', er⟩ | ⟨y, e', er⟩ | ⟨y, e', er⟩
    · rw [e'] at e
      cases e
    · rw [e'] at e
      cases e
      have p0 := p
      obtain ⟨C, hc, rfl, _⟩ := p0
      have eC := hm1.symm.trans hc
      cases eC
      exact ⟨true, m11.at hm1 hm1, fun _ a na => ⟨hsl f a, T, _, y, dm.same s, List.mem_singleton.mpr rfl, p, ⟨A1, XA, noA _ (List.mem_singleton.mpr rfl), rfl⟩, fun v H3 s3 p3 => q v H3 (s.trans s3) (er ▸ p3)⟩, fun z => nomatch z⟩
    · rw [e'] at e
      cases e
      have p0 := p
      obtain ⟨C, hc, rfl, _⟩ := p0
      have eC := hm2.symm.trans hc
      cases eC
      exact ⟨false, m21.at hm2 hm1, (fun z => nomatch z), fun _ => ⟨true, m22.at hm2 hm2, fun _ a na => ⟨hsl f a, T, _, y, dm.same s, List.mem_singleton.mpr rfl, p, ⟨A2, XB, noB _ (List.mem_singleton.mpr rfl), rfl⟩, fun v H3 s3 p3 => q v H3 (s.trans s3) (er ▸ p3)⟩, fun z => nomatch z⟩⟩
/-- clauses without names, a text each -/
theorem heard0 {A1 A2 : Addr} (G : Good Z) (hst : Z.stack = Z.env :: Z.outer) (hfr : Z.env.frame = some Z.env.locals) (g1 : Gl Z x1) (d1 : (x1 == ("__debug__" : Str)) = false) (g2 : Gl Z x2) (d2 : (x2 == ("__debug__" : Str)) = false)
    (hm1 : Z.mg x1 = some (.ref A1)) (hm2 : Z.mg x2 = some (.ref A2)) (m11 : Exm Z.K Z.mg x1 x1 true) (m21 : Exm Z.K Z.mg x2 x1 false) (m22 : Exm Z.K Z.mg x2 x2 true) (h0 : ∀ f : Addr, (L2.start Ng [V.ref f])[0]? = some (some (V.ref f)))
    (ho : (∃ d, o = .ok d ∧ r = .list [d]) ∨ (o = .ex ⟨x1, []⟩ ∧ r = .str w1) ∨ (o = .ex ⟨x2, []⟩ ∧ r = .str w2)) :
    HeardB Z [.Try [.Return (some (.List [.Call (.Name an p1) [] [] p2] p3)) p4] [.ExceptHandler (some (.Name x1 q1)) none [.Return (some (.Constant (.str w1) j1 r1)) r5] q2,
      .ExceptHandler (some (.Name x2 q3)) none [.Return (some (.Constant (.str w2) j2 q5)) r7] q4] [] [] p5] Ng an o r := fun T f H0 dm act D q => by
  refine toSs (pss_one (ps_tries (tb := fun W => tAct Z T f H0 o an W) (Wout := fun _ _ _ _ => False) hst hfr G.nd takes0 (fun W pn xe tk _ => ps_act tk rfl) (.bare ⟨g1, d1, .inl hm1⟩ (fun a oe cls d pn hz hf => pss_one (ps_ret pe_str))
    (.bare ⟨g2, d2, .inl hm2⟩ (fun a oe cls d pn hz hf => pss_one (ps_ret pe_str)) .nil))))
    ⟨h0 f, act, Sm.refl H0, dm, fun v H2 d e s p => ?_, fun cls dd H2 x e s p => ?_⟩
  · rcases ho with ⟨d', e', er⟩ | ⟨e', er⟩ | ⟨e', er⟩
    · rw [e'] at e
      cases e
      rw [er] at q
      exact q v H2 s p
    · rw [e'] at e
      cases e
    · rw [e'] at e
      cases e
  · rcases ho with ⟨d', e', er⟩ | ⟨e', er⟩ | ⟨e', er⟩
    · rw [e'] at e
      cases e
    · rw [e'] at e
      cases e
      obtain ⟨C, hc, rfl, _⟩ := p
      have eC := hm1.symm.trans hc
      cases eC
      exact ⟨true, m11.at hm1 hm1, fun _ a na => q _ H2 s (er ▸ .str w1), fun z => nomatch z⟩
    · rw [e'] at e
      cases e
      obtain ⟨C, hc, rfl, _⟩ := p
      have eC := hm2.symm.trans hc
      cases eC
      exact ⟨false, m21.at hm2 hm1, (fun z => nomatch z), fun _ => ⟨true, m22.at hm2 hm2, fun _ a na => q _ H2 s (er ▸ .str w2), fun z => nomatch z⟩⟩
end
end Zj
/-! What several laws share: what defs tell, drawn numbers, the law's state, the defs of the top. -/
namespace Zj
open PySem PySem.Spec PyProof.Rows L2
variable [Nm]
instance (n : Nat) (x : Int) : Decidable (Bits n x) := inferInstanceAs (Decidable (x.natAbs < 2 ^ n))
structure Tx (mg : Str → Option Value) : Prop where
  isi : mg "isinstance" = none
  int : mg "int" = none
  bool : mg "bool" = none
  tuple : mg "tuple" = none
  len : mg "len" = none
  enum : mg "enumerate" = none
  sum : mg "sum" = none
  list : mg "list" = none
  zip : mg "zip" = none
  range : mg "range" = none
  abs : mg "abs" = none
  repr : mg "repr" = none
  max : mg "max" = none
  min : mg "min" = none
  gcd : mg "gcd" = some (.builtin "math.gcd")
def R_weighed (ds : List PyData) (d : PyData) : Prop := ∃ xs ys, ds = [tI xs, tI ys] ∧ BitsL 20000 xs ∧ BitsL 20000 ys ∧ xs.length ≤ 1000 ∧ d = .int (dot xs ys)
def R_whole (ds : List PyData) (d : PyData) : Prop := ∃ x, ds = [x] ∧ d = .bool (wholeD x)
def R_wrong (ds : List PyData) (d : PyData) : Prop := ∃ v m, ds = [v, .int m] ∧ (∀ xs, v = .tuple xs → xs.length ≤ 1000) ∧ d = wrongD v m
/-- the greatest common divisor of all -/
def R_cd (ds : List PyData) (d : PyData) : Prop := ∃ xs : List Int, (ds = [tI xs] ∨ ds = [lI xs]) ∧ d = .int (gcdL xs)
def R_short (ds : List PyData) (d : PyData) : Prop := ∃ xs : List Int, (ds = [tI xs] ∨ ds = [lI xs]) ∧ BitsL 8000 xs ∧ xs.length ≤ 1000 ∧ d = tI (shortL xs)
def R_sign (ds : List PyData) (d : PyData) : Prop := ∃ n, ds = [.int n] ∧ d = .int (sgn n)
def R_lowest (ds : List PyData) (d : PyData) : Prop := ∃ t b, ds = [.int t, .int b] ∧ b ≠ 0 ∧ Bits 8000 b ∧ d = tI (fracL t b)
def R_crow (ds : List PyData) (d : PyData) : Prop := ∃ (n : Int) (xs : List Int), ds = [.int n, tI xs] ∧ (xs.length : Int) = n + 1 ∧ xs.length ≤ 1000 ∧ d = tI xs
def R_first (ds : List PyData) (d : PyData) : Prop := ∃ xs : List Int, ds = [tI xs] ∧ d = placeD (lead xs)
def R_plane (ds : List PyData) (d : PyData) : Prop := ∃ row : List Int, ds = [tI row] ∧ 1 ≤ row.length ∧ row.length ≤ 1000 ∧ BitsL 8000 row ∧ d = planeD row
def R_cplane (ds : List PyData) (d : PyData) : Prop := ∃ (n : Int) (xs : List Int), ds = [.int n, tI xs] ∧ (xs.length : Int) = n + 1 ∧ 1 ≤ xs.length ∧ xs.length ≤ 1000 ∧ BitsL 8000 xs ∧ planeL xs = some xs ∧ d = tI xs
def R_value (ds : List PyData) (d : PyData) : Prop := ∃ (row pt : List Int) (l : Int), ds = [tI row, tI pt] ∧ pt.getLast? = some l ∧ 0 < l ∧ BitsL 8000 row ∧ BitsL 8000 pt ∧ row.length ≤ 1000 ∧ d = tI (fracL (dot row pt) l)
def R_signat (ds : List PyData) (d : PyData) : Prop := ∃ (row pt : List Int), ds = [tI row, tI pt] ∧ BitsL 8000 row ∧ BitsL 8000 pt ∧ row.length ≤ 1000 ∧ d = .int (sgn (dot row pt))
def onRow (g : List Int → Int) : PyData → PyData
  | .tuple ds => .int (g (ds.map fun d => match d with | .int x => x | _ => 0))
  | _ => .none
theorem onRow_tI (g : List Int → Int) (xs : List Int) : onRow g (tI xs) = .int (g xs) := by
  show PyData.int (g ((xs.map PyData.int).map _)) = _
  rw [List.map_map]
  congr 2
  conv => rhs; rw [← List.map_id xs]
  rfl
theorem onRows (g : List Int → Int) (rows : List (List Int)) : (rows.map tI).map (onRow g) = (rows.map g).map .int := by
  rw [List.map_map, List.map_map]
  exact List.map_congr_left fun r _ => onRow_tI g r
def R_signs (ds : List PyData) (d : PyData) : Prop := ∃ (rows : List (List Int)) (pt : List Int), ds = [.tuple (rows.map tI), tI pt] ∧ (∀ row ∈ rows, BitsL 8000 row ∧ row.length ≤ 1000) ∧ BitsL 8000 pt ∧ rows.length ≤ 1000 ∧ d = tI (rows.map fun r => sgn (dot r pt))
def R_slope (ds : List PyData) (d : PyData) : Prop := ∃ (row way : List Int), ds = [tI row, tI way] ∧ 1 ≤ row.length ∧ BitsL 8000 row ∧ BitsL 8000 way ∧ row.length ≤ 1000 ∧ d = .int (dot row.dropLast way)
def movedL (pt way : List Int) (t b l : Int) : List Int := shortL (List.zipWith (fun n s => n * b + s * t * l) pt.dropLast way ++ [l * b])
def R_moved (ds : List PyData) (d : PyData) : Prop := ∃ (pt way : List Int) (t b l : Int), ds = [tI pt, tI way, tI [t, b]] ∧ pt.getLast? = some l ∧ BitsL 1500 pt ∧ BitsL 1500 way ∧ Bits 1500 t ∧ Bits 1500 b ∧ pt.length ≤ 900 ∧ d = tI (movedL pt way t b l)
theorem zip_bits {pt way : List Int} {t b l : Int} (hb : BitsL 1500 pt) (hw : BitsL 1500 way) (ht : Bits 1500 t) (hbb : Bits 1500 b) (hl : Bits 1500 l) : BitsL 8000 (List.zipWith (fun n s => n * b + s * t * l) pt.dropLast way ++ [l * b]) := by
  intro x hx
  rcases List.mem_append.mp hx with hx | hx
  · obtain ⟨i, hi⟩ := List.getElem?_of_mem hx
    rw [List.getElem?_zipWith] at hi
    split at hi
    · rename_i n s e1 e2
      cases hi
      have q1 := hb n (List.dropLast_subset _ (List.mem_of_getElem? e1))
      have q2 := hw s (List.mem_of_getElem? e2)
      exact Bits.mono (Bits.add (m := 4500) ((Bits.mul q1 hbb).mono (by decide)) ((Bits.mul (Bits.mul q2 ht) hl).mono (by decide))) (by decide)
    · cases hi
  · rw [List.mem_singleton] at hx
    subst hx
    exact (Bits.mul hl hbb).mono (by decide)
def R_like (ds : List PyData) (d : PyData) : Prop := ∃ x, ds = [x, x] ∧ Tame x ∧ d = .bool true
def R_fraction (ds : List PyData) (d : PyData) : Prop := ∃ t b, ds = [.int t, .int b] ∧ Bits 8000 t ∧ Bits 8000 b ∧ d = tI (fracL t b)
def R_point (ds : List PyData) (d : PyData) : Prop := ∃ (ns : List Int) (b : Int), ds = [lI ns, .int b] ∧ 0 < b ∧ BitsL 7000 ns ∧ Bits 7000 b ∧ ns.length ≤ 900 ∧ d = tI (shortL (ns ++ [b]))
/-- a number from 0 to b - 1 -/
def R_draw (ds : List PyData) (Q : PyData → Prop) : Prop := ∃ b : Int, ds = [.int b] ∧ 0 < b ∧ Bits 8000 b ∧ ∀ r : Int, 0 ≤ r → r < b → Q (.int r)
theorem bits_lt {x : Int} {n : Nat} (h0 : 0 ≤ x) (h : x < 2 ^ n) : Bits n x := by
  unfold Bits
  have e : ((2 ^ n : Nat) : Int) = (2 : Int) ^ n := by norm_cast
  omega
theorem at_mod {α : Type} {xs : List α} {s : Int} (h0 : 0 ≤ s) (h1 : 1 ≤ xs.length) : ∃ x, x ∈ xs ∧ atI xs (s % (xs.length : Int)) = some x := by
  have p0 : 0 ≤ s % (xs.length : Int) := Int.emod_nonneg _ (by omega)
  have p1 : s % (xs.length : Int) < xs.length := Int.emod_lt_of_pos _ (by omega)
  obtain ⟨n, hn⟩ : ∃ n : Nat, s % (xs.length : Int) = n := ⟨(s % (xs.length : Int)).toNat, by omega⟩
  have hl : n < xs.length := by omega
  exact ⟨xs[n], List.getElem_mem hl, by rw [hn]; exact atI_nat (List.getElem?_eq_getElem hl)⟩
theorem fa2_ints {Q : Int → Prop} {xs ds : List PyData} (h : Fa2 (fun _ d => ∃ x : Int, d = .int x ∧ Q x) xs ds) : ∃ ns : List Int, ds = ns.map .int ∧ ns.length = xs.length ∧ ∀ x ∈ ns, Q x := by
  induction h with
  | nil => exact ⟨[], rfl, rfl, nofun⟩
  | cons hx _ ih =>
    obtain ⟨x, rfl, hq⟩ := hx
    obtain ⟨ns, rfl, hl, hn⟩ := ih
    refine ⟨x :: ns, rfl, by simp [hl], fun y hy => ?_⟩
    rcases List.mem_cons.mp hy with rfl | hy
    · exact hq
    · exact hn y hy
theorem bits_small {x : Int} (h0 : 0 ≤ x) (h : x < 2 ^ 60) : Bits 8000 x := (bits_lt h0 h).mono (by decide)
theorem bits_abs {x : Int} {n : Nat} (h : x.natAbs < 2 ^ n) : Bits n x := h
def SpotL (D : Nat) (pt : List Int) : Prop := ∃ l, pt.getLast? = some l ∧ 0 < l ∧ pt.length = D + 1 ∧ BitsL 10 pt
theorem last_map {α β : Type} (g : α → β) (xs : List α) : (xs.map g).getLast? = xs.getLast?.map g := by
  rw [List.getLast?_map]
theorem spot_of {ns : List Int} {b : Int} {D : Nat} (hl : ns.length = D) (hn : BitsL 10 ns) (h0 : 0 < b) (hb : Bits 10 b) : SpotL D (shortL (ns ++ [b])) := by
  obtain ⟨g0, e⟩ := shortL_mul (ns ++ [b]) ⟨b, by simp, by omega⟩
  have hlast : (ns ++ [b]).getLast? = some b := by simp
  rw [e, last_map] at hlast
  cases hz : (shortL (ns ++ [b])).getLast? with
  | none => rw [hz] at hlast; cases hlast
  | some l =>
    rw [hz] at hlast
    have hlb : (gcdL (ns ++ [b]) : Int) * l = b := by simpa using hlast
    refine ⟨l, hz, ?_, by rw [shortL_len]; simp [hl], shortL_bits fun x hx => ?_⟩
    · have gp : (0 : Int) < gcdL (ns ++ [b]) := by omega
      rcases Int.lt_or_le 0 l with h | h
      · exact h
      · have := Int.mul_le_mul_of_nonneg_left h (Int.le_of_lt gp)
        omega
    · rcases List.mem_append.mp hx with hx | hx
      · exact hn x hx
      · rw [List.mem_singleton] at hx
        subst hx
        exact hb
theorem upto_len (n : Nat) : (upTo n).length = n := by simp [upTo]
def R_spot (ds : List PyData) (Q : PyData → Prop) : Prop := ∃ D : Nat, ds = [.int (D : Int)] ∧ D ≤ 4 ∧ ∀ pt, SpotL D pt → Q (tI pt)
theorem dot_bits {m k : Nat} : ∀ (xs ys : List Int), BitsL m xs → BitsL k ys → Bits (m + k + xs.length) (dot xs ys)
  | [], _, _, _ => by
    rw [dot_nil]
    exact Nat.pow_pos (by decide)
  | _ :: _, [], _, _ => by
    show Bits _ 0
    exact Nat.pow_pos (by decide)
  | x :: xs, y :: ys, h1, h2 => by
    rw [dot_cons]
    have ih := dot_bits xs ys (fun z hz => h1 z (List.mem_cons_of_mem _ hz)) fun z hz => h2 z (List.mem_cons_of_mem _ hz)
    have q := Bits.mul (h1 x List.mem_cons_self) (h2 y List.mem_cons_self)
    exact (Bits.add (q.mono (Nat.le_add_right _ xs.length)) ih).mono (by rw [List.length_cons]; omega)
theorem bits2 {m : Nat} {t b : Int} (h1 : Bits m t) (h2 : Bits m b) : BitsL m [t, b] := fun x hx => by
  rcases List.mem_cons.mp hx with rfl | hx
  · exact h1
  · rw [List.mem_singleton] at hx
    subst hx
    exact h2
theorem fracL_bits {m : Nat} {t b : Int} (h1 : Bits m t) (h2 : Bits m b) : BitsL m (fracL t b) := by
  have q := shortL_bits (bits2 h1 h2)
  unfold fracL
  split
  · exact q
  · intro x hx
    obtain ⟨y, hy, rfl⟩ := List.mem_map.mp hx
    exact (q y hy).neg
theorem fracL_len {t b : Int} : (fracL t b).length = 2 := by
  unfold fracL
  split
  · rw [shortL_len] <;> rfl
  · rw [List.length_map, shortL_len] <;> rfl
theorem planeD_some {row pl : List Int} (h : planeL row = some pl) : planeD row = tI pl := by
  unfold planeD
  rw [h]
theorem planeD_none {row : List Int} (h : planeL row = none) : planeD row = .none := by
  unfold planeD
  rw [h]
theorem tame_plane {row : List Int} (hb : BitsL 100 row) (hl : row.length ≤ 5) : Tame (planeD row) := by
  cases h : planeL row with
  | none =>
    rw [planeD_none h]
    exact tam_non.tame (by decide) (by decide)
  | some pl =>
    rw [planeD_some h]
    exact (tam_tI (l := 5) ((planeL_bits h hb).mono (by decide)) (by rw [planeL_len h]; exact hl)).tame (by decide) (by decide)
theorem last_two {α : Type} {xs : List α} {l : α} (h : xs.getLast? = some l) : xs = xs.dropLast ++ [l] := by
  cases xs with
  | nil => cases h
  | cons x xs =>
    rw [List.getLast?_eq_some_getLast (List.cons_ne_nil x xs)] at h
    cases h
    exact (List.dropLast_concat_getLast (List.cons_ne_nil x xs)).symm
theorem short_last {q : List Int} {z : Int} (hq : q.getLast? = some z) (hz : 0 < z) : ∃ g l' : Int, 0 < g ∧ (shortL q).getLast? = some l' ∧ z = g * l' ∧ 0 < l' ∧ ∀ row, dot row q = g * dot row (shortL q) := by
  obtain ⟨g0, e⟩ := shortL_mul q ⟨z, List.mem_of_getLast? hq, by omega⟩
  have hq2 := hq
  rw [e, List.getLast?_map] at hq2
  cases hs : (shortL q).getLast? with
  | none => rw [hs] at hq2; cases hq2
  | some l' =>
    rw [hs] at hq2
    have hz2 : (gcdL q : Int) * l' = z := by simpa using hq2
    have gp : (0 : Int) < gcdL q := by omega
    refine ⟨gcdL q, l', gp, rfl, hz2.symm, ?_, fun row => ?_⟩
    · rcases Int.lt_or_le 0 l' with h | h
      · exact h
      · have := Int.mul_le_mul_of_nonneg_left h (Int.le_of_lt gp)
        omega
    · rw [dot_comm row (shortL q), ← dot_scale, ← e, dot_comm]
theorem sm_putD {H1 H' : Hp} {D : Addr} {kvs kvs' : List (Key × V)} (s : Sm H1 H') (h1 : H1 D = none) (h3 : H' D = some (.dK kvs)) : Sm H1 (upd H' D (.dK kvs')) := by
  have kp : Kp D H' (upd H' D (.dK kvs')) := .put h3
  exact ⟨fun b o e n => by
    rw [upd_ne (fun z => by rw [z, h1] at e; cases e)]
    exact s.ob b o e n, fun P t => kp.tb P (s.tb P t), fun b hb => kp.dm b (s.dm b hb)⟩
theorem js_cons {X : Cx} {a : Addr} {st : Stmt} {sts : List Stmt} {ρ : Rho} {N : Rho → Prop} {T : Addr → Prop} {σ : L2.St} {H : Hp} {D} (h : RunS X a st ρ N (fun _ => False)) (S : SD X.K a T H σ ρ) (k : ∀ σ' H' ρ', Sm H H' → SD X.K a T H' σ' ρ' → N ρ' → JSs X sts D σ' H') : JSs X (st :: sts) D σ H :=
  toSs (pss_cons js jss) (h T σ H { D with nx := fun σ' H' => JSs X sts D σ' H' } S k fun _ _ _ _ _ f => f.elim)
theorem ev {X : Cx} {a : Addr} {e : Expr} {ρ : Rho} {d : PyData} {T : Addr → Prop} {σ : L2.St} {H : Hp} {Q : VK} (h : EvE X a e ρ d) (S : SD X.K a T H σ ρ) (q : ∀ v H2, Sm H H2 → Dp X.K (off T H2) v d → Q v H2) : JE X e σ H Q := h T σ H S Q q
/-- the law's state is made -/
def spB (K : PySem.W.Frag) : Sp := fun vs H Q _ => ∃ T xs, ∃ k : Nat, Din T H ∧ DpAll K (off T H) vs [lI xs, .int (k : Int)] ∧ k ≤ 3 ∧ xs.length ≤ 63 ∧ BitsL 1100000 xs ∧ ∀ p H', H p = none → Sm H H' → MS K (off T H') p 900000000000 → Q (.ref p) H'
def keepBig : PyData → Bool
  | .int x => decide ((10 ^ Int.toNat 18 : Int) ≤ x)
  | _ => false
def valSame : PyData → PyData := fun d => d
theorem kept_big : ∀ xs : List Int, ∃ ys : List Int, kept keepBig valSame (xs.map .int) = ys.map .int
  | [] => ⟨[], rfl⟩
  | x :: xs => by
    obtain ⟨ys, h⟩ := kept_big xs
    unfold kept at h ⊢
    rw [List.map_cons]
    cases hk : keepBig (.int x) with
    | true =>
      refine ⟨x :: ys, ?_⟩
      rw [List.filter_cons_of_pos hk, List.map_cons, h, List.map_cons] <;> rfl
    | false =>
      refine ⟨ys, ?_⟩
      rw [List.filter_cons_of_neg (by rw [hk]; exact Bool.false_ne_true), h]
theorem dps_ints_inv {K : PySem.W.Frag} {H : Hp} : ∀ {ns : List Int} {vs : List V}, DpAll K H vs (ns.map PyData.int) → vs = ns.map V.int
  | [], _, h => by cases h; rfl
  | n :: ns, _, h => by
    cases h with
    | cons h1 h2 => rw [dp_int h1, dps_ints_inv h2] <;> rfl
theorem cut_cells (xs : List Int) (k : Nat) : ∃ ys : List Int, cutD (xs.map .int) (some (k : Int)) none ++ cutD (xs.map .int) none (some (k : Int)) = ys.map .int ∧ ys.length = xs.length ∧ ∀ y ∈ ys, y ∈ xs := by
  refine ⟨xs.drop (min k xs.length) ++ xs.take (min k xs.length), ?_, ?_, fun y hy => ?_⟩
  · unfold cutD
    rw [HT.sIx_nat, HT.sIx_nat, HT.sIx_none, HT.sIx_none, List.length_map, List.map_append, List.map_drop, List.map_take, List.drop_zero, Nat.sub_zero]
    congr 1
    rw [List.take_of_length_le (by simp)]
  · simp
    omega
  · rcases List.mem_append.mp hy with hy | hy
    · exact List.mem_of_mem_drop hy
    · exact List.mem_of_mem_take hy
theorem bitsOf {xs : List Int} {n : Nat} (h : ∀ x ∈ xs, x.natAbs < 2 ^ n) : BitsL n xs := h
theorem small {xs : List Int} (h : xs.all (fun x => decide (x.natAbs < 2 ^ 10)) = true) : BitsL 8000 xs := fun x hx => Bits.mono (m := 10) (of_decide_eq_true (List.all_eq_true.mp h x hx)) (by decide)
theorem small19 {xs : List Int} (h : xs.all (fun x => decide (x.natAbs < 2 ^ 10)) = true) : BitsL 1900 xs := fun x hx => Bits.mono (m := 10) (of_decide_eq_true (List.all_eq_true.mp h x hx)) (by decide)
theorem tm_I {xs : List Int} (h : xs.all (fun x => decide (x.natAbs < 2 ^ 10)) = true) (hl : xs.length ≤ 10) : Tam 10 1 (tI xs) := tam_tI (small19 h) hl
def unh : Option DV → Option DV
  | some .hnd => none
  | x => x
theorem SD_unh {K : PySem.W.Frag} {a b : Addr} {T : Addr → Prop} {H : Hp} {σ : L2.St} {ρ : Rho} (h : SD K a T H σ ρ) : SD K b T H σ (ρ.map unh) := ⟨by rw [List.length_map]; exact h.len, h.dm, fun i x e => by
  rw [List.getElem?_map] at e
  cases hρ : ρ[i]? with
  | none => rw [hρ] at e; cases e
  | some o =>
    rw [hρ] at e
    have e : unh o = some x := by simpa using e
    cases o with
    | none => cases e
    | some z =>
      cases z with
      | hnd => cases e
      | adr p =>
        cases e
        exact h.sl i _ hρ
      | val R =>
        cases e
        exact h.sl i _ hρ
      | dat d =>
        cases e
        exact h.sl i _ hρ⟩
section
variable {X : Cx} {a : Addr} {ρ : Rho} {c e1 e2 : Expr} {body : List Stmt} {pos p pos' : Pos} {n : Nat} {N : Nat → Rho → Prop} {R : Nat → PyData → Prop} {N' : Rho → Prop} {R' : PyData → Prop} {d : PyData}
theorem q_run {X : Cx} {a : Addr} {sts : List Stmt} {ρ : Rho} {n : Nat} {N : Nat → Rho → Prop} {R : Nat → PyData → Prop} {N' : Rho → Prop} {R' : PyData → Prop} (h : Run X a sts ρ N' R') (hn : ∀ ρ', N' ρ' → N n ρ') (hr : ∀ d, R' d → R n d) : RunM X a sts ρ n N R := fun T σ H D S ms kn kr =>
  h T σ H D S (fun σ' H' ρ' s S' e => kn σ' H' ρ' n (.of s) S' (ms.same (off_same s)) (hn _ e)) fun v H' d s p e => kr v H' d n (.of s) (ms.same (off_same s)) p (hr d e)
theorem r_skip (hc : EvT X a c ρ false) (h : N' ρ) : RunS X a (.If c body [] pos) ρ N' R' := rs_if (b := false) hc nofun fun _ => r_nil h
theorem q_skip (hc : EvT X a c ρ false) (h : N n ρ) : RunMS X a (.If c body [] pos) ρ n N R := q_pure (N' := fun ρ' => ρ' = ρ) (R' := fun _ => False) (r_skip hc rfl) (fun ρ' e => by rw [e]; exact h) nofun
theorem t_notlike (C : CalG X.prog X.w X.K X.mg X.base 1 "_law_like" ["told", "due"] (spR X.K R_like)) (hgd : X.A.guards = some []) (hr : Room 1 X.A) (ha : EvA X a [e1, e2] ρ [d, d]) (ht : Tame d) (hg : Gl X "_law_like" := by rfl)
    (he : starEach [e1, e2] X.env = (false, eval e1 X.env) :: starEach [e2] X.env := by exact star_of rfl) (hpl : (backTo pos' (starEach [e2] X.env)).any (·.1) = false := by exact star_no rfl)
    (hit : ∀ whole, isTrue (.Call (.Name "_law_like" p) [e1, e2] [] pos') X.env whole = (do let v ← whole; standAt pos'; holding [v] (truthy v)) := by intro _; rfl) :
    EvT X a (.UnaryOp .Not (.Call (.Name "_law_like" p) [e1, e2] [] pos') pos) ρ false :=
  t_is (t_not (t_val (e_callG C hgd hr ha ⟨d, rfl, ht, rfl⟩ hg (by decide) he hpl) hit)) rfl
end
section
variable {X : Cx} {x : Str} {p pos : Pos} {k : Nat} {sp : Sp}
theorem pe_call0G (C : CalG X.prog X.w X.K X.mg X.base k x [] sp) (hgd : X.A.guards = some []) (hr : Room k X.A) (hg : Gl X x := by rfl) (hdb : (x == ("__debug__" : Str)) = false := by decide)
    (hall : (backToKw pos (keywordEach [] X.env)).all (·.1.isSome) = true := by rfl) (hks : (backToKw pos (keywordEach [] X.env)).filterMap (·.1) = [] := by rfl)
    (hpl : ((backTo pos (starEach [] X.env)).any (·.1) || (backToKw pos (keywordEach [] X.env)).any (·.1.isNone)) = false := by rfl) :
    PE X (.Call (.Name x p) [] [] pos) (fun σ H Q => sp [] H Q E0) := by
  obtain ⟨f, fd, F, hm, hk, hb⟩ := C.ex
  refine ⟨fun pins s σ H Q I h => ?_⟩
  refine wpAny_Call_Name_kw (ld_glob I hg hm ?_ hdb)
  refine PySem.W.callWith_KW0 (h₀ := X.base) I.ok.mod.kin hk hall (thn (pk_nil.run pos pins s σ H (fun vs H1 => vs = [] ∧ H1 = H) I ⟨rfl, rfl⟩) fun us s1 hv => ?_) hpl
  obtain ⟨vs, H1, I1, r1, rfl, rfl⟩ := hv
  cases r1
  refine ⟨I1.kIn, ?_⟩
  rw [hks]
  have hbd := hb s1 [] I1.kIn rfl
  refine wpAny_call (codeAny_mono (F.run X.A X.stack s1 H1 ⟨[], []⟩ [] [] Q E0 hgd hr I1.env0 hbd .nil h) fun r s' hq => ?_)
  cases r with
  | error e => exact hq.elim
  | ok fl =>
    cases fl with
    | ret u => exact I1.after hq
    | next => exact hq.elim
    | brk => exact hq.elim
    | cont => exact hq.elim
theorem e_call0 {a : Addr} {ρ : Rho} {d : PyData} {R : List PyData → PyData → Prop} (C : CalG X.prog X.w X.K X.mg X.base k x [] (spR X.K R)) (hgd : X.A.guards = some []) (hr : Room k X.A) (hR : R [] d) (hg : Gl X x := by rfl) (hdb : (x == ("__debug__" : Str)) = false := by decide)
    (hall : (backToKw pos (keywordEach [] X.env)).all (·.1.isSome) = true := by rfl) (hks : (backToKw pos (keywordEach [] X.env)).filterMap (·.1) = [] := by rfl)
    (hpl : ((backTo pos (starEach [] X.env)).any (·.1) || (backToKw pos (keywordEach [] X.env)).any (·.1.isNone)) = false := by rfl) : EvE X a (.Call (.Name x p) [] [] pos) ρ d := fun T σ H S Q q =>
  toE (pe_call0G C hgd hr hg hdb hall hks hpl) ⟨T, [], d, S.dm, .nil, hR, fun v H2 s2 p2 => q v H2 s2 p2⟩
/-- m = _law_begun(..), and what follows -/
theorem r_begun {a : Addr} {ρ : Rho} {N : Rho → Prop} {R : PyData → Prop} {i : Nat} {y : Str} {pos' ps : Pos} {e : Expr} {es : List Expr} {xs : List Int} {kk : Nat} {sts : List Stmt} (G : Good X) (C : CalG X.prog X.w X.K X.mg X.base k x ["script", "k"] (spB X.K)) (hgd : X.A.guards = some []) (hr : Room k X.A)
    (ha : EvA X a (e :: es) ρ [lI xs, .int (kk : Int)]) (hk : kk ≤ 3) (hl : xs.length ≤ 63) (hb : BitsL 1100000 xs)
    (hrest : ∀ q, RunM X q sts ((ρ.map unh).set i (some .hnd)) 900000000000 (fun _ ρ' => N (ρ'.map unh)) (fun _ d => R d))
    (hi : X.N[i]? = some y := by rfl) (hx : Loc X.env.scope y := by first | exact Or.inl rfl | exact Or.inr rfl)
    (hs : swapsWith (.Call (.Name x p) (e :: es) [] pos) (some (.Name y pos')) ps.line X.env = pure false := by rfl) (hf : X.fn y = true ∨ X.env.scope.names.lookup y = some .local := by first | exact .inl rfl | exact .inr rfl)
    (hg : Gl X x := by rfl) (hdb : (x == ("__debug__" : Str)) = false := by decide) (he : starEach (e :: es) X.env = (false, eval e X.env) :: starEach es X.env := by exact star_of rfl) (hpl : (backTo pos (starEach es X.env)).any (·.1) = false := by exact star_no rfl) :
    Run X a (.Assign [.Name y pos'] (.Call (.Name x p) (e :: es) [] pos) ps :: sts) ρ N R := fun T σ H D S kn kr => by
  refine toSs (pss_cons js jss) (toS (ps_set G.nd hi hx (pe_callG C hgd hr ja hg hdb he hpl) hs hf) (ha T σ H S _ fun vs H1 s1 p1 => ⟨T, xs, kk, S.dm.same s1, p1, hk, hl, hb, fun q H2 hq s2 ms => ?_⟩))
  have S2 : SD X.K q T H2 (σ.set i (some (.ref q))) ((ρ.map unh).set i (some .hnd)) := (SD_unh ((S.same s1).same s2)).put (x := .hnd) rfl
  have key : ∀ {H'}, Kp q H2 H' → Sm H H' := fun {H'} kp => s1.trans ⟨fun b o h1 n => kp.ka.1 b o (fun z => by
      rw [z, hq] at h1
      cases h1) (s2.ob b o h1 n) n, fun P t => kp.tb P (s2.tb P t), fun b h => kp.dm b (s2.dm b h)⟩
  exact hrest q T _ H2 D S2 ms (fun σ' H' ρ' m kp S' _ hN => kn σ' H' _ (key kp) (SD_unh S') hN) fun v H' d m kp _ pd hR => kr v H' d (key kp) pd hR
end
/-- a def of the top, where the name finds it -/
structure Df (K : PySem.W.Frag) (x : Str) (st : Stmt) : Prop where
  ex : ∃ f fd, PySem.W.nsIn K mainGlobals x = some (some (.ref f)) ∧ Fun K x x st f fd
theorem df_mk {K : PySem.W.Frag} {x : Str} {st : Stmt} {f : Addr} {oc : Value} {od an : Option Addr} {osl : Array (Option Value)} {kV doc pm cdv ct : Value} (a : PySem.W.nsIn K mainGlobals x = some (some (.ref f)))
    (l : K.lookup f = some ⟨oc, od, .func (PySem.W.fnOf x x (defArgs st) (defBody st) (defScope st) .none kV doc pm an cdv ct), osl⟩)
    (c : PySem.W.codeIn K cdv x = true) (k : PySem.W.keepIn K (.ref f) = true) : Df K x st := ⟨_, _, a, fun_mk l c k⟩
def Tk (st : Stmt) (x : Str) (ps : List Str) : Prop := ∀ (kV doc pm : Value) (an : Option Addr) (cdv ct : Value) (us : List Value), us.length = ps.length → bindArgs (PySem.W.fnOf x x (defArgs st) (defBody st) (defScope st) .none kV doc pm an cdv ct) ⟨us, []⟩ = pure (ps.zip us)
theorem tk0 {st : Stmt} {x : Str} (e : ∀ (kV doc pm : Value) (an : Option Addr) (cdv ct : Value), bindArgs (PySem.W.fnOf x x (defArgs st) (defBody st) (defScope st) .none kV doc pm an cdv ct) ⟨[], []⟩ = pure []) : Tk st x [] := fun kV doc pm an cdv ct us hl => by
  match us, hl with
  | [], _ => exact e kV doc pm an cdv ct
theorem tk1 {st : Stmt} {x a : Str} (e : ∀ (kV doc pm : Value) (an : Option Addr) (cdv ct u : Value), bindArgs (PySem.W.fnOf x x (defArgs st) (defBody st) (defScope st) .none kV doc pm an cdv ct) ⟨[u], []⟩ = pure [(a, u)]) : Tk st x [a] := fun kV doc pm an cdv ct us hl => by
  match us, hl with
  | [u], _ => exact e kV doc pm an cdv ct u
theorem tk2 {st : Stmt} {x a b : Str} (e : ∀ (kV doc pm : Value) (an : Option Addr) (cdv ct u v : Value), bindArgs (PySem.W.fnOf x x (defArgs st) (defBody st) (defScope st) .none kV doc pm an cdv ct) ⟨[u, v], []⟩ = pure [(a, u), (b, v)]) : Tk st x [a, b] := fun kV doc pm an cdv ct us hl => by
  match us, hl with
  | [u, v], _ => exact e kV doc pm an cdv ct u v
theorem tk3 {st : Stmt} {x a b c : Str} (e : ∀ (kV doc pm : Value) (an : Option Addr) (cdv ct u v z : Value), bindArgs (PySem.W.fnOf x x (defArgs st) (defBody st) (defScope st) .none kV doc pm an cdv ct) ⟨[u, v, z], []⟩ = pure [(a, u), (b, v), (c, z)]) : Tk st x [a, b, c] := fun kV doc pm an cdv ct us hl => by
  match us, hl with
  | [u, v, z], _ => exact e kV doc pm an cdv ct u v z
section
variable {P : Program} {w : World} {K : PySem.W.Frag} {h base : Heap} {mg : Str → Option Value} {k : Nat} {x : Str} {st : Stmt} {ps : List Str} {sp : Sp}
theorem cal_mk (X : K.In h) (G : h.Ns mainGlobals mg) (d : Df K x st) (b : Tk st x ps) (ok : ∀ f fd, Fun K x x st f fd → FnOk P w K mg base CX0 k f fd ps sp) : Cal P w K mg base k x ps sp := by
  obtain ⟨f, fd, a, F⟩ := d.ex
  exact ⟨f, fd, ok f fd F, PySem.W.mg_of X G a, F.kp, F.binds b⟩
theorem calG_mk (X : K.In h) (G : h.Ns mainGlobals mg) (d : Df K x st) (b : Tk st x ps) (ok : ∀ f fd, Fun K x x st f fd → FnG P w K mg base CX0 k f fd ps sp) : CalG P w K mg base k x ps sp := by
  obtain ⟨f, fd, a, F⟩ := d.ex
  exact ⟨f, fd, ok f fd F, PySem.W.mg_of X G a, F.kp, F.binds b⟩
theorem calK_mk (X : K.In h) (G : h.Ns mainGlobals mg) (d : Df K x st) (ok : ∀ f fd, Fun K x x st f fd → FnOk P w K mg base CX0 k f fd ps sp) : CalK P w K mg base k x st ps sp := by
  obtain ⟨f, fd, a, F⟩ := d.ex
  exact ⟨f, fd, F, ok f fd F, PySem.W.mg_of X G a⟩
end
end Zj
/-! A list that grows: it stands out of sight while it does. -/
namespace Zj
open PySem PySem.Spec PyProof.Rows L2
variable [Nm]
theorem op_mulIB {X : Cx} : OpR X (binaryOp .Mult) (fun x y H Q => ∃ (i : Int) (b : Bool), x = .int i ∧ y = .bl b ∧ Q (.int (i * if b = true then 1 else 0)) H) := fun pins s σ H x y v u Q I rx ry h => by
  obtain ⟨i, b, rfl, rfl, q⟩ := h
  obtain ⟨t, rfl⟩ := rx
  cases ry
  exact PySem.IntBool.mul_int_bool ⟨.int _, H, I.tok _, ⟨_, rfl⟩, q⟩
theorem od_mulIB {X : Cx} {i : Int} {b : Bool} : OpD X (binaryOp .Mult) (.int i) (.bool b) (.int (i * if b = true then 1 else 0)) :=
  ⟨_, op_mulIB, fun T v1 v2 H dm p1 p2 Q q => ⟨i, b, dp_int p1, dp_bool p2, q _ H (Sm.refl H) (.int _)⟩⟩
section
variable {K : PySem.W.Frag} {H H' H0 : Hp} {T : Addr → Prop} {p : Addr} {acc acc' : List V}
theorem sm_putL (s : Sm H0 H) (h0 : H0 p = none) (h1 : H p = some (.lst acc)) : Sm H0 (upd H p (.lst acc')) := by
  refine ⟨fun b o e n => ?_, fun P t => ?_, fun b hb => ?_⟩
  · rw [upd_ne (fun z => by rw [z, h0] at e; cases e)]
    exact s.ob b o e n
  · obtain ⟨ps, g1, g2, g3⟩ := s.tb P t
    refine ⟨ps, by rw [upd_ne (fun z => by rw [z, h1] at g1; cases g1)]; exact g1, g2, fun pos cv hc => ?_⟩
    obtain ⟨c, e1, e2⟩ := g3 pos cv hc
    exact ⟨c, e1, by rw [upd_ne (fun z => by rw [z, h1] at e2; unfold LamX.CodeO at e2; cases e2)]; exact e2⟩
  · rw [upd_ne (fun z => hb (by rw [z]; exact h0))]
    exact s.dm b hb
theorem Din.putL (d : Din T H) (h1 : H p = some (.lst acc)) : Din T (upd H p (.lst acc')) := ⟨fun b hb => by
  by_cases e : b = p
  · rw [e, upd_same]
    exact fun z => by cases z
  · rw [upd_ne e]
    exact d.dn b hb, fun P hP => by
    obtain ⟨ps, g1, g2, g3⟩ := d.tb P hP
    refine ⟨ps, by rw [upd_ne (fun z => by rw [z, h1] at g1; cases g1)]; exact g1, g2, fun pos cv hc => ?_⟩
    obtain ⟨c, e1, e2⟩ := g3 pos cv hc
    exact ⟨c, e1, by rw [upd_ne (fun z => by rw [z, h1] at e2; unfold LamX.CodeO at e2; cases e2)]; exact e2⟩⟩
/-- all but what stands at p -/
def hole (p : Addr) (H : Hp) : Hp := fun b => if b = p then none else H b
theorem hole_ne {b : Addr} (h : b ≠ p) : hole p H b = H b := if_neg h
theorem hole_at : hole p H p = none := if_pos rfl
theorem sm_hole1 : Sm (hole p H) H := .of fun b o e => by
  by_cases hb : b = p
  · rw [hb, hole_at] at e
    cases e
  · rw [hole_ne hb] at e
    exact e
theorem sm_hole2 (s : Sm H0 H) (h0 : H0 p = none) (h1 : H p = some (.lst acc)) : Sm H0 (hole p H) := by
  refine ⟨fun b o e n => ?_, fun P t => ?_, fun b hb => ?_⟩
  · rw [hole_ne (fun z => by rw [z, h0] at e; cases e)]
    exact s.ob b o e n
  · obtain ⟨ps, g1, g2, g3⟩ := s.tb P t
    refine ⟨ps, by rw [hole_ne (fun z => by rw [z, h1] at g1; cases g1)]; exact g1, g2, fun pos cv hc => ?_⟩
    obtain ⟨c, e1, e2⟩ := g3 pos cv hc
    exact ⟨c, e1, by rw [hole_ne (fun z => by rw [z, h1] at e2; unfold LamX.CodeO at e2; cases e2)]; exact e2⟩
  · rw [hole_ne (fun z => hb (by rw [z]; exact h0))]
    exact s.dm b hb
/-- out of sight: T, and p -/
abbrev Also (T : Addr → Prop) (p : Addr) : Addr → Prop := fun b => T b ∨ b = p
end
section
variable {X : Cx} {a : Addr} {ρ : Rho} {e l r : Expr} {es : List Expr} {ds fs : List PyData} {d : PyData} {pos pos' p1 p2 : Pos} {i : Nat} {x : Str} {st : Stmt} {sts : List Stmt} {N : Rho → Prop} {R : PyData → Prop} {NL : Rho → List PyData → Prop}
/-- it makes a list of its own -/
def EvF (X : Cx) (a : Addr) (e : Expr) (ρ : Rho) (ds : List PyData) : Prop := ∀ T σ H, SD X.K a T H σ ρ → ∀ Q : VK, (∀ p acc H1, Sm H H1 → H1 p = none → DpAll X.K (off T H1) acc ds → Q (.ref p) (upd H1 p (.lst acc))) → JE X e σ H Q
theorem f_lst (h : EvA X a es ρ ds) (hl : ds.length ≤ 100000 := by first | (simp; done) | decide) : EvF X a (.List es pos) ρ ds := fun T σ H S Q q =>
  toE (pe_lst ja) (h T σ H S _ fun vs H1 s1 q1 => ⟨by rw [dps_len q1]; exact szl hl, fun p hp => q p vs H1 s1 hp q1⟩)
theorem f_cat (h1 : EvE X a l ρ (.list ds)) (h2 : EvE X a r ρ (.list fs)) (hl : ds.length + fs.length ≤ 100000) : EvF X a (.BinOp l .Add r pos) ρ (ds ++ fs) := fun T σ H S Q q =>
  toE (pe_op op_catX je je) (h1 T σ H S _ fun v1 H1 s1 q1 => h2 T σ H1 (S.same s1) _ fun v2 H2 s2 q2 => by
    obtain ⟨pa, xs, rfl, g1, g2⟩ := dpo_lst (dpo s2 q1)
    obtain ⟨pb, ys, rfl, g3, g4⟩ := dpo_lst q2
    exact ⟨pa, pb, xs, ys, rfl, rfl, g1, g3, by rw [dps_len g2, dps_len g4]; exact szl hl, fun p hp => q p _ H2 (s1.trans s2) hp (dps_append g2 g4)⟩)
/-- slot i holds the list that grows -/
abbrev ρp (ρ : Rho) (i : Nat) (p : Addr) : Rho := ρ.set i (some (.adr p))
structure Own (X : Cx) (a : Addr) (i : Nat) (T : Addr → Prop) (p : Addr) (H0 H : Hp) (σ : L2.St) (ρ : Rho) (ds : List PyData) : Prop where
  n0 : H0 p = none
  nT : ¬ T p
  sm : Sm H0 H
  sd : SD X.K a (Also T p) H σ (ρp ρ i p)
  lt : i < ρ.length
  at' : ∃ acc, H p = some (.lst acc) ∧ DpAll X.K (off (Also T p) H) acc ds
def RunL (X : Cx) (a : Addr) (i : Nat) (sts : List Stmt) (ρ : Rho) (ds : List PyData) (N : Rho → Prop) (R : PyData → Prop) : Prop := ∀ T p H0 σ H D, Own X a i T p H0 H σ ρ ds → (∀ σ' H' ρ', Sm H0 H' → SD X.K a T H' σ' ρ' → N ρ' → D.nx σ' H') → (∀ v H' d, Sm H0 H' → Dp X.K (off T H') v d → R d → D.rt v H') → JSs X sts D σ H
def RunLB (X : Cx) (a : Addr) (i : Nat) (sts : List Stmt) (ρ : Rho) (ds : List PyData) (NL : Rho → List PyData → Prop) (R : PyData → Prop) : Prop := ∀ T p H0 σ H D, Own X a i T p H0 H σ ρ ds → (∀ σ' H' ρ' ds', Own X a i T p H0 H' σ' ρ' ds' → NL ρ' ds' → D.nx σ' H') → (∀ v H' d, Sm H0 H' → Dp X.K (off T H') v d → R d → D.rt v H') → JSs X sts D σ H
def RunLS (X : Cx) (a : Addr) (i : Nat) (st : Stmt) (ρ : Rho) (ds : List PyData) (NL : Rho → List PyData → Prop) (R : PyData → Prop) : Prop := ∀ T p H0 σ H D, Own X a i T p H0 H σ ρ ds → (∀ σ' H' ρ' ds', Own X a i T p H0 H' σ' ρ' ds' → NL ρ' ds' → D.nx σ' H') → (∀ v H' d, Sm H0 H' → Dp X.K (off T H') v d → R d → D.rt v H') → JS X st D σ H
theorem l_cons (h : RunLS X a i st ρ ds (fun ρ' ds' => RunL X a i sts ρ' ds' N R) R) : RunL X a i (st :: sts) ρ ds N R := fun T p H0 σ H D O kn kr =>
  toSs (pss_cons js jss) (h T p H0 σ H { D with nx := fun σ' H' => JSs X sts D σ' H' } O (fun σ' H' ρ' ds' O' hN => hN T p H0 σ' H' D O' kn kr) kr)
theorem lb_cons (h : RunLS X a i st ρ ds (fun ρ' ds' => RunLB X a i sts ρ' ds' NL R) R) : RunLB X a i (st :: sts) ρ ds NL R := fun T p H0 σ H D O kn kr =>
  toSs (pss_cons js jss) (h T p H0 σ H { D with nx := fun σ' H' => JSs X sts D σ' H' } O (fun σ' H' ρ' ds' O' hN => hN T p H0 σ' H' D O' kn kr) kr)
theorem lb_nil (h : NL ρ ds) : RunLB X a i [] ρ ds NL R := fun T p H0 σ H D O kn kr => toSs pss_nil (kn σ H ρ ds O h)
theorem lb_one (h : RunLS X a i st ρ ds NL R) : RunLB X a i [st] ρ ds NL R := fun T p H0 σ H D O kn kr => toSs (pss_one js) (h T p H0 σ H D O kn kr)
theorem ρp_self {ρ : Rho} {y : Option DV} {p : Addr} : (ρp ρ i p).set i y = ρ.set i y := List.set_set ..
theorem Own.free {T : Addr → Prop} {p : Addr} {H0 H : Hp} {σ : L2.St} (O : Own X a i T p H0 H σ ρ ds) : SD X.K a T H σ (ρ.set i (some (.dat (.list ds)))) := by
  obtain ⟨acc, h1, h2⟩ := O.at'
  refine ⟨by rw [O.sd.len]; simp, ⟨fun b hb => O.sd.dm.dn b (.inl hb), O.sd.dm.tb⟩, fun j y e => ?_⟩
  by_cases hj : i = j
  · subst hj
    rw [List.getElem?_set_self O.lt] at e
    cases e
    obtain ⟨v, g1, g2⟩ := O.sd.sl i (.adr p) (by rw [List.getElem?_set_self O.lt])
    have g2 : v = .ref p := g2
    subst g2
    exact ⟨_, g1, .lst (.of (by rw [off_no O.nT]; exact h1)) (dps_same off_less h2)⟩
  · rw [List.getElem?_set_ne hj] at e
    obtain ⟨v, g1, g2⟩ := O.sd.sl j y (by rw [List.getElem?_set_ne hj]; exact e)
    refine ⟨v, g1, ?_⟩
    cases y with
    | dat d => exact dp_same off_less g2
    | hnd => exact g2
    | adr _ => exact g2
    | val R => exact VR.same (R := R) off_less g2
theorem l_free (h : Run X a sts (ρ.set i (some (.dat (.list ds)))) N R) : RunL X a i sts ρ ds N R := fun T p H0 σ H D O kn kr =>
  h T σ H D O.free (fun σ' H' ρ' s S' hN => kn σ' H' ρ' (O.sm.trans s) S' hN) fun v H' d s q hR => kr v H' d (O.sm.trans s) q hR
theorem r_new {y : Str} (G : Good X) (h : EvF X a e ρ ds) (hlt : i < ρ.length) (hn : RunL X a i sts ρ ds N R) (hi : X.N[i]? = some y := by rfl) (hx : Loc X.env.scope y := by first | exact Or.inl rfl | exact Or.inr rfl)
    (hs : swapsWith e (some (.Name y pos')) pos.line X.env = pure false := by rfl) (hf : X.fn y = true ∨ X.env.scope.names.lookup y = some .local := by first | exact .inl rfl | exact .inr rfl) : Run X a (.Assign [.Name y pos'] e pos :: sts) ρ N R := fun T σ H D S kn kr =>
  toSs (pss_cons js jss) (toS (ps_set G.nd hi hx je hs hf) (h T σ H S _ fun p acc H1 s1 hp q1 => by
    have S1 := S.same s1
    have n0 : H p = none := by
      cases q : H p with
      | none => rfl
      | some o => exact (s1.dm p (by rw [q]; exact fun z => by cases z) hp).elim
    have e0 : off (Also T p) (upd H1 p (.lst acc)) = off T H1 := off_more hp
    refine hn T p H _ _ D ⟨n0, fun z => S1.dm.dn p z hp, s1.trans (same_new hp), (S1.more hp).put (x := .adr p) rfl, hlt, acc, upd_same, by rw [e0]; exact q1⟩ kn kr))
/-- what leaves the list alone -/
theorem ls_of (h : ∀ p, RunS X a st (ρp ρ i p) (fun ρ1 => ∃ ρ', ρ1 = ρp ρ' i p ∧ i < ρ'.length ∧ NL ρ' ds) R) : RunLS X a i st ρ ds NL R := fun T p H0 σ H D O kn kr => by
  obtain ⟨acc, h1, h2⟩ := O.at'
  refine h p (Also T p) σ H D O.sd (fun σ' H' ρ1 s S' hN => ?_) fun v H' d s q hR => kr v H' d (O.sm.trans s) (dp_same off_less q) hR
  obtain ⟨ρ', rfl, hl, hN⟩ := hN
  exact kn σ' H' ρ' ds ⟨O.n0, O.nT, O.sm.trans s, S', hl, acc, s.ob _ _ h1 (by intro ps z; cases z), dpso s h2⟩ hN
theorem ls_append {y : Str} (h : ∀ p, EvE X a e (ρp ρ i p) d) (hn : NL ρ (ds ++ [d])) (hz : ds.length < 100000) (hi : X.N[i]? = some y := by rfl) (hv : Vis X.env.scope y := by first | exact Or.inl rfl | exact Or.inr (Or.inl rfl) | exact Or.inr (Or.inr rfl)) (hd : (y == ("__debug__" : Str)) = false := by decide) (hcd : (y == ("__classdict__" : Str)) = false := by decide)
    (hbase : attributeBase (.Name y p1) "append" X.env (eval (.Name y p1) X.env) = eval (.Name y p1) X.env := by rfl)
    (hfew : ((backTo pos (starEach [e] X.env)).all (fun x => !x.1) && (backToKw pos (keywordEach [] X.env)).all (fun x => x.1.isSome) && decide ([e].length + ([] : List Keyword).length + (if ([] : List Keyword).isEmpty then 0 else 1) < 30)) = true := by rfl)
    (hline : (p2.endLine == pos.line) = true := by rfl) (hst : starEach [e] X.env = (false, eval e X.env) :: starEach [] X.env := by exact star_of rfl) (hsw : swapsWith (.Call (.Attribute (.Name y p1) "append" p2) [e] [] pos) none pos'.line X.env = pure false := by rfl) :
    RunLS X a i (.Expr (.Call (.Attribute (.Name y p1) "append" p2) [e] [] pos) pos') ρ ds NL R := fun T p H0 σ H D O kn kr => by
  obtain ⟨acc, h1, h2⟩ := O.at'
  obtain ⟨v, g1, g2⟩ := O.sd.sl i (.adr p) (by rw [List.getElem?_set_self O.lt])
  have g2 : v = .ref p := g2
  subst g2
  refine toS (ps_expr (pe_bm PySem.F.plainAttrs_list PySem.F.slot_list_append PySem.F.type_list_append mt_append (pe_var hi hv hd hcd) (pa_cons je pa_nil hst) hbase hfew hline hst rfl) hsw) ⟨.ref p, g1, ?_, ?_⟩
  · exact .inl ⟨rfl, acc, .of h1⟩
  refine h p (Also T p) σ H O.sd _ fun y' H2 s2 q2 => ?_
  have a2 : H2 p = some (.lst acc) := s2.ob _ _ h1 (by intro ps z; cases z)
  refine ⟨p, acc, y', rfl, rfl, a2, Nat.lt_of_lt_of_le (by rw [dps_len h2]; exact hz) (szl (n := 100000) (Nat.le_refl _)), ?_⟩
  have S2 := O.sd.same s2
  have eo : off (Also T p) (upd H2 p (.lst (acc ++ [y']))) = off (Also T p) H2 := off_put (.inr rfl)
  refine kn σ _ ρ (ds ++ [d]) ⟨O.n0, O.nT, sm_putL (O.sm.trans s2) O.n0 a2, ⟨S2.len, S2.dm.putL a2, fun j z e => ?_⟩, O.lt, acc ++ [y'], upd_same, by rw [eo]; exact dps_snoc (dpso s2 h2) q2⟩ hn
  rw [eo]
  exact S2.sl j z e
theorem ls_if {c : Expr} {b : Bool} {body orelse : List Stmt} (hc : ∀ p, EvT X a c (ρp ρ i p) b) (h1 : b = true → RunLB X a i body ρ ds NL R) (h2 : b = false → RunLB X a i orelse ρ ds NL R) : RunLS X a i (.If c body orelse pos) ρ ds NL R := fun T p H0 σ H D O kn kr => by
  obtain ⟨acc, g1, g2⟩ := O.at'
  refine toS (ps_if jt jss jss) (hc p (Also T p) σ H O.sd _ fun H1 s1 => ?_)
  have O1 : Own X a i T p H0 H1 σ ρ ds := ⟨O.n0, O.nT, O.sm.trans s1, O.sd.same s1, O.lt, acc, s1.ob _ _ g1 (by intro ps z; cases z), dpso s1 g2⟩
  cases b with
  | true => exact iteT (h1 rfl T p H0 σ H1 D O1 kn kr)
  | false => exact iteF (h2 rfl T p H0 σ H1 D O1 kn kr)
theorem ls_for {tg it : Expr} {items : List PyData} {g : TG} {vs : List Nat} {f : PyData → Rho → Option Rho} {body : List Stmt} (G : Good X) (hs : ∀ p, Src X a tg it (ρp ρ i p) items) (hg : PG X tg g) (ht : TgSem X.K a g vs f) (J : Nat → Rho → List PyData → Prop) (h0 : J 0 ρ ds)
    (hb : ∀ n d ρ1 ds1, items[n]? = some d → J n ρ1 ds1 → i < ρ1.length → ∃ ρ2, (∀ p, f d (ρp ρ1 i p) = some (ρp ρ2 i p)) ∧ i < ρ2.length ∧ RunLB X a i body ρ2 ds1 (fun ρ' ds' => J (n + 1) ρ' ds') R) (hd : ∀ ρ' ds', J items.length ρ' ds' → NL ρ' ds')
    (hf : ∀ x, foldedSetIterable it X.env x = pure x := by intro _; rfl) : RunLS X a i (.For tg it body [] pos) ρ ds NL R := fun T p H0 σ H D O kn kr => by
  obtain ⟨acc0, a1, a2⟩ := O.at'
  obtain ⟨wi, hw, hq⟩ := hs p
  refine toS (ps_for G.ow G.calm hw hg jss hf) (hq (Also T p) σ H O.sd _ fun Ji H1 Gd Y s1 w hG hY => ?_)
  have O1 : Own X a i T p H0 H1 σ ρ ds := ⟨O.n0, O.nT, O.sm.trans s1, O.sd.same s1, O.lt, acc0, s1.ob _ _ a1 (by intro ps z; cases z), dpso s1 a2⟩
  have sees : ∀ {H'}, (∀ b o, b ≠ p → H1 b = some o → (∀ ps, o ≠ .tbl ps) → H' b = some o) → Din (Also T p) H' → Sees (Also T p) H1 (Also T p) H' := fun {H'} k dm => ⟨dm, fun b o e n => by
    obtain ⟨e1, e2⟩ := off_some e
    rw [off_no e2]
    exact k b o (fun z => e2 (.inr z)) e1 n⟩
  refine for_it w (fun n σ' H' => (∀ b o, b ≠ p → H1 b = some o → (∀ ps, o ≠ .tbl ps) → H' b = some o) ∧ ∃ ρ' ds', Own X a i T p H0 H' σ' ρ' ds' ∧ J n ρ' ds') ⟨fun b o _ e _ => e, ρ, ds, O1, h0⟩
    (fun n σ' H' _ hp => hG _ H' (by obtain ⟨k, _, _, O', _⟩ := hp; exact sees k O'.sd.dm)) (fun n x σ' H' H'' hi hp y => ?_) fun σ' H' hp => ?_
  · obtain ⟨k, ρ1, ds1, O', hj⟩ := hp
    obtain ⟨s3, d, hdi, pd⟩ := hY _ n H' x H'' hi (sees k O'.sd.dm) y
    obtain ⟨ρ2, e2, hl2, hrun⟩ := hb n d ρ1 ds1 hdi hj O'.lt
    obtain ⟨acc, b1, b2⟩ := O'.at'
    have c1 : H'' p = some (.lst acc) := s3.ob _ _ b1 (by intro ps z; cases z)
    refine ht (Also T p) σ' H'' x d _ _ (O'.sd.same s3) pd (e2 p) _ fun σ2 S2 _ => ?_
    refine hrun T p (hole p H'') σ2 H'' _ ⟨hole_at, O.nT, sm_hole1, S2, hl2, acc, c1, dpso s3 b2⟩ (fun σ3 H3 ρ3 ds3 O3 j3 => ?_) fun v H3 d' s4 q4 hR => kr v H3 d' ((sm_hole2 (O'.sm.trans s3) O.n0 c1).trans s4) q4 hR
    refine ⟨fun b o hb e n => O3.sm.ob b o (by rw [hole_ne hb]; exact s3.ob b o (k b o hb e n) n) n, ρ3, ds3, ⟨O.n0, O.nT, (sm_hole2 (O'.sm.trans s3) O.n0 c1).trans O3.sm, O3.sd, O3.lt, O3.at'⟩, j3⟩
  · obtain ⟨k, ρ1, ds1, O', hj⟩ := hp
    exact kn σ' H' ρ1 ds1 O' (hd ρ1 ds1 hj)
end
end Zj
namespace Zj
open PySem PySem.Spec PyProof.Rows L2
variable [Nm]
/-- the name that a lambda of the def x bears -/
def lq (x : Str) : Str := (envOfC x { kind := .function, names := [], isGenerator := false, isCoroutine := false } 0 0 .none).qual ++ "<lambda>"
/-- the table of a def with lambdas -/
structure Lmb (base : Heap) (mg : Str → Option Value) (fd : FuncData) (x : Str) : Prop where
  ex : ∃ c P, fd.code = .ref c ∧ LamX.TabB base mg c P ∧ P ∈ Nm.tabs ∧ Nm.nm P = lq x
section
variable {X : Cx} {a : Addr} {ρ : Rho} {scope : Scope} {o : Out} {f : Str} {ps : List Str} {R : List PyData → Out → Prop} {ds : List PyData} {e : Expr} {es : List Expr} {p pos : Pos} {kk : Nat} {kws : List Keyword} {ks : List Str} {st : Stmt}
theorem lam_call (C : CalX X.prog X.w X.K X.mg X.base kk f ps (spX X.K X.mg R)) (hR : R ds o) (ha : ∀ A outer s H E f' c', EvA (lamX X A outer s H E scope f' c') a (e :: es) ρ ds) (hg : ∀ A outer s H E f' c', Gl (lamX X A outer s H E scope f' c') f := by intros; rfl) (hdb : (f == ("__debug__" : Str)) = false := by decide)
    (he : ∀ env : Env, starEach (e :: es) env = (false, eval e env) :: starEach es env := by exact fun _ => star_of rfl) (hpl : ∀ env : Env, (backTo pos (starEach es env)).any (·.1) = false := by exact fun _ => star_no rfl) : LamO X a ρ scope (.Call (.Name f p) (e :: es) [] pos) kk o := fun A outer s H E f' c' hgd hr => by
  cases o with
  | ok d => exact e_callX (X := lamX X A outer s H E scope f' c') C hr (ha A outer s H E f' c') hR (hg A outer s H E f' c') hdb (he _) (hpl _)
  | ex x => exact x_call (X := lamX X A outer s H E scope f' c') C hr (ha A outer s H E f' c') hR (hg A outer s H E f' c') hdb (he _) (hpl _)
theorem lam_callK (fl : Bool) (hne : ps ≠ []) (C : CalXK X.prog X.w X.K X.mg X.base kk f st ps (spX X.K X.mg R)) (hR : R (turn2 fl ds) o) (ha : ∀ A outer s H E f' c', EvK (lamX X A outer s H E scope f' c') a kws ρ ds)
    (hb : ∀ (kV doc pm : Value) (an : Option Addr) (cdv ct : Value) (ws : List Value), ws.length = ps.length → bindArgs (PySem.W.fnOf f f (defArgs st) (defBody st) (defScope st) .none kV doc pm an cdv ct) ⟨[], ks.zip ws⟩ = pure (ps.zip (turn2 fl ws)))
    (hg : ∀ A outer s H E f' c', Gl (lamX X A outer s H E scope f' c') f := by intros; rfl) (hall : ∀ env : Env, (backToKw pos (keywordEach kws env)).all (·.1.isSome) = true := by intros; rfl) (hks : ∀ env : Env, (backToKw pos (keywordEach kws env)).filterMap (·.1) = ks := by intros; rfl)
    (hdb : (f == ("__debug__" : Str)) = false := by decide) (hpl : ∀ env : Env, ((backTo pos (starEach [] env)).any (·.1) || (backToKw pos (keywordEach kws env)).any (·.1.isNone)) = false := by intros; rfl) :
    LamO X a ρ scope (.Call (.Name f p) [] kws pos) kk o := fun A outer s H E f' c' hgd hr => by
  cases o with
  | ok d => exact e_callXK (X := lamX X A outer s H E scope f' c') fl hne C hr (ha A outer s H E f' c') hR hb (hg A outer s H E f' c') (hall _) (hks _) hdb (hpl _)
  | ex x => exact x_callK (X := lamX X A outer s H E scope f' c') fl hne C hr (ha A outer s H E f' c') hR hb (hg A outer s H E f' c') (hall _) (hks _) hdb (hpl _)
theorem src_ZL {e2 : Expr} {elts : List Expr} {kc : Nat} {tpos : Pos} {ds2 : List PyData} (h : EvA X a [e, e2] ρ [.list ds, .list ds2]) (hm : X.mg "zip" = none) (hg : Gl X "zip" := by rfl)
    (hs : starEach [e, e2] X.env = (false, eval e X.env) :: starEach [e2] X.env := by exact star_of rfl) (hpl : (backTo pos (starEach [e2] X.env)).any (·.1) = false := by exact star_no rfl) :
    Src X a (.Tuple elts kc tpos) (.Call (.Name "zip" p) [e, e2] [] pos) ρ (List.zipWith (fun x y => PyData.tuple [x, y]) ds ds2) := ⟨_, RZ.pi_zipA hg hm ja hs hpl, fun T σ H S Rr kr => h T σ H S _ fun vs H1 s1 p1 => by
  obtain ⟨v, v2, rfl, q, q2⟩ := dps2 p1
  obtain ⟨pa, xs, rfl, g1, g2⟩ := dp_lst q
  obtain ⟨pb, ys, rfl, g3, g4⟩ := dp_lst q2
  have hl := dps_len g2
  have hl2 := dps_len g4
  refine ⟨pa, pb, xs, ys, rfl, .inl ⟨same_l off_in _ _ g1, same_l off_in _ _ g3, kr _ H1 _ _ s1 (walk_zip (xs := xs) (ys := ys) (by rw [List.length_zipWith, hl, hl2])) (fun T' H' s => ⟨same_l off_in _ _ (same_l s.2 _ _ g1), same_l off_in _ _ (same_l s.2 _ _ g3)⟩) fun T' i H' x H'' hin s y => ?_⟩⟩
  obtain ⟨T0, y1, y2, rfl, hT, rfl, e1, e2⟩ := y
  have e1 : xs[i]? = some y1 := e1
  have e2 : ys[i]? = some y2 := e2
  obtain ⟨d, hd⟩ : ∃ d, ds[i]? = some d := by
    have := (List.getElem?_eq_some_iff.mp e1).1
    exact ⟨ds[i]'(by omega), by simp⟩
  obtain ⟨d2, hd2⟩ : ∃ d, ds2[i]? = some d := by
    have := (List.getElem?_eq_some_iff.mp e2).1
    exact ⟨ds2[i]'(by omega), by simp⟩
  obtain ⟨v, hv, pv⟩ := dps_get g2 hd
  rw [e1] at hv
  cases hv
  obtain ⟨v2, hv2, pv2⟩ := dps_get g4 hd2
  rw [e2] at hv2
  cases hv2
  exact ⟨same_new hT, _, by rw [List.getElem?_zipWith, hd, hd2], dpo_pair s.1 hT (dp_same s.2 pv) (dp_same s.2 pv2)⟩⟩
theorem od_catA {es fs : List PyData} (hl : es.length + fs.length ≤ 100000) : OpD X (binaryOp .Add) (.tuple es) (.tuple fs) (.tuple (es ++ fs)) :=
  ⟨_, op_catA, fun T v1 v2 H dm q1 q2 Q q => by
    obtain ⟨pa, xs, rfl, g1, g2⟩ := dpo_tup q1
    obtain ⟨pb, ys, rfl, g3, g4⟩ := dpo_tup q2
    have l1 := dps_len g2
    have l2 := dps_len g4
    refine ⟨pa, pb, xs, ys, rfl, rfl, g1, g3, by rw [l1, l2]; exact szl hl, fun z => ?_, fun z1 z2 => ?_, fun z1 z2 r hr => q _ _ (same_new hr) (dpo_newT dm hr (dps_append g2 g4))⟩
    · rw [z] at l1
      rw [List.eq_nil_of_length_eq_zero l1.symm] at q
      exact q _ H (Sm.refl H) q2
    · rw [z2] at l2
      rw [List.eq_nil_of_length_eq_zero l2.symm, List.append_nil] at q
      exact q _ H (Sm.refl H) q1⟩
theorem e_slA {eo : Expr} {lo hi : Option Expr} {xl xh : Option Int} {pp : Pos} (h1 : EvE X a eo ρ (.tuple ds)) (h2 : EvO X a lo ρ xl) (h3 : EvO X a hi ρ xh) : EvE X a (.Subscript eo (.Slice lo hi none pp) pos) ρ (.tuple (cutD ds xl xh)) := fun T σ H S Q q => by
  obtain ⟨tl, g2, k2⟩ := h2
  obtain ⟨th, g3, k3⟩ := h3
  refine toE (pe_slice sl_tupA je g2 g3) (h1 T σ H S _ fun v1 H1 s1 q1 => k2 T σ H1 (S.same s1) _ fun H2 s2 => k3 T σ H2 (S.same (s1.trans s2)) _ fun H3 s3 => ?_)
  have q3 := dpo (s2.trans s3) q1
  obtain ⟨pa, xs, rfl, g4, g5⟩ := dpo_tup q3
  have hl := dps_len g5
  refine ⟨pa, xs, rfl, g4, fun z => ?_, fun _ p' hp => q _ _ (((s1.trans s2).trans s3).trans (same_new hp)) (dpo_newT (S.dm.same ((s1.trans s2).trans s3)) hp (cut_dps g5 xl xh))⟩
  have e : cutD ds xl xh = ds := by
    unfold cutD
    rw [← hl, z.1, z.2, List.drop_zero, Nat.sub_zero, hl, List.take_length]
  rw [e] at q
  exact q _ _ ((s1.trans s2).trans s3) q3
end
end Zj
namespace Zj
open PySem PySem.Spec PyProof.Rows L2
variable [Nm]
section
variable {X : Cx} {a : Addr} {ρ : Rho} {m i : Nat} {b : Int} {e : Expr} {p pm pos : Pos} {y : Str}
/-- a number from 0 to b - 1 is drawn -/
theorem m_draw (C : CalG X.prog X.w X.K X.mg X.base 1 "_law_draw" ["m", "bound"] (spM X.K 1 R_draw)) (hgd : X.A.guards = some []) (hr : Room 1 X.A) (hi : ρ[i]? = some (some .hnd)) (he : EvE X a e ρ (.int b)) (h0 : 0 < b) (hb : b < 2 ^ 60)
    (hN : X.N[i]? = some y := by rfl) (hv : Vis X.env.scope y := by first | exact Or.inl rfl | exact Or.inr (Or.inl rfl) | exact Or.inr (Or.inr rfl)) (hd : (y == ("__debug__" : Str)) = false := by decide) (hcd : (y == ("__classdict__" : Str)) = false := by decide)
    (hs : starEach [.Name y pm, e] X.env = (false, eval (.Name y pm) X.env) :: starEach [e] X.env := by exact star_of rfl) (hs2 : starEach [e] X.env = (false, eval e X.env) :: starEach [] X.env := by exact star_of rfl) (hg : Gl X "_law_draw" := by rfl) (hpl : (backTo pos (starEach [e] X.env)).any (·.1) = false := by exact star_no rfl) :
    EvM X a (.Call (.Name "_law_draw" p) [.Name y pm, e] [] pos) ρ (m + 1) m (fun d => ∃ r : Int, d = .int r ∧ 0 ≤ r ∧ r < b) :=
  m_call C hgd hr hi (a_cons he a_nil hs2) ⟨b, rfl, h0, bits_small (by omega) hb, fun r r0 r1 => ⟨r, rfl, r0, r1⟩⟩ (Nat.le_refl _) hN hv hd hcd hs hg (by decide) hpl
end
end Zj
/-! Written data. -/
namespace Zj
open PySem PySem.Spec PyProof.Rows L2
mutual
/-- whether an expression of constants is the data -/
def isC : Expr → PyData → Bool
  | .Constant (.int i) _ _, .int j => decide (i = j)
  | .Constant (.bool b) _ _, .bool c => b == c
  | .Constant (.str s) _ _, .str t => decide (s = t)
  | .Constant .none _ _, .none => true
  | .UnaryOp .USub (.Constant (.int i) _ _) _, .int j => decide (-i = j)
  | .Tuple es _ _, .tuple ds => decide (ds.length ≤ 100000) && isCs es ds
  | .List es _, .list ds => decide (ds.length ≤ 100000) && isCs es ds
  | _, _ => false
def isCs : List Expr → List PyData → Bool
  | [], [] => true
  | e :: es, d :: ds => notStar e && (isC e d && isCs es ds)
  | _, _ => false
end
variable [Nm]
mutual
theorem e_const {X : Cx} {a : Addr} {ρ : Rho} (e : Expr) (d : PyData) (h : isC e d = true) : EvE X a e ρ d := by
  unfold isC at h
  split at h
  · obtain rfl := of_decide_eq_true h
    exact e_int
  · obtain rfl := eq_of_beq h
    exact e_bl
  · obtain rfl := of_decide_eq_true h
    exact e_str
  · exact e_non
  · obtain rfl := of_decide_eq_true h
    exact e_neg e_int
  · rw [Bool.and_eq_true] at h
    exact e_tup (a_const _ _ h.2) (of_decide_eq_true h.1)
  · rw [Bool.and_eq_true] at h
    exact e_lst (a_const _ _ h.2) (of_decide_eq_true h.1)
  · cases h
termination_by sizeOf e
theorem a_const {X : Cx} {a : Addr} {ρ : Rho} (es : List Expr) (ds : List PyData) (h : isCs es ds = true) : EvA X a es ρ ds := by
  unfold isCs at h
  split at h
  · exact a_nil
  · rw [Bool.and_eq_true, Bool.and_eq_true] at h
    exact a_cons (e_const _ _ h.2.1) (a_const _ _ h.2.2) (star_of h.1)
  · cases h
termination_by sizeOf es
end
theorem e_c {X : Cx} {a : Addr} {ρ : Rho} {e : Expr} {d : PyData} (h : isC e d = true) : EvE X a e ρ d := e_const e d h
theorem a_c {X : Cx} {a : Addr} {ρ : Rho} {es : List Expr} {ds : List PyData} (h : isCs es ds = true) : EvA X a es ρ ds := a_const es ds h
end Zj
namespace Zj
open PySem PySem.Spec PyProof.Rows L2
variable [Nm]
section
variable {X : Cx} {a : Addr} {ρ : Rho} {n m k lv : Nat} {e f : Expr} {es rest : List Expr} {pos p : Pos} {PB : Bool → Prop} {P : PyData → Prop} {x : Str} {ps : List Str}
theorem mt_andT (h : EvT X a e ρ true) (h2 : EvMT X a (.BoolOp .And (f :: rest) pos) ρ n k PB) : EvMT X a (.BoolOp .And (e :: f :: rest) pos) ρ n k PB := fun T σ H S ms Q q =>
  toT (PW.pt (pw_and jt pw_self)) (h T σ H S _ fun H1 s1 => iteT (h2 T σ H1 (S.same s1) (ms.same (off_same s1)) _ fun b H2 s2 ms2 hb => q b H2 ((Kp.of s1).trans s2) ms2 hb))
theorem mt_and1 (h : EvMT X a e ρ n m PB) : EvMT X a (.BoolOp .And [e] pos) ρ n m PB := fun T σ H S ms Q q => toT (PW.pt (pw_and1 jt)) (h T σ H S ms Q q)
/-- a def that keeps all and asks for texts, of what was drawn -/
theorem m_callRG {R : List PyData → PyData → Prop} {PA : List PyData → Prop} (C : CalG X.prog X.w X.K X.mg X.base lv x ps (spR X.K R)) (hgd : X.A.guards = some []) (hr : Room lv X.A) (ha : EvMA X a (e :: es) ρ n m PA) (hR : ∀ ds, PA ds → ∃ d, R ds d ∧ P d)
    (hg : Gl X x := by rfl) (hdb : (x == ("__debug__" : Str)) = false := by decide) (he : starEach (e :: es) X.env = (false, eval e X.env) :: starEach es X.env := by exact star_of rfl) (hpl : (backTo pos (starEach es X.env)).any (·.1) = false := by exact star_no rfl) :
    EvM X a (.Call (.Name x p) (e :: es) [] pos) ρ n m P := fun T σ H S ms Q q =>
  toE (pe_callG C hgd hr ja hg hdb he hpl) (ha T σ H S ms _ fun vs ds H1 s1 ms1 p1 hp => by
    obtain ⟨d, h1, h2⟩ := hR ds hp
    exact ⟨T, ds, d, (S.kpo s1 ms).dm, p1, h1, fun v H2 s2 p2 => q v d H2 (s1.trans (.of s2)) (ms1.same (off_same s2)) p2 h2⟩)
end
end Zj
/-! The law's own call, at the top, where tables of code objects are filled. -/
namespace Zj
open PySem PySem.Spec PyProof.Rows L2
section
variable {P : Program} {w : World} {K : PySem.W.Frag} {mg mb : Str → Option Value} {k : Nat} {fa a : Addr} {fd : FuncData} {x : Str} {sp : Sp} {s1 : Shared} {vs : List Value} {ns : List Int} {cs : List (Addr × Addr)}
theorem tab_empty {H : Hp} {Pt : Addr} {q : Str} (h : H Pt = some (.tbl #[])) : LamX.TabS H Pt q := ⟨#[], h, trivial, fun pos cv hc => by cases hc⟩
/-- from an abstract heap that tracks the script or nothing, and the tables -/
theorem law_coreT (KX : K.In s1.heap) (hns : s1.heap.Ns mainGlobals mg) (hb : s1.heap.Ns builtinsNs mb) (hbb : ∀ x : Str, x ≠ "__name__" → mb x = bootBuiltins x) (hlim : s1.heap.NoLimit) (hg : s1.gens = #[])
    (hT : ∀ p ∈ cs, s1.heap.get? p.2 = some { cls := .none, data := .fields #[] }) (nT : ∀ p ∈ cs, K.lookup p.2 = none) (hC : ∀ p ∈ cs, PySem.W.CodeHd s1.heap p.1 p.2)
    (hbm : ∃ (bm : Addr) (ob : Obj), mg "__builtins__" = some (.ref bm) ∧ bm ≠ builtinsNs ∧ s1.heap.get? bm = some ob ∧ ob.cls = .type "module" ∧ ob.dict = some builtinsNs ∧ ob.data = .plain)
    (ha : s1.heap.get? a = some { cls := .type "list", data := .seq vs.toArray }) (hr : Room k callerA)
    (F : ∀ base : Heap, K.In base → base.Ns mainGlobals mg → (∀ p ∈ cs, LamX.TabB base mg p.1 p.2) → FnG P w K mg base CX0 k fa fd [x] sp) (hbind : ∀ (s : Shared) (u : Value), BindsTo s fd ⟨[u], []⟩ [(x, u)])
    {H : Hp} (hH : ∀ p ∈ cs, H p.2 = some (.tbl #[])) (hO : ∀ b, H b = none ∨ (∃ p ∈ cs, p.2 = b) ∨ ∃ o xs, H b = some (.frz o (.lst xs))) (hok : HOk P w H s1.heap) (hA : ∀ b, H b ≠ none → b = a ∨ ∃ p ∈ cs, p.2 = b) (hK : H a ≠ none → K.lookup a = none)
    (hsp : sp [.ref a] H (fun v _ => v = .bl true) fun _ _ _ => False) :
    codeAny (model P w) callerA (.call (.ref fa) ⟨[.ref a], []⟩) (fun r s' => r = .ok (.ret (.bool true)) ∧ OldK s1.heap s'.heap ∧ s'.os = s1.os ∧ AllBare s'.gens) s1 := by
  have only : ∀ {b : Addr} {o : Obj}, s1.heap.get? b = some o → (∀ vs n, o.data ≠ .seq vs n) → o.data ≠ .fields #[] → H b = none := fun {b o} e d1 d2 => by
    cases q : H b with
    | none => rfl
    | some u =>
      rcases hA b (by rw [q]; exact fun z => by cases z) with e' | ⟨p, hp, e'⟩
      · rw [e', ha] at e
        cases e
        exact (d1 _ _ rfl).elim
      · rw [← e', hT p hp] at e
        cases e
        exact (d2 rfl).elim
  have ns' : ∀ {b : Addr} {m : Str → Option Value}, s1.heap.Ns b m → (hidT s1.heap H).Ns b m := fun {b m} ⟨o, es, ep, e, d, r⟩ =>
    ⟨o, es, ep, hidT_get e (only e (fun vs n z => by rw [d] at z; cases z) fun z => by rw [d] at z; cases z), d, r⟩
  have kin : K.In (hidT s1.heap H) := fun b o e => by
    refine hidT_get (KX b o e) ?_
    cases q : H b with
    | none => rfl
    | some u =>
      rcases hA b (by rw [q]; exact fun z => by cases z) with e' | ⟨p, hp, e'⟩
      · subst e'
        rw [hK (by rw [q]; exact fun z => by cases z)] at e
        cases e
      · rw [← e', nT p hp] at e
        cases e
  have tb : ∀ p ∈ cs, LamX.TabB (hidT s1.heap H) mg p.1 p.2 := fun p hp => by
    have tp := hT p hp
    have gl : mainGlobals ≠ p.2 := fun z => by
      obtain ⟨o, es, ep, e, d, _⟩ := hns
      rw [z, tp] at e
      cases e
      cases d
    refine ⟨?_, ?_, gl⟩
    · obtain ⟨o, us, file, tf, flags, tg, inF, text, tt, c1, c2, c3, c4, c5⟩ := hC p hp
      refine ⟨o, us, file, tf, flags, tg, inF, text, tt, hidT_get c1 (only c1 (fun vs n z => by rw [c3] at z; cases z) fun z => ?_), c2, c3, c4, c5⟩
      rw [c3] at z
      cases z
      simp at c4
    · obtain ⟨bm, ob, b1, b2, b3, b4, b5, b6⟩ := hbm
      refine ⟨bm, ob, b1, b2, fun z => ?_, fun z => ?_, hidT_get b3 (only b3 (fun vs n z => by rw [b6] at z; cases z) fun z => by rw [b6] at z; cases z), b4, b5, b6⟩
      · obtain ⟨o, es, ep, e, d, _⟩ := hns
        rw [z, e] at b3
        cases b3
        rw [d] at b6
        cases b6
      · rw [z, tp] at b3
        cases b3
        cases b6
  obtain ⟨mc, lim1, lim2⟩ := hlim
  have md : L2.Mod K mg (hidT s1.heap H) := ⟨kin, ns' hns, ⟨mb, ns' hb, hbb⟩, ⟨mc, ns' lim1, lim2⟩⟩
  have e0 : Env0 P w K mg (hidT s1.heap H) callerA [] s1 H := {
    frames := rfl
    mod := md
    bs := fun b o e => of_hidT e
    bsz := Nat.le_of_eq (hidT_size _ _)
    funs := trivial
    frf := fun b z => by cases z
    hok := hok
    bare := .of_eq hg }
  have run := (F _ kin (ns' hns) tb).run callerA [] s1 H ⟨[.ref a], []⟩ [.ref a] [.ref a] _ _ rfl hr e0 (hbind s1 (.ref a)) (.cons rfl .nil) hsp
  refine codeAny_mono run fun r s' h => ?_
  match r, h with
  | .error e, h => exact h.elim
  | .ok .next, h => exact h.elim
  | .ok .brk, h => exact h.elim
  | .ok .cont, h => exact h.elim
  | .ok (.ret u), h =>
    obtain ⟨v, H', os, bare, un, hok', r', q⟩ := h
    cases q
    cases r'
    have stay : ∀ b o, (¬ ∃ p ∈ cs, p.2 = b) → s1.heap.get? b = some o → s'.heap.get? b = some o := fun b o nb e => by
      rcases hO b with z | z | ⟨ob, xs, z⟩
      · exact un.keep b o e z (fun y => by cases y) (fun y => by cases y)
      · exact absurd z nb
      · have g1 := (hok b _ z).1
        have g2 := (hok' b _ (un.frzs b ob _ z)).1
        rw [e] at g1
        cases g1
        exact g2
    have grew : ∀ p ∈ cs, ∃ more : Array Value, s'.heap.get? p.2 = some { cls := .none, data := .fields more } := fun p hp => by
      obtain ⟨more, z⟩ := un.tbls p.2 #[] (hH p hp)
      exact ⟨_, hok' p.2 _ z⟩
    refine ⟨rfl, ⟨fun b o e => ?_, fun b o e => ?_⟩, os, bare⟩
    · by_cases hb' : ∃ p ∈ cs, p.2 = b
      · obtain ⟨p, hp, ep⟩ := hb'
        obtain ⟨more, hm⟩ := grew p hp
        subst ep
        rw [hT p hp] at e
        cases e
        exact .inr (.inl ⟨((hC p hp).tab (hT p hp)).isCodeTable, rfl, #[], more, rfl, by rw [Array.empty_append]; exact hm⟩)
      · exact .inl (stay b o hb' e)
    · by_cases hb' : ∃ p ∈ cs, p.2 = b
      · obtain ⟨p, hp, ep⟩ := hb'
        obtain ⟨more, hm⟩ := grew p hp
        subst ep
        exact ⟨_, hm⟩
      · exact ⟨o, stay b o hb' e⟩
/-- what is known of the law's promise at the head's heap h -/
structure LawG (P : Program) (w : World) (K : PySem.W.Frag) (k n : Nat) (x : Str) (mg : Str → Option Value) (fa : Addr) (h : Heap) (fd : FuncData) (cs : List (Addr × Addr)) (sp : Sp) : Prop where
  hT : ∀ p ∈ cs, h.get? p.2 = some { cls := .none, data := .fields #[] }
  nT : ∀ p ∈ cs, K.lookup p.2 = none
  hC : ∀ p ∈ cs, PySem.W.CodeHd h p.1 p.2
  hb : ∀ (s : Shared) (u : Value), BindsTo s fd ⟨[u], []⟩ [(x, u)]
  hsp : ∀ (H : Hp) (a : Addr) (ns : List Int), ns.length ≤ n → (∀ z ∈ ns, Builtin.Int.intBits z ≤ 1048576) → (∀ p ∈ cs, H p.2 = some (.tbl #[])) → SqL K H a (ns.map V.int) → sp [.ref a] H (fun v _ => v = .bl true) fun _ _ _ => False
  hF : ∀ base : Heap, K.In base → base.Ns mainGlobals mg → (∀ p ∈ cs, LamX.TabB base mg p.1 p.2) → FnG P w K mg base CX0 k fa fd [x] sp
theorem law_endT {n : Nat} (L : LawG P w K k n x mg fa s1.heap fd cs sp) (KX : K.In s1.heap) (hns : s1.heap.Ns mainGlobals mg) (hb : s1.heap.Ns builtinsNs mb) (hbb : ∀ x : Str, x ≠ "__name__" → mb x = bootBuiltins x) (hlim : s1.heap.NoLimit) (hg : s1.gens = #[])
    (hbm : ∃ (bm : Addr) (ob : Obj), mg "__builtins__" = some (.ref bm) ∧ bm ≠ builtinsNs ∧ s1.heap.get? bm = some ob ∧ ob.cls = .type "module" ∧ ob.dict = some builtinsNs ∧ ob.data = .plain)
    (ha : s1.heap.get? a = some { cls := .type "list", data := .seq vs.toArray }) (hi : IntsAre vs ns) (hl : ns.length ≤ n) (hl2 : n ≤ sizeLine) (hbits : ∀ z ∈ ns, Builtin.Int.intBits z ≤ 1048576) (hr : Room k callerA) :
    codeAny (model P w) callerA (.call (.ref fa) ⟨[.ref a], []⟩) (fun r s' => r = .ok (.ret (.bool true)) ∧ OldK s1.heap s'.heap ∧ s'.os = s1.os ∧ AllBare s'.gens) s1 := by
  have rv := vals_ints hi
  have hl3 := Nat.le_trans hl hl2
  have aT : ¬ ∃ p ∈ cs, p.2 = a := fun ⟨p, hp, e⟩ => by
    have q := L.hT p hp
    rw [e, ha] at q
    cases q
  -- the tables, and the script where the written part has it not
  let H0 : Hp := fun b => open Classical in if ∃ p ∈ cs, p.2 = b then some (.tbl #[]) else if b = a ∧ K.lookup a = none then some (.frz { cls := .type "list", data := .seq vs.toArray } (.lst (ns.map V.int))) else none
  have t0 : ∀ p ∈ cs, H0 p.2 = some (.tbl #[]) := fun p hp => if_pos ⟨p, hp, rfl⟩
  have o0 : ∀ {b : Addr}, (¬ ∃ p ∈ cs, p.2 = b) → ¬ (b = a ∧ K.lookup a = none) → H0 b = none := fun h1 h2 => (if_neg h1).trans (if_neg h2)
  have a0 : K.lookup a = none → H0 a = some (.frz { cls := .type "list", data := .seq vs.toArray } (.lst (ns.map V.int))) := fun h => (if_neg aT).trans (if_pos ⟨rfl, h⟩)
  have hS : SqL K H0 a (ns.map V.int) := by
    cases hk : K.lookup a with
    | some o =>
      have e := KX a o hk
      rw [ha] at e
      cases e
      exact .inr ⟨_, vs.toArray, _, hk, rfl, rfl, rfl, by rw [List.size_toArray, hi.length]; exact hl3, by simpa using rv⟩
    | none => exact .inl (.inr ⟨_, a0 hk⟩)
  refine law_coreT (H := H0) KX hns hb hbb hlim hg L.hT L.nT L.hC hbm ha hr L.hF L.hb t0 (fun b => ?_) (fun b u z => ?_) (fun b z => ?_) (fun z => ?_) (L.hsp H0 a ns hl hbits t0 hS)
  · by_cases h1 : ∃ p ∈ cs, p.2 = b
    · exact .inr (.inl h1)
    · by_cases h2 : b = a ∧ K.lookup a = none
      · rw [h2.1]
        exact .inr (.inr ⟨_, _, a0 h2.2⟩)
      · exact .inl (o0 h1 h2)
  · by_cases h1 : ∃ p ∈ cs, p.2 = b
    · obtain ⟨p, hp, e⟩ := h1
      subst e
      rw [t0 p hp] at z
      cases z
      exact L.hT p hp
    · by_cases h2 : b = a ∧ K.lookup a = none
      · obtain ⟨rfl, h2⟩ := h2
        rw [a0 h2] at z
        cases z
        exact ⟨ha, by rw [List.length_map]; exact hl3, vs, _, rv, ha⟩
      · rw [o0 h1 h2] at z
        cases z
  · by_cases h1 : ∃ p ∈ cs, p.2 = b
    · exact .inr h1
    · by_cases h2 : b = a ∧ K.lookup a = none
      · exact .inl h2.1
      · exact absurd (o0 h1 h2) z
  · by_cases h2 : K.lookup a = none
    · exact h2
    · exact absurd (o0 aT fun y => h2 y.2) z
end
end Zj
namespace Zj
open PySem PySem.Spec PyProof.Rows L2
theorem walk_GT {l : PySem.W.OpenLaw} {n k : Nat} {q : Program} {loose : List Str} {XP : (Str → Option Value) → Heap → Prop} {YP : World → Heap → Prop} {d : DefRec} {K : Params → PySem.W.Frag} {x : Str}
    (hn : l.most = some n) (hn2 : n ≤ sizeLine) (hdf : d.params.defaults = []) (hr : Room k callerA) (hY : ∀ (w : World) (h : Heap), YP w h → (K w.params).In h)
    (F : ∀ (w : World) (mg : Str → Option Value) (fa : Addr) (h : Heap), YP w h → (K w.params).In h → h.Ns mainGlobals mg → mg d.name = some (.ref fa) → ∃ (fd : FuncData) (cs : List (Addr × Addr)) (sp : Sp), LawG l.prog w (K w.params) k n x mg fa h fd cs sp) :
    PySem.W.WalkO q loose XP YP l.row.toRowW d [] (fun f vs => PySem.call f vs) :=
  Att.attach_callB hn hdf fun w s0 s1 mg mb fa o pm cd doc a vs ns G Y ho hd hcd hmg hobj hints hlen hbits hg => by
    obtain ⟨fd, cs, sp, L⟩ := F w mg fa _ Y (hY w _ Y) G.T.g hmg
    exact law_endT L (hY w _ Y) G.T.g G.T.b G.T.builtins G.T.nolimit hg G.T.bmain hobj hints hlen hn2 hbits hr
end Zj
namespace Zj
open PySem PySem.Spec PyProof.Rows L2
/-- a def of the top with lambdas: its code object is at c -/
structure DfC (K : PySem.W.Frag) (x : Str) (st : Stmt) (c : Addr) : Prop where
  ex : ∃ f fd, PySem.W.nsIn K mainGlobals x = some (some (.ref f)) ∧ Fun K x x st f fd ∧ fd.code = .ref c
theorem dfC_mk {K : PySem.W.Frag} {x : Str} {st : Stmt} {f c : Addr} {oc : Value} {od an : Option Addr} {osl : Array (Option Value)} {kV doc pm ct : Value} (a : PySem.W.nsIn K mainGlobals x = some (some (.ref f)))
    (l : K.lookup f = some ⟨oc, od, .func (PySem.W.fnOf x x (defArgs st) (defBody st) (defScope st) .none kV doc pm an (.ref c) ct), osl⟩)
    (hc : PySem.W.codeIn K (.ref c) x = true) (k : PySem.W.keepIn K (.ref f) = true) : DfC K x st c := ⟨_, _, a, fun_mk l hc k, rfl⟩
/-- an own class of exceptions with one field -/
structure Cd1 (K : PySem.W.Frag) (x qi : Str) (st : Stmt) (f : Str) (C : Addr) : Prop where
  a : PySem.W.nsIn K mainGlobals x = some (some (.ref C))
  o : OexC K C
  ini : ∃ fI fd, PySem.W.findIn K (.ref C) "__init__" = some (some (.ref fI)) ∧ PySem.W.typeIn K (.ref fI) = some (.type "function") ∧ Fun K "__init__" qi st fI fd
  nf : PySem.W.findIn K (.ref C) f = some none
  xf : XfC K C
theorem cd1_mk {K : PySem.W.Frag} {x qi : Str} {st : Stmt} {f : Str} {C fI N : Addr} {nm q : Str} {bs bm : List Value} {sn : List Str} {sub : List Value} {ab : Bool} {col : Option Bool} {dd od an : Option Addr} {m0 m1 m2 m3 m5 : Option Value} {oc kV doc pm cdv ct : Value} {osl : Array (Option Value)}
    (a : PySem.W.nsIn K mainGlobals x = some (some (.ref C))) (l : K.lookup C = some (excClassObj nm q C N bs bm true sn sub ab col dd m0 m1 m2 m3 m5 "ValueError.__new__")) (hbm : PySem.HandSPX.refsVE bm = true)
    (sa : PySem.W.findIn K (.ref C) "__setattr__" = some (some (.builtin "object.__setattr__"))) (eC : PySem.W.subIn K (.ref C) (.type "BaseException") = some true) (tC : PySem.W.typeIn K (.ref C) = some (.type "type")) (kC : PySem.W.keepIn K (.ref C) = true)
    (i : PySem.W.findIn K (.ref C) "__init__" = some (some (.ref fI))) (ti : PySem.W.typeIn K (.ref fI) = some (.type "function")) (li : K.lookup fI = some ⟨oc, od, .func (PySem.W.fnOf "__init__" qi (defArgs st) (defBody st) (defScope st) .none kV doc pm an cdv ct), osl⟩)
    (ci : PySem.W.codeIn K cdv qi = true) (ki : PySem.W.keepIn K (.ref fI) = true) (nf : PySem.W.findIn K (.ref C) f = some none) (ga : PySem.W.findIn K (.ref C) "__getattribute__" = some (some (.builtin "BaseException.__getattribute__"))) (gg : PySem.W.findIn K (.ref C) "__getattr__" = some none) (hd : PySem.W.hasDictIn K C = true) :
    Cd1 K x qi st f C := ⟨a, ⟨⟨nm, q, N, bs, bm, sn, sub, ab, col, dd, m0, m1, m2, m3, m5, l, hbm⟩, sa, eC, tC, kC⟩, ⟨_, _, i, ti, fun_mk li ci ki⟩, nf, ⟨ga, gg, eC, hd⟩⟩
section
variable {P : Program} {w : World} {K : PySem.W.Frag} {h base : Heap} {mg : Str → Option Value} {k : Nat} {x y qi f f2 : Str} {st st2 : Stmt} {ps : List Str} {sp : Sp} {c C D : Addr}
theorem calGC_mk (X : K.In h) (G : h.Ns mainGlobals mg) (d : DfC K x st c) (b : Tk st x ps) (ok : ∀ f fd, Fun K x x st f fd → fd.code = .ref c → FnG P w K mg base CX0 k f fd ps sp) : CalG P w K mg base k x ps sp := by
  obtain ⟨fa, fd, a, F, hc⟩ := d.ex
  exact ⟨fa, fd, ok fa fd F hc, PySem.W.mg_of X G a, F.kp, F.binds b⟩
theorem calX_mk (X : K.In h) (G : h.Ns mainGlobals mg) (d : Df K x st) (b : Tk st x ps) (ok : ∀ f fd, Fun K x x st f fd → FnOk P w K mg base (L2.CX P w) k f fd ps sp) : CalX P w K mg base k x ps sp := by
  obtain ⟨fa, fd, a, F⟩ := d.ex
  exact ⟨fa, fd, ok fa fd F, PySem.W.mg_of X G a, F.kp, F.binds b⟩
theorem calXK_mk (X : K.In h) (G : h.Ns mainGlobals mg) (d : Df K x st) (ok : ∀ f fd, Fun K x x st f fd → FnOk P w K mg base (L2.CX P w) k f fd ps sp) : CalXK P w K mg base k x st ps sp := by
  obtain ⟨fa, fd, a, F⟩ := d.ex
  exact ⟨fa, fd, F, ok fa fd F, PySem.W.mg_of X G a⟩
theorem xcF_mk (X : K.In h) (G : h.Ns mainGlobals mg) (d : Cd1 K x qi st f C) : XcF K mg x [f] := ⟨C, PySem.W.mg_of X G d.a, d.xf, fun g hg => by rw [List.mem_singleton] at hg; rw [hg]; exact d.nf⟩
theorem exm_mk {b : Bool} (X : K.In h) (G : h.Ns mainGlobals mg) (dx : PySem.W.nsIn K mainGlobals x = some (some (.ref C))) (d : Cd1 K y qi st f D) (s : PySem.W.subIn K (.ref C) (.ref D) = some b) : Exm K mg x y b :=
  ⟨C, D, PySem.W.mg_of X G dx, PySem.W.mg_of X G d.a, PySem.W.exm_ref d.o.exC d.xf.hdC d.o.tyC s⟩
theorem clsI_mk {p1 p2 p3 p4 : Pos} (X : K.In h) (G : h.Ns mainGlobals mg) (d : Cd1 K x qi st f C) (S : FnScope ["self", f] ["self", f] (defScope st)) (hb : defBody st = [.Assign [.Attribute (.Name "self" p1) f p2] (.Name f p3) p4])
    (h1 : Vis (defScope st) "self") (h2 : Vis (defScope st) f) (hd : (f == ("__debug__" : Str)) = false) (hcd : (f == ("__classdict__" : Str)) = false) (hs : ∀ env : Env, swapsWith (.Name f p3) (some (.Attribute (.Name "self" p1) f p2)) p4.line env = pure false)
    (bd : ∀ (kV doc pm : Value) (an : Option Addr) (cdv ct u v : Value), bindArgs (PySem.W.fnOf "__init__" qi (defArgs st) (defBody st) (defScope st) .none kV doc pm an cdv ct) ⟨[u, v], []⟩ = pure [(("self" : Str), u), (f, v)]) [Nm] : ClsI P w K mg base 1 x [f] := by
  obtain ⟨fI, fd, i, ti, F⟩ := d.ini
  refine ⟨C, fI, fd, PySem.W.mg_of X G d.a, d.o, i, ti, fun g hg => by rw [List.mem_singleton] at hg; rw [hg]; exact d.nf, init1 F S hb h1 h2 hd hcd hs, F.binds fun kV doc pm an cdv ct us hl => ?_⟩
  match us, hl with
  | [u, v], _ => exact bd kV doc pm an cdv ct u v
end
end Zj
/-! Points of fractions, in numbers; the least common multiple. -/
namespace Zj
open PySem PySem.Spec PyProof.Rows L2
theorem lcm_bits {a b : Int} {m n : Nat} (h1 : Bits m a) (h2 : Bits n b) : Bits (m + n) ((Nat.lcm a.natAbs b.natAbs : Nat) : Int) := by
  show (((Nat.lcm a.natAbs b.natAbs : Nat) : Int)).natAbs < _
  rw [Int.natAbs_natCast]
  refine Nat.lt_of_le_of_lt (PySem.W.mc_lcm_le _ _) ?_
  have h1 : a.natAbs < 2 ^ m := h1
  have h2 : b.natAbs < 2 ^ n := h2
  rw [Nat.pow_add]
  exact Nat.mul_lt_mul'' h1 h2
theorem cr_lcm {X : Cx} : CallR X (.builtin "math.lcm") (fun vs H Q => ∃ a b : Int, vs = [.int a, .int b] ∧ Bits 6000 a ∧ Bits 6000 b ∧ Q (.int ((Nat.lcm a.natAbs b.natAbs : Nat) : Int)) H) := by
  intro pins s σ H vs us Q I r h
  obtain ⟨a, b, rfl, ha, hb, q⟩ := h
  obtain ⟨t, u, rfl⟩ := Vals.int2 r
  have la := ha.log (by decide)
  have lb := hb.log (by decide)
  have mx : ∀ x y : Nat, x.log2 < 6000 → y.log2 < 6000 → (max x y).log2 < 6000 := fun x y hx hy => by
    rcases Nat.le_total x y with h | h
    · rw [Nat.max_eq_right h]; exact hy
    · rw [Nat.max_eq_left h]; exact hx
  have e1 : Nat.lcm 1 a.natAbs = a.natAbs := PySem.W.mc_lcm_one _
  refine call_function_meets PySem.W.MGF.kind_lcm PySem.W.MGF.plain_lcm PySem.W.MGF.entry_lcm (PySem.W.MGF.args_lcm _ _) (PySem.W.mg_run_lcm a t b u ?_ ?_ ?_).meets ?_
  · have := mx 1 a.natAbs (by decide) la
    omega
  · have := mx a.natAbs b.natAbs la lb
    omega
  · rw [e1]
    have := (lcm_bits ha hb).log (by decide)
    exact Nat.lt_of_lt_of_le this (by decide)
  · rw [e1]
    exact ⟨.int _, H, I.tok _, ⟨_, rfl⟩, q⟩
theorem ca_lcm [Nm] {X : Cx} {i j : Int} (hi : Bits 6000 i) (hj : Bits 6000 j) : CaD X (.builtin "math.lcm") [.int i, .int j] (.int ((Nat.lcm i.natAbs j.natAbs : Nat) : Int)) := ⟨_, cr_lcm, fun T vs H dm p Q q => by
  obtain ⟨v, v', rfl, h, h'⟩ := dps2 p
  exact ⟨i, j, by rw [dp_int h, dp_int h'], hi, hj, q _ H (Sm.refl H) (.int _)⟩⟩
def lcmL (bs : List Int) : Nat := bs.foldl (fun m b => Nat.lcm m b.natAbs) 1
theorem lcm_fold (bs : List Int) (m : Nat) : bs.foldl (fun m b => Nat.lcm m b.natAbs) m = Nat.lcm m (lcmL bs) := by
  unfold lcmL
  induction bs generalizing m with
  | nil => simp
  | cons b bs ih =>
    rw [List.foldl_cons, List.foldl_cons, ih (Nat.lcm m b.natAbs), ih (Nat.lcm 1 b.natAbs), Nat.lcm_assoc, PySem.W.mc_lcm_one]
theorem lcmL_cons (b : Int) (bs : List Int) : lcmL (b :: bs) = Nat.lcm b.natAbs (lcmL bs) := by
  show (b :: bs).foldl _ 1 = _
  rw [List.foldl_cons, lcm_fold, PySem.W.mc_lcm_one]
theorem lcmL_take {bs : List Int} {n : Nat} {b : Int} (h : bs[n]? = some b) : lcmL (bs.take (n + 1)) = Nat.lcm (lcmL (bs.take n)) b.natAbs := by
  unfold lcmL
  rw [List.take_add_one, h, List.foldl_append]
  rfl
theorem lcmL_dvd {bs : List Int} {b : Int} (h : b ∈ bs) : b.natAbs ∣ lcmL bs := by
  induction bs with
  | nil => cases h
  | cons c bs ih =>
    rw [lcmL_cons]
    rcases List.mem_cons.mp h with rfl | h
    · exact Nat.dvd_lcm_left _ _
    · exact Nat.dvd_trans (ih h) (Nat.dvd_lcm_right _ _)
theorem lcmL_least {bs : List Int} {n : Nat} (h : ∀ b ∈ bs, b.natAbs ∣ n) : lcmL bs ∣ n := by
  induction bs with
  | nil => exact Nat.one_dvd n
  | cons c bs ih =>
    rw [lcmL_cons]
    exact Nat.lcm_dvd (h c List.mem_cons_self) (ih fun b hb => h b (List.mem_cons_of_mem _ hb))
theorem lcmL_pos {bs : List Int} (h : ∀ b ∈ bs, 0 < b) : 0 < lcmL bs := by
  induction bs with
  | nil => exact Nat.one_pos
  | cons c bs ih =>
    rw [lcmL_cons]
    have := h c List.mem_cons_self
    exact Nat.lcm_pos (by omega) (ih fun b hb => h b (List.mem_cons_of_mem _ hb))
theorem lcmL_bits {m : Nat} : ∀ {bs : List Int}, BitsL m bs → Bits (1 + m * bs.length) (lcmL bs : Int)
  | [], _ => by
    show (1 : Nat) < 2 ^ 1
    decide
  | b :: bs, h => by
    rw [lcmL_cons]
    have h1 := lcm_bits (b := (lcmL bs : Int)) (h b List.mem_cons_self) (lcmL_bits fun x hx => h x (List.mem_cons_of_mem _ hx))
    rw [Int.natAbs_natCast] at h1
    exact h1.mono (by rw [List.length_cons, Nat.mul_succ]; omega)
/-- a fraction in lowest terms -/
def Fr (p : Int × Int) : Prop := 0 < p.2 ∧ Nat.gcd p.1.natAbs p.2.natAbs = 1
/-- the point with fractions as coordinates -/
def ptC (cs : List (Int × Int)) : List Int := cs.map (fun p => p.1 * Int.fdiv (lcmL (cs.map Prod.snd)) p.2) ++ [(lcmL (cs.map Prod.snd) : Int)]
theorem fdiv_mul {b k : Int} (hb : 0 < b) : Int.fdiv (b * k) b = k := by
  rw [Int.fdiv_eq_ediv_of_nonneg _ (by omega), Int.mul_ediv_cancel_left _ (by omega)]
theorem quot_of {cs : List (Int × Int)} (h : ∀ p ∈ cs, Fr p) {p : Int × Int} (hp : p ∈ cs) : ∃ k : Nat, 0 < k ∧ (lcmL (cs.map Prod.snd) : Int) = p.2 * k ∧ Int.fdiv (lcmL (cs.map Prod.snd)) p.2 = k := by
  have hb := (h p hp).1
  obtain ⟨k, hk⟩ := lcmL_dvd (List.mem_map.mpr ⟨p, hp, rfl⟩ : p.2 ∈ cs.map Prod.snd)
  have hw : 0 < lcmL (cs.map Prod.snd) := lcmL_pos fun b hb => by
    obtain ⟨q, hq, rfl⟩ := List.mem_map.mp hb
    exact (h q hq).1
  have e : (lcmL (cs.map Prod.snd) : Int) = p.2 * k := by
    rw [hk, Int.natCast_mul, show ((p.2.natAbs : Nat) : Int) = p.2 by omega]
  refine ⟨k, ?_, e, by rw [e, fdiv_mul hb]⟩
  rcases Nat.eq_zero_or_pos k with h0 | h0
  · rw [h0, Nat.mul_zero] at hk
    omega
  · exact h0
theorem ptC_gcd {cs : List (Int × Int)} (h : ∀ p ∈ cs, Fr p) : gcdL (ptC cs) = 1 := by
  have hw : 0 < lcmL (cs.map Prod.snd) := lcmL_pos fun b hb => by
    obtain ⟨q, hq, rfl⟩ := List.mem_map.mp hb
    exact (h q hq).1
  have gW : gcdL (ptC cs) ∣ lcmL (cs.map Prod.snd) := by
    have := gcdL_dvd (xs := ptC cs) (x := (lcmL (cs.map Prod.snd) : Int)) (by unfold ptC; simp)
    exact Int.natCast_dvd_natCast.mp this
  obtain ⟨v, hv⟩ := gW
  have hv0 : 0 < v := by
    rcases Nat.eq_zero_or_pos v with h0 | h0
    · rw [h0, Nat.mul_zero] at hv
      omega
    · exact h0
  have g0 : 0 < gcdL (ptC cs) := by
    rcases Nat.eq_zero_or_pos (gcdL (ptC cs)) with h0 | h0
    · rw [h0, Nat.zero_mul] at hv
      omega
    · exact h0
  have key : lcmL (cs.map Prod.snd) ∣ v := lcmL_least fun b hb => by
    obtain ⟨p, hp, rfl⟩ := List.mem_map.mp hb
    obtain ⟨k, hk0, e1, e2⟩ := quot_of h hp
    have d1 : (gcdL (ptC cs) : Int) ∣ p.1 * Int.fdiv (lcmL (cs.map Prod.snd)) p.2 := gcdL_dvd (by unfold ptC; exact List.mem_append_left _ (List.mem_map.mpr ⟨p, hp, rfl⟩))
    rw [e2] at d1
    have d1' : gcdL (ptC cs) ∣ p.1.natAbs * k := by
      have := Int.natAbs_dvd_natAbs.mpr d1
      rwa [Int.natAbs_natCast, Int.natAbs_mul, Int.natAbs_natCast] at this
    have d2' : gcdL (ptC cs) ∣ p.2.natAbs * k := by
      have e3 : lcmL (cs.map Prod.snd) = p.2.natAbs * k := by
        have := congrArg Int.natAbs e1
        rwa [Int.natAbs_natCast, Int.natAbs_mul, Int.natAbs_natCast] at this
      rw [← e3]
      exact ⟨v, hv⟩
    have d3 : gcdL (ptC cs) ∣ k := by
      have := Nat.dvd_gcd d1' d2'
      rwa [Nat.gcd_mul_right, (h p hp).2, Nat.one_mul] at this
    obtain ⟨k', hk'⟩ := d3
    refine ⟨k', ?_⟩
    have e3 : lcmL (cs.map Prod.snd) = p.2.natAbs * k := by
      have := congrArg Int.natAbs e1
      rwa [Int.natAbs_natCast, Int.natAbs_mul, Int.natAbs_natCast] at this
    rw [hv, hk', Nat.mul_left_comm] at e3
    exact Nat.eq_of_mul_eq_mul_left g0 e3
  have l1 := Nat.le_of_dvd hv0 key
  rw [hv] at l1
  have : gcdL (ptC cs) ≤ 1 := by
    rcases Nat.lt_or_ge 1 (gcdL (ptC cs)) with h2 | h2
    · have := Nat.mul_le_mul_right v h2
      omega
    · exact h2
  omega
theorem short_one {xs : List Int} (h : gcdL xs = 1) : shortL xs = xs := by
  unfold shortL
  rw [h]
  rfl
variable [Nm]
/-- so many times a tuple with no common divisor -/
theorem short_times {xs : List Int} (h : gcdL xs = 1) {c : Int} (hc : 0 < c) : shortL (xs.map fun x => c * x) = xs := by
  have hx : ∃ x ∈ xs, x ≠ 0 := by
    by_cases hh : ∃ x ∈ xs, x ≠ 0
    · exact hh
    · exfalso
      have e : shortL xs = xs := short_one h
      have z : ∀ x ∈ xs, x = 0 := fun x hx => by
        by_cases q : x = 0
        · exact q
        · exact absurd ⟨x, hx, q⟩ hh
      have g : ∀ ys : List Int, (∀ y ∈ ys, y = 0) → gcdL ys = 0 := fun ys => by
        induction ys with
        | nil => exact fun _ => rfl
        | cons y ys ih =>
          intro hy
          rw [gcdL_cons, hy y List.mem_cons_self, ih fun u hu => hy u (List.mem_cons_of_mem _ hu)] <;> rfl
      rw [g xs z] at h
      cases h
  rw [shortL_scale (by omega) hx, if_pos hc, short_one h, show (fun y : Int => 1 * y) = id from funext fun y => Int.one_mul y, List.map_id]
/-- two tuples with no common divisor, one so many times the other one -/
theorem short_same {xs ys : List Int} (h1 : gcdL xs = 1) (h2 : gcdL ys = 1) {c d : Int} (hc : 0 < c) (hd : 0 < d) (e : xs.map (fun x => c * x) = ys.map fun y => d * y) : xs = ys := by
  have := congrArg shortL e
  rwa [short_times h1 hc, short_times h2 hd] at this
end Zj
/-! A tuple so many times; a list made, then one thing of it set. -/
namespace Zj
open PySem PySem.Spec PyProof.Rows L2
theorem tuple_mul1 (l : Addr) (items : Array Value) (n : Nat) (dd : Option Addr) (sl : Array (Option Value)) (x : Int) (u : Tok) (c0 : (decide (x < -(2 ^ 63)) || decide (x ≥ 2 ^ 63)) = false) (c1 : (items.isEmpty || x == 1) = true) :
    Meets (Builtin.«tuple.__mul__» ⟨[.ref l, .int x u], []⟩) (fun _ R s => s.heap.get? l = some { cls := .type "tuple", dict := dd, data := .seq items n, slots := sl } ∧
      R (.ok (.ret (Value.ref l))) s) :=
  .of_wp fun prog w A R s h => by
    obtain ⟨hp, g, d, tk, os⟩ := s
    obtain ⟨hl, h⟩ := h
    have f1 := AutoSeq1.idx_int
    wp_walk using wpAny_loadPart' hl
    refine wpAny_ite_false (decide_eq_false (by rw [c0]; exact Bool.false_ne_true)) ?_
    wp_walk using wpAny_loadPart' hl
    exact ⟨_, rfl, h⟩
theorem op_repT1 {X : Cx} : OpR X (binaryOp .Mult) (fun x y H Q => ∃ l xs, x = .ref l ∧ y = .int 1 ∧ SqT X.K H l xs ∧ Q (.ref l) H) := by
  intro pins s σ H x y v u Q I rx ry h
  obtain ⟨l, xs, rfl, rfl, hT, q⟩ := h
  cases rx
  obtain ⟨t, rfl⟩ := ry
  obtain ⟨its, r, ⟨⟨cls, dd, data, sl⟩, ho, hc, n, hd⟩, hs⟩ := I.tuple hT
  simp only at hc hd
  subst hc hd
  have c0 : (decide ((1 : Int) < -(2 ^ 63)) || decide ((1 : Int) ≥ 2 ^ 63)) = false := by decide
  have c1 : (its.toArray.isEmpty || (1 : Int) == 1) = true := Bool.or_true _
  refine wpAny_binaryOp_repeat_ref (T := "tuple") (U := "int") (by decide) ⟨_, ho, rfl⟩ (fun s' => typeIs_int s' 1 t) noFill_tuple_mul F.fills_int_mul F.slot_int_rmul repeat_tuple F.slot_int_index.lookup
    (call_meets F.slot_int_rmul (typeIs_int s 1 t) F.entry_int_rmul (F.args_int_rmul_2 _ _) (int_rmul_tuple 1 t l its.toArray n dd sl)
      ⟨ho, rfl, ⟨_, ho, rfl⟩, call_meets F.slot_tuple_mul ⟨_, ho, rfl⟩ F.entry_tuple_mul (F.args_tuple_mul_2 _ _) (tuple_mul1 l its.toArray n dd sl 1 t c0 c1) ⟨ho, ?_⟩⟩)
  exact ⟨.ref l, H, I, rfl, q⟩
variable [Nm]
theorem od_repT {X : Cx} {ds : List PyData} {k : Int} (hne : ds ≠ []) (h0 : 1 ≤ k) (hk : k ≤ 1000) (hl : ds.length ≤ 1000) : OpD X (binaryOp .Mult) (.tuple ds) (.int k) (.tuple (List.replicate k.toNat ds).flatten) := by
  by_cases h1 : k = 1
  · subst h1
    refine ⟨_, op_repT1, fun T v1 v2 H dm p1 p2 Q q => ?_⟩
    obtain rfl := dp_int p2
    have p0 := p1
    obtain ⟨p, xs, rfl, g1, g2⟩ := dpo_tup p1
    exact ⟨p, xs, rfl, rfl, g1, q _ H (Sm.refl H) (by
      have e : (List.replicate (Int.toNat 1) ds).flatten = ds := by
        show ([ds] : List (List PyData)).flatten = ds
        simp
      rw [e]
      exact p0)⟩
  · refine ⟨_, op_repT, fun T v1 v2 H dm p1 p2 Q q => ?_⟩
    obtain rfl := dp_int p2
    obtain ⟨p, xs, rfl, g1, g2⟩ := dpo_tup p1
    have hx := dps_len g2
    exact ⟨p, k, xs, rfl, rfl, g1, (fun z => hne (List.eq_nil_of_length_eq_zero (by rw [← hx, z] <;> rfl))), by omega, hk, by omega, fun r hr => q _ _ (same_new hr) (dpo_newT dm hr (dps_rep g2 _))⟩
section
variable {X : Cx} {a : Addr} {ρ : Rho} {n m k c : Nat} {N : Nat → Rho → Prop} {R : Nat → PyData → Prop} {tg it elt cnd : Expr} {pos : Pos} {g : TG} {f : PyData → Rho → Option Rho} {scope : Scope} {own : List (Str × Nat)} {T : Addr → Prop} {p : Addr} {H : Hp} {σ : L2.St} {i : Nat} {ds : List PyData} {acc : List V}
/-- a list of its own is data from here on -/
theorem sd_free (nT : ¬ T p) (sd : SD X.K a (And1 T p) H σ (ρ.set i (some (.adr p)))) (lt : i < ρ.length) (h1 : H p = some (.lst acc)) (h2 : DpAll X.K (off (And1 T p) H) acc ds) : SD X.K a T H σ (ρ.set i (some (.dat (.list ds)))) := by
  refine ⟨by rw [sd.len]; simp, ⟨fun b hb => sd.dm.dn b (.inl hb), sd.dm.tb⟩, fun j y e => ?_⟩
  by_cases hj : i = j
  · subst hj
    rw [List.getElem?_set_self lt] at e
    cases e
    obtain ⟨v, g1, g2⟩ := sd.sl i (.adr p) (by rw [List.getElem?_set_self lt])
    have g2 : v = .ref p := g2
    subst g2
    exact ⟨_, g1, .lst (.of (by rw [off_no nT]; exact h1)) (dps_same off_less h2)⟩
  · rw [List.getElem?_set_ne hj] at e
    obtain ⟨v, g1, g2⟩ := sd.sl j y (by rw [List.getElem?_set_ne hj]; exact e)
    refine ⟨v, g1, ?_⟩
    cases y with
    | dat d => exact dp_same off_less g2
    | hnd => exact g2
    | adr _ => exact g2
    | val R => exact VR.same (R := R) off_less g2
/-- y = [.. two things, drawn ..]; y[1] = y[0] if .. else y[1] -/
theorem q_two {y : Str} {py spos spos2 pos2 p1 p2 p3 p4 p5 p6 p7 p8 p9 : Pos} {j1 j2 j3 : Nat} {i0 i1 : PyData} {V : PyData → PyData → Prop} {sts : List Stmt} (G : Good X) (hs : Src X a tg it ρ [i0, i1]) (hn : m + c * 2 ≤ n) (ok : BlkOk X.N X.env.scope scope own)
    (hg : ∀ (s : Shared) (H : Hp) (C : Addr) (cl : List (Str × Addr)) (fp : List Addr), PG (X.blk s H scope (compEnvC scope cl C X.env) fp) tg g) (ht : TgSem X.K a g (own.map (·.2)) f)
    (hb : ∀ d, d ∈ [i0, i1] → ∃ ρ2, f d (wipeR ρ (own.map (·.2))) = some ρ2 ∧ ∀ m, EvMb X scope a elt ρ2 (m + c) m (V d)) (lt : i < ρ.length) (hc : ∀ D, EvMT X a cnd (ρ.set i (some (.adr D))) m k (fun _ => True))
    (hP : ∀ d0 d1 d2, V i0 d0 → V i1 d1 → (d2 = d0 ∨ d2 = d1) → RunM X a sts (ρ.set i (some (.dat (.list [d0, d2])))) k N R)
    (hy : X.N[i]? = some y := by rfl) (hyl : X.env.scope.names.lookup y = some .local := by rfl) (hv : Vis X.env.scope y := by first | exact Or.inl rfl | exact Or.inr (Or.inl rfl) | exact Or.inr (Or.inr rfl)) (hd : (y == ("__debug__" : Str)) = false := by decide) (hcd : (y == ("__classdict__" : Str)) = false := by decide)
    (hsw : swapsWith (.ListComp elt [⟨tg, it, [], 0⟩] scope pos) (some (.Name y py)) spos.line X.env = pure true := by exact sw_true rfl rfl rfl (by decide +kernel))
    (hs2 : swapsWithSole [.Subscript (.Name y p1) (.Constant (.int 1) j1 p2) p3] (.IfExp cnd (.Subscript (.Name y p4) (.Constant (.int 0) j2 p5) p6) (.Subscript (.Name y p7) (.Constant (.int 1) j3 p8) p9) pos2) spos2.line X.env = pure false := by rfl)
    (hf : ∀ x, foldedSetIterable it X.env x = pure x := by intro _; rfl) :
    RunM X a (.Assign [.Name y py] (.ListComp elt [⟨tg, it, [], 0⟩] scope pos) spos :: .Assign [.Subscript (.Name y p1) (.Constant (.int 1) j1 p2) p3] (.IfExp cnd (.Subscript (.Name y p4) (.Constant (.int 0) j2 p5) p6) (.Subscript (.Name y p7) (.Constant (.int 1) j3 p8) p9) pos2) spos2 :: sts) ρ n N R := fun T σ H D S ms kn kr => by
  obtain ⟨wi, hw, hq⟩ := hs
  refine toSs (pss_cons js jss) (toS (ps_setLc (own := own) (te := JEb X scope elt) (tt := tYes) G.calm G.nd hy hyl hsw hw ok hg (fun s H0 C cl fp => pts_nil) (fun s H0 C cl fp => ⟨fun pins s' σ' H' Q' I h => h s H0 C cl fp pins s' I⟩) hf) ?_)
  refine lcM_own (f := f) (V := V) (keep := yes) (ce := c) S ms hn (by simp) (hq _ σ H (S.hide ms)) ht (fun d hd => ?_) fun Dd acc ds H2 n0 nD Da s2 S2 ms2 h5 h6 h7 => ?_
  · obtain ⟨ρ2, e, k2⟩ := hb d hd
    exact ⟨ρ2, e, fun m => ⟨fun T σ H S ms Q q => q H Kp.refl ms, fun hk T σ H S ms Q q s H0 C cl fp => k2 m s H0 C cl fp T σ H S ms Q q⟩⟩
  rw [List.filter_eq_self.mpr (show ∀ z ∈ [i0, i1], yes z = true from fun _ _ => rfl)] at h7
  obtain ⟨d0, d1, rfl, hV0, hV1⟩ : ∃ d0 d1, ds = [d0, d1] ∧ V i0 d0 ∧ V i1 d1 := by
    cases h7 with
    | cons q0 r =>
      cases r with
      | cons q1 r =>
        cases r
        exact ⟨_, _, rfl, q0, q1⟩
  obtain ⟨v0, v1, rfl⟩ : ∃ v0 v1, acc = [v0, v1] := by
    match acc, dps_len h6 with
    | [v0, v1], _ => exact ⟨v0, v1, rfl⟩
  have S3 : SD X.K a (And1 T Dd) H2 (σ.set i (some (.ref Dd))) (ρ.set i (some (.adr Dd))) := S2.put (x := .adr Dd) rfl
  refine toSs (pss_cons js jss) (toS (ps_asg je (pg_sub (pe_var hy hv hd hcd) pe_int set_list) hs2) ?_)
  refine toE (pe_ifExp jt je je) (hc Dd (And1 T Dd) _ H2 S3 ms2 _ fun b H3 s3 ms3 _ => ?_)
  have a3 : H3 Dd = some (.lst [v0, v1]) := s3.ka.1 _ _ Da h5 (by intro ps z; cases z)
  have S4 := S3.kpo s3 ms2
  have p3 := dps_kpo h6 s3 ms2
  obtain ⟨v, g1, g2⟩ := S4.sl i (.adr Dd) (by rw [List.getElem?_set_self lt])
  have g2 : v = .ref Dd := g2
  subst g2
  have fin : ∀ v2 d2, (d2 = d0 ∨ d2 = d1) → Dp X.K (off (And1 T Dd) H3) v2 d2 → JSs X sts D (σ.set i (some (.ref Dd))) (upd H3 Dd (.lst [v0, v2])) := fun v2 d2 hd2 q2 => by
    have s5 : Kp a H (upd H3 Dd (.lst [v0, v2])) := (s2.trans s3).putL n0 a3 Da
    have eo : off (And1 T Dd) (upd H3 Dd (.lst [v0, v2])) = off (And1 T Dd) H3 := off_put (.inr rfl)
    have S5 : SD X.K a (And1 T Dd) (upd H3 Dd (.lst [v0, v2])) (σ.set i (some (.ref Dd))) (ρ.set i (some (.adr Dd))) := ⟨S4.len, S4.dm.putL a3, fun j z e => by rw [eo]; exact S4.sl j z e⟩
    have p5 : DpAll X.K (off (And1 T Dd) (upd H3 Dd (.lst [v0, v2]))) [v0, v2] [d0, d2] := by
      rw [eo]
      cases p3 with
      | cons q0 _ => exact .cons q0 (.cons q2 .nil)
    have m5 : MS X.K (off T (upd H3 Dd (.lst [v0, v2]))) a k := by
      rw [← eo] at ms3
      exact ms3.same off_less
    exact hP d0 d1 d2 hV0 hV1 hd2 T _ _ D (sd_free nD S5 lt upd_same p5) m5 (fun σ' H' ρ' m' s S' ms' hN => kn σ' H' ρ' m' (s5.trans s) S' ms' hN) fun v H' d m' s ms' q r => kr v H' d m' (s5.trans s) ms' q r
  cases p3 with
  | cons q0 r =>
    cases r with
    | cons q1 r =>
      cases b with
      | true =>
        refine iteT (toE (pe_ix ix_list (pe_var hy hv hd hcd) pe_int (by exact fun _ _ => rfl)) ⟨_, g1, Dd, [v0, v1], 0, v0, rfl, rfl, .of a3, rfl, ?_⟩)
        exact ⟨_, g1, Dd, [v0, v1], 1, 1, rfl, rfl, a3, rfl, fin v0 d0 (.inl rfl) q0⟩
      | false =>
        refine iteF (toE (pe_ix ix_list (pe_var hy hv hd hcd) pe_int (by exact fun _ _ => rfl)) ⟨_, g1, Dd, [v0, v1], 1, v1, rfl, rfl, .of a3, rfl, ?_⟩)
        exact ⟨_, g1, Dd, [v0, v1], 1, 1, rfl, rfl, a3, rfl, fin v1 d1 (.inr rfl) q1⟩
end
section
variable {X : Cx} {a : Addr} {ρ : Rho} {e : Expr} {ds : List PyData} {p pos : Pos}
theorem src_EL {elts : List Expr} {kk : Nat} {tpos : Pos} (h : EvA X a [e] ρ [.list ds]) (hm : X.mg "enumerate" = none) (hg : Gl X "enumerate" := by rfl) (hs : starEach [e] X.env = [(false, eval e X.env)] := by exact star_of rfl) :
    Src X a (.Tuple elts kk tpos) (.Call (.Name "enumerate" p) [e] [] pos) ρ (numbered ds) := ⟨_, pi_enum hg hm ja hs, fun T σ H S R k => h T σ H S _ fun vs H1 s1 p1 => by
  obtain ⟨v, rfl, q⟩ := dps1 p1
  obtain ⟨pa, xs, rfl, g1, g2⟩ := dp_lst q
  have hl := dps_len g2
  refine ⟨pa, xs, rfl, same_l off_in _ _ g1, k _ H1 _ _ s1 (by rw [show (numbered ds).length = xs.length by simp [numbered, hl]]; exact walk_enum) (fun T' H' s => same_l off_in _ _ (same_l s.2 _ _ g1)) fun T' i H' x H'' hin s y => ?_⟩
  obtain ⟨T0, y1, y2, rfl, hT, rfl, e1, e2⟩ := y
  have e2 : xs[i]? = some y2 := e2
  cases e1
  obtain ⟨d, hd⟩ : ∃ d, ds[i]? = some d := by
    have := (List.getElem?_eq_some_iff.mp e2).1
    exact ⟨ds[i]'(by omega), by simp⟩
  obtain ⟨v, hv, pv⟩ := dps_get g2 hd
  rw [e2] at hv
  cases hv
  exact ⟨same_new hT, _, numbered_get hd, dpo_pair s.1 hT (.int _) (dp_same s.2 pv)⟩⟩
end
end Zj
/-! Own classes of exceptions without fields; defs of four arguments. -/
namespace Zj
open PySem PySem.Spec PyProof.Rows L2
/-- an own class of exceptions that keeps nothing -/
structure Cd0 (K : PySem.W.Frag) (x : Str) (C : Addr) : Prop where
  a : PySem.W.nsIn K mainGlobals x = some (some (.ref C))
  e : PySem.W.excIn K C [.type "ValueError", .type "Exception", .type "BaseException", .type "object"] "ValueError.__new__" = true
  k : PySem.W.keepIn K (.ref C) = true
  s : PySem.W.subIn K (.ref C) (.type "BaseException") = some true
  t : PySem.W.typeIn K (.ref C) = some (.type "type")
  hd : PySem.W.hasDictIn K C = true
section
variable {K : PySem.W.Frag} {h : Heap} {mg : Str → Option Value} {x y : Str} {C D : Addr}
theorem clsP_mk (X : K.In h) (G : h.Ns mainGlobals mg) (d : Cd0 K x C) : ClsP K mg x := ⟨C, "ValueError", "ValueError.__new__", "ValueError.__init__", _, PySem.W.mg_of X G d.a, PySem.F.excBase_ValueError, d.e, d.k, d.s, d.t⟩
theorem exm0_mk {b : Bool} (X : K.In h) (G : h.Ns mainGlobals mg) (dx : PySem.W.nsIn K mainGlobals x = some (some (.ref C))) (d : Cd0 K y D) (s : PySem.W.subIn K (.ref C) (.ref D) = some b) : Exm K mg x y b :=
  ⟨C, D, PySem.W.mg_of X G dx, PySem.W.mg_of X G d.a, PySem.W.exm_ref d.s d.hd d.t s⟩
end
theorem tk4 {st : Stmt} {x a b c d : Str} (e : ∀ (kV doc pm : Value) (an : Option Addr) (cdv ct u v z z' : Value), bindArgs (PySem.W.fnOf x x (defArgs st) (defBody st) (defScope st) .none kV doc pm an cdv ct) ⟨[u, v, z, z'], []⟩ = pure [(a, u), (b, v), (c, z), (d, z')]) : Tk st x [a, b, c, d] := fun kV doc pm an cdv ct us hl => by
  match us, hl with
  | [u, v, z, z'], _ => exact e kV doc pm an cdv ct u v z z'
end Zj
/-! An own class of exceptions called with names: the object is made, then its __init__ hears the names. -/
namespace Zj
open PySem PySem.Spec PySem.HandSPX
section
variable {p : Program} {wd : World} {ar : Around} {er : Value → Shared → Prop} {hp : Heap} {gs : Array GenState} {dr : Drawn} {tk : Nat} {os : OsState}
variable {n1 n2 : Str} {cl ns fI : Addr} {b1 b2 : List Value} {hd : Bool} {sl : List Str} {sb : List Value} {ab : Bool} {co : Option Bool} {dd : Option Addr} {m0 m1 m2 m3 m5 : Option Value} {us : List Value} {kw : List (Str × Value)}
def VEs : List Value := [.type "ValueError", .type "Exception", .type "BaseException", .type "object"]
theorem kw_check {Q : Unit → Shared → Prop} (hv : ∀ T : String, b2.contains (.type T) = VEs.contains (.type T)) (at_ : hp.get? cl = some (excClassObj n1 n2 cl ns b1 b2 hd sl sb ab co dd m0 m1 m2 m3 m5 "ValueError.__new__")) (q : Q () ⟨hp, gs, dr, tk, os⟩) :
    wpAny (model p wd) ar (checkBuiltinCall "ValueError.__new__" ⟨.ref cl :: us, kw⟩) Q er ⟨hp, gs, dr, tk, os⟩ := by
  have Z := PySem.F.excBase_ValueError
  have z1 : (Value.ref cl :: b2).contains (.type "ValueError") = true := by rw [List.contains_cons, hv, show VEs.contains (.type "ValueError") = true from by decide +kernel, Bool.or_true]
  have z2 := Z.noStar
  simp only [checkBuiltinCall, Z.newKind, Z.newSplit, Z.newRow]
  repeat' (first | refine wpAny_loadPart_at at_ ?_ | (refine wpAny_isSubtype_exc at_ ?_; rw [z1]) | refine wpAny_staticBase_exc at_ ?_ | refine wpAny_madeBy_exc at_ ?_ | simp only [bne_self_eq_false, Bool.false_eq_true, if_false] | wp_step)
  exact q
theorem kw_new {R : Result → Shared → Prop} (hv : ∀ T : String, b2.contains (.type T) = VEs.contains (.type T)) (at_ : hp.get? cl = some (excClassObj n1 n2 cl ns b1 b2 hd sl sb ab co dd m0 m1 m2 m3 m5 "ValueError.__new__")) (hz : us.length ≤ sizeLine)
    (q : R (.ok (.ret (.ref (hp.objs.size + 1)))) ⟨(hp.push (PySem.W.kdv_tup us)).push (excO cl hp.objs.size), gs, dr, tk, os⟩) : codeAny (model p wd) ar (.builtin "ValueError.__new__" ⟨.ref cl :: us, kw⟩) R ⟨hp, gs, dr, tk, os⟩ := by
  have Z := PySem.F.excBase_ValueError
  have z0 := Z.ends
  have z1 : (Value.ref cl :: b2).contains (.type "ValueError") = true := by rw [List.contains_cons, hv, show VEs.contains (.type "ValueError") = true from by decide +kernel, Bool.or_true]
  have z2 : (Value.ref cl :: b2).contains (.type "AttributeError") = false := by rw [List.contains_cons, hv, show VEs.contains (.type "AttributeError") = false from by decide +kernel] <;> rfl
  have z3 : (Value.ref cl :: b2).contains (.type "NameError") = false := by rw [List.contains_cons, hv, show VEs.contains (.type "NameError") = false from by decide +kernel] <;> rfl
  refine codeAny_builtinAt Z.entry ?_
  unfold Builtin.«BaseException.__new__»
  refine PySem.wpAt_bind (show PySem.wpAt _ _ _ (stack >>= _) _ _ _ from PySem.wpAt_bind (PySem.wpAt_stack fun top below => PySem.wpAt_of_wpAny ?_))
  wp_walk
  refine PySem.wpAt_of_wpAny (by
    rw [Z.owner]
    repeat' (first | with_reducible refine wpAny_madeHere_exc Z.canon at_ ?_ | with_reducible refine wpAny_loadPart_at at_ ?_ | (with_reducible refine wpAny_isSubtype_exc at_ ?_; first | rw [z1] | rw [z2] | rw [z3]) | wp_step)
    show R (.ok (.ret (.ref (hp.push (PySem.W.kdv_tup us)).objs.size))) _
    rw [Heap.size_push]
    exact q)
theorem kw_type {Q : PySem.Fin → Shared → Prop} (hv : ∀ T : String, b2.contains (.type T) = VEs.contains (.type T)) (at_ : hp.get? cl = some (excClassObj n1 n2 cl ns b1 b2 hd sl sb ab co dd m0 m1 m2 m3 m5 "ValueError.__new__")) (hz : us.length ≤ sizeLine)
    (l1 : PySem.W.Looks (model p wd) hp (typeLookup (.ref cl) "__init__") (some (.ref fI))) (l2 : ∀ u, PySem.W.Looks (model p wd) hp (bindSpecial (.ref fI) u) (.ref fI, [u]))
    (q : codeAny (model p wd) ar (.call (.ref fI) ⟨.ref (hp.objs.size + 1) :: us, kw⟩) (fun r s' => match r with | .ok (.ret v) => v = .none ∧ Q (.done (.ret (.ref (hp.objs.size + 1)))) s' | .ok _ => False | .error e => er e s')
      ⟨(hp.push (PySem.W.kdv_tup us)).push (excO cl hp.objs.size), gs, dr, tk, os⟩) : wpAny (model p wd) ar (Builtin.«type.__call__» ⟨.ref cl :: us, kw⟩) Q er ⟨hp, gs, dr, tk, os⟩ := by
  repeat' (first | with_reducible refine wpAny_loadPart_at at_ ?_ | with_reducible refine wpAny_madeBy_exc at_ ?_ | wp_step)
  refine codeAny_call_builtin_code (Code.quiet_builtin _ PySem.F.excBase_ValueError.quiet) (kw_check hv at_ (kw_new hv at_ hz (show wpAny _ _ _ _ _ _ from ?_)))
  have up : ∀ b o, hp.get? b = some o → ((hp.push (PySem.W.kdv_tup us)).push (excO cl hp.objs.size)).get? b = some o := fun b o e => Heap.get?_push_of_some _ (Heap.get?_push_of_some _ e)
  have at1 := up _ _ at_
  have at2 : ((hp.push (PySem.W.kdv_tup us)).push (excO cl hp.objs.size)).get? (hp.objs.size + 1) = some (excO cl hp.objs.size) := by heap_get
  have z4 : (Value.ref cl :: b2).contains (.ref cl) = true := by simp
  unfold isInstance
  repeat' (first | with_reducible refine wpAny_loadPart_at at2 ?_ | (with_reducible refine wpAny_isSubtype_exc at1 ?_; rw [z4]) | wp_step)
  refine (show wpAny _ _ (typeLookup (.ref cl) _) _ _ _ from (l1.keeps up).at (wpAny_holding (wpAny_bind (((l2 (.ref (hp.objs.size + 1))).keeps up).at (wpAny_bind (wpAny_call (codeAny_mono q fun r s' y => ?_)))))))
  match r, y with
  | .error e, y => exact y
  | .ok .next, y => exact y.elim
  | .ok .brk, y => exact y.elim
  | .ok .cont, y => exact y.elim
  | .ok (.ret v), y =>
    obtain ⟨rfl, y⟩ := y
    first
      | exact wpAny_pure (wpAny_pure y)
      | (wp_walk; exact y)
theorem kw_own {R : Result → Shared → Prop} (hv : ∀ T : String, b2.contains (.type T) = VEs.contains (.type T)) (at_ : hp.get? cl = some (excClassObj n1 n2 cl ns b1 b2 hd sl sb ab co dd m0 m1 m2 m3 m5 "ValueError.__new__")) (hz : us.length ≤ sizeLine)
    (l1 : PySem.W.Looks (model p wd) hp (typeLookup (.ref cl) "__init__") (some (.ref fI))) (l2 : ∀ u, PySem.W.Looks (model p wd) hp (bindSpecial (.ref fI) u) (.ref fI, [u]))
    (q : codeAny (model p wd) (ar.under (.builtin "type.__call__" ⟨.ref cl :: us, kw⟩)) (.call (.ref fI) ⟨.ref (hp.objs.size + 1) :: us, kw⟩) (PySem.W.InitBack (hp.objs.size + 1) R) ⟨(hp.push (PySem.W.kdv_tup us)).push (excO cl hp.objs.size), gs, dr, tk, os⟩) :
    codeAny (model p wd) ar (.call (.ref cl) ⟨us, kw⟩) R ⟨hp, gs, dr, tk, os⟩ := by
  have z5 := tc_lookup
  have z6 := tc_bind (.ref cl)
  have z7 : (⟨hp, gs, dr, tk, os⟩ : Shared).TypeIs (.ref cl) "type" := ⟨_, at_, rfl⟩
  refine codeAny_of_tree (show wpAny _ _ (callAny (.ref cl) _) _ _ _ from ?_)
  repeat' (any_goals (first | assumption | with_reducible refine wpAny_loadPart_at at_ ?_ | wp_step))
  refine ⟨rfl, codeAny_call_builtin_at (Code.quiet_builtin _ (by decide +kernel)) entry_typeCall (wpAny_check_type_call_sub at_ (kw_type hv at_ hz l1 l2 (codeAny_mono q fun r s' y => ?_)))⟩
  match r, y with
  | .error e, y => exact y
  | .ok .next, y => exact y
  | .ok .brk, y => exact y
  | .ok .cont, y => exact y
  | .ok (.ret v), y => exact y
end
end Zj
/-! Exceptions as values: made, kept in tuples and lists, asked of their class, their fields read. -/
namespace Zj
open PySem PySem.Spec PyProof.Rows L2
variable [Nm]
/-! ### what is known of a value -/
theorem dp_per {K : PySem.W.Frag} {H H' : Hp} {d : PyData} {v : V} (s : ∀ b o, H b = some o → Kd o → H' b = some o) (h : Dp K H v d) : Dp K H' v d := by
  refine dp_map (fun b xs h => ?_) (fun b xs h => ?_) d v h
  · rcases h with (h | ⟨o, h⟩) | h
    · exact .inl (.inl (s _ _ h ⟨fun _ z => (nomatch z), fun _ z => (nomatch z)⟩))
    · exact .inl (.inr ⟨o, s _ _ h ⟨fun _ z => (nomatch z), fun _ z => (nomatch z)⟩⟩)
    · exact .inr h
  · rcases h with (h | ⟨o, h⟩) | h
    · exact .inl (.inl (s _ _ h ⟨fun _ z => (nomatch z), fun _ z => (nomatch z)⟩))
    · exact .inl (.inr ⟨o, s _ _ h ⟨fun _ z => (nomatch z), fun _ z => (nomatch z)⟩⟩)
    · exact .inr h
def datV (K : PySem.W.Frag) (d : PyData) : VR := ⟨fun H v => Dp K H v d, fun s h => dp_per s h⟩
theorem kd_ext {φ : Heap → Prop} : Kd (.ext φ) := ⟨fun _ z => (nomatch z), fun _ z => (nomatch z)⟩
theorem kd_exo {e C : Addr} {d : Option Addr} : Kd (exo e C d) := kd_ext
theorem kd_exd {e : Addr} {fs : List (Str × V)} : Kd (exd e fs) := kd_ext
/-- at e: an exception of the class at C -/
def ErrAt (H : Hp) (e C : Addr) : Prop := H e = some (exo e C none) ∨ ∃ dx gs, H e = some (exo e C (some dx)) ∧ H dx = some (exd dx gs)
def errV (K : PySem.W.Frag) (C : Addr) (fs : List (Str × PyData)) : VR :=
  ⟨fun H v => ∃ e, v = .ref e ∧ ((fs = [] ∧ H e = some (exo e C none)) ∨ ∃ dx gs, H e = some (exo e C (some dx)) ∧ H dx = some (exd dx gs) ∧ ∀ p ∈ fs, ∃ u, gs.lookup p.1 = some u ∧ Dp K H u p.2), fun s h => by
    obtain ⟨e, rfl, h⟩ := h
    refine ⟨e, rfl, ?_⟩
    rcases h with ⟨h0, h1⟩ | ⟨dx, gs, h1, h2, h3⟩
    · exact .inl ⟨h0, s _ _ h1 kd_exo⟩
    · refine .inr ⟨dx, gs, s _ _ h1 kd_exo, s _ _ h2 kd_exd, fun p hp => ?_⟩
      obtain ⟨u, g1, g2⟩ := h3 p hp
      exact ⟨u, g1, dp_per s g2⟩⟩
theorem errV_at {K : PySem.W.Frag} {C : Addr} {fs : List (Str × PyData)} {T : Addr → Prop} {H : Hp} {v : V} (h : (errV K C fs).rel (off T H) v) : ∃ e, v = .ref e ∧ ErrAt H e C := by
  obtain ⟨e, rfl, h⟩ := h
  refine ⟨e, rfl, ?_⟩
  rcases h with ⟨_, h⟩ | ⟨dx, gs, h1, h2, _⟩
  · exact .inl (off_some h).1
  · exact .inr ⟨dx, gs, (off_some h1).1, (off_some h2).1⟩
def tupV (R1 R2 : VR) : VR := ⟨fun H v => ∃ p x y, v = .ref p ∧ H p = some (.tup [x, y]) ∧ R1.rel H x ∧ R2.rel H y, fun s h => by
  obtain ⟨p, x, y, rfl, h1, h2, h3⟩ := h
  exact ⟨p, x, y, rfl, s _ _ h1 ⟨fun _ z => (nomatch z), fun _ z => (nomatch z)⟩, R1.per s h2, R2.per s h3⟩⟩
/-- one each -/
inductive RelA : List VR → Hp → List V → Prop where
  | nil {H : Hp} : RelA [] H []
  | cons {H : Hp} {R : VR} {Rs : List VR} {v : V} {vs : List V} (h : R.rel H v) (t : RelA Rs H vs) : RelA (R :: Rs) H (v :: vs)
theorem RelA.per {H H' : Hp} (s : ∀ b o, H b = some o → Kd o → H' b = some o) : ∀ {Rs : List VR} {vs : List V}, RelA Rs H vs → RelA Rs H' vs
  | _, _, .nil => .nil
  | _, _, .cons h t => .cons (VR.per _ s h) (RelA.per s t)
theorem RelA.len {H : Hp} : ∀ {Rs : List VR} {vs : List V}, RelA Rs H vs → vs.length = Rs.length
  | _, _, .nil => rfl
  | _, _, .cons _ t => by rw [List.length_cons, List.length_cons, RelA.len t]
theorem RelA.get {H : Hp} : ∀ {Rs : List VR} {vs : List V} {i : Nat} {v : V}, RelA Rs H vs → vs[i]? = some v → ∃ R, Rs[i]? = some R ∧ R.rel H v
  | _, _, i, v, .nil, e => by simp at e
  | _, _, 0, v, .cons h _, e => by
    cases e
    exact ⟨_, rfl, h⟩
  | _, _, i + 1, v, .cons _ t, e => RelA.get (i := i) t e
theorem RelA.append {H : Hp} : ∀ {Rs Ss : List VR} {vs us : List V}, RelA Rs H vs → RelA Ss H us → RelA (Rs ++ Ss) H (vs ++ us)
  | _, _, _, _, .nil, h => h
  | _, _, _, _, .cons g t, h => .cons g (RelA.append t h)
def lstV (Rs : List VR) : VR := ⟨fun H v => ∃ p xs, v = .ref p ∧ H p = some (.lst xs) ∧ RelA Rs H xs, fun s h => by
  obtain ⟨p, xs, rfl, h1, h2⟩ := h
  exact ⟨p, xs, rfl, s _ _ h1 ⟨fun _ z => (nomatch z), fun _ z => (nomatch z)⟩, h2.per s⟩⟩
theorem kd_sa {H H' : Hp} (s : Sa H H') : ∀ b o, H b = some o → Kd o → H' b = some o := fun b o e k => s b o e k.1
section
variable {X : Cx} {a : Addr} {ρ : Rho} {e o : Expr} {es : List Expr} {ds : List PyData} {d : PyData} {R R1 R2 : VR} {Rs Ss : List VR} {p pos : Pos} {n : Str} {i k : Nat}
def EvV (X : Cx) (a : Addr) (e : Expr) (ρ : Rho) (R : VR) : Prop := ∀ T σ H, SD X.K a T H σ ρ → ∀ Q : VK, (∀ v H2, Sm H H2 → R.rel (off T H2) v → Q v H2) → JE X e σ H Q
def EvVA (X : Cx) (a : Addr) (es : List Expr) (ρ : Rho) (Rs : List VR) : Prop := ∀ T σ H, SD X.K a T H σ ρ → ∀ Q : List V → Hp → Prop, (∀ vs H2, Sm H H2 → RelA Rs (off T H2) vs → Q vs H2) → JA X es σ H Q
theorem v_of (h : EvE X a e ρ d) : EvV X a e ρ (datV X.K d) := h
theorem e_of (h : EvV X a e ρ (datV X.K d)) : EvE X a e ρ d := h
theorem v_var (hi : ρ[i]? = some (some (.val R))) (hN : X.N[i]? = some n := by rfl) (hv : Vis X.env.scope n := by first | exact Or.inl rfl | exact Or.inr (Or.inl rfl) | exact Or.inr (Or.inr rfl)) (hd : (n == ("__debug__" : Str)) = false := by decide) (hcd : (n == ("__classdict__" : Str)) = false := by decide) :
    EvV X a (.Name n pos) ρ R := fun T σ H S Q q => by
  obtain ⟨v, h1, h2⟩ := S.sl i _ hi
  exact toE (pe_var hN hv hd hcd) ⟨v, h1, q v H (Sm.refl H) h2⟩
theorem va_nil : EvVA X a [] ρ [] := fun T σ H S Q q => toA pa_nil (q _ H (Sm.refl H) .nil)
theorem va_cons (h : EvV X a e ρ R) (h2 : EvVA X a es ρ Rs) (hs : starEach (e :: es) X.env = (false, eval e X.env) :: starEach es X.env := by exact star_of rfl) : EvVA X a (e :: es) ρ (R :: Rs) := fun T σ H S Q q =>
  toA (pa_cons je ja hs) (h T σ H S _ fun v H1 s1 p1 => h2 T σ H1 (S.same s1) _ fun vs H2 s2 p2 => q _ H2 (s1.trans s2) (.cons (VR.same (off_same s2) p1) p2))
theorem v_tup {x1} {e2 : Expr} (h : EvVA X a [e, e2] ρ [R1, R2]) : EvV X a (.Tuple [e, e2] x1 pos) ρ (tupV R1 R2) := fun T σ H S Q q =>
  toE (pe_tup ja) (h T σ H S _ fun vs H1 s1 p1 => by
    cases p1 with
    | cons g1 t =>
      cases t with
      | cons g2 t =>
        cases t
        refine ⟨szl (n := 2) (by decide), fun p0 hp => q _ _ (s1.trans (same_new hp)) ⟨p0, _, _, rfl, ?_, VR.same (off_same (same_new hp)) g1, VR.same (off_same (same_new hp)) g2⟩⟩
        rw [off_new (S.dm.same s1) hp, upd_same])
theorem v_lst (h : EvVA X a es ρ Rs) (hl : Rs.length ≤ 100000 := by decide) : EvV X a (.List es pos) ρ (lstV Rs) := fun T σ H S Q q =>
  toE (pe_lst ja) (h T σ H S _ fun vs H1 s1 p1 => ⟨by rw [p1.len]; exact szl hl, fun p0 hp => q _ _ (s1.trans (same_new hp)) ⟨p0, vs, rfl, by rw [off_new (S.dm.same s1) hp, upd_same], p1.per (kd_sa (off_same (same_new hp)))⟩⟩)
theorem v_cat {l r : Expr} (h1 : EvV X a l ρ (lstV Rs)) (h2 : EvV X a r ρ (lstV Ss)) (hl : Rs.length + Ss.length ≤ 100000 := by decide) : EvV X a (.BinOp l .Add r pos) ρ (lstV (Rs ++ Ss)) := fun T σ H S Q q =>
  toE (pe_op op_catX je je) (h1 T σ H S _ fun v1 H1 s1 q1 => h2 T σ H1 (S.same s1) _ fun v2 H2 s2 q2 => by
    obtain ⟨pa, xs, rfl, g1, g2⟩ := VR.same (R := lstV Rs) (off_same s2) q1
    obtain ⟨pb, ys, rfl, g3, g4⟩ := q2
    refine ⟨pa, pb, xs, ys, rfl, rfl, .of (off_some g1).1, .of (off_some g3).1, by rw [g2.len, g4.len]; exact szl hl, fun p0 hp => q _ _ ((s1.trans s2).trans (same_new hp)) ⟨p0, _, rfl, ?_, (g2.append g4).per (kd_sa (off_same (same_new hp)))⟩⟩
    rw [off_new ((S.dm.same s1).same s2) hp, upd_same])
theorem v_ix {j : Nat} {p2 : Pos} (h : EvV X a o ρ (lstV Rs)) (hR : Rs[i]? = some R) : EvV X a (.Subscript o (.Constant (.int (i : Int)) j p2) pos) ρ R := fun T σ H S Q q =>
  toE (pe_ix ix_list je pe_int (by exact fun _ _ => rfl)) (h T σ H S _ fun v H1 s1 p1 => by
    obtain ⟨pa, xs, rfl, g1, g2⟩ := p1
    have hi : i < xs.length := by
      rw [g2.len]
      exact (List.getElem?_eq_some_iff.mp hR).1
    obtain ⟨R', e1, e2⟩ := g2.get (List.getElem?_eq_getElem hi)
    rw [hR] at e1
    cases e1
    exact ⟨pa, xs, i, _, rfl, rfl, .of (off_some g1).1, atI_nat (List.getElem?_eq_getElem hi), q _ H1 s1 e2⟩)
theorem v_ixT {j : Nat} {p2 : Pos} (h : EvV X a o ρ (tupV R1 R2)) : EvV X a (.Subscript o (.Constant (.int 0) j p2) pos) ρ R1 := fun T σ H S Q q =>
  toE (pe_ix ix_tup je pe_int (by exact fun _ _ => rfl)) (h T σ H S _ fun v H1 s1 p1 => by
    obtain ⟨pa, x, y, rfl, g1, g2, _⟩ := p1
    exact ⟨pa, [x, y], 0, x, rfl, rfl, .of (off_some g1).1, rfl, q _ H1 s1 g2⟩)
/-! ### the object behind it -/
theorem inst_of {pins : List (Addr × Obj)} {σ : L2.St} {H : Hp} {s : Shared} {e0 C : Addr} (I : Inv X pins σ H s) (h : ErrAt H e0 C) : ∃ ox od, PySem.W.InstAt s.heap e0 ox C od := by
  rcases h with h | ⟨dx, gs, h, h2⟩
  · obtain ⟨t1, g⟩ := exo_at I.hok h
    exact ⟨_, none, g, rfl, rfl, trivial⟩
  · obtain ⟨t1, g⟩ := exo_at I.hok h
    obtain ⟨mA, hns, _⟩ := exd_at I.hok h2
    obtain ⟨od, ho, _⟩ := lookIn_ns hns
    exact ⟨_, some od, g, rfl, rfl, ho⟩
theorem call_isV : CallR X (.builtin "isinstance") (fun xs H Q => ∃ e0 C c cv b, xs = [.ref e0, c] ∧ ErrAt H e0 C ∧ L2.ExcC X.K C ∧ ClsV c cv ∧ PySem.W.kitOne X.K (.ref C) cv = some b ∧ Q (.bl b) H) := by
  intro pins s σ H xs us Q I r h
  obtain ⟨e0, C, c, cv, b, rfl, h1, h2, h3, h4, q⟩ := h
  obtain ⟨u1, u2, rfl, r1, r2⟩ := vals2 r
  obtain rfl : u1 = Value.ref e0 := r1
  obtain rfl := h3.eq r2
  obtain ⟨ox, od, J⟩ := inst_of I h1
  have hcl : (PySem.W.clsIn X.K C).isSome = true := by
    obtain ⟨cd, hc, _⟩ := PySem.W.any_some h2.hd
    rw [hc] <;> rfl
  exact PySem.W.kia_one (PySem.W.kitx_exc hcl h2.hg h2.hk h2.hs h2.ha h2.hn h2.ht h2.hm) I.kIn J h4 (fun z => nomatch z) fun tk => ⟨.bl b, H, I.tok tk, rfl, q⟩
theorem e_isV {C : Addr} {fs : List (Str × PyData)} {ty : Str} {c : V} {cv : Value} {b : Bool} {p2 : Pos} (h : EvV X a e ρ (errV X.K C fs)) (hC : L2.ExcC X.K C) (hn : PE X (.Name ty p2) (tC c)) (hc : ClsV c cv) (hk : PySem.W.kitOne X.K (.ref C) cv = some b) (hm : X.mg "isinstance" = none) (hg : Gl X "isinstance" := by rfl)
    (hs1 : starEach (e :: [.Name ty p2]) X.env = (false, eval e X.env) :: starEach [.Name ty p2] X.env := by exact star_of rfl) (hs2 : starEach (.Name ty p2 :: []) X.env = (false, eval (.Name ty p2) X.env) :: starEach [] X.env := by exact star_of rfl)
    (hpl : (backTo pos (starEach [.Name ty p2] X.env)).any (·.1) = false := by exact star_no rfl) : EvE X a (.Call (.Name "isinstance" p) [e, .Name ty p2] [] pos) ρ (.bool b) := fun T σ H S Q q =>
  toE (pe_callB call_isV hg hm (by decide +kernel) (pa_cons je (pa_cons hn pa_nil hs2) hs1) (by decide) (by decide) hs1 hpl) (h T σ H S _ fun v H1 s1 p1 => by
    obtain ⟨e0, rfl, hE⟩ := errV_at p1
    exact ⟨e0, C, c, cv, b, rfl, hE, hC, hc, hk, q _ H1 s1 (.bl b)⟩)
/-- a field, read -/
theorem v_attr {C : Addr} {fs : List (Str × PyData)} {f : Str} (h : EvV X a o ρ (errV X.K C fs)) (hf : (f, d) ∈ fs) (Tf : XfC X.K C) (hno : PySem.W.findIn X.K (.ref C) f = some none) (hb : attributeBase o f X.env (eval o X.env) = eval o X.env := by rfl) : EvE X a (.Attribute o f pos) ρ d := fun T σ H S Q q pins s I => by
  refine attr_of hb (thn (h T σ H S (fun v H1 => ∃ e0 dx gs u, v = .ref e0 ∧ H1 e0 = some (exo e0 C (some dx)) ∧ H1 dx = some (exd dx gs) ∧ gs.lookup f = some u ∧ Q u H1) (fun v H1 s1 p1 => ?_) pins s I) fun u1 s1 hh => ?_)
  · obtain ⟨e0, rfl, h0⟩ := p1
    rcases h0 with ⟨rfl, _⟩ | ⟨dx, gs, h1, h2, h3⟩
    · cases hf
    · obtain ⟨u, g1, g2⟩ := h3 _ hf
      exact ⟨e0, dx, gs, u, rfl, (off_some h1).1, (off_some h2).1, g1, q _ H1 s1 g2⟩
  · obtain ⟨x, H1, I1, rx, e0, dx, gs, u, rfl, h1, h2, h3, q1⟩ := hh
    obtain rfl : u1 = Value.ref e0 := rx
    obtain ⟨t1, g⟩ := exo_at I1.hok h1
    obtain ⟨mA, hns, hr⟩ := exd_at I1.hok h2
    obtain ⟨od, ho, hl⟩ := lookIn_ns hns
    obtain ⟨uu, hu, ru⟩ := RelO.some_of (v := u) (o := mA f) (by rw [← h3]; exact hr f)
    have J : PySem.W.InstAt s1.heap e0 _ C (some od) := ⟨g, rfl, rfl, ho⟩
    exact HandSPX.exc_get I1.kIn J Tf.ga Tf.gg Tf.exC (PySem.W.findObj_own Tf.hdC hno rfl (by rw [hl, hu])) (handed_of ru) ⟨u, H1, I1.tok _, ru, q1⟩
end
end Zj
/-! Own exceptions made as values; walks over values; defs of one value. -/
namespace Zj
open PySem PySem.Spec PyProof.Rows L2
variable [Nm]
section
variable {X : Cx} {CX : CXT} {C fI : Addr} {k : Nat} {fd : FuncData} {ps : List Str} {sp : Sp} {pins : List (Addr × Obj)} {σ : L2.St} {H : Hp} {s : Shared} {us gs : List Value} {kw : List (Str × Value)} {vs : List V} {Q : VK}
theorem oex_do (T : OexC X.K C) (iC : PySem.W.findIn X.K (.ref C) "__init__" = some (some (.ref fI))) (tI : PySem.W.typeIn X.K (.ref fI) = some (.type "function")) (F1 : FnOk X.prog X.w X.K X.mg X.base CX k fI fd ps sp) (hr : Room (k + 1) X.A) (hx : Passes CX X (fun _ _ _ => False))
    (I : Inv X pins σ H s) (hz : us.length ≤ 1000) (hb : ∀ (s' : Shared) (u : Value), X.K.In s'.heap → BindsTo s' fd ⟨u :: us, kw⟩ (ps.zip (u :: gs))) (r : Vals vs gs) (h : ∀ b, H b = none → sp (.ref b :: vs) (upd H b (exo b C none)) (fun v H2 => v = .non ∧ Q (.ref b) H2) (fun _ _ _ => False)) :
    codeAny (model X.prog X.w) X.A (.call (.ref C) ⟨us, kw⟩) (fun r s' => match r with | .error er => X.xe er s' | .ok (.ret u) => EP X pins σ Q u s' | .ok _ => False) s := by
  obtain ⟨n1, n2, ns, b1, b2, sn, sub, ab, col, dd, m0, m1, m2, m3, m5, hC, hbm⟩ := T.cls
  obtain ⟨hp, g, dr, tk, os⟩ := s
  have fresh : H (hp.objs.size + 1) = none := I.hok.fresh (Nat.le_succ _)
  have up : ∀ b o, hp.get? b = some o → ((hp.push (PySem.W.kdv_tup us)).push (PySem.HandSPX.excO C hp.objs.size)).get? b = some o := fun b o e => Heap.get?_push_of_some _ (Heap.get?_push_of_some _ e)
  have got : ((hp.push (PySem.W.kdv_tup us)).push (PySem.HandSPX.excO C hp.objs.size)).get? (hp.objs.size + 1) = some (PySem.HandSPX.excO C hp.objs.size) := by heap_get
  have J : Inv X pins σ (upd H (hp.objs.size + 1) (exo (hp.objs.size + 1) C none)) ⟨(hp.push (PySem.W.kdv_tup us)).push (PySem.HandSPX.excO C hp.objs.size), g, dr, tk, os⟩ := I.laid (t' := tk) up (Nat.le_succ _) (exo_ok got)
  refine kw_own (fun Y => PySem.HandSPX.refsVE_contains Y b2 hbm) (I.kIn _ _ hC) (by rw [sizeLine_eq]; omega) (PySem.W.looks_findIn I.kIn iC) (fun u => PySem.W.bind_fn I.kIn u tI)
    (codeAny_mono (F1.run _ X.stack _ _ ⟨Value.ref (hp.objs.size + 1) :: us, kw⟩ (Value.ref (hp.objs.size + 1) :: gs) _ _ (fun _ _ _ => False) (hr.make C us kw) (J.env0.make C us kw) (hb _ _ J.kIn) (show Vals (V.ref (hp.objs.size + 1) :: vs) (Value.ref (hp.objs.size + 1) :: gs) from .cons rfl r) (h _ fresh)) fun r s' hq => ?_)
  match r, hq with
  | .error er, hq => exact hx pins σ _ _ er s' J hq
  | .ok .next, hq => exact False.elim hq
  | .ok .brk, hq => exact False.elim hq
  | .ok .cont, hq => exact False.elim hq
  | .ok (.ret u), hq =>
    obtain ⟨v, H2, J2, rv, rfl, q⟩ := J.after hq
    exact ⟨rv, .ref (hp.objs.size + 1), H2, J2, rfl, q⟩
end
/-- an own class that keeps its arguments, also by their names -/
structure ClsJ (P : Program) (w : World) (K : PySem.W.Frag) (mg : Str → Option Value) (base : Heap) (x : Str) (ps : List Str) (C : Addr) : Prop where
  ex : ∃ fI fd, mg x = some (.ref C) ∧ OexC K C ∧ PySem.W.findIn K (.ref C) "__init__" = some (some (.ref fI)) ∧ PySem.W.typeIn K (.ref fI) = some (.type "function") ∧ (∀ f ∈ ps, PySem.W.findIn K (.ref C) f = some none) ∧
    FnOk P w K mg base CX0 1 fI fd ("self" :: ps) (spI K ps) ∧ Binds K fd ("self" :: ps) [] ∧ ∀ (s : Shared) (u : Value) (ws : List Value), ws.length = ps.length → BindsTo s fd ⟨[u], ps.zip ws⟩ (List.zip (("self" : Str) :: ps) (u :: ws))
section
variable {X : Cx} {a : Addr} {ρ : Rho} {e : Expr} {es : List Expr} {kws : List Keyword} {ds : List PyData} {x : Str} {ps : List Str} {C : Addr} {p pos : Pos}
theorem mk_fin {T : Addr → Prop} {H1 : Hp} {Q : VK} {vs : List V} (dm : Din T H1) (hn : ∀ f ∈ ps, PySem.W.findIn X.K (.ref C) f = some none) (hO : OexC X.K C) (p1 : DpAll X.K (off T H1) vs ds) (hl : ds.length = ps.length)
    (q : ∀ v H2, Sm H1 H2 → (errV X.K C (ps.zip ds)).rel (off T H2) v → Q v H2) (b : Addr) (hb : H1 b = none) : spI X.K ps (.ref b :: vs) (upd H1 b (exo b C none)) (fun v H2 => v = .non ∧ Q (.ref b) H2) (fun _ _ _ => False) := by
  refine ⟨b, C, vs, rfl, by rw [dps_len p1, hl], hO, upd_same, hn, fun dx fs hdx hne hfs => ⟨rfl, ?_⟩⟩
  rw [upd_ne hne] at hdx
  have eq : upd (upd (upd H1 b (exo b C none)) dx (exd dx fs)) b (exo b C (some dx)) = upd (upd H1 dx (exd dx fs)) b (exo b C (some dx)) := by
    funext c
    by_cases h1 : c = b
    · rw [h1, upd_same, upd_same]
    · rw [upd_ne h1, upd_ne h1]
      by_cases h2 : c = dx
      · rw [h2, upd_same, upd_same]
      · rw [upd_ne h2, upd_ne h2, upd_ne h1]
  rw [eq]
  have hb2 : upd H1 dx (exd dx fs) b = none := by rw [upd_ne (Ne.symm hne)]; exact hb
  have s1 : Sm H1 (upd (upd H1 dx (exd dx fs)) b (exo b C (some dx))) := (same_new hdx).trans (same_new hb2)
  have dm1 := dm.same (same_new (o := exd dx fs) hdx)
  refine q _ _ s1 ⟨b, rfl, .inr ⟨dx, fs, ?_, ?_, fun pr hpr => ?_⟩⟩
  · rw [off_new dm1 hb2, upd_same]
  · rw [off_new dm1 hb2, upd_ne hne, off_new dm hdx, upd_same]
  · obtain ⟨v, g1, g2⟩ := zip_dps (f := pr.1) (d := pr.2) p1 hpr
    exact ⟨v, hfs _ g1, dp_same (off_same s1) g2⟩
theorem v_mk (Cl : ClsJ X.prog X.w X.K X.mg X.base x ps C) (hr : Room 2 X.A) (ha : EvA X a (e :: es) ρ ds) (hl : ds.length = ps.length) (hz : ds.length ≤ 1000) (hg : Gl X x := by rfl)
    (hdb : (x == ("__debug__" : Str)) = false := by decide) (he : starEach (e :: es) X.env = (false, eval e X.env) :: starEach es X.env := by exact star_of rfl) (hpl : (backTo pos (starEach es X.env)).any (·.1) = false := by exact star_no rfl) :
    EvV X a (.Call (.Name x p) (e :: es) [] pos) ρ (errV X.K C (ps.zip ds)) := fun T σ H S Q q pins s I => by
  obtain ⟨fI, fd, hm, hO, hi, ht, hn, F, hb, _⟩ := Cl.ex
  refine wpAny_Call_Name_kw (ld_glob I hg hm ?_ hdb)
  refine PySem.W.callWith_K (h₀ := X.base) I.ok.mod.kin hO.kC (thn (ja.run pos pins s σ H (fun vs H1 => vs.length = ds.length ∧ ∀ b, H1 b = none → spI X.K ps (.ref b :: vs) (upd H1 b (exo b C none)) (fun v H2 => v = .non ∧ Q (.ref b) H2) (fun _ _ _ => False)) I
    (ha T σ H S _ fun vs H1 s1 p1 => ⟨dps_len p1, fun b hb => mk_fin (S.dm.same s1) hn hO p1 hl (fun v H2 s2 h2 => q v H2 (s1.trans s2) h2) b hb⟩)) fun us s1 hv => ?_) he hpl
  obtain ⟨vs, H1, I1, r1, hlen, q1⟩ := hv
  refine ⟨I1.kIn, wpAny_call (codeAny_mono (oex_do (kw := []) hO hi ht F hr pass0 I1 (by show us.length ≤ 1000; rw [← r1.length, hlen]; exact hz) (fun s' u kin => ?_) r1 q1) fun r s' hq => ?_)⟩
  · have := hb s' (u :: us) kin (by rw [List.append_nil, List.length_cons, List.length_cons, ← r1.length, hlen, hl])
    rwa [List.append_nil] at this
  · match r, hq with
    | .error er, hq => exact hq
    | .ok .next, hq => exact hq.elim
    | .ok .brk, hq => exact hq.elim
    | .ok .cont, hq => exact hq.elim
    | .ok (.ret u), hq => exact hq
theorem v_mkK (Cl : ClsJ X.prog X.w X.K X.mg X.base x ps C) (hr : Room 2 X.A) (ha : EvK X a kws ρ ds) (hl : ds.length = ps.length) (hg : Gl X x := by rfl)
    (hall : (backToKw pos (keywordEach kws X.env)).all (·.1.isSome) = true := by rfl) (hks : (backToKw pos (keywordEach kws X.env)).filterMap (·.1) = ps := by rfl)
    (hdb : (x == ("__debug__" : Str)) = false := by decide) (hpl : ((backTo pos (starEach [] X.env)).any (·.1) || (backToKw pos (keywordEach kws X.env)).any (·.1.isNone)) = false := by rfl) :
    EvV X a (.Call (.Name x p) [] kws pos) ρ (errV X.K C (ps.zip ds)) := fun T σ H S Q q pins s I => by
  obtain ⟨fI, fd, hm, hO, hi, ht, hn, F, _, hb⟩ := Cl.ex
  refine wpAny_Call_Name_kw (ld_glob I hg hm ?_ hdb)
  refine PySem.W.callWith_KW0 (h₀ := X.base) I.ok.mod.kin hO.kC hall (thn ((ha T σ H S (fun vs H1 => vs.length = ds.length ∧ ∀ b, H1 b = none → spI X.K ps (.ref b :: vs) (upd H1 b (exo b C none)) (fun v H2 => v = .non ∧ Q (.ref b) H2) (fun _ _ _ => False))
    fun vs H1 s1 p1 => ⟨dps_len p1, fun b hb => mk_fin (S.dm.same s1) hn hO p1 hl (fun v H2 s2 h2 => q v H2 (s1.trans s2) h2) b hb⟩) pos pins s I) fun ws s2 hv => ?_) hpl
  obtain ⟨vs, H1, I1, r1, hlen, q1⟩ := hv
  refine ⟨I1.kIn, ?_⟩
  rw [hks]
  refine wpAny_call (codeAny_mono (oex_do (us := []) (kw := ps.zip ws) (gs := ws) hO hi ht F hr pass0 I1 (by simp) (fun s' u kin => hb s' u ws (by rw [← r1.length, hlen, hl])) r1 q1) fun r s' hq => ?_)
  match r, hq with
  | .error er, hq => exact hq
  | .ok .next, hq => exact hq.elim
  | .ok .brk, hq => exact hq.elim
  | .ok .cont, hq => exact hq.elim
  | .ok (.ret u), hq => exact hq
theorem v_mkP (Cl : ClsP X.K X.mg x) (hC : X.mg x = some (.ref C)) (hg : Gl X x := by rfl) (hdb : (x == ("__debug__" : Str)) = false := by decide) : EvV X a (.Call (.Name x p) [] [] pos) ρ (errV X.K C []) := fun T σ H S Q q pins s I => by
  obtain ⟨C', B, newId, initId, bmB, hm, F, hE, hk, hs, ht⟩ := Cl.ex
  rw [hC] at hm
  cases hm
  refine wpAny_Call_Name_kw (ld_glob I hg hC ?_ hdb)
  refine PySem.W.callWith_K0 I.kIn hk ?_
  obtain ⟨bm, N, nm, qn, bs, hdct, sn, sub, ab, col, dd, k0, k1, k2, k3, k5, mN, o1, o2, o3, T0⟩ := exc_obj I.kIn hE
  refine wpAny_call_exc_subT F T0 o1 o2 o3 (fun h' e' hm' => ?_) (Nat.zero_le _)
  have n1 : H e' = none := I.hok.gone hm'.new
  obtain ⟨t, ht', _, _⟩ := hm'.there
  refine ⟨.ref e', upd H e' (exo e' C none), I.laidN hm'.keeps hm'.new n1 (exo_ok ht'), rfl, q _ _ (same_new n1) ⟨e', rfl, .inl ⟨rfl, ?_⟩⟩⟩
  rw [off_new S.dm n1, upd_same]
end
/-! ### statements, walks, defs -/
section
variable {X : Cx} {a : Addr} {ρ : Rho} {e c elt it : Expr} {R R1 R2 : VR} {Rs : List VR} {p pos pos' : Pos} {N : Rho → Prop} {Rd : PyData → Prop} {i : Nat} {y : Str}
theorem rs_setV (G : Good X) (h : EvV X a e ρ R) (hn : N (ρ.set i (some (.val R)))) (hi : X.N[i]? = some y := by rfl) (hx : Loc X.env.scope y := by first | exact Or.inl rfl | exact Or.inr rfl)
    (hs : swapsWith e (some (.Name y pos')) pos.line X.env = pure false := by rfl) (hf : X.fn y = true ∨ X.env.scope.names.lookup y = some .local := by first | exact .inl rfl | exact .inr rfl) : RunS X a (.Assign [.Name y pos'] e pos) ρ N Rd := fun T σ H D S kn kr =>
  toS (ps_set G.nd hi hx je hs hf) (h T σ H S _ fun v H1 s1 p1 => kn _ H1 _ s1 ((S.same s1).put (x := .val R) p1) hn)
def spV (K : PySem.W.Frag) (Rl : VR → PyData → Prop) : Sp := fun vs H Q _ => ∃ T v R d, Din T H ∧ vs = [v] ∧ R.rel (off T H) v ∧ Rl R d ∧ ∀ v' H', Sm H H' → Dp K (off T H') v' d → Q v' H'
theorem e_callV {k : Nat} {x n : Str} {Rl : VR → PyData → Prop} {d : PyData} (Cl : CalG X.prog X.w X.K X.mg X.base k x [n] (spV X.K Rl)) (hgd : X.A.guards = some []) (hr : Room k X.A) (h : EvV X a e ρ R) (hR : Rl R d)
    (hg : Gl X x := by rfl) (hdb : (x == ("__debug__" : Str)) = false := by decide) (he : starEach [e] X.env = (false, eval e X.env) :: starEach [] X.env := by exact star_of rfl) (hpl : (backTo pos (starEach [] X.env)).any (·.1) = false := by exact star_no rfl) : EvE X a (.Call (.Name x p) [e] [] pos) ρ d := fun T σ H S Q q =>
  toE (pe_callG Cl hgd hr (pa_cons je pa_nil he) hg hdb he hpl) (h T σ H S _ fun v H1 s1 p1 => ⟨T, v, R, d, S.dm.same s1, rfl, p1, hR, fun v' H' s' p' => q v' H' (s1.trans s') p'⟩)
theorem wipe_two {σ : L2.St} {i j : Nat} {x y : Option V} : L2.wipe (((L2.wipe σ [i, j]).set i x).set j y) [i, j] = L2.wipe σ [i, j] := by
  apply List.ext_getElem?
  intro n
  rw [wipe_get, wipe_get]
  by_cases hn : n ∈ [i, j]
  · rw [if_pos hn, if_pos hn, List.length_set, List.length_set, wipe_length]
  · rw [if_neg hn, if_neg hn]
    have h1 : n ≠ i := fun z => hn (by rw [z]; simp)
    have h2 : n ≠ j := fun z => hn (by rw [z]; simp)
    rw [List.getElem?_set_ne (Ne.symm h2), List.getElem?_set_ne (Ne.symm h1), wipe_get, if_neg hn]
/-- nothing is kept of pairs of values -/
theorem e_lcV0 {i1 i2 kk : Nat} {y1 y2 : Str} {p1 p2 tpos : Pos} {scope : Scope} (G : Good X) (hs : EvV X a it ρ (lstV Rs)) (ok : BlkOk X.N X.env.scope scope [(y1, i1), (y2, i2)])
    (hg : ∀ (s : Shared) (H : Hp) (C : Addr) (cl : List (Str × Addr)) (fp : List Addr), PG (X.blk s H scope (compEnvC scope cl C X.env) fp) (.Tuple [.Name y1 p1, .Name y2 p2] kk tpos) (gTup X.K 2 (gCons (gName i1) (gCons (gName i2) gNil))))
    (hb : ∀ R ∈ Rs, ∃ R1 R2, R = tupV R1 R2 ∧ EvTb X scope a c (((wipeR ρ [i1, i2]).set i1 (some (.val R1))).set i2 (some (.val R2))) false)
    (hf : ∀ x, foldedSetIterable it X.env x = pure x := by intro _; rfl) : EvE X a (.ListComp elt [⟨.Tuple [.Name y1 p1, .Name y2 p2] kk tpos, it, [c], 0⟩] scope pos) ρ (.list []) := fun T σ H S Q q => by
  refine toE (pe_lc (own := [(y1, i1), (y2, i2)]) (te := JEb X scope elt) (tt := JTb X scope c) G.calm G.nd (pi_list je) ok hg (fun s H0 C cl fp => pts_one ⟨fun pins s' σ' H' Q' I h => h s H0 C cl fp pins s' I⟩) (fun s H0 C cl fp => ⟨fun pins s' σ' H' Q' I h => h s H0 C cl fp pins s' I⟩) hf) ?_
  refine hs T σ H S _ fun v H1 s1 g0 => ?_
  obtain ⟨pa, xs, rfl, g1, g2⟩ := g0
  have g1' := (off_some g1).1
  refine ⟨pa, rfl, ⟨xs, .of g1'⟩, ?_⟩
  intro D hD
  have S1 := S.same s1
  have nD : ¬ T D := fun z => S1.dm.dn D z hD
  have hpD : pa ≠ D := fun z => by
    rw [z, hD] at g1'
    cases g1'
  refine lc_it (walk_list (a := pa) (xs := xs)) (fun _ H' => Sm H1 H' ∧ H' D = some (.lst [])) ⟨same_new hD, upd_same⟩ (fun i H' _ p => .of (p.1.ob _ _ g1' (by intro ps z; cases z))) (fun i x H' H'' hi p y => ?_) fun H' p => ?_
  · obtain ⟨rfl, hx⟩ := y
    have g2' : RelA Rs (off (And1 T D) H'') xs := (g2.per fun b o e k => by
      obtain ⟨e1, e2⟩ := off_some e
      rw [off_no (fun z => z.elim e2 fun z => by rw [z, hD] at e1; cases e1)]
      exact p.1.ob _ _ e1 k.1)
    obtain ⟨R0, r1, r2⟩ := g2'.get hx
    obtain ⟨R1, R2, rfl, hc⟩ := hb R0 (List.mem_of_getElem? r1)
    obtain ⟨T0, x1, x2, rfl, t1, t2, t3⟩ := r2
    have S2 : SD X.K a (And1 T D) H'' (L2.wipe σ [i1, i2]) (wipeR ρ [i1, i2]) := ⟨(S1.wipe _).len, ⟨fun b hb => by
      rcases hb with hb | hb
      · exact p.1.dm b (S1.dm.dn b hb)
      · rw [hb, p.2]
        exact (fun z => nomatch z), fun P hP => p.1.tb P (S1.dm.tb P hP)⟩, fun j z e => by
      obtain ⟨v, q1, q2⟩ := (S1.wipe [i1, i2]).sl j z e
      have up : ∀ b o, off T H1 b = some o → Kd o → off (And1 T D) H'' b = some o := fun b o e k => by
        obtain ⟨e1, e2⟩ := off_some e
        rw [off_no (fun z => z.elim e2 fun z => by rw [z, hD] at e1; cases e1)]
        exact p.1.ob _ _ e1 k.1
      refine ⟨v, q1, ?_⟩
      cases z with
      | dat d => exact dp_per up q2
      | hnd => exact q2
      | adr _ => exact q2
      | val R => exact R.per up q2⟩
    refine ⟨T0, [x1, x2], rfl, .of (off_some t1).1, rfl, x1, [x2], rfl, x2, [], rfl, rfl, wipe_two, ?_⟩
    exact fun s H0 C cl fp => hc s H0 C cl fp (And1 T D) _ H'' ((S2.put (x := .val R1) t2).put (x := .val R2) t3) _ fun H3 s3 => iteF ⟨p.1.trans s3, s3.ob _ _ p.2 (by intro ps z; cases z)⟩
  · exact q _ H' (s1.trans p.1) (.lst (.of (by rw [off_no nD]; exact p.2)) .nil)
end
section
variable {P : Program} {w : World} {K : PySem.W.Frag} {mg : Str → Option Value} {base : Heap}
theorem SD.startV {a : Addr} {T : Addr → Prop} {H : Hp} {N : List Str} {v : V} {R : VR} (t : Din T H) (h : R.rel (off T H) v) : SD K a T H (L2.start N [v]) (some (.val R) :: List.replicate (N.length - 1) none) := by
  refine ⟨by unfold L2.start; simp, t, fun i x e => ?_⟩
  cases i with
  | zero =>
    cases (show some (some (DV.val R)) = some (some x) from e)
    exact ⟨v, rfl, h⟩
  | succ i =>
    have e' : (List.replicate (N.length - 1) (none : Option DV))[i]? = some (some x) := e
    rw [List.getElem?_replicate] at e'
    split at e' <;> cases e'
theorem fnV {x qual n : Str} {st : Stmt} {f : Addr} {fd : FuncData} {N : List Str} {k : Nat} {Rl : VR → PyData → Prop} (F : Fun K x qual st f fd) (S : FnScope N [n] (defScope st))
    (hb : ∀ (cdv : Value) (A : Around) (outer : List Env) (s : Shared) (H : Hp) (E : XK), Good (cxOf CX0 P w K mg base N qual (defScope st) f cdv A outer s H E).nox → Room k (cxOf CX0 P w K mg base N qual (defScope st) f cdv A outer s H E).nox.A →
      (cxOf CX0 P w K mg base N qual (defScope st) f cdv A outer s H E).nox.A.guards = some [] → ∀ R d, Rl R d →
      Run (cxOf CX0 P w K mg base N qual (defScope st) f cdv A outer s H E).nox 0 (defBody st) (some (.val R) :: List.replicate (N.length - 1) none) (fun _ => d = .none) (fun d' => d' = d)) : FnG P w K mg base CX0 (k + 1) f fd [n] (spV K Rl) :=
  fnG F S (fun vs H Q E h => by
    obtain ⟨T, v, R, d, _, rfl, _⟩ := h
    rfl) fun cdv hcv A outer s H vs Q E hgd hr h => by
    obtain ⟨T, v, R, d, dm, rfl, h1, h2, h3⟩ := h
    refine hb cdv A outer s H E ⟨S.nd, rfl, PassesOwn.never, hr.units⟩ hr hgd R d h2 T _ H _ (SD.startV dm h1) (fun σ' H' ρ' s1 S1 e => ?_) fun v H' d' s1 p e => ?_
    · exact h3 _ H' s1 (by rw [e]; exact .non)
    · subst e
      exact h3 v H' s1 p
end
end Zj
/-! Turns as many as are drawn. -/
namespace Zj
open PySem PySem.Spec PyProof.Rows L2
variable [Nm]
section
variable {X : Cx} {a : Addr} {ρ : Rho} {n n1 : Nat} {N : Nat → Rho → Prop} {R : Nat → PyData → Prop} {tg e : Expr} {pos pos' p : Pos} {body : List Stmt} {g : TG} {vs : List Nat} {f : PyData → Rho → Option Rho} {Pk : Int → Prop}
theorem qs_forR (G : Good X) (he : EvM X a e ρ n n1 (fun d => ∃ k : Int, d = .int k ∧ 0 ≤ k ∧ k < 2 ^ 60 ∧ Pk k)) (hg : PG X tg g) (ht : TgSem X.K a g vs f) (J : Int → Nat → Nat → Rho → Prop) (h0 : ∀ k, Pk k → J k 0 n1 ρ)
    (hb : ∀ k, Pk k → ∀ i m ρ1, i < k.toNat → J k i m ρ1 → ∃ ρ2, f (.int (i : Int)) ρ1 = some ρ2 ∧ RunM X a body ρ2 m (fun m' ρ' => J k (i + 1) m' ρ') R) (hd : ∀ k, Pk k → ∀ m ρ', J k k.toNat m ρ' → N m ρ') (hm : X.mg "range" = none) (hgr : Gl X "range" := by rfl)
    (hs : starEach [e] X.env = [(false, eval e X.env)] := by exact star_of rfl) (hf : ∀ x, foldedSetIterable (.Call (.Name "range" p) [e] [] pos') X.env x = pure x := by intro _; rfl) : RunMS X a (.For tg (.Call (.Name "range" p) [e] [] pos') body [] pos) ρ n N R := fun T σ H D S ms kn kr => by
  refine toS (ps_for G.ow G.calm (pi_range1 hgr hm ja hs) hg jss hf) (ma_cons (k := n1) he (fun _ _ => ma_nil (Nat.le_refl _)) hs T σ H S ms _ fun us ds H1 s1 ms1 p1 hp => ?_)
  obtain ⟨_, _, rfl, ⟨k, rfl, k0, k1, hk⟩, rfl⟩ := hp
  obtain ⟨v, rfl, q⟩ := dps1 p1
  have S1 := S.kpo s1 ms
  refine ⟨k, by rw [dp_int q], by omega, by omega, for_it walk_range (fun i σ' H' => Kp a H1 H' ∧ ∃ ρ' m, SD X.K a T H' σ' ρ' ∧ MS X.K (off T H') a m ∧ J k i m ρ') ⟨Kp.refl, ρ, n1, S1, ms1, h0 k hk⟩ (fun _ _ _ _ _ => trivial) (fun i x σ' H' H'' hi hp y => ?_) fun σ' H' hp => ?_⟩
  · obtain ⟨s2, ρ', m, S', ms', hj⟩ := hp
    obtain ⟨rfl, rfl⟩ := y
    obtain ⟨ρ2, e2, hrun⟩ := hb k hk i m ρ' hi hj
    have e : V.int ((0 : Int) + (i : Int)) = V.int (i : Int) := by rw [Int.zero_add]
    refine ht T σ' _ _ (.int (i : Int)) ρ' ρ2 S' (by show Dp X.K (off T _) (V.int ((0 : Int) + (i : Int))) _; rw [e]; exact .int _) e2 _ fun σ2 S2 _ => ?_
    exact hrun T σ2 _ _ S2 ms' (fun σ3 H3 ρ3 m3 s4 S3 ms3 n3 => ⟨s2.trans s4, ρ3, m3, S3, ms3, n3⟩) fun v H3 d m3 s4 ms4 p r => kr v H3 d m3 (s1.trans (s2.trans s4)) ms4 p r
  · obtain ⟨s2, ρ', m, S', ms', hj⟩ := hp
    exact kn σ' H' ρ' m (s1.trans s2) S' ms' (hd k hk m ρ' hj)
end
end Zj
/-! The text of the program and of the law, by places. -/
namespace K0
open PySem PySem.Spec PyProof.Rows L2 Zj
def top (i : Nat) : Stmt := PySem.Challenge.pw_onesolid_k00_fractions_and_errors.main.body.getD i (.Pass ⟨0, 0, 0, 0⟩)
abbrev st_is_whole : Stmt := top 21
abbrev n_is_whole : List Str := ["value"]
theorem sc_is_whole : FnScope n_is_whole ["value"] (defScope st_is_whole) := ⟨rfl, rfl, rfl, by decide +kernel, rfl, by decide +kernel, by decide +kernel⟩
abbrev st_wrong_place : Stmt := top 22
abbrev n_wrong_place : List Str := ["value", "many", "place", "number"]
theorem sc_wrong_place : FnScope n_wrong_place ["value", "many"] (defScope st_wrong_place) := ⟨rfl, rfl, rfl, by decide +kernel, rfl, by decide +kernel, by decide +kernel⟩
abbrev st_sign_of : Stmt := top 23
abbrev n_sign_of : List Str := ["number"]
theorem sc_sign_of : FnScope n_sign_of ["number"] (defScope st_sign_of) := ⟨rfl, rfl, rfl, by decide +kernel, rfl, by decide +kernel, by decide +kernel⟩
abbrev st_check_fraction : Stmt := top 24
abbrev n_check_fraction : List Str := ["value"]
theorem sc_check_fraction : FnScope n_check_fraction ["value"] (defScope st_check_fraction) := ⟨rfl, rfl, rfl, by decide +kernel, rfl, by decide +kernel, by decide +kernel⟩
abbrev st_lowest : Stmt := top 25
abbrev n_lowest : List Str := ["top", "bottom", "divisor"]
theorem sc_lowest : FnScope n_lowest ["top", "bottom"] (defScope st_lowest) := ⟨rfl, rfl, rfl, by decide +kernel, rfl, by decide +kernel, by decide +kernel⟩
abbrev st_added : Stmt := top 26
abbrev n_added : List Str := ["one", "other"]
theorem sc_added : FnScope n_added ["one", "other"] (defScope st_added) := ⟨rfl, rfl, rfl, by decide +kernel, rfl, by decide +kernel, by decide +kernel⟩
abbrev st_minus : Stmt := top 27
abbrev n_minus : List Str := ["one", "other"]
theorem sc_minus : FnScope n_minus ["one", "other"] (defScope st_minus) := ⟨rfl, rfl, rfl, by decide +kernel, rfl, by decide +kernel, by decide +kernel⟩
abbrev st_times : Stmt := top 28
abbrev n_times : List Str := ["one", "other"]
theorem sc_times : FnScope n_times ["one", "other"] (defScope st_times) := ⟨rfl, rfl, rfl, by decide +kernel, rfl, by decide +kernel, by decide +kernel⟩
abbrev st_divided : Stmt := top 29
abbrev n_divided : List Str := ["one", "other"]
theorem sc_divided : FnScope n_divided ["one", "other"] (defScope st_divided) := ⟨rfl, rfl, rfl, by decide +kernel, rfl, by decide +kernel, by decide +kernel⟩
abbrev st_halfway : Stmt := top 30
abbrev n_halfway : List Str := ["one", "other"]
theorem sc_halfway : FnScope n_halfway ["one", "other"] (defScope st_halfway) := ⟨rfl, rfl, rfl, by decide +kernel, rfl, by decide +kernel, by decide +kernel⟩
abbrev st_compared : Stmt := top 31
abbrev n_compared : List Str := ["one", "other"]
theorem sc_compared : FnScope n_compared ["one", "other"] (defScope st_compared) := ⟨rfl, rfl, rfl, by decide +kernel, rfl, by decide +kernel, by decide +kernel⟩
abbrev st__law_begun : Stmt := top 33
abbrev n__law_begun : List Str := ["script", "k", "cells", "cell", "great", "seed"]
theorem sc__law_begun : FnScope n__law_begun ["script", "k"] (defScope st__law_begun) := ⟨rfl, rfl, rfl, by decide +kernel, rfl, by decide +kernel, by decide +kernel⟩
abbrev st__law_draw : Stmt := top 34
abbrev n__law_draw : List Str := ["m", "bound", "found", "spot", "cells", "extra", "cell", "blend"]
theorem sc__law_draw : FnScope n__law_draw ["m", "bound"] (defScope st__law_draw) := ⟨rfl, rfl, rfl, by decide +kernel, rfl, by decide +kernel, by decide +kernel⟩
abbrev st__law_like : Stmt := top 35
abbrev n__law_like : List Str := ["told", "due"]
theorem sc__law_like : FnScope n__law_like ["told", "due"] (defScope st__law_like) := ⟨rfl, rfl, rfl, by decide +kernel, rfl, by decide +kernel, by decide +kernel⟩
abbrev st__law_sign : Stmt := top 36
abbrev n__law_sign : List Str := ["number"]
theorem sc__law_sign : FnScope n__law_sign ["number"] (defScope st__law_sign) := ⟨rfl, rfl, rfl, by decide +kernel, rfl, by decide +kernel, by decide +kernel⟩
abbrev st__law_common : Stmt := top 37
abbrev n__law_common : List Str := ["numbers", "found", "number", "remnant"]
theorem sc__law_common : FnScope n__law_common ["numbers"] (defScope st__law_common) := ⟨rfl, rfl, rfl, by decide +kernel, rfl, by decide +kernel, by decide +kernel⟩
abbrev st__law_lowered : Stmt := top 38
abbrev n__law_lowered : List Str := ["numbers", "whole", "number"]
theorem sc__law_lowered : FnScope n__law_lowered ["numbers"] (defScope st__law_lowered) := ⟨rfl, rfl, rfl, by decide +kernel, rfl, by decide +kernel, by decide +kernel⟩
abbrev st__law_fraction : Stmt := top 39
abbrev n__law_fraction : List Str := ["top_so", "bottom_so", "found"]
theorem sc__law_fraction : FnScope n__law_fraction ["top_so", "bottom_so"] (defScope st__law_fraction) := ⟨rfl, rfl, rfl, by decide +kernel, rfl, by decide +kernel, by decide +kernel⟩
abbrev st__law_integer : Stmt := top 40
abbrev n__law_integer : List Str := ["m", "found", "turn"]
theorem sc__law_integer : FnScope n__law_integer ["m"] (defScope st__law_integer) := ⟨rfl, rfl, rfl, by decide +kernel, rfl, by decide +kernel, by decide +kernel⟩
abbrev st__law_heard : Stmt := top 41
abbrev n__law_heard : List Str := ["call", "caught"]
theorem sc__law_heard : FnScope n__law_heard ["call"] (defScope st__law_heard) := ⟨rfl, rfl, rfl, by decide +kernel, rfl, by decide +kernel, by decide +kernel⟩
abbrev st__law_pair : Stmt := top 42
abbrev n__law_pair : List Str := ["m", "bottom_so"]
theorem sc__law_pair : FnScope n__law_pair ["m"] (defScope st__law_pair) := ⟨rfl, rfl, rfl, by decide +kernel, rfl, by decide +kernel, by decide +kernel⟩
abbrev st__law_two_right : Stmt := top 43
abbrev n__law_two_right : List Str := ["one_so", "other_so", "a", "b", "c", "d", "due"]
theorem sc__law_two_right : FnScope n__law_two_right ["one_so", "other_so"] (defScope st__law_two_right) := ⟨rfl, rfl, rfl, by decide +kernel, rfl, by decide +kernel, by decide +kernel⟩
abbrev st__law_lowest_right : Stmt := top 44
abbrev n__law_lowest_right : List Str := ["m", "due", "pair", "bottom_so", "top_so", "value_so"]
theorem sc__law_lowest_right : FnScope n__law_lowest_right ["m"] (defScope st__law_lowest_right) := ⟨rfl, rfl, rfl, by decide +kernel, rfl, by decide +kernel, by decide +kernel⟩
abbrev st__law_hand_right : Stmt := top 45
abbrev n__law_hand_right : List Str := ["pair", "told", "odd"]
theorem sc__law_hand_right : FnScope n__law_hand_right [] (defScope st__law_hand_right) := ⟨rfl, rfl, rfl, by decide +kernel, rfl, by decide +kernel, by decide +kernel⟩
abbrev st__law_kinds : Stmt := top 46
abbrev n__law_kinds : List Str := ["error", "found", "word_so", "is_so"]
theorem sc__law_kinds : FnScope n__law_kinds ["error"] (defScope st__law_kinds) := ⟨rfl, rfl, rfl, by decide +kernel, rfl, by decide +kernel, by decide +kernel⟩
abbrev st__law_errors_right : Stmt := top 47
abbrev n__law_errors_right : List Str := ["some", "told", "error", "word_so"]
theorem sc__law_errors_right : FnScope n__law_errors_right [] (defScope st__law_errors_right) := ⟨rfl, rfl, rfl, by decide +kernel, rfl, by decide +kernel, by decide +kernel⟩
abbrev st_law : Stmt := top 48
abbrev n_law : List Str := ["script", "k", "m", "turn"]
theorem sc_law : FnScope n_law ["script"] (defScope st_law) := ⟨rfl, rfl, rfl, by decide +kernel, rfl, by decide +kernel, by decide +kernel⟩
end K0
/-! Defs of the program and of the law that several laws share. -/
namespace K0
open PySem PySem.Spec PyProof.Rows L2 Zj
variable [Nm]
section
variable {P : Program} {w : World} {K : PySem.W.Frag} {mg : Str → Option Value} {base : Heap} {f : Addr} {fd : FuncData}
theorem ok_whole (F : Fun K "is_whole" "is_whole" st_is_whole f fd) (T : Tx mg) : FnOk P w K mg base CX0 1 f fd ["value"] (spR K R_whole) := by
  refine fnR F sc_is_whole (fun ds d h => by obtain ⟨x, rfl, _⟩ := h; rfl) fun cdv A outer s H E G hr ds d h => ?_
  obtain ⟨x, rfl, rfl⟩ := h
  rw [whole_is]
  exact r_one (rs_ret (e_and2 (e_isInt (e_var (i := 0) rfl) T.isi T.int) (e_not (e_isBool (e_var (i := 0) rfl) T.isi T.bool))) rfl)
theorem ok_wrong (F : Fun K "wrong_place" "wrong_place" st_wrong_place f fd) (T : Tx mg) (C1 : Cal P w K mg base 1 "is_whole" ["value"] (spR K R_whole)) : FnOk P w K mg base CX0 2 f fd ["value", "many"] (spR K R_wrong) := by
  refine fnR F sc_wrong_place (fun ds d h => by obtain ⟨v, m, rfl, _⟩ := h; rfl) fun cdv A outer s H E G hr ds d h => ?_
  obtain ⟨v, m, rfl, hz, rfl⟩ := h
  by_cases hv : ∃ xs, v = .tuple xs ∧ (xs.length : Int) = m
  · obtain ⟨xs, rfl, rfl⟩ := hv
    have hz := hz xs rfl
    have e0 : wrongD (.tuple xs) xs.length = placeD (badAt xs) := by
      show (if (xs.length : Int) = xs.length then placeD (badAt xs) else _) = _
      rw [if_pos rfl]
    rw [e0]
    refine r_cons (rs_if (b := false) (t_or2 (b := false) (t_is (t_not (t_val (e_isTup (e_var (i := 0) rfl) T.isi T.tuple))) rfl) (fun _ => t_is (t_cmp od_neI (e_callB ca_lenT (a_cons (e_var (i := 0) rfl) a_nil) T.len (by decide +kernel)) (e_var (i := 1) rfl) (nomark _)) (by simp)) nofun) nofun fun _ => r_nil ?_)
    refine r_cons (rs_for G (src_ET (a_cons (e_var (i := 0) rfl) a_nil) T.enum) (pg_tup rfl (pgs_cons (pg_name (i := 2) sc_wrong_place.nd rfl (Or.inl rfl)) (pgs_cons (pg_name (i := 3) sc_wrong_place.nd rfl (Or.inl rfl)) pgs_nil))) (tg_pair (vs := [2, 3]) (by decide) (by decide))
      (fun n ρ' => (∃ x y, ρ' = [some (.dat (.tuple xs)), some (.dat (.int xs.length)), x, y]) ∧ ∀ i y, i < n → xs[i]? = some y → (!wholeD y) = false) ⟨⟨_, _, rfl⟩, fun i y hi => by omega⟩ (fun n d ρ1 hd hJ => ?_) fun ρ' hJ => ?_)
    · obtain ⟨x, hx, rfl⟩ := getN hd
      obtain ⟨⟨_, _, rfl⟩, hb⟩ := hJ
      refine ⟨_, rfl, r_one (rs_if (t_not (t_val (e_call C1 (hr.mono (by decide)) (a_cons (e_var (i := 3) rfl) a_nil) ⟨x, rfl, rfl⟩))) (fun hw => r_one (rs_ret (e_var (i := 2) rfl) ?_)) fun hw => r_nil ⟨⟨_, _, rfl⟩, fun i y hi hy => ?_⟩)⟩
      · rw [show badAt xs = some n from find_hit hx hw hb] <;> rfl
      · by_cases hin : i = n
        · subst hin
          rw [hx] at hy
          cases hy
          exact hw
        · exact hb i y (by omega) hy
    · obtain ⟨⟨_, _, rfl⟩, hb⟩ := hJ
      rw [numbered_len] at hb
      refine r_one (rs_ret e_non ?_)
      rw [show badAt xs = none from find_miss hb] <;> rfl
  · have e0 : wrongD v m = .int (-1) := by
      cases v with
      | tuple xs =>
        show (if (xs.length : Int) = m then placeD (badAt xs) else .int (-1)) = _
        rw [if_neg (fun z => hv ⟨xs, rfl, z⟩)]
      | _ => rfl
    rw [e0]
    refine r_cons (rs_if (b := true) (t_or2 (t_not (t_val (e_isTup (e_var (i := 0) rfl) T.isi T.tuple))) (fun hb => ?_) fun _ => rfl) (fun _ => r_one (rs_ret (e_neg e_int) rfl)) nofun)
    cases v with
    | tuple xs => exact t_is (t_cmp od_neI (e_callB ca_lenT (a_cons (e_var (i := 0) rfl) a_nil) T.len (by decide +kernel)) (e_var (i := 1) rfl) (nomark _)) (by
        have hne : ¬ (xs.length : Int) = m := fun z => hv ⟨xs, rfl, z⟩
        simp [hne])
    | _ => cases hb
theorem ok_sign (F : Fun K "sign_of" "sign_of" st_sign_of f fd) : FnOk P w K mg base CX0 1 f fd ["number"] (spR K R_sign) := by
  refine fnR F sc_sign_of (fun ds d h => by obtain ⟨x, rfl, _⟩ := h; rfl) fun cdv A outer s H E G hr ds d h => ?_
  obtain ⟨n, rfl, rfl⟩ := h
  refine r_cons (rs_if (t_cmp od_gt (e_var (i := 0) rfl) e_int (nomark _)) (fun h => r_one (rs_ret e_int ?_)) fun h => r_nil (r_cons (rs_if (t_cmp od_lt (e_var (i := 0) rfl) e_int (nomark _)) (fun h' => r_one (rs_ret (e_neg e_int) ?_)) fun h' => r_nil (r_one (rs_ret e_int ?_)))))
  · unfold sgn
    rw [if_pos (of_decide_eq_true h)]
  · unfold sgn
    rw [if_neg (of_decide_eq_false h), if_pos (of_decide_eq_true h')]
  · unfold sgn
    rw [if_neg (of_decide_eq_false h), if_neg (of_decide_eq_false h')]
theorem ok_begun (F : Fun K "_law_begun" "_law_begun" st__law_begun f fd) (T : Tx mg) : FnG P w K mg base CX0 1 f fd ["script", "k"] (spB K) := by
  refine fnG F sc__law_begun (fun vs H Q E h => by
    obtain ⟨T, xs, k, _, h1, _⟩ := h
    exact dps_len h1) fun cdv _ A outer s H vs Q E hgd hr h => ?_
  obtain ⟨T', xs, k, dm, hd, hk, hl, hb, hq⟩ := h
  have G : Good (cxOf CX0 P w K mg base n__law_begun "_law_begun" (defScope st__law_begun) f cdv A outer s H E).nox := ⟨sc__law_begun.nd, rfl, PassesOwn.never, hr.units⟩
  obtain ⟨cells, hc, hcl, hcm⟩ := cut_cells xs k
  obtain ⟨great, hg⟩ := kept_big cells
  have hcb : BitsL 1100000 cells := fun y hy => hb y (hcm y hy)
  have S0 := SD.start (N := n__law_begun) (a := 0) dm hd
  refine js_cons (N := fun ρ' => ρ' = [some (.dat (lI xs)), some (.dat (.int (k : Int))), some (.dat (lI cells)), none, none, none]) (rs_set (i := 2) (d := lI cells) G (e_is (e_bin (od_catL ?_) (e_slL (e_var (i := 0) rfl) (o_int (e_var (i := 1) rfl)) o_non) (e_slL (e_var (i := 0) rfl) o_non (o_int (e_var (i := 1) rfl)))) (by rw [hc])) rfl) S0 fun σ1 H1 ρ1 s1 S1 e1 => ?_
  · have := congrArg List.length hc
    rw [List.length_append, List.length_map] at this
    omega
  subst e1
  refine js_cons (N := fun ρ' => ρ' = [some (.dat (lI xs)), some (.dat (.int (k : Int))), some (.dat (lI cells)), none, some (.dat (lI great)), none]) (rs_lc (i := 4) (own := [("cell", 3)]) (f := fName 3) (keep := keepBig) (val := valSame) G (src_L (e_var (i := 2) rfl)) (by simp; omega) (blkOk_by (N := n__law_begun) (sc := defScope st__law_begun) (by decide +kernel))
    (fun _ _ _ _ _ => pg_name (i := 3) sc__law_begun.nd rfl (Or.inl rfl)) (tg_name (by decide)) (fun d hd => ?_) (by rw [hg] <;> rfl)) S1 fun σ2 H2 ρ2 s2 S2 e2 => ?_
  · obtain ⟨x, hx, rfl⟩ := mem_mapI hd
    exact ⟨_, rfl, fun s H C cl fp => t_cmp od_ge (e_var (i := 3) rfl) (e_bin (od_pow ⟨by decide, by decide, by decide⟩) e_int e_int) (nomark _), fun _ s H C cl fp => e_var (i := 3) rfl⟩
  subst e2
  refine js_cons (N := fun ρ' => ρ' = [some (.dat (lI xs)), some (.dat (.int (k : Int))), some (.dat (lI cells)), none, some (.dat (lI great)), some (.dat (.int (86 + (k : Int))))]) (rs_set (i := 5) G (e_bin od_add e_int (e_var (i := 1) rfl)) rfl) S2 fun σ3 H3 ρ3 s3 S3 e3 => ?_
  subst e3
  refine js_cons (N := fun ρ' => ∃ (y : Option DV) (sd : Int), 0 ≤ sd ∧ sd < 2147483647 ∧ ρ' = [some (.dat (lI xs)), some (.dat (.int (k : Int))), some (.dat (lI cells)), y, some (.dat (lI great)), some (.dat (.int sd))]) (rs_for G (src_L (e_var (i := 2) rfl)) (pg_name (i := 3) sc__law_begun.nd rfl (Or.inl rfl)) (tg_name (vs := [3]) (by decide))
    (fun _ ρ' => ∃ (y : Option DV) (sd : Int), 0 ≤ sd ∧ sd < 2147483647 ∧ ρ' = [some (.dat (lI xs)), some (.dat (.int (k : Int))), some (.dat (lI cells)), y, some (.dat (lI great)), some (.dat (.int sd))]) ⟨_, _, by omega, by omega, rfl⟩ (fun i d ρ1 hd hJ => ?_) fun ρ' hJ => hJ) S3 fun σ4 H4 ρ4 s4 S4 e4 => ?_
  · obtain ⟨c, hc, rfl⟩ := getI hd
    obtain ⟨y, sd, d0, d1, rfl⟩ := hJ
    have b7 : Bits 17 48271 := show (48271 : Nat) < 2 ^ 17 by decide
    have bs : Bits 31 sd := bits_lt d0 (by omega)
    exact ⟨_, rfl, r_one (rs_set (i := 5) G (e_bin (od_mod (by decide)) (e_callT ca_int (a_cons (e_bin od_add (e_bin (od_mul (mul_ok bs b7 (by decide))) (e_var (i := 5) rfl) e_int) (e_var (i := 3) rfl)) a_nil) T.int (by decide +kernel)) e_int) ⟨_, _, Int.emod_nonneg _ (by decide), Int.emod_lt_of_pos _ (by decide), rfl⟩)⟩
  obtain ⟨y, sd, d0, d1, rfl⟩ := e4
  have hleft : ∃ left : Int, ∀ p1 p2 p3 p4 p5 p6 p7 p8, EvE (cxOf CX0 P w K mg base n__law_begun "_law_begun" (defScope st__law_begun) f cdv A outer s H E).nox 0
      (.IfExp (.Compare (.Name "great" p1) [.NotEq] [.List [] p2] p3) (.Subscript (.Name "great" p4) (.Constant (.int 0) 0 p5) p6) (.Constant (.int 0) 0 p8) p7)
      [some (.dat (lI xs)), some (.dat (.int (k : Int))), some (.dat (lI cells)), y, some (.dat (lI great)), some (.dat (.int sd))] (.int left) := by
    cases great with
    | nil => exact ⟨0, fun _ _ _ _ _ _ _ _ => e_ifF (t_is (t_cmp (od_neD G.un (shaped_lI []) (shaped_lI [])) (e_var (i := 4) rfl) (e_lst a_nil) (nomark _)) rfl) e_int⟩
    | cons g gs => exact ⟨g, fun _ _ _ _ _ _ _ _ => e_ifT (t_is (t_cmp (od_neD G.un (shaped_lI (g :: gs)) (shaped_lI [])) (e_var (i := 4) rfl) (e_lst a_nil) (nomark _)) (by rw [eqv_lI] <;> rfl)) (e_ixL (e_var (i := 4) rfl) e_int (ati_of (j := 0) rfl rfl))⟩
  obtain ⟨left, hleft⟩ := hleft
  have b53 : Bits 10 53 := show (53 : Nat) < 2 ^ 10 by decide
  have bk : Bits 10 (k : Int) := bits_lt (by omega) (by omega)
  refine toSs (pss_one js) (toS (ps_ret (pe_disp (pps_cons je je (pps_cons je je (pps_cons je je (pps_cons je je pps_nil)))) rfl rfl (by exact fun z => by cases z) (by decide))) ?_)
  intro p hp
  have S5 := S4.same (same_new (o := .dK []) hp)
  refine e_str T' σ4 _ S5 _ fun v1 H5 s5 p5 => ?_
  refine hleft _ _ _ _ _ _ _ _ T' σ4 _ (S5.same s5) _ fun v2 H6 s6 p6 => ?_
  have t6 := s5.trans s6
  refine e_str T' σ4 _ (S5.same t6) _ fun v3 H7 s7 p7 => ?_
  have t7 := t6.trans s7
  refine ev (e_var (i := 5) rfl) (S5.same t7) fun v4 H8 s8 p8 => ?_
  have t8 := t7.trans s8
  refine e_str T' σ4 _ (S5.same t8) _ fun v5 H9 s9 p9 => ?_
  have t9 := t8.trans s9
  refine e_is (d' := lI (cells ++ [53 * (k : Int) + 11])) (e_bin (od_catL (by simp; omega)) (e_var (i := 2) rfl) (e_lst (a_cons (e_bin od_add (e_bin (od_mul (mul_ok b53 bk (by decide))) e_int (e_var (i := 1) rfl)) e_int) a_nil))) (by
    show PyData.list _ = PyData.list (List.map _ _)
    rw [List.map_append]
    rfl) T' σ4 _ (S5.same t9) _ fun v6 H10 s10 p10 => ?_
  have t10 := t9.trans s10
  refine e_str T' σ4 _ (S5.same t10) _ fun v7 H11 s11 p11 => ?_
  have t11 := t10.trans s11
  refine e_int T' σ4 _ (S5.same t11) _ fun v8 H12 s12 p12 => ?_
  have t12 := t11.trans s12
  obtain rfl := dp_str p5
  obtain rfl := dp_int p6
  obtain rfl := dp_str p7
  obtain rfl := dp_int p8
  obtain rfl := dp_str p9
  obtain rfl := dp_str p11
  obtain rfl := dp_int p12
  obtain ⟨pc, xs', rfl, g1, g2⟩ := dp_lst p10
  obtain rfl := dps_ints_inv g2
  have at12 : H12 p = some (.dK []) := t12.ob _ _ upd_same (by intro ps z; cases z)
  have hTp : ¬ T' p := fun z => (S4.dm.dn p z) hp
  have kp : Kp p H12 (upd H12 p (.dK (sts left sd pc 0))) := .put at12
  have s04 : Sm H H4 := ((s1.trans s2).trans s3).trans s4
  have hp0 : H p = none := by
    cases hh : H p with
    | none => rfl
    | some o => exact (s04.dm p (by rw [hh]; exact fun z => by cases z) hp).elim
  refine ⟨at12, sts left sd pc 0, rfl, by show 4 ≤ 15; decide, ?_⟩
  refine hq p _ hp0 (sm_putD ((s04.trans (same_new (o := .dK []) hp)).trans t12) hp0 at12) ⟨left, sd, pc, 0, cells ++ [53 * (k : Int) + 11], ?_, ?_, by simp, by simp; omega, fun c hc => ?_, d0, d1, Int.le_refl _, by decide⟩
  · rw [off_no hTp, upd_same]
    rfl
  · exact kp_l (kp_off kp hTp) ⟨_, by rw [off_no hTp]; exact at12⟩ _ _ (same_l (off_same (s11.trans s12)) _ _ g1)
  · rcases List.mem_append.mp hc with hc | hc
    · exact (hcb c hc).mono (by decide)
    · rw [List.mem_singleton] at hc
      subst hc
      exact (bits_lt (n := 60) (by omega) (by omega)).mono (by decide)
theorem ok_draw (F : Fun K "_law_draw" "_law_draw" st__law_draw f fd) (T : Tx mg) : FnG P w K mg base CX0 1 f fd ["m", "bound"] (spM K 1 R_draw) := by
  refine fnM F sc__law_draw (fun ds Pd h => by obtain ⟨b, rfl, _⟩ := h; rfl) fun cdv A outer s H E G hr hgd a n ds Pd h => ?_
  obtain ⟨b, rfl, hb, hbb, hP⟩ := h
  have hb9 : b.natAbs.log2 < 9000 := Nat.lt_of_lt_of_le (hbb.log (by decide)) (by decide)
  refine q_cons (qs_if (PB := fun _ => True) (m := n + 1) (mt_cmp (P1 := PInt) (P2 := fun _ d => d = .int 0) (m := n + 1) (m_left (i := 0) G.un rfl) (fun _ _ => m_pure e_int rfl (Nat.le_refl _)) (fun d1 d2 h1 h2 => by
    obtain ⟨i, rfl⟩ := h1
    subst h2
    exact ⟨_, od_gt, trivial⟩) (nomark _)) (fun _ => ?_) fun _ => q_nil ?_)
  · refine q_cons (qs_set (i := 2) (m := n + 1) G (P := fun d => ∃ r : Int, d = .int r ∧ 0 ≤ r ∧ r < b) (m_bin (P1 := PInt) (P2 := fun _ d => d = .int b) (m := n + 1)
      (m_callT (PA := fun ds => ∃ d ds', ds = d :: ds' ∧ PInt d ∧ ds' = []) (fun ds h => by
        obtain ⟨d, _, rfl, ⟨i, rfl⟩, rfl⟩ := h
        exact ⟨_, ca_int, i, rfl⟩) (ma_cons (m_left (i := 0) G.un rfl) fun _ _ => ma_nil (Nat.le_refl _)) T.int (by decide +kernel))
      (fun _ _ => m_pure (e_var (i := 1) rfl) rfl (Nat.le_refl _)) (fun d1 d2 h1 h2 => by
        obtain ⟨i, rfl⟩ := h1
        subst h2
        exact ⟨_, od_mod hb, _, rfl, Int.emod_nonneg _ (by omega), Int.emod_lt_of_pos _ hb⟩)) fun d hd => ?_)
    obtain ⟨r, rfl, r0, r1⟩ := hd
    refine q_cons (qs_putLeft (i := 0) (m := n + 1) G.un rfl (m_bin (P1 := PInt) (P2 := fun _ d => d = .int b) (m := n + 1) (m_left (i := 0) G.un rfl) (fun _ _ => m_pure (e_var (i := 1) rfl) rfl (Nat.le_refl _)) (fun d1 d2 h1 h2 => by
        obtain ⟨i, rfl⟩ := h1
        subst h2
        exact ⟨_, od_fdiv (by omega) hb9, _, rfl⟩)) ?_)
    exact q_one (qs_ret (m := n + 1) (P := fun d => d = .int r) (m_pure (e_var (i := 2) rfl) rfl (Nat.le_refl _)) fun d hd => by
      subst hd
      exact ⟨by omega, hP r r0 r1⟩)
  · refine q_cons (qs_set (i := 3) (m := n + 1) G (m_spot (i := 0) G.un rfl) fun d hd => ?_)
    obtain ⟨sp, rfl, s0, s1⟩ := hd
    have sb : Bits 41 sp := bits_lt s0 (by omega)
    refine q_cons (qs_putSpot (i := 0) (m := n + 1) (k := n) G.un rfl (m_pure (e_bin od_add (e_var (i := 3) rfl) e_int) ⟨_, rfl, by omega, by omega⟩ (Nat.le_refl _)) ?_)
    have b4 : Bits 16 40503 := show (40503 : Nat) < 2 ^ 16 by decide
    refine q_cons (qs_par (i := 4) (j := 5) (m := n) (PA := fun ds => ∃ d ds', ds = d :: ds' ∧ PCells d ∧ ∃ d2 ds2, ds' = d2 :: ds2 ∧ PInt d2 ∧ ds2 = []) G (ma_cons (m_cells (i := 0) G.un rfl) fun _ _ => ma_cons (m_bin (P1 := PInt) (P2 := fun _ => PInt) (m := n) (m_seed (i := 0) G.un rfl)
      (fun _ _ => m_pure (e_bin (od_mul (mul_ok (Bits.mul b4 sb) sb (by decide))) (e_bin (od_mul (mul_ok b4 sb (by decide))) e_int (e_var (i := 3) rfl)) (e_var (i := 3) rfl)) ⟨_, rfl⟩ (Nat.le_refl _)) (fun d1 d2 h1 h2 => by
        obtain ⟨i, rfl⟩ := h1
        obtain ⟨j, rfl⟩ := h2
        exact ⟨_, od_add, _, rfl⟩)) fun _ _ => ma_nil (Nat.le_refl _)) fun ds hds => ?_)
    obtain ⟨_, _, rfl, ⟨cells, rfl, c1, c2, c3⟩, _, _, rfl, ⟨extra, rfl⟩, rfl⟩ := hds
    refine ⟨_, _, rfl, ?_⟩
    have c1' : 1 ≤ (cells.map PyData.int).length := by simpa using c1
    obtain ⟨cd, hc, hat⟩ := at_mod (xs := cells.map PyData.int) s0 c1'
    obtain ⟨cell, hcell, rfl⟩ := List.mem_map.mp hc
    refine q_cons (qs_set (i := 6) (m := n) (P := fun d => d = .int cell) G (m_pure (e_ixL (e_var (i := 4) rfl) (e_bin (od_mod (by omega)) (e_callT ca_int (a_cons (e_var (i := 3) rfl) a_nil) T.int (by decide +kernel)) (e_callB ca_lenL (a_cons (e_var (i := 4) rfl) a_nil) T.len (by decide +kernel))) hat) rfl (Nat.le_refl _)) fun d hd => ?_)
    subst hd
    have cb : Bits 2000000 cell := c3 cell hcell
    have b2 : Bits 2 2 := show (2 : Nat) < 2 ^ 2 by decide
    have q3 : Bits 44 (2 * sp + 3) := bits_lt (by omega) (by omega)
    refine q_cons (qs_set (i := 7) (m := n) (P := fun d => ∃ r : Int, d = .int r ∧ 0 ≤ r ∧ r < 2147483647) G (m_pure (e_bin (od_mod (by decide)) (e_callT ca_int (a_cons (e_bin od_add (e_bin (od_mul (mul_ok cb q3 (by decide))) (e_var (i := 6) rfl) (e_bin od_add (e_bin (od_mul (mul_ok b2 sb (by decide))) e_int (e_var (i := 3) rfl)) e_int)) (e_var (i := 5) rfl)) a_nil) T.int (by decide +kernel)) e_int) ⟨_, rfl, Int.emod_nonneg _ (by decide), Int.emod_lt_of_pos _ (by decide)⟩ (Nat.le_refl _)) fun d hd => ?_)
    obtain ⟨bl, rfl, u0, u1⟩ := hd
    have ub : Bits 31 bl := bits_lt u0 (by omega)
    have b6 : Bits 17 69621 := show (69621 : Nat) < 2 ^ 17 by decide
    refine q_cons (qs_set (i := 7) (m := n) (P := fun d => ∃ r : Int, d = .int r ∧ 0 ≤ r ∧ r < 2147483629) G (m_bin (P1 := PInt) (P2 := fun _ d => d = .int 2147483629) (m := n)
      (m_callT (PA := fun ds => ∃ d ds', ds = d :: ds' ∧ PInt d ∧ ds' = []) (fun ds h => by
        obtain ⟨d, _, rfl, ⟨i, rfl⟩, rfl⟩ := h
        exact ⟨_, ca_int, i, rfl⟩) (ma_cons (m_bin (P1 := PInt) (P2 := fun _ => PInt) (m := n)
          (m_pure (e_bin od_add (e_bin (od_mul (mul_ok ub ub (by decide))) (e_var (i := 7) rfl) (e_var (i := 7) rfl)) (e_bin (od_mul (mul_ok b6 sb (by decide))) e_int (e_var (i := 3) rfl))) ⟨_, rfl⟩ (Nat.le_refl _))
          (fun _ _ => m_seed (i := 0) G.un rfl) (fun d1 d2 h1 h2 => by
            obtain ⟨i, rfl⟩ := h1
            obtain ⟨j, rfl⟩ := h2
            exact ⟨_, od_add, _, rfl⟩)) fun _ _ => ma_nil (Nat.le_refl _)) T.int (by decide +kernel))
      (fun _ _ => m_pure e_int rfl (Nat.le_refl _)) (fun d1 d2 h1 h2 => by
        obtain ⟨i, rfl⟩ := h1
        subst h2
        exact ⟨_, od_mod (by decide), _, rfl, Int.emod_nonneg _ (by decide), Int.emod_lt_of_pos _ (by decide)⟩)) fun d hd => ?_)
    obtain ⟨b3, rfl, v0, v1⟩ := hd
    have vb : Bits 31 b3 := bits_lt v0 (by omega)
    have b7 : Bits 17 48271 := show (48271 : Nat) < 2 ^ 17 by decide
    exact q_one (qs_ret (m := n) (P := Pd) (m_pure (e_bin (od_mod hb) (e_bin (od_fdiv (by decide) (by decide)) (e_bin (od_mod (by decide)) (e_callT ca_int (a_cons (e_bin od_add (e_bin (od_mul (mul_ok vb b7 (by decide))) (e_var (i := 7) rfl) e_int) (e_var (i := 3) rfl)) a_nil) T.int (by decide +kernel)) e_int) e_int) (e_var (i := 1) rfl)) (hP _ (Int.emod_nonneg _ (by omega)) (Int.emod_lt_of_pos _ hb)) (Nat.le_refl _)) fun d hd => ⟨Nat.le_refl _, hd⟩)
theorem ok_like (F : Fun K "_law_like" "_law_like" st__law_like f fd) (T : Tx mg) : FnG P w K mg base CX0 1 f fd ["told", "due"] (spR K R_like) := by
  refine fnRG F sc__law_like (fun ds d h => by obtain ⟨x, rfl, _⟩ := h; rfl) fun cdv A outer s H E G hr hgd ds d h => ?_
  obtain ⟨x, rfl, ht, rfl⟩ := h
  exact r_one (rs_ret (e_cmp od_eqS (e_callB (ca_repr hgd G.un ht) (a_cons (e_var (i := 0) rfl) a_nil) T.repr (by decide +kernel)) (e_callB (ca_repr hgd G.un ht) (a_cons (e_var (i := 1) rfl) a_nil) T.repr (by decide +kernel)) (nomark _)) (by rw [beq_self_eq_true]))
theorem ok_lsign (F : Fun K "_law_sign" "_law_sign" st__law_sign f fd) (T : Tx mg) : FnOk P w K mg base CX0 1 f fd ["number"] (spR K R_sign) := by
  refine fnR F sc__law_sign (fun ds d h => by obtain ⟨x, rfl, _⟩ := h; rfl) fun cdv A outer s H E G hr ds d h => ?_
  obtain ⟨n, rfl, rfl⟩ := h
  refine r_one (rs_ret (e_bin od_sub (e_callT ca_intB (a_cons (e_cmp od_gt (e_var (i := 0) rfl) e_int (nomark _)) a_nil) T.int (by decide +kernel)) (e_callT ca_intB (a_cons (e_cmp od_lt (e_var (i := 0) rfl) e_int (nomark _)) a_nil) T.int (by decide +kernel))) ?_)
  unfold sgn
  rcases Int.lt_trichotomy n 0 with h | h | h
  · rw [if_neg (show ¬ 0 < n by omega), if_pos h, decide_eq_false (show ¬ 0 < n by omega), decide_eq_true h] <;> rfl
  · subst h
    rfl
  · rw [if_pos h, decide_eq_true h, decide_eq_false (show ¬ n < 0 by omega)] <;> rfl
theorem ok_common (F : Fun K "_law_common" "_law_common" st__law_common f fd) (T : Tx mg) : FnOk P w K mg base CX0 1 f fd ["numbers"] (spR K R_cd) := by
  refine fnR F sc__law_common (fun ds d h => by obtain ⟨x, h, _⟩ := h; rcases h with rfl | rfl <;> rfl) fun cdv A outer s H E G hr ds d h => ?_
  obtain ⟨xs, h, rfl⟩ := h
  have main : ∀ v : PyData, (∀ tg p (ρ : Rho), ρ[0]? = some (some (.dat v)) → Src (cxOf CX0 P w K mg base n__law_common "_law_common" (defScope st__law_common) f cdv A outer s H E).nox 0 tg (.Name "numbers" p) ρ (xs.map .int)) →
      Run (cxOf CX0 P w K mg base n__law_common "_law_common" (defScope st__law_common) f cdv A outer s H E).nox 0 (defBody st__law_common) [some (.dat v), none, none, none] (fun _ => PyData.int (gcdL xs) = .none) (fun d' => d' = .int (gcdL xs)) := fun v hs => by
    refine r_cons (rs_set (i := 1) G e_int ?_)
    refine r_cons (rs_for G (hs _ _ _ rfl) (pg_name (i := 2) sc__law_common.nd rfl (Or.inl rfl)) (tg_name (vs := [2]) (by decide)) (fun n ρ' => ∃ y z, ρ' = [some (.dat v), some (.dat (.int (gcdL (xs.take n)))), y, z]) ⟨_, _, rfl⟩ (fun n d ρ1 hd hJ => ?_) fun ρ' hJ => ?_)
    · obtain ⟨x, hx, rfl⟩ := getI hd
      obtain ⟨_, _, rfl⟩ := hJ
      refine ⟨_, rfl, r_cons (rs_set (i := 3) G (e_callB ca_abs (a_cons (e_var (i := 2) rfl) a_nil) T.abs (by decide +kernel)) ?_)⟩
      refine r_one (rs_while G (fun m ρ' => ∃ a b : Nat, b = m ∧ Nat.gcd a b = gcdL (xs.take (n + 1)) ∧ ρ' = [some (.dat v), some (.dat (.int (a : Int))), some (.dat (.int x)), some (.dat (.int (b : Int)))]) x.natAbs ⟨gcdL (xs.take n), x.natAbs, rfl, (gcdL_take hx).symm, ?_⟩ fun m ρ' hW => ?_)
      · have : (if x < 0 then -x else x) = (x.natAbs : Int) := by
          split <;> omega
        rw [this] <;> rfl
      · obtain ⟨a, b, rfl, hg, rfl⟩ := hW
        refine ⟨_, t_cmp od_neI (e_var (i := 3) rfl) e_int (nomark _), fun hne => ?_, fun he => ?_⟩
        · have hb0 : 0 < b := by
            rcases Nat.eq_zero_or_pos b with h | h
            · subst h; cases hne
            · exact h
          refine r_one (rs_par (i := 1) (j := 3) G (a_cons (e_var (i := 3) rfl) (a_cons (e_bin (od_mod (by omega)) (e_callT ca_int (a_cons (e_var (i := 1) rfl) a_nil) T.int (by decide +kernel)) (e_var (i := 3) rfl)) a_nil)) ⟨a % b, Nat.mod_lt _ hb0, b, a % b, rfl, ?_, ?_⟩)
          · rw [Nat.gcd_comm b, ← Nat.gcd_rec, Nat.gcd_comm, hg]
          · rw [show ((a : Int) % (b : Int)) = ((a % b : Nat) : Int) by omega] <;> rfl
        · have hb0 : b = 0 := by
            have he' : (!((b : Int) == 0)) = false := he
            rw [Bool.not_eq_false', beq_iff_eq] at he'
            omega
          subst hb0
          rw [Nat.gcd_zero_right] at hg
          exact ⟨_, _, by rw [hg]⟩
    · obtain ⟨_, _, rfl⟩ := hJ
      rw [List.length_map, List.take_length]
      exact r_one (rs_ret (e_var (i := 1) rfl) rfl)
  rcases h with rfl | rfl
  · exact main _ fun _ _ ρ hρ => src_T (e_var (i := 0) hρ)
  · exact main _ fun _ _ ρ hρ => src_L (e_var (i := 0) hρ)
theorem ok_lowered (F : Fun K "_law_lowered" "_law_lowered" st__law_lowered f fd) (T : Tx mg) (C1 : Cal P w K mg base 1 "_law_common" ["numbers"] (spR K R_cd)) : FnOk P w K mg base CX0 2 f fd ["numbers"] (spR K R_short) := by
  refine fnR F sc__law_lowered (fun ds d h => by obtain ⟨x, h, _⟩ := h; rcases h with rfl | rfl <;> rfl) fun cdv A outer s H E G hr ds d h => ?_
  obtain ⟨xs, h, hb, hl, rfl⟩ := h
  have main : ∀ v : PyData, (v = tI xs ∨ v = lI xs) → (∀ tg p (ρ : Rho), ρ[0]? = some (some (.dat v)) → Src (cxOf CX0 P w K mg base n__law_lowered "_law_lowered" (defScope st__law_lowered) f cdv A outer s H E).nox 0 tg (.Name "numbers" p) ρ (xs.map .int)) →
      CaD (cxOf CX0 P w K mg base n__law_lowered "_law_lowered" (defScope st__law_lowered) f cdv A outer s H E).nox (.type "tuple") [v] (tI xs) →
      Run (cxOf CX0 P w K mg base n__law_lowered "_law_lowered" (defScope st__law_lowered) f cdv A outer s H E).nox 0 (defBody st__law_lowered) [some (.dat v), none, none] (fun _ => tI (shortL xs) = .none) (fun d' => d' = tI (shortL xs)) := fun v hv hs hc => by
    refine r_cons (rs_set (i := 1) G (e_call C1 (hr.mono (by decide)) (a_cons (e_var (i := 0) rfl) a_nil) ⟨xs, by rcases hv with rfl | rfl <;> simp, rfl⟩) ?_)
    refine r_one (rs_ret (e_if (d := tI (shortL xs)) (t_cmp od_gt (e_var (i := 1) rfl) e_int (nomark _)) (fun h2 => ?_) (fun h2 => ?_)) rfl)
    · have h2 := of_decide_eq_true h2
      have g0 : (gcdL xs : Int) ≠ 0 := by omega
      have gb : (gcdL xs : Int).natAbs.log2 < 9000 := Nat.lt_of_lt_of_le ((gcdL_bits hb).log (by decide)) (by decide)
      refine e_is (e_callT ca_tupL (a_cons (e_lc0 (own := [("number", 2)]) (f := fName 2) (val := onInt fun x => x.fdiv (gcdL xs : Int)) G (hs _ _ _ rfl) (by simp; omega) (blkOk_by (N := n__law_lowered) (sc := defScope st__law_lowered) (by decide +kernel))
        (fun _ _ _ _ _ => pg_name (i := 2) sc__law_lowered.nd rfl (Or.inl rfl)) (tg_name (by decide)) fun d hd => ?_) a_nil) T.tuple (by decide +kernel)) ?_
      · obtain ⟨x, hx, rfl⟩ := mem_mapI hd
        exact ⟨_, rfl, fun s H C cl fp => e_bin (od_fdiv g0 gb) (e_var (i := 2) rfl) (e_var (i := 1) rfl)⟩
      · rw [mapI]
        unfold shortL
        rw [if_neg (by omega)]
    · have h2 := of_decide_eq_false h2
      refine e_is (e_callT hc (a_cons (e_var (i := 0) rfl) a_nil) T.tuple (by decide +kernel)) ?_
      unfold shortL
      rw [if_pos (by omega)]
  rcases h with rfl | rfl
  · exact main _ (.inl rfl) (fun _ _ ρ hρ => src_T (e_var (i := 0) hρ)) ca_tupT
  · exact main _ (.inr rfl) (fun _ _ ρ hρ => src_L (e_var (i := 0) hρ)) ca_tupL
theorem ok_fraction (F : Fun K "_law_fraction" "_law_fraction" st__law_fraction f fd) (C1 : Cal P w K mg base 2 "_law_lowered" ["numbers"] (spR K R_short)) : FnOk P w K mg base CX0 3 f fd ["top_so", "bottom_so"] (spR K R_fraction) := by
  refine fnR F sc__law_fraction (fun ds d h => by obtain ⟨x, _, rfl, _⟩ := h; rfl) fun cdv A outer s H E G hr ds d h => ?_
  obtain ⟨t, b, rfl, ht, hb, rfl⟩ := h
  refine r_cons (rs_set (i := 2) G (e_call C1 (hr.mono (by decide)) (a_cons (e_lst (a_cons (e_var (i := 0) rfl) (a_cons (e_var (i := 1) rfl) a_nil))) a_nil) ⟨[t, b], .inr rfl, fun x hx => ?_, by simp, rfl⟩) ?_)
  · rcases List.mem_cons.mp hx with rfl | hx
    · exact ht
    · rw [List.mem_singleton] at hx
      subst hx
      exact hb
  · obtain ⟨u, v, e⟩ : ∃ u v, shortL [t, b] = [u, v] := by
      have := shortL_len [t, b]
      match h : shortL [t, b], this with
      | [u, v], _ => exact ⟨u, v, rfl⟩
    have e2 : ∀ c : Bool, c = decide (0 < b) → fracL t b = if c = true then [u, v] else [-u, -v] := fun c hc => by
      unfold fracL
      rw [e, hc]
      by_cases hbp : 0 < b
      · rw [if_pos hbp, if_pos (decide_eq_true hbp)]
      · rw [if_neg hbp, if_neg (by simpa using hbp)] <;> rfl
    rw [e]
    refine r_one (rs_ret (e_if (d := tI (fracL t b)) (t_cmp od_gt (e_var (i := 1) rfl) e_int (nomark _)) (fun h2 => e_is (e_var (i := 2) rfl) ?_) (fun h2 => e_is (e_tup (a_cons (e_neg (e_ixT (e_var (i := 2) rfl) e_int (d := .int u) rfl)) (a_cons (e_neg (e_ixT (e_var (i := 2) rfl) e_int (d := .int v) rfl)) a_nil))) ?_)) rfl)
    · rw [e2 _ rfl, if_pos h2]
    · rw [e2 _ rfl, if_neg (by rw [h2]; exact Bool.false_ne_true)] <;> rfl
end
end K0
/-! Fractions. -/
namespace K0
open PySem PySem.Spec PyProof.Rows L2 Zj
variable [Nm]
def nnO (v : PyData) : Out := .ex ⟨"NotNumber", [("value", v)]⟩
def lowO (t b : Int) : Out := if b = 0 then nnO (.int 0) else .ok (tI (fracL t b))
theorem lowO_ok {t b : Int} (h : b ≠ 0) : lowO t b = .ok (tI (fracL t b)) := if_neg h
def R_low (ds : List PyData) (o : Out) : Prop := ∃ t b, ds = [.int t, .int b] ∧ Bits 8000 b ∧ o = lowO t b
/-- a fraction, as data -/
def fr (p : Int × Int) : PyData := tI [p.1, p.2]
/-- whether a value is a fraction in lowest terms -/
def okF : PyData → Bool
  | .tuple [.int x, .int y] => decide (1 ≤ y) && (Nat.gcd x.natAbs y.natAbs == 1)
  | _ => false
def cfO (v : PyData) : Out := if okF v = true then .ok v else nnO v
def R_cf (ds : List PyData) (o : Out) : Prop := ∃ v, ds = [v] ∧ (∀ xs, v = .tuple xs → xs.length ≤ 1000) ∧ o = cfO v
theorem all_whole : ∀ ds : List PyData, (∀ d ∈ ds, wholeD d = true) → ∃ xs : List Int, ds = xs.map .int
  | [], _ => ⟨[], rfl⟩
  | d :: ds, h => by
    obtain ⟨xs, rfl⟩ := all_whole ds fun x hx => h x (List.mem_cons_of_mem _ hx)
    have h0 := h d List.mem_cons_self
    cases d with
    | int x => exact ⟨x :: xs, rfl⟩
    | _ => cases h0
theorem wrong_two (v : PyData) : ((∃ p : Int, wrongD v 2 = .int p) ∧ okF v = false) ∨ ∃ x y : Int, v = tI [x, y] ∧ wrongD v 2 = .none := by
  by_cases h : ∃ x y : Int, v = tI [x, y]
  · obtain ⟨x, y, rfl⟩ := h
    exact .inr ⟨x, y, rfl, rfl⟩
  · refine .inl ⟨?_, ?_⟩
    · cases v with
      | tuple ds =>
        by_cases hl : (ds.length : Int) = 2
        · have e : wrongD (.tuple ds) 2 = placeD (badAt ds) := if_pos hl
          rw [e]
          cases hb : badAt ds with
          | some n => exact ⟨n, rfl⟩
          | none =>
            exfalso
            unfold badAt at hb
            rw [List.findIdx?_eq_none_iff] at hb
            obtain ⟨xs, rfl⟩ := all_whole ds fun d hd => by
              have := hb d hd
              simpa using this
            match xs, hl with
            | [x, y], _ => exact h ⟨x, y, rfl⟩
            | [], hl => simp at hl
            | [_], hl => simp at hl
            | _ :: _ :: _ :: _, hl => simp at hl; omega
        · exact ⟨-1, if_neg hl⟩
      | _ => exact ⟨-1, rfl⟩
    · unfold okF
      split
      · rename_i x y
        exact (h ⟨x, y, rfl⟩).elim
      · rfl
/-- a drawn fraction -/
structure Pn (p : Int × Int) : Prop where
  pos : 0 < p.2
  one : Nat.gcd p.1.natAbs p.2.natAbs = 1
  b1 : Bits 450 p.1
  b2 : Bits 450 p.2
theorem Pn.ok {p : Int × Int} (h : Pn p) : okF (fr p) = true := by
  show (decide (1 ≤ p.2) && (Nat.gcd p.1.natAbs p.2.natAbs == 1)) = true
  rw [h.one, decide_eq_true (show 1 ≤ p.2 from h.pos)] <;> rfl
def R_bin (g : Int × Int → Int × Int → PyData) (ds : List PyData) (d : PyData) : Prop := ∃ p q, ds = [fr p, fr q] ∧ Pn p ∧ Pn q ∧ d = g p q
def addL (p q : Int × Int) : List Int := fracL (p.1 * q.2 + q.1 * p.2) (p.2 * q.2)
def subL (p q : Int × Int) : List Int := fracL (p.1 * q.2 - q.1 * p.2) (p.2 * q.2)
def mulL (p q : Int × Int) : List Int := fracL (p.1 * q.1) (p.2 * q.2)
def halfL (p q : Int × Int) : List Int := fracL (p.1 * q.2 + q.1 * p.2) (2 * p.2 * q.2)
def divO (p q : Int × Int) : Out := if q.1 = 0 then nnO (fr q) else .ok (tI (fracL (p.1 * q.2) (p.2 * q.1)))
def R_div (ds : List PyData) (o : Out) : Prop := ∃ p q, ds = [fr p, fr q] ∧ Pn p ∧ Pn q ∧ o = divO p q
section
variable {X : Cx} {a : Addr} {ρ : Rho} {e : Expr} {p : Int × Int} {j k : Nat} {pos p2 : Pos}
theorem e_top (h : EvE X a e ρ (fr p)) : EvE X a (.Subscript e (.Constant (.int 0) j p2) pos) ρ (.int p.1) := e_ixT (ds := [.int p.1, .int p.2]) h e_int (ati_of (j := 0) rfl rfl)
theorem e_bot (h : EvE X a e ρ (fr p)) : EvE X a (.Subscript e (.Constant (.int 1) j p2) pos) ρ (.int p.2) := e_ixT (ds := [.int p.1, .int p.2]) h e_int (ati_of (j := 1) rfl rfl)
end
section
variable {P : Program} {w : World} {K : PySem.W.Frag} {mg : Str → Option Value} {base : Heap} {f : Addr} {fd : FuncData}
theorem ok_low (F : Fun K "lowest" "lowest" st_lowest f fd) (T : Tx mg) (CN : ClsI P w K mg base 1 "NotNumber" ["value"]) : FnOk P w K mg base (L2.CX P w) 3 f fd ["top", "bottom"] (spX K mg R_low) := by
  refine fnX F sc_lowest (fun ds o h => by obtain ⟨_, _, rfl, _⟩ := h; rfl) fun cdv A outer s H E G hr ds o h => ?_
  obtain ⟨t, b, rfl, hbb, rfl⟩ := h
  refine x_cons (xs_if (t_cmp od_eqI (e_var (i := 1) rfl) e_int (nomark _)) (fun h0 => x_one (xs_raise G (mk_init CN (hr.mono (by decide)) (a_cons (e_var (i := 1) rfl) a_nil) rfl (by simp)) ?_)) fun h0 => x_nil ?_)
  · have h0 : b = 0 := by simpa using h0
    rw [h0]
    exact if_pos rfl
  · have hb : b ≠ 0 := by simpa using h0
    rw [lowO_ok hb]
    have gp : 0 < Nat.gcd t.natAbs b.natAbs := Nat.gcd_pos_of_pos_right _ (by omega)
    have gl : Nat.gcd t.natAbs b.natAbs ≤ b.natAbs := Nat.gcd_le_right _ (by omega)
    have bits : ∀ z : Int, z.natAbs = Nat.gcd t.natAbs b.natAbs → z ≠ 0 ∧ z.natAbs.log2 < 9000 := fun z hz => ⟨by omega, Nat.lt_of_lt_of_le ((hbb.le (x := z) (by omega)).log (by decide)) (by decide)⟩
    refine x_of (r_cons (rs_set (i := 2) G (e_callM ca_gcd (a_cons (e_var (i := 0) rfl) (a_cons (e_var (i := 1) rfl) a_nil)) T.gcd) ?_))
    have fin : ∀ z : Int, z = (if b < 0 then -((Nat.gcd t.natAbs b.natAbs : Nat) : Int) else ((Nat.gcd t.natAbs b.natAbs : Nat) : Int)) →
        Run (cxOf (L2.CX P w) P w K mg base n_lowest "lowest" (defScope st_lowest) f cdv A outer s H E) 0 ((defBody st_lowest).drop 3) [some (.dat (.int t)), some (.dat (.int b)), some (.dat (.int z))] (fun _ => (Out.ok (tI (fracL t b))) = .ok .none) (fun d' => Out.ok (tI (fracL t b)) = .ok d') := fun z hz => by
      obtain ⟨z0, zb⟩ := bits z (by rw [hz]; split <;> simp)
      refine r_one (rs_ret (e_tup (a_cons (e_bin (od_fdiv z0 zb) (e_var (i := 0) rfl) (e_var (i := 2) rfl)) (a_cons (e_bin (od_fdiv z0 zb) (e_var (i := 1) rfl) (e_var (i := 2) rfl)) a_nil))) ?_)
      rw [← frac_lowest hb, ← hz] <;> rfl
    refine r_cons (rs_if (t_cmp od_lt (e_var (i := 1) rfl) e_int (nomark _)) (fun h => r_one (rs_set (i := 2) G (e_neg (e_var (i := 2) rfl)) ?_)) fun h => r_nil ?_)
    · exact fin _ (by rw [if_pos (of_decide_eq_true h)])
    · exact fin _ (by rw [if_neg (of_decide_eq_false h)])
theorem ok_cf (F : Fun K "check_fraction" "check_fraction" st_check_fraction f fd) (T : Tx mg) (CN : ClsI P w K mg base 1 "NotNumber" ["value"]) (CW : Cal P w K mg base 2 "wrong_place" ["value", "many"] (spR K R_wrong)) : FnOk P w K mg base (L2.CX P w) 3 f fd ["value"] (spX K mg R_cf) := by
  refine fnX F sc_check_fraction (fun ds o h => by obtain ⟨_, rfl, _⟩ := h; rfl) fun cdv A outer s H E G hr ds o h => ?_
  obtain ⟨v, rfl, hz, rfl⟩ := h
  unfold cfO
  rcases wrong_two v with ⟨⟨p, hp⟩, hn⟩ | ⟨x, y, rfl, hp⟩
  · rw [hn, if_neg Bool.false_ne_true]
    exact x_cons (xs_if (b := true) (t_orT (t_is (t_cmp od_notN (e_call CW (hr.mono (by decide)) (a_cons (e_var (i := 0) rfl) (a_cons e_int a_nil)) ⟨v, 2, rfl, hz, rfl⟩) e_non (nomark _)) (by rw [hp] <;> rfl))) (fun _ => x_one (xs_raise G (mk_init CN (hr.mono (by decide)) (a_cons (e_var (i := 0) rfl) a_nil) rfl (by simp)) rfl)) nofun)
  · have ea : okF (tI [x, y]) = (decide (1 ≤ y) && (Nat.gcd x.natAbs y.natAbs == 1)) := rfl
    refine x_cons (xs_if (b := !okF (tI [x, y])) ?cnd (fun h1 => x_one (xs_raise G (mk_init CN (hr.mono (by decide)) (a_cons (e_var (i := 0) rfl) a_nil) rfl (by simp)) ?no)) fun h1 => x_nil (x_one (xs_of (rs_ret (e_var (i := 0) rfl) ?yes))))
    case no =>
      have : okF (tI [x, y]) = false := by simpa using h1
      rw [this, if_neg Bool.false_ne_true] <;> rfl
    case yes =>
      have : okF (tI [x, y]) = true := by simpa using h1
      rw [this, if_pos rfl]
    refine t_orF (t_is (t_cmp od_notN (e_call CW (hr.mono (by decide)) (a_cons (e_var (i := 0) rfl) (a_cons e_int a_nil)) ⟨_, 2, rfl, hz, rfl⟩) e_non (nomark _)) (by rw [hp] <;> rfl)) ?_
    refine t_or2 (b := decide (y < 1)) (t_cmp od_lt (e_ixT (ds := [.int x, .int y]) (e_var (i := 0) rfl) e_int (ati_of (j := 1) rfl rfl)) e_int (nomark _)) (fun h1 => ?_) fun h1 => ?_
    · have h1 : ¬ y < 1 := of_decide_eq_false h1
      refine t_is (t_cmp od_neI (e_callM ca_gcd (a_cons (e_ixT (ds := [.int x, .int y]) (e_var (i := 0) rfl) e_int (ati_of (j := 0) rfl rfl)) (a_cons (e_ixT (ds := [.int x, .int y]) (e_var (i := 0) rfl) e_int (ati_of (j := 1) rfl rfl)) a_nil)) T.gcd) e_int (nomark _)) ?_
      rw [ea, decide_eq_true (show 1 ≤ y by omega), Bool.true_and]
      congr 1
      by_cases hg : Nat.gcd x.natAbs y.natAbs = 1
      · rw [hg] <;> rfl
      · have e2 : (Nat.gcd x.natAbs y.natAbs == 1) = false := beq_eq_false_iff_ne.mpr hg
        rw [e2]
        exact beq_eq_false_iff_ne.mpr (by omega)
    · have h1 : y < 1 := of_decide_eq_true h1
      rw [ea, decide_eq_false (show ¬ 1 ≤ y by omega)] <;> rfl
theorem ok_added (F : Fun K "added" "added" st_added f fd) (C : CalX P w K mg base 3 "lowest" ["top", "bottom"] (spX K mg R_low)) : FnOk P w K mg base CX0 4 f fd ["one", "other"] (spR K (R_bin fun p q => tI (addL p q))) := by
  refine fnR F sc_added (fun ds d h => by obtain ⟨_, _, rfl, _⟩ := h; rfl) fun cdv A outer s H E G hr ds d h => ?_
  obtain ⟨p, q, rfl, hp, hq, rfl⟩ := h
  have nz : p.2 * q.2 ≠ 0 := Int.ne_of_gt (Int.mul_pos hp.pos hq.pos)
  exact r_one (rs_ret (e_callX C (hr.mono (by decide)) (a_cons (e_bin od_add (e_bin (od_mul (mul_ok hp.b1 hq.b2 (by decide))) (e_top (e_var (i := 0) rfl)) (e_bot (e_var (i := 1) rfl))) (e_bin (od_mul (mul_ok hq.b1 hp.b2 (by decide))) (e_top (e_var (i := 1) rfl)) (e_bot (e_var (i := 0) rfl)))) (a_cons (e_bin (od_mul (mul_ok hp.b2 hq.b2 (by decide))) (e_bot (e_var (i := 0) rfl)) (e_bot (e_var (i := 1) rfl))) a_nil)) ⟨_, _, rfl, (Bits.mul hp.b2 hq.b2).mono (by decide), (lowO_ok nz).symm⟩) rfl)
theorem ok_minus (F : Fun K "minus" "minus" st_minus f fd) (C : CalX P w K mg base 3 "lowest" ["top", "bottom"] (spX K mg R_low)) : FnOk P w K mg base CX0 4 f fd ["one", "other"] (spR K (R_bin fun p q => tI (subL p q))) := by
  refine fnR F sc_minus (fun ds d h => by obtain ⟨_, _, rfl, _⟩ := h; rfl) fun cdv A outer s H E G hr ds d h => ?_
  obtain ⟨p, q, rfl, hp, hq, rfl⟩ := h
  have nz : p.2 * q.2 ≠ 0 := Int.ne_of_gt (Int.mul_pos hp.pos hq.pos)
  exact r_one (rs_ret (e_callX C (hr.mono (by decide)) (a_cons (e_bin od_sub (e_bin (od_mul (mul_ok hp.b1 hq.b2 (by decide))) (e_top (e_var (i := 0) rfl)) (e_bot (e_var (i := 1) rfl))) (e_bin (od_mul (mul_ok hq.b1 hp.b2 (by decide))) (e_top (e_var (i := 1) rfl)) (e_bot (e_var (i := 0) rfl)))) (a_cons (e_bin (od_mul (mul_ok hp.b2 hq.b2 (by decide))) (e_bot (e_var (i := 0) rfl)) (e_bot (e_var (i := 1) rfl))) a_nil)) ⟨_, _, rfl, (Bits.mul hp.b2 hq.b2).mono (by decide), (lowO_ok nz).symm⟩) rfl)
theorem ok_times (F : Fun K "times" "times" st_times f fd) (C : CalX P w K mg base 3 "lowest" ["top", "bottom"] (spX K mg R_low)) : FnOk P w K mg base CX0 4 f fd ["one", "other"] (spR K (R_bin fun p q => tI (mulL p q))) := by
  refine fnR F sc_times (fun ds d h => by obtain ⟨_, _, rfl, _⟩ := h; rfl) fun cdv A outer s H E G hr ds d h => ?_
  obtain ⟨p, q, rfl, hp, hq, rfl⟩ := h
  have nz : p.2 * q.2 ≠ 0 := Int.ne_of_gt (Int.mul_pos hp.pos hq.pos)
  exact r_one (rs_ret (e_callX C (hr.mono (by decide)) (a_cons (e_bin (od_mul (mul_ok hp.b1 hq.b1 (by decide))) (e_top (e_var (i := 0) rfl)) (e_top (e_var (i := 1) rfl))) (a_cons (e_bin (od_mul (mul_ok hp.b2 hq.b2 (by decide))) (e_bot (e_var (i := 0) rfl)) (e_bot (e_var (i := 1) rfl))) a_nil)) ⟨_, _, rfl, (Bits.mul hp.b2 hq.b2).mono (by decide), (lowO_ok nz).symm⟩) rfl)
theorem two_bits : Bits 2 2 := show (2 : Nat) < 2 ^ 2 by decide
theorem ok_halfway (F : Fun K "halfway" "halfway" st_halfway f fd) (C : CalX P w K mg base 3 "lowest" ["top", "bottom"] (spX K mg R_low)) : FnOk P w K mg base CX0 4 f fd ["one", "other"] (spR K (R_bin fun p q => tI (halfL p q))) := by
  refine fnR F sc_halfway (fun ds d h => by obtain ⟨_, _, rfl, _⟩ := h; rfl) fun cdv A outer s H E G hr ds d h => ?_
  obtain ⟨p, q, rfl, hp, hq, rfl⟩ := h
  have nz : 2 * p.2 * q.2 ≠ 0 := Int.ne_of_gt (Int.mul_pos (Int.mul_pos (by decide) hp.pos) hq.pos)
  exact r_one (rs_ret (e_callX C (hr.mono (by decide)) (a_cons (e_bin od_add (e_bin (od_mul (mul_ok hp.b1 hq.b2 (by decide))) (e_top (e_var (i := 0) rfl)) (e_bot (e_var (i := 1) rfl))) (e_bin (od_mul (mul_ok hq.b1 hp.b2 (by decide))) (e_top (e_var (i := 1) rfl)) (e_bot (e_var (i := 0) rfl)))) (a_cons (e_bin (od_mul (mul_ok (Bits.mul two_bits hp.b2) hq.b2 (by decide))) (e_bin (od_mul (mul_ok two_bits hp.b2 (by decide))) e_int (e_bot (e_var (i := 0) rfl))) (e_bot (e_var (i := 1) rfl))) a_nil)) ⟨_, _, rfl, (Bits.mul (Bits.mul two_bits hp.b2) hq.b2).mono (by decide), (lowO_ok nz).symm⟩) rfl)
theorem ok_divided (F : Fun K "divided" "divided" st_divided f fd) (CN : ClsI P w K mg base 1 "NotNumber" ["value"]) (C : CalX P w K mg base 3 "lowest" ["top", "bottom"] (spX K mg R_low)) : FnOk P w K mg base (L2.CX P w) 4 f fd ["one", "other"] (spX K mg R_div) := by
  refine fnX F sc_divided (fun ds o h => by obtain ⟨_, _, rfl, _⟩ := h; rfl) fun cdv A outer s H E G hr ds o h => ?_
  obtain ⟨p, q, rfl, hp, hq, rfl⟩ := h
  unfold divO
  refine x_cons (xs_if (t_cmp od_eqI (e_top (e_var (i := 1) rfl)) e_int (nomark _)) (fun h0 => x_one (xs_raise G (mk_init CN (hr.mono (by decide)) (a_cons (e_var (i := 1) rfl) a_nil) rfl (by simp)) ?_)) fun h0 => x_nil (x_one (xs_of (rs_ret (e_callX C (hr.mono (by decide)) (a_cons (e_bin (od_mul (mul_ok hp.b1 hq.b2 (by decide))) (e_top (e_var (i := 0) rfl)) (e_bot (e_var (i := 1) rfl))) (a_cons (e_bin (od_mul (mul_ok hp.b2 hq.b1 (by decide))) (e_bot (e_var (i := 0) rfl)) (e_top (e_var (i := 1) rfl))) a_nil)) ⟨_, _, rfl, (Bits.mul hp.b2 hq.b1).mono (by decide), (lowO_ok ?_).symm⟩) ?_))))
  · rw [if_pos (by simpa using h0)] <;> rfl
  · have h0 : q.1 ≠ 0 := by simpa using h0
    exact Int.mul_ne_zero (by have := hp.pos; omega) h0
  · rw [if_neg (by simpa using h0)]
def R_cmp (ds : List PyData) (d : PyData) : Prop := R_bin (fun p q => .int (sgn (p.1 * q.2 - q.1 * p.2))) ds d
theorem ok_compared (F : Fun K "compared" "compared" st_compared f fd) (C : Cal P w K mg base 1 "sign_of" ["number"] (spR K R_sign)) : FnOk P w K mg base CX0 2 f fd ["one", "other"] (spR K R_cmp) := by
  refine fnR F sc_compared (fun ds d h => by obtain ⟨_, _, rfl, _⟩ := h; rfl) fun cdv A outer s H E G hr ds d h => ?_
  obtain ⟨p, q, rfl, hp, hq, rfl⟩ := h
  exact r_one (rs_ret (e_call C (hr.mono (by decide)) (a_cons (e_bin od_sub (e_bin (od_mul (mul_ok hp.b1 hq.b2 (by decide))) (e_top (e_var (i := 0) rfl)) (e_bot (e_var (i := 1) rfl))) (e_bin (od_mul (mul_ok hq.b1 hp.b2 (by decide))) (e_top (e_var (i := 1) rfl)) (e_bot (e_var (i := 0) rfl)))) a_nil) ⟨_, rfl, rfl⟩) rfl)
end
end K0
/-! What the law draws; two fractions. -/
namespace K0
open PySem PySem.Spec PyProof.Rows L2 Zj
variable [Nm]
def RH (o : Out) (r : PyData) : Prop := (∃ d, o = .ok d ∧ r = .list [d]) ∨ ∃ y, o = .ex ⟨"NotNumber", [("value", y)]⟩ ∧ r = .tuple [.str "number", y]
/-- what is known of the def that hears, and of the class that it names -/
structure Hr (K : PySem.W.Frag) (mg : Str → Option Value) : Prop where
  ex : ∃ g fd, Fun K "_law_heard" "_law_heard" st__law_heard g fd ∧ mg "_law_heard" = some (.ref g) ∧ L2.Binds K fd ["call"] []
  c1 : XcF K mg "NotNumber" ["value"]
  m11 : Exm K mg "NotNumber" "NotNumber" true
section
variable {X : Cx} {a : Addr} {ρ : Rho} {scope : Scope} {params : Arguments} {body : Expr} {is : List Int} {lpos p pos : Pos} {k : Nat} {o : Out} {r : PyData} {base : Heap} {mg : Str → Option Value} {fd : FuncData} {x : Str}
theorem e_hear (h : Hr X.K X.mg) (ho : RH o r) (hr : Room (k + 2) X.A) (lm : Lmb X.base X.mg fd x) (hc : fd.code = X.env.code) (hq : lamQ X = lq x) (L : LamK X.env.scope scope) (hd : LamD X.env params is) (hbd : LamBind params body scope is) (LO : LamO X a ρ scope body k o)
    (hg : Gl X "_law_heard" := by rfl) : EvE X a (.Call (.Name "_law_heard" p) [.Lambda params body scope lpos] [] pos) ρ r := by
  obtain ⟨g, fdg, F, hm, hb⟩ := h.ex
  obtain ⟨c, P, hc0, TB, hP, hn⟩ := lm.ex
  exact e_heard F hm hb sc__law_heard rfl (.inl rfl) (fun cdv A outer s H G => heard1 (i := 1) G rfl rfl rfl rfl (.inl rfl) (by decide) (by decide) rfl (by decide) h.c1 h.m11 (fun _ => rfl) (fun _ _ => rfl) ho) hr TB (hc.symm.trans hc0) hP (hn.trans hq.symm) L hd hbd LO hg
end
theorem tam_str {x : Str} (h : x.cps.toList.all (fun c => decide (c < 16 ^ 8)) = true) (hb : (PyData.str x).bulk ≤ 10) : Tam 10 0 (.str x) := ⟨by simp only [Zj.Tm]; exact fun c hc => of_decide_eq_true (List.all_eq_true.mp h c hc), hb, by simp only [PyData.depth]; exact Nat.le_refl _⟩
theorem tam_num : Tam 10 0 (.str "number") := tam_str (by decide +kernel) (by decide +kernel)
theorem tam_l1 {d : PyData} {b n : Nat} (h : Tam b n d) : Tam (b + 1) (n + 1) (.list [d]) := (tam_lst (b := b) (n := n) (l := 1) (ds := [d]) (fun x hx => by rw [List.mem_singleton] at hx; rw [hx]; exact h) (by simp)).mono (by omega) (Nat.le_refl _)
theorem tam_l2 {d e : PyData} {b n : Nat} (h : Tam b n d) (h2 : Tam b n e) : Tam ((b + 1) * 2) (n + 1) (.list [d, e]) := tam_lst (l := 2) (fun x hx => by
  rcases List.mem_cons.mp hx with rfl | hx
  · exact h
  · rw [List.mem_singleton] at hx
    rw [hx]
    exact h2) (by simp)
theorem tam_t2 {d e : PyData} {b n : Nat} (h : Tam b n d) (h2 : Tam b n e) : Tam ((b + 1) * 2) (n + 1) (.tuple [d, e]) := tam_tup (l := 2) (fun x hx => by
  rcases List.mem_cons.mp hx with rfl | hx
  · exact h
  · rw [List.mem_singleton] at hx
    rw [hx]
    exact h2) (by simp)
theorem tam_no {v : PyData} {b n : Nat} (h : Tam b n v) (hb : 10 ≤ b) : Tam ((b + 1) * 2) (n + 1) (.tuple [.str "number", v]) := tam_t2 (tam_num.mono hb (Nat.zero_le _)) h
theorem rh_ok (d : PyData) : RH (.ok d) (.list [d]) := .inl ⟨d, rfl, rfl⟩
theorem rh_no (v : PyData) : RH (nnO v) (.tuple [.str "number", v]) := .inr ⟨v, rfl, rfl⟩
theorem tam_fl {t b : Int} (h1 : Bits 1900 t) (h2 : Bits 1900 b) : Tam 2 1 (tI (fracL t b)) := tam_tI (fracL_bits h1 h2) (by rw [fracL_len]; exact Nat.le_refl _)
theorem tam_fr {p : Int × Int} (h : Pn p) : Tam 2 1 (fr p) := tam_tI (l := 2) (bits2 (h.b1.mono (by decide)) (h.b2.mono (by decide))) (by simp)
section
variable {P : Program} {w : World} {K : PySem.W.Frag} {mg : Str → Option Value} {base : Heap} {f : Addr} {fd : FuncData}
def R_int (ds : List PyData) (Q : PyData → Prop) : Prop := ds = [] ∧ ∀ x : Int, Bits 400 x → Q (.int x)
theorem pow_step {i : Nat} {x r : Int} (h : x.natAbs < 2 ^ (20 * i + 10)) (h0 : r.natAbs ≤ 500) : (x * 1000003 + r).natAbs < 2 ^ (20 * (i + 1) + 10) := by
  have e : 2 ^ (20 * (i + 1) + 10) = 2 ^ (20 * i + 10) * 1048576 := by
    rw [show 20 * (i + 1) + 10 = (20 * i + 10) + 20 by omega, Nat.pow_add]
  have g : 2 ^ 10 ≤ 2 ^ (20 * i + 10) := Nat.pow_le_pow_right (by decide) (by omega)
  rw [e]
  have m1 : (x * 1000003).natAbs = x.natAbs * 1000003 := by rw [Int.natAbs_mul] <;> rfl
  have m2 := Int.natAbs_add_le (x * 1000003) r
  generalize 2 ^ (20 * i + 10) = z at *
  omega
theorem ok_int (F : Fun K "_law_integer" "_law_integer" st__law_integer f fd) (T : Tx mg) (C1 : CalG P w K mg base 1 "_law_draw" ["m", "bound"] (spM K 1 R_draw)) : FnG P w K mg base CX0 2 f fd ["m"] (spM K 22 R_int) := by
  refine fnM F sc__law_integer (fun ds Pd h => by obtain ⟨rfl, _⟩ := h; rfl) fun cdv A outer s H E G hr hgd a n ds Pd h => ?_
  obtain ⟨rfl, hP⟩ := h
  refine q_cons (qs_set (i := 1) (m := n + 21) (P := fun d => ∃ x : Int, d = .int x ∧ x.natAbs < 2 ^ 10) G (m_bin (P1 := fun d => ∃ r : Int, d = .int r ∧ 0 ≤ r ∧ r < 19) (P2 := fun _ d => d = .int 9) (m := n + 21) (m_draw (i := 0) C1 hgd (hr.mono (by decide)) rfl e_int (by decide) (by decide)) (fun _ _ => m_pure e_int rfl (Nat.le_refl _)) fun d1 d2 h1 h2 => by
    obtain ⟨r, rfl, r0, r1⟩ := h1
    subst h2
    exact ⟨_, od_sub, _, rfl, by omega⟩) fun d hd => ?_)
  obtain ⟨x, rfl, hx⟩ := hd
  have bx : Bits 400 x := Nat.lt_of_lt_of_le hx (by decide)
  refine q_cons (qs_if (PB := fun _ => True) (m := n + 20) (mt_cmp (P1 := fun d => ∃ r : Int, d = .int r ∧ 0 ≤ r ∧ r < 3) (P2 := fun _ d => d = .int 0) (m := n + 20) (m_draw (i := 0) C1 hgd (hr.mono (by decide)) rfl e_int (by decide) (by decide)) (fun _ _ => m_pure e_int rfl (Nat.le_refl _)) (fun d1 d2 h1 h2 => by
    obtain ⟨r, rfl, _, _⟩ := h1
    subst h2
    exact ⟨_, od_gt, trivial⟩) (nomark _)) (fun _ => q_one (qs_ret (m := n) (P := Pd) (m_pure (e_var (i := 1) rfl) (hP x bx) (by omega)) fun d hd => ⟨Nat.le_refl _, hd⟩)) fun _ => q_nil ?_)
  refine q_cons (qs_forR (n1 := n + 19) (Pk := fun k => 0 ≤ k ∧ k < 20) G (m_weak (m_draw (i := 0) C1 hgd (hr.mono (by decide)) rfl e_int (by decide) (by decide)) (Nat.le_refl _) (Nat.le_refl _) fun d hd => by
      obtain ⟨r, rfl, r0, r1⟩ := hd
      exact ⟨r, rfl, r0, by omega, r0, r1⟩) (pg_name (i := 2) sc__law_integer.nd rfl (Or.inl rfl)) (tg_name (vs := [2]) (by decide))
    (fun k i m ρ' => i ≤ k.toNat ∧ n + 19 ≤ m + i ∧ ∃ (y : Int) (z : Option DV), ρ' = [some .hnd, some (.dat (.int y)), z] ∧ y.natAbs < 2 ^ (20 * i + 10)) (fun k hk => ⟨Nat.zero_le _, by omega, x, none, rfl, hx⟩) (fun k hk i m ρ1 hi hJ => ?_) (fun k hk m ρ' hJ => ?_) T.range)
  · obtain ⟨_, hm, y, z, rfl, hy⟩ := hJ
    obtain ⟨r, rfl⟩ : ∃ r, m = r + 1 := ⟨m - 1, by omega⟩
    have hi20 : i < 20 := by omega
    have by' : Bits 400 y := Nat.lt_of_lt_of_le hy (Nat.pow_le_pow_right (by decide) (by omega))
    have bk : Bits 20 1000003 := show (1000003 : Nat) < 2 ^ 20 by decide
    refine ⟨_, rfl, q_one (qs_set (i := 1) (m := r) (P := fun d => ∃ v : Int, d = .int v ∧ v.natAbs < 2 ^ (20 * (i + 1) + 10)) G (m_bin (P1 := fun d => ∃ v : Int, d = .int (y * 1000003 + v) ∧ 0 ≤ v ∧ v < 1000) (P2 := fun _ d => d = .int 500) (m := r) (m_bin (P1 := fun d => d = .int (y * 1000003)) (P2 := fun _ d => ∃ v : Int, d = .int v ∧ 0 ≤ v ∧ v < 1000) (m := r + 1) (m_pure (e_bin (od_mul (mul_ok by' bk (by decide))) (e_var (i := 1) rfl) e_int) rfl (Nat.le_refl _)) (fun _ _ => m_draw (i := 0) C1 hgd (hr.mono (by decide)) rfl e_int (by decide) (by decide)) fun d1 d2 h1 h2 => ?_) (fun _ _ => m_pure e_int rfl (Nat.le_refl _)) fun d1 d2 h1 h2 => ?_) fun d hd => ?_)⟩
    · subst h1
      obtain ⟨v, rfl, v0, v1⟩ := h2
      exact ⟨_, od_add, v, rfl, v0, v1⟩
    · obtain ⟨v, rfl, v0, v1⟩ := h1
      subst h2
      exact ⟨_, od_sub, _, rfl, by
        rw [Int.add_sub_assoc]
        exact pow_step hy (by omega)⟩
    · obtain ⟨v, rfl, hv⟩ := hd
      exact ⟨by omega, by omega, v, _, rfl, hv⟩
  · obtain ⟨_, hm, y, z, rfl, hy⟩ := hJ
    have by' : Bits 400 y := Nat.lt_of_lt_of_le hy (Nat.pow_le_pow_right (by decide) (by omega))
    refine q_one (qs_ret (m := m) (P := Pd) (m_pure (e_var (i := 1) rfl) (hP y by') (Nat.le_refl _)) fun d hd => ⟨by omega, hd⟩)
def R_pair (ds : List PyData) (Q : PyData → Prop) : Prop := ds = [] ∧ ∀ p, Pn p → Q (fr p)
theorem frac_pn {t b : Int} (hb : b ≠ 0) (h1 : Bits 400 t) (h2 : Bits 400 b) : ∃ p, Pn p ∧ fracL t b = [p.1, p.2] := by
  have go : ∀ t b : Int, 0 < b → Bits 400 t → Bits 400 b → ∃ p, Pn p ∧ fracL t b = [p.1, p.2] := fun t b hb h1 h2 => by
    obtain ⟨g0, e⟩ := shortL_mul [t, b] ⟨b, by simp, by omega⟩
    have hl := shortL_len [t, b]
    obtain ⟨g, hg⟩ : ∃ g, gcdL [t, b] = g := ⟨_, rfl⟩
    rw [hg] at e g0
    match h : shortL [t, b], hl with
    | [u, v], _ =>
      rw [h] at e
      have e1 : t = (g : Int) * u := (List.cons.inj e).1
      have e2 : b = (g : Int) * v := (List.cons.inj (List.cons.inj e).2).1
      have gp : (0 : Int) < g := by omega
      have v0 : 0 < v := by
        rcases Int.lt_or_le 0 v with h | h
        · exact h
        · have := Int.mul_le_mul_of_nonneg_left h (Int.le_of_lt gp)
          omega
      have ef : fracL t b = [u, v] := by unfold fracL; rw [if_pos hb, h]
      have fb := fracL_bits h1 h2
      rw [ef] at fb
      rw [gcdL_cons, gcdL_cons, gcdL_nil, Nat.gcd_zero_right, e1, e2, Int.natAbs_mul, Int.natAbs_mul, Int.natAbs_natCast, Nat.gcd_mul_left] at hg
      have hone : g * Nat.gcd u.natAbs v.natAbs = g * 1 := by rw [hg, Nat.mul_one]
      exact ⟨(u, v), ⟨v0, Nat.eq_of_mul_eq_mul_left g0 hone, (fb _ List.mem_cons_self).mono (by decide), (fb _ (List.mem_cons_of_mem _ List.mem_cons_self)).mono (by decide)⟩, ef⟩
  rcases Int.lt_or_le 0 b with h | h
  · exact go t b h h1 h2
  · obtain ⟨p, hp, e⟩ := go (-t) (-b) (by omega) h1.neg h2.neg
    refine ⟨p, hp, ?_⟩
    have e2 := shortL_scale (c := -1) (xs := [-t, -b]) (by decide) ⟨-b, by simp, by omega⟩
    have e3 : ([-t, -b] : List Int).map (fun x => -1 * x) = [t, b] := by
      show [-1 * -t, -1 * -b] = [t, b]
      rw [show -1 * -t = t by omega, show -1 * -b = b by omega]
    rw [e3, if_neg (by decide)] at e2
    unfold fracL at e ⊢
    rw [if_pos (by omega)] at e
    rw [if_neg (by omega), e2, e]
    show [-(-1 * p.1), -(-1 * p.2)] = [p.1, p.2]
    rw [show -(-1 * p.1) = p.1 by omega, show -(-1 * p.2) = p.2 by omega]
theorem ok_pair (F : Fun K "_law_pair" "_law_pair" st__law_pair f fd) (C1 : CalG P w K mg base 2 "_law_integer" ["m"] (spM K 22 R_int)) (C2 : Cal P w K mg base 3 "_law_fraction" ["top_so", "bottom_so"] (spR K R_fraction)) : FnG P w K mg base CX0 4 f fd ["m"] (spM K 44 R_pair) := by
  refine fnM F sc__law_pair (fun ds Pd h => by obtain ⟨rfl, _⟩ := h; rfl) fun cdv A outer s H E G hr hgd a n ds Pd h => ?_
  obtain ⟨rfl, hP⟩ := h
  refine q_cons (qs_set (i := 1) (m := n + 22) (P := fun d => ∃ x : Int, d = .int x ∧ Bits 400 x) G (m_call (i := 0) (ds := []) C1 hgd (hr.mono (by decide)) rfl a_nil ⟨rfl, fun x h => ⟨x, rfl, h⟩⟩ (by omega)) fun d hd => ?_)
  obtain ⟨b, rfl, hb⟩ := hd
  have one : Bits 400 1 := Nat.one_lt_two_pow (by decide)
  obtain ⟨b', hb', hbb', he⟩ : ∃ b' : Int, b' ≠ 0 ∧ Bits 400 b' ∧ (if (!(b == 0)) = true then b else 1) = b' := by
    by_cases h0 : b = 0
    · subst h0
      exact ⟨1, by decide, one, rfl⟩
    · have e0 : (b == 0) = false := beq_eq_false_iff_ne.mpr h0
      exact ⟨b, h0, hb, by rw [e0] <;> rfl⟩
  refine q_one (qs_ret (m := n) (P := Pd) (m_callR (PA := fun ds => ∃ d ds', ds = d :: ds' ∧ (∃ x : Int, d = .int x ∧ Bits 400 x) ∧ ∃ d2 ds2, ds' = d2 :: ds2 ∧ d2 = .int b' ∧ ds2 = []) C2 (hr.mono (by decide))
    (ma_cons (m := n) (m_call (i := 0) (ds := []) C1 hgd (hr.mono (by decide)) rfl a_nil ⟨rfl, fun x h => ⟨x, rfl, h⟩⟩ (Nat.le_refl _)) fun _ _ => ma_cons (m := n) (P := fun d => d = .int b') (m_pure (e_if (d := .int b') (t_cmp od_neI (e_var (i := 1) rfl) e_int (nomark _)) (fun h1 => e_is (e_var (i := 1) rfl) ?_) fun h1 => e_is e_int ?_) rfl (Nat.le_refl _)) fun _ _ => ma_nil (Nat.le_refl _)) fun ds hds => ?_) fun d hd => ⟨Nat.le_refl _, hd⟩)
  · rw [← he, if_pos h1]
  · rw [← he, if_neg (by rw [h1]; exact Bool.false_ne_true)]
  · obtain ⟨_, _, rfl, ⟨t, rfl, ht⟩, _, _, rfl, rfl, rfl⟩ := hds
    obtain ⟨p, hp, e⟩ := frac_pn (t := t) hb' ht hbb'
    exact ⟨tI (fracL t b'), ⟨t, b', rfl, ht.mono (by decide), hbb'.mono (by decide), rfl⟩, by rw [e]; exact hP p hp⟩
def R_two (ds : List PyData) (d : PyData) : Prop := ∃ p q, ds = [fr p, fr q] ∧ Pn p ∧ Pn q ∧ d = .bool true
theorem ok_two (F : Fun K "_law_two_right" "_law_two_right" st__law_two_right f fd) (lm : Lmb base mg fd "_law_two_right") (h : Hr K mg) (CL : CalG P w K mg base 1 "_law_like" ["told", "due"] (spR K R_like)) (CF : Cal P w K mg base 3 "_law_fraction" ["top_so", "bottom_so"] (spR K R_fraction)) (CS : Cal P w K mg base 1 "_law_sign" ["number"] (spR K R_sign))
    (C1 : Cal P w K mg base 4 "added" ["one", "other"] (spR K (R_bin fun p q => tI (addL p q)))) (C2 : Cal P w K mg base 4 "minus" ["one", "other"] (spR K (R_bin fun p q => tI (subL p q)))) (C3 : Cal P w K mg base 4 "times" ["one", "other"] (spR K (R_bin fun p q => tI (mulL p q)))) (C4 : Cal P w K mg base 4 "halfway" ["one", "other"] (spR K (R_bin fun p q => tI (halfL p q))))
    (C5 : CalX P w K mg base 4 "divided" ["one", "other"] (spX K mg R_div)) (C6 : Cal P w K mg base 2 "compared" ["one", "other"] (spR K R_cmp)) : FnG P w K mg base CX0 7 f fd ["one_so", "other_so"] (spR K R_two) := by
  refine fnRGC F sc__law_two_right (fun ds d h => by obtain ⟨_, _, rfl, _⟩ := h; rfl) fun cdv hcv A outer s H E G hr hgd ds d h' => ?_
  obtain ⟨p, q, rfl, hp, hq, rfl⟩ := h'
  have b11 := Bits.mul hp.b1 hq.b1
  have b12 := Bits.mul hp.b1 hq.b2
  have b21 := Bits.mul hq.b1 hp.b2
  have b22 := Bits.mul hp.b2 hq.b2
  have bs : Bits 901 (p.1 * q.2 + q.1 * p.2) := Bits.add b12 b21
  have bd : Bits 901 (p.1 * q.2 - q.1 * p.2) := by rw [Int.sub_eq_add_neg]; exact Bits.add b12 b21.neg
  have b2 := Bits.mul two_bits hp.b2
  have b22' := Bits.mul b2 hq.b2
  refine r_cons (rs_asg (ρ' := [some (.dat (fr p)), some (.dat (fr q)), some (.dat (.int p.1)), some (.dat (.int p.2)), none, none, none]) (e_var (i := 0) rfl) (pg_tup rfl (pgs_cons (pg_name (i := 2) sc__law_two_right.nd rfl (Or.inl rfl)) (pgs_cons (pg_name (i := 3) sc__law_two_right.nd rfl (Or.inl rfl)) pgs_nil)))
    (fun T σ H v S p Q q => tg_pair (vs := [2, 3]) (by decide) (by decide) T σ H v _ _ _ S p rfl Q (fun σ' h _ => q σ' h)) ?_)
  refine r_cons (rs_asg (ρ' := [some (.dat (fr p)), some (.dat (fr q)), some (.dat (.int p.1)), some (.dat (.int p.2)), some (.dat (.int q.1)), some (.dat (.int q.2)), none]) (e_var (i := 1) rfl) (pg_tup rfl (pgs_cons (pg_name (i := 4) sc__law_two_right.nd rfl (Or.inl rfl)) (pgs_cons (pg_name (i := 5) sc__law_two_right.nd rfl (Or.inl rfl)) pgs_nil)))
    (fun T σ H v S p Q q => tg_pair (vs := [4, 5]) (by decide) (by decide) T σ H v _ _ _ S p rfl Q (fun σ' h _ => q σ' h)) ?_)
  refine r_cons (r_skip (t_notlike (d := .list [tI (addL p q), tI (subL p q)]) CL hgd (hr.mono (by decide)) (a_cons (e_lst (a_cons (e_call C1 (hr.mono (by decide)) (a_cons (e_var (i := 0) rfl) (a_cons (e_var (i := 1) rfl) a_nil)) ⟨p, q, rfl, hp, hq, rfl⟩) (a_cons (e_call C2 (hr.mono (by decide)) (a_cons (e_var (i := 0) rfl) (a_cons (e_var (i := 1) rfl) a_nil)) ⟨p, q, rfl, hp, hq, rfl⟩) a_nil)))
    (a_cons (e_lst (a_cons (e_call CF (hr.mono (by decide)) (a_cons (e_bin od_add (e_bin (od_mul (mul_ok hp.b1 hq.b2 (by decide))) (e_var (i := 2) rfl) (e_var (i := 5) rfl)) (e_bin (od_mul (mul_ok hq.b1 hp.b2 (by decide))) (e_var (i := 4) rfl) (e_var (i := 3) rfl))) (a_cons (e_bin (od_mul (mul_ok hp.b2 hq.b2 (by decide))) (e_var (i := 3) rfl) (e_var (i := 5) rfl)) a_nil)) ⟨_, _, rfl, bs.mono (by decide), b22.mono (by decide), rfl⟩)
      (a_cons (e_call CF (hr.mono (by decide)) (a_cons (e_bin od_sub (e_bin (od_mul (mul_ok hp.b1 hq.b2 (by decide))) (e_var (i := 2) rfl) (e_var (i := 5) rfl)) (e_bin (od_mul (mul_ok hq.b1 hp.b2 (by decide))) (e_var (i := 4) rfl) (e_var (i := 3) rfl))) (a_cons (e_bin (od_mul (mul_ok hp.b2 hq.b2 (by decide))) (e_var (i := 3) rfl) (e_var (i := 5) rfl)) a_nil)) ⟨_, _, rfl, bd.mono (by decide), b22.mono (by decide), rfl⟩) a_nil))) a_nil)) ((tam_l2 (tam_fl (bs.mono (by decide)) (b22.mono (by decide))) (tam_fl (bd.mono (by decide)) (b22.mono (by decide)))).tame (by decide) (by decide))) ?_)
  refine r_cons (r_skip (t_notlike (d := .list [tI (mulL p q), tI (halfL p q)]) CL hgd (hr.mono (by decide)) (a_cons (e_lst (a_cons (e_call C3 (hr.mono (by decide)) (a_cons (e_var (i := 0) rfl) (a_cons (e_var (i := 1) rfl) a_nil)) ⟨p, q, rfl, hp, hq, rfl⟩) (a_cons (e_call C4 (hr.mono (by decide)) (a_cons (e_var (i := 0) rfl) (a_cons (e_var (i := 1) rfl) a_nil)) ⟨p, q, rfl, hp, hq, rfl⟩) a_nil)))
    (a_cons (e_lst (a_cons (e_call CF (hr.mono (by decide)) (a_cons (e_bin (od_mul (mul_ok hp.b1 hq.b1 (by decide))) (e_var (i := 2) rfl) (e_var (i := 4) rfl)) (a_cons (e_bin (od_mul (mul_ok hp.b2 hq.b2 (by decide))) (e_var (i := 3) rfl) (e_var (i := 5) rfl)) a_nil)) ⟨_, _, rfl, b11.mono (by decide), b22.mono (by decide), rfl⟩)
      (a_cons (e_call CF (hr.mono (by decide)) (a_cons (e_bin od_add (e_bin (od_mul (mul_ok hp.b1 hq.b2 (by decide))) (e_var (i := 2) rfl) (e_var (i := 5) rfl)) (e_bin (od_mul (mul_ok hq.b1 hp.b2 (by decide))) (e_var (i := 4) rfl) (e_var (i := 3) rfl))) (a_cons (e_bin (od_mul (mul_ok b2 hq.b2 (by decide))) (e_bin (od_mul (mul_ok two_bits hp.b2 (by decide))) e_int (e_var (i := 3) rfl)) (e_var (i := 5) rfl)) a_nil)) ⟨_, _, rfl, bs.mono (by decide), b22'.mono (by decide), rfl⟩) a_nil))) a_nil)) ((tam_l2 (tam_fl (b11.mono (by decide)) (b22.mono (by decide))) (tam_fl (bs.mono (by decide)) (b22'.mono (by decide)))).tame (by decide) (by decide))) ?_)
  have bdb : Bits 900 (p.2 * q.1) := Bits.mul hp.b2 hq.b1
  obtain ⟨r, hrr, tr, hdue⟩ : ∃ r, RH (divO p q) r ∧ Tam 30 2 r ∧ r = if (!(q.1 == 0)) = true then PyData.list [tI (fracL (p.1 * q.2) (p.2 * q.1))] else .tuple [.str "number", fr q] := by
    unfold divO
    by_cases h0 : q.1 = 0
    · have e0 : (!(q.1 == 0)) = false := by rw [h0] <;> rfl
      rw [if_pos h0, e0, if_neg Bool.false_ne_true]
      exact ⟨_, rh_no _, (tam_no ((tam_fr hq).mono (b' := 10) (by decide) (Nat.le_refl _)) (by decide)).mono (by decide) (by decide), rfl⟩
    · have e0 : (!(q.1 == 0)) = true := by simpa using h0
      rw [if_neg h0, e0, if_pos rfl]
      exact ⟨_, rh_ok _, (tam_l1 (tam_fl (b12.mono (by decide)) (bdb.mono (by decide)))).mono (by decide) (by decide), rfl⟩
  refine r_cons (rs_set (i := 6) (d := r) G (e_if (d := r) (t_cmp od_neI (e_var (i := 4) rfl) e_int (nomark _)) (fun h1 => e_is (e_lst (a_cons (e_call CF (hr.mono (by decide)) (a_cons (e_bin (od_mul (mul_ok hp.b1 hq.b2 (by decide))) (e_var (i := 2) rfl) (e_var (i := 5) rfl)) (a_cons (e_bin (od_mul (mul_ok hp.b2 hq.b1 (by decide))) (e_var (i := 3) rfl) (e_var (i := 4) rfl)) a_nil)) ⟨_, _, rfl, b12.mono (by decide), bdb.mono (by decide), rfl⟩) a_nil)) ?_) fun h1 => e_is (e_tup (a_cons e_str (a_cons (e_var (i := 1) rfl) a_nil))) ?_) ?_)
  · rw [hdue, if_pos h1]
  · rw [hdue, if_neg (by rw [h1]; exact Bool.false_ne_true)]
  refine r_cons (r_skip (t_notlike CL hgd (hr.mono (by decide)) (a_cons (e_hear h hrr (hr.mono (by decide)) lm hcv rfl (lamK_by (sc := defScope st__law_two_right) (by decide +kernel)) (.no rfl) (lamBind0 fun _ _ _ _ _ _ => rfl) (lam_call C5 ⟨p, q, rfl, hp, hq, rfl⟩ fun A outer s H E f' c' => a_cons (e_var (i := 0) rfl) (a_cons (e_var (i := 1) rfl) a_nil))) (a_cons (e_var (i := 6) rfl) a_nil)) (tr.tame (by decide) (by decide))) ?_)
  have z0 : sgn (p.1 * p.2 - p.1 * p.2) = 0 := by rw [Int.sub_self] <;> rfl
  refine r_one (rs_ret (e_callG CL hgd (hr.mono (by decide)) (a_cons (e_lst (a_cons (e_call C6 (hr.mono (by decide)) (a_cons (e_var (i := 0) rfl) (a_cons (e_var (i := 1) rfl) a_nil)) ⟨p, q, rfl, hp, hq, rfl⟩) (a_cons (e_call C6 (hr.mono (by decide)) (a_cons (e_var (i := 0) rfl) (a_cons (e_var (i := 0) rfl) a_nil)) ⟨p, p, rfl, hp, hp, by show PyData.int 0 = .int (sgn (p.1 * p.2 - p.1 * p.2)); rw [z0]⟩) a_nil)))
    (a_cons (e_lst (a_cons (e_call CS (hr.mono (by decide)) (a_cons (e_bin od_sub (e_bin (od_mul (mul_ok hp.b1 hq.b2 (by decide))) (e_var (i := 2) rfl) (e_var (i := 5) rfl)) (e_bin (od_mul (mul_ok hq.b1 hp.b2 (by decide))) (e_var (i := 4) rfl) (e_var (i := 3) rfl))) a_nil) ⟨_, rfl, rfl⟩) (a_cons e_int a_nil))) a_nil)) ⟨_, rfl, (tam_l2 (tam_int ?_) (tam_int (by unfold Bits; decide +kernel))).tame (by decide) (by decide), rfl⟩) rfl)
  refine Bits.mono (m := 1) ?_ (by decide)
  unfold sgn Bits
  split
  · decide
  · split <;> decide
end
end K0
/-! Fractions brought to lowest terms, and judged. -/
namespace K0
open PySem PySem.Spec PyProof.Rows L2 Zj
variable [Nm]
/-- a value that is judged, near a fraction -/
structure Vp (p : Int × Int) (v : PyData) : Prop where
  sh : SeqAt.shaped v = true
  tam : Tam 20 2 v
  eq : (PyData.eqv v (fr p) && tupD v) = okF v
  len : ∀ xs, v = .tuple xs → xs.length ≤ 1000
theorem eqv_lt (xs ys : List Int) : PyData.eqv (lI xs) (tI ys) = false := by simp only [PyData.eqv]
theorem vp_all {p : Int × Int} (h : Pn p) {v : PyData} (hv : v ∈ [fr p, .tuple [.int p.1, .int (-p.2)], .tuple [.int (2 * p.1), .int (2 * p.2)], lI [p.1, p.2], .tuple [.int p.1, .int p.2, .int 1], .tuple [.int p.1, .none], .tuple [.int p.1, .int 0]]) : Vp p v := by
  have h0 := h.pos
  have b1 : Bits 1000 p.1 := h.b1.mono (by decide)
  have b2 : Bits 1000 p.2 := h.b2.mono (by decide)
  have two : ∀ {x y : Int}, Bits 1000 x → Bits 1000 y → Tam 20 2 (tI [x, y]) := fun {x y} g1 g2 => (tam_tI (l := 2) (bits2 (g1.mono (by decide)) (g2.mono (by decide))) (by simp)).mono (by decide) (by decide)
  simp only [List.mem_cons, List.not_mem_nil, or_false] at hv
  rcases hv with rfl | rfl | rfl | rfl | rfl | rfl | rfl
  · exact ⟨shaped_tI _, two b1 b2, by
      rw [h.ok]
      show (PyData.eqv (tI [p.1, p.2]) (tI [p.1, p.2]) && true) = true
      rw [eqv_tI, beq_self_eq_true] <;> rfl, fun xs e => by cases e; simp⟩
  · refine ⟨shaped_tI [p.1, -p.2], two b1 b2.neg, ?_, fun xs e => by cases e; simp⟩
    have e1 : PyData.eqv (tI [p.1, -p.2]) (tI [p.1, p.2]) = false := by
      rw [eqv_tI]
      exact beq_eq_false_iff_ne.mpr fun z => by
        have := (List.cons.inj (List.cons.inj z).2).1
        omega
    show (PyData.eqv (tI [p.1, -p.2]) (tI [p.1, p.2]) && true) = (decide (1 ≤ -p.2) && _)
    rw [e1, decide_eq_false (show ¬ 1 ≤ -p.2 by omega)] <;> rfl
  · refine ⟨shaped_tI [2 * p.1, 2 * p.2], two ((Bits.mul two_bits h.b1).mono (by decide)) ((Bits.mul two_bits h.b2).mono (by decide)), ?_, fun xs e => by cases e; simp⟩
    have e1 : PyData.eqv (tI [2 * p.1, 2 * p.2]) (tI [p.1, p.2]) = false := by
      rw [eqv_tI]
      exact beq_eq_false_iff_ne.mpr fun z => by
        have := (List.cons.inj (List.cons.inj z).2).1
        omega
    show (PyData.eqv (tI [2 * p.1, 2 * p.2]) (tI [p.1, p.2]) && true) = (decide (1 ≤ 2 * p.2) && (Nat.gcd (2 * p.1).natAbs (2 * p.2).natAbs == 1))
    rw [e1, Int.natAbs_mul, Int.natAbs_mul, Nat.gcd_mul_left, h.one]
    cases decide (1 ≤ 2 * p.2) <;> rfl
  · refine ⟨shaped_lI _, ?_, ?_, fun xs e => by cases e⟩
    · refine (tam_lst (b := 0) (n := 0) (l := 2) (fun d hd => ?_) (by simp)).mono (by decide) (by decide)
      obtain ⟨x, hx, rfl⟩ := mem_mapI hd
      exact tam_int (bits2 (h.b1.mono (by decide)) (h.b2.mono (by decide)) x hx)
    · show (PyData.eqv (lI [p.1, p.2]) (tI [p.1, p.2]) && false) = false
      rw [Bool.and_false]
  · refine ⟨shaped_tI [p.1, p.2, 1], ?_, ?_, fun xs e => by cases e; simp⟩
    · refine (tam_tI (xs := [p.1, p.2, 1]) (l := 3) (fun x hx => ?_) (by simp)).mono (by decide) (by decide)
      simp only [List.mem_cons, List.not_mem_nil, or_false] at hx
      rcases hx with rfl | rfl | rfl
      · exact b1.mono (by decide)
      · exact b2.mono (by decide)
      · exact Nat.one_lt_two_pow (by decide)
    · show (PyData.eqv (tI [p.1, p.2, 1]) (tI [p.1, p.2]) && true) = false
      rw [eqv_tI]
      have : ([p.1, p.2, 1] == [p.1, p.2]) = false := beq_eq_false_iff_ne.mpr fun z => by
        have := congrArg List.length z
        simp at this
      rw [this] <;> rfl
  · refine ⟨by simp [SeqAt.shaped, PyData.canLay0, PyData.canLayAll0, PyData.depth, PyData.depthAll], ?_, ?_, fun xs e => by cases e; simp⟩
    · refine (tam_tup (b := 0) (n := 0) (l := 2) (fun d hd => ?_) (by simp)).mono (by decide) (by decide)
      rcases List.mem_cons.mp hd with rfl | hd
      · exact tam_int (b1.mono (by decide))
      · rw [List.mem_singleton] at hd
        rw [hd]
        exact tam_non
    · show (PyData.eqv (.tuple [.int p.1, .none]) (tI [p.1, p.2]) && true) = false
      have : PyData.eqv (.tuple [.int p.1, .none]) (tI [p.1, p.2]) = false := by
        show PyData.eqv (.tuple [.int p.1, .none]) (.tuple [.int p.1, .int p.2]) = false
        simp [PyData.eqv, PyData.eqvAll]
      rw [this] <;> rfl
  · refine ⟨shaped_tI [p.1, 0], two b1 (Nat.two_pow_pos _), ?_, fun xs e => by cases e; simp⟩
    have e1 : PyData.eqv (tI [p.1, 0]) (tI [p.1, p.2]) = false := by
      rw [eqv_tI]
      exact beq_eq_false_iff_ne.mpr fun z => by
        have := (List.cons.inj (List.cons.inj z).2).1
        omega
    show (PyData.eqv (tI [p.1, 0]) (tI [p.1, p.2]) && true) = (decide ((1 : Int) ≤ 0) && (Nat.gcd p.1.natAbs (0 : Int).natAbs == 1))
    rw [e1] <;> rfl
section
variable {P : Program} {w : World} {K : PySem.W.Frag} {mg : Str → Option Value} {base : Heap} {f : Addr} {fd : FuncData}
def R_lr (ds : List PyData) (Q : PyData → Prop) : Prop := ds = [] ∧ Q (.bool true)
theorem ok_lr (F : Fun K "_law_lowest_right" "_law_lowest_right" st__law_lowest_right f fd) (T : Tx mg) (lm : Lmb base mg fd "_law_lowest_right") (h : Hr K mg) (CL : CalG P w K mg base 1 "_law_like" ["told", "due"] (spR K R_like)) (CF : Cal P w K mg base 3 "_law_fraction" ["top_so", "bottom_so"] (spR K R_fraction))
    (C1 : CalG P w K mg base 1 "_law_draw" ["m", "bound"] (spM K 1 R_draw)) (CI : CalG P w K mg base 2 "_law_integer" ["m"] (spM K 22 R_int)) (CP : CalG P w K mg base 4 "_law_pair" ["m"] (spM K 44 R_pair)) (CX : CalX P w K mg base 3 "lowest" ["top", "bottom"] (spX K mg R_low)) (CC : CalX P w K mg base 3 "check_fraction" ["value"] (spX K mg R_cf)) :
    FnG P w K mg base CX0 6 f fd ["m"] (spM K 89 R_lr) := by
  refine fnMC F sc__law_lowest_right (fun ds Pd h => by obtain ⟨rfl, _⟩ := h; rfl) fun cdv hcv A outer s H E G hr hgd a n ds Pd h' => ?_
  obtain ⟨rfl, hP⟩ := h'
  refine q_cons (qs_asg (m := n + 45) (P := fun d => ∃ t b : Int, d = .tuple [.int t, .int b] ∧ Bits 400 t ∧ Bits 400 b) (m_tup (PA := fun ds => ∃ d ds', ds = d :: ds' ∧ (∃ t : Int, d = .int t ∧ Bits 400 t) ∧ ∃ d2 ds2, ds' = d2 :: ds2 ∧ (∃ t : Int, d2 = .int t ∧ Bits 400 t) ∧ ds2 = [])
    (ma_cons (m := n + 67) (m_call (i := 0) (ds := []) CI hgd (hr.mono (by decide)) rfl a_nil ⟨rfl, fun x h => ⟨x, rfl, h⟩⟩ (by omega)) fun _ _ => ma_cons (m := n + 45) (P := fun d => ∃ t : Int, d = .int t ∧ Bits 400 t) (m_call (i := 0) (ds := []) CI hgd (hr.mono (by decide)) rfl a_nil ⟨rfl, fun x h => ⟨x, rfl, h⟩⟩ (by omega)) fun _ _ => ma_nil (Nat.le_refl _)) fun ds hds => ?_)
    (pg_tup rfl (pgs_cons (pg_name (i := 4) sc__law_lowest_right.nd rfl (Or.inr rfl)) (pgs_cons (pg_name (i := 3) sc__law_lowest_right.nd rfl (Or.inr rfl)) pgs_nil))) (tg_pair (vs := [4, 3]) (by decide) (by decide)) fun d hd => ?_)
  · obtain ⟨_, _, rfl, ⟨t, rfl, ht⟩, _, _, rfl, ⟨b, rfl, hb⟩, rfl⟩ := hds
    exact ⟨by simp, t, b, rfl, ht, hb⟩
  obtain ⟨t, b, rfl, ht, hb⟩ := hd
  refine ⟨_, rfl, ?_⟩
  obtain ⟨r, hrr, tr, hdue⟩ : ∃ r, RH (lowO t b) r ∧ Tam 30 2 r ∧ r = if (!(b == 0)) = true then PyData.list [tI (fracL t b)] else .tuple [.str "number", .int 0] := by
    unfold lowO
    by_cases h0 : b = 0
    · have e0 : (!(b == 0)) = false := by rw [h0] <;> rfl
      rw [if_pos h0, e0, if_neg Bool.false_ne_true]
      exact ⟨_, rh_no _, (tam_no ((tam_int (Nat.two_pow_pos _)).mono (b' := 10) (by decide) (Nat.le_refl _)) (by decide)).mono (by decide) (by decide), rfl⟩
    · have e0 : (!(b == 0)) = true := by simpa using h0
      rw [if_neg h0, e0, if_pos rfl]
      exact ⟨_, rh_ok _, (tam_l1 (tam_fl (ht.mono (by decide)) (hb.mono (by decide)))).mono (by decide) (by decide), rfl⟩
  refine q_cons (qs_set (i := 1) (m := n + 45) (P := fun d => d = r) G (m_pure (e_if (d := r) (t_cmp od_neI (e_var (i := 3) rfl) e_int (nomark _)) (fun h1 => e_is (e_lst (a_cons (e_call CF (hr.mono (by decide)) (a_cons (e_var (i := 4) rfl) (a_cons (e_var (i := 3) rfl) a_nil)) ⟨_, _, rfl, ht.mono (by decide), hb.mono (by decide), rfl⟩) a_nil)) ?_) fun h1 => e_is (e_tup (a_cons e_str (a_cons e_int a_nil))) ?_) rfl (Nat.le_refl _)) fun d hd => ?_)
  · rw [hdue, if_pos h1]
  · rw [hdue, if_neg (by rw [h1]; exact Bool.false_ne_true)]
  subst hd
  refine q_cons (q_skip (t_notlike CL hgd (hr.mono (by decide)) (a_cons (e_hear h hrr (hr.mono (by decide)) lm hcv rfl (lamK_by (sc := defScope st__law_lowest_right) (by decide +kernel)) (.no rfl) (lamBind0 fun _ _ _ _ _ _ => rfl) (lam_call CX ⟨t, b, rfl, hb.mono (by decide), rfl⟩ fun A outer s H E f' c' => a_cons (e_var (i := 4) rfl) (a_cons (e_var (i := 3) rfl) a_nil))) (a_cons (e_var (i := 1) rfl) a_nil)) (tr.tame (by decide) (by decide))) ?_)
  refine q_cons (qs_set (i := 2) (m := n + 1) (P := fun d => ∃ p, d = fr p ∧ Pn p) G (m_call (i := 0) (ds := []) CP hgd (hr.mono (by decide)) rfl a_nil ⟨rfl, fun p hp => ⟨p, rfl, hp⟩⟩ (by omega)) fun d hd => ?_)
  obtain ⟨p, rfl, hp⟩ := hd
  refine q_cons (qs_set (i := 5) (m := n) (P := Vp p) G (m_ixL (ds := [fr p, .tuple [.int p.1, .int (-p.2)], .tuple [.int (2 * p.1), .int (2 * p.2)], lI [p.1, p.2], .tuple [.int p.1, .int p.2, .int 1], .tuple [.int p.1, .none], .tuple [.int p.1, .int 0]]) (PI := fun d => ∃ r : Int, d = .int r ∧ 0 ≤ r ∧ r < 7)
    (e_lst (a_cons (e_var (i := 2) rfl) (a_cons (e_tup (a_cons (e_top (e_var (i := 2) rfl)) (a_cons (e_neg (e_bot (e_var (i := 2) rfl))) a_nil))) (a_cons (e_tup (a_cons (e_bin (od_mul (mul_ok two_bits hp.b1 (by decide))) e_int (e_top (e_var (i := 2) rfl))) (a_cons (e_bin (od_mul (mul_ok two_bits hp.b2 (by decide))) e_int (e_bot (e_var (i := 2) rfl))) a_nil)))
      (a_cons (e_callT ca_listT (a_cons (e_var (i := 2) rfl) a_nil) T.list (by decide +kernel)) (a_cons (e_bin (od_catA (es := [.int p.1, .int p.2]) (fs := [.int 1]) (by simp)) (e_var (i := 2) rfl) (e_tup (a_cons e_int a_nil))) (a_cons (e_tup (a_cons (e_top (e_var (i := 2) rfl)) (a_cons e_non a_nil))) (a_cons (e_tup (a_cons (e_top (e_var (i := 2) rfl)) (a_cons e_int a_nil))) a_nil))))))))
    (m_draw (i := 0) C1 hgd (hr.mono (by decide)) rfl e_int (by decide) (by decide)) fun d hd => ?_) fun v hv => ?_)
  · obtain ⟨r, rfl, r0, r1⟩ := hd
    obtain ⟨j, rfl⟩ : ∃ j : Nat, r = j := ⟨r.toNat, by omega⟩
    have hj : j < 7 := by omega
    exact ⟨_, _, rfl, atI_nat (List.getElem?_eq_getElem hj), vp_all hp (List.getElem_mem hj)⟩
  obtain ⟨r2, hr2, tr2, hdue2⟩ : ∃ r2, RH (cfO v) r2 ∧ Tam 50 3 r2 ∧ r2 = if okF v = true then PyData.list [v] else .tuple [.str "number", v] := by
    unfold cfO
    by_cases h0 : okF v = true
    · rw [if_pos h0, if_pos h0]
      exact ⟨_, rh_ok _, (tam_l1 hv.tam).mono (by decide) (by decide), rfl⟩
    · rw [if_neg h0, if_neg h0]
      exact ⟨_, rh_no _, (tam_no hv.tam (by decide)).mono (by decide) (by decide), rfl⟩
  refine q_cons (qs_set (i := 1) (m := n) (P := fun d => d = r2) G (m_pure (e_if (b := okF v) (d := r2) (t_and2 (b := PyData.eqv v (fr p)) (t_cmp (od_eqD G.un hv.sh (shaped_tI _)) (e_var (i := 5) rfl) (e_var (i := 2) rfl) (nomark _)) (fun h1 => t_is (t_val (e_isTup (e_var (i := 5) rfl) T.isi T.tuple)) ?_) fun h1 => ?_)
    (fun h1 => e_is (e_lst (a_cons (e_var (i := 5) rfl) a_nil)) ?_) fun h1 => e_is (e_tup (a_cons e_str (a_cons (e_var (i := 5) rfl) a_nil))) ?_) rfl (Nat.le_refl _)) fun d hd => ?_)
  · rw [← hv.eq, h1, Bool.true_and]
  · rw [← hv.eq, h1, Bool.false_and]
  · rw [hdue2, if_pos h1]
  · rw [hdue2, if_neg (by rw [h1]; exact Bool.false_ne_true)]
  subst hd
  exact q_one (qs_ret (m := n) (P := Pd) (m_pure (e_callG CL hgd (hr.mono (by decide)) (a_cons (e_hear h hr2 (hr.mono (by decide)) lm hcv rfl (lamK_by (sc := defScope st__law_lowest_right) (by decide +kernel)) (.no rfl) (lamBind0 fun _ _ _ _ _ _ => rfl) (lam_call CC ⟨v, rfl, hv.len, rfl⟩ fun A outer s H E f' c' => a_cons (e_var (i := 5) rfl) a_nil)) (a_cons (e_var (i := 1) rfl) a_nil)) ⟨_, rfl, tr2.tame (by decide) (by decide), rfl⟩) hP (Nat.le_refl _)) fun d hd => ⟨Nat.le_refl _, hd⟩)
end
end K0
/-! Values by hand. -/
namespace K0
open PySem PySem.Spec PyProof.Rows L2 Zj
variable [Nm]
theorem pnw {a b : Int} (h : (decide (0 < b) && (Nat.gcd a.natAbs b.natAbs == 1) && decide (a.natAbs < 2 ^ 20) && decide (b.natAbs < 2 ^ 20)) = true) : Pn (a, b) := by
  rw [Bool.and_eq_true, Bool.and_eq_true, Bool.and_eq_true] at h
  obtain ⟨⟨⟨h1, h2⟩, h3⟩, h4⟩ := h
  exact ⟨of_decide_eq_true h1, eq_of_beq h2, Bits.mono (m := 20) (of_decide_eq_true h3) (by decide), Bits.mono (m := 20) (of_decide_eq_true h4) (by decide)⟩
theorem kbA {f : Str} {st : Stmt} {a b : Str} (e : ∀ (kV doc pm : Value) (an : Option Addr) (cdv ct u v : Value), bindArgs (PySem.W.fnOf f f (defArgs st) (defBody st) (defScope st) .none kV doc pm an cdv ct) ⟨[], [(a, u), (b, v)]⟩ = pure [(a, u), (b, v)])
    (kV doc pm : Value) (an : Option Addr) (cdv ct : Value) (ws : List Value) (hl : ws.length = ([a, b] : List Str).length) : bindArgs (PySem.W.fnOf f f (defArgs st) (defBody st) (defScope st) .none kV doc pm an cdv ct) ⟨[], ([a, b] : List Str).zip ws⟩ = pure (([a, b] : List Str).zip (turn2 false ws)) := by
  match ws, hl with
  | [u, v], _ => exact e kV doc pm an cdv ct u v
theorem kbB {f : Str} {st : Stmt} {a b : Str} (e : ∀ (kV doc pm : Value) (an : Option Addr) (cdv ct u v : Value), bindArgs (PySem.W.fnOf f f (defArgs st) (defBody st) (defScope st) .none kV doc pm an cdv ct) ⟨[], [(b, u), (a, v)]⟩ = pure [(a, v), (b, u)])
    (kV doc pm : Value) (an : Option Addr) (cdv ct : Value) (ws : List Value) (hl : ws.length = ([a, b] : List Str).length) : bindArgs (PySem.W.fnOf f f (defArgs st) (defBody st) (defScope st) .none kV doc pm an cdv ct) ⟨[], ([b, a] : List Str).zip ws⟩ = pure (([a, b] : List Str).zip (turn2 true ws)) := by
  match ws, hl with
  | [u, v], _ => exact e kV doc pm an cdv ct u v
theorem kb1 {f : Str} {st : Stmt} {a : Str} (e : ∀ (kV doc pm : Value) (an : Option Addr) (cdv ct u : Value), bindArgs (PySem.W.fnOf f f (defArgs st) (defBody st) (defScope st) .none kV doc pm an cdv ct) ⟨[], [(a, u)]⟩ = pure [(a, u)])
    (kV doc pm : Value) (an : Option Addr) (cdv ct : Value) (ws : List Value) (hl : ws.length = ([a] : List Str).length) : bindArgs (PySem.W.fnOf f f (defArgs st) (defBody st) (defScope st) .none kV doc pm an cdv ct) ⟨[], ([a] : List Str).zip ws⟩ = pure (([a] : List Str).zip (turn2 false ws)) := by
  match ws, hl with
  | [u], _ => exact e kV doc pm an cdv ct u
/-- no fraction, of few signs -/
structure Od (d : PyData) : Prop where
  no : okF d = false
  tam : Tam 40 2 d
  len : ∀ xs, d = .tuple xs → xs.length ≤ 1000
theorem Od.o {d : PyData} (h : Od d) : cfO d = nnO d := by
  unfold cfO
  rw [h.no, if_neg Bool.false_ne_true]
theorem bs {x : Int} (h : x.natAbs < 2 ^ 10) : Bits 1900 x := Bits.mono (m := 10) h (by decide)
theorem od_t {xs : List PyData} (hn : okF (.tuple xs) = false) (h : ∀ d ∈ xs, Tam 10 0 d) (hl : xs.length ≤ 3) : Od (.tuple xs) := ⟨hn, (tam_tup (b := 10) (n := 0) (l := 3) h hl).mono (by decide) (by decide), fun ys e => by cases e; omega⟩
theorem tam_bool {b : Bool} : Tam 10 0 (.bool b) := by cases b <;> exact ⟨by simp only [Zj.Tm], by decide +kernel, by decide +kernel⟩
theorem tam_i {x : Int} (h : x.natAbs < 2 ^ 10) : Tam 10 0 (.int x) := (tam_int (bs h)).mono (by decide) (by decide)
theorem tam_one : Tam 10 0 (.str "1") := tam_str (by decide +kernel) (by decide +kernel)
def odds : List PyData := [.none, .int 1, .str "1", .tuple [], .tuple [.int 1], .tuple [.int 1, .int 2, .int 3], .list [.int 1, .int 2], .tuple [.bool true, .int 1], .tuple [.int 1, .bool true], .tuple [.int 0, .int 2], .tuple [.int 0, .int 0], .tuple [.int 4, .int 6], .tuple [.int 1, .int (-1)], .tuple [.str "1", .int 2], .tuple [.int 0, .bool true]]
theorem all1 {P : PyData → Prop} {a : PyData} (h : P a) : ∀ d ∈ [a], P d := fun d hd => by rw [List.mem_singleton] at hd; rw [hd]; exact h
theorem all2 {P : PyData → Prop} {a b : PyData} (h : P a) (h2 : P b) : ∀ d ∈ [a, b], P d := fun d hd => by
  rcases List.mem_cons.mp hd with rfl | hd
  · exact h
  · exact all1 h2 d hd
theorem all3 {P : PyData → Prop} {a b c : PyData} (h : P a) (h2 : P b) (h3 : P c) : ∀ d ∈ [a, b, c], P d := fun d hd => by
  rcases List.mem_cons.mp hd with rfl | hd
  · exact h
  · exact all2 h2 h3 d hd
theorem odds_ok {d : PyData} (h : d ∈ odds) : Od d := by
  unfold odds at h
  simp only [List.mem_cons, List.not_mem_nil, or_false] at h
  rcases h with rfl | rfl | rfl | rfl | rfl | rfl | rfl | rfl | rfl | rfl | rfl | rfl | rfl | rfl | rfl
  · exact ⟨rfl, tam_non.mono (by decide) (by decide), fun _ e => by cases e⟩
  · exact ⟨rfl, (tam_i (by decide)).mono (by decide) (by decide), fun _ e => by cases e⟩
  · exact ⟨rfl, tam_one.mono (by decide) (by decide), fun _ e => by cases e⟩
  · exact od_t rfl (fun d hd => by cases hd) (by decide)
  · exact od_t rfl (all1 (tam_i (by decide))) (by decide)
  · exact od_t rfl (all3 (tam_i (by decide)) (tam_i (by decide)) (tam_i (by decide))) (by decide)
  · exact ⟨rfl, (tam_lst (b := 10) (n := 0) (l := 2) (all2 (tam_i (by decide)) (tam_i (by decide))) (by simp)).mono (by decide) (by decide), fun _ e => by cases e⟩
  · exact od_t rfl (all2 tam_bool (tam_i (by decide))) (by decide)
  · exact od_t rfl (all2 (tam_i (by decide)) tam_bool) (by decide)
  · exact od_t (by decide) (all2 (tam_i (by decide)) (tam_i (by decide))) (by decide)
  · exact od_t (by decide) (all2 (tam_i (by decide)) (tam_i (by decide))) (by decide)
  · exact od_t (by decide) (all2 (tam_i (by decide)) (tam_i (by decide))) (by decide)
  · exact od_t (by decide) (all2 (tam_i (by decide)) (tam_i (by decide))) (by decide)
  · exact od_t rfl (all2 tam_one (tam_i (by decide))) (by decide)
  · exact od_t rfl (all2 (tam_i (by decide)) tam_bool) (by decide)
def goods : List (Int × Int) := [(0, 1), (-1, 1), (7, 12), (10 ^ 40, 3)]
theorem goods_ok {p : Int × Int} (h : p ∈ goods) : okF (fr p) = true ∧ Tam 10 1 (fr p) := by
  unfold goods at h
  simp only [List.mem_cons, List.not_mem_nil, or_false] at h
  have go : ∀ {x y : Int}, (decide (x.natAbs < 2 ^ 200) && decide (y.natAbs < 2 ^ 200)) = true → Tam 10 1 (fr (x, y)) := fun {x y} h => by
    rw [Bool.and_eq_true] at h
    exact (tam_tI (l := 2) (bits2 (Bits.mono (m := 200) (of_decide_eq_true h.1) (by decide)) (Bits.mono (m := 200) (of_decide_eq_true h.2) (by decide))) (by simp)).mono (by decide) (by decide)
  rcases h with rfl | rfl | rfl | rfl
  · exact ⟨by decide +kernel, go (by decide +kernel)⟩
  · exact ⟨by decide +kernel, go (by decide +kernel)⟩
  · exact ⟨by decide +kernel, go (by decide +kernel)⟩
  · exact ⟨by decide +kernel, go (by decide +kernel)⟩
section
variable {X : Cx} {ρ : Rho} {e1 e2 : Expr} {t d : PyData}
/-- a told value, and a written one -/
theorem a_two (h1 : EvE X 0 e1 ρ t) (h2 : isC e2 d = true) (hd : d = t) (n1 : notStar e1 = true) (n2 : notStar e2 = true) : EvA X 0 [e1, e2] ρ [t, t] := a_cons h1 (a_cons (e_is (e_c h2) hd) a_nil (star_of n2)) (star_of n1)
end
section
variable {P : Program} {w : World} {K : PySem.W.Frag} {mg : Str → Option Value} {base : Heap} {f : Addr} {fd : FuncData}
def R_hand (ds : List PyData) (d : PyData) : Prop := ds = [] ∧ d = .bool true
abbrev XH (P : Program) (w : World) (K : PySem.W.Frag) (mg : Str → Option Value) (base : Heap) (f : Addr) (cdv : Value) (A : Around) (outer : List Env) (s : Shared) (H : Hp) (E : XK) : Cx := (cxOf CX0 P w K mg base n__law_hand_right "_law_hand_right" (defScope st__law_hand_right) f cdv A outer s H E).nox
abbrev HRun (P : Program) (w : World) (K : PySem.W.Frag) (mg : Str → Option Value) (base : Heap) (f : Addr) (cdv : Value) (A : Around) (outer : List Env) (s : Shared) (H : Hp) (E : XK) (n : Nat) (ρ : Rho) : Prop := Zj.Run (XH P w K mg base f cdv A outer s H E) 0 ((defBody st__law_hand_right).drop n) ρ (fun _ => PyData.bool true = .none) (fun d => d = .bool true)
/-- what is left of the body does what it should (kept shut: it is large) -/
@[irreducible] def HR (P : Program) (w : World) (K : PySem.W.Frag) (mg : Str → Option Value) (base : Heap) (f : Addr) (cdv : Value) (A : Around) (outer : List Env) (s : Shared) (H : Hp) (E : XK) (n : Nat) (ρ : Rho) : Prop := HRun P w K mg base f cdv A outer s H E n ρ
variable {cdv : Value} {A : Around} {outer : List Env} {s : Shared} {H : Hp} {E : XK} {x y z : Option DV}
def told1 : List PyData := [fr (0, 1), fr (5, 6), fr (0, 1), fr (3, 2)]
def told2 : List PyData := [fr (1, 2), fr (1, 6), fr (1, 2)]
def told3 : PyData := .list [fr (0, 1), fr (5, 6), fr (0, 1), fr (3, 2), fr (1, 2), fr (1, 6), fr (1, 2), .int (-1)]
theorem told_tame : Tame told3 := by
  have t : ∀ {x y : Int}, x.natAbs < 2 ^ 10 → y.natAbs < 2 ^ 10 → Tam 10 1 (fr (x, y)) := fun {x y} h1 h2 => (tam_tI (l := 2) (bits2 (bs h1) (bs h2)) (by simp)).mono (by decide) (by decide)
  refine Tam.tame (b := 200) (n := 2) ((tam_lst (b := 10) (n := 1) (l := 8) (fun d hd => ?_) (by simp)).mono (by decide) (by decide)) (by decide) (by decide)
  simp only [List.mem_cons, List.not_mem_nil, or_false] at hd
  rcases hd with rfl | rfl | rfl | rfl | rfl | rfl | rfl | rfl
  · exact t (by decide) (by decide)
  · exact t (by decide) (by decide)
  · exact t (by decide) (by decide)
  · exact t (by decide) (by decide)
  · exact t (by decide) (by decide)
  · exact t (by decide) (by decide)
  · exact t (by decide) (by decide)
  · exact (tam_i (by decide)).mono (by decide) (by decide)
theorem hdF {t : PyData} (ht : told3 = t) (tt : Tame t) (G : Good (XH P w K mg base f cdv A outer s H E)) (hr : Room 5 (XH P w K mg base f cdv A outer s H E).A) (hgd : (XH P w K mg base f cdv A outer s H E).A.guards = some []) (CL : CalG P w K mg base 1 "_law_like" ["told", "due"] (spR K R_like)) : HR P w K mg base f cdv A outer s H E 6 [x, some (.dat t), z] := by
  unfold HR
  refine r_one (rs_ret (d := .bool true) ?_ rfl)
  with_reducible refine e_callG (lv := 1) (ps := ["told", "due"]) (R := R_like) (ds := [t, t]) ?cl ?hgd ?hr ?ar ?hR ?g ?db ?st ?pl
  case cl => exact CL
  case hR => exact ⟨t, rfl, tt, rfl⟩
  case hgd => exact hgd
  case hr => exact hr.mono (by decide)
  case ar =>
    with_reducible refine a_two (d := told3) ?v ?c ht ?n1 ?n2
    case v => exact e_var (i := 1) rfl
    case c => decide +kernel
    case n1 => rfl
    case n2 => rfl
  case g => rfl
  case db => decide
  case st => exact star_of rfl
  case pl => exact star_no rfl
theorem hdE (G : Good (XH P w K mg base f cdv A outer s H E)) (hr : Room 5 (XH P w K mg base f cdv A outer s H E).A) (K5 : CalK P w K mg base 4 "times" st_times ["one", "other"] (spR K (R_bin fun p q => tI (mulL p q)))) (K6 : CalXK P w K mg base 4 "divided" st_divided ["one", "other"] (spX K mg R_div)) (K7 : CalK P w K mg base 4 "halfway" st_halfway ["one", "other"] (spR K (R_bin fun p q => tI (halfL p q))))
    (K8 : CalK P w K mg base 2 "compared" st_compared ["one", "other"] (spR K R_cmp)) (next : HR P w K mg base f cdv A outer s H E 6 [x, some (.dat told3), z]) : HR P w K mg base f cdv A outer s H E 4 [x, some (.dat (.list told1)), z] := by
  unfold HR
  refine r_new (i := 1) (ds := told1 ++ told2) G (f_cat (ds := told1) (fs := told2) (e_var (i := 1) rfl) (e_lst
    (a_cons (e_callK (d := fr (1, 2)) (ds := [fr (2, 3), fr (3, 4)]) (ks := ["other", "one"]) true (by decide) K5 (hr.mono (by decide)) (k_cons (e_c (by decide +kernel)) (k_cons (e_c (by decide +kernel)) k_nil)) ⟨(3, 4), (2, 3), rfl, pnw (by decide), pnw (by decide), congrArg tI (show ([1, 2] : List Int) = mulL (3, 4) (2, 3) by decide +kernel)⟩ (kbB fun _ _ _ _ _ _ _ _ => rfl))
    (a_cons (e_callXK (d := fr (1, 6)) (ds := [fr (1, 2), fr (3, 1)]) (ks := ["one", "other"]) false (by decide) K6 (hr.mono (by decide)) (k_cons (e_c (by decide +kernel)) (k_cons (e_c (by decide +kernel)) k_nil)) ⟨(1, 2), (3, 1), rfl, pnw (by decide), pnw (by decide), ?dv⟩ (kbA fun _ _ _ _ _ _ _ _ => rfl))
    (a_cons (e_callK (d := fr (1, 2)) (ds := [fr (0, 1), fr (1, 1)]) (ks := ["one", "other"]) false (by decide) K7 (hr.mono (by decide)) (k_cons (e_c (by decide +kernel)) (k_cons (e_c (by decide +kernel)) k_nil)) ⟨(0, 1), (1, 1), rfl, pnw (by decide), pnw (by decide), congrArg tI (show ([1, 2] : List Int) = halfL (0, 1) (1, 1) by decide +kernel)⟩ (kbA fun _ _ _ _ _ _ _ _ => rfl)) a_nil))) (by decide)) (by decide)) (show (1 : Nat) < 3 by decide) ?_
  case dv =>
    unfold divO
    rw [if_neg (by decide)]
    exact congrArg (fun l => Out.ok (tI l)) (show ([1, 6] : List Int) = fracL (1 * 1) (2 * 3) by decide +kernel)
  refine l_cons (ls_append (d := .int (-1)) (fun p => e_callK (ds := [fr (1, 2), fr (1, 3)]) (ks := ["other", "one"]) true (by decide) K8 (hr.mono (by decide)) (k_cons (e_c (by decide +kernel)) (k_cons (e_c (by decide +kernel)) k_nil)) ⟨(1, 3), (1, 2), rfl, pnw (by decide), pnw (by decide), congrArg PyData.int (show (-1 : Int) = sgn (1 * 2 - 1 * 3) by decide +kernel)⟩ (kbB fun _ _ _ _ _ _ _ _ => rfl)) ?_ (by decide))
  refine l_free ?_
  unfold HR at next
  assumption
theorem hdD (G : Good (XH P w K mg base f cdv A outer s H E)) (hr : Room 5 (XH P w K mg base f cdv A outer s H E).A) (K1 : CalXK P w K mg base 3 "lowest" st_lowest ["top", "bottom"] (spX K mg R_low)) (K2 : CalK P w K mg base 4 "added" st_added ["one", "other"] (spR K (R_bin fun p q => tI (addL p q)))) (K3 : CalK P w K mg base 4 "minus" st_minus ["one", "other"] (spR K (R_bin fun p q => tI (subL p q))))
    (K4 : CalXK P w K mg base 3 "check_fraction" st_check_fraction ["value"] (spX K mg R_cf)) (next : HR P w K mg base f cdv A outer s H E 4 [x, some (.dat (.list told1)), z]) : HR P w K mg base f cdv A outer s H E 3 [x, y, z] := by
  unfold HR
  refine r_cons (rs_set (i := 1) (d := .list told1) G (e_lst (ds := told1)
    (a_cons (e_callXK (d := fr (0, 1)) (ds := [.int 0, .int (-7)]) (ks := ["top", "bottom"]) false (by decide) K1 (hr.mono (by decide)) (k_cons (e_c (by decide +kernel)) (k_cons (e_c (by decide +kernel)) k_nil)) ⟨0, -7, rfl, Bits.mono (m := 10) (by decide) (by decide), ?lw⟩ (kbA fun _ _ _ _ _ _ _ _ => rfl))
    (a_cons (e_callK (d := fr (5, 6)) (ds := [fr (1, 2), fr (1, 3)]) (ks := ["one", "other"]) false (by decide) K2 (hr.mono (by decide)) (k_cons (e_c (by decide +kernel)) (k_cons (e_c (by decide +kernel)) k_nil)) ⟨(1, 2), (1, 3), rfl, pnw (by decide), pnw (by decide), congrArg tI (show ([5, 6] : List Int) = addL (1, 2) (1, 3) by decide +kernel)⟩ (kbA fun _ _ _ _ _ _ _ _ => rfl))
    (a_cons (e_callK (d := fr (0, 1)) (ds := [fr (1, 2), fr (1, 2)]) (ks := ["other", "one"]) true (by decide) K3 (hr.mono (by decide)) (k_cons (e_c (by decide +kernel)) (k_cons (e_c (by decide +kernel)) k_nil)) ⟨(1, 2), (1, 2), rfl, pnw (by decide), pnw (by decide), congrArg tI (show ([0, 1] : List Int) = subL (1, 2) (1, 2) by decide +kernel)⟩ (kbB fun _ _ _ _ _ _ _ _ => rfl))
    (a_cons (e_callXK (d := fr (3, 2)) (ds := [fr (3, 2)]) (ks := ["value"]) false (by decide) K4 (hr.mono (by decide)) (k_cons (e_c (by decide +kernel)) k_nil) ⟨fr (3, 2), rfl, fun xs e => by cases e; simp, ?cf⟩ (kb1 fun _ _ _ _ _ _ _ => rfl)) a_nil)))) (by decide)) ?nx)
  case nx =>
    unfold HR at next
    assumption
  case lw =>
    unfold lowO
    rw [if_neg (by decide)]
    exact congrArg (fun l => Out.ok (tI l)) (show ([0, 1] : List Int) = fracL 0 (-7) by decide +kernel)
  case cf =>
    unfold cfO
    rw [if_pos (by decide +kernel)]
theorem hdC (G : Good (XH P w K mg base f cdv A outer s H E)) (hr : Room 5 (XH P w K mg base f cdv A outer s H E).A) (hgd : (XH P w K mg base f cdv A outer s H E).A.guards = some []) (hcv : fd.code = cdv) (lm : Lmb base mg fd "_law_hand_right") (h : Hr K mg) (CL : CalG P w K mg base 1 "_law_like" ["told", "due"] (spR K R_like)) (C1 : CalX P w K mg base 3 "lowest" ["top", "bottom"] (spX K mg R_low)) (next : HR P w K mg base f cdv A outer s H E 3 [x, y, z]) : HR P w K mg base f cdv A outer s H E 2 [x, y, z] := by
  unfold HR
  have o1 : lowO 5 0 = nnO (.int 0) := if_pos rfl
  obtain ⟨r, hrr, hre, tr⟩ : ∃ r, RH (lowO 5 0) r ∧ PyData.tuple [.str "number", .int 0] = r ∧ Tame r := ⟨_, by rw [o1]; exact rh_no _, rfl, Tam.tame (b := 40) (n := 2) ((tam_no (tam_i (x := 0) (by decide)) (by decide)).mono (by decide) (by decide)) (by decide) (by decide)⟩
  obtain ⟨u, hu, tu⟩ : ∃ u, tI [3, 2] = u ∧ Tame u := ⟨_, rfl, Tam.tame (b := 40) (n := 2) ((tam_tI (xs := [3, 2]) (l := 2) (bits2 (bs (by decide)) (bs (by decide))) (by simp)).mono (by decide) (by decide)) (by decide) (by decide)⟩
  have o2 : Out.ok u = lowO (-6) (-4) := by
    unfold lowO
    rw [if_neg (by decide), ← hu]
    exact congrArg (fun l => Out.ok (tI l)) (show ([3, 2] : List Int) = fracL (-6) (-4) by decide +kernel)
  refine r_cons (r_skip (t_or2 (b := false)
    (t_notlike (d := r) CL hgd (hr.mono (by decide)) (a_cons (e_hear h hrr hr lm hcv rfl (lamK_by (sc := defScope st__law_hand_right) (by decide +kernel)) (.no rfl) (lamBind0 fun _ _ _ _ _ _ => rfl) (lam_call C1 (ds := [.int 5, .int 0]) ⟨5, 0, rfl, Nat.two_pow_pos _, rfl⟩ fun A outer s H E f' c' => a_cons e_int (a_cons e_int a_nil))) (a_cons (e_is (e_c (d := .tuple [.str "number", .int 0]) ?c1) hre) a_nil)) tr)
    (fun _ => t_notlike (d := u) CL hgd (hr.mono (by decide)) (a_cons (e_callX C1 (hr.mono (by decide)) (ds := [.int (-6), .int (-4)]) (a_cons (e_c ?c2) (a_cons (e_c ?c3) a_nil)) ⟨-6, -4, rfl, Bits.mono (m := 10) (by decide) (by decide), o2⟩) (a_cons (e_is (e_c (d := tI [3, 2]) ?c4) hu) a_nil)) tu) nofun) ?nx)
  case nx =>
    unfold HR at next
    assumption
  all_goals decide +kernel
theorem hdB (G : Good (XH P w K mg base f cdv A outer s H E)) (hr : Room 5 (XH P w K mg base f cdv A outer s H E).A) (hgd : (XH P w K mg base f cdv A outer s H E).A.guards = some []) (CL : CalG P w K mg base 1 "_law_like" ["told", "due"] (spR K R_like)) (CC : CalX P w K mg base 3 "check_fraction" ["value"] (spX K mg R_cf)) (next : ∀ x, HR P w K mg base f cdv A outer s H E 2 [x, none, z]) : HR P w K mg base f cdv A outer s H E 1 [none, none, z] := by
  unfold HR
  refine r_cons ?_
  with_reducible refine rs_for (items := goods.map fr) (g := gName 0) (vs := [0]) (f := fName 0) G ?src ?pg ?tg (fun _ ρ' => ∃ x, ρ' = [x, none, z]) ⟨none, ?h0⟩ (fun i d ρ1 hd hJ => ?_) (fun ρ' hJ => ?_) ?hf
  case hf => exact fun _ => rfl
  case h0 => rfl
  case tg => exact tg_name (by decide)
  case pg => exact pg_name (i := 0) sc__law_hand_right.nd rfl (Or.inl rfl)
  case src =>
    with_reducible refine src_T ?_
    refine e_tup (a_cons (e_c ?_) (a_cons (e_c ?_) (a_cons (e_c ?_) (a_cons (e_tup (a_cons (e_bin (od_pow ⟨by decide, by decide, by decide⟩) e_int e_int) (a_cons e_int a_nil))) a_nil))))
    all_goals decide +kernel
  · obtain ⟨x, rfl⟩ := hJ
    have hm := List.mem_of_getElem? hd
    obtain ⟨p, hp, rfl⟩ := List.mem_map.mp hm
    obtain ⟨ok, tm⟩ := goods_ok hp
    exact ⟨_, rfl, r_one (r_skip (t_notlike (d := fr p) CL hgd (hr.mono (by decide)) (a_cons (e_callX CC (hr.mono (by decide)) (a_cons (e_var (i := 0) rfl) a_nil) ⟨fr p, rfl, fun xs e => by cases e; simp, by unfold cfO; rw [if_pos ok]⟩) (a_cons (e_var (i := 0) rfl) a_nil)) (tm.tame (by decide) (by decide))) ⟨_, rfl⟩)⟩
  · obtain ⟨x, rfl⟩ := hJ
    have h9 := next x
    unfold HR at h9
    assumption
theorem hdO {d : PyData} (od : Od d) (G : Good (XH P w K mg base f cdv A outer s H E)) (hr : Room 5 (XH P w K mg base f cdv A outer s H E).A) (hgd : (XH P w K mg base f cdv A outer s H E).A.guards = some []) (hcv : fd.code = cdv) (lm : Lmb base mg fd "_law_hand_right") (h : Hr K mg) (CL : CalG P w K mg base 1 "_law_like" ["told", "due"] (spR K R_like)) (CC : CalX P w K mg base 3 "check_fraction" ["value"] (spX K mg R_cf))
    {l1 p1 p2 p3 p4 p5 p6 p7 p8 : Pos} {scope : Scope} {params : Arguments} (L : LamK (defScope st__law_hand_right) scope) (hd : LamD (XH P w K mg base f cdv A outer s H E).env params []) (hbd : LamBind params (.Call (.Name "check_fraction" p1) [.Name "odd" p2] [] p3) scope [])
    (hv : ∀ A2 outer2 s2 H2 E2 f' c', EvA (lamX (XH P w K mg base f cdv A outer s H E) A2 outer2 s2 H2 E2 scope f' c') 0 [.Name "odd" p2] [none, none, some (.dat d)] [d]) (hg : ∀ A2 outer2 s2 H2 E2 f' c', Gl (lamX (XH P w K mg base f cdv A outer s H E) A2 outer2 s2 H2 E2 scope f' c') "check_fraction")
    {q1 q2 q3 : Pos} : EvT (XH P w K mg base f cdv A outer s H E) 0 (.UnaryOp .Not (.Call (.Name "_law_like" q1) [.Call (.Name "_law_heard" p4) [.Lambda params (.Call (.Name "check_fraction" p1) [.Name "odd" p2] [] p3) scope l1] [] p5, .Tuple [.Constant (.str "number") 0 p6, .Name "odd" p7] 0 p8] [] q2) q3) [none, none, some (.dat d)] false := by
  obtain ⟨r, hrr, hre, tr⟩ : ∃ r, RH (cfO d) r ∧ PyData.tuple [.str "number", d] = r ∧ Tame r := ⟨_, by rw [od.o]; exact rh_no _, rfl, Tam.tame (b := 100) (n := 3) ((tam_no od.tam (by decide)).mono (by decide) (by decide)) (by decide) (by decide)⟩
  exact t_notlike (d := r) CL hgd (hr.mono (by decide)) (a_cons (e_hear h hrr hr lm hcv rfl L hd hbd (lam_call CC (ds := [d]) ⟨d, rfl, od.len, rfl⟩ hv hg)) (a_cons (e_is (e_tup (a_cons e_str (a_cons (e_var (i := 2) rfl) a_nil))) hre) a_nil)) tr
theorem hdA (G : Good (XH P w K mg base f cdv A outer s H E)) (hr : Room 5 (XH P w K mg base f cdv A outer s H E).A) (hgd : (XH P w K mg base f cdv A outer s H E).A.guards = some []) (hcv : fd.code = cdv) (lm : Lmb base mg fd "_law_hand_right") (h : Hr K mg) (CL : CalG P w K mg base 1 "_law_like" ["told", "due"] (spR K R_like)) (CC : CalX P w K mg base 3 "check_fraction" ["value"] (spX K mg R_cf)) (next : ∀ z, HR P w K mg base f cdv A outer s H E 1 [none, none, z]) : HR P w K mg base f cdv A outer s H E 0 [none, none, none] := by
  unfold HR
  refine r_cons ?_
  with_reducible refine rs_for (items := odds) (g := gName 2) (vs := [2]) (f := fName 2) G ?src ?pg ?tg (fun _ ρ' => ∃ x, ρ' = [none, none, x]) ⟨none, ?h0⟩ (fun i d ρ1 hd hJ => ?_) (fun ρ' hJ => ?_) ?hf
  case hf => exact fun _ => rfl
  case h0 => rfl
  case tg => exact tg_name (by decide)
  case pg => exact pg_name (i := 2) sc__law_hand_right.nd rfl (Or.inr rfl)
  case src =>
    with_reducible refine src_T (e_c ?_)
    decide +kernel
  · obtain ⟨x, rfl⟩ := hJ
    have od := odds_ok (List.mem_of_getElem? hd)
    clear hd
    refine ⟨_, rfl, r_one (r_skip (hdO od G hr hgd hcv lm h CL CC ?_ ?_ ?_ ?_ ?_) ⟨_, rfl⟩)⟩
    · exact lamK_by (sc := defScope st__law_hand_right) (by decide +kernel)
    · exact .no rfl
    · exact lamBind0 fun _ _ _ _ _ _ => rfl
    · exact fun A outer s H E f' c' => a_cons (e_var (i := 2) rfl) a_nil
    · intros; rfl
  · obtain ⟨x, rfl⟩ := hJ
    have h9 := next x
    unfold HR at h9
    assumption
theorem ok_hand (F : Fun K "_law_hand_right" "_law_hand_right" st__law_hand_right f fd) (lm : Lmb base mg fd "_law_hand_right") (h : Hr K mg) (CL : CalG P w K mg base 1 "_law_like" ["told", "due"] (spR K R_like)) (C1 : CalX P w K mg base 3 "lowest" ["top", "bottom"] (spX K mg R_low)) (CC : CalX P w K mg base 3 "check_fraction" ["value"] (spX K mg R_cf))
    (K1 : CalXK P w K mg base 3 "lowest" st_lowest ["top", "bottom"] (spX K mg R_low)) (K2 : CalK P w K mg base 4 "added" st_added ["one", "other"] (spR K (R_bin fun p q => tI (addL p q)))) (K3 : CalK P w K mg base 4 "minus" st_minus ["one", "other"] (spR K (R_bin fun p q => tI (subL p q))))
    (K4 : CalXK P w K mg base 3 "check_fraction" st_check_fraction ["value"] (spX K mg R_cf)) (K5 : CalK P w K mg base 4 "times" st_times ["one", "other"] (spR K (R_bin fun p q => tI (mulL p q)))) (K6 : CalXK P w K mg base 4 "divided" st_divided ["one", "other"] (spX K mg R_div)) (K7 : CalK P w K mg base 4 "halfway" st_halfway ["one", "other"] (spR K (R_bin fun p q => tI (halfL p q))))
    (K8 : CalK P w K mg base 2 "compared" st_compared ["one", "other"] (spR K R_cmp)) : FnG P w K mg base CX0 6 f fd [] (spR K R_hand) := by
  refine fnRGC F sc__law_hand_right (fun ds d h => by obtain ⟨rfl, _⟩ := h; rfl) fun cdv hcv A outer s H E G hr hgd ds d h' => ?_
  obtain ⟨rfl, rfl⟩ := h'
  have h9 := hdA G hr hgd hcv lm h CL CC fun z => hdB G hr hgd CL CC fun x => hdC G hr hgd hcv lm h CL C1 (hdD G hr K1 K2 K3 K4 (hdE G hr K5 K6 K7 K8 (hdF rfl told_tame G hr hgd CL)))
  unfold HR at h9
  assumption
end
end K0
/-! Of which class an error is. -/
namespace K0
open PySem PySem.Spec PyProof.Rows L2 Zj
variable [Nm]
def nms : List Str := ["NotNumber", "NotRow", "NotPoint", "NotFormula", "NotText", "NotForm", "NotSystem", "NotMap", "NotMesh", "NotPaper", "NotName", "NotHistory", "Unlike", "Empty", "Endless", "Flat", "TooGreat"]
def wds : List Str := ["number", "row", "point", "formula", "text", "form", "system", "map", "mesh", "paper", "name", "history", "unlike", "empty", "endless", "flat", "great"]
/-- the classes, by their numbers -/
structure Ek (K : PySem.W.Frag) (mg : Str → Option Value) (A : Nat → Addr) (S : Addr) : Prop where
  gl : ∀ i x, nms[i]? = some x → mg x = some (.ref (A i))
  ex : ∀ i, i < 17 → L2.ExcC K (A i)
  ki : ∀ i j, i < 17 → j < 17 → PySem.W.kitOne K (.ref (A i)) (.ref (A j)) = some (decide (i = j))
  so : mg "SolidError" = some (.ref S)
  ks : ∀ i, i < 17 → PySem.W.kitOne K (.ref (A i)) (.ref S) = some true
  ve : mg "ValueError" = none
  kv : ∀ i, i < 17 → PySem.W.kitOne K (.ref (A i)) (.type "ValueError") = some true
def kd (i j : Nat) (w : Str) : PyData := .tuple [.str w, .bool (decide (i = j))]
def k1 (i : Nat) : List PyData := [kd i 0 "number", kd i 1 "row", kd i 2 "point"]
def k2 (i : Nat) : List PyData := [kd i 3 "formula", kd i 4 "text"]
def k3 (i : Nat) : List PyData := [kd i 5 "form", kd i 6 "system", kd i 7 "map"]
def k4 (i : Nat) : List PyData := [kd i 8 "mesh", kd i 9 "paper", kd i 10 "name"]
def k5 (i : Nat) : List PyData := [kd i 11 "history", kd i 12 "unlike", kd i 13 "empty"]
def k6 (i : Nat) : List PyData := [kd i 14 "endless", kd i 15 "flat", kd i 16 "great"]
def kds (i : Nat) : List PyData := k1 i ++ k2 i ++ k3 i ++ k4 i ++ k5 i ++ k6 i
def keepB : PyData → Bool
  | .tuple [_, .bool b] => b
  | _ => false
def valW : PyData → PyData
  | .tuple [x, _] => x
  | x => x
theorem kds_one {i : Nat} {w : Str} (h : wds[i]? = some w) : kept keepB valW (kds i) = [.str w] := by
  have hi : i < 17 := (List.getElem?_eq_some_iff.mp h).1
  match i, hi, h with
  | 0, _, h | 1, _, h | 2, _, h | 3, _, h | 4, _, h | 5, _, h | 6, _, h | 7, _, h | 8, _, h | 9, _, h | 10, _, h | 11, _, h | 12, _, h | 13, _, h | 14, _, h | 15, _, h | 16, _, h => cases h; rfl
def R_kinds (K : PySem.W.Frag) (A : Nat → Addr) (R : VR) (d : PyData) : Prop := ∃ i fs w, wds[i]? = some w ∧ R = errV K (A i) fs ∧ d = .list [.str w]
section
variable {X : Cx} {A : Nat → Addr} {S : Addr} {i j : Nat} {fs : List (Str × PyData)} {ρ : Rho} {p q p2 pos : Pos} {x : Str}
theorem e_kind (T : Tx X.mg) (ek : Ek X.K X.mg A S) (hi : i < 17) (j : Nat) (hx : nms[j]? = some x) (hρ : ρ[0]? = some (some (.val (errV X.K (A i) fs)))) (hN : X.N[0]? = some ("error" : Str) := by rfl) (hv : Vis X.env.scope "error" := by exact Or.inl rfl) (hg : Gl X "isinstance" := by rfl) (hgx : Gl X x := by rfl) (hdx : (x == ("__debug__" : Str)) = false := by decide) :
    EvE X 0 (.Call (.Name "isinstance" p) [.Name "error" q, .Name x p2] [] pos) ρ (.bool (decide (i = j))) :=
  e_isV (Zj.v_var (i := 0) hρ hN hv) (ek.ex i hi) (pe_glob (v := .ref (A j)) hgx (ek.gl j x hx) rfl hdx) (.own _) (ek.ki i j hi (List.getElem?_eq_some_iff.mp hx).1) T.isi hg
theorem e_solid (T : Tx X.mg) (ek : Ek X.K X.mg A S) (hi : i < 17) (hρ : ρ[0]? = some (some (.val (errV X.K (A i) fs)))) (hN : X.N[0]? = some ("error" : Str) := by rfl) (hv : Vis X.env.scope "error" := by exact Or.inl rfl) (hg : Gl X "isinstance" := by rfl) (hgx : Gl X "SolidError" := by rfl) :
    EvE X 0 (.Call (.Name "isinstance" p) [.Name "error" q, .Name "SolidError" p2] [] pos) ρ (.bool true) :=
  e_isV (Zj.v_var (i := 0) hρ hN hv) (ek.ex i hi) (pe_glob (v := .ref S) hgx ek.so rfl) (.own _) (ek.ks i hi) T.isi hg
theorem e_value (T : Tx X.mg) (ek : Ek X.K X.mg A S) (hi : i < 17) (hρ : ρ[0]? = some (some (.val (errV X.K (A i) fs)))) (hN : X.N[0]? = some ("error" : Str) := by rfl) (hv : Vis X.env.scope "error" := by exact Or.inl rfl) (hg : Gl X "isinstance" := by rfl) (hgx : Gl X "ValueError" := by rfl) :
    EvE X 0 (.Call (.Name "isinstance" p) [.Name "error" q, .Name "ValueError" p2] [] pos) ρ (.bool true) :=
  e_isV (Zj.v_var (i := 0) hρ hN hv) (ek.ex i hi) (pe_bltn (v := .ty "ValueError") hgx ek.ve (by decide +kernel) rfl) (.ty _) (ek.kv i hi) T.isi hg
theorem e_pair {e : Expr} {b : Bool} {w : Str} {k0 k1 : Nat} {p1 : Pos} (h : EvE X 0 e ρ (.bool b)) (hs : starEach [e] X.env = (false, eval e X.env) :: starEach [] X.env := by exact star_of rfl) : EvE X 0 (.Tuple [.Constant (.str w) k0 p1, e] k1 pos) ρ (.tuple [.str w, .bool b]) := e_tup (a_cons e_str (a_cons h a_nil hs))
end
section
variable {P : Program} {w : World} {K : PySem.W.Frag} {mg : Str → Option Value} {base : Heap} {f : Addr} {fd : FuncData} {A : Nat → Addr} {S : Addr}
abbrev XK0 (P : Program) (w : World) (K : PySem.W.Frag) (mg : Str → Option Value) (base : Heap) (f : Addr) (cdv : Value) (A : Around) (outer : List Env) (s : Shared) (H : Hp) (E : XK) : Cx := (cxOf CX0 P w K mg base n__law_kinds "_law_kinds" (defScope st__law_kinds) f cdv A outer s H E).nox
abbrev KRun (P : Program) (w : World) (K : PySem.W.Frag) (mg : Str → Option Value) (base : Heap) (f : Addr) (cdv : Value) (A : Around) (outer : List Env) (s : Shared) (H : Hp) (E : XK) (n : Nat) (ρ : Rho) (d : PyData) : Prop := Zj.Run (XK0 P w K mg base f cdv A outer s H E) 0 ((defBody st__law_kinds).drop n) ρ (fun _ => d = .none) (fun d' => d' = d)
variable {cdv : Value} {Ar : Around} {outer : List Env} {s : Shared} {H : Hp} {E : XK} {i : Nat} {fs : List (Str × PyData)} {wd : Str}
theorem kn6 {l : List PyData} (hl : l = kds i) (G : Good (XK0 P w K mg base f cdv Ar outer s H E)) (T : Tx mg) (ek : Ek K mg A S) (hw : wds[i]? = some wd) : KRun P w K mg base f cdv Ar outer s H E 6 [some (.val (errV K (A i) fs)), some (.dat (.list l)), none, none] (.list [.str wd]) := by
  have hi : i < 17 := (List.getElem?_eq_some_iff.mp hw).1
  refine r_cons (r_skip (t_or2 (b := false) (t_is (t_not (t_val (e_solid T ek hi rfl))) rfl) (fun _ => t_is (t_not (t_val (e_value T ek hi rfl))) rfl) nofun) ?_)
  refine r_one (rs_ret (e_is (e_lc (own := [("word_so", 2), ("is_so", 3)]) (f := fPair 2 3) (keep := keepB) (val := valW) G (src_L (e_var (i := 1) rfl)) (by rw [hl]; exact (by decide : (17 : Nat) < 100000)) (blkOk_by (N := n__law_kinds) (sc := defScope st__law_kinds) (by decide +kernel))
    (fun _ _ _ _ _ => pg_tup rfl (pgs_cons (pg_name (i := 2) sc__law_kinds.nd rfl (Or.inl rfl)) (pgs_cons (pg_name (i := 3) sc__law_kinds.nd rfl (Or.inl rfl)) pgs_nil))) (tg_pair (by decide) (by decide)) (fun d hd => ?_)) (by rw [hl, kds_one hw])) rfl)
  obtain ⟨x, b, rfl⟩ : ∃ (x : Str) (b : Bool), d = .tuple [.str x, .bool b] := by
    rw [hl] at hd
    have all : ∀ d ∈ kds i, ∃ (x : Str) (j : Nat), d = kd i j x := by
      intro d hd
      unfold kds k1 k2 k3 k4 k5 k6 at hd
      simp only [List.cons_append, List.nil_append, List.mem_cons, List.not_mem_nil, or_false] at hd
      rcases hd with rfl | rfl | rfl | rfl | rfl | rfl | rfl | rfl | rfl | rfl | rfl | rfl | rfl | rfl | rfl | rfl | rfl <;> exact ⟨_, _, rfl⟩
    obtain ⟨x, j, rfl⟩ := all d hd
    exact ⟨x, _, rfl⟩
  exact ⟨_, rfl, fun s H C cl fp => t_val (e_var (i := 3) rfl), fun _ s H C cl fp => e_var (i := 2) rfl⟩
theorem kn5 {l : List PyData} (hl : l ++ k6 i = kds i) (hz : l.length ≤ 100) (G : Good (XK0 P w K mg base f cdv Ar outer s H E)) (T : Tx mg) (ek : Ek K mg A S) (hw : wds[i]? = some wd) : KRun P w K mg base f cdv Ar outer s H E 5 [some (.val (errV K (A i) fs)), some (.dat (.list l)), none, none] (.list [.str wd]) := by
  have hi : i < 17 := (List.getElem?_eq_some_iff.mp hw).1
  exact r_cons (rs_set (i := 1) (d := .list (l ++ k6 i)) G (e_bin (od_catL (fs := k6 i) (by show l.length + 3 ≤ _; omega)) (e_var (i := 1) rfl) (e_lst (ds := k6 i) (a_cons (e_pair (e_kind T ek hi 14 rfl rfl)) (a_cons (e_pair (e_kind T ek hi 15 rfl rfl)) (a_cons (e_pair (e_kind T ek hi 16 rfl rfl)) a_nil))) (show (3 : Nat) ≤ 100000 by decide))) (kn6 hl G T ek hw))
theorem kn4 {l : List PyData} (hl : l ++ k5 i ++ k6 i = kds i) (hz : l.length ≤ 50) (G : Good (XK0 P w K mg base f cdv Ar outer s H E)) (T : Tx mg) (ek : Ek K mg A S) (hw : wds[i]? = some wd) : KRun P w K mg base f cdv Ar outer s H E 4 [some (.val (errV K (A i) fs)), some (.dat (.list l)), none, none] (.list [.str wd]) := by
  have hi : i < 17 := (List.getElem?_eq_some_iff.mp hw).1
  exact r_cons (rs_set (i := 1) (d := .list (l ++ k5 i)) G (e_bin (od_catL (fs := k5 i) (by show l.length + 3 ≤ _; omega)) (e_var (i := 1) rfl) (e_lst (ds := k5 i) (a_cons (e_pair (e_kind T ek hi 11 rfl rfl)) (a_cons (e_pair (e_kind T ek hi 12 rfl rfl)) (a_cons (e_pair (e_kind T ek hi 13 rfl rfl)) a_nil))) (show (3 : Nat) ≤ 100000 by decide))) (kn5 hl (by rw [List.length_append]; show l.length + 3 ≤ _; omega) G T ek hw))
theorem kn3 {l : List PyData} (hl : l ++ k4 i ++ k5 i ++ k6 i = kds i) (hz : l.length ≤ 40) (G : Good (XK0 P w K mg base f cdv Ar outer s H E)) (T : Tx mg) (ek : Ek K mg A S) (hw : wds[i]? = some wd) : KRun P w K mg base f cdv Ar outer s H E 3 [some (.val (errV K (A i) fs)), some (.dat (.list l)), none, none] (.list [.str wd]) := by
  have hi : i < 17 := (List.getElem?_eq_some_iff.mp hw).1
  exact r_cons (rs_set (i := 1) (d := .list (l ++ k4 i)) G (e_bin (od_catL (fs := k4 i) (by show l.length + 3 ≤ _; omega)) (e_var (i := 1) rfl) (e_lst (ds := k4 i) (a_cons (e_pair (e_kind T ek hi 8 rfl rfl)) (a_cons (e_pair (e_kind T ek hi 9 rfl rfl)) (a_cons (e_pair (e_kind T ek hi 10 rfl rfl)) a_nil))) (show (3 : Nat) ≤ 100000 by decide))) (kn4 hl (by rw [List.length_append]; show l.length + 3 ≤ _; omega) G T ek hw))
theorem kn2 {l : List PyData} (hl : l ++ k3 i ++ k4 i ++ k5 i ++ k6 i = kds i) (hz : l.length ≤ 30) (G : Good (XK0 P w K mg base f cdv Ar outer s H E)) (T : Tx mg) (ek : Ek K mg A S) (hw : wds[i]? = some wd) : KRun P w K mg base f cdv Ar outer s H E 2 [some (.val (errV K (A i) fs)), some (.dat (.list l)), none, none] (.list [.str wd]) := by
  have hi : i < 17 := (List.getElem?_eq_some_iff.mp hw).1
  exact r_cons (rs_set (i := 1) (d := .list (l ++ k3 i)) G (e_bin (od_catL (fs := k3 i) (by show l.length + 3 ≤ _; omega)) (e_var (i := 1) rfl) (e_lst (ds := k3 i) (a_cons (e_pair (e_kind T ek hi 5 rfl rfl)) (a_cons (e_pair (e_kind T ek hi 6 rfl rfl)) (a_cons (e_pair (e_kind T ek hi 7 rfl rfl)) a_nil))) (show (3 : Nat) ≤ 100000 by decide))) (kn3 hl (by rw [List.length_append]; show l.length + 3 ≤ _; omega) G T ek hw))
theorem kn0 (G : Good (XK0 P w K mg base f cdv Ar outer s H E)) (T : Tx mg) (ek : Ek K mg A S) (hw : wds[i]? = some wd) : Zj.Run (XK0 P w K mg base f cdv Ar outer s H E) 0 (defBody st__law_kinds) [some (.val (errV K (A i) fs)), none, none, none] (fun _ => PyData.list [.str wd] = .none) (fun d => d = .list [.str wd]) := by
  have hi : i < 17 := (List.getElem?_eq_some_iff.mp hw).1
  refine r_cons (rs_set (i := 1) (d := .list (k1 i)) G (e_lst (ds := k1 i) (a_cons (e_pair (e_kind T ek hi 0 rfl rfl)) (a_cons (e_pair (e_kind T ek hi 1 rfl rfl)) (a_cons (e_pair (e_kind T ek hi 2 rfl rfl)) a_nil))) (show (3 : Nat) ≤ 100000 by decide)) ?_)
  exact r_cons (rs_set (i := 1) (d := .list (k1 i ++ k2 i)) G (e_bin (od_catL (fs := k2 i) (show (3 + 2 : Nat) ≤ 100000 by decide)) (e_var (i := 1) rfl) (e_lst (ds := k2 i) (a_cons (e_pair (e_kind T ek hi 3 rfl rfl)) (a_cons (e_pair (e_kind T ek hi 4 rfl rfl)) a_nil)) (show (2 : Nat) ≤ 100000 by decide))) (kn2 rfl (show (5 : Nat) ≤ 30 by decide) G T ek hw))
theorem ok_kinds (F : Fun K "_law_kinds" "_law_kinds" st__law_kinds f fd) (T : Tx mg) (ek : Ek K mg A S) : FnG P w K mg base CX0 1 f fd ["error"] (spV K (R_kinds K A)) := by
  refine fnV F sc__law_kinds fun cdv Ar outer s H E G hr hgd R d h => ?_
  obtain ⟨i, fs, wd, hw, rfl, rfl⟩ := h
  refine (show Zj.Run (XK0 P w K mg base f cdv Ar outer s H E) 0 (defBody st__law_kinds) [some (.val (errV K (A i) fs)), none, none, none] (fun _ => PyData.list [.str wd] = .none) (fun d => d = .list [.str wd]) from ?_)
  exact kn0 G T ek hw
end
end K0
/-! Errors made, kept, asked. -/
namespace K0
open PySem PySem.Spec PyProof.Rows L2 Zj
variable [Nm]
/-- the classes as the law makes them -/
structure Jk (P : Program) (w : World) (K : PySem.W.Frag) (mg : Str → Option Value) (base : Heap) (A : Nat → Addr) : Prop where
  j0 : ClsJ P w K mg base "NotNumber" ["value"] (A 0)
  j1 : ClsJ P w K mg base "NotRow" ["place"] (A 1)
  j2 : ClsJ P w K mg base "NotPoint" ["place"] (A 2)
  j3 : ClsJ P w K mg base "NotFormula" ["path"] (A 3)
  j4 : ClsJ P w K mg base "NotText" ["line", "word"] (A 4)
  j5 : ClsJ P w K mg base "NotForm" ["word"] (A 5)
  j6 : ClsJ P w K mg base "NotSystem" ["number"] (A 6)
  p7 : ClsP K mg "NotMap"
  j8 : ClsJ P w K mg base "NotMesh" ["word"] (A 8)
  j9 : ClsJ P w K mg base "NotPaper" ["word"] (A 9)
  j10 : ClsJ P w K mg base "NotName" ["name"] (A 10)
  j11 : ClsJ P w K mg base "NotHistory" ["place"] (A 11)
  p12 : ClsP K mg "Unlike"
  p13 : ClsP K mg "Empty"
  p14 : ClsP K mg "Endless"
  p15 : ClsP K mg "Flat"
  j16 : ClsJ P w K mg base "TooGreat" ["most"] (A 16)
def eV (K : PySem.W.Frag) (A : Nat → Addr) (i : Nat) (fs : List (Str × PyData)) (w : Str) : VR := tupV (errV K (A i) fs) (datV K (.str w))
def s1 (K : PySem.W.Frag) (A : Nat → Addr) : List VR := [eV K A 0 [("value", tI [1, 0])] "number", eV K A 1 [("place", .int (-2))] "row", eV K A 2 [("place", .int 3)] "point", eV K A 3 [("path", tI [1, 2])] "formula"]
def s2 (K : PySem.W.Frag) (A : Nat → Addr) : List VR := [eV K A 4 [("line", .none), ("word", .int 4)] "text", eV K A 5 [("word", .str "cells")] "form", eV K A 6 [("number", .int 5)] "system", eV K A 7 [] "map"]
def s3 (K : PySem.W.Frag) (A : Nat → Addr) : List VR := [eV K A 8 [("word", .str "thin")] "mesh", eV K A 9 [("word", .str "form")] "paper", eV K A 10 [("name", .list [.str "a"])] "name", eV K A 11 [("place", tI [2, 0])] "history"]
def s4 (K : PySem.W.Frag) (A : Nat → Addr) : List VR := [eV K A 12 [] "unlike", eV K A 13 [] "empty", eV K A 14 [] "endless", eV K A 15 [] "flat", eV K A 16 [("most", .int 60)] "great"]
def sAll (K : PySem.W.Frag) (A : Nat → Addr) : List VR := s1 K A ++ s2 K A ++ s3 K A ++ s4 K A
theorem sAll_ok {K : PySem.W.Frag} {A : Nat → Addr} {R : VR} (h : R ∈ sAll K A) : ∃ i fs w, wds[i]? = some w ∧ R = tupV (errV K (A i) fs) (datV K (.str w)) := by
  unfold sAll s1 s2 s3 s4 at h
  simp only [List.cons_append, List.nil_append, List.mem_cons, List.not_mem_nil, or_false] at h
  rcases h with rfl | rfl | rfl | rfl | rfl | rfl | rfl | rfl | rfl | rfl | rfl | rfl | rfl | rfl | rfl | rfl | rfl
  · exact ⟨0, _, _, rfl, rfl⟩
  · exact ⟨1, _, _, rfl, rfl⟩
  · exact ⟨2, _, _, rfl, rfl⟩
  · exact ⟨3, _, _, rfl, rfl⟩
  · exact ⟨4, _, _, rfl, rfl⟩
  · exact ⟨5, _, _, rfl, rfl⟩
  · exact ⟨6, _, _, rfl, rfl⟩
  · exact ⟨7, _, _, rfl, rfl⟩
  · exact ⟨8, _, _, rfl, rfl⟩
  · exact ⟨9, _, _, rfl, rfl⟩
  · exact ⟨10, _, _, rfl, rfl⟩
  · exact ⟨11, _, _, rfl, rfl⟩
  · exact ⟨12, _, _, rfl, rfl⟩
  · exact ⟨13, _, _, rfl, rfl⟩
  · exact ⟨14, _, _, rfl, rfl⟩
  · exact ⟨15, _, _, rfl, rfl⟩
  · exact ⟨16, _, _, rfl, rfl⟩
theorem eqv_ls (w : Str) : PyData.eqv (.list [.str w]) (.list [.str w]) = true := by simp [PyData.eqv, PyData.eqvAll]
theorem shaped_ls {i : Nat} {w : Str} (h : wds[i]? = some w) : SeqAt.shaped (.list [.str w]) = true := by
  have all : wds.all (fun x => PyData.strOk x) = true := by decide +kernel
  have := List.all_eq_true.mp all w (List.mem_of_getElem? h)
  simp [SeqAt.shaped, PyData.canLay0, PyData.canLayAll0, PyData.depth, PyData.depthAll, this]
theorem xf_of {K : PySem.W.Frag} {C : Addr} (h : L2.ExcC K C) : XfC K C := ⟨h.hg, h.hk, h.hs, h.hd⟩
def t1 : List PyData := [tI [1, 0], .int (-2), .int 3, tI [1, 2], .none, .int 4, .str "cells"]
def t2 : List PyData := [.int 5, .str "thin", .str "form", .list [.str "a"], tI [2, 0], .int 60]
def t12 : PyData := .list [tI [1, 0], .int (-2), .int 3, tI [1, 2], .none, .int 4, .str "cells", .int 5, .str "thin", .str "form", .list [.str "a"], tI [2, 0], .int 60]
theorem t12_tame : Tame t12 := by
  have t : ∀ {x y : Int}, x.natAbs < 2 ^ 10 → y.natAbs < 2 ^ 10 → Tam 11 1 (tI [x, y]) := fun {x y} h1 h2 => (tam_tI (l := 2) (bits2 (bs h1) (bs h2)) (by simp)).mono (by decide) (by decide)
  have ti : ∀ {x : Int}, x.natAbs < 2 ^ 10 → Tam 11 1 (.int x) := fun h => (tam_i h).mono (by decide) (by decide)
  refine Tam.tame (b := 200) (n := 2) ((tam_lst (b := 11) (n := 1) (l := 13) (fun d hd => ?_) (by simp)).mono (by decide) (by decide)) (by decide) (by decide)
  simp only [List.mem_cons, List.not_mem_nil, or_false] at hd
  rcases hd with rfl | rfl | rfl | rfl | rfl | rfl | rfl | rfl | rfl | rfl | rfl | rfl | rfl
  · exact t (by decide) (by decide)
  · exact ti (by decide)
  · exact ti (by decide)
  · exact t (by decide) (by decide)
  · exact tam_non.mono (by decide) (by decide)
  · exact ti (by decide)
  · exact (tam_str (by decide +kernel) (by decide +kernel)).mono (by decide) (by decide)
  · exact ti (by decide)
  · exact (tam_str (by decide +kernel) (by decide +kernel)).mono (by decide) (by decide)
  · exact (tam_str (by decide +kernel) (by decide +kernel)).mono (by decide) (by decide)
  · exact tam_l1 (tam_str (by decide +kernel) (by decide +kernel))
  · exact t (by decide) (by decide)
  · exact ti (by decide)
section
variable {X : Cx} {ρ : Rho} {e : Expr} {R : VR} {w : Str} {k0 k1 : Nat} {p1 pos : Pos}
theorem v_pair (h : EvV X 0 e ρ R) (hs : starEach (e :: [.Constant (.str w) k0 p1]) X.env = (false, eval e X.env) :: starEach [.Constant (.str w) k0 p1] X.env := by exact star_of rfl) : EvV X 0 (.Tuple [e, .Constant (.str w) k0 p1] k1 pos) ρ (tupV R (datV X.K (.str w))) := v_tup (va_cons h (va_cons (v_of e_str) va_nil) hs)
end
section
variable {P : Program} {w : World} {K : PySem.W.Frag} {mg : Str → Option Value} {base : Heap} {f : Addr} {fd : FuncData} {A : Nat → Addr} {S : Addr}
abbrev XR (P : Program) (w : World) (K : PySem.W.Frag) (mg : Str → Option Value) (base : Heap) (f : Addr) (cdv : Value) (A : Around) (outer : List Env) (s : Shared) (H : Hp) (E : XK) : Cx := (cxOf CX0 P w K mg base n__law_errors_right "_law_errors_right" (defScope st__law_errors_right) f cdv A outer s H E).nox
abbrev RRun (P : Program) (w : World) (K : PySem.W.Frag) (mg : Str → Option Value) (base : Heap) (f : Addr) (cdv : Value) (A : Around) (outer : List Env) (s : Shared) (H : Hp) (E : XK) (n : Nat) (ρ : Rho) : Prop := Zj.Run (XR P w K mg base f cdv A outer s H E) 0 ((defBody st__law_errors_right).drop n) ρ (fun _ => PyData.bool true = .none) (fun d => d = .bool true)
variable {cdv : Value} {Ar : Around} {outer : List Env} {s : Shared} {H : Hp} {E : XK}
theorem cj_no {x : Str} {ps : List Str} {C : Addr} {g : Str} (h : ClsJ P w K mg base x ps C) (hg : g ∈ ps) : PySem.W.findIn K (.ref C) g = some none := by
  obtain ⟨fI, fd, _, _, _, _, h, _⟩ := h.ex
  exact h g hg
theorem gl_of (ek : Ek K mg A S) (i : Nat) {x : Str} (h : nms[i]? = some x) : mg x = some (.ref (A i)) := ek.gl i x h
theorem er7 {t : PyData} (ht : t12 = t) (tt : Tame t) {x : Option DV} (G : Good (XR P w K mg base f cdv Ar outer s H E)) (hr : Room 2 (XR P w K mg base f cdv Ar outer s H E).A) (hgd : (XR P w K mg base f cdv Ar outer s H E).A.guards = some []) (CL : CalG P w K mg base 1 "_law_like" ["told", "due"] (spR K R_like)) : RRun P w K mg base f cdv Ar outer s H E 7 [x, some (.dat t), none, none] := by
  refine r_cons (r_skip (t_notlike (d := t) CL hgd (hr.mono (by decide)) (a_cons (e_var (i := 1) rfl) (a_cons (e_is (e_c (d := t12) ?_) ht) a_nil)) tt) (r_one (rs_ret (e_c (d := .bool true) rfl) rfl)))
  decide +kernel
theorem er5 (G : Good (XR P w K mg base f cdv Ar outer s H E)) (ek : Ek K mg A S) (J : Jk P w K mg base A) (next : RRun P w K mg base f cdv Ar outer s H E 7 [some (.val (lstV (sAll K A))), some (.dat t12), none, none]) : RRun P w K mg base f cdv Ar outer s H E 5 [some (.val (lstV (sAll K A))), none, none, none] := by
  refine r_cons (rs_set (i := 1) (d := .list t1) G (e_lst (ds := t1)
    (a_cons (v_attr (v_ixT (v_ix (i := 0) (Zj.v_var (i := 0) rfl) rfl)) List.mem_cons_self (xf_of (ek.ex 0 (by decide))) (cj_no J.j0 List.mem_cons_self))
    (a_cons (v_attr (v_ixT (v_ix (i := 1) (Zj.v_var (i := 0) rfl) rfl)) List.mem_cons_self (xf_of (ek.ex 1 (by decide))) (cj_no J.j1 List.mem_cons_self))
    (a_cons (v_attr (v_ixT (v_ix (i := 2) (Zj.v_var (i := 0) rfl) rfl)) List.mem_cons_self (xf_of (ek.ex 2 (by decide))) (cj_no J.j2 List.mem_cons_self))
    (a_cons (v_attr (v_ixT (v_ix (i := 3) (Zj.v_var (i := 0) rfl) rfl)) List.mem_cons_self (xf_of (ek.ex 3 (by decide))) (cj_no J.j3 List.mem_cons_self))
    (a_cons (v_attr (v_ixT (v_ix (i := 4) (Zj.v_var (i := 0) rfl) rfl)) List.mem_cons_self (xf_of (ek.ex 4 (by decide))) (cj_no J.j4 List.mem_cons_self))
    (a_cons (v_attr (v_ixT (v_ix (i := 4) (Zj.v_var (i := 0) rfl) rfl)) (List.mem_cons_of_mem _ List.mem_cons_self) (xf_of (ek.ex 4 (by decide))) (cj_no J.j4 (List.mem_cons_of_mem _ List.mem_cons_self)))
    (a_cons (v_attr (v_ixT (v_ix (i := 5) (Zj.v_var (i := 0) rfl) rfl)) List.mem_cons_self (xf_of (ek.ex 5 (by decide))) (cj_no J.j5 List.mem_cons_self)) a_nil))))))) (by decide)) ?_)
  exact r_cons (rs_set (i := 1) (d := .list (t1 ++ t2)) G (e_bin (od_catL (fs := t2) (by decide)) (e_var (i := 1) rfl) (e_lst (ds := t2)
    (a_cons (v_attr (v_ixT (v_ix (i := 6) (Zj.v_var (i := 0) rfl) rfl)) List.mem_cons_self (xf_of (ek.ex 6 (by decide))) (cj_no J.j6 List.mem_cons_self))
    (a_cons (v_attr (v_ixT (v_ix (i := 8) (Zj.v_var (i := 0) rfl) rfl)) List.mem_cons_self (xf_of (ek.ex 8 (by decide))) (cj_no J.j8 List.mem_cons_self))
    (a_cons (v_attr (v_ixT (v_ix (i := 9) (Zj.v_var (i := 0) rfl) rfl)) List.mem_cons_self (xf_of (ek.ex 9 (by decide))) (cj_no J.j9 List.mem_cons_self))
    (a_cons (v_attr (v_ixT (v_ix (i := 10) (Zj.v_var (i := 0) rfl) rfl)) List.mem_cons_self (xf_of (ek.ex 10 (by decide))) (cj_no J.j10 List.mem_cons_self))
    (a_cons (v_attr (v_ixT (v_ix (i := 11) (Zj.v_var (i := 0) rfl) rfl)) List.mem_cons_self (xf_of (ek.ex 11 (by decide))) (cj_no J.j11 List.mem_cons_self))
    (a_cons (v_attr (v_ixT (v_ix (i := 16) (Zj.v_var (i := 0) rfl) rfl)) List.mem_cons_self (xf_of (ek.ex 16 (by decide))) (cj_no J.j16 List.mem_cons_self)) a_nil)))))) (by decide))) next)
theorem er4 (G : Good (XR P w K mg base f cdv Ar outer s H E)) (hr : Room 2 (XR P w K mg base f cdv Ar outer s H E).A) (hgd : (XR P w K mg base f cdv Ar outer s H E).A.guards = some []) (CK : CalG P w K mg base 1 "_law_kinds" ["error"] (spV K (R_kinds K A))) (next : RRun P w K mg base f cdv Ar outer s H E 5 [some (.val (lstV (sAll K A))), none, none, none]) : RRun P w K mg base f cdv Ar outer s H E 4 [some (.val (lstV (sAll K A))), none, none, none] := by
  refine r_cons (r_skip (t_is (t_cmp (od_neD (d1 := .list []) (d2 := .list []) G.un (shaped_lI []) (shaped_lI [])) (e_lcV0 (i1 := 2) (i2 := 3) G (Zj.v_var (i := 0) rfl) (blkOk_by (N := n__law_errors_right) (sc := defScope st__law_errors_right) (by decide +kernel))
    (fun _ _ _ _ _ => pg_tup rfl (pgs_cons (pg_name (i := 2) sc__law_errors_right.nd rfl (Or.inl rfl)) (pgs_cons (pg_name (i := 3) sc__law_errors_right.nd rfl (Or.inl rfl)) pgs_nil))) (fun R hR => ?_)) (e_lst a_nil) (nomark _)) rfl) next)
  obtain ⟨i, fs, wd, hw, rfl⟩ := sAll_ok hR
  refine ⟨_, _, rfl, fun s H C cl fp => t_is (t_cmp (od_neD (d1 := .list [.str wd]) (d2 := .list [.str wd]) G.un (shaped_ls hw) (shaped_ls hw)) (e_callV CK hgd (hr.mono (by decide)) (Zj.v_var (i := 2) rfl) ⟨i, fs, wd, hw, rfl, rfl⟩) (e_lst (a_cons (e_of (Zj.v_var (i := 3) rfl)) a_nil)) (nomark _)) (by rw [eqv_ls] <;> rfl)⟩
theorem er3 (G : Good (XR P w K mg base f cdv Ar outer s H E)) (hr : Room 2 (XR P w K mg base f cdv Ar outer s H E).A) (ek : Ek K mg A S) (J : Jk P w K mg base A) (next : RRun P w K mg base f cdv Ar outer s H E 4 [some (.val (lstV (sAll K A))), none, none, none]) : RRun P w K mg base f cdv Ar outer s H E 3 [some (.val (lstV (s1 K A ++ s2 K A ++ s3 K A))), none, none, none] :=
  r_cons (rs_setV (i := 0) (R := lstV (s1 K A ++ s2 K A ++ s3 K A ++ s4 K A)) G (v_cat (Ss := s4 K A) (Zj.v_var (i := 0) rfl) (v_lst (Rs := s4 K A)
    (va_cons (v_pair (v_mkP J.p12 (gl_of ek 12 rfl))) (va_cons (v_pair (v_mkP J.p13 (gl_of ek 13 rfl))) (va_cons (v_pair (v_mkP J.p14 (gl_of ek 14 rfl))) (va_cons (v_pair (v_mkP J.p15 (gl_of ek 15 rfl)))
    (va_cons (v_pair (v_mk J.j16 hr (ds := [.int 60]) (a_cons e_int a_nil) rfl (by decide))) va_nil))))) (show (5 : Nat) ≤ 100000 by decide)) (show (12 + 5 : Nat) ≤ 100000 by decide)) next)
theorem er2 (G : Good (XR P w K mg base f cdv Ar outer s H E)) (hr : Room 2 (XR P w K mg base f cdv Ar outer s H E).A) (ek : Ek K mg A S) (J : Jk P w K mg base A) (next : RRun P w K mg base f cdv Ar outer s H E 3 [some (.val (lstV (s1 K A ++ s2 K A ++ s3 K A))), none, none, none]) : RRun P w K mg base f cdv Ar outer s H E 2 [some (.val (lstV (s1 K A ++ s2 K A))), none, none, none] :=
  r_cons (rs_setV (i := 0) (R := lstV (s1 K A ++ s2 K A ++ s3 K A)) G (v_cat (Ss := s3 K A) (Zj.v_var (i := 0) rfl) (v_lst (Rs := s3 K A)
    (va_cons (v_pair (v_mk J.j8 hr (ds := [.str "thin"]) (a_cons e_str a_nil) rfl (by decide))) (va_cons (v_pair (v_mkK J.j9 hr (ds := [.str "form"]) (k_cons e_str k_nil) rfl))
    (va_cons (v_pair (v_mk J.j10 hr (ds := [.list [.str "a"]]) (a_cons (e_lst (a_cons e_str a_nil)) a_nil) rfl (by decide))) (va_cons (v_pair (v_mk J.j11 hr (ds := [tI [2, 0]]) (a_cons (e_tup (a_cons e_int (a_cons e_int a_nil))) a_nil) rfl (by decide))) va_nil)))) (show (4 : Nat) ≤ 100000 by decide)) (show (8 + 4 : Nat) ≤ 100000 by decide)) next)
theorem er1 (G : Good (XR P w K mg base f cdv Ar outer s H E)) (hr : Room 2 (XR P w K mg base f cdv Ar outer s H E).A) (ek : Ek K mg A S) (J : Jk P w K mg base A) (next : RRun P w K mg base f cdv Ar outer s H E 2 [some (.val (lstV (s1 K A ++ s2 K A))), none, none, none]) : RRun P w K mg base f cdv Ar outer s H E 1 [some (.val (lstV (s1 K A))), none, none, none] :=
  r_cons (rs_setV (i := 0) (R := lstV (s1 K A ++ s2 K A)) G (v_cat (Ss := s2 K A) (Zj.v_var (i := 0) rfl) (v_lst (Rs := s2 K A)
    (va_cons (v_pair (v_mk J.j4 hr (ds := [.none, .int 4]) (a_cons e_non (a_cons e_int a_nil)) rfl (by decide))) (va_cons (v_pair (v_mk J.j5 hr (ds := [.str "cells"]) (a_cons e_str a_nil) rfl (by decide)))
    (va_cons (v_pair (v_mk J.j6 hr (ds := [.int 5]) (a_cons e_int a_nil) rfl (by decide))) (va_cons (v_pair (v_mkP J.p7 (gl_of ek 7 rfl))) va_nil)))) (show (4 : Nat) ≤ 100000 by decide)) (show (4 + 4 : Nat) ≤ 100000 by decide)) next)
theorem er0 (G : Good (XR P w K mg base f cdv Ar outer s H E)) (hr : Room 2 (XR P w K mg base f cdv Ar outer s H E).A) (ek : Ek K mg A S) (J : Jk P w K mg base A) (next : RRun P w K mg base f cdv Ar outer s H E 1 [some (.val (lstV (s1 K A))), none, none, none]) : Zj.Run (XR P w K mg base f cdv Ar outer s H E) 0 (defBody st__law_errors_right) [none, none, none, none] (fun _ => PyData.bool true = .none) (fun d => d = .bool true) :=
  r_cons (rs_setV (i := 0) (R := lstV (s1 K A)) G (v_lst (Rs := s1 K A)
    (va_cons (v_pair (v_mk J.j0 hr (ds := [tI [1, 0]]) (a_cons (e_tup (a_cons e_int (a_cons e_int a_nil))) a_nil) rfl (by decide))) (va_cons (v_pair (v_mk J.j1 hr (ds := [.int (-2)]) (a_cons (e_neg e_int) a_nil) rfl (by decide)))
    (va_cons (v_pair (v_mkK J.j2 hr (ds := [.int 3]) (k_cons e_int k_nil) rfl)) (va_cons (v_pair (v_mk J.j3 hr (ds := [tI [1, 2]]) (a_cons (e_tup (a_cons e_int (a_cons e_int a_nil))) a_nil) rfl (by decide))) va_nil)))) (show (4 : Nat) ≤ 100000 by decide)) next)
theorem ok_errs (F : Fun K "_law_errors_right" "_law_errors_right" st__law_errors_right f fd) (ek : Ek K mg A S) (J : Jk P w K mg base A) (CL : CalG P w K mg base 1 "_law_like" ["told", "due"] (spR K R_like)) (CK : CalG P w K mg base 1 "_law_kinds" ["error"] (spV K (R_kinds K A))) : FnG P w K mg base CX0 3 f fd [] (spR K R_hand) := by
  refine fnRG F sc__law_errors_right (fun ds d h => by obtain ⟨rfl, _⟩ := h; rfl) fun cdv Ar outer s H E G hr hgd ds d h' => ?_
  obtain ⟨rfl, rfl⟩ := h'
  refine (show Zj.Run (XR P w K mg base f cdv Ar outer s H E) 0 (defBody st__law_errors_right) [none, none, none, none] (fun _ => PyData.bool true = .none) (fun d => d = .bool true) from ?_)
  exact er0 G hr ek J (er1 G hr ek J (er2 G hr ek J (er3 G hr ek J (er4 G hr hgd CK (er5 G ek J (er7 rfl t12_tame G hr hgd CL))))))
end
end K0
/-! The law; all together. -/
namespace K0
open PySem PySem.Spec PyProof.Rows L2 Zj
section
variable [Nm] {P : Program} {w : World} {K : PySem.W.Frag} {mg : Str → Option Value} {base : Heap} {f : Addr} {fd : FuncData}
def R_law (ds : List PyData) (d : PyData) : Prop := ∃ xs, ds = [lI xs] ∧ xs.length ≤ 63 ∧ BitsL 1100000 xs ∧ d = .bool true
theorem ok_law (F : Fun K "law" "law" st_law f fd) (T : Tx mg) (CH : CalG P w K mg base 6 "_law_hand_right" [] (spR K R_hand)) (CE : CalG P w K mg base 3 "_law_errors_right" [] (spR K R_hand)) (CB : CalG P w K mg base 1 "_law_begun" ["script", "k"] (spB K))
    (CR : CalG P w K mg base 6 "_law_lowest_right" ["m"] (spM K 89 R_lr)) (CP : CalG P w K mg base 4 "_law_pair" ["m"] (spM K 44 R_pair)) (C2 : CalG P w K mg base 7 "_law_two_right" ["one_so", "other_so"] (spR K R_two)) : FnG P w K mg base CX0 8 f fd ["script"] (spR K R_law) := by
  refine fnRG F sc_law (fun ds d h => by obtain ⟨xs, rfl, _⟩ := h; rfl) fun cdv A outer s H E G hr hgd ds d h => ?_
  obtain ⟨xs, rfl, hl, hb, rfl⟩ := h
  refine r_cons (r_skip (t_or2 (b := false) (t_is (t_not (t_val (e_call0 CH hgd (hr.mono (by decide)) ⟨rfl, rfl⟩))) rfl) (fun _ => t_is (t_not (t_val (e_call0 CE hgd (hr.mono (by decide)) ⟨rfl, rfl⟩))) rfl) nofun) ?_)
  obtain ⟨M, hM0, hM4, hM⟩ : ∃ M : Int, 0 ≤ M ∧ M ≤ 4 ∧ (if (if (4 : Int) < ((xs.map PyData.int).length : Int) then 4 else ((xs.map PyData.int).length : Int)) > 2 then (if (4 : Int) < ((xs.map PyData.int).length : Int) then 4 else ((xs.map PyData.int).length : Int)) else 2) = M := by
    refine ⟨_, ?_, ?_, rfl⟩
    · split
      · omega
      · omega
    · split
      · split <;> omega
      · omega
  refine r_cons (rs_for G (src_R (n := M) (a_cons (e_is (e_callB (ca_max G.calm) (a_cons e_int (a_cons (e_callB (ca_min G.calm) (a_cons (e_callB ca_lenL (a_cons (e_var (i := 0) rfl) a_nil) T.len (by decide +kernel)) (a_cons e_int a_nil)) T.min (by decide +kernel)) a_nil)) T.max (by decide +kernel)) (by rw [hM])) a_nil) (by omega) (by omega) T.range)
    (pg_name (i := 1) sc_law.nd rfl (Or.inl rfl)) (tg_name (vs := [1]) (by decide)) (fun _ ρ' => ∃ y1 y2 y3, ρ' = [some (.dat (lI xs)), y1, y2, y3]) ⟨_, _, _, rfl⟩ (fun i d ρ1 hd hJ => ?_) fun ρ' hJ => ?_)
  · obtain ⟨y1, y2, y3, rfl⟩ := hJ
    have hi : i < M.toNat ∧ d = .int (i : Int) := by
      unfold Zj.upTo at hd
      rw [List.getElem?_map] at hd
      by_cases hlt : i < M.toNat
      · rw [List.getElem?_range hlt] at hd
        cases hd
        exact ⟨hlt, rfl⟩
      · rw [List.getElem?_eq_none (by simpa using hlt)] at hd
        cases hd
    obtain ⟨hi, rfl⟩ := hi
    refine ⟨_, rfl, r_begun (i := 2) (kk := i) (xs := xs) G CB hgd (hr.mono (by decide)) (a_cons (e_var (i := 0) rfl) (a_cons (e_var (i := 1) rfl) a_nil)) (by omega) hl hb fun q => ?_⟩
    refine q_one (qs_for G (src_R (n := 4) (a_cons e_int a_nil) (by decide) (by decide) T.range) (pg_name (i := 3) sc_law.nd rfl (Or.inl rfl)) (tg_name (vs := [3]) (by decide))
      (fun j m ρ' => 1000 ≤ m + 200 * j ∧ ∃ z1, ρ' = [some (.dat (lI xs)), some (.dat (.int (i : Int))), some .hnd, z1]) ⟨by decide, _, rfl⟩ (fun j d m ρ1 hd hJ => ?_) fun m ρ' hJ => ?_)
    · obtain ⟨hm, z1, rfl⟩ := hJ
      have hj : j < 4 := by
        have := (List.getElem?_eq_some_iff.mp hd).1
        rw [upto_len] at this
        omega
      obtain ⟨r, rfl⟩ : ∃ r, m = r + 177 := ⟨m - 177, by omega⟩
      refine ⟨_, rfl, q_one (qs_if (PB := fun b => b = false) (m := r) ?_ (fun z => nomatch z) fun _ => q_nil ⟨by omega, _, rfl⟩)⟩
      refine mt_or (m := r + 88) (mt_not (mt_val (m_call (i := 2) (ds := []) CR hgd (hr.mono (by decide)) rfl a_nil ⟨rfl, true, rfl, rfl⟩ (Nat.le_refl _)))) (mt_or1 (mt_not (mt_val (m_callRG C2 hgd (hr.mono (by decide))
        (PA := fun ds => ∃ d ds', ds = d :: ds' ∧ (∃ p, d = fr p ∧ Pn p) ∧ ∃ d2 ds2, ds' = d2 :: ds2 ∧ (∃ p, d2 = fr p ∧ Pn p) ∧ ds2 = [])
        (ma_cons (m := r + 44) (m_call (i := 2) (ds := []) CP hgd (hr.mono (by decide)) rfl a_nil ⟨rfl, fun p hp => ⟨p, rfl, hp⟩⟩ (Nat.le_refl _)) fun _ _ => ma_cons (m := r) (P := fun d => ∃ p, d = fr p ∧ Pn p) (m_call (i := 2) (ds := []) CP hgd (hr.mono (by decide)) rfl a_nil ⟨rfl, fun p hp => ⟨p, rfl, hp⟩⟩ (Nat.le_refl _)) fun _ _ => ma_nil (Nat.le_refl _)) fun ds hds => ?_))))
      obtain ⟨_, _, rfl, ⟨p, rfl, hp⟩, _, _, rfl, ⟨u, rfl, hu⟩, rfl⟩ := hds
      exact ⟨.bool true, ⟨p, u, rfl, hp, hu, rfl⟩, true, rfl, rfl⟩
    · obtain ⟨_, z1, rfl⟩ := hJ
      exact ⟨_, _, _, rfl⟩
  · obtain ⟨y1, y2, y3, rfl⟩ := hJ
    exact r_one (rs_ret e_bl rfl)
end
/-! own classes, made at will -/
section
variable {P : Program} {w : World} {K : PySem.W.Frag} {h base : Heap} {mg : Str → Option Value} {x qi f g : Str} {st : Stmt} {C : Addr}
theorem clsJ_mk {p1 p2 p3 p4 : Pos} (X : K.In h) (G : h.Ns mainGlobals mg) (d : Cd1 K x qi st f C) (S : FnScope ["self", f] ["self", f] (defScope st)) (hb : defBody st = [.Assign [.Attribute (.Name "self" p1) f p2] (.Name f p3) p4])
    (h1 : Vis (defScope st) "self") (h2 : Vis (defScope st) f) (hd : (f == ("__debug__" : Str)) = false) (hcd : (f == ("__classdict__" : Str)) = false) (hs : ∀ env : Env, swapsWith (.Name f p3) (some (.Attribute (.Name "self" p1) f p2)) p4.line env = pure false)
    (bd : ∀ (kV doc pm : Value) (an : Option Addr) (cdv ct u v : Value), bindArgs (PySem.W.fnOf "__init__" qi (defArgs st) (defBody st) (defScope st) .none kV doc pm an cdv ct) ⟨[u, v], []⟩ = pure [(("self" : Str), u), (f, v)])
    (bk : ∀ (kV doc pm : Value) (an : Option Addr) (cdv ct u v : Value), bindArgs (PySem.W.fnOf "__init__" qi (defArgs st) (defBody st) (defScope st) .none kV doc pm an cdv ct) ⟨[u], [(f, v)]⟩ = pure [(("self" : Str), u), (f, v)]) [Nm] : ClsJ P w K mg base x [f] C := by
  obtain ⟨fI, fd, i, ti, F⟩ := d.ini
  refine ⟨fI, fd, PySem.W.mg_of X G d.a, d.o, i, ti, fun g hg => by rw [List.mem_singleton] at hg; rw [hg]; exact d.nf, init1 F S hb h1 h2 hd hcd hs, F.binds fun kV doc pm an cdv ct us hl => ?_, fun s u ws hl => ?_⟩
  · match us, hl with
    | [u, v], _ => exact bd kV doc pm an cdv ct u v
  · obtain ⟨oc, od, kV, doc, pm, an, cdv, ct, osl, rfl, _⟩ := F.ex
    match ws, hl with
    | [v], _ => exact .of_eq (bk kV doc pm an cdv ct u v)
theorem clsJ2_mk {p1 p2 p3 p4 q1 q2 q3 q4 : Pos} (X : K.In h) (G : h.Ns mainGlobals mg) (d : Cd1 K x qi st f C) (ng : PySem.W.findIn K (.ref C) g = some none) (S : FnScope ["self", f, g] ["self", f, g] (defScope st))
    (hb : defBody st = [.Assign [.Attribute (.Name "self" p1) f p2] (.Name f p3) p4, .Assign [.Attribute (.Name "self" q1) g q2] (.Name g q3) q4])
    (h1 : Vis (defScope st) "self") (h2 : Vis (defScope st) f) (h3 : Vis (defScope st) g) (hd : (f == ("__debug__" : Str)) = false) (hcd : (f == ("__classdict__" : Str)) = false) (hd2 : (g == ("__debug__" : Str)) = false) (hcd2 : (g == ("__classdict__" : Str)) = false) (hfg : (f == g) = false)
    (hs : ∀ env : Env, swapsWith (.Name f p3) (some (.Attribute (.Name "self" p1) f p2)) p4.line env = pure false) (hs2 : ∀ env : Env, swapsWith (.Name g q3) (some (.Attribute (.Name "self" q1) g q2)) q4.line env = pure false)
    (bd : ∀ (kV doc pm : Value) (an : Option Addr) (cdv ct u v z : Value), bindArgs (PySem.W.fnOf "__init__" qi (defArgs st) (defBody st) (defScope st) .none kV doc pm an cdv ct) ⟨[u, v, z], []⟩ = pure [(("self" : Str), u), (f, v), (g, z)])
    (bk : ∀ (kV doc pm : Value) (an : Option Addr) (cdv ct u v z : Value), bindArgs (PySem.W.fnOf "__init__" qi (defArgs st) (defBody st) (defScope st) .none kV doc pm an cdv ct) ⟨[u], [(f, v), (g, z)]⟩ = pure [(("self" : Str), u), (f, v), (g, z)]) [Nm] : ClsJ P w K mg base x [f, g] C := by
  obtain ⟨fI, fd, i, ti, F⟩ := d.ini
  refine ⟨fI, fd, PySem.W.mg_of X G d.a, d.o, i, ti, fun k hk => ?_, init2 F S hb h1 h2 h3 hd hcd hd2 hcd2 hfg hs hs2, F.binds fun kV doc pm an cdv ct us hl => ?_, fun s u ws hl => ?_⟩
  · rcases List.mem_cons.mp hk with rfl | hk
    · exact d.nf
    · rw [List.mem_singleton] at hk
      rw [hk]
      exact ng
  · match us, hl with
    | [u, v, z], _ => exact bd kV doc pm an cdv ct u v z
  · obtain ⟨oc, od, kV, doc, pm, an, cdv, ct, osl, rfl, _⟩ := F.ex
    match ws, hl with
    | [v, z], _ => exact .of_eq (bk kV doc pm an cdv ct u v z)
end
/-! what the kernel is asked of all classes -/
def excB (K : PySem.W.Frag) (C : Addr) : Bool := decide (PySem.W.findIn K (.ref C) "__getattribute__" = some (some (.builtin "BaseException.__getattribute__"))) && (decide (PySem.W.findIn K (.ref C) "__getattr__" = some none) && (decide (PySem.W.subIn K (.ref C) (.type "BaseException") = some true) && (PySem.W.hasDictIn K C && (decide (PySem.W.findIn K (.ref C) "__class__" = some (some (.builtin "object.__class__"))) &&
  (decide (PySem.W.specialIn K (.builtin "object.__class__") "__get__" = some (some (.builtin "getset_descriptor.__get__"))) && (decide (PySem.W.takesIn K (.builtin "object.__class__") = some true) && decide (PySem.W.mroIn K C (.type "object") = some true)))))))
theorem excB_ok {K : PySem.W.Frag} {C : Addr} (h : excB K C = true) : L2.ExcC K C := by
  unfold excB at h
  rw [Bool.and_eq_true, Bool.and_eq_true, Bool.and_eq_true, Bool.and_eq_true, Bool.and_eq_true, Bool.and_eq_true, Bool.and_eq_true] at h
  obtain ⟨h1, h2, h3, h4, h5, h6, h7, h8⟩ := h
  exact ⟨of_decide_eq_true h1, of_decide_eq_true h2, of_decide_eq_true h3, h4, of_decide_eq_true h5, of_decide_eq_true h6, of_decide_eq_true h7, of_decide_eq_true h8⟩
def at17 (L : List Addr) (i : Nat) : Addr := L.getD i 0
def r17 : List Nat := [0, 1, 2, 3, 4, 5, 6, 7, 8, 9, 10, 11, 12, 13, 14, 15, 16]
theorem r17_mem {i : Nat} (h : i < 17) : i ∈ r17 := by
  unfold r17
  simp only [List.mem_cons, List.not_mem_nil, or_false]
  omega
def kindsB (K : PySem.W.Frag) (L : List Addr) (S : Addr) : Bool := (r17.all fun i => excB K (at17 L i)) && ((r17.all fun i => r17.all fun j => decide (PySem.W.kitOne K (.ref (at17 L i)) (.ref (at17 L j)) = some (decide (i = j)))) &&
  ((r17.all fun i => decide (PySem.W.kitOne K (.ref (at17 L i)) (.ref S) = some true)) && (r17.all fun i => decide (PySem.W.kitOne K (.ref (at17 L i)) (.type "ValueError") = some true))))
abbrev st_c0 : Stmt := inClass (top 3) 0
theorem sc_c0 : FnScope ["self", "value"] ["self", "value"] (defScope st_c0) := ⟨rfl, rfl, rfl, by decide +kernel, rfl, by decide +kernel, by decide +kernel⟩
abbrev st_c1 : Stmt := inClass (top 4) 0
theorem sc_c1 : FnScope ["self", "place"] ["self", "place"] (defScope st_c1) := ⟨rfl, rfl, rfl, by decide +kernel, rfl, by decide +kernel, by decide +kernel⟩
abbrev st_c2 : Stmt := inClass (top 5) 0
theorem sc_c2 : FnScope ["self", "place"] ["self", "place"] (defScope st_c2) := ⟨rfl, rfl, rfl, by decide +kernel, rfl, by decide +kernel, by decide +kernel⟩
abbrev st_c3 : Stmt := inClass (top 6) 0
theorem sc_c3 : FnScope ["self", "path"] ["self", "path"] (defScope st_c3) := ⟨rfl, rfl, rfl, by decide +kernel, rfl, by decide +kernel, by decide +kernel⟩
abbrev st_c4 : Stmt := inClass (top 7) 0
theorem sc_c4 : FnScope ["self", "line", "word"] ["self", "line", "word"] (defScope st_c4) := ⟨rfl, rfl, rfl, by decide +kernel, rfl, by decide +kernel, by decide +kernel⟩
abbrev st_c5 : Stmt := inClass (top 8) 0
theorem sc_c5 : FnScope ["self", "word"] ["self", "word"] (defScope st_c5) := ⟨rfl, rfl, rfl, by decide +kernel, rfl, by decide +kernel, by decide +kernel⟩
abbrev st_c6 : Stmt := inClass (top 9) 0
theorem sc_c6 : FnScope ["self", "number"] ["self", "number"] (defScope st_c6) := ⟨rfl, rfl, rfl, by decide +kernel, rfl, by decide +kernel, by decide +kernel⟩
abbrev st_c8 : Stmt := inClass (top 11) 0
theorem sc_c8 : FnScope ["self", "word"] ["self", "word"] (defScope st_c8) := ⟨rfl, rfl, rfl, by decide +kernel, rfl, by decide +kernel, by decide +kernel⟩
abbrev st_c9 : Stmt := inClass (top 12) 0
theorem sc_c9 : FnScope ["self", "word"] ["self", "word"] (defScope st_c9) := ⟨rfl, rfl, rfl, by decide +kernel, rfl, by decide +kernel, by decide +kernel⟩
abbrev st_c10 : Stmt := inClass (top 13) 0
theorem sc_c10 : FnScope ["self", "name"] ["self", "name"] (defScope st_c10) := ⟨rfl, rfl, rfl, by decide +kernel, rfl, by decide +kernel, by decide +kernel⟩
abbrev st_c11 : Stmt := inClass (top 14) 0
theorem sc_c11 : FnScope ["self", "place"] ["self", "place"] (defScope st_c11) := ⟨rfl, rfl, rfl, by decide +kernel, rfl, by decide +kernel, by decide +kernel⟩
abbrev st_c16 : Stmt := inClass (top 19) 0
theorem sc_c16 : FnScope ["self", "most"] ["self", "most"] (defScope st_c16) := ⟨rfl, rfl, rfl, by decide +kernel, rfl, by decide +kernel, by decide +kernel⟩
structure Kls (K : PySem.W.Frag) (a0 a1 a2 a3 a4 a5 a6 a7 a8 a9 a10 a11 a12 a13 a14 a15 a16 S : Addr) : Prop where
  c0 : Cd1 K "NotNumber" "NotNumber.__init__" st_c0 "value" a0
  c1 : Cd1 K "NotRow" "NotRow.__init__" st_c1 "place" a1
  c2 : Cd1 K "NotPoint" "NotPoint.__init__" st_c2 "place" a2
  c3 : Cd1 K "NotFormula" "NotFormula.__init__" st_c3 "path" a3
  c4 : Cd1 K "NotText" "NotText.__init__" st_c4 "line" a4
  w4 : PySem.W.findIn K (.ref a4) "word" = some none
  c5 : Cd1 K "NotForm" "NotForm.__init__" st_c5 "word" a5
  c6 : Cd1 K "NotSystem" "NotSystem.__init__" st_c6 "number" a6
  c7 : Cd0 K "NotMap" a7
  c8 : Cd1 K "NotMesh" "NotMesh.__init__" st_c8 "word" a8
  c9 : Cd1 K "NotPaper" "NotPaper.__init__" st_c9 "word" a9
  c10 : Cd1 K "NotName" "NotName.__init__" st_c10 "name" a10
  c11 : Cd1 K "NotHistory" "NotHistory.__init__" st_c11 "place" a11
  c12 : Cd0 K "Unlike" a12
  c13 : Cd0 K "Empty" a13
  c14 : Cd0 K "Endless" a14
  c15 : Cd0 K "Flat" a15
  c16 : Cd1 K "TooGreat" "TooGreat.__init__" st_c16 "most" a16
  so : PySem.W.nsIn K mainGlobals "SolidError" = some (some (.ref S))
  ve : PySem.W.nsIn K mainGlobals "ValueError" = some none
  s00 : PySem.W.subIn K (.ref a0) (.ref a0) = some true
  ks : kindsB K [a0, a1, a2, a3, a4, a5, a6, a7, a8, a9, a10, a11, a12, a13, a14, a15, a16] S = true
theorem ek_mk {K : PySem.W.Frag} {h : Heap} {mg : Str → Option Value} {a0 a1 a2 a3 a4 a5 a6 a7 a8 a9 a10 a11 a12 a13 a14 a15 a16 S : Addr} (X : K.In h) (G : h.Ns mainGlobals mg) (t : Kls K a0 a1 a2 a3 a4 a5 a6 a7 a8 a9 a10 a11 a12 a13 a14 a15 a16 S) : Ek K mg (at17 [a0, a1, a2, a3, a4, a5, a6, a7, a8, a9, a10, a11, a12, a13, a14, a15, a16]) S := by
  have ks := t.ks
  unfold kindsB at ks
  rw [Bool.and_eq_true, Bool.and_eq_true, Bool.and_eq_true] at ks
  obtain ⟨k1, k2, k3, k4⟩ := ks
  refine ⟨fun i x hx => ?_, fun i hi => excB_ok (List.all_eq_true.mp k1 i (r17_mem hi)), fun i j hi hj => of_decide_eq_true (List.all_eq_true.mp (List.all_eq_true.mp k2 i (r17_mem hi)) j (r17_mem hj)), PySem.W.mg_of X G t.so, fun i hi => of_decide_eq_true (List.all_eq_true.mp k3 i (r17_mem hi)), PySem.W.mg_none_of X G t.ve, fun i hi => of_decide_eq_true (List.all_eq_true.mp k4 i (r17_mem hi))⟩
  have hi : i < 17 := (List.getElem?_eq_some_iff.mp hx).1
  match i, hi, hx with
  | 0, _, hx => cases hx; exact PySem.W.mg_of X G t.c0.a
  | 1, _, hx => cases hx; exact PySem.W.mg_of X G t.c1.a
  | 2, _, hx => cases hx; exact PySem.W.mg_of X G t.c2.a
  | 3, _, hx => cases hx; exact PySem.W.mg_of X G t.c3.a
  | 4, _, hx => cases hx; exact PySem.W.mg_of X G t.c4.a
  | 5, _, hx => cases hx; exact PySem.W.mg_of X G t.c5.a
  | 6, _, hx => cases hx; exact PySem.W.mg_of X G t.c6.a
  | 7, _, hx => cases hx; exact PySem.W.mg_of X G t.c7.a
  | 8, _, hx => cases hx; exact PySem.W.mg_of X G t.c8.a
  | 9, _, hx => cases hx; exact PySem.W.mg_of X G t.c9.a
  | 10, _, hx => cases hx; exact PySem.W.mg_of X G t.c10.a
  | 11, _, hx => cases hx; exact PySem.W.mg_of X G t.c11.a
  | 12, _, hx => cases hx; exact PySem.W.mg_of X G t.c12.a
  | 13, _, hx => cases hx; exact PySem.W.mg_of X G t.c13.a
  | 14, _, hx => cases hx; exact PySem.W.mg_of X G t.c14.a
  | 15, _, hx => cases hx; exact PySem.W.mg_of X G t.c15.a
  | 16, _, hx => cases hx; exact PySem.W.mg_of X G t.c16.a
theorem jk_mk {P : Program} {w : World} {K : PySem.W.Frag} {h base : Heap} {mg : Str → Option Value} {a0 a1 a2 a3 a4 a5 a6 a7 a8 a9 a10 a11 a12 a13 a14 a15 a16 S : Addr} [Nm] (X : K.In h) (G : h.Ns mainGlobals mg) (t : Kls K a0 a1 a2 a3 a4 a5 a6 a7 a8 a9 a10 a11 a12 a13 a14 a15 a16 S) : Jk P w K mg base (at17 [a0, a1, a2, a3, a4, a5, a6, a7, a8, a9, a10, a11, a12, a13, a14, a15, a16]) :=
  ⟨clsJ_mk X G t.c0 sc_c0 rfl (.inl rfl) (.inl rfl) (by decide) (by decide) (fun _ => rfl) (fun _ _ _ _ _ _ _ _ => rfl) (fun _ _ _ _ _ _ _ _ => rfl),
    clsJ_mk X G t.c1 sc_c1 rfl (.inl rfl) (.inl rfl) (by decide) (by decide) (fun _ => rfl) (fun _ _ _ _ _ _ _ _ => rfl) (fun _ _ _ _ _ _ _ _ => rfl),
    clsJ_mk X G t.c2 sc_c2 rfl (.inl rfl) (.inl rfl) (by decide) (by decide) (fun _ => rfl) (fun _ _ _ _ _ _ _ _ => rfl) (fun _ _ _ _ _ _ _ _ => rfl),
    clsJ_mk X G t.c3 sc_c3 rfl (.inl rfl) (.inl rfl) (by decide) (by decide) (fun _ => rfl) (fun _ _ _ _ _ _ _ _ => rfl) (fun _ _ _ _ _ _ _ _ => rfl),
    clsJ2_mk X G t.c4 t.w4 sc_c4 rfl (.inl rfl) (.inl rfl) (.inl rfl) (by decide) (by decide) (by decide) (by decide) (by decide) (fun _ => rfl) (fun _ => rfl) (fun _ _ _ _ _ _ _ _ _ => rfl) (fun _ _ _ _ _ _ _ _ _ => rfl),
    clsJ_mk X G t.c5 sc_c5 rfl (.inl rfl) (.inl rfl) (by decide) (by decide) (fun _ => rfl) (fun _ _ _ _ _ _ _ _ => rfl) (fun _ _ _ _ _ _ _ _ => rfl),
    clsJ_mk X G t.c6 sc_c6 rfl (.inl rfl) (.inl rfl) (by decide) (by decide) (fun _ => rfl) (fun _ _ _ _ _ _ _ _ => rfl) (fun _ _ _ _ _ _ _ _ => rfl),
    clsP_mk X G t.c7,
    clsJ_mk X G t.c8 sc_c8 rfl (.inl rfl) (.inl rfl) (by decide) (by decide) (fun _ => rfl) (fun _ _ _ _ _ _ _ _ => rfl) (fun _ _ _ _ _ _ _ _ => rfl),
    clsJ_mk X G t.c9 sc_c9 rfl (.inl rfl) (.inl rfl) (by decide) (by decide) (fun _ => rfl) (fun _ _ _ _ _ _ _ _ => rfl) (fun _ _ _ _ _ _ _ _ => rfl),
    clsJ_mk X G t.c10 sc_c10 rfl (.inl rfl) (.inl rfl) (by decide) (by decide) (fun _ => rfl) (fun _ _ _ _ _ _ _ _ => rfl) (fun _ _ _ _ _ _ _ _ => rfl),
    clsJ_mk X G t.c11 sc_c11 rfl (.inl rfl) (.inl rfl) (by decide) (by decide) (fun _ => rfl) (fun _ _ _ _ _ _ _ _ => rfl) (fun _ _ _ _ _ _ _ _ => rfl),
    clsP_mk X G t.c12,
    clsP_mk X G t.c13,
    clsP_mk X G t.c14,
    clsP_mk X G t.c15,
    clsJ_mk X G t.c16 sc_c16 rfl (.inl rfl) (.inl rfl) (by decide) (by decide) (fun _ => rfl) (fun _ _ _ _ _ _ _ _ => rfl) (fun _ _ _ _ _ _ _ _ => rfl)⟩
structure Tops (K : PySem.W.Frag) (a0 a1 a2 a3 a4 a5 a6 a7 a8 a9 a10 a11 a12 a13 a14 a15 a16 S c1 c2 c3 : Addr) : Prop where
  whole : Df K "is_whole" st_is_whole
  wrong : Df K "wrong_place" st_wrong_place
  sign : Df K "sign_of" st_sign_of
  cf : Df K "check_fraction" st_check_fraction
  low : Df K "lowest" st_lowest
  added : Df K "added" st_added
  minus : Df K "minus" st_minus
  times : Df K "times" st_times
  div : Df K "divided" st_divided
  half : Df K "halfway" st_halfway
  cmp : Df K "compared" st_compared
  lbegun : Df K "_law_begun" st__law_begun
  ldraw : Df K "_law_draw" st__law_draw
  llike : Df K "_law_like" st__law_like
  lsign : Df K "_law_sign" st__law_sign
  lcommon : Df K "_law_common" st__law_common
  llow : Df K "_law_lowered" st__law_lowered
  lfrac : Df K "_law_fraction" st__law_fraction
  lint : Df K "_law_integer" st__law_integer
  lheard : Df K "_law_heard" st__law_heard
  lpair : Df K "_law_pair" st__law_pair
  lkinds : Df K "_law_kinds" st__law_kinds
  lerrs : Df K "_law_errors_right" st__law_errors_right
  law : Df K "law" st_law
  two : DfC K "_law_two_right" st__law_two_right c1
  lowr : DfC K "_law_lowest_right" st__law_lowest_right c2
  hand : DfC K "_law_hand_right" st__law_hand_right c3
  kls : Kls K a0 a1 a2 a3 a4 a5 a6 a7 a8 a9 a10 a11 a12 a13 a14 a15 a16 S
  zisi : PySem.W.nsIn K mainGlobals "isinstance" = some none
  zint : PySem.W.nsIn K mainGlobals "int" = some none
  zbool : PySem.W.nsIn K mainGlobals "bool" = some none
  ztuple : PySem.W.nsIn K mainGlobals "tuple" = some none
  zlen : PySem.W.nsIn K mainGlobals "len" = some none
  zenum : PySem.W.nsIn K mainGlobals "enumerate" = some none
  zsum : PySem.W.nsIn K mainGlobals "sum" = some none
  zlist : PySem.W.nsIn K mainGlobals "list" = some none
  zzip : PySem.W.nsIn K mainGlobals "zip" = some none
  zrange : PySem.W.nsIn K mainGlobals "range" = some none
  zabs : PySem.W.nsIn K mainGlobals "abs" = some none
  zrepr : PySem.W.nsIn K mainGlobals "repr" = some none
  zmax : PySem.W.nsIn K mainGlobals "max" = some none
  zmin : PySem.W.nsIn K mainGlobals "min" = some none
  zgcd : PySem.W.nsIn K mainGlobals "gcd" = some (some (.builtin "math.gcd"))
theorem all_ok {P : Program} {w : World} {K : PySem.W.Frag} {h base : Heap} {mg : Str → Option Value} {f a0 a1 a2 a3 a4 a5 a6 a7 a8 a9 a10 a11 a12 a13 a14 a15 a16 S c1 c2 c3 P1 P2 P3 : Addr} {fd : FuncData} [Nm] (X : K.In h) (G : h.Ns mainGlobals mg) (t : Tops K a0 a1 a2 a3 a4 a5 a6 a7 a8 a9 a10 a11 a12 a13 a14 a15 a16 S c1 c2 c3) (F : Fun K "law" "law" st_law f fd)
    (tb1 : LamX.TabB base mg c1 P1) (tb2 : LamX.TabB base mg c2 P2) (tb3 : LamX.TabB base mg c3 P3) (i1 : P1 ∈ Nm.tabs) (i2 : P2 ∈ Nm.tabs) (i3 : P3 ∈ Nm.tabs) (n1 : Nm.nm P1 = lq "_law_two_right") (n2 : Nm.nm P2 = lq "_law_lowest_right") (n3 : Nm.nm P3 = lq "_law_hand_right") : FnG P w K mg base CX0 8 f fd ["script"] (spR K R_law) := by
  have no : ∀ {x : Str}, PySem.W.nsIn K mainGlobals x = some none → mg x = none := fun {x} e => PySem.W.mg_none_of X G e
  have T : Tx mg := ⟨no t.zisi, no t.zint, no t.zbool, no t.ztuple, no t.zlen, no t.zenum, no t.zsum, no t.zlist, no t.zzip, no t.zrange, no t.zabs, no t.zrepr, no t.zmax, no t.zmin, PySem.W.mg_of X G t.zgcd⟩
  have ek := ek_mk X G t.kls
  have J : Jk P w K mg base _ := jk_mk X G t.kls
  have i_num : ClsI P w K mg base 1 "NotNumber" ["value"] := clsI_mk X G t.kls.c0 sc_c0 rfl (.inl rfl) (.inl rfl) (by decide) (by decide) (fun _ => rfl) fun _ _ _ _ _ _ _ _ => rfl
  have c_whole : Cal P w K mg base 1 "is_whole" ["value"] (spR K R_whole) := cal_mk X G t.whole (tk1 fun _ _ _ _ _ _ _ => rfl) fun f fd F => ok_whole F T
  have c_wrong : Cal P w K mg base 2 "wrong_place" ["value", "many"] (spR K R_wrong) := cal_mk X G t.wrong (tk2 fun _ _ _ _ _ _ _ _ => rfl) fun f fd F => ok_wrong F T c_whole
  have c_sign : Cal P w K mg base 1 "sign_of" ["number"] (spR K R_sign) := cal_mk X G t.sign (tk1 fun _ _ _ _ _ _ _ => rfl) fun f fd F => ok_sign F
  have x_cf : CalX P w K mg base 3 "check_fraction" ["value"] (spX K mg R_cf) := calX_mk X G t.cf (tk1 fun _ _ _ _ _ _ _ => rfl) fun f fd F => ok_cf F T i_num c_wrong
  have kx_cf : CalXK P w K mg base 3 "check_fraction" st_check_fraction ["value"] (spX K mg R_cf) := calXK_mk X G t.cf fun f fd F => ok_cf F T i_num c_wrong
  have x_low : CalX P w K mg base 3 "lowest" ["top", "bottom"] (spX K mg R_low) := calX_mk X G t.low (tk2 fun _ _ _ _ _ _ _ _ => rfl) fun f fd F => ok_low F T i_num
  have kx_low : CalXK P w K mg base 3 "lowest" st_lowest ["top", "bottom"] (spX K mg R_low) := calXK_mk X G t.low fun f fd F => ok_low F T i_num
  have c_added : Cal P w K mg base 4 "added" ["one", "other"] (spR K (R_bin fun p q => tI (addL p q))) := cal_mk X G t.added (tk2 fun _ _ _ _ _ _ _ _ => rfl) fun f fd F => ok_added F x_low
  have k_added : CalK P w K mg base 4 "added" st_added ["one", "other"] (spR K (R_bin fun p q => tI (addL p q))) := calK_mk X G t.added fun f fd F => ok_added F x_low
  have c_minus : Cal P w K mg base 4 "minus" ["one", "other"] (spR K (R_bin fun p q => tI (subL p q))) := cal_mk X G t.minus (tk2 fun _ _ _ _ _ _ _ _ => rfl) fun f fd F => ok_minus F x_low
  have k_minus : CalK P w K mg base 4 "minus" st_minus ["one", "other"] (spR K (R_bin fun p q => tI (subL p q))) := calK_mk X G t.minus fun f fd F => ok_minus F x_low
  have c_times : Cal P w K mg base 4 "times" ["one", "other"] (spR K (R_bin fun p q => tI (mulL p q))) := cal_mk X G t.times (tk2 fun _ _ _ _ _ _ _ _ => rfl) fun f fd F => ok_times F x_low
  have k_times : CalK P w K mg base 4 "times" st_times ["one", "other"] (spR K (R_bin fun p q => tI (mulL p q))) := calK_mk X G t.times fun f fd F => ok_times F x_low
  have x_div : CalX P w K mg base 4 "divided" ["one", "other"] (spX K mg R_div) := calX_mk X G t.div (tk2 fun _ _ _ _ _ _ _ _ => rfl) fun f fd F => ok_divided F i_num x_low
  have kx_div : CalXK P w K mg base 4 "divided" st_divided ["one", "other"] (spX K mg R_div) := calXK_mk X G t.div fun f fd F => ok_divided F i_num x_low
  have c_half : Cal P w K mg base 4 "halfway" ["one", "other"] (spR K (R_bin fun p q => tI (halfL p q))) := cal_mk X G t.half (tk2 fun _ _ _ _ _ _ _ _ => rfl) fun f fd F => ok_halfway F x_low
  have k_half : CalK P w K mg base 4 "halfway" st_halfway ["one", "other"] (spR K (R_bin fun p q => tI (halfL p q))) := calK_mk X G t.half fun f fd F => ok_halfway F x_low
  have c_cmp : Cal P w K mg base 2 "compared" ["one", "other"] (spR K R_cmp) := cal_mk X G t.cmp (tk2 fun _ _ _ _ _ _ _ _ => rfl) fun f fd F => ok_compared F c_sign
  have k_cmp : CalK P w K mg base 2 "compared" st_compared ["one", "other"] (spR K R_cmp) := calK_mk X G t.cmp fun f fd F => ok_compared F c_sign
  have l_begun : CalG P w K mg base 1 "_law_begun" ["script", "k"] (spB K) := calG_mk X G t.lbegun (tk2 fun _ _ _ _ _ _ _ _ => rfl) fun f fd F => ok_begun F T
  have l_draw : CalG P w K mg base 1 "_law_draw" ["m", "bound"] (spM K 1 R_draw) := calG_mk X G t.ldraw (tk2 fun _ _ _ _ _ _ _ _ => rfl) fun f fd F => ok_draw F T
  have l_like : CalG P w K mg base 1 "_law_like" ["told", "due"] (spR K R_like) := calG_mk X G t.llike (tk2 fun _ _ _ _ _ _ _ _ => rfl) fun f fd F => ok_like F T
  have l_sign : Cal P w K mg base 1 "_law_sign" ["number"] (spR K R_sign) := cal_mk X G t.lsign (tk1 fun _ _ _ _ _ _ _ => rfl) fun f fd F => ok_lsign F T
  have l_common : Cal P w K mg base 1 "_law_common" ["numbers"] (spR K R_cd) := cal_mk X G t.lcommon (tk1 fun _ _ _ _ _ _ _ => rfl) fun f fd F => ok_common F T
  have l_low : Cal P w K mg base 2 "_law_lowered" ["numbers"] (spR K R_short) := cal_mk X G t.llow (tk1 fun _ _ _ _ _ _ _ => rfl) fun f fd F => ok_lowered F T l_common
  have l_frac : Cal P w K mg base 3 "_law_fraction" ["top_so", "bottom_so"] (spR K R_fraction) := cal_mk X G t.lfrac (tk2 fun _ _ _ _ _ _ _ _ => rfl) fun f fd F => ok_fraction F l_low
  have l_int : CalG P w K mg base 2 "_law_integer" ["m"] (spM K 22 R_int) := calG_mk X G t.lint (tk1 fun _ _ _ _ _ _ _ => rfl) fun f fd F => ok_int F T l_draw
  have l_pair : CalG P w K mg base 4 "_law_pair" ["m"] (spM K 44 R_pair) := calG_mk X G t.lpair (tk1 fun _ _ _ _ _ _ _ => rfl) fun f fd F => ok_pair F l_int l_frac
  have l_kinds : CalG P w K mg base 1 "_law_kinds" ["error"] (spV K (R_kinds K _)) := calG_mk X G t.lkinds (tk1 fun _ _ _ _ _ _ _ => rfl) fun f fd F => ok_kinds F T ek
  have hr : Hr K mg := by
    obtain ⟨g, fdg, a, Fg⟩ := t.lheard.ex
    exact ⟨⟨g, fdg, Fg, PySem.W.mg_of X G a, Fg.binds (tk1 fun _ _ _ _ _ _ _ => rfl)⟩, xcF_mk X G t.kls.c0, exm_mk X G t.kls.c0.a t.kls.c0 t.kls.s00⟩
  have l_errs : CalG P w K mg base 3 "_law_errors_right" [] (spR K R_hand) := calG_mk X G t.lerrs (tk0 fun _ _ _ _ _ _ => rfl) fun f fd F => ok_errs F ek J l_like l_kinds
  have l_two : CalG P w K mg base 7 "_law_two_right" ["one_so", "other_so"] (spR K R_two) := calGC_mk X G t.two (tk2 fun _ _ _ _ _ _ _ _ => rfl) fun f fd F e => ok_two F ⟨c1, P1, e, tb1, i1, n1⟩ hr l_like l_frac l_sign c_added c_minus c_times c_half x_div c_cmp
  have l_lowr : CalG P w K mg base 6 "_law_lowest_right" ["m"] (spM K 89 R_lr) := calGC_mk X G t.lowr (tk1 fun _ _ _ _ _ _ _ => rfl) fun f fd F e => ok_lr F T ⟨c2, P2, e, tb2, i2, n2⟩ hr l_like l_frac l_draw l_int l_pair x_low x_cf
  have l_hand : CalG P w K mg base 6 "_law_hand_right" [] (spR K R_hand) := calGC_mk X G t.hand (tk0 fun _ _ _ _ _ _ => rfl) fun f fd F e => ok_hand F ⟨c3, P3, e, tb3, i3, n3⟩ hr l_like x_low x_cf kx_low k_added k_minus kx_cf k_times kx_div k_half k_cmp
  exact ok_law F T l_hand l_errs l_begun l_lowr l_pair l_two
def pOf (vs : Array Value) : Addr := match (vs[11]? : Option Value) with
  | some (Value.ref Q) => Q
  | _ => 0
theorem fin {P : Program} {w : World} {K : PySem.W.Frag} {h : Heap} {mg : Str → Option Value} {fa a0 a1 a2 a3 a4 a5 a6 a7 a8 a9 a10 a11 a12 a13 a14 a15 a16 S c1 c2 c3 P1 P2 P3 : Addr} (X : K.In h) (G : h.Ns mainGlobals mg) (hfa : mg "law" = some (.ref fa)) (t : Tops K a0 a1 a2 a3 a4 a5 a6 a7 a8 a9 a10 a11 a12 a13 a14 a15 a16 S c1 c2 c3) (ne : P1 ≠ P2 ∧ P1 ≠ P3 ∧ P2 ≠ P3)
    (e1 : h.get? P1 = some { cls := .none, data := .fields #[] }) (e2 : h.get? P2 = some { cls := .none, data := .fields #[] }) (e3 : h.get? P3 = some { cls := .none, data := .fields #[] }) (z1 : PySem.W.codeHdIn K c1 P1 = true) (z2 : PySem.W.codeHdIn K c2 P2 = true) (z3 : PySem.W.codeHdIn K c3 P3 = true) (n1 : K.lookup P1 = none) (n2 : K.lookup P2 = none) (n3 : K.lookup P3 = none) :
    ∃ (fd : FuncData) (cs : List (Addr × Addr)) (sp : Sp), LawG P w K 8 63 "script" mg fa h fd cs sp := by
  obtain ⟨f, fd, a, F⟩ := t.law.ex
  have e := hfa.symm.trans (PySem.W.mg_of X G a)
  cases e
  let I : Nm := ⟨fun Q => if Q = P1 then lq "_law_two_right" else if Q = P2 then lq "_law_lowest_right" else lq "_law_hand_right", [P1, P2, P3]⟩
  have two : ∀ {R : Addr × Addr → Prop}, R (c1, P1) → R (c2, P2) → R (c3, P3) → ∀ p ∈ [(c1, P1), (c2, P2), (c3, P3)], R p := fun {R} h1 h2 h3 p hp => by
    simp only [List.mem_cons, List.not_mem_nil, or_false] at hp
    rcases hp with rfl | rfl | rfl
    · exact h1
    · exact h2
    · exact h3
  refine ⟨fd, [(c1, P1), (c2, P2), (c3, P3)], spR K R_law, ⟨two e1 e2 e3, two n1 n2 n3, two (PySem.W.codeHd_of_K X z1) (PySem.W.codeHd_of_K X z2) (PySem.W.codeHd_of_K X z3), fun s u => ?_, fun H q ns hl hb hH hS => ?_, fun base _ _ htb => ?_⟩⟩
  · obtain ⟨oc, od, kV, doc, pm, an, cdv, ct, osl, rfl, _⟩ := F.ex
    exact .of_eq rfl
  · refine ⟨fun _ => False, [lI ns], .bool true, .nothing fun Q hQ => ?_, ?_, ⟨ns, rfl, hl, fun z hz => ?_, rfl⟩, fun v H' _ p => dp_bool p⟩
    · have hQ : Q ∈ [P1, P2, P3] := hQ
      simp only [List.mem_cons, List.not_mem_nil, or_false] at hQ
      rcases hQ with rfl | rfl | rfl
      · exact tab_empty (hH _ List.mem_cons_self)
      · exact tab_empty (hH _ (List.mem_cons_of_mem _ List.mem_cons_self))
      · exact tab_empty (hH _ (List.mem_cons_of_mem _ (List.mem_cons_of_mem _ List.mem_cons_self)))
    · rw [off_nothing]
      exact .cons (.lst hS (dps_ints ns)) .nil
    · exact Nat.lt_of_lt_of_le (natAbs_lt_pow_bits z) (Nat.pow_le_pow_right (by decide) (Nat.le_trans (hb z hz) (by decide)))
  · refine all_ok X G t F (htb _ List.mem_cons_self) (htb _ (List.mem_cons_of_mem _ List.mem_cons_self)) (htb _ (List.mem_cons_of_mem _ (List.mem_cons_of_mem _ List.mem_cons_self))) List.mem_cons_self (List.mem_cons_of_mem _ List.mem_cons_self) (List.mem_cons_of_mem _ (List.mem_cons_of_mem _ List.mem_cons_self)) (if_pos rfl) ?_ ?_
    · show (if P2 = P1 then _ else if P2 = P2 then _ else _) = _
      rw [if_neg (Ne.symm ne.1), if_pos rfl]
    · show (if P3 = P1 then _ else if P3 = P2 then _ else _) = _
      rw [if_neg (Ne.symm ne.2.1), if_neg (Ne.symm ne.2.2)]
theorem fin2 {P : Program} {w : World} {K : PySem.W.Frag} {h : Heap} {mg : Str → Option Value} {fa a0 a1 a2 a3 a4 a5 a6 a7 a8 a9 a10 a11 a12 a13 a14 a15 a16 S c1 c2 c3 : Addr} {oc1 oc2 oc3 : Value} {od1 od2 od3 : Option Addr} {v1 v2 v3 : Array Value} {sl1 sl2 sl3 : Array (Option Value)} (X : K.In h) (G : h.Ns mainGlobals mg) (hfa : mg "law" = some (.ref fa)) (t : Tops K a0 a1 a2 a3 a4 a5 a6 a7 a8 a9 a10 a11 a12 a13 a14 a15 a16 S c1 c2 c3)
    (l1 : K.lookup c1 = some ⟨oc1, od1, .fields v1, sl1⟩) (l2 : K.lookup c2 = some ⟨oc2, od2, .fields v2, sl2⟩) (l3 : K.lookup c3 = some ⟨oc3, od3, .fields v3, sl3⟩) (ne : pOf v1 ≠ pOf v2 ∧ pOf v1 ≠ pOf v3 ∧ pOf v2 ≠ pOf v3)
    (e1 : h.get? (pOf v1) = some { cls := .none, data := .fields #[] }) (e2 : h.get? (pOf v2) = some { cls := .none, data := .fields #[] }) (e3 : h.get? (pOf v3) = some { cls := .none, data := .fields #[] }) (z1 : PySem.W.codeHdIn K c1 (pOf v1) = true) (z2 : PySem.W.codeHdIn K c2 (pOf v2) = true) (z3 : PySem.W.codeHdIn K c3 (pOf v3) = true) (n1 : K.lookup (pOf v1) = none) (n2 : K.lookup (pOf v2) = none) (n3 : K.lookup (pOf v3) = none) :
    ∃ (fd : FuncData) (cs : List (Addr × Addr)) (sp : Sp), LawG P w K 8 63 "script" mg fa h fd cs sp := fin X G hfa t ne e1 e2 e3 z1 z2 z3 n1 n2 n3
end K0
open PySem PySem.W PyProof.Rows
set_option maxRecDepth 100000 in
set_option maxHeartbeats 0 in
theorem PySem.Challenge.cw_onesolid_k00_fractions_and_errors_holds : PySem.Challenge.rw_onesolid_k00_fractions_and_errors.Holds := by
  w_on; o_law; k_head; (case hw => w_witness2)
  k_fill
  refine Zj.walk_GT (l := PySem.Challenge.rw_onesolid_k00_fractions_and_errors) (n := 63) (k := 8) (x := "script") rfl (by decide) rfl ⟨rfl, by decide, by decide⟩ (fun w h Y => PySem.W.km_in_of Y) ?F
  case F =>
    intro w mg fa h Y KX G hmg
    have hT8 := PySem.W.km_tabs_of Y
    letI : Zj.Nm := ⟨fun _ => PySem.Str.ofString "", []⟩
    refine' K0.fin2 KX G hmg ?t ?l1 ?l2 ?l3 ?ne ?e1 ?e2 ?e3 ?z1 ?z2 ?z3 ?n1 ?n2 ?n3
    case t =>
      refine' K0.Tops.mk ?whole ?wrong ?sign ?cf ?low ?added ?minus ?times ?div ?half ?cmp ?lbegun ?ldraw ?llike ?lsign ?lcommon ?llow ?lfrac ?lint ?lheard ?lpair ?lkinds ?lerrs ?law ?two ?lowr ?hand ?kls ?zisi ?zint ?zbool ?ztuple ?zlen ?zenum ?zsum ?zlist ?zzip ?zrange ?zabs ?zrepr ?zmax ?zmin ?zgcd
      (case whole => (refine' Zj.df_mk ?a ?l ?c ?k; (case a => k_is); (case l => k_is); (case c => k_is); (case k => k_is)))
      (case wrong => (refine' Zj.df_mk ?a ?l ?c ?k; (case a => k_is); (case l => k_is); (case c => k_is); (case k => k_is)))
      (case sign => (refine' Zj.df_mk ?a ?l ?c ?k; (case a => k_is); (case l => k_is); (case c => k_is); (case k => k_is)))
      (case cf => (refine' Zj.df_mk ?a ?l ?c ?k; (case a => k_is); (case l => k_is); (case c => k_is); (case k => k_is)))
      (case low => (refine' Zj.df_mk ?a ?l ?c ?k; (case a => k_is); (case l => k_is); (case c => k_is); (case k => k_is)))
      (case added => (refine' Zj.df_mk ?a ?l ?c ?k; (case a => k_is); (case l => k_is); (case c => k_is); (case k => k_is)))
      (case minus => (refine' Zj.df_mk ?a ?l ?c ?k; (case a => k_is); (case l => k_is); (case c => k_is); (case k => k_is)))
      (case times => (refine' Zj.df_mk ?a ?l ?c ?k; (case a => k_is); (case l => k_is); (case c => k_is); (case k => k_is)))
      (case div => (refine' Zj.df_mk ?a ?l ?c ?k; (case a => k_is); (case l => k_is); (case c => k_is); (case k => k_is)))
      (case half => (refine' Zj.df_mk ?a ?l ?c ?k; (case a => k_is); (case l => k_is); (case c => k_is); (case k => k_is)))
      (case cmp => (refine' Zj.df_mk ?a ?l ?c ?k; (case a => k_is); (case l => k_is); (case c => k_is); (case k => k_is)))
      (case lbegun => (refine' Zj.df_mk ?a ?l ?c ?k; (case a => k_is); (case l => k_is); (case c => k_is); (case k => k_is)))
      (case ldraw => (refine' Zj.df_mk ?a ?l ?c ?k; (case a => k_is); (case l => k_is); (case c => k_is); (case k => k_is)))
      (case llike => (refine' Zj.df_mk ?a ?l ?c ?k; (case a => k_is); (case l => k_is); (case c => k_is); (case k => k_is)))
      (case lsign => (refine' Zj.df_mk ?a ?l ?c ?k; (case a => k_is); (case l => k_is); (case c => k_is); (case k => k_is)))
      (case lcommon => (refine' Zj.df_mk ?a ?l ?c ?k; (case a => k_is); (case l => k_is); (case c => k_is); (case k => k_is)))
      (case llow => (refine' Zj.df_mk ?a ?l ?c ?k; (case a => k_is); (case l => k_is); (case c => k_is); (case k => k_is)))
      (case lfrac => (refine' Zj.df_mk ?a ?l ?c ?k; (case a => k_is); (case l => k_is); (case c => k_is); (case k => k_is)))
      (case lint => (refine' Zj.df_mk ?a ?l ?c ?k; (case a => k_is); (case l => k_is); (case c => k_is); (case k => k_is)))
      (case lheard => (refine' Zj.df_mk ?a ?l ?c ?k; (case a => k_is); (case l => k_is); (case c => k_is); (case k => k_is)))
      (case lpair => (refine' Zj.df_mk ?a ?l ?c ?k; (case a => k_is); (case l => k_is); (case c => k_is); (case k => k_is)))
      (case lkinds => (refine' Zj.df_mk ?a ?l ?c ?k; (case a => k_is); (case l => k_is); (case c => k_is); (case k => k_is)))
      (case lerrs => (refine' Zj.df_mk ?a ?l ?c ?k; (case a => k_is); (case l => k_is); (case c => k_is); (case k => k_is)))
      (case law => (refine' Zj.df_mk ?a ?l ?c ?k; (case a => k_is); (case l => k_is); (case c => k_is); (case k => k_is)))
      (case two => (refine' Zj.dfC_mk ?a ?l ?c ?k; (case a => k_is); (case l => k_is); (case c => k_is); (case k => k_is)))
      (case lowr => (refine' Zj.dfC_mk ?a ?l ?c ?k; (case a => k_is); (case l => k_is); (case c => k_is); (case k => k_is)))
      (case hand => (refine' Zj.dfC_mk ?a ?l ?c ?k; (case a => k_is); (case l => k_is); (case c => k_is); (case k => k_is)))
      (case kls =>
        refine' K0.Kls.mk ?c0 ?c1 ?c2 ?c3 ?c4 ?w4 ?c5 ?c6 ?c7 ?c8 ?c9 ?c10 ?c11 ?c12 ?c13 ?c14 ?c15 ?c16 ?so ?ve ?s00 ?ks
        (case c0 => (refine' Zj.cd1_mk ?a ?l ?bm ?sa ?eC ?tC ?kC ?i ?ti ?li ?ci ?ki ?nf ?ga ?gg ?hd; (case a => k_is); (case l => k_is); (case bm => decide +kernel); (case sa => k_is); (case eC => k_is); (case tC => k_is); (case kC => k_is); (case i => k_is); (case ti => k_is); (case li => k_is); (case ci => k_is); (case ki => k_is); (case nf => k_is); (case ga => k_is); (case gg => k_is); (case hd => k_is)))
        (case c1 => (refine' Zj.cd1_mk ?a ?l ?bm ?sa ?eC ?tC ?kC ?i ?ti ?li ?ci ?ki ?nf ?ga ?gg ?hd; (case a => k_is); (case l => k_is); (case bm => decide +kernel); (case sa => k_is); (case eC => k_is); (case tC => k_is); (case kC => k_is); (case i => k_is); (case ti => k_is); (case li => k_is); (case ci => k_is); (case ki => k_is); (case nf => k_is); (case ga => k_is); (case gg => k_is); (case hd => k_is)))
        (case c2 => (refine' Zj.cd1_mk ?a ?l ?bm ?sa ?eC ?tC ?kC ?i ?ti ?li ?ci ?ki ?nf ?ga ?gg ?hd; (case a => k_is); (case l => k_is); (case bm => decide +kernel); (case sa => k_is); (case eC => k_is); (case tC => k_is); (case kC => k_is); (case i => k_is); (case ti => k_is); (case li => k_is); (case ci => k_is); (case ki => k_is); (case nf => k_is); (case ga => k_is); (case gg => k_is); (case hd => k_is)))
        (case c3 => (refine' Zj.cd1_mk ?a ?l ?bm ?sa ?eC ?tC ?kC ?i ?ti ?li ?ci ?ki ?nf ?ga ?gg ?hd; (case a => k_is); (case l => k_is); (case bm => decide +kernel); (case sa => k_is); (case eC => k_is); (case tC => k_is); (case kC => k_is); (case i => k_is); (case ti => k_is); (case li => k_is); (case ci => k_is); (case ki => k_is); (case nf => k_is); (case ga => k_is); (case gg => k_is); (case hd => k_is)))
        (case c4 => (refine' Zj.cd1_mk ?a ?l ?bm ?sa ?eC ?tC ?kC ?i ?ti ?li ?ci ?ki ?nf ?ga ?gg ?hd; (case a => k_is); (case l => k_is); (case bm => decide +kernel); (case sa => k_is); (case eC => k_is); (case tC => k_is); (case kC => k_is); (case i => k_is); (case ti => k_is); (case li => k_is); (case ci => k_is); (case ki => k_is); (case nf => k_is); (case ga => k_is); (case gg => k_is); (case hd => k_is)))
        (case w4 => k_is)
        (case c5 => (refine' Zj.cd1_mk ?a ?l ?bm ?sa ?eC ?tC ?kC ?i ?ti ?li ?ci ?ki ?nf ?ga ?gg ?hd; (case a => k_is); (case l => k_is); (case bm => decide +kernel); (case sa => k_is); (case eC => k_is); (case tC => k_is); (case kC => k_is); (case i => k_is); (case ti => k_is); (case li => k_is); (case ci => k_is); (case ki => k_is); (case nf => k_is); (case ga => k_is); (case gg => k_is); (case hd => k_is)))
        (case c6 => (refine' Zj.cd1_mk ?a ?l ?bm ?sa ?eC ?tC ?kC ?i ?ti ?li ?ci ?ki ?nf ?ga ?gg ?hd; (case a => k_is); (case l => k_is); (case bm => decide +kernel); (case sa => k_is); (case eC => k_is); (case tC => k_is); (case kC => k_is); (case i => k_is); (case ti => k_is); (case li => k_is); (case ci => k_is); (case ki => k_is); (case nf => k_is); (case ga => k_is); (case gg => k_is); (case hd => k_is)))
        (case c7 => (refine' Zj.Cd0.mk ?a ?e ?k ?s ?t ?hd; (case a => k_is); (case e => kernel_rfl); (case k => k_is); (case s => k_is); (case t => k_is); (case hd => k_is)))
        (case c8 => (refine' Zj.cd1_mk ?a ?l ?bm ?sa ?eC ?tC ?kC ?i ?ti ?li ?ci ?ki ?nf ?ga ?gg ?hd; (case a => k_is); (case l => k_is); (case bm => decide +kernel); (case sa => k_is); (case eC => k_is); (case tC => k_is); (case kC => k_is); (case i => k_is); (case ti => k_is); (case li => k_is); (case ci => k_is); (case ki => k_is); (case nf => k_is); (case ga => k_is); (case gg => k_is); (case hd => k_is)))
        (case c9 => (refine' Zj.cd1_mk ?a ?l ?bm ?sa ?eC ?tC ?kC ?i ?ti ?li ?ci ?ki ?nf ?ga ?gg ?hd; (case a => k_is); (case l => k_is); (case bm => decide +kernel); (case sa => k_is); (case eC => k_is); (case tC => k_is); (case kC => k_is); (case i => k_is); (case ti => k_is); (case li => k_is); (case ci => k_is); (case ki => k_is); (case nf => k_is); (case ga => k_is); (case gg => k_is); (case hd => k_is)))
        (case c10 => (refine' Zj.cd1_mk ?a ?l ?bm ?sa ?eC ?tC ?kC ?i ?ti ?li ?ci ?ki ?nf ?ga ?gg ?hd; (case a => k_is); (case l => k_is); (case bm => decide +kernel); (case sa => k_is); (case eC => k_is); (case tC => k_is); (case kC => k_is); (case i => k_is); (case ti => k_is); (case li => k_is); (case ci => k_is); (case ki => k_is); (case nf => k_is); (case ga => k_is); (case gg => k_is); (case hd => k_is)))
        (case c11 => (refine' Zj.cd1_mk ?a ?l ?bm ?sa ?eC ?tC ?kC ?i ?ti ?li ?ci ?ki ?nf ?ga ?gg ?hd; (case a => k_is); (case l => k_is); (case bm => decide +kernel); (case sa => k_is); (case eC => k_is); (case tC => k_is); (case kC => k_is); (case i => k_is); (case ti => k_is); (case li => k_is); (case ci => k_is); (case ki => k_is); (case nf => k_is); (case ga => k_is); (case gg => k_is); (case hd => k_is)))
        (case c12 => (refine' Zj.Cd0.mk ?a ?e ?k ?s ?t ?hd; (case a => k_is); (case e => kernel_rfl); (case k => k_is); (case s => k_is); (case t => k_is); (case hd => k_is)))
        (case c13 => (refine' Zj.Cd0.mk ?a ?e ?k ?s ?t ?hd; (case a => k_is); (case e => kernel_rfl); (case k => k_is); (case s => k_is); (case t => k_is); (case hd => k_is)))
        (case c14 => (refine' Zj.Cd0.mk ?a ?e ?k ?s ?t ?hd; (case a => k_is); (case e => kernel_rfl); (case k => k_is); (case s => k_is); (case t => k_is); (case hd => k_is)))
        (case c15 => (refine' Zj.Cd0.mk ?a ?e ?k ?s ?t ?hd; (case a => k_is); (case e => kernel_rfl); (case k => k_is); (case s => k_is); (case t => k_is); (case hd => k_is)))
        (case c16 => (refine' Zj.cd1_mk ?a ?l ?bm ?sa ?eC ?tC ?kC ?i ?ti ?li ?ci ?ki ?nf ?ga ?gg ?hd; (case a => k_is); (case l => k_is); (case bm => decide +kernel); (case sa => k_is); (case eC => k_is); (case tC => k_is); (case kC => k_is); (case i => k_is); (case ti => k_is); (case li => k_is); (case ci => k_is); (case ki => k_is); (case nf => k_is); (case ga => k_is); (case gg => k_is); (case hd => k_is)))
        (case so => k_is)
        (case ve => k_is)
        (case s00 => k_is)
        (case ks => kernel_rfl))
      (case zisi => k_is)
      (case zint => k_is)
      (case zbool => k_is)
      (case ztuple => k_is)
      (case zlen => k_is)
      (case zenum => k_is)
      (case zsum => k_is)
      (case zlist => k_is)
      (case zzip => k_is)
      (case zrange => k_is)
      (case zabs => k_is)
      (case zrepr => k_is)
      (case zmax => k_is)
      (case zmin => k_is)
      (case zgcd => k_is)
    (case l1 => k_is)
    (case l2 => k_is)
    (case l3 => k_is)
    (case z1 => kernel_rfl)
    (case z2 => kernel_rfl)
    (case z3 => kernel_rfl)
    (case n1 => kernel_rfl)
    (case n2 => kernel_rfl)
    (case n3 => kernel_rfl)
    (case ne => decide +kernel)
    (case e1 => exact hT8 _ (by decide +kernel))
    (case e2 => exact hT8 _ (by decide +kernel))
    (case e3 => exact hT8 _ (by decide +kernel))
#print axioms PySem.Challenge.cw_onesolid_k00_fractions_and_errors_holds
