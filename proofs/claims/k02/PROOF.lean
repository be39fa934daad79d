import PyProof.Rows.All
import Wide.All
import OpenK.AllK
import Wide.FinOn
import PyProof.EqAt
import PyProof.EqKinds
import PyProof.TupleCall
import HandS.Base
import HandS.Call
import HandS.List
import HandS.Comp
import HandS.Ends
import HandS.Lambda
import HandS.Words
import HandS.Dict
import HandS.Iter
import HandS.Walk
import HandS.Gcd
import HandS.EndBits
import HandS.Zip
import HandS.Wide
import PyProof.ReprRoads
import PyProof.ReprLen
import KE.GoesMore
import HandS.IsInst
import KE.KDflt
import HandS.TryMany
import HandS.ExcInit
import HandS.ExcField
import HandS.EndTab
import HandS.ExcOwn
import HandS.WordsExc
import PyProof.Rows.IntBool
import HandS.TupAny
import HandS.ExcIs
import KE.KNestM
import KE.KMathGC
import HandS.TupMul
import PyProof.ExcBaseAll.ValueError
import PySem.Challenge.RW_onesolid_k02_whole_points_moved
set_option Elab.async false
set_option linter.all false
set_option maxRecDepth 100000
set_option maxHeartbeats 4000000
/-! Own words over the hand layer: what a piece of program text comes to, said of data. -/
namespace Zj
open PySem PySem.Spec PyProof.Rows L2
/-- the tables of code objects that the law's lambdas fill; the name that each one's code objects bear -/
class Nm where
  nm : Addr → Str
  tabs : List Addr
section
variable {X : Cx} {e : Expr} {es : List Expr} {st : Stmt} {sts : List Stmt} {σ : L2.St} {H : Hp}
/-- the weakest thing that must hold ahead -/
def JE (X : Cx) (e : Expr) : TE := fun σ H Q => ∀ pins s, Inv X pins σ H s → wpAny (model X.prog X.w) X.A (eval e X.env) (EP X pins σ Q) X.xe s
def JT (X : Cx) (e : Expr) : TT := fun σ H Q => ∀ pins s, Inv X pins σ H s → wpAny (model X.prog X.w) X.A (isTrue e X.env (eval e X.env)) (TP X pins σ Q) X.xe s
def JA (X : Cx) (es : List Expr) : TA := fun σ H Q => ∀ pos pins s, Inv X pins σ H s → wpAny (model X.prog X.w) X.A (spliced (backTo pos (starEach es X.env))) (AP X pins σ Q) X.xe s
def JS (X : Cx) (st : Stmt) : TS := fun D σ H => ∀ pins s, Inv X pins σ H s → wpAny (model X.prog X.w) X.A (exec st X.env) (SP X pins D) X.xe s
def JSs (X : Cx) (sts : List Stmt) : TS := fun D σ H => ∀ pins s, Inv X pins σ H s → wpAny (model X.prog X.w) X.A (execs sts X.env) (SP X pins D) X.xe s
theorem je : PE X e (JE X e) := ⟨fun pins s _ _ _ I h => h pins s I⟩
theorem jt : PT X e (JT X e) := ⟨fun pins s _ _ _ I h => h pins s I⟩
theorem ja : PA X es (JA X es) := ⟨fun pos pins s _ _ _ I h => h pos pins s I⟩
theorem js : PS X st (JS X st) := ⟨fun pins s _ _ _ I h => h pins s I⟩
theorem jss : PSs X sts (JSs X sts) := ⟨fun pins s _ _ _ I h => h pins s I⟩
theorem toE {t : TE} {Q : VK} (h : PE X e t) (q : t σ H Q) : JE X e σ H Q := fun pins s I => h.run pins s σ H Q I q
theorem toT {t : TT} {Q : Bool → Hp → Prop} (h : PT X e t) (q : t σ H Q) : JT X e σ H Q := fun pins s I => h.run pins s σ H Q I q
theorem toA {t : TA} {Q : List V → Hp → Prop} (h : PA X es t) (q : t σ H Q) : JA X es σ H Q := fun pos pins s I => h.run pos pins s σ H Q I q
theorem toS {t : TS} {D : Ends} (h : PS X st t) (q : t D σ H) : JS X st D σ H := fun pins s I => h.run pins s σ H D I q
theorem toSs {t : TS} {D : Ends} (h : PSs X sts t) (q : t D σ H) : JSs X sts D σ H := fun pins s I => h.run pins s σ H D I q
end

/-! ### arguments without a star -/
def notStar : Expr → Bool
  | .Starred .. => false
  | _ => true
theorem star_of {e : Expr} {es : List Expr} {env : Env} (h : notStar e = true) : starEach (e :: es) env = (false, eval e env) :: starEach es env := by
  cases e <;> first | rfl | cases h
theorem star_no {es : List Expr} {env : Env} {pos : Pos} (h : es.all notStar = true) : (backTo pos (starEach es env)).any (·.1) = false := by
  induction es with
  | nil => rfl
  | cons e es ih =>
    rw [List.all_cons, Bool.and_eq_true] at h
    rw [star_of h.1]
    show (false || (backTo pos (starEach es env)).any (·.1)) = false
    rw [ih h.2] <;> rfl
/-! ### data in the heap -/
section
variable [Nm] {K : PySem.W.Frag} {H H' : Hp}
/-- what is no table stays -/
def Sa (H H' : Hp) : Prop := ∀ b o, H b = some o → (∀ ps, o ≠ .tbl ps) → H' b = some o
/-- all stays, but that tables of code objects may grow -/
structure Sm (H H' : Hp) : Prop where
  ob : Sa H H'
  tb : ∀ P, LamX.TabS H P (Nm.nm P) → LamX.TabS H' P (Nm.nm P)
  dm : ∀ b, H b ≠ none → H' b ≠ none
theorem Sa.refl (H : Hp) : Sa H H := fun _ _ h _ => h
theorem Sa.trans {H1 : Hp} (x : Sa H H1) (y : Sa H1 H') : Sa H H' := fun b o h n => y b o (x b o h n) n
theorem Sm.of (s : ∀ b o, H b = some o → H' b = some o) : Sm H H' := ⟨fun b o h _ => s b o h, fun P t => t.ext s, fun b h => by
  cases q : H b with
  | none => exact fun _ => h q
  | some o => rw [s b o q]; exact fun z => by cases z⟩
theorem Sm.refl (H : Hp) : Sm H H := .of fun _ _ h => h
theorem Sm.trans {H1 : Hp} (x : Sm H H1) (y : Sm H1 H') : Sm H H' := ⟨x.ob.trans y.ob, fun P t => y.tb P (x.tb P t), fun b h => y.dm b (x.dm b h)⟩
mutual
theorem dp_map (f : ∀ b xs, SqL K H b xs → SqL K H' b xs) (g : ∀ b xs, SqT K H b xs → SqT K H' b xs) : ∀ (d : PyData) (v : V), Dp K H v d → Dp K H' v d
  | .none, _, h => by cases h; exact .non
  | .bool b, _, h => by cases h; exact .bl b
  | .int i, _, h => by cases h; exact .int i
  | .str x, _, h => by cases h; exact .str x
  | .list ds, _, h => by
    cases h with
    | lst h1 h2 => exact .lst (f _ _ h1) (dp_mapAll f g ds _ h2)
  | .tuple ds, _, h => by
    cases h with
    | tup h1 h2 => exact .tup (g _ _ h1) (dp_mapAll f g ds _ h2)
  | .dict _, _, h => by cases h
theorem dp_mapAll (f : ∀ b xs, SqL K H b xs → SqL K H' b xs) (g : ∀ b xs, SqT K H b xs → SqT K H' b xs) : ∀ (ds : List PyData) (vs : List V), DpAll K H vs ds → DpAll K H' vs ds
  | [], _, h => by cases h; exact .nil
  | d :: ds, _, h => by
    cases h with
    | cons h1 h2 => exact .cons (dp_map f g d _ h1) (dp_mapAll f g ds _ h2)
end
theorem same_l (s : Sa H H') (b : Addr) (xs : List V) (h : SqL K H b xs) : SqL K H' b xs := by
  rcases h with (h | ⟨o, h⟩) | h
  · exact .inl (.inl (s _ _ h (by intro ps z; cases z)))
  · exact .inl (.inr ⟨o, s _ _ h (by intro ps z; cases z)⟩)
  · exact .inr h
theorem same_t (s : Sa H H') (b : Addr) (xs : List V) (h : SqT K H b xs) : SqT K H' b xs := by
  rcases h with (h | ⟨o, h⟩) | h
  · exact .inl (.inl (s _ _ h (by intro ps z; cases z)))
  · exact .inl (.inr ⟨o, s _ _ h (by intro ps z; cases z)⟩)
  · exact .inr h
theorem dp_same {v : V} {d : PyData} (s : Sa H H') (h : Dp K H v d) : Dp K H' v d := dp_map (same_l s) (same_t s) d v h
theorem dps_same {vs : List V} {ds : List PyData} (s : Sa H H') (h : DpAll K H vs ds) : DpAll K H' vs ds := dp_mapAll (same_l s) (same_t s) ds vs h
/-- all but the dict at a stays -/
def Ka (a : Addr) (H H' : Hp) : Prop := (∀ b o, b ≠ a → H b = some o → (∀ ps, o ≠ .tbl ps) → H' b = some o) ∧ ((∃ kvs, H a = some (.dK kvs)) → ∃ kvs, H' a = some (.dK kvs))
structure Kp (a : Addr) (H H' : Hp) : Prop where
  ka : Ka a H H'
  tb : ∀ P, LamX.TabS H P (Nm.nm P) → LamX.TabS H' P (Nm.nm P)
  dm : ∀ b, H b ≠ none → H' b ≠ none
theorem Ka.of {a : Addr} (s : Sa H H') : Ka a H H' := ⟨fun b o _ h n => s b o h n, fun ⟨kvs, h⟩ => ⟨kvs, s _ _ h (by intro ps z; cases z)⟩⟩
theorem Kp.of {a : Addr} (s : Sm H H') : Kp a H H' := ⟨.of s.ob, s.tb, s.dm⟩
theorem Kp.refl {a : Addr} : Kp a H H := .of (Sm.refl H)
theorem Kp.trans {a : Addr} {H1 : Hp} (x : Kp a H H1) (y : Kp a H1 H') : Kp a H H' := ⟨⟨fun b o n h m => y.ka.1 b o n (x.ka.1 b o n h m) m, fun h => y.ka.2 (x.ka.2 h)⟩, fun P t => y.tb P (x.tb P t), fun b h => y.dm b (x.dm b h)⟩
/-- the dict at a is written -/
theorem Kp.put {a : Addr} {kvs kvs' : List (Key × V)} (h : H a = some (.dK kvs)) : Kp a H (upd H a (.dK kvs')) := ⟨⟨fun b o hb hh _ => by rw [upd_ne hb]; exact hh, fun _ => ⟨_, upd_same⟩⟩, fun P t => by
    obtain ⟨ps, h1, h2, h3⟩ := t
    refine ⟨ps, by rw [upd_ne (ne_of h1 h (by intro z; cases z))]; exact h1, h2, fun pos cv hc => ?_⟩
    obtain ⟨c, e1, e2⟩ := h3 pos cv hc
    exact ⟨c, e1, by rw [upd_ne (ne_of e2 h (by intro z; unfold LamX.CodeO at z; cases z))]; exact e2⟩, fun b hb => by
    by_cases e : b = a
    · rw [e, upd_same]; exact fun z => by cases z
    · rw [upd_ne e]; exact hb⟩
theorem kp_l {a : Addr} (s : Ka a H H') (ha : ∃ kvs, H a = some (.dK kvs)) (b : Addr) (xs : List V) (h : SqL K H b xs) : SqL K H' b xs := by
  obtain ⟨kvs, ha⟩ := ha
  rcases h with (h | ⟨o, h⟩) | h
  · exact .inl (.inl (s.1 _ _ (ne_of h ha (by intro z; cases z)) h (by intro ps z; cases z)))
  · exact .inl (.inr ⟨o, s.1 _ _ (ne_of h ha (by intro z; cases z)) h (by intro ps z; cases z)⟩)
  · exact .inr h
theorem kp_t {a : Addr} (s : Ka a H H') (ha : ∃ kvs, H a = some (.dK kvs)) (b : Addr) (xs : List V) (h : SqT K H b xs) : SqT K H' b xs := by
  obtain ⟨kvs, ha⟩ := ha
  rcases h with (h | ⟨o, h⟩) | h
  · exact .inl (.inl (s.1 _ _ (ne_of h ha (by intro z; cases z)) h (by intro ps z; cases z)))
  · exact .inl (.inr ⟨o, s.1 _ _ (ne_of h ha (by intro z; cases z)) h (by intro ps z; cases z)⟩)
  · exact .inr h
theorem dp_kp {a : Addr} {v : V} {d : PyData} (s : Ka a H H') (ha : ∃ kvs, H a = some (.dK kvs)) (h : Dp K H v d) : Dp K H' v d := dp_map (kp_l s ha) (kp_t s ha) d v h
theorem dps_kp {a : Addr} {vs : List V} {ds : List PyData} (s : Ka a H H') (ha : ∃ kvs, H a = some (.dK kvs)) (h : DpAll K H vs ds) : DpAll K H' vs ds := dp_mapAll (kp_l s ha) (kp_t s ha) ds vs h

theorem dp_int {v : V} {i : Int} (h : Dp K H v (.int i)) : v = .int i := by cases h; rfl
theorem dp_str {v : V} {x : Str} (h : Dp K H v (.str x)) : v = .str x := by cases h; rfl
theorem dp_bool {v : V} {b : Bool} (h : Dp K H v (.bool b)) : v = .bl b := by cases h; rfl
theorem dp_non {v : V} (h : Dp K H v .none) : v = .non := by cases h; rfl
theorem dp_tup {v : V} {ds : List PyData} (h : Dp K H v (.tuple ds)) : ∃ p xs, v = .ref p ∧ SqT K H p xs ∧ DpAll K H xs ds := by
  cases h with
  | tup h1 h2 => exact ⟨_, _, rfl, h1, h2⟩
theorem dp_lst {v : V} {ds : List PyData} (h : Dp K H v (.list ds)) : ∃ p xs, v = .ref p ∧ SqL K H p xs ∧ DpAll K H xs ds := by
  cases h with
  | lst h1 h2 => exact ⟨_, _, rfl, h1, h2⟩
theorem dps_len {vs : List V} {ds : List PyData} (h : DpAll K H vs ds) : vs.length = ds.length := by
  induction ds generalizing vs with
  | nil => cases h; rfl
  | cons d ds ih =>
    cases h with
    | cons h1 h2 => rw [List.length_cons, List.length_cons, ih h2]
theorem dps_get : ∀ {ds : List PyData} {vs : List V} {i : Nat} {d : PyData}, DpAll K H vs ds → ds[i]? = some d → ∃ v, vs[i]? = some v ∧ Dp K H v d
  | [], _, _, _, _, e => by simp at e
  | d :: ds, _, 0, d', h, e => by
    cases h with
    | cons h1 h2 =>
      have e' : d = d' := by simpa using e
      subst e'
      exact ⟨_, rfl, h1⟩
  | d :: ds, _, i + 1, _, h, e => by
    cases h with
    | cons h1 h2 =>
      obtain ⟨v, a, b⟩ := dps_get (i := i) h2 (by simpa using e)
      exact ⟨v, by simpa using a, b⟩
theorem dps_append {vs us : List V} {ds es : List PyData} (h : DpAll K H vs ds) (h' : DpAll K H us es) : DpAll K H (vs ++ us) (ds ++ es) := by
  induction ds generalizing vs with
  | nil => cases h; exact h'
  | cons d ds ih =>
    cases h with
    | cons h1 h2 => exact .cons h1 (ih h2)
theorem dps_snoc {vs : List V} {v : V} {ds : List PyData} {d : PyData} (h : DpAll K H vs ds) (h' : Dp K H v d) : DpAll K H (vs ++ [v]) (ds ++ [d]) := dps_append h (.cons h' .nil)
theorem dps_drop {vs : List V} {ds : List PyData} (n : Nat) (h : DpAll K H vs ds) : DpAll K H (vs.drop n) (ds.drop n) := by
  induction n generalizing vs ds with
  | zero => exact h
  | succ n ih =>
    cases ds with
    | nil => cases h; exact .nil
    | cons d ds =>
      cases h with
      | cons h1 h2 => exact ih h2
theorem dps_take {vs : List V} {ds : List PyData} (n : Nat) (h : DpAll K H vs ds) : DpAll K H (vs.take n) (ds.take n) := by
  induction n generalizing vs ds with
  | zero => exact .nil
  | succ n ih =>
    cases ds with
    | nil => cases h; exact .nil
    | cons d ds =>
      cases h with
      | cons h1 h2 => exact .cons h1 (ih h2)
theorem dps_ints (ns : List Int) : DpAll K H (ns.map V.int) (ns.map PyData.int) := by
  induction ns with
  | nil => exact .nil
  | cons n ns ih => exact .cons (.int n) ih
theorem vs_ints {vs : List V} {ns : List Int} (h : DpAll K H vs (ns.map PyData.int)) : vs = ns.map V.int := by
  induction ns generalizing vs with
  | nil => cases h; rfl
  | cons n ns ih =>
    cases h with
    | cons h1 h2 => rw [dp_int h1, ih h2] <;> rfl
theorem vs_bools {vs : List V} {ns : List Bool} (h : DpAll K H vs (ns.map PyData.bool)) : vs = ns.map V.bl := by
  induction ns generalizing vs with
  | nil => cases h; rfl
  | cons n ns ih =>
    cases h with
    | cons h1 h2 => rw [dp_bool h1, ih h2] <;> rfl
theorem dp_newT {p : Addr} {xs : List V} {ds : List PyData} (hp : H p = none) (h : DpAll K H xs ds) : Dp K (upd H p (.tup xs)) (.ref p) (.tuple ds) :=
  .tup (.of upd_same) (dps_same (fun b o e _ => by rw [upd_ne (ne_of_none e hp)]; exact e) h)
theorem dp_newL {p : Addr} {xs : List V} {ds : List PyData} (hp : H p = none) (h : DpAll K H xs ds) : Dp K (upd H p (.lst xs)) (.ref p) (.list ds) :=
  .lst (.of upd_same) (dps_same (fun b o e _ => by rw [upd_ne (ne_of_none e hp)]; exact e) h)
theorem same_new {p : Addr} {o : HO} (hp : H p = none) : Sm H (upd H p o) := .of fun b u e => by rw [upd_ne (ne_of_none e hp)]; exact e
end

/-! ### a part of the heap left out of sight (a list that a comprehension is filling) -/
open Classical in
noncomputable def off (T : Addr → Prop) (H : Hp) : Hp := fun b => if T b then none else H b
structure Din [Nm] (T : Addr → Prop) (H : Hp) : Prop where
  dn : ∀ b, T b → H b ≠ none
  tb : ∀ P ∈ Nm.tabs, LamX.TabS H P (Nm.nm P)
section
variable [Nm] {K : PySem.W.Frag} {H H' : Hp} {T : Addr → Prop}
theorem off_yes {b : Addr} (h : T b) : off T H b = none := by unfold off; rw [if_pos h]
theorem off_no {b : Addr} (h : ¬ T b) : off T H b = H b := by unfold off; rw [if_neg h]
theorem off_some {b : Addr} {o : HO} (h : off T H b = some o) : H b = some o ∧ ¬ T b := by
  by_cases hb : T b
  · rw [off_yes hb] at h
    cases h
  · rw [off_no hb] at h
    exact ⟨h, hb⟩
theorem off_sa (s : Sa H H') : Sa (off T H) (off T H') := fun b o h n => by
  obtain ⟨h1, h2⟩ := off_some h
  rw [off_no h2]
  exact s b o h1 n
theorem off_same (s : Sm H H') : Sa (off T H) (off T H') := off_sa s.ob
theorem off_in : Sa (off T H) H := fun b o h _ => (off_some h).1
theorem Din.same (d : Din T H) (s : Sm H H') : Din T H' := ⟨fun b hb => s.dm b (d.dn b hb), fun P hP => s.tb P (d.tb P hP)⟩
theorem off_free {p : Addr} (h : H p = none) : off T H p = none := by
  by_cases hp : T p
  · exact off_yes hp
  · rw [off_no hp]
    exact h
theorem off_new {p : Addr} {o : HO} (d : Din T H) (h : H p = none) : off T (upd H p o) = upd (off T H) p o := by
  funext b
  by_cases hb : b = p
  · subst hb
    rw [upd_same, off_no (fun z => d.dn b z h), upd_same]
  · rw [upd_ne hb]
    by_cases ht : T b
    · rw [off_yes ht, off_yes ht]
    · rw [off_no ht, off_no ht, upd_ne hb]
theorem dp_off {v : V} {d : PyData} (h : Dp K (off T H) v d) : Dp K H v d := dp_same off_in h
theorem dps_off {vs : List V} {ds : List PyData} (h : DpAll K (off T H) vs ds) : DpAll K H vs ds := dps_same off_in h
theorem dpo {v : V} {d : PyData} (s : Sm H H') (h : Dp K (off T H) v d) : Dp K (off T H') v d := dp_same (off_same s) h
theorem dpso {vs : List V} {ds : List PyData} (s : Sm H H') (h : DpAll K (off T H) vs ds) : DpAll K (off T H') vs ds := dps_same (off_same s) h
theorem dpo_newT {p : Addr} {xs : List V} {ds : List PyData} (t : Din T H) (hp : H p = none) (h : DpAll K (off T H) xs ds) : Dp K (off T (upd H p (.tup xs))) (.ref p) (.tuple ds) := by
  rw [off_new t hp]
  exact dp_newT (off_free hp) h
theorem dpo_newL {p : Addr} {xs : List V} {ds : List PyData} (t : Din T H) (hp : H p = none) (h : DpAll K (off T H) xs ds) : Dp K (off T (upd H p (.lst xs))) (.ref p) (.list ds) := by
  rw [off_new t hp]
  exact dp_newL (off_free hp) h
theorem dpo_tup {v : V} {ds : List PyData} (h : Dp K (off T H) v (.tuple ds)) : ∃ p xs, v = .ref p ∧ SqT K H p xs ∧ DpAll K (off T H) xs ds := by
  obtain ⟨p, xs, e, h1, h2⟩ := dp_tup h
  exact ⟨p, xs, e, same_t off_in _ _ h1, h2⟩
theorem dpo_lst {v : V} {ds : List PyData} (h : Dp K (off T H) v (.list ds)) : ∃ p xs, v = .ref p ∧ SqL K H p xs ∧ DpAll K (off T H) xs ds := by
  obtain ⟨p, xs, e, h1, h2⟩ := dp_lst h
  exact ⟨p, xs, e, same_l off_in _ _ h1, h2⟩
theorem off_nothing : off (fun _ => False) H = H := by
  funext b
  exact off_no (fun z => z)
theorem Din.nothing (h : ∀ P ∈ Nm.tabs, LamX.TabS H P (Nm.nm P)) : Din (fun _ => False) H := ⟨fun _ z => z.elim, h⟩
theorem Din.new {p : Addr} {o : HO} (d : Din T H) (h : H p = none) : Din (fun b => T b ∨ b = p) (upd H p o) := ⟨fun b hb => by
  rcases hb with hb | hb
  · rw [upd_ne (fun z => d.dn b hb (by rw [z]; exact h))]
    exact d.dn b hb
  · rw [hb, upd_same]
    simp, fun P hP => (same_new h).tb P (d.tb P hP)⟩
theorem off_more {p : Addr} {o : HO} (h : H p = none) : off (fun b => T b ∨ b = p) (upd H p o) = off T H := by
  funext b
  by_cases hb : b = p
  · subst hb
    rw [off_yes (.inr rfl), off_free h]
  · by_cases ht : T b
    · rw [off_yes (.inl ht), off_yes ht]
    · rw [off_no (fun z => z.elim ht hb), off_no ht, upd_ne hb]
theorem off_put {p : Addr} {o : HO} (h : T p) : off T (upd H p o) = off T H := by
  funext b
  by_cases ht : T b
  · rw [off_yes ht, off_yes ht]
  · rw [off_no ht, off_no ht, upd_ne (fun z => ht (by rw [z]; exact h))]
theorem off_less {p : Addr} : Sa (off (fun b => T b ∨ b = p) H) (off T H) := fun b o h _ => by
  obtain ⟨h1, h2⟩ := off_some h
  rw [off_no (fun z => h2 (.inl z))]
  exact h1
end

/-! ### slots that hold data, or the law's state -/
inductive DV where
  | dat (d : PyData)
  | hnd
  | adr (p : Addr)
abbrev Rho := List (Option DV)
def RelD (K : PySem.W.Frag) (a : Addr) (H : Hp) (v : V) : DV → Prop
  | .dat d => Dp K H v d
  | .hnd => v = .ref a
  | .adr p => v = .ref p
structure SD [Nm] (K : PySem.W.Frag) (a : Addr) (T : Addr → Prop) (H : Hp) (σ : L2.St) (ρ : Rho) : Prop where
  len : σ.length = ρ.length
  dm : Din T H
  sl : ∀ (i : Nat) (x : DV), ρ[i]? = some (some x) → ∃ v, σ[i]? = some (some v) ∧ RelD K a (off T H) v x
section
variable [Nm] {K : PySem.W.Frag} {a : Addr} {T : Addr → Prop} {H H' : Hp} {σ : L2.St} {ρ : Rho}
theorem SD.same (h : SD K a T H σ ρ) (s : Sm H H') : SD K a T H' σ ρ := ⟨h.len, h.dm.same s, fun i x e => by
  obtain ⟨v, h1, h2⟩ := h.sl i x e
  refine ⟨v, h1, ?_⟩
  cases x with
  | dat d => exact dpo s h2
  | hnd => exact h2
  | adr _ => exact h2⟩
theorem SD.kp (h : SD K a (fun _ => False) H σ ρ) (s : Kp a H H') (ha : ∃ kvs, H a = some (.dK kvs)) : SD K a (fun _ => False) H' σ ρ := ⟨h.len, .nothing fun P hP => s.tb P (h.dm.tb P hP), fun i x e => by
  obtain ⟨v, h1, h2⟩ := h.sl i x e
  refine ⟨v, h1, ?_⟩
  rw [off_nothing] at h2 ⊢
  cases x with
  | dat d => exact dp_kp s.ka ha h2
  | hnd => exact h2
  | adr _ => exact h2⟩
theorem SD.put {i : Nat} {v : V} {x : DV} (h : SD K a T H σ ρ) (hx : RelD K a (off T H) v x) : SD K a T H (σ.set i (some v)) (ρ.set i (some x)) := by
  refine ⟨by rw [List.length_set, List.length_set, h.len], h.dm, fun j y e => ?_⟩
  by_cases hj : i = j
  · subst hj
    by_cases hi : i < ρ.length
    · rw [List.getElem?_set_self hi] at e
      cases e
      exact ⟨v, by rw [List.getElem?_set_self (by rw [h.len]; exact hi)], hx⟩
    · rw [List.getElem?_eq_none (by simpa using hi)] at e
      cases e
  · rw [List.getElem?_set_ne hj] at e ⊢
    exact h.sl j y e
theorem SD.clear {i : Nat} (h : SD K a T H σ ρ) : SD K a T H (σ.set i none) (ρ.set i none) := by
  refine ⟨by rw [List.length_set, List.length_set, h.len], h.dm, fun j y e => ?_⟩
  by_cases hj : i = j
  · subst hj
    by_cases hi : i < ρ.length
    · rw [List.getElem?_set_self hi] at e
      cases e
    · rw [List.getElem?_eq_none (by simpa using hi)] at e
      cases e
  · rw [List.getElem?_set_ne hj] at e ⊢
    exact h.sl j y e
def wipeR (ρ : Rho) : List Nat → Rho
  | [] => ρ
  | v :: vs => (wipeR ρ vs).set v none
theorem SD.wipe (h : SD K a T H σ ρ) : ∀ vs : List Nat, SD K a T H (L2.wipe σ vs) (wipeR ρ vs)
  | [] => h
  | v :: vs => (SD.wipe h vs).clear
/-- one more thing out of sight -/
theorem SD.more {p : Addr} {o : HO} (h : SD K a T H σ ρ) (hp : H p = none) : SD K a (fun b => T b ∨ b = p) (upd H p o) σ ρ :=
  ⟨h.len, h.dm.new hp, fun i x e => by
    rw [off_more hp]
    exact h.sl i x e⟩
def dats (ds : List PyData) : Rho := ds.map fun d => some (.dat d)
theorem SD.start {N : List Str} {vs : List V} {ds : List PyData} (t : Din T H) (h : DpAll K (off T H) vs ds) : SD K a T H (start N vs) (dats ds ++ List.replicate (N.length - ds.length) none) := by
  have hl := dps_len h
  unfold L2.start dats
  refine ⟨by simp [hl], t, fun i x e => ?_⟩
  by_cases hi : i < ds.length
  · rw [List.getElem?_append_left (by simpa using hi)] at e
    rw [List.getElem?_map] at e
    obtain ⟨d, h1⟩ : ∃ d, ds[i]? = some d := ⟨ds[i], by simp [hi]⟩
    rw [h1] at e
    cases e
    obtain ⟨v, h3, h4⟩ := dps_get h h1
    exact ⟨v, by rw [List.getElem?_append_left (by simpa [hl] using hi), List.getElem?_map, h3]; rfl, h4⟩
  · rw [List.getElem?_append_right (by simpa using hi)] at e
    rw [List.getElem?_replicate] at e
    split at e <;> cases e
end
end Zj
/-! What an expression, a test, an argument list, a block comes to, said of data. -/
namespace Zj
open PySem PySem.Spec PyProof.Rows L2
variable [Nm]
section
variable {X : Cx} {a : Addr} {ρ : Rho}
def EvE (X : Cx) (a : Addr) (e : Expr) (ρ : Rho) (d : PyData) : Prop := ∀ T σ H, SD X.K a T H σ ρ → ∀ Q : VK, (∀ v H2, Sm H H2 → Dp X.K (off T H2) v d → Q v H2) → JE X e σ H Q
def EvT (X : Cx) (a : Addr) (e : Expr) (ρ : Rho) (b : Bool) : Prop := ∀ T σ H, SD X.K a T H σ ρ → ∀ Q : Bool → Hp → Prop, (∀ H2, Sm H H2 → Q b H2) → JT X e σ H Q
def EvA (X : Cx) (a : Addr) (es : List Expr) (ρ : Rho) (ds : List PyData) : Prop := ∀ T σ H, SD X.K a T H σ ρ → ∀ Q : List V → Hp → Prop, (∀ vs H2, Sm H H2 → DpAll X.K (off T H2) vs ds → Q vs H2) → JA X es σ H Q
def EvO (X : Cx) (a : Addr) (e : Option Expr) (ρ : Rho) (o : Option Int) : Prop := ∃ t, PO X e t ∧ ∀ T σ H, SD X.K a T H σ ρ → ∀ Q : Option Int → Hp → Prop, (∀ H2, Sm H H2 → Q o H2) → t σ H Q

theorem e_var {x : Str} {pos : Pos} {i : Nat} {d : PyData} (h : ρ[i]? = some (some (.dat d))) (hN : X.N[i]? = some x := by rfl)
    (hv : Vis X.env.scope x := by first | exact Or.inl rfl | exact Or.inr (Or.inl rfl) | exact Or.inr (Or.inr rfl)) (hd : (x == ("__debug__" : Str)) = false := by decide) (hcd : (x == ("__classdict__" : Str)) = false := by decide) :
    EvE X a (.Name x pos) ρ d := fun T σ H S Q q => by
  obtain ⟨v, h1, h2⟩ := S.sl i _ h
  exact toE (pe_var hN hv hd hcd) ⟨v, h1, q v H (Sm.refl H) h2⟩
theorem e_int {i : Int} {j : Nat} {pos : Pos} : EvE X a (.Constant (.int i) j pos) ρ (.int i) := fun T σ H S Q q => toE pe_int (q _ H (Sm.refl H) (.int i))
theorem e_bl {i : Bool} {j : Nat} {pos : Pos} : EvE X a (.Constant (.bool i) j pos) ρ (.bool i) := fun T σ H S Q q => toE pe_bl (q _ H (Sm.refl H) (.bl i))
theorem e_str {i : Str} {j : Nat} {pos : Pos} : EvE X a (.Constant (.str i) j pos) ρ (.str i) := fun T σ H S Q q => toE pe_str (q _ H (Sm.refl H) (.str i))
theorem e_non {j : Nat} {pos : Pos} : EvE X a (.Constant .none j pos) ρ .none := fun T σ H S Q q => toE pe_non (q _ H (Sm.refl H) .non)

variable {l r e c : Expr} {es : List Expr} {pos : Pos} {d d1 d2 : PyData} {i j : Int}
/-- what an operator does with data -/
def OpD (X : Cx) (f : Value → Value → Sem Value) (d1 d2 d : PyData) : Prop := ∃ r : R2, OpR X f r ∧ ∀ T v1 v2 H, Din T H → Dp X.K (off T H) v1 d1 → Dp X.K (off T H) v2 d2 → ∀ Q : VK, (∀ v H2, Sm H H2 → Dp X.K (off T H2) v d → Q v H2) → r v1 v2 H Q
theorem e_bin {op : Operator} (ho : OpD X (binaryOp op) d1 d2 d) (h1 : EvE X a l ρ d1) (h2 : EvE X a r ρ d2) : EvE X a (.BinOp l op r pos) ρ d := fun T σ H S Q q => by
  obtain ⟨rr, hr, hq⟩ := ho
  exact toE (pe_op hr je je) (h1 T σ H S _ fun v1 H1 s1 p1 => h2 T σ H1 (S.same s1) _ fun v2 H2 s2 p2 => hq T v1 v2 H2 (S.same (s1.trans s2)).dm (dpo s2 p1) p2 Q fun v H3 s3 p3 => q v H3 ((s1.trans s2).trans s3) p3)
theorem e_cmp {op : CmpOp} (ho : OpD X (compareOp op) d1 d2 d) (h1 : EvE X a l ρ d1) (h2 : EvE X a r ρ d2) (hm : behindInMarks op r = false) : EvE X a (.Compare l [op] [r] pos) ρ d := fun T σ H S Q q => by
  obtain ⟨rr, hr, hq⟩ := ho
  exact toE (pe_cmpR hr je je hm) (h1 T σ H S _ fun v1 H1 s1 p1 => h2 T σ H1 (S.same s1) _ fun v2 H2 s2 p2 => hq T v1 v2 H2 (S.same (s1.trans s2)).dm (dpo s2 p1) p2 Q fun v H3 s3 p3 => q v H3 ((s1.trans s2).trans s3) p3)
theorem t_cmp {op : CmpOp} {b : Bool} (ho : OpD X (compareOp op) d1 d2 (.bool b)) (h1 : EvE X a l ρ d1) (h2 : EvE X a r ρ d2) (hm : behindInMarks op r = false) : EvT X a (.Compare l [op] [r] pos) ρ b := fun T σ H S Q q => by
  obtain ⟨rr, hr, hq⟩ := ho
  exact toT (pt_cmpR hr je je hm) (h1 T σ H S _ fun v1 H1 s1 p1 => h2 T σ H1 (S.same s1) _ fun v2 H2 s2 p2 => hq T v1 v2 H2 (S.same (s1.trans s2)).dm (dpo s2 p1) p2 _ fun v H3 s3 p3 => ⟨b, dp_bool p3, q H3 ((s1.trans s2).trans s3)⟩)

theorem od_I {f : Value → Value → Sem Value} {g : Int → Int → V} {C : Int → Int → Prop} (ho : OpR X f (rI C g)) (hc : C i j) (hd : ∀ H, Dp X.K H (g i j) d) : OpD X f (.int i) (.int j) d :=
  ⟨_, ho, fun T v1 v2 H dm p1 p2 Q q => ⟨i, j, dp_int p1, dp_int p2, hc, q _ H (Sm.refl H) (hd _)⟩⟩
theorem od_I0 {f : Value → Value → Sem Value} {g : Int → Int → V} (ho : OpR X f (rI0 g)) (hd : ∀ H, Dp X.K H (g i j) d) : OpD X f (.int i) (.int j) d :=
  ⟨_, ho, fun T v1 v2 H dm p1 p2 Q q => ⟨i, j, dp_int p1, dp_int p2, q _ H (Sm.refl H) (hd _)⟩⟩
theorem op_mulX : OpR X (binaryOp .Mult) (rI IntMulOk fun i j => .int (i * j)) := opI fun _ _ _ _ _ _ _ hc q => mul_int q hc
theorem op_fdivX : OpR X (binaryOp .FloorDiv) (rI (fun _ j => j ≠ 0 ∧ j.natAbs.log2 < 9000) fun i j => .int (i.fdiv j)) := opI fun i j _ _ _ _ _ hc q =>
  floordiv_int hc.1 q (.inl (PyProof.noPylong_of_log2 hc.2))
/-- numbers of less than n binary figures -/
def Bits (n : Nat) (i : Int) : Prop := i.natAbs < 2 ^ n
theorem mul_ok {m n : Nat} (h1 : Bits m i) (h2 : Bits n j) (h : m + n ≤ 100000000) : IntMulOk i j := by
  have b : ∀ (x : Int) (k : Nat), Bits k x → Builtin.Int.intBits x ≤ k := fun x k hx => by
    unfold Builtin.Int.intBits
    split
    · omega
    · rename_i hx0
      have hx1 : x.natAbs ≠ 0 := by simpa using hx0
      have : x.natAbs.log2 < k := (Nat.log2_lt hx1).mpr hx
      omega
  have h1' := b i m h1
  have h2' := b j n h2
  have e : bitsLine = 134217728 := by decide
  unfold IntMulOk
  intro z
  rw [Bool.and_eq_true] at z
  have z2 := z.2
  unfold Builtin.Int.intTooBig at z2
  have z3 := of_decide_eq_true z2
  rw [e] at z3
  omega
theorem od_add : OpD X (binaryOp .Add) (.int i) (.int j) (.int (i + j)) := od_I0 op_add fun _ => .int _
theorem od_sub : OpD X (binaryOp .Sub) (.int i) (.int j) (.int (i - j)) := od_I0 op_sub fun _ => .int _
theorem od_mul (h : IntMulOk i j) : OpD X (binaryOp .Mult) (.int i) (.int j) (.int (i * j)) := od_I op_mulX h fun _ => .int _
theorem od_fdiv (h : j ≠ 0) (hb : j.natAbs.log2 < 9000) : OpD X (binaryOp .FloorDiv) (.int i) (.int j) (.int (i.fdiv j)) := od_I op_fdivX ⟨h, hb⟩ fun _ => .int _
theorem od_mod (h : 0 < j) : OpD X (binaryOp .Mod) (.int i) (.int j) (.int (i % j)) := od_I op_mod h fun _ => .int _
theorem od_pow (h : CPow i j) : OpD X (binaryOp .Pow) (.int i) (.int j) (.int (i ^ j.toNat)) := od_I op_pow h fun _ => .int _
theorem od_lt : OpD X (compareOp .Lt) (.int i) (.int j) (.bool (decide (i < j))) := od_I0 op_lt fun _ => .bl _
theorem od_le : OpD X (compareOp .LtE) (.int i) (.int j) (.bool (decide (i ≤ j))) := od_I0 op_le fun _ => .bl _
theorem od_gt : OpD X (compareOp .Gt) (.int i) (.int j) (.bool (decide (j < i))) := od_I0 op_gt fun _ => .bl _
theorem od_ge : OpD X (compareOp .GtE) (.int i) (.int j) (.bool (decide (j ≤ i))) := od_I0 op_ge fun _ => .bl _
theorem od_eqI : OpD X (compareOp .Eq) (.int i) (.int j) (.bool (i == j)) :=
  ⟨_, op_eq, fun T v1 v2 H dm p1 p2 Q q => by rw [dp_int p1, dp_int p2]; exact ⟨rfl, by rw [dec_int]; exact q _ H (Sm.refl H) (.bl _)⟩⟩
theorem od_neI : OpD X (compareOp .NotEq) (.int i) (.int j) (.bool (!(i == j))) :=
  ⟨_, op_ne, fun T v1 v2 H dm p1 p2 Q q => by rw [dp_int p1, dp_int p2]; exact ⟨rfl, by rw [dec_int]; exact q _ H (Sm.refl H) (.bl _)⟩⟩
theorem od_eqS {x y : Str} : OpD X (compareOp .Eq) (.str x) (.str y) (.bool (x == y)) :=
  ⟨_, op_eq, fun T v1 v2 H dm p1 p2 Q q => by rw [dp_str p1, dp_str p2]; exact ⟨rfl, by rw [dec_str]; exact q _ H (Sm.refl H) (.bl _)⟩⟩
theorem od_eqB {x y : Bool} : OpD X (compareOp .Eq) (.bool x) (.bool y) (.bool (x == y)) :=
  ⟨_, op_eq, fun T v1 v2 H dm p1 p2 Q q => by rw [dp_bool p1, dp_bool p2]; exact ⟨rfl, by rw [dec_bl]; exact q _ H (Sm.refl H) (.bl _)⟩⟩
theorem od_neB {x y : Bool} : OpD X (compareOp .NotEq) (.bool x) (.bool y) (.bool (!(x == y))) :=
  ⟨_, op_ne, fun T v1 v2 H dm p1 p2 Q q => by rw [dp_bool p1, dp_bool p2]; exact ⟨rfl, by rw [dec_bl]; exact q _ H (Sm.refl H) (.bl _)⟩⟩
theorem od_eqD (hu : X.A.units + 64 < cLine) (h1 : SeqAt.shaped d1 = true) (h2 : SeqAt.shaped d2 = true) : OpD X (compareOp .Eq) d1 d2 (.bool (PyData.eqv d1 d2)) :=
  ⟨_, op_eqD hu, fun T v1 v2 H dm p1 p2 Q q => ⟨d1, d2, dp_off p1, dp_off p2, h1, h2, q _ H (Sm.refl H) (.bl _)⟩⟩
theorem od_neD (hu : X.A.units + 64 < cLine) (h1 : SeqAt.shaped d1 = true) (h2 : SeqAt.shaped d2 = true) : OpD X (compareOp .NotEq) d1 d2 (.bool (!PyData.eqv d1 d2)) :=
  ⟨_, op_neD hu, fun T v1 v2 H dm p1 p2 Q q => ⟨d1, d2, dp_off p1, dp_off p2, h1, h2, q _ H (Sm.refl H) (.bl _)⟩⟩
/-- whether data is None -/
def isN : PyData → Bool
  | .none => true
  | _ => false
theorem dp_isN {K : PySem.W.Frag} {H : Hp} {v : V} (p : Dp K H v d) : decide (v = .non) = isN d := by
  cases p <;> rfl
theorem od_isN : OpD X (compareOp .Is) d .none (.bool (isN d)) := ⟨_, op_isN, fun T v1 v2 H dm p1 p2 Q q => ⟨dp_non p2, by rw [dp_isN p1]; exact q _ H (Sm.refl H) (.bl _)⟩⟩
theorem od_notN : OpD X (compareOp .IsNot) d .none (.bool (!isN d)) := ⟨_, op_notN, fun T v1 v2 H dm p1 p2 Q q => ⟨dp_non p2, by rw [dp_isN p1]; exact q _ H (Sm.refl H) (.bl _)⟩⟩
theorem e_neg (h : EvE X a e ρ (.int i)) : EvE X a (.UnaryOp .USub e pos) ρ (.int (-i)) := fun T σ H S Q q =>
  toE (pe_un un_neg je) (h T σ H S _ fun v H1 s1 p1 => ⟨i, dp_int p1, q _ H1 s1 (.int _)⟩)

/-! tests -/
theorem t_not {b : Bool} (h : EvT X a e ρ b) : EvT X a (.UnaryOp .Not e pos) ρ (!b) := fun T σ H S Q q => toT (pt_not jt) (h T σ H S _ fun H1 s1 => q H1 s1)
theorem t_val {b : Bool} (h : EvE X a e ρ (.bool b)) (he : ∀ whole, isTrue e X.env whole = (do let v ← whole; standAt e.pos; holding [v] (truthy v)) := by intro _; rfl) : EvT X a e ρ b := fun T σ H S Q q =>
  toT (pt_val je he) (h T σ H S _ fun v H1 s1 p1 => ⟨b, dp_bool p1, q H1 s1⟩)
theorem t_is {b b' : Bool} (h : EvT X a e ρ b) (hb : b = b') : EvT X a e ρ b' := hb ▸ h
theorem e_is {d'} (h : EvE X a e ρ d) (hb : d = d') : EvE X a e ρ d' := hb ▸ h
theorem t_and1 {b : Bool} (h : EvT X a e ρ b) : EvT X a (.BoolOp .And [e] pos) ρ b := fun T σ H S Q q => toT (PW.pt (pw_and1 jt)) (h T σ H S Q q)
theorem t_or1 {b : Bool} (h : EvT X a e ρ b) : EvT X a (.BoolOp .Or [e] pos) ρ b := fun T σ H S Q q => toT (PW.pt (pw_or1 jt)) (h T σ H S Q q)
end
section
variable {X : Cx} {a : Addr} {ρ : Rho} {c e f : Expr} {es : List Expr} {pos : Pos} {d : PyData}
theorem e_ifT (h : EvT X a c ρ true) (h1 : EvE X a e ρ d) : EvE X a (.IfExp c e f pos) ρ d := fun T σ H S Q q =>
  toE (pe_ifExp jt je je) (h T σ H S _ fun H1 s1 => iteT (h1 T σ H1 (S.same s1) _ fun v H2 s2 p => q v H2 (s1.trans s2) p))
theorem e_ifF (h : EvT X a c ρ false) (h1 : EvE X a f ρ d) : EvE X a (.IfExp c e f pos) ρ d := fun T σ H S Q q =>
  toE (pe_ifExp jt je je) (h T σ H S _ fun H1 s1 => iteF (h1 T σ H1 (S.same s1) _ fun v H2 s2 p => q v H2 (s1.trans s2) p))
theorem e_if {b : Bool} (h : EvT X a c ρ b) (h1 : b = true → EvE X a e ρ d) (h2 : b = false → EvE X a f ρ d) : EvE X a (.IfExp c e f pos) ρ d := by
  cases b with
  | true => exact e_ifT h (h1 rfl)
  | false => exact e_ifF h (h2 rfl)

/-! argument lists, displays -/
theorem a_nil : EvA X a [] ρ [] := fun T σ H S Q q => toA pa_nil (q _ H (Sm.refl H) .nil)
theorem a_cons {ds : List PyData} (h : EvE X a e ρ d) (h2 : EvA X a es ρ ds) (hs : starEach (e :: es) X.env = (false, eval e X.env) :: starEach es X.env := by exact star_of rfl) : EvA X a (e :: es) ρ (d :: ds) := fun T σ H S Q q =>
  toA (pa_cons je ja hs) (h T σ H S _ fun v H1 s1 p1 => h2 T σ H1 (S.same s1) _ fun vs H2 s2 p2 => q _ H2 (s1.trans s2) (.cons (dpo s2 p1) p2))
theorem szl {n : Nat} (h : n ≤ 100000) : n ≤ sizeLine := Nat.le_trans h (by decide)
theorem e_tup {x1} {ds : List PyData} (h : EvA X a es ρ ds) (hl : ds.length ≤ 100000 := by first | (simp; done) | decide) : EvE X a (.Tuple es x1 pos) ρ (.tuple ds) := fun T σ H S Q q =>
  toE (pe_tup ja) (h T σ H S _ fun vs H1 s1 p1 => ⟨by rw [dps_len p1]; exact szl hl, fun p hp => q _ _ (s1.trans (same_new hp)) (dpo_newT (S.dm.same s1) hp p1)⟩)
theorem e_lst {ds : List PyData} (h : EvA X a es ρ ds) (hl : ds.length ≤ 100000 := by first | (simp; done) | decide) : EvE X a (.List es pos) ρ (.list ds) := fun T σ H S Q q =>
  toE (pe_lst ja) (h T σ H S _ fun vs H1 s1 p1 => ⟨by rw [dps_len p1]; exact szl hl, fun p hp => q _ _ (s1.trans (same_new hp)) (dpo_newL (S.dm.same s1) hp p1)⟩)

/-! items, slices, sums of sequences -/
variable {i j : Int} {ds : List PyData} {o : Expr}
theorem ati_dps {K : PySem.W.Frag} {H : Hp} {vs : List V} (h : DpAll K H vs ds) (e : atI ds i = some d) : ∃ v, atI vs i = some v ∧ Dp K H v d := by
  unfold atI at e ⊢
  rw [dps_len h]
  cases q : ixN ds.length i with
  | none => rw [q] at e; cases e
  | some k =>
    rw [q] at e
    obtain ⟨v, h1, h2⟩ := dps_get h (show ds[k]? = some d from e)
    exact ⟨v, h1, h2⟩
theorem e_ixT (h1 : EvE X a o ρ (.tuple ds)) (h2 : EvE X a e ρ (.int i)) (h : atI ds i = some d) (hs : PlainIx e := by exact fun _ _ => rfl) : EvE X a (.Subscript o e pos) ρ d := fun T σ H S Q q =>
  toE (pe_ix ix_tup je je hs) (h1 T σ H S _ fun v1 H1 s1 p1 => h2 T σ H1 (S.same s1) _ fun v2 H2 s2 p2 => by
    obtain ⟨p, xs, rfl, g1, g2⟩ := dpo_tup (dpo s2 p1)
    obtain ⟨v, g3, g4⟩ := ati_dps g2 h
    exact ⟨p, xs, i, v, rfl, dp_int p2, g1, g3, q v H2 (s1.trans s2) g4⟩)
theorem e_ixL (h1 : EvE X a o ρ (.list ds)) (h2 : EvE X a e ρ (.int i)) (h : atI ds i = some d) (hs : PlainIx e := by exact fun _ _ => rfl) : EvE X a (.Subscript o e pos) ρ d := fun T σ H S Q q =>
  toE (pe_ix ix_list je je hs) (h1 T σ H S _ fun v1 H1 s1 p1 => h2 T σ H1 (S.same s1) _ fun v2 H2 s2 p2 => by
    obtain ⟨p, xs, rfl, g1, g2⟩ := dpo_lst (dpo s2 p1)
    obtain ⟨v, g3, g4⟩ := ati_dps g2 h
    exact ⟨p, xs, i, v, rfl, dp_int p2, g1, g3, q v H2 (s1.trans s2) g4⟩)
theorem o_non : EvO X a none ρ none := ⟨_, po_none, fun T σ H S Q q => q H (Sm.refl H)⟩
theorem o_int (h : EvE X a e ρ (.int i)) : EvO X a (some e) ρ (some i) := ⟨_, po_some je, fun T σ H S Q q => h T σ H S _ fun v H1 s1 p1 => ⟨i, dp_int p1, q H1 s1⟩⟩
def cutD (xs : List PyData) (lo hi : Option Int) : List PyData := (xs.drop (HT.sIx xs.length 0 lo)).take (HT.sIx xs.length xs.length hi - HT.sIx xs.length 0 lo)
theorem cut_dps {K : PySem.W.Frag} {H : Hp} {vs : List V} (h : DpAll K H vs ds) (lo hi : Option Int) : DpAll K H (cutV vs lo hi) (cutD ds lo hi) := by
  unfold cutV cutD
  rw [dps_len h]
  exact dps_take _ (dps_drop _ h)
theorem e_slT {lo hi : Option Expr} {x y : Option Int} {p2 : Pos} (h1 : EvE X a o ρ (.tuple ds)) (h2 : EvO X a lo ρ x) (h3 : EvO X a hi ρ y) (hw : ¬ (HT.sIx ds.length 0 x = 0 ∧ HT.sIx ds.length ds.length y = ds.length)) :
    EvE X a (.Subscript o (.Slice lo hi none p2) pos) ρ (.tuple (cutD ds x y)) := fun T σ H S Q q => by
  obtain ⟨tl, g2, k2⟩ := h2
  obtain ⟨th, g3, k3⟩ := h3
  refine toE (pe_slice sl_tup je g2 g3) (h1 T σ H S _ fun v1 H1 s1 p1 => k2 T σ H1 (S.same s1) _ fun H2 s2 => k3 T σ H2 (S.same (s1.trans s2)) _ fun H3 s3 => ?_)
  obtain ⟨p, xs, rfl, g4, g5⟩ := dpo_tup (dpo (s2.trans s3) p1)
  have hl := dps_len g5
  exact ⟨p, xs, rfl, g4, by rw [hl]; exact hw, fun p' hp => q _ _ (((s1.trans s2).trans s3).trans (same_new hp)) (dpo_newT (S.dm.same ((s1.trans s2).trans s3)) hp (cut_dps g5 x y))⟩
theorem e_slL {lo hi : Option Expr} {x y : Option Int} {p2 : Pos} (h1 : EvE X a o ρ (.list ds)) (h2 : EvO X a lo ρ x) (h3 : EvO X a hi ρ y) :
    EvE X a (.Subscript o (.Slice lo hi none p2) pos) ρ (.list (cutD ds x y)) := fun T σ H S Q q => by
  obtain ⟨tl, g2, k2⟩ := h2
  obtain ⟨th, g3, k3⟩ := h3
  refine toE (pe_slice sl_list je g2 g3) (h1 T σ H S _ fun v1 H1 s1 p1 => k2 T σ H1 (S.same s1) _ fun H2 s2 => k3 T σ H2 (S.same (s1.trans s2)) _ fun H3 s3 => ?_)
  obtain ⟨p, xs, rfl, g4, g5⟩ := dpo_lst (dpo (s2.trans s3) p1)
  exact ⟨p, xs, rfl, g4, fun p' hp => q _ _ (((s1.trans s2).trans s3).trans (same_new hp)) (dpo_newL (S.dm.same ((s1.trans s2).trans s3)) hp (cut_dps g5 x y))⟩
theorem od_catT {es fs : List PyData} (h : es ≠ []) (hl : es.length + fs.length ≤ 100000) : OpD X (binaryOp .Add) (.tuple es) (.tuple fs) (.tuple (es ++ fs)) :=
  ⟨_, op_catT, fun T v1 v2 H dm p1 p2 Q q => by
    obtain ⟨p, xs, rfl, g1, g2⟩ := dpo_tup p1
    obtain ⟨p', ys, rfl, g3, g4⟩ := dpo_tup p2
    have l1 := dps_len g2
    have l2 := dps_len g4
    refine ⟨p, p', xs, ys, rfl, rfl, g1, g3, fun z => h ?_, by rw [l1, l2]; exact szl hl, fun z => ?_, fun z r hr => q _ _ (same_new hr) (dpo_newT dm hr (dps_append g2 g4))⟩
    · rw [z] at l1
      exact List.eq_nil_of_length_eq_zero l1.symm
    · rw [z] at l2
      rw [List.eq_nil_of_length_eq_zero l2.symm, List.append_nil] at q
      exact q _ H (Sm.refl H) p1⟩
/-- list + list, whoever holds them -/
theorem op_catX {X : Cx} : OpR X (binaryOp .Add) (fun x y H Q => ∃ l b xs zs, x = .ref l ∧ y = .ref b ∧ SqL X.K H l xs ∧ SqL X.K H b zs ∧ xs.length + zs.length ≤ sizeLine ∧ ∀ p, H p = none → Q (.ref p) (upd H p (.lst (xs ++ zs)))) := by
  intro pins s σ H x y v u Q I rx ry h
  obtain ⟨l, b, xs, zs, rfl, rfl, hH, hB, hz, q⟩ := h
  cases rx
  cases ry
  obtain ⟨its, r, pl, hl⟩ := I.list hH
  obtain ⟨its2, r2, pl2, hl2⟩ := I.list hB
  obtain ⟨⟨c1, dd1, da1, sl1⟩, n1, e1, k1, d1, b1⟩ := pl
  obtain ⟨⟨c2, dd2, da2, sl2⟩, n2, e2, k2, d2, b2⟩ := pl2
  have e3 := r.length
  have e4 := r2.length
  simp only at k1 d1 b1 k2 d2 b2
  subst k1 b1 k2 b2
  have ea : its.toArray ++ its2.toArray = (its ++ its2).toArray := by simp
  have sz : its.toArray.size + its2.toArray.size ≤ sizeLine := by rw [List.size_toArray, List.size_toArray, ← e3, ← e4]; exact hz
  refine concat_meets ⟨_, e1, rfl⟩ ⟨_, e2, rfl⟩ noFill_list_add seq_list_add F.slot_list_add F.entry_list_add (F.args_list_add_2 _ _)
    (list_addW l b its.toArray its2.toArray n1 n2 dd1 dd2 sl1 sl2 sz) ⟨e1, e2, ?_⟩
  rw [ea]
  exact ⟨.ref _, _, I.lnew (t' := s.toks) (r.append r2) (by rw [List.length_append]; exact hz), rfl, q _ I.fresh⟩
theorem od_catL {es fs : List PyData} (hl : es.length + fs.length ≤ 100000) : OpD X (binaryOp .Add) (.list es) (.list fs) (.list (es ++ fs)) :=
  ⟨_, op_catX, fun T v1 v2 H dm p1 p2 Q q => by
    obtain ⟨p, xs, rfl, g1, g2⟩ := dpo_lst p1
    obtain ⟨p', ys, rfl, g3, g4⟩ := dpo_lst p2
    have l1 := dps_len g2
    have l2 := dps_len g4
    exact ⟨p, p', xs, ys, rfl, rfl, g1, g3, by rw [l1, l2]; exact szl hl, fun r hr => q _ _ (same_new hr) (dpo_newL dm hr (dps_append g2 g4))⟩⟩
/-! calls -/
structure Cal (P : Program) (w : World) (K : PySem.W.Frag) (mg : Str → Option Value) (base : Heap) (k : Nat) (x : Str) (ps : List Str) (sp : Sp) : Prop where
  ex : ∃ f fd, FnOk P w K mg base CX0 k f fd ps sp ∧ mg x = some (.ref f) ∧ PySem.W.keepIn K (.ref f) = true ∧ Binds K fd ps []
/-- a def that keeps all and hands on data: R tells of the arguments what comes of them -/
def spR (K : PySem.W.Frag) (R : List PyData → PyData → Prop) : Sp := fun vs H Q _ => ∃ T ds d, Din T H ∧ DpAll K (off T H) vs ds ∧ R ds d ∧ ∀ v H', Sm H H' → Dp K (off T H') v d → Q v H'
theorem e_call {k : Nat} {x : Str} {p : Pos} {ps : List Str} {R : List PyData → PyData → Prop} (C : Cal X.prog X.w X.K X.mg X.base k x ps (spR X.K R)) (hr : Room k X.A) (ha : EvA X a (e :: es) ρ ds) (hR : R ds d)
    (hg : Gl X x := by rfl) (hdb : (x == ("__debug__" : Str)) = false := by decide) (he : starEach (e :: es) X.env = (false, eval e X.env) :: starEach es X.env := by exact star_of rfl) (hpl : (backTo pos (starEach es X.env)).any (·.1) = false := by exact star_no rfl) :
    EvE X a (.Call (.Name x p) (e :: es) [] pos) ρ d := fun T σ H S Q q => by
  obtain ⟨f, fd, F, hm, hk, hb⟩ := C.ex
  refine toE (pe_call F hr hg hm hk hb (ds := []) (dvs := []) .nil pass0 ja hdb he hpl) (ha T σ H S _ fun vs H1 s1 p1 => ?_)
  rw [List.append_nil]
  exact ⟨T, ds, d, S.dm.same s1, p1, hR, fun v H2 s2 p2 => q v H2 (s1.trans s2) p2⟩
/-- what a built-in does with data -/
def CaD (X : Cx) (f : Value) (ds : List PyData) (d : PyData) : Prop := ∃ r, CallR X f r ∧ ∀ T vs H, Din T H → DpAll X.K (off T H) vs ds → ∀ Q : VK, (∀ v H2, Sm H H2 → Dp X.K (off T H2) v d → Q v H2) → r vs H Q
theorem e_callB {x : Str} {p : Pos} {id : String} (hc : CaD X (.builtin id) ds d) (ha : EvA X a (e :: es) ρ ds) (hm : X.mg x = none) (hv : bootBuiltins x = some (.builtin id)) (hg : Gl X x := by rfl) (hn : x ≠ "__name__" := by decide) (hdb : (x == ("__debug__" : Str)) = false := by decide)
    (he : starEach (e :: es) X.env = (false, eval e X.env) :: starEach es X.env := by exact star_of rfl) (hpl : (backTo pos (starEach es X.env)).any (·.1) = false := by exact star_no rfl) : EvE X a (.Call (.Name x p) (e :: es) [] pos) ρ d := fun T σ H S Q q => by
  obtain ⟨r, h1, h2⟩ := hc
  exact toE (pe_callB h1 hg hm hv ja hn hdb he hpl) (ha T σ H S _ fun vs H1 s1 p1 => h2 T vs H1 (S.dm.same s1) p1 Q fun v H2 s2 p2 => q v H2 (s1.trans s2) p2)
theorem e_callT {x : Str} {p : Pos} {Ty : String} (hc : CaD X (.type Ty) ds d) (ha : EvA X a (e :: es) ρ ds) (hm : X.mg x = none) (hv : bootBuiltins x = some (.type Ty)) (hg : Gl X x := by rfl) (hn : x ≠ "__name__" := by decide) (hdb : (x == ("__debug__" : Str)) = false := by decide)
    (he : starEach (e :: es) X.env = (false, eval e X.env) :: starEach es X.env := by exact star_of rfl) (hpl : (backTo pos (starEach es X.env)).any (·.1) = false := by exact star_no rfl) : EvE X a (.Call (.Name x p) (e :: es) [] pos) ρ d := fun T σ H S Q q => by
  obtain ⟨r, h1, h2⟩ := hc
  exact toE (pe_callTy h1 hg hm hv ja hn hdb he hpl) (ha T σ H S _ fun vs H1 s1 p1 => h2 T vs H1 (S.dm.same s1) p1 Q fun v H2 s2 p2 => q v H2 (s1.trans s2) p2)
theorem e_callM {x : Str} {p : Pos} {id : String} (hc : CaD X (.builtin id) ds d) (ha : EvA X a (e :: es) ρ ds) (hm : X.mg x = some (.builtin id)) (hg : Gl X x := by rfl) (hdb : (x == ("__debug__" : Str)) = false := by decide)
    (he : starEach (e :: es) X.env = (false, eval e X.env) :: starEach es X.env := by exact star_of rfl) (hpl : (backTo pos (starEach es X.env)).any (·.1) = false := by exact star_no rfl) : EvE X a (.Call (.Name x p) (e :: es) [] pos) ρ d := fun T σ H S Q q => by
  obtain ⟨r, h1, h2⟩ := hc
  exact toE (pe_callBfun h1 hg hm ja hdb he hpl) (ha T σ H S _ fun vs H1 s1 p1 => h2 T vs H1 (S.dm.same s1) p1 Q fun v H2 s2 p2 => q v H2 (s1.trans s2) p2)
theorem dps1 {K : PySem.W.Frag} {H : Hp} {vs : List V} (h : DpAll K H vs [d]) : ∃ v, vs = [v] ∧ Dp K H v d := by
  cases h with
  | cons h1 h2 => cases h2; exact ⟨_, rfl, h1⟩
theorem dps2 {K : PySem.W.Frag} {H : Hp} {vs : List V} {d' : PyData} (h : DpAll K H vs [d, d']) : ∃ v v', vs = [v, v'] ∧ Dp K H v d ∧ Dp K H v' d' := by
  cases h with
  | cons h1 h2 =>
    obtain ⟨v', rfl, h3⟩ := dps1 h2
    exact ⟨_, v', rfl, h1, h3⟩
theorem ca_lenT : CaD X (.builtin "len") [.tuple ds] (.int ds.length) := ⟨_, call_len_seq, fun T vs H dm p Q q => by
  obtain ⟨v, rfl, h⟩ := dps1 p
  obtain ⟨pa, xs, rfl, g1, g2⟩ := dpo_tup h
  exact ⟨pa, xs, rfl, .inr g1, by rw [dps_len g2]; exact q _ H (Sm.refl H) (.int _)⟩⟩
theorem ca_lenL : CaD X (.builtin "len") [.list ds] (.int ds.length) := ⟨_, call_len_seq, fun T vs H dm p Q q => by
  obtain ⟨v, rfl, h⟩ := dps1 p
  obtain ⟨pa, xs, rfl, g1, g2⟩ := dpo_lst h
  exact ⟨pa, xs, rfl, .inl g1, by rw [dps_len g2]; exact q _ H (Sm.refl H) (.int _)⟩⟩
theorem ca_abs : CaD X (.builtin "abs") [.int i] (.int (if i < 0 then -i else i)) := ⟨_, call_abs, fun T vs H dm p Q q => by
  obtain ⟨v, rfl, h⟩ := dps1 p
  exact ⟨i, by rw [dp_int h], q _ H (Sm.refl H) (.int _)⟩⟩
theorem ca_int : CaD X (.type "int") [.int i] (.int i) := ⟨_, call_int1, fun T vs H dm p Q q => by
  obtain ⟨v, rfl, h⟩ := dps1 p
  exact .inl ⟨i, by rw [dp_int h], q _ H (Sm.refl H) (.int _)⟩⟩
theorem ca_intB {b : Bool} : CaD X (.type "int") [.bool b] (.int (if b then 1 else 0)) := ⟨_, call_int1, fun T vs H dm p Q q => by
  obtain ⟨v, rfl, h⟩ := dps1 p
  exact .inr ⟨b, by rw [dp_bool h], q _ H (Sm.refl H) (.int _)⟩⟩
theorem ca_max (hc : X.calm = true) : CaD X (.builtin "max") [.int i, .int j] (.int (if j > i then j else i)) := ⟨_, call_max2 hc, fun T vs H dm p Q q => by
  obtain ⟨v, v', rfl, h, h'⟩ := dps2 p
  exact ⟨i, j, by rw [dp_int h, dp_int h'], q _ H (Sm.refl H) (.int _)⟩⟩
theorem ca_min (hc : X.calm = true) : CaD X (.builtin "min") [.int i, .int j] (.int (if j < i then j else i)) := ⟨_, call_min2 hc, fun T vs H dm p Q q => by
  obtain ⟨v, v', rfl, h, h'⟩ := dps2 p
  exact ⟨i, j, by rw [dp_int h, dp_int h'], q _ H (Sm.refl H) (.int _)⟩⟩
theorem ca_gcd : CaD X (.builtin "math.gcd") [.int i, .int j] (.int ((Nat.gcd i.natAbs j.natAbs : Nat) : Int)) := ⟨_, cr_gcd, fun T vs H dm p Q q => by
  obtain ⟨v, v', rfl, h, h'⟩ := dps2 p
  exact ⟨i, j, by rw [dp_int h, dp_int h'], q _ H (Sm.refl H) (.int _)⟩⟩
theorem ca_tupL : CaD X (.type "tuple") [.list ds] (.tuple ds) := ⟨_, call_tuple_of, fun T vs H dm p Q q => by
  obtain ⟨v, rfl, h⟩ := dps1 p
  obtain ⟨pa, xs, rfl, g1, g2⟩ := dpo_lst h
  exact ⟨pa, xs, rfl, .inl ⟨g1, fun l hl => q _ _ (same_new hl) (dpo_newT dm hl g2)⟩⟩⟩
theorem ca_tupT : CaD X (.type "tuple") [.tuple ds] (.tuple ds) := ⟨_, call_tuple_of, fun T vs H dm p Q q => by
  obtain ⟨v, rfl, h⟩ := dps1 p
  obtain ⟨pa, xs, rfl, g1, g2⟩ := dpo_tup h
  exact ⟨pa, xs, rfl, .inr ⟨g1, q _ H (Sm.refl H) h⟩⟩⟩
theorem ca_listT : CaD X (.type "list") [.tuple ds] (.list ds) := ⟨_, call_list_of, fun T vs H dm p Q q => by
  obtain ⟨v, rfl, h⟩ := dps1 p
  obtain ⟨pa, xs, rfl, g1, g2⟩ := dpo_tup h
  exact ⟨pa, xs, rfl, .inr g1, fun l hl => q _ _ (same_new hl) (dpo_newL dm hl g2)⟩⟩
theorem ca_listL : CaD X (.type "list") [.list ds] (.list ds) := ⟨_, call_list_of, fun T vs H dm p Q q => by
  obtain ⟨v, rfl, h⟩ := dps1 p
  obtain ⟨pa, xs, rfl, g1, g2⟩ := dpo_lst h
  exact ⟨pa, xs, rfl, .inl g1, fun l hl => q _ _ (same_new hl) (dpo_newL dm hl g2)⟩⟩
theorem ca_sum (hc : X.calm = true) {ns : List Int} : CaD X (.builtin "sum") [.list (ns.map .int)] (.int ns.sum) := ⟨_, cr_sum hc, fun T vs H dm p Q q => by
  obtain ⟨v, rfl, h⟩ := dps1 p
  obtain ⟨pa, xs, rfl, g1, g2⟩ := dpo_lst h
  exact ⟨pa, ns, rfl, by rw [← vs_ints g2]; exact g1, q _ H (Sm.refl H) (.int _)⟩⟩
theorem ca_all (hc : X.calm = true) {bs : List Bool} : CaD X (.builtin "all") [.list (bs.map .bool)] (.bool (bs.all id)) := ⟨_, cr_all hc, fun T vs H dm p Q q => by
  obtain ⟨v, rfl, h⟩ := dps1 p
  obtain ⟨pa, xs, rfl, g1, g2⟩ := dpo_lst h
  exact ⟨pa, bs, rfl, by rw [← vs_bools g2]; exact g1, q _ H (Sm.refl H) (.bl _)⟩⟩
end
end Zj
/-! enumerate of a tuple. -/
namespace Zj
open PySem PySem.Spec PyProof.Rows L2
variable [Nm]
open AutoSeq1 (wpAny_loadPart')
theorem enumT_new (l : Addr) (items : Array Value) (n : Nat) (dct : Option Addr) (sl : Array (Option Value)) :
    Meets (Builtin.«enumerate.__new__» ⟨[.type "enumerate", .ref l], []⟩) (fun _ R s => s.heap.get? l = some { cls := .type "tuple", dict := dct, data := .seq items n, slots := sl } ∧
      R (.ok (.ret (.ref (s.heap.push { cls := .type "tuple_iterator", data := .fields #[.ref l, .int 0 0] }).objs.size)))
        { s with heap := (s.heap.push { cls := .type "tuple_iterator", data := .fields #[.ref l, .int 0 0] }).push { cls := .type "enumerate", data := .fields #[.none, .bool false, .ref s.heap.objs.size, rawInt 0, .none, .none] } }) :=
  .of_wp fun prog w A R s h => by
    obtain ⟨hp, g, d, tk, os⟩ := s
    obtain ⟨hl, h⟩ := h
    have hsub := sub_enumerate
    have hTu : Heap.IsTuple (Shared.heap ⟨hp, g, d, tk, os⟩) l items := ⟨_, hl, rfl, n, rfl⟩
    wp_walk using wpAny_loadPart' hl
    refine wpAny_stack_any fun st => wpAny_pure ?_
    split
    · rename_i c _ _ _ _ _
      cases (c == Value.type "enumerate")
      all_goals
        wp_walk using wpAny_loadPart' hl, wpAny_pyIter_tuple hTu
        exact ⟨_, rfl, h⟩
    · wp_walk using wpAny_loadPart' hl, wpAny_pyIter_tuple hTu
      exact ⟨_, rfl, h⟩
section
variable {prog : Program} {w : World} {A : Around} {E : Value → Shared → Prop} {s : Shared}
theorem call_enumT {l : Addr} {items : Array Value} {Q : Value → Shared → Prop} (hT : IsTup s.heap l items)
    (h : ∀ h', IsEnum h' (s.heap.objs.size + 1) s.heap.objs.size 0 .none → h'.IsTupleIter s.heap.objs.size l 0 → (∀ b o, s.heap.get? b = some o → h'.get? b = some o) → Q (.ref (s.heap.objs.size + 1)) { s with heap := h' }) :
    wpAny (model prog w) A (call (.type "enumerate") [.ref l]) Q E s := by
  obtain ⟨⟨c, dct, dt, sl⟩, hl, hc, n, hd⟩ := hT
  simp only at hc hd
  subst hc hd
  refine callType_new F.called_enumerate (by decide) (F.typeCall_enumerate_1 _) (F.newCall_enumerate_1 _) (fun obj => F.args_object_init_2 obj _) F.entry_enumerate_new (enumT_new l items n dct sl) ⟨hl, ?_⟩
  have hz : (s.heap.push { cls := .type "tuple_iterator", data := .fields #[.ref l, .int 0 0] }).objs.size = s.heap.objs.size + 1 := Heap.size_push ..
  have he := Heap.get?_push_size (s.heap.push { cls := .type "tuple_iterator", data := .fields #[.ref l, .int 0 0] }) (o := { cls := .type "enumerate", data := .fields #[.none, .bool false, .ref s.heap.objs.size, rawInt 0, .none, .none] }) rfl
  rw [hz] at he
  show _ ∧ _
  rw [hz]
  exact ⟨⟨_, he, rfl⟩, h _ he ⟨_, Heap.get?_push_of_some _ (Heap.get?_push_size _ rfl), rfl, rfl⟩ fun b o x => Heap.get?_push_of_some _ (Heap.get?_push_of_some _ x)⟩
end
/-- the tuple at a, each item in a new pair -/
def IteT (K : PySem.W.Frag) (a : Addr) : It :=
  ⟨fun i H => ∃ (xs : List V) (x : V), SqT K H a xs ∧ xs[i]? = some x, fun i H v H' => ∃ T x, v = .ref T ∧ H T = none ∧ H' = upd H T (.tup [.int (i : Nat), x]) ∧ ∀ xs, SqT K H a xs → xs[i]? = some x, fun i H => ∃ xs : List V, SqT K H a xs ∧ xs.length ≤ i⟩
theorem turn_enumT {P : Program} {w : World} {K : PySem.W.Frag} {elts : List Expr} {kk : Nat} {tpos : Pos} (a e it : Addr) :
    Turn P w K (.Tuple elts kk tpos) (IteT K a) [e, it] e (fun i h => (∃ old, IsEnum h e it ((i : Nat) : Int) old) ∧ h.IsTupleIter it a i ∧ e ≠ it ∧ e ≠ a ∧ a ≠ it) where
  mem := by simp
  obj := fun i h st b hb => by
    obtain ⟨⟨old, he⟩, ⟨o, ho, hc, hd⟩, _⟩ := st
    have e' : b = e ∨ b = it := by simpa using hb
    rcases e' with z | z
    · rw [z]; exact ⟨_, he, fun v q => nomatch q⟩
    · rw [z]; exact ⟨o, ho, fun v q => by rw [hd] at q; cases q⟩
  keep := fun i h h' st k => by
    obtain ⟨⟨old, he⟩, hi, hne⟩ := st
    exact ⟨⟨old, k e (by simp) _ he⟩, hi.at fun o q => k it (by simp) o q, hne⟩
  item := by
    intro X hP hw hK hc i pins s σ H E I hf st hg
    subst hP hw hK
    obtain ⟨⟨old, he⟩, hit, hne, hea, hai⟩ := st
    obtain ⟨xs, x, hq, hx⟩ := hg
    obtain ⟨its, rv, p, hz⟩ := I.tuple hq
    obtain ⟨u, hu, ru⟩ := rv.get hx
    have hlt : i < its.toArray.size := by
      have := (List.getElem?_eq_some_iff.mp hu).1
      simpa using this
    have hel : e < s.heap.objs.size := Heap.lt_size he
    have hil : it < s.heap.objs.size := by obtain ⟨_, q, _⟩ := hit; exact Heap.lt_size q
    refine wpAny_pyNext_enum_itemD (Draws.tuple (A := X.A.in1) (I.ok.hd hc) it a hai its.toArray) he ⟨hit, p⟩ hlt hne (by simp; exact ⟨hne, hea⟩) fun x' h' tk hx' ho hst' hT hsz hk => ?_
    have exu : x' = u := by
      have z : some u = some x' := by
        rw [← hx']
        simpa using hu.symm
      exact (Option.some.inj z).symm
    subst exu
    refine ⟨_, rfl, wpAny_letOwnedTupleGo_enum (s := { s with heap := h', toks := tk + 1 }) ho fun h'' he' sb => ?_⟩
    have hT2 : h''.get? s.heap.objs.size = some { cls := .type "tuple", data := .seq #[.int i tk, x'] } := (sb.2 _ (Nat.ne_of_gt hel)).trans hT
    have new : ObjOk X.prog X.w (upd H s.heap.objs.size (.tup [.int (i : Nat), x])) h'' s.heap.objs.size (.tup [.int (i : Nat), x]) :=
      ⟨by show 2 ≤ sizeLine; decide, [.int i tk, x'], .cons ⟨_, rfl⟩ (.cons ru .nil), ⟨_, hT2, rfl, _, rfl⟩⟩
    have I1 : Inv X pins σ (upd H s.heap.objs.size (.tup [.int (i : Nat), x])) { s with heap := h'', toks := tk + 1 } := by
      refine I.turnedNew (ch := [e, it]) (fun b ob hb q => ?_) hf (Nat.le_refl _) new
      exact (sb.2 b (fun z => hb (by simp [z]))).trans (hk b ob (fun z => hb (by simp [z])) (fun z => hb (by simp [z])) q)
    refine ⟨.ref s.heap.objs.size, _, I1, rfl, ⟨_, x, rfl, I.hok.fresh (Nat.le_refl _), rfl, fun ys hy => by rw [I.tuple_inj hy hq]; exact hx⟩, ⟨⟨x', ?_⟩, hst'.1.at fun o q => (sb.2 it (Ne.symm hne)).trans q, hne, hea, hai⟩, fun b hb => ?_⟩
    · have e1 : ((i + 1 : Nat) : Int) = (i : Int) + 1 := by omega
      rw [e1]
      exact he'
    · have hb' : b < s.heap.objs.size := by
        have e' : b = e ∨ b = it := by simpa using hb
        rcases e' with z | z
        · rw [z]; exact hel
        · rw [z]; exact hil
      rw [upd_ne (Nat.ne_of_lt hb')]
      exact (hf b hb).1
  done := by
    intro X hP hw hK hc i pins s σ H E I hf st hg
    subst hP hw hK
    obtain ⟨⟨old, he⟩, hit, hne, hea, hai⟩ := st
    obtain ⟨xs, hq, hx⟩ := hg
    obtain ⟨its, rv, p, hz⟩ := I.tuple hq
    obtain ⟨f0, f1, f2, f3, f4, f5⟩ := hf it (by simp)
    have hl := rv.length
    have D : Draws X.prog X.w X.A.in1 it [it, a] i (fun i v => its.toArray[i]? = some v) (fun j h => j = i ∧ h.IsTupleIter it a j ∧ h.IsTuple a its.toArray ∧ its.toArray.size ≤ i) := {
      live := fun j h st => by obtain ⟨_, ⟨o, ho, _⟩, _⟩ := st; exact ⟨o, ho⟩
      frame := fun j h h' st hk => ⟨st.1, st.2.1.at fun o e => hk it (by simp) o e, st.2.2.1.at fun o e => hk a (by simp) o e, st.2.2.2⟩
      item := fun j s Q E hi st hQ => by
        have := st.1
        omega
      done := fun s Q E st hE => wpAny_nextOf_tuple_end (I.ok.hd hc) st.2.1 st.2.2.1 (by have := st.2.2.2; simp only [Array.getElem?_eq_none_iff]; omega) hE }
    exact wpAny_pyNext_enum_endD D he ⟨rfl, hit, p, by simp; omega⟩ fun h' eb => ⟨rfl, I.turned (t' := s.toks) (fun b o hb q => eb b o hb q) f0 f1 f3 f4 f5⟩
  self := fun A i s Q E st h => by
    obtain ⟨⟨_, he⟩, _⟩ := st
    exact wpAny_pyIter_enum he h
def iEnumT (K : PySem.W.Frag) (ta : TA) : TI := fun σ H R => ta σ H fun vs H1 => ∃ a xs, vs = [.ref a] ∧ SqT K H1 a xs ∧ R (IteT K a) H1
theorem pi_enumT {X : Cx} {e : Expr} {ta : TA} {p pos tpos : Pos} {elts : List Expr} {kk : Nat} (hg : Gl X "enumerate") (hm : X.mg "enumerate" = none) (ha : PA X [e] ta) (hs : starEach [e] X.env = [(false, eval e X.env)] := by exact star_of rfl) :
    PI X (.Tuple elts kk tpos) (.Call (.Name "enumerate" p) [e] [] pos) (iEnumT X.K ta) := by
  refine ⟨fun pins s σ H R I h => ?_⟩
  refine Call_ (ld_blt I hg hm boot_enumerate (PyProof.Rows.callWith_type1 (thn (ha.run pos pins s σ H _ I h) fun us s1 hv => ?_) hs rfl))
  obtain ⟨vs, H1, I1, r1, a, xs, rfl, hq, q⟩ := hv
  obtain ⟨u, rfl, ru⟩ := vals1 r1
  cases ru
  obtain ⟨its, rv, p', hz⟩ := I1.tuple hq
  have al : a < s1.heap.objs.size := p'.lt
  refine call_enumT p' fun h' he hit hk => wpAny_pyIter_enum he ?_
  have I2 : Inv X pins σ H1 { s1 with heap := h' } := I1.kept (t' := s1.toks) hk
  refine ⟨s1.heap.objs.size + 1, [s1.heap.objs.size + 1, s1.heap.objs.size], _, _, H1, rfl, I2, turn_enumT a (s1.heap.objs.size + 1) s1.heap.objs.size, ⟨⟨.none, he⟩, hit, Nat.succ_ne_self _, Nat.ne_of_gt (Nat.lt_succ_of_lt al), Nat.ne_of_lt al⟩, fun b hb => ?_, q⟩
  have hle : s1.heap.objs.size ≤ b := by
    have e' : b = s1.heap.objs.size + 1 ∨ b = s1.heap.objs.size := by simpa using hb
    rcases e' with z | z
    · rw [z]; exact Nat.le_add_right _ _
    · rw [z]; exact Nat.le_refl _
  exact I1.fpOk hle (I1.hok.fresh hle)
theorem walk_enumT {K : PySem.W.Frag} {a : Addr} {xs : List V} : Walk (IteT K a) xs.length (fun H => SqT K H a xs) (YPair (fun i => some (.int (i : Nat))) (fun i => xs[i]?)) := by
  refine ⟨fun i _ hi q => ⟨xs, xs[i], q, by simp [hi]⟩, fun _ q => ⟨xs, q, Nat.le_refl _⟩, fun i H v H' _ q y => ?_⟩
  obtain ⟨T, x, h1, h2, h3, h4⟩ := y
  exact ⟨T, .int (i : Nat), x, h1, h2, h3, rfl, h4 xs q⟩
theorem walk_zipT {K : PySem.W.Frag} {a b : Addr} {xs ys : List V} {n : Nat} (hn : n = min xs.length ys.length) : Walk (RZ.ItzT K a b) n (fun H => SqT K H a xs ∧ SqT K H b ys) (YPair (fun i => xs[i]?) (fun i => ys[i]?)) := by
  subst hn
  refine ⟨fun i _ hi q => ?_, fun _ q => ⟨xs, ys, q.1, q.2, by omega⟩, fun i H v H' _ q y => ?_⟩
  · have h1 : i < xs.length := by omega
    have h2 : i < ys.length := by omega
    exact ⟨xs, ys, xs[i], ys[i], q.1, q.2, by simp [h1], by simp [h2]⟩
  · obtain ⟨T, x, z, h1, h2, h3, h4, h5⟩ := y
    exact ⟨T, x, z, h1, h2, h3, h4 xs q.1, h5 ys q.2⟩
end Zj
/-! Blocks, loops, comprehensions, said of data. -/
namespace Zj
open PySem PySem.Spec PyProof.Rows L2
variable [Nm]
structure Good (X : Cx) : Prop where
  nd : X.N.Nodup
  calm : X.calm = true
  ow : PassesOwn (model X.prog X.w) X.A X.env X.xe
  un : X.A.units + 64 < cLine
section
variable {X : Cx} {a : Addr} {ρ : Rho} {N : Rho → Prop} {R : PyData → Prop}
def Run (X : Cx) (a : Addr) (sts : List Stmt) (ρ : Rho) (N : Rho → Prop) (R : PyData → Prop) : Prop := ∀ T σ H D, SD X.K a T H σ ρ → (∀ σ' H' ρ', Sm H H' → SD X.K a T H' σ' ρ' → N ρ' → D.nx σ' H') → (∀ v H' d, Sm H H' → Dp X.K (off T H') v d → R d → D.rt v H') → JSs X sts D σ H
def RunS (X : Cx) (a : Addr) (st : Stmt) (ρ : Rho) (N : Rho → Prop) (R : PyData → Prop) : Prop := ∀ T σ H D, SD X.K a T H σ ρ → (∀ σ' H' ρ', Sm H H' → SD X.K a T H' σ' ρ' → N ρ' → D.nx σ' H') → (∀ v H' d, Sm H H' → Dp X.K (off T H') v d → R d → D.rt v H') → JS X st D σ H
variable {st : Stmt} {sts : List Stmt} {e : Expr} {d : PyData} {pos : Pos}
theorem r_nil (h : N ρ) : Run X a [] ρ N R := fun T σ H D S kn kr => toSs pss_nil (kn σ H ρ (Sm.refl H) S h)
theorem r_cons (h : RunS X a st ρ (fun ρ' => Run X a sts ρ' N R) R) : Run X a (st :: sts) ρ N R := fun T σ H D S kn kr =>
  toSs (pss_cons js jss) (h T σ H { D with nx := fun σ' H' => JSs X sts D σ' H' } S (fun σ' H' ρ' s S' hN => hN T σ' H' D S' (fun σ2 H2 ρ2 s2 S2 n2 => kn σ2 H2 ρ2 (s.trans s2) S2 n2) fun v H2 d s2 p r => kr v H2 d (s.trans s2) p r) kr)
theorem r_one (h : RunS X a st ρ N R) : Run X a [st] ρ N R := fun T σ H D S kn kr => toSs (pss_one js) (h T σ H D S kn kr)
theorem r_never (h : False) : Run X a sts ρ N R := h.elim
theorem rs_ret (h : EvE X a e ρ d) (hr : R d) : RunS X a (.Return (some e) pos) ρ N R := fun T σ H D S kn kr => toS (ps_ret je) (h T σ H S _ fun v H1 s1 p1 => kr v H1 d s1 p1 hr)
theorem rs_expr (h : EvE X a e ρ d) (hn : N ρ) (hs : swapsWith e none pos.line X.env = pure false := by rfl) : RunS X a (.Expr e pos) ρ N R := fun T σ H D S kn kr => toS (ps_expr je hs) (h T σ H S _ fun v H1 s1 p1 => kn σ H1 ρ s1 (S.same s1) hn)
theorem rs_set {i : Nat} {x : Str} {pos' : Pos} (G : Good X) (h : EvE X a e ρ d) (hn : N (ρ.set i (some (.dat d)))) (hi : X.N[i]? = some x := by rfl) (hx : Loc X.env.scope x := by first | exact Or.inl rfl | exact Or.inr rfl)
    (hs : swapsWith e (some (.Name x pos')) pos.line X.env = pure false := by rfl) (hf : X.fn x = true ∨ X.env.scope.names.lookup x = some .local := by first | exact .inl rfl | exact .inr rfl) : RunS X a (.Assign [.Name x pos'] e pos) ρ N R := fun T σ H D S kn kr =>
  toS (ps_set G.nd hi hx je hs hf) (h T σ H S _ fun v H1 s1 p1 => kn _ H1 _ s1 ((S.same s1).put (x := .dat d) p1) hn)
theorem rs_if {c : Expr} {b : Bool} {body orelse : List Stmt} (hc : EvT X a c ρ b) (h1 : b = true → Run X a body ρ N R) (h2 : b = false → Run X a orelse ρ N R) : RunS X a (.If c body orelse pos) ρ N R := fun T σ H D S kn kr =>
  toS (ps_if jt jss jss) (hc T σ H S _ fun H1 s1 => by
    cases b with
    | true => exact iteT (h1 rfl T σ H1 D (S.same s1) (fun σ2 H2 ρ2 s2 S2 n2 => kn σ2 H2 ρ2 (s1.trans s2) S2 n2) fun v H2 d s2 p r => kr v H2 d (s1.trans s2) p r)
    | false => exact iteF (h2 rfl T σ H1 D (S.same s1) (fun σ2 H2 ρ2 s2 S2 n2 => kn σ2 H2 ρ2 (s1.trans s2) S2 n2) fun v H2 d s2 p r => kr v H2 d (s1.trans s2) p r))
/-- two plain local names at once -/
theorem rs_par {i j : Nat} {x y : Str} {e1 e2 : Expr} {px py pt : Pos} {kt k2 pt2} {d1 d2 : PyData} (G : Good X) (h : EvA X a [e1, e2] ρ [d1, d2]) (hn : N ((ρ.set i (some (.dat d1))).set j (some (.dat d2)))) (hi : X.N[i]? = some x := by rfl) (hj : X.N[j]? = some y := by rfl) (hij : i ≠ j := by decide)
    (hx : X.env.scope.names.lookup x = some .local := by rfl) (hy : X.env.scope.names.lookup y = some .local := by rfl)
    (hw : swappedStores [.Tuple [.Name x px, .Name y py] kt pt] (.Tuple [e1, e2] k2 pt2) X.env = pure (some [x, y]) := by rfl)
    (hs : swapsWithSole [.Tuple [.Name x px, .Name y py] kt pt] (.Tuple [e1, e2] k2 pt2) pos.line X.env = pure false := by rfl) :
    RunS X a (.Assign [.Tuple [.Name x px, .Name y py] kt pt] (.Tuple [e1, e2] k2 pt2) pos) ρ N R := fun T σ H D S kn kr =>
  toS (ps_par G.calm G.nd hi hj hij hx hy ja hw hs) (h T σ H S _ fun vs H1 s1 p1 => by
    obtain ⟨v, v', rfl, q1, q2⟩ := dps2 p1
    exact ⟨v, v', rfl, kn _ H1 _ s1 (((S.same s1).put (x := .dat d1) q1).put (x := .dat d2) q2) hn⟩)
/-- a target of two or three names, from a tuple -/
theorem rs_asg {tg : Expr} {g : TG} {ρ' : Rho} (h : EvE X a e ρ d) (hg : PG X tg g) (ht : ∀ T σ H v, SD X.K a T H σ ρ → Dp X.K (off T H) v d → ∀ Q : L2.St → Hp → Prop, (∀ σ', SD X.K a T H σ' ρ' → Q σ' H) → g v σ H Q) (hn : N ρ')
    (hs : swapsWithSole [tg] e pos.line X.env = pure false := by rfl) (hw : swappedStores [tg] e X.env = pure none := by rfl) (h1 : (assignEach [tg] X.env).map (·.2) = [assign tg X.env] := by rfl) : RunS X a (.Assign [tg] e pos) ρ N R := fun T σ H D S kn kr =>
  toS (ps_asg je hg hs hw h1) (h T σ H S _ fun v H1 s1 p1 => ht T σ H1 v (S.same s1) p1 _ fun σ' S' => kn σ' H1 ρ' s1 S' hn)
theorem rs_while {c : Expr} {body : List Stmt} (G : Good X) (W : Nat → Rho → Prop) (m0 : Nat) (h0 : W m0 ρ)
    (hs : ∀ m ρ', W m ρ' → ∃ b, EvT X a c ρ' b ∧ (b = true → Run X a body ρ' (fun ρ2 => ∃ m', m' < m ∧ W m' ρ2) R) ∧ (b = false → N ρ')) : RunS X a (.While c body [] pos) ρ N R := fun T σ H D S kn kr =>
  toS (ps_while G.ow jt jss) ⟨fun m σ' H' => Sm H H' ∧ ∃ ρ', SD X.K a T H' σ' ρ' ∧ W m ρ', ⟨m0, Sm.refl H, ρ, S, h0⟩, fun m σ' H' hW => by
    obtain ⟨s1, ρ', S', w⟩ := hW
    obtain ⟨b, hb, k1, k2⟩ := hs m ρ' w
    refine hb T σ' H' S' _ fun H2 s2 => ?_
    cases b with
    | true =>
      refine iteT ⟨fun σ3 H3 => ∃ m', m' < m ∧ (Sm H H3 ∧ ∃ ρ', SD X.K a T H3 σ3 ρ' ∧ W m' ρ'), fun _ _ q => q, ?_⟩
      exact k1 rfl T σ' H2 _ (S'.same s2) (fun σ3 H3 ρ3 s3 S3 ⟨m', hm, w'⟩ => ⟨m', hm, (s1.trans s2).trans s3, ρ3, S3, w'⟩) fun v H3 d s3 p r => kr v H3 d ((s1.trans s2).trans s3) p r
    | false => exact iteF (kn σ' H2 ρ' (s1.trans s2) (S'.same s2) (k2 rfl))⟩
end

/-! ### what is walked -/
section
variable {X : Cx} {a : Addr} {ρ : Rho} {tg it e e2 : Expr} {es : List Expr} {ds items : List PyData} {p pos : Pos}
/-- from H1 on, T out of sight, what was in sight stays in sight -/
def Sees (T : Addr → Prop) (H1 : Hp) (T' : Addr → Prop) (H' : Hp) : Prop := Din T' H' ∧ Sa (off T H1) (off T' H')
def Src (X : Cx) (a : Addr) (tg it : Expr) (ρ : Rho) (items : List PyData) : Prop := ∃ wi, PI X tg it wi ∧ ∀ T σ H, SD X.K a T H σ ρ → ∀ R : It → Hp → Prop,
  (∀ J H1 (Gd : Hp → Prop) Y, Sm H H1 → Walk J items.length Gd Y → (∀ T' H', Sees T H1 T' H' → Gd H') →
    (∀ T' i H' x H'', i < items.length → Sees T H1 T' H' → Y i H' x H'' → Sm H' H'' ∧ ∃ d, items[i]? = some d ∧ Dp X.K (off T' H'') x d) → R J H1) → wi σ H R
theorem src_L (h : EvE X a e ρ (.list ds)) : Src X a tg e ρ ds := ⟨_, pi_list je, fun T σ H S R k => h T σ H S _ fun v H1 s1 p1 => by
  obtain ⟨pa, xs, rfl, g1, g2⟩ := dp_lst p1
  have hl := dps_len g2
  refine ⟨pa, rfl, ⟨xs, same_l off_in _ _ g1⟩, k _ H1 (fun H => SqL X.K H pa xs) (YAt xs) s1 (by rw [← hl]; exact walk_list) (fun T' H' s => same_l off_in _ _ (same_l s.2 _ _ g1)) fun T' i H' x H'' hin s y => ?_⟩
  obtain ⟨rfl, hx⟩ := y
  obtain ⟨d, hd⟩ : ∃ d, ds[i]? = some d := by
    have := (List.getElem?_eq_some_iff.mp hx).1
    exact ⟨ds[i]'(by omega), by simp⟩
  obtain ⟨v, hv, pv⟩ := dps_get g2 hd
  rw [hx] at hv
  cases hv
  exact ⟨Sm.refl _, d, hd, dp_same s.2 pv⟩⟩
theorem src_T (h : EvE X a e ρ (.tuple ds)) : Src X a tg e ρ ds := ⟨_, pi_tup je, fun T σ H S R k => h T σ H S _ fun v H1 s1 p1 => by
  obtain ⟨pa, xs, rfl, g1, g2⟩ := dp_tup p1
  have hl := dps_len g2
  refine ⟨pa, rfl, ⟨xs, same_t off_in _ _ g1⟩, k _ H1 (fun H => SqT X.K H pa xs) (YAt xs) s1 (by rw [← hl]; exact walk_tup) (fun T' H' s => same_t off_in _ _ (same_t s.2 _ _ g1)) fun T' i H' x H'' hin s y => ?_⟩
  obtain ⟨rfl, hx⟩ := y
  obtain ⟨d, hd⟩ : ∃ d, ds[i]? = some d := by
    have := (List.getElem?_eq_some_iff.mp hx).1
    exact ⟨ds[i]'(by omega), by simp⟩
  obtain ⟨v, hv, pv⟩ := dps_get g2 hd
  rw [hx] at hv
  cases hv
  exact ⟨Sm.refl _, d, hd, dp_same s.2 pv⟩⟩
/-- the whole numbers below n -/
def upTo (n : Nat) : List PyData := (List.range n).map fun (i : Nat) => PyData.int (i : Int)
theorem src_R {n : Int} (h : EvA X a [e] ρ [.int n]) (hn : n < 2 ^ 62) (h0 : -(2 ^ 62) ≤ n) (hm : X.mg "range" = none) (hg : Gl X "range" := by rfl) (hs : starEach [e] X.env = [(false, eval e X.env)] := by exact star_of rfl) :
    Src X a tg (.Call (.Name "range" p) [e] [] pos) ρ (upTo n.toNat) := ⟨_, pi_range1 hg hm ja hs, fun T σ H S R k => h T σ H S _ fun vs H1 s1 p1 => by
  obtain ⟨v, rfl, q⟩ := dps1 p1
  refine ⟨n, by rw [dp_int q], h0, hn, k _ H1 _ _ s1 (by rw [show (upTo n.toNat).length = n.toNat by simp [upTo]]; exact walk_range) (fun _ _ _ => trivial) fun T' i H' x H'' hin s y => ?_⟩
  obtain ⟨rfl, rfl⟩ := y
  have hi : i < n.toNat := by simpa [upTo] using hin
  refine ⟨Sm.refl _, .int (i : Int), ?_, ?_⟩
  · unfold upTo
    rw [List.getElem?_map, List.getElem?_range hi] <;> rfl
  · have e : V.int ((0 : Int) + (i : Int)) = V.int (i : Int) := by rw [Int.zero_add]
    show Dp X.K (off T' H'') (V.int ((0 : Int) + (i : Int))) (.int (i : Int))
    rw [e]
    exact .int _⟩
theorem dpo_pair {K : PySem.W.Frag} {T : Addr → Prop} {H : Hp} {q : Addr} {x y : V} {d1 d2 : PyData} (t : Din T H) (hq : H q = none) (h1 : Dp K (off T H) x d1) (h2 : Dp K (off T H) y d2) : Dp K (off T (upd H q (.tup [x, y]))) (.ref q) (.tuple [d1, d2]) :=
  dpo_newT t hq (.cons h1 (.cons h2 .nil))
/-- each with its number -/
def numbered (ds : List PyData) : List PyData := (List.range ds.length).map fun (i : Nat) => PyData.tuple [.int (i : Int), ds.getD i .none]
theorem numbered_get {i : Nat} {d : PyData} (h : ds[i]? = some d) : (numbered ds)[i]? = some (.tuple [.int (i : Int), d]) := by
  have hi := (List.getElem?_eq_some_iff.mp h).1
  unfold numbered
  rw [List.getElem?_map, List.getElem?_range hi]
  show some (PyData.tuple [.int (i : Int), ds.getD i .none]) = _
  rw [List.getD_eq_getElem?_getD, h] <;> rfl
theorem src_ET {elts : List Expr} {kk : Nat} {tpos : Pos} (h : EvA X a [e] ρ [.tuple ds]) (hm : X.mg "enumerate" = none) (hg : Gl X "enumerate" := by rfl) (hs : starEach [e] X.env = [(false, eval e X.env)] := by exact star_of rfl) :
    Src X a (.Tuple elts kk tpos) (.Call (.Name "enumerate" p) [e] [] pos) ρ (numbered ds) := ⟨_, pi_enumT hg hm ja hs, fun T σ H S R k => h T σ H S _ fun vs H1 s1 p1 => by
  obtain ⟨v, rfl, q⟩ := dps1 p1
  obtain ⟨pa, xs, rfl, g1, g2⟩ := dp_tup q
  have hl := dps_len g2
  refine ⟨pa, xs, rfl, same_t off_in _ _ g1, k _ H1 _ _ s1 (by rw [show (numbered ds).length = xs.length by simp [numbered, hl]]; exact walk_enumT) (fun T' H' s => same_t off_in _ _ (same_t s.2 _ _ g1)) fun T' i H' x H'' hin s y => ?_⟩
  obtain ⟨T0, y1, y2, rfl, hT, rfl, e1, e2⟩ := y
  have e2 : xs[i]? = some y2 := e2
  cases e1
  obtain ⟨d, hd⟩ : ∃ d, ds[i]? = some d := by
    have := (List.getElem?_eq_some_iff.mp e2).1
    exact ⟨ds[i]'(by omega), by simp⟩
  obtain ⟨v, hv, pv⟩ := dps_get g2 hd
  rw [e2] at hv
  cases hv
  exact ⟨same_new hT, _, numbered_get hd, dpo_pair s.1 hT (.int _) (dp_same s.2 pv)⟩⟩
theorem src_ZT {elts : List Expr} {kk : Nat} {tpos : Pos} {ds2 : List PyData} (h : EvA X a [e, e2] ρ [.tuple ds, .tuple ds2]) (hm : X.mg "zip" = none) (hg : Gl X "zip" := by rfl)
    (hs : starEach [e, e2] X.env = (false, eval e X.env) :: starEach [e2] X.env := by exact star_of rfl) (hpl : (backTo pos (starEach [e2] X.env)).any (·.1) = false := by exact star_no rfl) :
    Src X a (.Tuple elts kk tpos) (.Call (.Name "zip" p) [e, e2] [] pos) ρ (List.zipWith (fun x y => PyData.tuple [x, y]) ds ds2) := ⟨_, RZ.pi_zipA hg hm ja hs hpl, fun T σ H S R k => h T σ H S _ fun vs H1 s1 p1 => by
  obtain ⟨v, v2, rfl, q, q2⟩ := dps2 p1
  obtain ⟨pa, xs, rfl, g1, g2⟩ := dp_tup q
  obtain ⟨pb, ys, rfl, g3, g4⟩ := dp_tup q2
  have hl := dps_len g2
  have hl2 := dps_len g4
  refine ⟨pa, pb, xs, ys, rfl, .inr ⟨same_t off_in _ _ g1, same_t off_in _ _ g3, k _ H1 _ _ s1 (walk_zipT (xs := xs) (ys := ys) (by rw [List.length_zipWith, hl, hl2])) (fun T' H' s => ⟨same_t off_in _ _ (same_t s.2 _ _ g1), same_t off_in _ _ (same_t s.2 _ _ g3)⟩) fun T' i H' x H'' hin s y => ?_⟩⟩
  obtain ⟨T0, y1, y2, rfl, hT, rfl, e1, e2⟩ := y
  have e1 : xs[i]? = some y1 := e1
  have e2 : ys[i]? = some y2 := e2
  obtain ⟨d, hd⟩ : ∃ d, ds[i]? = some d := by
    have := (List.getElem?_eq_some_iff.mp e1).1
    exact ⟨ds[i]'(by omega), by simp⟩
  obtain ⟨d2, hd2⟩ : ∃ d, ds2[i]? = some d := by
    have := (List.getElem?_eq_some_iff.mp e2).1
    exact ⟨ds2[i]'(by omega), by simp⟩
  obtain ⟨v, hv, pv⟩ := dps_get g2 hd
  rw [e1] at hv
  cases hv
  obtain ⟨v2, hv2, pv2⟩ := dps_get g4 hd2
  rw [e2] at hv2
  cases hv2
  exact ⟨same_new hT, _, by rw [List.getElem?_zipWith, hd, hd2], dpo_pair s.1 hT (dp_same s.2 pv) (dp_same s.2 pv2)⟩⟩
end
/-! ### targets -/
def TgSem (K : PySem.W.Frag) (a : Addr) (g : TG) (vs : List Nat) (f : PyData → Rho → Option Rho) : Prop := ∀ T σ H v d ρ ρ', SD K a T H σ ρ → Dp K (off T H) v d → f d ρ = some ρ' → ∀ Q : L2.St → Hp → Prop, (∀ σ', SD K a T H σ' ρ' → L2.wipe σ' vs = L2.wipe σ vs → Q σ' H) → g v σ H Q
theorem wipe_get (σ : L2.St) (k : Nat) : ∀ vs : List Nat, (L2.wipe σ vs)[k]? = if k ∈ vs then (if k < σ.length then some none else none) else σ[k]?
  | [] => by rw [if_neg (by simp)]; rfl
  | v :: vs => by
    unfold L2.wipe
    have ih := wipe_get σ k vs
    have hl := wipe_length σ vs
    by_cases hv : v = k
    · subst hv
      rw [if_pos (by simp)]
      by_cases hk : v < σ.length
      · rw [if_pos hk, List.getElem?_set_self (by rw [hl]; exact hk)]
      · rw [if_neg hk]
        exact List.getElem?_eq_none (by rw [List.length_set, hl]; omega)
    · rw [List.getElem?_set_ne hv, ih]
      by_cases hm : k ∈ vs
      · have h1 : k ∈ v :: vs := List.mem_cons_of_mem _ hm
        rw [if_pos hm, if_pos h1]
      · have h1 : ¬ k ∈ v :: vs := fun z => by
          rcases List.mem_cons.mp z with z | z
          · exact hv z.symm
          · exact hm z
        rw [if_neg hm, if_neg h1]
theorem wipe_set {σ : L2.St} {j : Nat} {x : Option V} {vs : List Nat} (h : j ∈ vs) : L2.wipe (σ.set j x) vs = L2.wipe σ vs := by
  apply List.ext_getElem?
  intro k
  rw [wipe_get, wipe_get, List.length_set]
  by_cases hk : k ∈ vs
  · rw [if_pos hk, if_pos hk]
  · rw [if_neg hk, if_neg hk, List.getElem?_set_ne (fun z => hk (by rw [← z]; exact h))]
def fName (i : Nat) : PyData → Rho → Option Rho := fun d ρ => some (ρ.set i (some (.dat d)))
def fPair (i j : Nat) : PyData → Rho → Option Rho := fun d ρ => match d with
  | .tuple [x, y] => some ((ρ.set i (some (.dat x))).set j (some (.dat y)))
  | _ => none
section
variable {K : PySem.W.Frag} {a : Addr}
theorem tg_name {i : Nat} {vs : List Nat} (h : i ∈ vs) : TgSem K a (gName i) vs (fName i) := fun T σ H v d ρ ρ' S p e Q q => by
  cases e
  exact q _ (S.put (x := .dat d) p) (wipe_set h)
theorem tg_pair {i j : Nat} {vs : List Nat} (h : i ∈ vs) (h2 : j ∈ vs) : TgSem K a (gTup K 2 (gCons (gName i) (gCons (gName j) gNil))) vs (fPair i j) := fun T σ H v d ρ ρ' S p e Q q => by
  unfold fPair at e
  split at e
  · rename_i x y
    cases e
    obtain ⟨pa, xs, rfl, g1, g2⟩ := dpo_tup p
    obtain ⟨v1, v2, rfl, q1, q2⟩ := dps2 g2
    refine ⟨pa, _, rfl, g1, rfl, v1, _, rfl, v2, _, rfl, rfl, q _ ((S.put (x := .dat x) q1).put (x := .dat y) q2) ?_⟩
    rw [wipe_set h2, wipe_set h]
  · cases e
end
/-! ### for -/
section
variable {X : Cx} {a : Addr} {ρ : Rho} {N : Rho → Prop} {R : PyData → Prop} {tg it : Expr} {items : List PyData} {pos : Pos} {body : List Stmt} {g : TG} {vs : List Nat} {f : PyData → Rho → Option Rho}
theorem Sees.refl {T : Addr → Prop} {H : Hp} (d : Din T H) : Sees T H T H := ⟨d, Sa.refl _⟩
theorem Sees.same {T : Addr → Prop} {H H' : Hp} (d : Din T H) (s : Sm H H') : Sees T H T H' := ⟨d.same s, off_same s⟩
theorem rs_for (G : Good X) (hs : Src X a tg it ρ items) (hg : PG X tg g) (ht : TgSem X.K a g vs f) (J : Nat → Rho → Prop) (h0 : J 0 ρ)
    (hb : ∀ n d ρ1, items[n]? = some d → J n ρ1 → ∃ ρ2, f d ρ1 = some ρ2 ∧ Run X a body ρ2 (J (n + 1)) R) (hd : ∀ ρ', J items.length ρ' → N ρ')
    (hf : ∀ x, foldedSetIterable it X.env x = pure x := by intro _; rfl) : RunS X a (.For tg it body [] pos) ρ N R := fun T σ H D S kn kr => by
  obtain ⟨wi, hw, hq⟩ := hs
  refine toS (ps_for G.ow G.calm hw hg jss hf) (hq T σ H S _ fun Ji H1 Gd Y s1 w hG hY => ?_)
  refine for_it w (fun n σ' H' => Sm H1 H' ∧ ∃ ρ', SD X.K a T H' σ' ρ' ∧ J n ρ') ⟨Sm.refl H1, ρ, S.same s1, h0⟩ (fun i σ' H' _ hp => hG T H' (.same (S.same s1).dm hp.1)) (fun i x σ' H' H'' hi hp y => ?_) fun σ' H' hp => ?_
  · obtain ⟨s2, ρ', S', hj⟩ := hp
    obtain ⟨s3, d, hdi, pd⟩ := hY T i H' x H'' hi (.same (S.same s1).dm s2) y
    obtain ⟨ρ2, e2, hrun⟩ := hb i d ρ' hdi hj
    refine ht T σ' H'' x d ρ' ρ2 (S'.same s3) pd e2 _ fun σ2 S2 _ => ?_
    exact hrun T σ2 H'' _ S2 (fun σ3 H3 ρ3 s4 S3 n3 => ⟨(s2.trans s3).trans s4, ρ3, S3, n3⟩) fun v H3 d s4 p r => kr v H3 d (((s1.trans s2).trans s3).trans s4) p r
  · obtain ⟨s2, ρ', S', hj⟩ := hp
    exact kn σ' H' ρ' (s1.trans s2) S' (hd ρ' hj)
end
/-! ### comprehensions -/
section
variable {X : Cx} {a : Addr} {ρ : Rho} {N : Rho → Prop} {R : PyData → Prop} {tg it elt c : Expr} {ifs : List Expr} {scope : Scope} {own : List (Str × Nat)} {items : List PyData} {pos : Pos} {g : TG} {f : PyData → Rho → Option Rho}
/-- in every block that the comprehension may run in -/
def JEb (X : Cx) (scope : Scope) (e : Expr) : TE := fun σ H Q => ∀ s H0 C cl fp, JE (X.blk s H0 scope (compEnvC scope cl C X.env) fp) e σ H Q
def JTb (X : Cx) (scope : Scope) (e : Expr) : TT := fun σ H Q => ∀ s H0 C cl fp, JT (X.blk s H0 scope (compEnvC scope cl C X.env) fp) e σ H Q
def EvEb (X : Cx) (scope : Scope) (a : Addr) (e : Expr) (ρ : Rho) (d : PyData) : Prop := ∀ s H0 C cl fp, EvE (X.blk s H0 scope (compEnvC scope cl C X.env) fp) a e ρ d
def EvTb (X : Cx) (scope : Scope) (a : Addr) (e : Expr) (ρ : Rho) (b : Bool) : Prop := ∀ s H0 C cl fp, EvT (X.blk s H0 scope (compEnvC scope cl C X.env) fp) a e ρ b
/-- what a list that is being filled holds so far -/
def Fill (K : PySem.W.Frag) (T : Addr → Prop) (H1 : Hp) (D : Addr) (ds : List PyData) (H' : Hp) : Prop := H1 D = none ∧ Sm H1 H' ∧ ∃ acc, H' D = some (.lst acc) ∧ DpAll K (off (fun b => T b ∨ b = D) H') acc ds
theorem Fill.sees {K : PySem.W.Frag} {T : Addr → Prop} {H1 H' : Hp} {D : Addr} {ds : List PyData} (t : Din T H1) (h : Fill K T H1 D ds H') : Sees T H1 (fun b => T b ∨ b = D) H' := by
  obtain ⟨h1, h2, acc, h3, h4⟩ := h
  refine ⟨⟨fun b hb => ?_, (t.same h2).tb⟩, fun b o ho n => ?_⟩
  · rcases hb with hb | hb
    · exact (t.same h2).dn b hb
    · rw [hb, h3]
      simp
  · obtain ⟨q1, q2⟩ := off_some ho
    rw [off_no (fun z => z.elim q2 fun z => by rw [z, h1] at q1; cases q1)]
    exact h2.ob b o q1 n
theorem Fill.same {K : PySem.W.Frag} {T : Addr → Prop} {H1 H' H'' : Hp} {D : Addr} {ds : List PyData} (h : Fill K T H1 D ds H') (s : Sm H' H'') : Fill K T H1 D ds H'' := by
  obtain ⟨h1, h2, acc, h3, h4⟩ := h
  exact ⟨h1, h2.trans s, acc, s.ob _ _ h3 (by intro ps z; cases z), dpso s h4⟩
theorem Fill.done {K : PySem.W.Frag} {T : Addr → Prop} {H1 H' : Hp} {D : Addr} {ds : List PyData} (h : Fill K T H1 D ds H') (hT : ¬ T D) : Sm H1 H' ∧ Dp K (off T H') (.ref D) (.list ds) := by
  obtain ⟨h1, h2, acc, h3, h4⟩ := h
  exact ⟨h2, .lst (.of (by rw [off_no hT]; exact h3)) (dps_same off_less h4)⟩
theorem Sm.putL {H1 H' : Hp} {D : Addr} {acc acc' : List V} (s : Sm H1 H') (h1 : H1 D = none) (h3 : H' D = some (.lst acc)) : Sm H1 (upd H' D (.lst acc')) := ⟨fun b o e n => by
    rw [upd_ne (fun z => by rw [z, h1] at e; cases e)]
    exact s.ob b o e n, fun P t => by
    have t1 := t
    obtain ⟨ps, g1, _⟩ := t1
    obtain ⟨ps, g2, g3, g4⟩ := s.tb P t
    refine ⟨ps, by rw [upd_ne (fun z => by rw [z, h1] at g1; cases g1)]; exact g2, g3, fun pos cv hc => ?_⟩
    obtain ⟨c, e1, e2⟩ := g4 pos cv hc
    exact ⟨c, e1, by rw [upd_ne (fun z => by rw [z, h3] at e2; unfold LamX.CodeO at e2; cases e2)]; exact e2⟩, fun b hb => by
    rw [upd_ne (fun z => hb (by rw [z]; exact h1))]
    exact s.dm b hb⟩
theorem Fill.add {K : PySem.W.Frag} {T : Addr → Prop} {H1 H' : Hp} {D : Addr} {ds : List PyData} {d : PyData} {y : V} {acc : List V} (h1 : H1 D = none) (h2 : Sm H1 H') (h3 : H' D = some (.lst acc))
    (h4 : DpAll K (off (fun b => T b ∨ b = D) H') acc ds) (hy : Dp K (off (fun b => T b ∨ b = D) H') y d) : Fill K T H1 D (ds ++ [d]) (upd H' D (.lst (acc ++ [y]))) := by
  refine ⟨h1, h2.putL h1 h3, acc ++ [y], upd_same, ?_⟩
  rw [off_put (.inr rfl)]
  exact dps_snoc h4 hy
def kept (keep : PyData → Bool) (val : PyData → PyData) (items : List PyData) : List PyData := (items.filter keep).map val
theorem kept_succ {keep : PyData → Bool} {val : PyData → PyData} {i : Nat} {d : PyData} (h : items[i]? = some d) : kept keep val (items.take (i + 1)) = if keep d then kept keep val (items.take i) ++ [val d] else kept keep val (items.take i) := by
  unfold kept
  rw [List.take_add_one, h]
  simp only [Option.toList_some, List.filter_append, List.map_append]
  cases hk : keep d with
  | true => rw [if_pos rfl, List.filter_cons_of_pos hk] <;> rfl
  | false =>
    rw [List.filter_cons_of_neg (by rw [hk]; exact Bool.false_ne_true)]
    show _ ++ ([] : List PyData) = _
    rw [List.append_nil] <;> rfl
theorem kept_len {keep : PyData → Bool} {val : PyData → PyData} : (kept keep val items).length ≤ items.length := by
  unfold kept
  rw [List.length_map]
  exact List.length_filter_le _ _
/-- the reading of a comprehension, from its turns -/
theorem lc_read {wi : TI} {tt : TT} {te : TE} {vs : List Nat} {keep : PyData → Bool} {val : PyData → PyData} {T : Addr → Prop} {σ : L2.St} {H : Hp} {Q : VK} (S : SD X.K a T H σ ρ) (hz : items.length < 100000)
    (hq : ∀ R : It → Hp → Prop,
  (∀ J H1 (Gd : Hp → Prop) Y, Sm H H1 → Walk J items.length Gd Y → (∀ T' H', Sees T H1 T' H' → Gd H') →
    (∀ T' i H' x H'', i < items.length → Sees T H1 T' H' → Y i H' x H'' → Sm H' H'' ∧ ∃ d, items[i]? = some d ∧ Dp X.K (off T' H'') x d) → R J H1) → wi σ H R)
    (ht : TgSem X.K a g vs f)
    (hb : ∀ d, d ∈ items → ∃ ρ2, f d (wipeR ρ vs) = some ρ2 ∧ (∀ T σ H, SD X.K a T H σ ρ2 → ∀ Q : Bool → Hp → Prop, (∀ H2, Sm H H2 → Q (keep d) H2) → tt σ H Q) ∧
      (keep d = true → ∀ T σ H, SD X.K a T H σ ρ2 → ∀ Q : VK, (∀ v H2, Sm H H2 → Dp X.K (off T H2) v (val d) → Q v H2) → te σ H Q))
    (k : ∀ v H2, Sm H H2 → Dp X.K (off T H2) v (.list (kept keep val items)) → Q v H2) : tLc wi g tt te vs σ H Q := by
  refine hq _ fun J H1 Gd Y s1 w hG hY => ?_
  intro D hD
  have S1 := S.same s1
  have nD : ¬ T D := fun z => S1.dm.dn D z hD
  refine lc_it w (fun n H' => Fill X.K T H1 D (kept keep val (items.take n)) H') ⟨hD, same_new hD, [], upd_same, .nil⟩
    (fun i H' _ p => hG _ H' (p.sees S1.dm)) (fun i x H' H'' hi p y => ?_) fun H' p => ?_
  · have sees := p.sees S1.dm
    obtain ⟨s3, d, hdi, pd⟩ := hY _ i H' x H'' hi sees y
    obtain ⟨ρ2, e2, k1, k2⟩ := hb d (List.mem_of_getElem? hdi)
    have p' := p.same s3
    have sees' := p'.sees S1.dm
    have S2 : SD X.K a (fun b => T b ∨ b = D) H'' (L2.wipe σ vs) (wipeR ρ vs) := ⟨(S1.wipe vs).len, sees'.1, fun j z e => by
      obtain ⟨v, q1, q2⟩ := (S1.wipe vs).sl j z e
      refine ⟨v, q1, ?_⟩
      cases z with
      | dat d => exact dp_same sees'.2 q2
      | hnd => exact q2
      | adr _ => exact q2⟩
    refine ht _ _ H'' x d _ ρ2 S2 pd e2 _ fun σ2 S3 hw => ⟨?_, ?_⟩
    · rw [hw]
      apply List.ext_getElem?
      intro n
      rw [wipe_get, wipe_get, wipe_length]
      by_cases hn : n ∈ vs
      · rw [if_pos hn, if_pos hn]
      · rw [if_neg hn, if_neg hn]
    · refine k1 _ σ2 H'' S3 _ fun H3 s4 => ?_
      rw [kept_succ hdi]
      cases hk : keep d with
      | false => exact iteF (p'.same s4)
      | true =>
        refine iteT (k2 hk _ σ2 H3 (S3.same s4) _ fun y H4 s5 py => ?_)
        obtain ⟨h1, h2, acc, h3, h4⟩ := (p'.same s4).same s5
        refine ⟨acc, h3, ?_, .add h1 h2 h3 h4 py⟩
        have := dps_len h4
        have := kept_len (keep := keep) (val := val) (items := items.take i)
        have := List.length_take_le i items
        exact Nat.lt_of_lt_of_le (show acc.length < 100000 by omega) (by decide)
  · rw [List.take_length] at p
    obtain ⟨q1, q2⟩ := p.done nD
    exact k _ H' (s1.trans q1) q2
theorem e_lc {keep : PyData → Bool} {val : PyData → PyData} (G : Good X) (hs : Src X a tg it ρ items) (hz : items.length < 100000) (ok : BlkOk X.N X.env.scope scope own)
    (hg : ∀ (s : Shared) (H : Hp) (C : Addr) (cl : List (Str × Addr)) (fp : List Addr), PG (X.blk s H scope (compEnvC scope cl C X.env) fp) tg g) (ht : TgSem X.K a g (own.map (·.2)) f)
    (hb : ∀ d, d ∈ items → ∃ ρ2, f d (wipeR ρ (own.map (·.2))) = some ρ2 ∧ EvTb X scope a c ρ2 (keep d) ∧ (keep d = true → EvEb X scope a elt ρ2 (val d)))
    (hf : ∀ x, foldedSetIterable it X.env x = pure x := by intro _; rfl) : EvE X a (.ListComp elt [⟨tg, it, [c], 0⟩] scope pos) ρ (.list (kept keep val items)) := fun T σ H S Q q => by
  obtain ⟨wi, hw, hq⟩ := hs
  refine toE (pe_lc (own := own) (te := JEb X scope elt) (tt := JTb X scope c) G.calm G.nd hw ok hg (fun s H0 C cl fp => pts_one ⟨fun pins s' σ' H' Q' I h => h s H0 C cl fp pins s' I⟩) (fun s H0 C cl fp => ⟨fun pins s' σ' H' Q' I h => h s H0 C cl fp pins s' I⟩) hf) ?_
  refine lc_read (f := f) S hz (hq T σ H S) ht (fun d hd => ?_) q
  obtain ⟨ρ2, e, k1, k2⟩ := hb d hd
  exact ⟨ρ2, e, fun T σ H S Q q s H0 C cl fp => k1 s H0 C cl fp T σ H S Q q, fun hk T σ H S Q q s H0 C cl fp => k2 hk s H0 C cl fp T σ H S Q q⟩
def yes (_ : PyData) : Bool := true
theorem kept_yes {val : PyData → PyData} : kept yes val items = items.map val := by
  unfold kept
  rw [List.filter_eq_self.mpr (show ∀ z ∈ items, yes z = true from fun _ _ => rfl)]
theorem e_lc0 {val : PyData → PyData} (G : Good X) (hs : Src X a tg it ρ items) (hz : items.length < 100000) (ok : BlkOk X.N X.env.scope scope own)
    (hg : ∀ (s : Shared) (H : Hp) (C : Addr) (cl : List (Str × Addr)) (fp : List Addr), PG (X.blk s H scope (compEnvC scope cl C X.env) fp) tg g) (ht : TgSem X.K a g (own.map (·.2)) f)
    (hb : ∀ d, d ∈ items → ∃ ρ2, f d (wipeR ρ (own.map (·.2))) = some ρ2 ∧ EvEb X scope a elt ρ2 (val d))
    (hf : ∀ x, foldedSetIterable it X.env x = pure x := by intro _; rfl) : EvE X a (.ListComp elt [⟨tg, it, [], 0⟩] scope pos) ρ (.list (items.map val)) := fun T σ H S Q q => by
  obtain ⟨wi, hw, hq⟩ := hs
  refine toE (pe_lc (own := own) (te := JEb X scope elt) (tt := tYes) G.calm G.nd hw ok hg (fun s H0 C cl fp => pts_nil) (fun s H0 C cl fp => ⟨fun pins s' σ' H' Q' I h => h s H0 C cl fp pins s' I⟩) hf) ?_
  rw [← kept_yes] at q
  refine lc_read (f := f) (keep := yes) S hz (hq T σ H S) ht (fun d hd => ?_) q
  obtain ⟨ρ2, e, k2⟩ := hb d hd
  exact ⟨ρ2, e, fun T σ H S Q q => q H (Sm.refl H), fun hk T σ H S Q q s H0 C cl fp => k2 s H0 C cl fp T σ H S Q q⟩
theorem rs_lc {i : Nat} {y : Str} {py spos : Pos} {keep : PyData → Bool} {val : PyData → PyData} (G : Good X) (hs : Src X a tg it ρ items) (hz : items.length < 100000) (ok : BlkOk X.N X.env.scope scope own)
    (hg : ∀ (s : Shared) (H : Hp) (C : Addr) (cl : List (Str × Addr)) (fp : List Addr), PG (X.blk s H scope (compEnvC scope cl C X.env) fp) tg g) (ht : TgSem X.K a g (own.map (·.2)) f)
    (hb : ∀ d, d ∈ items → ∃ ρ2, f d (wipeR ρ (own.map (·.2))) = some ρ2 ∧ EvTb X scope a c ρ2 (keep d) ∧ (keep d = true → EvEb X scope a elt ρ2 (val d)))
    (hn : N (ρ.set i (some (.dat (.list (kept keep val items)))))) (hy : X.N[i]? = some y := by rfl) (hyl : X.env.scope.names.lookup y = some .local := by rfl)
    (hsw : swapsWith (.ListComp elt [⟨tg, it, [c], 0⟩] scope pos) (some (.Name y py)) spos.line X.env = pure true := by exact sw_true rfl rfl rfl (by decide +kernel))
    (hf : ∀ x, foldedSetIterable it X.env x = pure x := by intro _; rfl) : RunS X a (.Assign [.Name y py] (.ListComp elt [⟨tg, it, [c], 0⟩] scope pos) spos) ρ N R := fun T σ H D S kn kr => by
  obtain ⟨wi, hw, hq⟩ := hs
  refine toS (ps_setLc (own := own) (te := JEb X scope elt) (tt := JTb X scope c) G.calm G.nd hy hyl hsw hw ok hg (fun s H0 C cl fp => pts_one ⟨fun pins s' σ' H' Q' I h => h s H0 C cl fp pins s' I⟩) (fun s H0 C cl fp => ⟨fun pins s' σ' H' Q' I h => h s H0 C cl fp pins s' I⟩) hf) ?_
  refine lc_read (f := f) S hz (hq T σ H S) ht (fun d hd => ?_) fun v H2 s2 p2 => kn _ H2 _ s2 ((S.same s2).put (x := .dat _) p2) hn
  obtain ⟨ρ2, e, k1, k2⟩ := hb d hd
  exact ⟨ρ2, e, fun T σ H S Q q s H0 C cl fp => k1 s H0 C cl fp T σ H S Q q, fun hk T σ H S Q q s H0 C cl fp => k2 hk s H0 C cl fp T σ H S Q q⟩
theorem rs_lc0 {i : Nat} {y : Str} {py spos : Pos} {val : PyData → PyData} (G : Good X) (hs : Src X a tg it ρ items) (hz : items.length < 100000) (ok : BlkOk X.N X.env.scope scope own)
    (hg : ∀ (s : Shared) (H : Hp) (C : Addr) (cl : List (Str × Addr)) (fp : List Addr), PG (X.blk s H scope (compEnvC scope cl C X.env) fp) tg g) (ht : TgSem X.K a g (own.map (·.2)) f)
    (hb : ∀ d, d ∈ items → ∃ ρ2, f d (wipeR ρ (own.map (·.2))) = some ρ2 ∧ EvEb X scope a elt ρ2 (val d))
    (hn : N (ρ.set i (some (.dat (.list (items.map val)))))) (hy : X.N[i]? = some y := by rfl) (hyl : X.env.scope.names.lookup y = some .local := by rfl)
    (hsw : swapsWith (.ListComp elt [⟨tg, it, [], 0⟩] scope pos) (some (.Name y py)) spos.line X.env = pure true := by exact sw_true rfl rfl rfl (by decide +kernel))
    (hf : ∀ x, foldedSetIterable it X.env x = pure x := by intro _; rfl) : RunS X a (.Assign [.Name y py] (.ListComp elt [⟨tg, it, [], 0⟩] scope pos) spos) ρ N R := fun T σ H D S kn kr => by
  obtain ⟨wi, hw, hq⟩ := hs
  refine toS (ps_setLc (own := own) (te := JEb X scope elt) (tt := tYes) G.calm G.nd hy hyl hsw hw ok hg (fun s H0 C cl fp => pts_nil) (fun s H0 C cl fp => ⟨fun pins s' σ' H' Q' I h => h s H0 C cl fp pins s' I⟩) hf) ?_
  rw [← kept_yes] at hn
  refine lc_read (f := f) (keep := yes) S hz (hq T σ H S) ht (fun d hd => ?_) fun v H2 s2 p2 => kn _ H2 _ s2 ((S.same s2).put (x := .dat _) p2) hn
  obtain ⟨ρ2, e, k2⟩ := hb d hd
  exact ⟨ρ2, e, fun T σ H S Q q => q H (Sm.refl H), fun hk T σ H S Q q s H0 C cl fp => k2 s H0 C cl fp T σ H S Q q⟩
end
end Zj
/-! Defs by their blocks; repr of data; defs that want nothing under way of repr. -/
namespace Zj
open PySem PySem.Spec PyProof.Rows L2
variable [Nm]
section
variable {P : Program} {w : World} {K : PySem.W.Frag} {mg : Str → Option Value} {base : Heap}
/-- a def that hands on data, from its block -/
theorem fnR {x qual : Str} {st : Stmt} {f : Addr} {fd : FuncData} {N ps : List Str} {k : Nat} {R : List PyData → PyData → Prop} (F : Fun K x qual st f fd) (S : FnScope N ps (defScope st)) (hl : ∀ ds d, R ds d → ds.length = ps.length)
    (hb : ∀ (cdv : Value) (A : Around) (outer : List Env) (s : Shared) (H : Hp) (E : XK), Good (cxOf CX0 P w K mg base N qual (defScope st) f cdv A outer s H E).nox → Room k (cxOf CX0 P w K mg base N qual (defScope st) f cdv A outer s H E).nox.A → ∀ ds d, R ds d →
      Run (cxOf CX0 P w K mg base N qual (defScope st) f cdv A outer s H E).nox 0 (defBody st) (dats ds ++ List.replicate (N.length - ds.length) none) (fun _ => d = .none) (fun d' => d' = d)) : FnOk P w K mg base CX0 (k + 1) f fd ps (spR K R) :=
  F.ok S (fun vs H Q E h => by
    obtain ⟨T, ds, d, _, h1, h2, _⟩ := h
    rw [dps_len h1]
    exact hl ds d h2) fun cdv A outer s H vs Q E hr h => by
    obtain ⟨T, ds, d, dm, h1, h2, h3⟩ := h
    refine ⟨_, jss, hb cdv A outer s H E ⟨S.nd, rfl, PassesOwn.never, hr.units⟩ hr ds d h2 T _ H _ (SD.start dm h1) (fun σ' H' ρ' s1 S1 e => ?_) fun v H' d' s1 p e => ?_⟩
    · exact h3 _ H' s1 (by rw [e]; exact .non)
    · subst e
      exact h3 v H' s1 p
end

/-! ### repr -/
mutual
/-- data whose text is no long one -/
def Tm : PyData → Prop
  | .none | .bool _ => True
  | .int i => i.natAbs.log2 < 1920
  | .str x => ∀ c ∈ x.cps.toList, c < 16 ^ 8
  | .list xs | .tuple xs => TmAll xs
  | .dict _ => False
def TmAll : List PyData → Prop
  | [] => True
  | x :: xs => Tm x ∧ TmAll xs
end
mutual
theorem tm_show : ∀ d : PyData, Tm d → d.showable = true ∧ d.hasDict = false ∧ d.leavesShort 2000 = true
  | .none, _ => ⟨by simp only [PyData.showable], by simp only [PyData.hasDict], by simp only [PyData.leavesShort]⟩
  | .bool _, _ => ⟨by simp only [PyData.showable], by simp only [PyData.hasDict], by simp only [PyData.leavesShort]⟩
  | .int i, h => by
    have h : i.natAbs.log2 < 1920 := by simpa only [Tm] using h
    refine ⟨by simp only [PyData.showable]; exact decide_eq_true h, by simp only [PyData.hasDict], ?_⟩
    simp only [PyData.leavesShort, PyData.shown]
    have := int_text_len_1921 h
    exact decide_eq_true (by omega)
  | .str x, h => by
    have h : ∀ c ∈ x.cps.toList, c < 16 ^ 8 := by simpa only [Tm] using h
    refine ⟨by simp only [PyData.showable], by simp only [PyData.hasDict], ?_⟩
    simp only [PyData.leavesShort, List.all_eq_true, decide_eq_true_eq]
    exact h
  | .list xs, h => by
    obtain ⟨h1, h2, h3⟩ := tm_showAll xs (by simpa only [Tm] using h)
    exact ⟨by simpa only [PyData.showable] using h1, by simpa only [PyData.hasDict] using h2, by simpa only [PyData.leavesShort] using h3⟩
  | .tuple xs, h => by
    obtain ⟨h1, h2, h3⟩ := tm_showAll xs (by simpa only [Tm] using h)
    exact ⟨by simpa only [PyData.showable] using h1, by simpa only [PyData.hasDict] using h2, by simpa only [PyData.leavesShort] using h3⟩
  | .dict _, h => by simp only [Tm] at h
theorem tm_showAll : ∀ ds : List PyData, TmAll ds → PyData.showableAll ds = true ∧ PyData.hasDictAll ds = false ∧ PyData.leavesShortAll 2000 ds = true
  | [], _ => ⟨by simp only [PyData.showableAll], by simp only [PyData.hasDictAll], by simp only [PyData.leavesShortAll]⟩
  | x :: xs, h => by
    have h : Tm x ∧ TmAll xs := by simpa only [TmAll] using h
    obtain ⟨a1, a2, a3⟩ := tm_show x h.1
    obtain ⟨b1, b2, b3⟩ := tm_showAll xs h.2
    exact ⟨by simp only [PyData.showableAll, a1, b1, Bool.and_self], by simp only [PyData.hasDictAll, a2, b2, Bool.or_self], by simp only [PyData.leavesShortAll, a3, b3, Bool.and_self]⟩
end
structure Tame (d : PyData) : Prop where
  tm : Tm d
  bk : d.bulk ≤ 8000
  dp : d.depth ≤ 60
theorem Tame.len {d : PyData} (t : Tame d) : d.shown.length ≤ sizeLine := by
  have h := PyData.shown_le_bulk 2000 (by decide) d (tm_show d t.tm).2.2
  have := t.bk
  have e : sizeLine = 16777216 := sizeLine_eq
  have : 2002 * d.bulk ≤ 2002 * 8000 := Nat.mul_le_mul_left _ t.bk
  omega
section
variable {X : Cx} {d : PyData}
theorem call_repr (hg : X.A.guards = some []) (hu : X.A.units + 64 < cLine) : CallR X (.builtin "repr") (fun vs H Q => ∃ v d, vs = [v] ∧ Dp X.K H v d ∧ Tame d ∧ Q (.str d.shown) H) := by
  intro pins s σ H vs us Q I r h
  obtain ⟨v, d, rfl, p, t, q⟩ := h
  obtain ⟨u, rfl, ru⟩ := vals1 r
  have ts := tm_show d t.tm
  have big : ∀ pa : Addr, u = .ref pa → wpAny (model X.prog X.w) X.A (call (.builtin "repr") [u]) (EP X pins σ Q) X.xe s := fun pa e => by
    subst e
    obtain ⟨as, hr⟩ := Dp.reads I d v _ p ru
    refine repr_of_reads' hr ts.1 (PyData.noDict_hsm ts.2.1) hg (by have := t.dp; omega) (fun _ _ e => e) (fun h' u tk hk => ?_) t.len
    exact ⟨.str d.shown, H, I.kept (t' := tk) hk, ⟨u, rfl⟩, q⟩
  cases p with
  | non =>
    cases ru
    exact PySem.P.repr_of_none ⟨.str _, H, I.tok _, ⟨_, rfl⟩, by simpa only [PyData.shown] using q⟩
  | bl b =>
    cases ru
    exact PySem.P.repr_of_bool ⟨.str _, H, I.tok _, ⟨_, rfl⟩, by simpa only [PyData.shown] using q⟩
  | int i =>
    obtain ⟨t', rfl⟩ := ru
    exact PySem.P.repr_of_int (by simpa only [Tm] using t.tm) ⟨.str _, H, I.tok _, ⟨_, rfl⟩, by simpa only [PyData.shown] using q⟩
  | str x =>
    obtain ⟨t', rfl⟩ := ru
    exact PySem.P.repr_of_str ⟨.str _, H, I.tok _, ⟨_, rfl⟩, by simpa only [PyData.shown] using q⟩ (by have := t.len; simpa only [PyData.shown] using this)
  | lst _ _ => exact big _ ru
  | tup _ _ => exact big _ ru
theorem ca_repr (hg : X.A.guards = some []) (hu : X.A.units + 64 < cLine) (t : Tame d) : CaD X (.builtin "repr") [d] (.str d.shown) := ⟨_, call_repr hg hu, fun T vs H dm p Q q => by
  obtain ⟨v, rfl, h⟩ := dps1 p
  exact ⟨v, d, rfl, dp_off h, t, q _ H (Sm.refl H) (.str _)⟩⟩
end

/-! ### defs that are called while no repr is under way -/
structure FnG (P : Program) (w : World) (K : PySem.W.Frag) (mg : Str → Option Value) (base : Heap) (CX : CXT) (k : Nat) (f : Addr) (fd : FuncData) (ps : List Str) (sp : Sp) : Prop where
  len : ∀ vs H Q E, sp vs H Q E → vs.length = ps.length
  run : ∀ (A : Around) (outer : List Env) (s : Shared) (H : Hp) (args : Args) (us : List Value) (vs : List V) (Q : VK) (E : XK), A.guards = some [] → Room k A → Env0 P w K mg base A outer s H → BindsTo s fd args (ps.zip us) → Vals vs us → sp vs H Q E →
    codeAny (model P w) A (.call (.ref f) args) (CR CX outer P w H s Q E) s
section
variable {P : Program} {w : World} {K : PySem.W.Frag} {mg : Str → Option Value} {base : Heap} {CX : CXT}
theorem FnG.of {k : Nat} {f : Addr} {fd : FuncData} {ps : List Str} {sp : Sp} (F : FnOk P w K mg base CX k f fd ps sp) : FnG P w K mg base CX k f fd ps sp :=
  ⟨F.len, fun A outer s H args us vs Q E _ hr e0 hb hv hs => F.run A outer s H args us vs Q E hr e0 hb hv hs⟩
theorem fnG {x qual : Str} {st : Stmt} {f : Addr} {fd : FuncData} {N ps : List Str} {k : Nat} {sp : Sp} (F : Fun K x qual st f fd) (S : FnScope N ps (defScope st)) (len : ∀ vs H Q E, sp vs H Q E → vs.length = ps.length)
    (hbody : ∀ (cdv : Value), fd.code = cdv → ∀ (A : Around) (outer : List Env) (s : Shared) (H : Hp) (vs : List V) (Q : VK) (E : XK), A.guards = some [] → Room k (A.deeper (envOfC qual (defScope st) s.heap.objs.size f cdv)) → sp vs H Q E →
      JSs (cxOf CX0 P w K mg base N qual (defScope st) f cdv A outer s H E).nox (defBody st) { nx := fun _ H' => Q .non H', rt := Q } (start N vs) H) : FnG P w K mg base CX0 (k + 1) f fd ps sp := by
  obtain ⟨oc, od, kV, doc, pm, an, cdv, ct, osl, rfl, lk, hcd⟩ := F.ex
  refine ⟨len, fun A outer s H args us vs Q E hgd hr e0 hb r hsp => ?_⟩
  have toS : ∀ b o, base.get? b = some o → s.heap.get? b = some o := fun b o e => (e0.bs b o e).1
  have KX : K.In s.heap := e0.mod.kin.keeps toS
  refine codeAny_call_function hr.depth (KX _ _ lk) rfl S.co S.gen rfl (PySem.W.codeRec_of KX hcd) (hb _ _ _ _ ?_)
  refine wpAny_newFunctionEnv_cells S.kind (fun y hy => ?_) fun env he s1 x => ?_
  · rcases S.par y.1 (List.of_mem_zip (show (y.1, y.2) ∈ ps.zip us from hy)).1 with q | q
    · exact .inl q
    · exact .inr ⟨q, PySem.W.cellsFrom_some _ _ _ (.inl q)⟩
  · subst he
    refine ⟨(e0.mod.nolimit.keeps toS).keeps x.toInCall.keep, codeAny_func ?_⟩
    have J0 := inv_start (CX := CX0) (E := E) S hr.hd e0 (len _ _ _ _ hsp) r x
    have body := (jss.nox).run [] s1 (start N vs) H _ J0 (hbody cdv rfl A outer s H vs Q E hgd (hr.deeper _) hsp)
    refine wpAny_mono body (fun fl s' hs => ?_) fun e s' hs => hs
    cases fl with
    | ret u =>
      obtain ⟨v, σ', H', J, rv, q⟩ := hs
      exact ⟨v, H', J.os, J.bare, J.base, J.hok, rv, q⟩
    | next =>
      obtain ⟨σ', H', J, q⟩ := hs
      exact ⟨.non, H', J.os, J.bare, J.base, J.hok, rfl, q⟩
    | brk =>
      obtain ⟨_, _, _, q⟩ := hs
      exact q.elim
    | cont =>
      obtain ⟨_, _, _, q⟩ := hs
      exact q.elim
end
structure CalG (P : Program) (w : World) (K : PySem.W.Frag) (mg : Str → Option Value) (base : Heap) (k : Nat) (x : Str) (ps : List Str) (sp : Sp) : Prop where
  ex : ∃ f fd, FnG P w K mg base CX0 k f fd ps sp ∧ mg x = some (.ref f) ∧ PySem.W.keepIn K (.ref f) = true ∧ Binds K fd ps []
section
variable {X : Cx} {k : Nat} {x : Str} {ps : List Str} {sp : Sp} {e : Expr} {es : List Expr} {p pos : Pos}
theorem pe_callG {t : TA} (C : CalG X.prog X.w X.K X.mg X.base k x ps sp) (hgd : X.A.guards = some []) (hr : Room k X.A) (ha : PA X (e :: es) t) (hg : Gl X x := by rfl) (hdb : (x == ("__debug__" : Str)) = false := by decide)
    (he : starEach (e :: es) X.env = (false, eval e X.env) :: starEach es X.env := by exact star_of rfl) (hpl : (backTo pos (starEach es X.env)).any (·.1) = false := by exact star_no rfl) :
    PE X (.Call (.Name x p) (e :: es) [] pos) (fun σ H Q => t σ H fun vs H1 => sp vs H1 Q E0) := by
  obtain ⟨f, fd, F, hm, hk, hb⟩ := C.ex
  refine ⟨fun pins s σ H Q I h => ?_⟩
  refine wpAny_Call_Name_kw (ld_glob I hg hm ?_ hdb)
  refine PySem.W.callWith_K (h₀ := X.base) I.ok.mod.kin hk (thn (ha.run pos pins s σ H _ I h) fun us s1 hv => ?_) he hpl
  obtain ⟨vs, H1, I1, r1, q1⟩ := hv
  refine ⟨I1.kIn, ?_⟩
  have hl : us.length = ps.length := by rw [← r1.length]; exact F.len _ _ _ _ q1
  have hbd := hb s1 us I1.kIn (by rw [List.append_nil]; exact hl)
  rw [List.append_nil] at hbd
  refine wpAny_call (codeAny_mono (F.run X.A X.stack s1 H1 ⟨us, []⟩ us vs Q E0 hgd hr I1.env0 hbd r1 q1) fun r s' hq => ?_)
  cases r with
  | error e => exact hq.elim
  | ok fl =>
    cases fl with
    | ret u => exact I1.after hq
    | next => exact hq.elim
    | brk => exact hq.elim
    | cont => exact hq.elim
end
end Zj
/-! The law's own call, at the top. -/
namespace Zj
open PySem PySem.Spec PyProof.Rows L2
variable [Nm]
section
variable {P : Program} {w : World} {K : PySem.W.Frag} {mg mb : Str → Option Value} {k : Nat} {fa a : Addr} {fd : FuncData} {x : Str} {sp : Sp} {s1 : Shared} {vs : List Value} {ns : List Int}
/-- from an abstract heap that tracks the script or nothing -/
theorem law_core (KX : K.In s1.heap) (hns : s1.heap.Ns mainGlobals mg) (hb : s1.heap.Ns builtinsNs mb) (hbb : ∀ x : Str, x ≠ "__name__" → mb x = bootBuiltins x) (hlim : s1.heap.NoLimit) (hg : s1.gens = #[])
    (ha : s1.heap.get? a = some { cls := .type "list", data := .seq vs.toArray }) (hr : Room k callerA)
    (F : ∀ base : Heap, K.In base → base.Ns mainGlobals mg → FnG P w K mg base CX0 k fa fd [x] sp) (hbind : ∀ (s : Shared) (u : Value), BindsTo s fd ⟨[u], []⟩ [(x, u)])
    {H : Hp} (hO : Only H) (hS : SqL K H a (ns.map V.int)) (hok : HOk P w H s1.heap) (hA : ∀ b, H b ≠ none → b = a) (hK : H a ≠ none → K.lookup a = none)
    (hsp : sp [.ref a] H (fun v _ => v = .bl true) fun _ _ _ => False) :
    codeAny (model P w) callerA (.call (.ref fa) ⟨[.ref a], []⟩) (fun r s' => r = .ok (.ret (.bool true)) ∧ OldK s1.heap s'.heap ∧ s'.os = s1.os ∧ AllBare s'.gens) s1 := by
  have only : ∀ {b : Addr} {o : Obj}, s1.heap.get? b = some o → (∀ vs n, o.data ≠ .seq vs n) → H b = none := fun {b o} e d => by
    cases q : H b with
    | none => rfl
    | some u =>
      have e' := hA b (by rw [q]; exact fun z => by cases z)
      rw [e', ha] at e
      cases e
      exact (d _ _ rfl).elim
  have ns' : ∀ {b : Addr} {m : Str → Option Value}, s1.heap.Ns b m → (hidT s1.heap H).Ns b m := fun {b m} ⟨o, es, ep, e, d, r⟩ =>
    ⟨o, es, ep, hidT_get e (only e fun vs n z => by rw [d] at z; cases z), d, r⟩
  have kin : K.In (hidT s1.heap H) := fun b o e => by
    refine hidT_get (KX b o e) ?_
    cases q : H b with
    | none => rfl
    | some u =>
      have e' := hA b (by rw [q]; exact fun z => by cases z)
      subst e'
      rw [hK (by rw [q]; exact fun z => by cases z)] at e
      cases e
  obtain ⟨mc, lim1, lim2⟩ := hlim
  have md : L2.Mod K mg (hidT s1.heap H) := ⟨kin, ns' hns, ⟨mb, ns' hb, hbb⟩, ⟨mc, ns' lim1, lim2⟩⟩
  have e0 : Env0 P w K mg (hidT s1.heap H) callerA [] s1 H := {
    frames := rfl
    mod := md
    bs := fun b o e => of_hidT e
    bsz := Nat.le_of_eq (hidT_size _ _)
    funs := trivial
    frf := fun b z => by cases z
    hok := hok
    bare := .of_eq hg }
  have run := (F _ kin (ns' hns)).run callerA [] s1 H ⟨[.ref a], []⟩ [.ref a] [.ref a] _ _ rfl hr e0 (hbind s1 (.ref a)) (.cons rfl .nil) hsp
  refine codeAny_mono run fun r s' h => ?_
  cases r with
  | error e => exact h.elim
  | ok fl =>
    cases fl with
    | next => exact h.elim
    | brk => exact h.elim
    | cont => exact h.elim
    | ret u =>
      obtain ⟨v, H', os, bare, un, hok', r', q⟩ := h
      cases q
      cases r'
      refine ⟨rfl, OldK.of_keep fun b o e => ?_, os, bare⟩
      rcases hO b with z | ⟨ob, xs, z⟩
      · exact un.keep b o e z (fun y => by cases y) (fun y => by cases y)
      · have g1 := (hok b _ z).1
        have g2 := (hok' b _ (un.frzs b ob _ z)).1
        rw [e] at g1
        cases g1
        exact g2
theorem law_endG (KX : K.In s1.heap) (hns : s1.heap.Ns mainGlobals mg) (hb : s1.heap.Ns builtinsNs mb) (hbb : ∀ x : Str, x ≠ "__name__" → mb x = bootBuiltins x) (hlim : s1.heap.NoLimit) (hg : s1.gens = #[])
    (ha : s1.heap.get? a = some { cls := .type "list", data := .seq vs.toArray }) (hi : IntsAre vs ns) (hl : ns.length ≤ sizeLine) (hr : Room k callerA)
    (F : ∀ base : Heap, K.In base → base.Ns mainGlobals mg → FnG P w K mg base CX0 k fa fd [x] sp) (hbind : ∀ (s : Shared) (u : Value), BindsTo s fd ⟨[u], []⟩ [(x, u)])
    (hsp : ∀ H : Hp, Only H → SqL K H a (ns.map V.int) → sp [.ref a] H (fun v _ => v = .bl true) fun _ _ _ => False) :
    codeAny (model P w) callerA (.call (.ref fa) ⟨[.ref a], []⟩) (fun r s' => r = .ok (.ret (.bool true)) ∧ OldK s1.heap s'.heap ∧ s'.os = s1.os ∧ AllBare s'.gens) s1 := by
  have rv := vals_ints hi
  cases hk : K.lookup a with
  | some o =>
    have e := KX a o hk
    rw [ha] at e
    cases e
    have hS : SqL K (fun _ => none) a (ns.map V.int) := .inr ⟨_, vs.toArray, _, hk, rfl, rfl, rfl, by rw [List.size_toArray, hi.length]; exact hl, by simpa using rv⟩
    have hO : Only fun _ => none := fun _ => .inl rfl
    exact law_core KX hns hb hbb hlim hg ha hr F hbind hO hS (fun b u z => by cases z) (fun b z => (z rfl).elim) (fun z => (z rfl).elim) (hsp _ hO hS)
  | none =>
    let H0 : Hp := upd (fun _ => none) a (.frz { cls := .type "list", data := .seq vs.toArray } (.lst (ns.map V.int)))
    have at0 : ∀ b, b ≠ a → H0 b = none := fun b hb => upd_ne hb
    have hS : SqL K H0 a (ns.map V.int) := .inl (.inr ⟨_, upd_same⟩)
    have hO : Only H0 := fun b => by
      by_cases hb : b = a
      · subst hb
        exact .inr ⟨_, _, upd_same⟩
      · exact .inl (at0 b hb)
    refine law_core KX hns hb hbb hlim hg ha hr F hbind hO hS (fun b u z => ?_) (fun b z => ?_) (fun _ => hk) (hsp _ hO hS)
    · by_cases hb : b = a
      · subst hb
        have z' := upd_same.symm.trans z
        cases z'
        exact ⟨ha, by rw [List.length_map]; exact hl, vs, _, rv, ha⟩
      · rw [at0 b hb] at z
        cases z
    · by_cases hb : b = a
      · exact hb
      · exact absurd (at0 b hb) z
end
theorem walk_G {l : PySem.W.OpenLaw} {n k : Nat} {q : Program} {loose : List Str} {XP : (Str → Option Value) → Heap → Prop} {YP : World → Heap → Prop} {d : DefRec} {K : Params → PySem.W.Frag} {sp : PySem.W.Frag → Sp} {x : Str}
    (hn : l.most = some n) (hn2 : n ≤ sizeLine) (hdf : d.params.defaults = []) (hr : Room k callerA) (hY : ∀ (w : World) (h : Heap), YP w h → (K w.params).In h)
    (F : ∀ (w : World) (mg : Str → Option Value) (fa : Addr) (h : Heap), (K w.params).In h → h.Ns mainGlobals mg → mg d.name = some (.ref fa) →
      ∃ fd : FuncData, (∀ (s : Shared) (u : Value), BindsTo s fd ⟨[u], []⟩ [(x, u)]) ∧ ∀ base : Heap, (K w.params).In base → base.Ns mainGlobals mg → FnG l.prog w (K w.params) mg base CX0 k fa fd [x] (sp (K w.params)))
    (hsp : ∀ (K : PySem.W.Frag) (H : Hp) (a : Addr) (ns : List Int), ns.length ≤ n → (∀ z ∈ ns, Builtin.Int.intBits z ≤ 1048576) → Only H → SqL K H a (ns.map V.int) → sp K [.ref a] H (fun v _ => v = .bl true) fun _ _ _ => False) :
    PySem.W.WalkO q loose XP YP l.row.toRowW d [] (fun f vs => PySem.call f vs) :=
  Att.attach_callB hn hdf fun w s0 s1 mg mb fa o pm cd doc a vs ns G Y ho hd hcd hmg hobj hints hlen hbits hg => by
    obtain ⟨fd, hb, hF⟩ := F w mg fa _ (hY w _ Y) G.T.g hmg
    exact law_endG (hY w _ Y) G.T.g G.T.b G.T.builtins G.T.nolimit hg hobj hints (Nat.le_trans hlen hn2) hr hF hb fun H hO hS => hsp _ H a ns hlen hbits hO hS
end Zj
/-! Text that draws from the law's own state. -/
namespace Zj
open PySem PySem.Spec PyProof.Rows L2
variable [Nm]
/-- the pairs of the law's state -/
def sts (left seed : Int) (pc : Addr) (spot : Int) : List (Key × V) := [(Sum.inr "left", .int left), (Sum.inr "seed", .int seed), (Sum.inr "cells", .ref pc), (Sum.inr "spot", .int spot)]
/-- the law's state stands at a; n more numbers may be drawn -/
def MS (K : PySem.W.Frag) (H : Hp) (a : Addr) (n : Nat) : Prop := ∃ (left seed : Int) (pc : Addr) (spot : Int) (cells : List Int), H a = some (.dK (sts left seed pc spot)) ∧ SqL K H pc (cells.map V.int) ∧ 1 ≤ cells.length ∧ cells.length ≤ 100 ∧
  (∀ c ∈ cells, Bits 2000000 c) ∧ 0 ≤ seed ∧ seed < 2147483647 ∧ 0 ≤ spot ∧ spot + n ≤ 1000000000000
section
variable {K : PySem.W.Frag} {H H' : Hp} {a : Addr} {n m : Nat} {T : Addr → Prop} {σ : L2.St} {ρ : Rho}
theorem MS.mono (h : MS K H a n) (hm : m ≤ n) : MS K H a m := by
  obtain ⟨left, seed, pc, spot, cells, h1, h2, h3, h4, h5, h6, h7, h8, h9⟩ := h
  exact ⟨left, seed, pc, spot, cells, h1, h2, h3, h4, h5, h6, h7, h8, by omega⟩
theorem MS.same (h : MS K H a n) (s : Sa H H') : MS K H' a n := by
  obtain ⟨left, seed, pc, spot, cells, h1, h2, h3⟩ := h
  exact ⟨left, seed, pc, spot, cells, s _ _ h1 (by intro ps z; cases z), same_l s _ _ h2, h3⟩
theorem MS.dic (h : MS K H a n) : ∃ kvs, H a = some (.dK kvs) := by
  obtain ⟨left, seed, pc, spot, cells, h1, _⟩ := h
  exact ⟨_, h1⟩
theorem MS.vis (h : MS K (off T H) a n) : ¬ T a ∧ ∃ kvs, H a = some (.dK kvs) := by
  obtain ⟨kvs, h1⟩ := h.dic
  obtain ⟨h2, h3⟩ := off_some h1
  exact ⟨h3, kvs, h2⟩
theorem kp_off (s : Kp a H H') (h : ¬ T a) : Ka a (off T H) (off T H') := by
  refine ⟨fun b o hb e n => ?_, fun ⟨kvs, e⟩ => ?_⟩
  · obtain ⟨e1, e2⟩ := off_some e
    rw [off_no e2]
    exact s.ka.1 b o hb e1 n
  · obtain ⟨e1, e2⟩ := off_some e
    rw [off_no h]
    exact s.ka.2 ⟨kvs, e1⟩
theorem Din.kp (d : Din T H) (s : Kp a H H') : Din T H' := ⟨fun b hb => s.dm b (d.dn b hb), fun P hP => s.tb P (d.tb P hP)⟩
theorem SD.kpo (h : SD K a T H σ ρ) (s : Kp a H H') (m : MS K (off T H) a n) : SD K a T H' σ ρ := by
  obtain ⟨h1, kvs, h2⟩ := m.vis
  refine ⟨h.len, h.dm.kp s, fun i x e => ?_⟩
  obtain ⟨v, g1, g2⟩ := h.sl i x e
  refine ⟨v, g1, ?_⟩
  cases x with
  | dat d => exact dp_kp (kp_off s h1) m.dic g2
  | hnd => exact g2
  | adr _ => exact g2
theorem dp_kpo {v : V} {d : PyData} (h : Dp K (off T H) v d) (s : Kp a H H') (m : MS K (off T H) a n) : Dp K (off T H') v d := dp_kp (kp_off s m.vis.1) m.dic h
theorem dps_kpo {v : List V} {d : List PyData} (h : DpAll K (off T H) v d) (s : Kp a H H') (m : MS K (off T H) a n) : DpAll K (off T H') v d := dps_kp (kp_off s m.vis.1) m.dic h
end

section
variable {X : Cx} {a : Addr} {ρ : Rho}
/-- an expression that may draw: from n left to m left, what comes of it is told by P -/
def EvM (X : Cx) (a : Addr) (e : Expr) (ρ : Rho) (n m : Nat) (P : PyData → Prop) : Prop := ∀ T σ H, SD X.K a T H σ ρ → MS X.K (off T H) a n → ∀ Q : VK, (∀ v d H2, Kp a H H2 → MS X.K (off T H2) a m → Dp X.K (off T H2) v d → P d → Q v H2) → JE X e σ H Q
def EvMT (X : Cx) (a : Addr) (e : Expr) (ρ : Rho) (n m : Nat) (P : Bool → Prop) : Prop := ∀ T σ H, SD X.K a T H σ ρ → MS X.K (off T H) a n → ∀ Q : Bool → Hp → Prop, (∀ b H2, Kp a H H2 → MS X.K (off T H2) a m → P b → Q b H2) → JT X e σ H Q
def EvMA (X : Cx) (a : Addr) (es : List Expr) (ρ : Rho) (n m : Nat) (P : List PyData → Prop) : Prop := ∀ T σ H, SD X.K a T H σ ρ → MS X.K (off T H) a n → ∀ Q : List V → Hp → Prop, (∀ vs ds H2, Kp a H H2 → MS X.K (off T H2) a m → DpAll X.K (off T H2) vs ds → P ds → Q vs H2) → JA X es σ H Q
variable {e l r : Expr} {es : List Expr} {pos : Pos} {n m k : Nat} {d : PyData} {P P1 : PyData → Prop} {P2 : PyData → PyData → Prop}
theorem m_pure (h : EvE X a e ρ d) (hp : P d) (hm : m ≤ n) : EvM X a e ρ n m P := fun T σ H S ms Q q => h T σ H S Q fun v H2 s p => q v d H2 (.of s) ((ms.same (off_same s)).mono hm) p hp
theorem mt_pure {b : Bool} {PB : Bool → Prop} (h : EvT X a e ρ b) (hp : PB b) (hm : m ≤ n) : EvMT X a e ρ n m PB := fun T σ H S ms Q q => h T σ H S Q fun H2 s => q b H2 (.of s) ((ms.same (off_same s)).mono hm) hp
theorem ma_pure {ds : List PyData} {PA : List PyData → Prop} (h : EvA X a es ρ ds) (hp : PA ds) (hm : m ≤ n) : EvMA X a es ρ n m PA := fun T σ H S ms Q q => h T σ H S Q fun vs H2 s p => q vs ds H2 (.of s) ((ms.same (off_same s)).mono hm) p hp
theorem m_weak {n' m' : Nat} {P' : PyData → Prop} (h : EvM X a e ρ n m P) (h1 : n ≤ n') (h2 : m' ≤ m) (h3 : ∀ d, P d → P' d) : EvM X a e ρ n' m' P' := fun T σ H S ms Q q => h T σ H S (ms.mono h1) Q fun v d H2 s ms2 p hp => q v d H2 s (ms2.mono h2) p (h3 d hp)
theorem ma_nil (hm : m ≤ n) : EvMA X a [] ρ n m (fun ds => ds = []) := ma_pure a_nil rfl hm
theorem ma_cons {P2 : PyData → List PyData → Prop} (h : EvM X a e ρ n m P) (h2 : ∀ d, P d → EvMA X a es ρ m k (P2 d)) (hs : starEach (e :: es) X.env = (false, eval e X.env) :: starEach es X.env := by exact star_of rfl) : EvMA X a (e :: es) ρ n k (fun ds => ∃ d ds', ds = d :: ds' ∧ P d ∧ P2 d ds') := fun T σ H S ms Q q =>
  toA (pa_cons je ja hs) (h T σ H S ms _ fun v d H1 s1 ms1 p1 hp => h2 d hp T σ H1 (S.kpo s1 ms) ms1 _ fun vs ds H2 s2 ms2 p2 hp2 => q _ _ H2 (s1.trans s2) ms2 (.cons (dp_kpo p1 s2 ms1) p2) ⟨d, ds, rfl, hp, hp2⟩)
theorem m_bin {op : Operator} (h1 : EvM X a l ρ n m P1) (h2 : ∀ d, P1 d → EvM X a r ρ m k (P2 d)) (ho : ∀ d1 d2, P1 d1 → P2 d1 d2 → ∃ d, OpD X (binaryOp op) d1 d2 d ∧ P d) : EvM X a (.BinOp l op r pos) ρ n k P := fun T σ H S ms Q q => by
  intro pins s I
  have key : ∀ (rr : R2), (∀ x y H Q, rr x y H Q → ∃ r' : R2, OpR X (binaryOp op) r' ∧ r' x y H Q) → OpR X (binaryOp op) rr := fun rr hrr pins s σ H x y v u Q I rx ry h => by
    obtain ⟨r', h1, h2⟩ := hrr x y H Q h
    exact h1 pins s σ H x y v u Q I rx ry h2
  refine (pe_op (key (fun x y H Q => ∃ r' : R2, OpR X (binaryOp op) r' ∧ r' x y H Q) fun _ _ _ _ h => h) je je).run pins s σ H Q I ?_
  refine h1 T σ H S ms _ fun v1 d1 H1 s1 ms1 p1 q1 => h2 d1 q1 T σ H1 (S.kpo s1 ms) ms1 _ fun v2 d2 H2 s2 ms2 p2 q2 => ?_
  obtain ⟨d, ⟨r', hr, hq⟩, hP⟩ := ho d1 d2 q1 q2
  exact ⟨r', hr, hq T v1 v2 H2 ((S.kpo s1 ms).kpo s2 ms1).dm (dp_kpo p1 s2 ms1) p2 Q fun v H3 s3 p3 => q v d H3 ((s1.trans s2).trans (.of s3)) (ms2.same (off_same s3)) p3 hP⟩
theorem m_cmp {op : CmpOp} (h1 : EvM X a l ρ n m P1) (h2 : ∀ d, P1 d → EvM X a r ρ m k (P2 d)) (ho : ∀ d1 d2, P1 d1 → P2 d1 d2 → ∃ d, OpD X (compareOp op) d1 d2 d ∧ P d) (hm : behindInMarks op r = false) : EvM X a (.Compare l [op] [r] pos) ρ n k P := fun T σ H S ms Q q => by
  intro pins s I
  have key : ∀ (rr : R2), (∀ x y H Q, rr x y H Q → ∃ r' : R2, OpR X (compareOp op) r' ∧ r' x y H Q) → OpR X (compareOp op) rr := fun rr hrr pins s σ H x y v u Q I rx ry h => by
    obtain ⟨r', h1, h2⟩ := hrr x y H Q h
    exact h1 pins s σ H x y v u Q I rx ry h2
  refine (pe_cmpR (key (fun x y H Q => ∃ r' : R2, OpR X (compareOp op) r' ∧ r' x y H Q) fun _ _ _ _ h => h) je je hm).run pins s σ H Q I ?_
  refine h1 T σ H S ms _ fun v1 d1 H1 s1 ms1 p1 q1 => h2 d1 q1 T σ H1 (S.kpo s1 ms) ms1 _ fun v2 d2 H2 s2 ms2 p2 q2 => ?_
  obtain ⟨d, ⟨r', hr, hq⟩, hP⟩ := ho d1 d2 q1 q2
  exact ⟨r', hr, hq T v1 v2 H2 ((S.kpo s1 ms).kpo s2 ms1).dm (dp_kpo p1 s2 ms1) p2 Q fun v H3 s3 p3 => q v d H3 ((s1.trans s2).trans (.of s3)) (ms2.same (off_same s3)) p3 hP⟩
theorem mt_cmp {op : CmpOp} {PB : Bool → Prop} (h1 : EvM X a l ρ n m P1) (h2 : ∀ d, P1 d → EvM X a r ρ m k (P2 d)) (ho : ∀ d1 d2, P1 d1 → P2 d1 d2 → ∃ b, OpD X (compareOp op) d1 d2 (.bool b) ∧ PB b) (hm : behindInMarks op r = false) : EvMT X a (.Compare l [op] [r] pos) ρ n k PB := fun T σ H S ms Q q => by
  intro pins s I
  have key : ∀ (rr : R2), (∀ x y H Q, rr x y H Q → ∃ r' : R2, OpR X (compareOp op) r' ∧ r' x y H Q) → OpR X (compareOp op) rr := fun rr hrr pins s σ H x y v u Q I rx ry h => by
    obtain ⟨r', h1, h2⟩ := hrr x y H Q h
    exact h1 pins s σ H x y v u Q I rx ry h2
  refine (pt_cmpR (key (fun x y H Q => ∃ r' : R2, OpR X (compareOp op) r' ∧ r' x y H Q) fun _ _ _ _ h => h) je je hm).run pins s σ H Q I ?_
  refine h1 T σ H S ms _ fun v1 d1 H1 s1 ms1 p1 q1 => h2 d1 q1 T σ H1 (S.kpo s1 ms) ms1 _ fun v2 d2 H2 s2 ms2 p2 q2 => ?_
  obtain ⟨b, ⟨r', hr, hq⟩, hP⟩ := ho d1 d2 q1 q2
  exact ⟨r', hr, hq T v1 v2 H2 ((S.kpo s1 ms).kpo s2 ms1).dm (dp_kpo p1 s2 ms1) p2 _ fun v H3 s3 p3 => ⟨b, dp_bool p3, q b H3 ((s1.trans s2).trans (.of s3)) (ms2.same (off_same s3)) hP⟩⟩
theorem mt_not {PB : Bool → Prop} (h : EvMT X a e ρ n m fun b => PB (!b)) : EvMT X a (.UnaryOp .Not e pos) ρ n m PB := fun T σ H S ms Q q => toT (pt_not jt) (h T σ H S ms _ fun b H2 s2 ms2 hp => q (!b) H2 s2 ms2 hp)
theorem mt_val {PB : Bool → Prop} (h : EvM X a e ρ n m fun d => ∃ b, d = .bool b ∧ PB b) (he : ∀ whole, isTrue e X.env whole = (do let v ← whole; standAt e.pos; holding [v] (truthy v)) := by intro _; rfl) : EvMT X a e ρ n m PB := fun T σ H S ms Q q =>
  toT (pt_val je he) (h T σ H S ms _ fun v d H2 s2 ms2 p hp => by
    obtain ⟨b, rfl, hb⟩ := hp
    exact ⟨b, dp_bool p, q b H2 s2 ms2 hb⟩)
/-- a or b, where a is known to fail -/
theorem mt_orF {PB : Bool → Prop} {b : Expr} {rest : List Expr} (h : EvMT X a e ρ n m fun b => b = false) (h2 : EvMT X a (.BoolOp .Or (b :: rest) pos) ρ m k PB) (hw : PW X (.BoolOp .Or (b :: rest) pos) (JT X (.BoolOp .Or (b :: rest) pos))) : EvMT X a (.BoolOp .Or (e :: b :: rest) pos) ρ n k PB := fun T σ H S ms Q q =>
  toT (PW.pt (pw_or jt hw)) (h T σ H S ms _ fun b H1 s1 ms1 hb => by
    subst hb
    exact iteF (h2 T σ H1 (S.kpo s1 ms) ms1 _ fun b H2 s2 ms2 hp => q b H2 (s1.trans s2) ms2 hp))
theorem m_ixL {o i : Expr} {ds : List PyData} {PI : PyData → Prop} (h1 : EvE X a o ρ (.list ds)) (h2 : EvM X a i ρ n m PI) (hi : ∀ d, PI d → ∃ j d', d = .int j ∧ atI ds j = some d' ∧ P d') (hs : PlainIx i := by exact fun _ _ => rfl) : EvM X a (.Subscript o i pos) ρ n m P := fun T σ H S ms Q q =>
  toE (pe_ix ix_list je je hs) (h1 T σ H S _ fun v1 H1 s1 p1 => h2 T σ H1 (S.same s1) (ms.same (off_same s1)) _ fun v2 d2 H2 s2 ms2 p2 hp2 => by
    obtain ⟨j, d', rfl, g0, gP⟩ := hi d2 hp2
    obtain ⟨pa, xs, rfl, g1, g2⟩ := dpo_lst (dp_kpo p1 s2 (ms.same (off_same s1)))
    obtain ⟨v, g3, g4⟩ := ati_dps g2 g0
    exact ⟨pa, xs, j, v, rfl, dp_int p2, g1, g3, q v d' H2 ((Kp.of s1).trans s2) ms2 g4 gP⟩)
end
end Zj
/-! Calls, blocks, loops, comprehensions that draw. -/
namespace Zj
open PySem PySem.Spec PyProof.Rows L2
variable [Nm]
/-- a def that may draw at most c numbers: of the arguments behind the state R tells what comes of them -/
def spM (K : PySem.W.Frag) (c : Nat) (R : List PyData → (PyData → Prop) → Prop) : Sp := fun vs H Q _ => ∃ a T n vs' ds P, vs = .ref a :: vs' ∧ Din T H ∧ MS K (off T H) a (n + c) ∧ DpAll K (off T H) vs' ds ∧ R ds P ∧ ∀ v d H', Kp a H H' → MS K (off T H') a n → Dp K (off T H') v d → P d → Q v H'
section
variable {X : Cx} {a : Addr} {ρ : Rho} {e l r : Expr} {es : List Expr} {pos p pm : Pos} {n m k c : Nat} {d : PyData} {P : PyData → Prop} {x y : Str} {ps : List Str} {lv : Nat}
theorem m_call {R : List PyData → (PyData → Prop) → Prop} {i : Nat} {ds : List PyData} (C : CalG X.prog X.w X.K X.mg X.base lv x ps (spM X.K c R)) (hgd : X.A.guards = some []) (hr : Room lv X.A) (hi : ρ[i]? = some (some .hnd)) (ha : EvA X a es ρ ds) (hR : R ds P) (hn : m + c ≤ n)
    (hN : X.N[i]? = some y := by rfl) (hv : Vis X.env.scope y := by first | exact Or.inl rfl | exact Or.inr (Or.inl rfl) | exact Or.inr (Or.inr rfl)) (hd : (y == ("__debug__" : Str)) = false := by decide) (hcd : (y == ("__classdict__" : Str)) = false := by decide)
    (hs : starEach (.Name y pm :: es) X.env = (false, eval (.Name y pm) X.env) :: starEach es X.env := by exact star_of rfl) (hg : Gl X x := by rfl) (hdb : (x == ("__debug__" : Str)) = false := by decide) (hpl : (backTo pos (starEach es X.env)).any (·.1) = false := by exact star_no rfl) :
    EvM X a (.Call (.Name x p) (.Name y pm :: es) [] pos) ρ n m P := fun T σ H S ms Q q => by
  obtain ⟨v, h1, h2⟩ := S.sl i _ hi
  have h2 : v = .ref a := h2
  subst h2
  refine toE (pe_callG C hgd hr (pa_cons (pe_var hN hv hd hcd) ja hs) hg hdb hs hpl) ⟨_, h1, ha T σ H S _ fun vs H1 s1 p1 => ?_⟩
  exact ⟨a, T, m, vs, ds, P, rfl, S.dm.same s1, (ms.same (off_same s1)).mono hn, p1, hR, fun v d H' s2 ms2 p2 hp => q v d H' ((Kp.of s1).trans s2) ms2 p2 hp⟩
/-- a def that keeps all, of what was drawn -/
theorem m_callR {R : List PyData → PyData → Prop} {PA : List PyData → Prop} (C : Cal X.prog X.w X.K X.mg X.base lv x ps (spR X.K R)) (hr : Room lv X.A) (ha : EvMA X a (e :: es) ρ n m PA) (hR : ∀ ds, PA ds → ∃ d, R ds d ∧ P d)
    (hg : Gl X x := by rfl) (hdb : (x == ("__debug__" : Str)) = false := by decide) (he : starEach (e :: es) X.env = (false, eval e X.env) :: starEach es X.env := by exact star_of rfl) (hpl : (backTo pos (starEach es X.env)).any (·.1) = false := by exact star_no rfl) :
    EvM X a (.Call (.Name x p) (e :: es) [] pos) ρ n m P := fun T σ H S ms Q q => by
  obtain ⟨f, fd, F, hm, hk, hb⟩ := C.ex
  refine toE (pe_call F hr hg hm hk hb (ds := []) (dvs := []) .nil pass0 ja hdb he hpl) (ha T σ H S ms _ fun vs ds H1 s1 ms1 p1 hp => ?_)
  rw [List.append_nil]
  obtain ⟨d, h1, h2⟩ := hR ds hp
  exact ⟨T, ds, d, (S.kpo s1 ms).dm, p1, h1, fun v H2 s2 p2 => q v d H2 (s1.trans (.of s2)) (ms1.same (off_same s2)) p2 h2⟩
theorem e_callG {R : List PyData → PyData → Prop} {ds : List PyData} (C : CalG X.prog X.w X.K X.mg X.base lv x ps (spR X.K R)) (hgd : X.A.guards = some []) (hr : Room lv X.A) (ha : EvA X a (e :: es) ρ ds) (hR : R ds d)
    (hg : Gl X x := by rfl) (hdb : (x == ("__debug__" : Str)) = false := by decide) (he : starEach (e :: es) X.env = (false, eval e X.env) :: starEach es X.env := by exact star_of rfl) (hpl : (backTo pos (starEach es X.env)).any (·.1) = false := by exact star_no rfl) :
    EvE X a (.Call (.Name x p) (e :: es) [] pos) ρ d := fun T σ H S Q q =>
  toE (pe_callG C hgd hr ja hg hdb he hpl) (ha T σ H S _ fun vs H1 s1 p1 => ⟨T, ds, d, S.dm.same s1, p1, hR, fun v H2 s2 p2 => q v H2 (s1.trans s2) p2⟩)
/-- a built-in, of what was drawn -/
theorem m_callT {id : String} {PA : List PyData → Prop} (hc : ∀ ds, PA ds → ∃ d, CaD X (.type id) ds d ∧ P d) (ha : EvMA X a (e :: es) ρ n m PA) (hm : X.mg x = none) (hv : bootBuiltins x = some (.type id)) (hg : Gl X x := by rfl) (hn : x ≠ "__name__" := by decide) (hdb : (x == ("__debug__" : Str)) = false := by decide)
    (he : starEach (e :: es) X.env = (false, eval e X.env) :: starEach es X.env := by exact star_of rfl) (hpl : (backTo pos (starEach es X.env)).any (·.1) = false := by exact star_no rfl) : EvM X a (.Call (.Name x p) (e :: es) [] pos) ρ n m P := fun T σ H S ms Q q => by
  have key : CallR X (.type id) (fun vs H Q => ∃ r', CallR X (.type id) r' ∧ r' vs H Q) := fun pins s σ H vs us Q I r h => by
    obtain ⟨r', h1, h2⟩ := h
    exact h1 pins s σ H vs us Q I r h2
  refine toE (pe_callTy key hg hm hv ja hn hdb he hpl) (ha T σ H S ms _ fun vs ds H1 s1 ms1 p1 hp => ?_)
  obtain ⟨d, ⟨r', h1, h2⟩, h3⟩ := hc ds hp
  exact ⟨r', h1, h2 T vs H1 (S.kpo s1 ms).dm p1 Q fun v H2 s2 p2 => q v d H2 (s1.trans (.of s2)) (ms1.same (off_same s2)) p2 h3⟩
theorem m_tup {x1} {PA : List PyData → Prop} (h : EvMA X a es ρ n m PA) (hP : ∀ ds, PA ds → ds.length ≤ 100000 ∧ P (.tuple ds)) : EvM X a (.Tuple es x1 pos) ρ n m P := fun T σ H S ms Q q =>
  toE (pe_tup ja) (h T σ H S ms _ fun vs ds H1 s1 ms1 p1 hp => ⟨by rw [dps_len p1]; exact szl (hP ds hp).1, fun p h0 => q _ _ _ (s1.trans (.of (same_new h0))) (ms1.same (off_same (same_new h0))) (dpo_newT (S.kpo s1 ms).dm h0 p1) (hP ds hp).2⟩)
theorem m_lst {PA : List PyData → Prop} (h : EvMA X a es ρ n m PA) (hP : ∀ ds, PA ds → ds.length ≤ 100000 ∧ P (.list ds)) : EvM X a (.List es pos) ρ n m P := fun T σ H S ms Q q =>
  toE (pe_lst ja) (h T σ H S ms _ fun vs ds H1 s1 ms1 p1 hp => ⟨by rw [dps_len p1]; exact szl (hP ds hp).1, fun p h0 => q _ _ _ (s1.trans (.of (same_new h0))) (ms1.same (off_same (same_new h0))) (dpo_newL (S.kpo s1 ms).dm h0 p1) (hP ds hp).2⟩)
end

/-! ### blocks -/
section
variable {X : Cx} {a : Addr} {ρ : Rho} {n m : Nat} {N : Nat → Rho → Prop} {R : Nat → PyData → Prop} {st : Stmt} {sts : List Stmt} {e : Expr} {d : PyData} {pos : Pos} {P : PyData → Prop}
def RunM (X : Cx) (a : Addr) (sts : List Stmt) (ρ : Rho) (n : Nat) (N : Nat → Rho → Prop) (R : Nat → PyData → Prop) : Prop := ∀ T σ H D, SD X.K a T H σ ρ → MS X.K (off T H) a n → (∀ σ' H' ρ' m, Kp a H H' → SD X.K a T H' σ' ρ' → MS X.K (off T H') a m → N m ρ' → D.nx σ' H') → (∀ v H' d m, Kp a H H' → MS X.K (off T H') a m → Dp X.K (off T H') v d → R m d → D.rt v H') → JSs X sts D σ H
def RunMS (X : Cx) (a : Addr) (st : Stmt) (ρ : Rho) (n : Nat) (N : Nat → Rho → Prop) (R : Nat → PyData → Prop) : Prop := ∀ T σ H D, SD X.K a T H σ ρ → MS X.K (off T H) a n → (∀ σ' H' ρ' m, Kp a H H' → SD X.K a T H' σ' ρ' → MS X.K (off T H') a m → N m ρ' → D.nx σ' H') → (∀ v H' d m, Kp a H H' → MS X.K (off T H') a m → Dp X.K (off T H') v d → R m d → D.rt v H') → JS X st D σ H
theorem q_nil (h : N n ρ) : RunM X a [] ρ n N R := fun T σ H D S ms kn kr => toSs pss_nil (kn σ H ρ n Kp.refl S ms h)
theorem q_cons (h : RunMS X a st ρ n (fun m ρ' => RunM X a sts ρ' m N R) R) : RunM X a (st :: sts) ρ n N R := fun T σ H D S ms kn kr =>
  toSs (pss_cons js jss) (h T σ H { D with nx := fun σ' H' => JSs X sts D σ' H' } S ms (fun σ' H' ρ' m s S' ms' hN => hN T σ' H' D S' ms' (fun σ2 H2 ρ2 m2 s2 S2 ms2 n2 => kn σ2 H2 ρ2 m2 (s.trans s2) S2 ms2 n2) fun v H2 d m2 s2 ms2 p r => kr v H2 d m2 (s.trans s2) ms2 p r) kr)
theorem q_one (h : RunMS X a st ρ n N R) : RunM X a [st] ρ n N R := fun T σ H D S ms kn kr => toSs (pss_one js) (h T σ H D S ms kn kr)
/-- a statement that draws nothing -/
theorem q_pure {R' : PyData → Prop} {N' : Rho → Prop} (h : RunS X a st ρ N' R') (hn : ∀ ρ', N' ρ' → N n ρ') (hr : ∀ d, R' d → R n d) : RunMS X a st ρ n N R := fun T σ H D S ms kn kr =>
  h T σ H D S (fun σ' H' ρ' s S' h' => kn σ' H' ρ' n (.of s) S' (ms.same (off_same s)) (hn ρ' h')) fun v H' d s p r => kr v H' d n (.of s) (ms.same (off_same s)) p (hr d r)
theorem qs_ret (h : EvM X a e ρ n m P) (hr : ∀ d, P d → R m d) : RunMS X a (.Return (some e) pos) ρ n N R := fun T σ H D S ms kn kr => toS (ps_ret je) (h T σ H S ms _ fun v d H1 s1 ms1 p1 hp => kr v H1 d m s1 ms1 p1 (hr d hp))
theorem qs_set {i : Nat} {x : Str} {pos' : Pos} (G : Good X) (h : EvM X a e ρ n m P) (hn : ∀ d, P d → N m (ρ.set i (some (.dat d)))) (hi : X.N[i]? = some x := by rfl) (hx : Loc X.env.scope x := by first | exact Or.inl rfl | exact Or.inr rfl)
    (hs : swapsWith e (some (.Name x pos')) pos.line X.env = pure false := by rfl) (hf : X.fn x = true ∨ X.env.scope.names.lookup x = some .local := by first | exact .inl rfl | exact .inr rfl) : RunMS X a (.Assign [.Name x pos'] e pos) ρ n N R := fun T σ H D S ms kn kr =>
  toS (ps_set G.nd hi hx je hs hf) (h T σ H S ms _ fun v d H1 s1 ms1 p1 hp => kn _ H1 _ m s1 ((S.kpo s1 ms).put (x := .dat d) p1) ms1 (hn d hp))
theorem qs_par {i j : Nat} {x y : Str} {e1 e2 : Expr} {px py pt : Pos} {kt k2 pt2} {PA : List PyData → Prop} (G : Good X) (h : EvMA X a [e1, e2] ρ n m PA) (hn : ∀ ds, PA ds → ∃ d1 d2, ds = [d1, d2] ∧ N m ((ρ.set i (some (.dat d1))).set j (some (.dat d2)))) (hi : X.N[i]? = some x := by rfl) (hj : X.N[j]? = some y := by rfl) (hij : i ≠ j := by decide)
    (hx : X.env.scope.names.lookup x = some .local := by rfl) (hy : X.env.scope.names.lookup y = some .local := by rfl)
    (hw : swappedStores [.Tuple [.Name x px, .Name y py] kt pt] (.Tuple [e1, e2] k2 pt2) X.env = pure (some [x, y]) := by rfl)
    (hs : swapsWithSole [.Tuple [.Name x px, .Name y py] kt pt] (.Tuple [e1, e2] k2 pt2) pos.line X.env = pure false := by rfl) :
    RunMS X a (.Assign [.Tuple [.Name x px, .Name y py] kt pt] (.Tuple [e1, e2] k2 pt2) pos) ρ n N R := fun T σ H D S ms kn kr =>
  toS (ps_par G.calm G.nd hi hj hij hx hy ja hw hs) (h T σ H S ms _ fun vs ds H1 s1 ms1 p1 hp => by
    obtain ⟨d1, d2, rfl, hN⟩ := hn ds hp
    obtain ⟨v, v', rfl, q1, q2⟩ := dps2 p1
    exact ⟨v, v', rfl, kn _ H1 _ m s1 (((S.kpo s1 ms).put (x := .dat d1) q1).put (x := .dat d2) q2) ms1 hN⟩)
theorem qs_asg {tg : Expr} {g : TG} {vs : List Nat} {f : PyData → Rho → Option Rho} (h : EvM X a e ρ n m P) (hg : PG X tg g) (ht : TgSem X.K a g vs f) (hn : ∀ d, P d → ∃ ρ', f d ρ = some ρ' ∧ N m ρ')
    (hs : swapsWithSole [tg] e pos.line X.env = pure false := by rfl) (hw : swappedStores [tg] e X.env = pure none := by rfl) (h1 : (assignEach [tg] X.env).map (·.2) = [assign tg X.env] := by rfl) : RunMS X a (.Assign [tg] e pos) ρ n N R := fun T σ H D S ms kn kr =>
  toS (ps_asg je hg hs hw h1) (h T σ H S ms _ fun v d H1 s1 ms1 p1 hp => by
    obtain ⟨ρ', e', hN⟩ := hn d hp
    exact ht T σ H1 v d ρ ρ' (S.kpo s1 ms) p1 e' _ fun σ' S' _ => kn σ' H1 ρ' m s1 S' ms1 hN)
theorem qs_if {c : Expr} {PB : Bool → Prop} {body orelse : List Stmt} (hc : EvMT X a c ρ n m PB) (h1 : PB true → RunM X a body ρ m N R) (h2 : PB false → RunM X a orelse ρ m N R) : RunMS X a (.If c body orelse pos) ρ n N R := fun T σ H D S ms kn kr =>
  toS (ps_if jt jss jss) (hc T σ H S ms _ fun b H1 s1 ms1 hb => by
    cases b with
    | true => exact iteT (h1 hb T σ H1 D (S.kpo s1 ms) ms1 (fun σ2 H2 ρ2 m2 s2 S2 ms2 n2 => kn σ2 H2 ρ2 m2 (s1.trans s2) S2 ms2 n2) fun v H2 d m2 s2 ms2 p r => kr v H2 d m2 (s1.trans s2) ms2 p r)
    | false => exact iteF (h2 hb T σ H1 D (S.kpo s1 ms) ms1 (fun σ2 H2 ρ2 m2 s2 S2 ms2 n2 => kn σ2 H2 ρ2 m2 (s1.trans s2) S2 ms2 n2) fun v H2 d m2 s2 ms2 p r => kr v H2 d m2 (s1.trans s2) ms2 p r))
end
/-! ### the state out of sight, while something is walked -/
section
variable {K : PySem.W.Frag} {a : Addr} {T : Addr → Prop} {H H' : Hp} {σ : L2.St} {ρ : Rho} {n : Nat}
def And1 (T : Addr → Prop) (a : Addr) : Addr → Prop := fun b => T b ∨ b = a
theorem dp_hide {v : V} {d : PyData} (h : Dp K (off T H) v d) (m : MS K (off T H) a n) : Dp K (off (And1 T a) H) v d := by
  obtain ⟨kvs, hk⟩ := m.dic
  have key : ∀ b o, off T H b = some o → (∀ k, o ≠ .dK k) → off (And1 T a) H b = some o := fun b o e hn => by
    have hne : b ≠ a := fun z => by
      rw [z, hk] at e
      cases e
      exact hn _ rfl
    obtain ⟨e1, e2⟩ := off_some e
    rw [off_no (fun z => z.elim e2 hne)]
    exact e1
  refine dp_map (fun b xs h => ?_) (fun b xs h => ?_) d v h
  · rcases h with (h | ⟨o, h⟩) | h
    · exact .inl (.inl (key _ _ h fun k z => by cases z))
    · exact .inl (.inr ⟨o, key _ _ h fun k z => by cases z⟩)
    · exact .inr h
  · rcases h with (h | ⟨o, h⟩) | h
    · exact .inl (.inl (key _ _ h fun k z => by cases z))
    · exact .inl (.inr ⟨o, key _ _ h fun k z => by cases z⟩)
    · exact .inr h
theorem Din.and1 (d : Din T H) (m : MS K (off T H) a n) : Din (And1 T a) H := ⟨fun b hb => by
  rcases hb with hb | hb
  · exact d.dn b hb
  · obtain ⟨_, kvs, h⟩ := m.vis
    rw [hb, h]
    exact (fun z => nomatch z), d.tb⟩
theorem SD.hide (h : SD K a T H σ ρ) (m : MS K (off T H) a n) : SD K a (And1 T a) H σ ρ := ⟨h.len, h.dm.and1 m, fun i x e => by
  obtain ⟨v, g1, g2⟩ := h.sl i x e
  refine ⟨v, g1, ?_⟩
  cases x with
  | dat d => exact dp_hide g2 m
  | hnd => exact g2
  | adr _ => exact g2⟩
theorem kp_same1 (s : Kp a H H') : Sa (off (And1 T a) H) (off (And1 T a) H') := fun b o e n => by
  obtain ⟨e1, e2⟩ := off_some e
  rw [off_no e2]
  exact s.ka.1 b o (fun z => e2 (.inr z)) e1 n
theorem Kp.putL {H1 : Hp} {D : Addr} {acc acc' : List V} (s : Kp a H1 H') (h1 : H1 D = none) (h3 : H' D = some (.lst acc)) (Da : D ≠ a) : Kp a H1 (upd H' D (.lst acc')) := ⟨⟨fun b o hb e n => by
    rw [upd_ne (fun z => by rw [z, h1] at e; cases e)]
    exact s.ka.1 b o hb e n, fun z => by
    rw [upd_ne (Ne.symm Da)]
    exact s.ka.2 z⟩, fun P t => by
    have t1 := t
    obtain ⟨ps, g1, _⟩ := t1
    obtain ⟨ps, g2, g3, g4⟩ := s.tb P t
    refine ⟨ps, by rw [upd_ne (fun z => by rw [z, h1] at g1; cases g1)]; exact g2, g3, fun pos cv hc => ?_⟩
    obtain ⟨c, e1, e2⟩ := g4 pos cv hc
    exact ⟨c, e1, by rw [upd_ne (fun z => by rw [z, h3] at e2; unfold LamX.CodeO at e2; cases e2)]; exact e2⟩, fun b hb => by
    rw [upd_ne (fun z => hb (by rw [z]; exact h1))]
    exact s.dm b hb⟩
inductive Fa2 (V : PyData → PyData → Prop) : List PyData → List PyData → Prop
  | nil : Fa2 V [] []
  | cons {x y : PyData} {xs ys : List PyData} : V x y → Fa2 V xs ys → Fa2 V (x :: xs) (y :: ys)
theorem Fa2.len {V : PyData → PyData → Prop} {xs ys : List PyData} (h : Fa2 V xs ys) : xs.length = ys.length := by
  induction h with
  | nil => rfl
  | cons _ _ ih => rw [List.length_cons, List.length_cons, ih]
theorem Fa2.snoc {V : PyData → PyData → Prop} {xs ys : List PyData} {x y : PyData} (h : Fa2 V xs ys) (hx : V x y) : Fa2 V (xs ++ [x]) (ys ++ [y]) := by
  induction h with
  | nil => exact .cons hx .nil
  | cons a _ ih => exact .cons a ih
theorem Fa2.all {V : PyData → PyData → Prop} {W : PyData → Prop} {xs ys : List PyData} (h : Fa2 V xs ys) (hw : ∀ x y, V x y → W y) : ∀ y ∈ ys, W y := by
  induction h with
  | nil => exact fun y hy => by cases hy
  | cons a _ ih =>
    intro z hz
    rcases List.mem_cons.mp hz with e | e
    · rw [e]
      exact hw _ _ a
    · exact ih z e
end
section
variable {X : Cx} {a : Addr} {ρ : Rho} {n k c ce : Nat} {N : Nat → Rho → Prop} {R : Nat → PyData → Prop} {tg it elt t : Expr} {items : List PyData} {pos : Pos} {body : List Stmt} {g : TG} {vs : List Nat} {f : PyData → Rho → Option Rho} {scope : Scope} {own : List (Str × Nat)} {P : PyData → Prop}
theorem qs_for (G : Good X) (hs : Src X a tg it ρ items) (hg : PG X tg g) (ht : TgSem X.K a g vs f) (J : Nat → Nat → Rho → Prop) (h0 : J 0 n ρ)
    (hb : ∀ i d m ρ1, items[i]? = some d → J i m ρ1 → ∃ ρ2, f d ρ1 = some ρ2 ∧ RunM X a body ρ2 m (fun m' ρ' => J (i + 1) m' ρ') R) (hd : ∀ m ρ', J items.length m ρ' → N m ρ')
    (hf : ∀ x, foldedSetIterable it X.env x = pure x := by intro _; rfl) : RunMS X a (.For tg it body [] pos) ρ n N R := fun T σ H D S ms kn kr => by
  obtain ⟨wi, hw, hq⟩ := hs
  refine toS (ps_for G.ow G.calm hw hg jss hf) (hq (And1 T a) σ H (S.hide ms) _ fun Ji H1 Gd Y s1 w hG hY => ?_)
  have ms1 := ms.same (off_same s1)
  have S1 := S.same s1
  have sees : ∀ {H'}, Kp a H1 H' → Sees (And1 T a) H1 (And1 T a) H' := fun {H'} s => by
    refine ⟨⟨fun b hb => ?_, (S1.dm.kp s).tb⟩, kp_same1 s⟩
    rcases hb with hb | hb
    · exact (S1.dm.kp s).dn b hb
    · obtain ⟨kvs, hk⟩ := s.ka.2 ms1.vis.2
      rw [hb, hk]
      exact fun z => by cases z
  refine for_it w (fun i σ' H' => Kp a H1 H' ∧ ∃ ρ' m, SD X.K a T H' σ' ρ' ∧ MS X.K (off T H') a m ∧ J i m ρ') ⟨Kp.refl, ρ, n, S1, ms1, h0⟩ (fun i σ' H' _ hp => hG _ H' (sees hp.1)) (fun i x σ' H' H'' hi hp y => ?_) fun σ' H' hp => ?_
  · obtain ⟨s2, ρ', m, S', ms', hj⟩ := hp
    obtain ⟨s3, d, hdi, pd⟩ := hY _ i H' x H'' hi (sees s2) y
    obtain ⟨ρ2, e2, hrun⟩ := hb i d m ρ' hdi hj
    refine ht T σ' H'' x d ρ' ρ2 (S'.same s3) (dp_same off_less pd) e2 _ fun σ2 S2 _ => ?_
    have s23 : Kp a H1 H'' := s2.trans (.of s3)
    exact hrun T σ2 H'' _ S2 (ms'.same (off_same s3)) (fun σ3 H3 ρ3 m3 s4 S3 ms3 n3 => ⟨s23.trans s4, ρ3, m3, S3, ms3, n3⟩) fun v H3 d m3 s4 ms4 p r => kr v H3 d m3 ((Kp.of s1).trans (s23.trans s4)) ms4 p r
  · obtain ⟨s2, ρ', m, S', ms', hj⟩ := hp
    exact kn σ' H' ρ' m ((Kp.of s1).trans s2) S' ms' (hd m ρ' hj)

def FillM (K : PySem.W.Frag) (a : Addr) (T : Addr → Prop) (H1 : Hp) (D : Addr) (m : Nat) (V : PyData → PyData → Prop) (xs : List PyData) (H' : Hp) : Prop := H1 D = none ∧ Kp a H1 H' ∧ Din (And1 T D) H' ∧ MS K (off (And1 T D) H') a m ∧ ∃ acc ds, H' D = some (.lst acc) ∧ DpAll K (off (And1 T D) H') acc ds ∧ Fa2 V xs ds
theorem lcM_own {wi : TI} {tt : TT} {te : TE} {keep : PyData → Bool} {V : PyData → PyData → Prop} {T : Addr → Prop} {σ : L2.St} {H : Hp} {Q : VK} (S : SD X.K a T H σ ρ) (ms : MS X.K (off T H) a n) (hn : k + c * items.length ≤ n) (hz : items.length < 100000)
    (hq : ∀ R : It → Hp → Prop,
  (∀ J H1 (Gd : Hp → Prop) Y, Sm H H1 → Walk J items.length Gd Y → (∀ T' H', Sees (And1 T a) H1 T' H' → Gd H') →
    (∀ T' i H' x H'', i < items.length → Sees (And1 T a) H1 T' H' → Y i H' x H'' → Sm H' H'' ∧ ∃ d, items[i]? = some d ∧ Dp X.K (off T' H'') x d) → R J H1) → wi σ H R)
    (ht : TgSem X.K a g vs f)
    (hb : ∀ d, d ∈ items → ∃ ρ2, f d (wipeR ρ vs) = some ρ2 ∧ ∀ m, (∀ T σ H, SD X.K a T H σ ρ2 → MS X.K (off T H) a (m + c) → ∀ Q : Bool → Hp → Prop, (∀ H2, Kp a H H2 → MS X.K (off T H2) a (m + ce) → Q (keep d) H2) → tt σ H Q) ∧
      (keep d = true → ∀ T σ H, SD X.K a T H σ ρ2 → MS X.K (off T H) a (m + ce) → ∀ Q : VK, (∀ v d' H2, Kp a H H2 → MS X.K (off T H2) a m → Dp X.K (off T H2) v d' → V d d' → Q v H2) → te σ H Q))
    (kq : ∀ D acc ds H2, H D = none → ¬ T D → D ≠ a → Kp a H H2 → SD X.K a (And1 T D) H2 σ ρ → MS X.K (off (And1 T D) H2) a k → H2 D = some (.lst acc) → DpAll X.K (off (And1 T D) H2) acc ds → Fa2 V (items.filter keep) ds → Q (.ref D) H2) : tLc wi g tt te vs σ H Q := by
  refine hq _ fun J H1 Gd Y s1 w hG hY => ?_
  intro D hD
  have S1 := S.same s1
  have ms1 := ms.same (off_same s1)
  have nD : ¬ T D := fun z => S1.dm.dn D z hD
  have Da : D ≠ a := fun z => by
    obtain ⟨_, kvs, hk⟩ := ms1.vis
    rw [← z, hD] at hk
    cases hk
  have sees : ∀ {H' xs m}, FillM X.K a T H1 D m V xs H' → Sees (And1 T a) H1 (And1 (And1 T D) a) H' := fun {H' xs m} p => by
    obtain ⟨h1, h2, h3, h4, _⟩ := p
    refine ⟨h3.and1 h4, fun b o e n => ?_⟩
    obtain ⟨e1, e2⟩ := off_some e
    have hb : b ≠ D := fun z => by
      rw [z, h1] at e1
      cases e1
    rw [off_no (fun z => z.elim (fun z => z.elim (fun z => e2 (.inl z)) hb) fun z => e2 (.inr z))]
    exact h2.ka.1 b o (fun z => e2 (.inr z)) e1 n
  have start : FillM X.K a T H1 D (k + c * items.length) V ((items.take 0).filter keep) (upd H1 D (.lst [])) :=
    ⟨hD, .of (same_new hD), S1.dm.new hD, by
      have e : off (And1 T D) (upd H1 D (.lst [])) = off T H1 := off_more hD
      rw [e]
      exact ms1.mono hn, [], [], upd_same, .nil, .nil⟩
  have fsame : ∀ {H' H'' xs m}, FillM X.K a T H1 D m V xs H' → Sm H' H'' → FillM X.K a T H1 D m V xs H'' := fun {H' H'' xs m} p s => by
    obtain ⟨h1, h2, h3, h4, acc, ds, h5, h6, h7⟩ := p
    exact ⟨h1, h2.trans (.of s), h3.same s, h4.same (off_same s), acc, ds, s.ob _ _ h5 (by intro ps z; cases z), dpso s h6, h7⟩
  have fkp : ∀ {H' H'' xs m m'}, FillM X.K a T H1 D m V xs H' → Kp a H' H'' → MS X.K (off (And1 T D) H'') a m' → FillM X.K a T H1 D m' V xs H'' := fun {H' H'' xs m m'} p s ms' => by
    obtain ⟨h1, h2, h3, h4, acc, ds, h5, h6, h7⟩ := p
    exact ⟨h1, h2.trans s, h3.kp s, ms', acc, ds, s.ka.1 _ _ Da h5 (by intro ps z; cases z), dps_kpo h6 s h4, h7⟩
  have key : ∀ i, i < items.length → c * (items.length - i) = c * (items.length - (i + 1)) + c := fun i hi => by
    rw [show items.length - i = (items.length - (i + 1)) + 1 by omega, Nat.mul_add, Nat.mul_one]
  refine lc_it w (fun i H' => i ≤ items.length ∧ FillM X.K a T H1 D (k + c * (items.length - i)) V ((items.take i).filter keep) H') ⟨Nat.zero_le _, start⟩
    (fun i H' _ p => hG _ H' (sees p.2)) (fun i x H' H'' hi p y => ?_) fun H' p => ?_
  · obtain ⟨s3, d, hdi, pd⟩ := hY _ i H' x H'' hi (sees p.2) y
    obtain ⟨ρ2, e2, hm⟩ := hb d (List.mem_of_getElem? hdi)
    obtain ⟨k1, k2⟩ := hm (k + c * (items.length - (i + 1)))
    have p' := fsame p.2 s3
    have ee : k + c * (items.length - (i + 1)) + c = k + c * (items.length - i) := by rw [key i hi]; omega
    have S2 : SD X.K a (And1 T D) H'' (L2.wipe σ vs) (wipeR ρ vs) := ⟨(S1.wipe vs).len, p'.2.2.1, fun j z e => by
      obtain ⟨v, q1, q2⟩ := ((S1.hide ms1).wipe vs).sl j z e
      refine ⟨v, q1, ?_⟩
      cases z with
      | dat d => exact dp_same off_less (dp_same (sees p').2 q2)
      | hnd => exact q2
      | adr _ => exact q2⟩
    refine ht _ _ H'' x d _ ρ2 S2 (dp_same off_less pd) e2 _ fun σ2 S3 hw => ⟨?_, ?_⟩
    · rw [hw]
      apply List.ext_getElem?
      intro n
      rw [wipe_get, wipe_get, wipe_length]
      by_cases hn : n ∈ vs
      · rw [if_pos hn, if_pos hn]
      · rw [if_neg hn, if_neg hn]
    · have msp := p'.2.2.2.1
      rw [← ee] at msp
      refine k1 _ σ2 H'' S3 msp _ fun H3 s4 ms4 => ?_
      have tk : (items.take (i + 1)).filter keep = if keep d then (items.take i).filter keep ++ [d] else (items.take i).filter keep := by
        rw [List.take_add_one, hdi]
        simp only [Option.toList_some, List.filter_append]
        cases hk : keep d with
        | true => rw [if_pos rfl, List.filter_cons_of_pos hk] <;> rfl
        | false =>
          rw [List.filter_cons_of_neg (by rw [hk]; exact Bool.false_ne_true)]
          show _ ++ ([] : List PyData) = _
          rw [List.append_nil] <;> rfl
      have p3 := fkp p' s4 ms4
      rw [tk]
      cases hk : keep d with
      | false => exact iteF ⟨hi, fkp p' s4 (ms4.mono (Nat.le_add_right _ _))⟩
      | true =>
        refine iteT (k2 hk _ σ2 H3 (S3.kpo s4 msp) ms4 _ fun y d' H4 s5 ms5 py hV => ?_)
        obtain ⟨h1, h2, h3, h4, acc, ds, h5, h6, h7⟩ := fkp p3 s5 ms5
        refine ⟨acc, h5, ?_, hi, h1, h2.putL h1 h5 Da, ⟨fun b hb => ?_, fun P hP => (h2.putL h1 h5 Da).tb P (S1.dm.tb P hP)⟩, ?_, acc ++ [y], ds ++ [d'], upd_same, ?_, h7.snoc hV⟩
        · have e1 := dps_len h6
          have e2 := h7.len
          have e3 := List.length_filter_le keep (items.take i)
          have e4 := List.length_take_le i items
          exact Nat.lt_of_lt_of_le (show acc.length < 100000 by omega) (by decide)
        · by_cases hbD : b = D
          · rw [hbD, upd_same]
            exact fun z => by cases z
          · rw [upd_ne hbD]
            exact h3.dn b hb
        · have e : off (And1 T D) (upd H4 D (.lst (acc ++ [y]))) = off (And1 T D) H4 := off_put (.inr rfl)
          rw [e]
          exact ms5
        · have e : off (And1 T D) (upd H4 D (.lst (acc ++ [y]))) = off (And1 T D) H4 := off_put (.inr rfl)
          rw [e]
          exact dps_snoc h6 py
  · have p0 := p.2
    obtain ⟨_, h1, h2, h3, h4, acc, ds, h5, h6, h7⟩ := p
    rw [List.take_length] at h7
    have n0 : H D = none := by
      cases q : H D with
      | none => rfl
      | some o => exact (s1.dm D (by rw [q]; exact fun z => by cases z) hD).elim
    refine kq D acc ds H' n0 nD Da ((Kp.of s1).trans h2) ⟨S1.len, h3, fun j z e => ?_⟩ (h4.mono (by rw [Nat.sub_self]; omega)) h5 h6 h7
    obtain ⟨v, q1, q2⟩ := (S1.hide ms1).sl j z e
    refine ⟨v, q1, ?_⟩
    cases z with
    | dat d => exact dp_same off_less (dp_same (sees p0).2 q2)
    | hnd => exact q2
    | adr _ => exact q2
theorem lcM_read {wi : TI} {tt : TT} {te : TE} {keep : PyData → Bool} {V : PyData → PyData → Prop} {T : Addr → Prop} {σ : L2.St} {H : Hp} {Q : VK} (S : SD X.K a T H σ ρ) (ms : MS X.K (off T H) a n) (hn : k + c * items.length ≤ n) (hz : items.length < 100000)
    (hq : ∀ R : It → Hp → Prop,
  (∀ J H1 (Gd : Hp → Prop) Y, Sm H H1 → Walk J items.length Gd Y → (∀ T' H', Sees (And1 T a) H1 T' H' → Gd H') →
    (∀ T' i H' x H'', i < items.length → Sees (And1 T a) H1 T' H' → Y i H' x H'' → Sm H' H'' ∧ ∃ d, items[i]? = some d ∧ Dp X.K (off T' H'') x d) → R J H1) → wi σ H R)
    (ht : TgSem X.K a g vs f)
    (hb : ∀ d, d ∈ items → ∃ ρ2, f d (wipeR ρ vs) = some ρ2 ∧ ∀ m, (∀ T σ H, SD X.K a T H σ ρ2 → MS X.K (off T H) a (m + c) → ∀ Q : Bool → Hp → Prop, (∀ H2, Kp a H H2 → MS X.K (off T H2) a (m + ce) → Q (keep d) H2) → tt σ H Q) ∧
      (keep d = true → ∀ T σ H, SD X.K a T H σ ρ2 → MS X.K (off T H) a (m + ce) → ∀ Q : VK, (∀ v d' H2, Kp a H H2 → MS X.K (off T H2) a m → Dp X.K (off T H2) v d' → V d d' → Q v H2) → te σ H Q))
    (kq : ∀ v ds H2, Kp a H H2 → MS X.K (off T H2) a k → Dp X.K (off T H2) v (.list ds) → Fa2 V (items.filter keep) ds → Q v H2) : tLc wi g tt te vs σ H Q :=
  lcM_own S ms hn hz hq ht hb fun D acc ds H2 n0 nD Da s S2 ms2 h5 h6 h7 => kq _ ds H2 s (ms2.same off_less) (.lst (.of (by rw [off_no nD]; exact h5)) (dps_same off_less h6)) h7
end
end Zj
/-! Comprehensions that draw, by their text; defs that draw. -/
namespace Zj
open PySem PySem.Spec PyProof.Rows L2
variable [Nm]
section
variable {X : Cx} {a : Addr} {ρ : Rho} {n k c ce : Nat} {N : Nat → Rho → Prop} {R : Nat → PyData → Prop} {tg it elt t : Expr} {items : List PyData} {pos : Pos} {g : TG} {f : PyData → Rho → Option Rho} {scope : Scope} {own : List (Str × Nat)} {P : PyData → Prop}
def EvMb (X : Cx) (scope : Scope) (a : Addr) (e : Expr) (ρ : Rho) (n m : Nat) (P : PyData → Prop) : Prop := ∀ s H0 C cl fp, EvM (X.blk s H0 scope (compEnvC scope cl C X.env) fp) a e ρ n m P
def EvMTb (X : Cx) (scope : Scope) (a : Addr) (e : Expr) (ρ : Rho) (n m : Nat) (P : Bool → Prop) : Prop := ∀ s H0 C cl fp, EvMT (X.blk s H0 scope (compEnvC scope cl C X.env) fp) a e ρ n m P
theorem m_lc0 {V : PyData → PyData → Prop} (G : Good X) (hs : Src X a tg it ρ items) (hn : k + c * items.length ≤ n) (hz : items.length < 100000) (ok : BlkOk X.N X.env.scope scope own)
    (hg : ∀ (s : Shared) (H : Hp) (C : Addr) (cl : List (Str × Addr)) (fp : List Addr), PG (X.blk s H scope (compEnvC scope cl C X.env) fp) tg g) (ht : TgSem X.K a g (own.map (·.2)) f)
    (hb : ∀ d, d ∈ items → ∃ ρ2, f d (wipeR ρ (own.map (·.2))) = some ρ2 ∧ ∀ m, EvMb X scope a elt ρ2 (m + c) m (V d)) (hP : ∀ ds, Fa2 V items ds → P (.list ds))
    (hf : ∀ x, foldedSetIterable it X.env x = pure x := by intro _; rfl) : EvM X a (.ListComp elt [⟨tg, it, [], 0⟩] scope pos) ρ n k P := fun T σ H S ms Q q => by
  obtain ⟨wi, hw, hq⟩ := hs
  refine toE (pe_lc (own := own) (te := JEb X scope elt) (tt := tYes) G.calm G.nd hw ok hg (fun s H0 C cl fp => pts_nil) (fun s H0 C cl fp => ⟨fun pins s' σ' H' Q' I h => h s H0 C cl fp pins s' I⟩) hf) ?_
  refine lcM_read (f := f) (V := V) (keep := yes) (ce := c) S ms hn hz (hq _ σ H (S.hide ms)) ht (fun d hd => ?_) fun v ds H2 s2 ms2 p2 h2 => q v _ H2 s2 ms2 p2 (hP ds ?_)
  · obtain ⟨ρ2, e, k2⟩ := hb d hd
    exact ⟨ρ2, e, fun m => ⟨fun T σ H S ms Q q => q H Kp.refl ms, fun hk T σ H S ms Q q s H0 C cl fp => k2 m s H0 C cl fp T σ H S ms Q q⟩⟩
  · rw [List.filter_eq_self.mpr (show ∀ z ∈ items, yes z = true from fun _ _ => rfl)] at h2
    exact h2
theorem m_lc1 {V : PyData → PyData → Prop} {keep : PyData → Bool} (G : Good X) (hs : Src X a tg it ρ items) (hn : k + c * items.length ≤ n) (hz : items.length < 100000) (ok : BlkOk X.N X.env.scope scope own)
    (hg : ∀ (s : Shared) (H : Hp) (C : Addr) (cl : List (Str × Addr)) (fp : List Addr), PG (X.blk s H scope (compEnvC scope cl C X.env) fp) tg g) (ht : TgSem X.K a g (own.map (·.2)) f)
    (hb : ∀ d, d ∈ items → ∃ ρ2, f d (wipeR ρ (own.map (·.2))) = some ρ2 ∧ ∀ m, EvMTb X scope a t ρ2 (m + c) (m + ce) (· = keep d) ∧ (keep d = true → EvMb X scope a elt ρ2 (m + ce) m (V d))) (hP : ∀ ds, Fa2 V (items.filter keep) ds → P (.list ds))
    (hf : ∀ x, foldedSetIterable it X.env x = pure x := by intro _; rfl) : EvM X a (.ListComp elt [⟨tg, it, [t], 0⟩] scope pos) ρ n k P := fun T σ H S ms Q q => by
  obtain ⟨wi, hw, hq⟩ := hs
  refine toE (pe_lc (own := own) (te := JEb X scope elt) (tt := JTb X scope t) G.calm G.nd hw ok hg (fun s H0 C cl fp => pts_one ⟨fun pins s' σ' H' Q' I h => h s H0 C cl fp pins s' I⟩) (fun s H0 C cl fp => ⟨fun pins s' σ' H' Q' I h => h s H0 C cl fp pins s' I⟩) hf) ?_
  refine lcM_read (f := f) (V := V) (keep := keep) (ce := ce) S ms hn hz (hq _ σ H (S.hide ms)) ht (fun d hd => ?_) fun v ds H2 s2 ms2 p2 h2 => q v _ H2 s2 ms2 p2 (hP ds h2)
  obtain ⟨ρ2, e, k2⟩ := hb d hd
  refine ⟨ρ2, e, fun m => ⟨fun T σ H S ms Q q s H0 C cl fp => (k2 m).1 s H0 C cl fp T σ H S ms Q fun b H2 s2 ms2 hb => ?_, fun hk T σ H S ms Q q s H0 C cl fp => (k2 m).2 hk s H0 C cl fp T σ H S ms Q q⟩⟩
  rw [hb]
  exact q H2 s2 ms2
theorem qs_lc0 {i : Nat} {y : Str} {py spos : Pos} {V : PyData → PyData → Prop} (G : Good X) (hs : Src X a tg it ρ items) (hn : k + c * items.length ≤ n) (hz : items.length < 100000) (ok : BlkOk X.N X.env.scope scope own)
    (hg : ∀ (s : Shared) (H : Hp) (C : Addr) (cl : List (Str × Addr)) (fp : List Addr), PG (X.blk s H scope (compEnvC scope cl C X.env) fp) tg g) (ht : TgSem X.K a g (own.map (·.2)) f)
    (hb : ∀ d, d ∈ items → ∃ ρ2, f d (wipeR ρ (own.map (·.2))) = some ρ2 ∧ ∀ m, EvMb X scope a elt ρ2 (m + c) m (V d)) (hP : ∀ ds, Fa2 V items ds → N k (ρ.set i (some (.dat (.list ds)))))
    (hy : X.N[i]? = some y := by rfl) (hyl : X.env.scope.names.lookup y = some .local := by rfl)
    (hsw : swapsWith (.ListComp elt [⟨tg, it, [], 0⟩] scope pos) (some (.Name y py)) spos.line X.env = pure true := by exact sw_true rfl rfl rfl (by decide +kernel))
    (hf : ∀ x, foldedSetIterable it X.env x = pure x := by intro _; rfl) : RunMS X a (.Assign [.Name y py] (.ListComp elt [⟨tg, it, [], 0⟩] scope pos) spos) ρ n N R := fun T σ H D S ms kn kr => by
  obtain ⟨wi, hw, hq⟩ := hs
  refine toS (ps_setLc (own := own) (te := JEb X scope elt) (tt := tYes) G.calm G.nd hy hyl hsw hw ok hg (fun s H0 C cl fp => pts_nil) (fun s H0 C cl fp => ⟨fun pins s' σ' H' Q' I h => h s H0 C cl fp pins s' I⟩) hf) ?_
  refine lcM_read (f := f) (V := V) (keep := yes) (ce := c) S ms hn hz (hq _ σ H (S.hide ms)) ht (fun d hd => ?_) fun v ds H2 s2 ms2 p2 h2 => kn _ H2 _ k s2 ((S.kpo s2 ms).put (x := .dat _) p2) ms2 (hP ds ?_)
  · obtain ⟨ρ2, e, k2⟩ := hb d hd
    exact ⟨ρ2, e, fun m => ⟨fun T σ H S ms Q q => q H Kp.refl ms, fun hk T σ H S ms Q q s H0 C cl fp => k2 m s H0 C cl fp T σ H S ms Q q⟩⟩
  · rw [List.filter_eq_self.mpr (show ∀ z ∈ items, yes z = true from fun _ _ => rfl)] at h2
    exact h2
end
section
variable {P : Program} {w : World} {K : PySem.W.Frag} {mg : Str → Option Value} {base : Heap}
theorem SD.startM {a : Addr} {T : Addr → Prop} {H : Hp} {N : List Str} {vs : List V} {ds : List PyData} (t : Din T H) (h : DpAll K (off T H) vs ds) : SD K a T H (L2.start N (.ref a :: vs)) (some .hnd :: dats ds ++ List.replicate (N.length - (ds.length + 1)) none) := by
  have hl := dps_len h
  refine ⟨?_, t, fun i x e => ?_⟩
  · unfold L2.start dats
    simp [hl]
  · cases i with
    | zero =>
      cases (show some (some DV.hnd) = some (some x) from e)
      exact ⟨.ref a, rfl, rfl⟩
    | succ i =>
      have S := SD.start (a := a) (N := List.replicate (N.length - 1) "") t h
      obtain ⟨v, h1, h2⟩ := S.sl i x (by
        have e' : (dats ds ++ List.replicate (N.length - (ds.length + 1)) none)[i]? = some (some x) := e
        rw [List.length_replicate, show N.length - 1 - ds.length = N.length - (ds.length + 1) by omega]
        exact e')
      refine ⟨v, ?_, h2⟩
      have h1' : (vs.map some ++ List.replicate (N.length - 1 - vs.length) none)[i]? = some (some v) := by
        have h1 := h1
        unfold L2.start at h1
        rw [List.length_replicate] at h1
        exact h1
      show (vs.map some ++ List.replicate (N.length - (vs.length + 1)) none)[i]? = some (some v)
      rw [show N.length - (vs.length + 1) = N.length - 1 - vs.length by omega]
      exact h1'
theorem fnMC {x qual : Str} {st : Stmt} {f : Addr} {fd : FuncData} {N ps : List Str} {k c : Nat} {R : List PyData → (PyData → Prop) → Prop} (F : Fun K x qual st f fd) (S : FnScope N ps (defScope st)) (hl : ∀ ds P, R ds P → ds.length + 1 = ps.length)
    (hb : ∀ (cdv : Value), fd.code = cdv → ∀ (A : Around) (outer : List Env) (s : Shared) (H : Hp) (E : XK), Good (cxOf CX0 P w K mg base N qual (defScope st) f cdv A outer s H E).nox → Room k (cxOf CX0 P w K mg base N qual (defScope st) f cdv A outer s H E).nox.A →
      (cxOf CX0 P w K mg base N qual (defScope st) f cdv A outer s H E).nox.A.guards = some [] → ∀ a n ds Pd, R ds Pd →
      RunM (cxOf CX0 P w K mg base N qual (defScope st) f cdv A outer s H E).nox a (defBody st) (some .hnd :: dats ds ++ List.replicate (N.length - (ds.length + 1)) none) (n + c) (fun m _ => n ≤ m ∧ Pd .none) (fun m d => n ≤ m ∧ Pd d)) : FnG P w K mg base CX0 (k + 1) f fd ps (spM K c R) :=
  fnG F S (fun vs H Q E h => by
    obtain ⟨a, T, n, vs', ds, Pd, rfl, _, _, h2, h3, _⟩ := h
    rw [List.length_cons, dps_len h2]
    exact hl ds Pd h3) fun cdv hcv A outer s H vs Q E hgd hr h => by
    obtain ⟨a, T, n, vs', ds, Pd, rfl, dm, ms, h2, h3, h4⟩ := h
    refine hb cdv hcv A outer s H E ⟨S.nd, rfl, PassesOwn.never, hr.units⟩ hr hgd a n ds Pd h3 T _ H _ (SD.startM dm h2) ms (fun σ' H' ρ' m s1 S1 ms1 e => ?_) fun v H' d m s1 ms1 p e => ?_
    · exact h4 .non .none H' s1 (ms1.mono e.1) .non e.2
    · exact h4 v d H' s1 (ms1.mono e.1) p e.2
theorem fnM {x qual : Str} {st : Stmt} {f : Addr} {fd : FuncData} {N ps : List Str} {k c : Nat} {R : List PyData → (PyData → Prop) → Prop} (F : Fun K x qual st f fd) (S : FnScope N ps (defScope st)) (hl : ∀ ds P, R ds P → ds.length + 1 = ps.length)
    (hb : ∀ (cdv : Value) (A : Around) (outer : List Env) (s : Shared) (H : Hp) (E : XK), Good (cxOf CX0 P w K mg base N qual (defScope st) f cdv A outer s H E).nox → Room k (cxOf CX0 P w K mg base N qual (defScope st) f cdv A outer s H E).nox.A →
      (cxOf CX0 P w K mg base N qual (defScope st) f cdv A outer s H E).nox.A.guards = some [] → ∀ a n ds Pd, R ds Pd →
      RunM (cxOf CX0 P w K mg base N qual (defScope st) f cdv A outer s H E).nox a (defBody st) (some .hnd :: dats ds ++ List.replicate (N.length - (ds.length + 1)) none) (n + c) (fun m _ => n ≤ m ∧ Pd .none) (fun m d => n ≤ m ∧ Pd d)) : FnG P w K mg base CX0 (k + 1) f fd ps (spM K c R) := fnMC F S hl fun cdv _ => hb cdv
/-- a def that keeps all and asks for texts of data -/
theorem fnRGC {x qual : Str} {st : Stmt} {f : Addr} {fd : FuncData} {N ps : List Str} {k : Nat} {R : List PyData → PyData → Prop} (F : Fun K x qual st f fd) (S : FnScope N ps (defScope st)) (hl : ∀ ds d, R ds d → ds.length = ps.length)
    (hb : ∀ (cdv : Value), fd.code = cdv → ∀ (A : Around) (outer : List Env) (s : Shared) (H : Hp) (E : XK), Good (cxOf CX0 P w K mg base N qual (defScope st) f cdv A outer s H E).nox → Room k (cxOf CX0 P w K mg base N qual (defScope st) f cdv A outer s H E).nox.A →
      (cxOf CX0 P w K mg base N qual (defScope st) f cdv A outer s H E).nox.A.guards = some [] → ∀ ds d, R ds d →
      Run (cxOf CX0 P w K mg base N qual (defScope st) f cdv A outer s H E).nox 0 (defBody st) (dats ds ++ List.replicate (N.length - ds.length) none) (fun _ => d = .none) (fun d' => d' = d)) : FnG P w K mg base CX0 (k + 1) f fd ps (spR K R) :=
  fnG F S (fun vs H Q E h => by
    obtain ⟨T, ds, d, _, h1, h2, _⟩ := h
    rw [dps_len h1]
    exact hl ds d h2) fun cdv hcv A outer s H vs Q E hgd hr h => by
    obtain ⟨T, ds, d, dm, h1, h2, h3⟩ := h
    refine hb cdv hcv A outer s H E ⟨S.nd, rfl, PassesOwn.never, hr.units⟩ hr hgd ds d h2 T _ H _ (SD.start dm h1) (fun σ' H' ρ' s1 S1 e => ?_) fun v H' d' s1 p e => ?_
    · exact h3 _ H' s1 (by rw [e]; exact .non)
    · subst e
      exact h3 v H' s1 p
theorem fnRG {x qual : Str} {st : Stmt} {f : Addr} {fd : FuncData} {N ps : List Str} {k : Nat} {R : List PyData → PyData → Prop} (F : Fun K x qual st f fd) (S : FnScope N ps (defScope st)) (hl : ∀ ds d, R ds d → ds.length = ps.length)
    (hb : ∀ (cdv : Value) (A : Around) (outer : List Env) (s : Shared) (H : Hp) (E : XK), Good (cxOf CX0 P w K mg base N qual (defScope st) f cdv A outer s H E).nox → Room k (cxOf CX0 P w K mg base N qual (defScope st) f cdv A outer s H E).nox.A →
      (cxOf CX0 P w K mg base N qual (defScope st) f cdv A outer s H E).nox.A.guards = some [] → ∀ ds d, R ds d →
      Run (cxOf CX0 P w K mg base N qual (defScope st) f cdv A outer s H E).nox 0 (defBody st) (dats ds ++ List.replicate (N.length - ds.length) none) (fun _ => d = .none) (fun d' => d' = d)) : FnG P w K mg base CX0 (k + 1) f fd ps (spR K R) := fnRGC F S hl fun cdv _ => hb cdv
end
end Zj
/-! isinstance, and/or as values, calls by names. -/
namespace Zj
open PySem PySem.Spec PyProof.Rows L2
variable [Nm]
def tyD : PyData → String
  | .none => "NoneType"
  | .bool _ => "bool"
  | .int _ => "int"
  | .str _ => "str"
  | .list _ => "list"
  | .tuple _ => "tuple"
  | .dict _ => "dict"
section
variable {X : Cx} {a : Addr} {ρ : Rho} {e f : Expr} {es rest : List Expr} {pos p p2 : Pos} {d : PyData}
theorem dp_ty {K : PySem.W.Frag} {H : Hp} {v : V} (h : Dp K H v d) : TyX K H v (.type (tyD d)) := by
  cases h with
  | non => exact .base .non
  | bl b => exact .base (.bl b)
  | int i => exact .base (.int i)
  | str x => exact .base (.str x)
  | lst h1 h2 =>
    rcases h1 with (h | ⟨o, h⟩) | h
    · exact .base (.lst h)
    · exact .base (.frz h)
    · obtain ⟨o, its, n, e, c, _⟩ := h
      exact .kList e c
  | tup h1 h2 =>
    rcases h1 with (h | ⟨o, h⟩) | h
    · exact .base (.tup h)
    · exact .fTuple h
    · obtain ⟨o, its, n, e, c, _⟩ := h
      exact .kTuple e c
theorem e_isi {ty : Str} {tn : String} {b : Bool} (h : EvE X a e ρ d) (hk : kitB (tyD d) tn = some b) (hv : bootBuiltins ty = some (.type tn)) (hm : X.mg "isinstance" = none) (hmT : X.mg ty = none) (hg : Gl X "isinstance" := by rfl) (hgT : Gl X ty := by rfl)
    (hn : ty ≠ "__name__" := by decide) (hd : (ty == ("__debug__" : Str)) = false := by decide)
    (hs1 : starEach (e :: [.Name ty p2]) X.env = (false, eval e X.env) :: starEach [.Name ty p2] X.env := by exact star_of rfl) (hs2 : starEach (.Name ty p2 :: []) X.env = (false, eval (.Name ty p2) X.env) :: starEach [] X.env := by exact star_of rfl)
    (hpl : (backTo pos (starEach [.Name ty p2] X.env)).any (·.1) = false := by exact star_no rfl) :
    EvE X a (.Call (.Name "isinstance" p) [e, .Name ty p2] [] pos) ρ (.bool b) := fun T σ H S Q q =>
  toE (pe_callB call_isi hg hm (by decide +kernel) (pa_cons je (pa_cons (pe_bltn (v := .ty tn) hgT hmT hv rfl hn hd) pa_nil hs2) hs1) (by decide) (by decide) hs1 hpl) (h T σ H S _ fun v H1 s1 p1 =>
    ⟨v, .ty tn, _, _, b, rfl, .ty tn, dp_ty (dp_off p1), kit_ty hk, q _ H1 s1 (.bl b)⟩)
theorem e_one {op} (h : EvE X a e ρ d) : EvE X a (.BoolOp op [e] pos) ρ d := fun T σ H S Q q => toE (pe_one je) (h T σ H S Q q)
theorem e_andT (h : EvE X a e ρ (.bool true)) (h2 : EvE X a (.BoolOp .And (f :: rest) pos) ρ d) : EvE X a (.BoolOp .And (e :: f :: rest) pos) ρ d := fun T σ H S Q q =>
  toE (pe_and je je) (h T σ H S _ fun v H1 s1 p1 => ⟨true, dp_bool p1, iteT (h2 T σ H1 (S.same s1) _ fun v H2 s2 p => q v H2 (s1.trans s2) p)⟩)
theorem e_andF (h : EvE X a e ρ (.bool false)) (hd : d = .bool false) : EvE X a (.BoolOp .And (e :: f :: rest) pos) ρ d := fun T σ H S Q q =>
  toE (pe_and je je) (h T σ H S _ fun v H1 s1 p1 => ⟨false, dp_bool p1, iteF (q _ H1 s1 (by subst hd; exact .bl false))⟩)
theorem e_not {b : Bool} (h : EvE X a e ρ (.bool b)) : EvE X a (.UnaryOp .Not e pos) ρ (.bool (!b)) := fun T σ H S Q q =>
  toE (pe_not je) (h T σ H S _ fun v H1 s1 p1 => ⟨b, dp_bool p1, q _ H1 s1 (.bl _)⟩)
/-- an 'and', an 'or' as a test is its own whole -/
theorem pw_self {op} {l : List Expr} : PW X (.BoolOp op l pos) (JT X (.BoolOp op l pos)) := ⟨fun wh pins s σ H Q I h => by
  have h1 := h pins s I
  simp only [PySem.isTrue] at h1 ⊢
  exact h1⟩
/-- or, and as tests, the first part known -/
theorem t_orF {b : Bool} (h : EvT X a e ρ false) (h2 : EvT X a (.BoolOp .Or (f :: rest) pos) ρ b) : EvT X a (.BoolOp .Or (e :: f :: rest) pos) ρ b := fun T σ H S Q q =>
  toT (PW.pt (pw_or jt pw_self)) (h T σ H S _ fun H1 s1 => iteF (h2 T σ H1 (S.same s1) _ fun H2 s2 => q H2 (s1.trans s2)))
theorem t_orT (h : EvT X a e ρ true) : EvT X a (.BoolOp .Or (e :: f :: rest) pos) ρ true := fun T σ H S Q q =>
  toT (PW.pt (pw_or jt pw_self)) (h T σ H S _ fun H1 s1 => iteT (q H1 s1))
theorem t_andT {b : Bool} (h : EvT X a e ρ true) (h2 : EvT X a (.BoolOp .And (f :: rest) pos) ρ b) : EvT X a (.BoolOp .And (e :: f :: rest) pos) ρ b := fun T σ H S Q q =>
  toT (PW.pt (pw_and jt pw_self)) (h T σ H S _ fun H1 s1 => iteT (h2 T σ H1 (S.same s1) _ fun H2 s2 => q H2 (s1.trans s2)))
theorem t_andF (h : EvT X a e ρ false) : EvT X a (.BoolOp .And (e :: f :: rest) pos) ρ false := fun T σ H S Q q =>
  toT (PW.pt (pw_and jt pw_self)) (h T σ H S _ fun H1 s1 => iteF (q H1 s1))
theorem mt_or {PB : Bool → Prop} {n m k : Nat} (h : EvMT X a e ρ n m fun b => b = false) (h2 : EvMT X a (.BoolOp .Or (f :: rest) pos) ρ m k PB) : EvMT X a (.BoolOp .Or (e :: f :: rest) pos) ρ n k PB := mt_orF h h2 pw_self
theorem mt_or1 {PB : Bool → Prop} {n m : Nat} (h : EvMT X a e ρ n m PB) : EvMT X a (.BoolOp .Or [e] pos) ρ n m PB := fun T σ H S ms Q q => toT (PW.pt (pw_or1 jt)) (h T σ H S ms Q q)
end

/-! calls by names alone -/
structure CalK (P : Program) (w : World) (K : PySem.W.Frag) (mg : Str → Option Value) (base : Heap) (k : Nat) (x : Str) (st : Stmt) (ps : List Str) (sp : Sp) : Prop where
  ex : ∃ f fd, Fun K x x st f fd ∧ FnOk P w K mg base CX0 k f fd ps sp ∧ mg x = some (.ref f)
section
variable {X : Cx} {a : Addr} {ρ : Rho} {e : Expr} {kws : List Keyword} {pos p kpos : Pos} {d : PyData} {ds : List PyData} {nm : Option Str}
def JK (X : Cx) (kws : List Keyword) : TA := fun σ H Q => ∀ pos pins s, Inv X pins σ H s → wpAny (model X.prog X.w) X.A (evalAll ((backToKw pos (keywordEach kws X.env)).map (·.2))) (AP X pins σ Q) X.xe s
theorem jk : PK X kws (JK X kws) := ⟨fun pos pins s _ _ _ I h => h pos pins s I⟩
def EvK (X : Cx) (a : Addr) (kws : List Keyword) (ρ : Rho) (ds : List PyData) : Prop := ∀ T σ H, SD X.K a T H σ ρ → ∀ Q : List V → Hp → Prop, (∀ vs H2, Sm H H2 → DpAll X.K (off T H2) vs ds → Q vs H2) → JK X kws σ H Q
theorem k_nil : EvK X a [] ρ [] := fun T σ H S Q q pos pins s I => pk_nil.run pos pins s σ H Q I (q _ H (Sm.refl H) .nil)
theorem k_cons (h : EvE X a e ρ d) (h2 : EvK X a kws ρ ds) : EvK X a (⟨nm, e, kpos⟩ :: kws) ρ (d :: ds) := fun T σ H S Q q pos pins s I =>
  (pk_cons (nm := nm) (kpos := kpos) je jk).run pos pins s σ H Q I (h T σ H S _ fun v H1 s1 p1 => h2 T σ H1 (S.same s1) _ fun vs H2 s2 p2 => q _ H2 (s1.trans s2) (.cons (dpo s2 p1) p2))
/-- f(k = v, ..), two names; fl: they stand in the other order -/
def turn2 (fl : Bool) {α : Type} : List α → List α
  | [x, y] => if fl then [y, x] else [x, y]
  | l => l
def gK (fl : Bool) {α : Type} (us ws : List α) : List α := match us with
  | [] => turn2 fl ws
  | _ => []
theorem turn2_len {fl : Bool} {α : Type} (l : List α) : (turn2 fl l).length = l.length := by
  unfold turn2
  split
  · cases fl <;> rfl
  · rfl
theorem turn2_vals {fl : Bool} {vs : List V} {us : List Value} (r : Vals vs us) : Vals (turn2 fl vs) (turn2 fl us) := by
  unfold turn2
  cases r with
  | nil => exact .nil
  | cons a r =>
    cases r with
    | nil => exact .cons a .nil
    | cons b r =>
      cases r with
      | nil =>
        cases fl
        · exact .cons a (.cons b .nil)
        · exact .cons b (.cons a .nil)
      | cons c r => exact .cons a (.cons b (.cons c r))
theorem turn2_dps {fl : Bool} {K : PySem.W.Frag} {H : Hp} {vs : List V} (r : DpAll K H vs ds) : DpAll K H (turn2 fl vs) (turn2 fl ds) := by
  unfold turn2
  cases r with
  | nil => exact .nil
  | cons a r =>
    cases r with
    | nil => exact .cons a .nil
    | cons b r =>
      cases r with
      | nil =>
        cases fl
        · exact .cons a (.cons b .nil)
        · exact .cons b (.cons a .nil)
      | cons c r => exact .cons a (.cons b (.cons c r))
theorem pe_callK0 {CX : CXT} {k : Nat} {f : Addr} {fd : FuncData} {ps ks : List Str} {sp : Sp} {E : XK} {x : Str} {g : List Value → List Value → List Value} {gV : List V → List V → List V} {tk : TA} (F : FnOk X.prog X.w X.K X.mg X.base CX k f fd ps sp) (hr : Room k X.A) (hg : Gl X x) (hm : X.mg x = some (.ref f)) (hk : PySem.W.keepIn X.K (.ref f) = true) (hb : KBinds X.K fd ps ks g gV) (hx : Passes CX X E)
    (hkw : PK X kws tk) (hall : (backToKw pos (keywordEach kws X.env)).all (·.1.isSome) = true) (hks : (backToKw pos (keywordEach kws X.env)).filterMap (·.1) = ks) (hdb : (x == ("__debug__" : Str)) = false)
    (hpl : ((backTo pos (starEach [] X.env)).any (·.1) || (backToKw pos (keywordEach kws X.env)).any (·.1.isNone)) = false) :
    PE X (.Call (.Name x p) [] kws pos) (fun σ H Q => tk σ H fun zs H2 => sp (gV [] zs) H2 Q E) := by
  refine ⟨fun pins s σ H Q I h => ?_⟩
  refine wpAny_Call_Name_kw (ld_glob I hg hm ?_ hdb)
  refine PySem.W.callWith_KW0 (h₀ := X.base) I.ok.mod.kin hk hall (thn (hkw.run pos pins s σ H _ I h) fun ws s2 hv => ?_) hpl
  obtain ⟨zs, H2, I2, rz, q2⟩ := hv
  refine ⟨I2.kIn, ?_⟩
  rw [hks]
  exact run_fnk F hr hb hx I2 (us := []) (vs := []) .nil rz q2
theorem e_callK {lv : Nat} {x : Str} {st : Stmt} {ps ks : List Str} {R : List PyData → PyData → Prop} (fl : Bool) (hne : ps ≠ []) (C : CalK X.prog X.w X.K X.mg X.base lv x st ps (spR X.K R)) (hr : Room lv X.A) (ha : EvK X a kws ρ ds) (hR : R (turn2 fl ds) d)
    (hb : ∀ (kV doc pm : Value) (an : Option Addr) (cdv ct : Value) (ws : List Value), ws.length = ps.length → bindArgs (PySem.W.fnOf x x (defArgs st) (defBody st) (defScope st) .none kV doc pm an cdv ct) ⟨[], ks.zip ws⟩ = pure (ps.zip (turn2 fl ws)))
    (hg : Gl X x := by rfl) (hall : (backToKw pos (keywordEach kws X.env)).all (·.1.isSome) = true := by rfl) (hks : (backToKw pos (keywordEach kws X.env)).filterMap (·.1) = ks := by rfl)
    (hdb : (x == ("__debug__" : Str)) = false := by decide) (hpl : ((backTo pos (starEach [] X.env)).any (·.1) || (backToKw pos (keywordEach kws X.env)).any (·.1.isNone)) = false := by rfl) :
    EvE X a (.Call (.Name x p) [] kws pos) ρ d := fun T σ H S Q q => by
  obtain ⟨f, fd, F, FO, hm⟩ := C.ex
  have hk := F.kp
  obtain ⟨oc, od, kV, doc, pm, an, cdv, ct, osl, rfl, lk, hcd⟩ := F.ex
  have KB : KBinds X.K (PySem.W.fnOf x x (defArgs st) (defBody st) (defScope st) .none kV doc pm an cdv ct) ps ks (gK fl) (gK fl) := {
    to := fun s us ws _ hl => by
      cases us with
      | nil => exact .of_eq (hb kV doc pm an cdv ct ws (by rw [← hl]; exact (turn2_len ws).symm))
      | cons u us =>
        cases ps with
        | nil => exact (hne rfl).elim
        | cons _ _ => cases hl
    rel := fun {vs us zs ws} r rz => by
      cases r with
      | nil => exact turn2_vals rz
      | cons _ _ => exact .nil }
  exact toE (pe_callK0 (E := E0) FO hr hg hm hk KB pass0 jk hall hks hdb hpl) (ha T σ H S _ fun vs H1 s1 p1 => ⟨T, _, d, S.dm.same s1, turn2_dps p1, hR, fun v H2 s2 p2 => q v H2 (s1.trans s2) p2⟩)
end
end Zj
/-! Lambdas of no parameter, or of one with a written default. -/
namespace Zj
open PySem PySem.Spec PyProof.Rows L2
variable [Nm]
def lamQ (X : Cx) : Str := X.env.qual ++ "<lambda>"
section
variable {X : Cx} {pins : List (Addr × Obj)} {σ : L2.St} {H : Hp} {s : Shared} {c P : Addr} {params : Arguments} {body : Expr} {scope : Scope} {pos : Pos}
theorem sm_table {H : Hp} {P c' : Addr} {q : Str} {ps more : Array Value} (hP : H P = some (.tbl ps)) (hc : H c' = none) (hq : Nm.nm P = q) (new : LamX.TabS H P q → LamX.TabS (upd (upd H P (.tbl (ps ++ more))) c' (LamX.CodeO c' q)) P q) :
    Sm H (upd (upd H P (.tbl (ps ++ more))) c' (LamX.CodeO c' q)) := by
  have ob : Sa H (upd (upd H P (.tbl (ps ++ more))) c' (LamX.CodeO c' q)) := fun b o e n => by
    have h1 : b ≠ c' := fun z => by
      rw [z, hc] at e
      cases e
    have h2 : b ≠ P := fun z => by
      rw [z, hP] at e
      cases e
      exact n _ rfl
    rw [upd_ne h1, upd_ne h2]
    exact e
  refine ⟨ob, fun P' t => ?_, fun b hb => ?_⟩
  · by_cases hpp : P' = P
    · rw [hpp] at t ⊢
      rw [hq] at t ⊢
      exact new t
    · obtain ⟨ps', a1, a2, a3⟩ := t
      have h1 : P' ≠ c' := fun z => by
        rw [z, hc] at a1
        cases a1
      refine ⟨ps', ?_, a2, fun p' cv hcv => ?_⟩
      · rw [upd_ne h1, upd_ne hpp]
        exact a1
      · obtain ⟨c0, g1, g2⟩ := a3 p' cv hcv
        exact ⟨c0, g1, ob _ _ g2 LamX.codeO_ne⟩
  · by_cases h1 : b = c'
    · rw [h1, upd_same]
      exact fun z => by cases z
    · rw [upd_ne h1]
      by_cases h2 : b = P
      · rw [h2, upd_same]
        exact fun z => by cases z
      · rw [upd_ne h2]
        exact hb
theorem lam_tail {dV : Value} {E Q : Value → Shared → Prop} (I : Inv X pins σ H s) (B : LamX.TabB X.base X.mg c P) (hc0 : X.env.code = .ref c) (hq : Nm.nm P = lamQ X) (hT : LamX.TabS H P (lamQ X)) (hfree : ∀ y ∈ scope.names, y.2 = .free → ∃ c, X.env.cells.lookup y.1 = some c)
    (h : ∀ (f c' : Addr) (doc pm ctv : Value) (H1 : Hp) (s1 : Shared), Inv X pins σ H1 s1 → Sm H H1 → (∀ b o, b ≠ P → s.heap.get? b = some o → s1.heap.get? b = some o) → (∀ b o, s.heap.get? b = some o → H b = none → H1 b = none) →
      s1.heap.get? f = some (PySem.W.kdv_obj "<lambda>" (lamQ X) params (.expr body) scope (cloFrom X.env.cells scope.names []) dV doc pm c' ctv) → H1 f = none → f ∉ frs X.stack → H1 c' = some (LamX.CodeO c' (lamQ X)) → Q (.ref f) s1) :
    wpAny (model X.prog X.w) X.A (PySem.makeTail "<lambda>" (lamQ X) params (.expr body) scope X.env dV .none none pos pos.line) Q E s := by
  have hT0 := hT
  obtain ⟨ps, g1, g2, g3⟩ := hT
  have gP : s.heap.BuiltinsAt X.mg P := B.bm.keeps I.bk
  have gH : s.heap.get? P = some { cls := .none, data := .fields ps } := I.hok P _ g1
  have nofr : ∀ f, s.heap.objs.size ≤ f → f ∉ frs X.stack := fun f hf z => by
    rcases List.mem_cons.mp (I.stkSub _ z) with e | e
    · have l := I.lt
      rw [← e] at l
      exact absurd (Nat.lt_of_lt_of_le l hf) (Nat.lt_irrefl _)
    · exact I.nofs hf e
  cases hca : codeAmong pos ps.toList with
  | none =>
    refine PySem.W.kdv_makeTail (mg := X.mg) (c := c) (P := P) (ps := ps) (closure_ok hfree) I.ok.glob (I.mod.glob.keeps I.bk) hc0 (B.code.keeps I.bk) gH g2 hca B.gP gP ?_
    intro c' ctv doc h1 tk hx hge hlt hrec htb
    obtain ⟨c2, oc, vs, t, e2, w1, w2, w3⟩ := hrec
    cases e2
    have zs : s.heap.objs.size ≤ h1.objs.size := Nat.le_trans hge (Nat.le_of_lt hlt)
    have fresh : H c' = none := I.hok.fresh hge
    have I1 := LamX.inv_table (t' := tk) (more := #[rawInt pos.line, rawInt pos.col, .ref c']) (q := lamQ X)
      (h' := h1.push (PySem.W.kdv_obj "<lambda>" (lamQ X) params (.expr body) scope (cloFrom X.env.cells scope.names []) dV doc ((X.mg "__name__").getD .none) c' ctv)) I g1
      (fun b o hb e => Heap.get?_push_of_some _ (hx b o hb e)) (Heap.get?_push_of_some _ htb) hge ⟨oc, vs, t, Heap.get?_push_of_some _ w1, w2, w3⟩
    have eL : (ps ++ #[rawInt pos.line, rawInt pos.col, .ref c']).toList = ps.toList ++ [rawInt pos.line, rawInt pos.col, .ref c'] := by simp
    have sm : Sm H (upd (upd H P (.tbl (ps ++ #[rawInt pos.line, rawInt pos.col, .ref c']))) c' (LamX.CodeO c' (lamQ X))) := sm_table g1 fresh hq fun _ => by
      refine ⟨_, by rw [upd_ne (ne_of_none g1 fresh), upd_same], ?_, fun p' cv hcv => ?_⟩
      · rw [eL]
        exact PySem.TriplesOk_snoc _ _ _ _ g2
      · rw [eL] at hcv
        rcases LamX.among_app _ g2 hcv with z | z
        · obtain ⟨c0, e1, e2⟩ := g3 p' cv z
          refine ⟨c0, e1, ?_⟩
          rw [upd_ne (ne_of_none e2 fresh), upd_ne (ne_of e2 g1 (LamX.codeO_ne _))]
          exact e2
        · exact ⟨c', z, upd_same⟩
    refine h h1.objs.size c' doc ((X.mg "__name__").getD .none) ctv _ _ I1 sm (fun b o hb e => Heap.get?_push_of_some _ (hx b o hb e)) (fun b o e n => ?_) (Heap.get?_push_size _ rfl) ?_ (nofr _ zs) upd_same
    · rw [upd_ne (Nat.ne_of_lt (Nat.lt_of_lt_of_le (Heap.lt_size e) hge)), upd_ne (fun z => by rw [z, g1] at n; cases n)]
      exact n
    · rw [upd_ne (Nat.ne_of_gt hlt), upd_ne (Nat.ne_of_gt (Nat.lt_of_lt_of_le (Heap.lt_size gH) zs))]
      exact I.hok.fresh zs
  | some cv =>
    obtain ⟨c', e, hco⟩ := g3 pos cv hca
    subst e
    refine PySem.W.kdv_makeTailHit (mg := X.mg) (c := c) (P := P) (ps := ps) (closure_ok hfree) I.ok.glob (I.mod.glob.keeps I.bk) hc0 (B.code.keeps I.bk) gH g2 hca gP ?_
    intro ctv doc h1 tk hx zs
    have I1 : Inv X pins σ H { s with heap := h1.push (PySem.W.kdv_obj "<lambda>" (lamQ X) params (.expr body) scope (cloFrom X.env.cells scope.names []) dV doc ((X.mg "__name__").getD .none) c' ctv), toks := tk } :=
      I.kept fun b o e => Heap.get?_push_of_some _ (hx b o e)
    exact h h1.objs.size c' doc ((X.mg "__name__").getD .none) ctv H _ I1 (Sm.refl H) (fun b o _ e => Heap.get?_push_of_some _ (hx b o e)) (fun b o _ n => n) (Heap.get?_push_size _ rfl) (I.hok.fresh zs) (nofr _ zs) hco
/-- a closure made of the lambda stands at f, its code at c'; is: its default, if there is one -/
structure CloAt (X : Cx) (H : Hp) (h : Heap) (f c' : Addr) (params : Arguments) (body : Expr) (scope : Scope) (is : List Int) : Prop where
  ob : ∃ dV doc pm ctv, h.get? f = some (PySem.W.kdv_obj "<lambda>" (lamQ X) params (.expr body) scope (cloFrom X.env.cells scope.names []) dV doc pm c' ctv) ∧
    ((is = [] ∧ dV = .none) ∨ ∃ (D : Addr) (i : Int) (tk : Tok), is = [i] ∧ dV = .ref D ∧ h.get? D = some (PySem.W.kdv_tup [.int i tk]) ∧ H D = none ∧ D ∉ frs X.stack)
  un : H f = none
  fr : f ∉ frs X.stack
  co : H c' = some (LamX.CodeO c' (lamQ X))
/-- the defaults that are written -/
inductive LamD (env : Env) : Arguments → List Int → Prop
  | no {params : Arguments} (h : defaultsOf params env = ([], [])) : LamD env params []
  | one {params : Arguments} {i : Int} {j : Nat} {p : Pos} (h : params.defaults = [.Constant (.int i) j p]) (hk : params.kw_defaults = []) : LamD env params [i]
theorem lam_made {is : List Int} {E Q : Value → Shared → Prop} (I : Inv X pins σ H s) (B : LamX.TabB X.base X.mg c P) (hc0 : X.env.code = .ref c) (hq : Nm.nm P = lamQ X) (hT : LamX.TabS H P (lamQ X)) (hfree : ∀ y ∈ scope.names, y.2 = .free → ∃ c, X.env.cells.lookup y.1 = some c)
    (hd : LamD X.env params is)
    (h : ∀ (f c' : Addr) (H1 : Hp) (s1 : Shared), Inv X pins σ H1 s1 → Sm H H1 → CloAt X H1 s1.heap f c' params body scope is → Q (.ref f) s1) :
    wpAny (model X.prog X.w) X.A (eval (.Lambda params body scope pos) X.env) Q X.xe s := by
  cases hd with
  | no hd =>
    refine PySem.W.kla_eval hd ?_
    rw [makeFunction_eq]
    simp only [List.zip_nil_right, List.filterMap_nil, List.isEmpty_nil, if_true, pure_bind]
    exact lam_tail I B hc0 hq hT hfree fun f c' doc pm ctv H1 s1 I1 sm _ _ e n m co => h f c' H1 s1 I1 sm ⟨⟨_, doc, pm, ctv, e, .inl ⟨rfl, rfl⟩⟩, n, m, co⟩
  | @one i j p hd hk =>
    refine PySem.W.kdv_lam (by rw [hd]; rfl) hk ?_
    rw [hd]
    refine PySem.W.kdv_all1 (thn ((pe_int (X := X) (i := i) (j := j) (pos := p)).run pins s σ H (fun v H1 => v = .int i ∧ H1 = H) I ⟨rfl, rfl⟩) fun u s0 hv => PySem.W.kdv_all0 ?_)
    obtain ⟨v, H0, I0, rv, rfl, rfl⟩ := hv
    obtain ⟨tk, rfl⟩ := rv
    rw [makeFunction_eq]
    simp only [List.zip_nil_right, List.filterMap_nil, List.isEmpty_nil, List.isEmpty_cons, Bool.false_eq_true, if_false, if_true, pure_bind]
    refine wpAny_bind (wpAny_newTextTuple ?_)
    have I2 : Inv X pins σ H0 { s0 with heap := s0.heap.push (PySem.W.kdv_tup [.int i tk]) } := I0.kept (t' := s0.toks) fun b o e => Heap.get?_push_of_some _ e
    have eD : (s0.heap.push (PySem.W.kdv_tup [.int i tk])).get? s0.heap.objs.size = some (PySem.W.kdv_tup [.int i tk]) := Heap.get?_push_size _ rfl
    have nD : H0 s0.heap.objs.size = none := I0.hok.fresh (Nat.le_refl _)
    have hP : P ≠ s0.heap.objs.size := fun z => by
      obtain ⟨ps, g1, _⟩ := hT
      rw [z, nD] at g1
      cases g1
    refine lam_tail I2 B hc0 hq hT hfree fun f c' doc pm ctv H1 s1 I1 sm kb kn e n m co => h f c' H1 s1 I1 sm ⟨⟨_, doc, pm, ctv, e, .inr ⟨s0.heap.objs.size, i, tk, rfl, rfl, kb _ _ (Ne.symm hP) eD, kn _ _ eD nD, fun z => ?_⟩⟩, n, m, co⟩
    rcases List.mem_cons.mp (I0.stkSub _ z) with e | e
    · have l := I0.lt
      rw [← e] at l
      exact absurd l (Nat.lt_irrefl _)
    · exact I0.nofs (Nat.le_refl _) e
end

/-! ### the lambda's body -/
/-- what it names: its own default's name, captured names, globals -/
structure LamK (sc scope : Scope) : Prop where
  kind : scope.kind = .function
  co : scope.isCoroutine = false
  gen : scope.isGenerator = false
  nocell : ∀ y ∈ scope.names, y.2 ≠ .cell
  nz : scope.names.lookup ("" : Str) = none
  free : ∀ y ∈ scope.names, y.2 = .free → sc.names.lookup y.1 = some .cell ∨ sc.names.lookup y.1 = some .free
def lamKB (sc scope : Scope) : Bool :=
  decide (scope.kind = .function) && (!scope.isCoroutine && (!scope.isGenerator && (decide (scope.names.lookup ("" : Str) = none) && scope.names.all fun y => !decide (y.2 = .cell) && (!decide (y.2 = .free) || decide (sc.names.lookup y.1 = some .cell) || decide (sc.names.lookup y.1 = some .free)))))
theorem lamK_by {sc scope : Scope} (h : lamKB sc scope = true) : LamK sc scope := by
  unfold lamKB at h
  simp only [Bool.and_eq_true, Bool.or_eq_true, Bool.not_eq_true', decide_eq_true_eq, decide_eq_false_iff_not, List.all_eq_true] at h
  obtain ⟨h1, h2, h3, h4, h5⟩ := h
  refine ⟨h1, h2, h3, fun y hy => (h5 y hy).1, h4, fun y hy e => ?_⟩
  rcases (h5 y hy).2 with (z | z) | z
  · exact absurd e z
  · exact .inl z
  · exact .inr z
theorem LamK.has {X : Cx} {scope : Scope} (L : LamK X.env.scope scope) (ok : X.Ok) : ∀ y ∈ scope.names, y.2 = .free → ∃ c, X.env.cells.lookup y.1 = some c := fun y hy e => by
  rcases L.free y hy e with k | k
  · exact ok.has _ (.inl k)
  · exact ok.has _ (.inr k)
/-- a slot of the maker's, as the lambda's body may name it -/
def lamNm (scope : Scope) (x : Str) : Str := if scope.names.lookup x = some .free then x else ("" : Str)
def lamX (X : Cx) (A : Around) (outer : List Env) (s : Shared) (H : Hp) (E : XK) (scope : Scope) (f c' : Addr) : Cx := { LamX.lamCx X A outer s H E scope f c' with N := X.N.map (lamNm scope) }
section
variable {X : Cx} {pins : List (Addr × Obj)} {σ : L2.St} {H HZ : Hp} {s s1 : Shared} {scope : Scope} {f c' : Addr}
theorem lam_enter {A : Around} {outer : List Env} {E : XK} {h₁ : Heap} {tk : Nat} {m : Str → Option Value} (I : Inv X pins σ H s) (L : LamK X.env.scope scope) (e0 : Env0 X.prog X.w X.K X.mg X.base A outer s1 HZ) (hd : A.handled = none)
    (un : Un (frs X.stack) [] H HZ s.heap s1.heap) (hns : h₁.Ns s1.heap.objs.size m) (kp : ∀ b o, s1.heap.get? b = some o → h₁.get? b = some o) :
    Inv (lamX X A outer s1 HZ E scope f c') [] σ HZ { s1 with heap := h₁, toks := tk } := by
  have fr := L.has I.ok
  have cm : ∀ {y c}, (cloFrom X.env.cells scope.names []).lookup y = some c → X.env.cells.lookup y = some c := fun {y c} e => by
    rcases cloFrom_mem (PySem.mem_of_lookup e) with z | ⟨z1, z2⟩
    · cases z
    · obtain ⟨c1, w1⟩ := fr _ z1 rfl
      have w1 : X.env.cells.lookup y = some c1 := w1
      rw [w1] at z2
      rw [w1]
      exact congrArg some z2.symm
  have look : ∀ {y}, scope.names.lookup y = some .free → ∃ c, (cloFrom X.env.cells scope.names []).lookup y = some c := fun {y} w =>
    mem_lookup (cloFrom_has (cells := X.env.cells) (acc := []) (PySem.mem_of_lookup w : (y, NameKind.free) ∈ scope.names))
  have cellK : ∀ {c : Addr} {v : Option Value}, H c = none → s.heap.IsCell c v → h₁.IsCell c v := fun {c v} n ⟨o, w1, w2⟩ => by
    obtain ⟨sl, q⟩ := un.any w1 n (by simp)
    exact ⟨_, kp _ _ q, w2⟩
  have noX : ∀ b : Addr, b ∉ (lamX X A outer s1 HZ E scope f c').ex := fun b z => by cases (show b ∈ ([] : List Addr) from z)
  refine ⟨⟨e0.mod, L.kind, rfl, rfl, Nat.le_refl _, fun y z c e1 e2 => I.ok.inj y z c (cm e1) (cm e2), fun y hy => ?_, fun y c z _ => ?_, fun _ => hd, Around.frames_deeper e0.frames, .inr ⟨rfl, rfl⟩, fun b z => absurd z (noX b), e0.bs, e0.bsz, fun b _ _ => noX b,
      fun b z => absurd z (noX b), e0.funs, e0.frf⟩,
    rfl, e0.bare, Un.kept kp, ⟨m, hns, fun i y v e1 e2 e3 => ?_⟩, fun y c e => ?_, e0.hok.fresh (Nat.le_refl _), fun y c e => ?_, fun q hq => ?_, e0.hok.kept kp, ?_⟩
  · have hy : scope.names.lookup y = some .cell ∨ scope.names.lookup y = some .free := hy
    rcases hy with hy | hy
    · exact absurd rfl (L.nocell _ (PySem.mem_of_lookup hy))
    · exact look hy
  · cases (show false = true from z)
  · have e1 : (X.N.map (lamNm scope))[i]? = some y := e1
    have e3 : Vis scope y := e3
    rw [List.getElem?_map] at e1
    cases hx : X.N[i]? with
    | none => rw [hx] at e1; cases e1
    | some x =>
      rw [hx] at e1
      have e1 : lamNm scope x = y := Option.some.inj e1
      unfold lamNm at e1
      split at e1
      · rename_i k
        subst e1
        obtain ⟨m0, hn, hl⟩ := I.loc
        have hvis : Vis X.env.scope x := (L.free _ (PySem.mem_of_lookup k) rfl).elim (fun k => .inr (.inl k)) (fun k => .inr (.inr k))
        obtain ⟨w', r, q⟩ := hl i x v hx e2 hvis
        obtain ⟨c2, h2⟩ := look k
        refine ⟨w', r, .inr ⟨.inr k, c2, h2, ?_⟩⟩
        have c1 := cm h2
        rcases q with ⟨k', _⟩ | ⟨_, c3, e', z⟩
        · have k' : X.env.scope.names.lookup x = some .local := k'
          rcases L.free _ (PySem.mem_of_lookup k) rfl with k2 | k2
          · have k2 : X.env.scope.names.lookup x = some .cell := k2
            rw [k2] at k'
            cases k'
          · have k2 : X.env.scope.names.lookup x = some .free := k2
            rw [k2] at k'
            cases k'
        · rw [c1] at e'
          cases e'
          exact cellK (I.freeC x _ c1) z
      · subst e1
        exfalso
        rcases e3 with z | z | z
        · rw [L.nz] at z
          cases z
        · rw [L.nz] at z
          cases z
        · rw [L.nz] at z
          cases z
  · obtain ⟨w', z⟩ := I.cell y c (cm e)
    exact ⟨w', cellK (I.freeC y c (cm e)) z⟩
  · obtain ⟨v, o, w1, w2⟩ := I.cell y c (cm e)
    exact un.free c o w1 (I.freeC y c (cm e)) (by simp)
  · cases (show q ∈ ([] : List (Addr × Obj)) from hq)
  · show σ.length = (X.N.map (lamNm scope)).length
    rw [List.length_map]
    exact I.len
/-- what the call of it binds -/
def LamBind (params : Arguments) (body : Expr) (scope : Scope) (is : List Int) : Prop := ∀ (q : Str) (cl : List (Str × Addr)) (dV doc pm cv ctv : Value) (s : Shared),
  ((is = [] ∧ dV = .none) ∨ ∃ (D : Addr) (i : Int) (tk : Tok), is = [i] ∧ dV = .ref D ∧ s.heap.get? D = some (PySem.W.kdv_tup [.int i tk])) →
    ∃ bs : List (Str × Value), BindsTo s (PySem.W.kdv_fn "<lambda>" q params (.expr body) scope cl dV doc pm cv ctv) ⟨[], []⟩ bs ∧ ∀ y ∈ bs, scope.names.lookup y.1 = some .local
theorem lamBind0 {params : Arguments} {body : Expr} (h : ∀ (q : Str) (cl : List (Str × Addr)) (doc pm cv ctv : Value), bindArgs (PySem.W.kdv_fn "<lambda>" q params (.expr body) scope cl .none doc pm cv ctv) ⟨[], []⟩ = pure []) : LamBind params body scope [] := fun q cl dV doc pm cv ctv s hd => by
  rcases hd with ⟨_, rfl⟩ | ⟨D, i, tk, e, _⟩
  · exact ⟨[], .of_eq (h q cl doc pm cv ctv), nofun⟩
  · cases e
theorem lamBind1 {params : Arguments} {body : Expr} {i : Int} {n : Str} (h : ∀ (q : Str) (cl : List (Str × Addr)) (D : Addr) (doc pm cv ctv : Value), ∃ k : Option (Array Value) → Sem (List (Str × Value)), bindArgs (PySem.W.kdv_fn "<lambda>" q params (.expr body) scope cl (.ref D) doc pm cv ctv) ⟨[], []⟩ = seqItems? (.ref D) >>= k ∧ ∀ v, k (some #[v]) = pure [(n, v)])
    (hn : scope.names.lookup n = some .local) : LamBind params body scope [i] := fun q cl dV doc pm cv ctv s hd => by
  rcases hd with ⟨e, _⟩ | ⟨D, i, tk, e, rfl, hD⟩
  · cases e
  · obtain ⟨k, h1, h2⟩ := h q cl D doc pm cv ctv
    refine ⟨[(n, .int i tk)], .of_defaults rfl hD rfl h1 (h2 _), fun y hy => ?_⟩
    rw [List.mem_singleton.mp hy]
    exact hn
theorem pe_act {CXg : CXT} {Eg : XK} {Ng : List Str} {qg : Str} {sg : Scope} {g : Addr} {cdg : Value} {params : Arguments} {body : Expr} {is : List Int} {k i : Nat} {a : Str} {pn : List (Addr × Obj)} {xe : Value → Shared → Prop} {W : WX} {E : XK} {tb : TE} {p1 p2 : Pos}
    (I : Inv X pins σ H s) (L : LamK X.env.scope scope) (hc : CloAt X H s.heap f c' params body scope is) (hb : LamBind params body scope is)
    (tk : Takes ((cxOf CXg X.prog X.w X.K X.mg X.base Ng qg sg g cdg X.A X.stack s H Eg).tr pn xe) W) (hW : ∀ cls d σ' H', E cls d H' → W cls d σ' H') (hr : Room (k + 1) (X.A.deeper (envOfC qg sg s.heap.objs.size g cdg)))
    (hbody : ∀ (A : Around) (outer : List Env) (s : Shared) (H : Hp), A.guards = X.A.guards → Room k (A.deeper (LamX.lamEnv X scope s.heap.objs.size f c')) → PE (lamX X A outer s H E scope f c') body tb)
    (hN : Ng[i]? = some a) (hv : Vis sg a) (hd : (a == ("__debug__" : Str)) = false := by decide) (hcd : (a == ("__classdict__" : Str)) = false := by decide) :
    PE ((cxOf CXg X.prog X.w X.K X.mg X.base Ng qg sg g cdg X.A X.stack s H Eg).tr pn xe) (.Call (.Name a p1) [] [] p2)
      (fun σZ HZ Q => σZ[i]? = some (some (.ref f)) ∧ HZ c' = some (LamX.CodeO c' (lamQ X)) ∧ tb σ HZ Q) := by
  refine ⟨fun pinsZ sZ σZ HZ Q IZ h => ?_⟩
  obtain ⟨g1, g2, g3⟩ := h
  refine wpAny_Call_Name_kw (thn ((pe_var (pos := p1) (i := i) hN hv hd hcd).run pinsZ sZ σZ HZ (fun v H1 => v = .ref f ∧ H1 = HZ) IZ ⟨.ref f, g1, rfl, rfl⟩) fun u s1 hh => ?_)
  obtain ⟨v, H1, I1, r1, rfl, rfl⟩ := hh
  obtain rfl : u = Value.ref f := r1
  have stay : ∀ b o, s.heap.get? b = some o → H b = none → b ∉ frs X.stack → s1.heap.get? b = some o := fun b o e n nf => I1.base.keep b o e n nf (fun z => nomatch (show b ∈ ([] : List Addr) from z))
  obtain ⟨dV, doc, pm, ctv, ob, hD⟩ := hc.ob
  have of1 := stay f _ ob hc.un hc.fr
  refine PySem.W.callWith_F0 ⟨_, _, _, _, of1⟩ ?_
  have un : Un (frs X.stack) [] H H1 s.heap s1.heap := I1.base
  obtain ⟨⟨oc, vs, t, w1, w2, w3⟩, _, _⟩ := I1.hok c' _ g2
  obtain ⟨bs, hbs, hloc⟩ := hb (lamQ X) (cloFrom X.env.cells scope.names []) dV doc pm (.ref c') ctv s1 (hD.imp (fun z => z) fun ⟨D, i, tk, e1, e2, e3, e4, e5⟩ => ⟨D, i, tk, e1, e2, stay D _ e3 e4 e5⟩)
  have rc : codeAny (model X.prog X.w) (X.A.deeper (envOfC qg sg s.heap.objs.size g cdg)) (.call (.ref f) ⟨[], []⟩) (CR (L2.CX X.prog X.w) (envOfC qg sg s.heap.objs.size g cdg :: X.stack) X.prog X.w H1 s1 Q E) s1 := by
    refine PySem.W.kla_callFunE hr.depth of1 rfl L.co L.gen rfl ⟨c', oc, vs, t, rfl, w1, w2, w3⟩ (hbs _ _ _ _ ?_)
    refine wpAny_newFunctionEnv L.nocell hloc (fun h₁ hns hsb => ⟨I1.nolimit.fresh _ hsb, ?_⟩) L.kind
    show codeAny _ _ (.expr body (LamX.lamEnv X scope s1.heap.objs.size f c')) _ _
    have kp : ∀ b o, s1.heap.get? b = some o → h₁.get? b = some o := fun b o e => hsb.extBut b o (Nat.ne_of_lt (Heap.lt_size e)) (Heap.get?_push_of_some _ e)
    have J : Inv (lamX X (X.A.deeper (envOfC qg sg s.heap.objs.size g cdg)) (envOfC qg sg s.heap.objs.size g cdg :: X.stack) s1 H1 E scope f c') [] σ H1 { s1 with heap := h₁, toks := s1.toks + bs.length } :=
      lam_enter I L I1.env0 hr.hd un hns kp
    refine PySem.W.kla_codeExpr (wpAny_mono ((hbody (X.A.deeper (envOfC qg sg s.heap.objs.size g cdg)) _ s1 H1 rfl (hr.deeper _)).run [] _ _ H1 Q J g3) (fun v s' hq => ?_) fun e s' hq => hq)
    obtain ⟨w', H', J', rv, q⟩ := hq
    exact ⟨w', H', J'.os, J'.bare, J'.base, J'.hok, rv, q⟩
  have hx : Passes (L2.CX X.prog X.w) ((cxOf CXg X.prog X.w X.K X.mg X.base Ng qg sg g cdg X.A X.stack s H Eg).tr pn xe) E := passes_call tk hW
  refine wpAny_call (codeAny_mono rc fun r s' hq => ?_)
  cases r with
  | error e => exact hx pinsZ σZ H1 s1 e s' I1 hq
  | ok fl =>
    cases fl with
    | ret u => exact I1.after hq
    | next => exact hq.elim
    | brk => exact hq.elim
    | cont => exact hq.elim
end
end Zj
/-! Whole numbers, rows of them: plain mathematics. -/
namespace Zj
open PySem PySem.Spec PyProof.Rows L2
abbrev tI (xs : List Int) : PyData := .tuple (xs.map .int)
abbrev lI (xs : List Int) : PyData := .list (xs.map .int)
/-- all of them below n binary figures -/
def BitsL (n : Nat) (xs : List Int) : Prop := ∀ x ∈ xs, Bits n x
theorem Bits.mono {m n : Nat} {x : Int} (h : Bits m x) (l : m ≤ n) : Bits n x := Nat.lt_of_lt_of_le h (Nat.pow_le_pow_right (by decide) l)
theorem BitsL.mono {m n : Nat} {xs : List Int} (h : BitsL m xs) (l : m ≤ n) : BitsL n xs := fun x hx => (h x hx).mono l
theorem Bits.mul {m n : Nat} {x y : Int} (h : Bits m x) (l : Bits n y) : Bits (m + n) (x * y) := by
  unfold Bits at *
  rw [Int.natAbs_mul, Nat.pow_add]
  exact Nat.mul_lt_mul'' h l
theorem Bits.add {m : Nat} {x y : Int} (h : Bits m x) (l : Bits m y) : Bits (m + 1) (x + y) := by
  unfold Bits at *
  rw [Nat.pow_succ]
  omega
theorem Bits.sub {m : Nat} {x y : Int} (h : Bits m x) (l : Bits m y) : Bits (m + 1) (x - y) := by
  unfold Bits at *
  rw [Nat.pow_succ]
  omega
theorem Bits.neg {m : Nat} {x : Int} (h : Bits m x) : Bits m (-x) := by
  unfold Bits at *
  rw [Int.natAbs_neg]
  exact h
theorem Bits.log {m : Nat} {x : Int} (h : Bits m x) (h0 : 0 < m) : x.natAbs.log2 < m := PySem.Flt.log2_lt_of h0 h
theorem Bits.le {m : Nat} {x y : Int} (h : Bits m y) (l : x.natAbs ≤ y.natAbs) : Bits m x := Nat.lt_of_le_of_lt l h
def gcdL (xs : List Int) : Nat := xs.foldl (fun g x => Nat.gcd g x.natAbs) 0
theorem gcd_fold (xs : List Int) (g : Nat) : xs.foldl (fun g x => Nat.gcd g x.natAbs) g = Nat.gcd g (gcdL xs) := by
  induction xs generalizing g with
  | nil =>
    show g = Nat.gcd g 0
    rw [Nat.gcd_zero_right]
  | cons x xs ih =>
    show xs.foldl _ (Nat.gcd g x.natAbs) = Nat.gcd g (xs.foldl _ (Nat.gcd 0 x.natAbs))
    rw [ih, ih, Nat.gcd_zero_left, Nat.gcd_assoc]
theorem gcdL_cons (x : Int) (xs : List Int) : gcdL (x :: xs) = Nat.gcd x.natAbs (gcdL xs) := by
  show xs.foldl _ (Nat.gcd 0 x.natAbs) = _
  rw [gcd_fold, Nat.gcd_zero_left]
theorem gcdL_nil : gcdL [] = 0 := rfl
theorem gcdL_append (xs ys : List Int) : gcdL (xs ++ ys) = Nat.gcd (gcdL xs) (gcdL ys) := by
  unfold gcdL
  rw [List.foldl_append, gcd_fold]
  rfl
theorem gcdL_dvd {xs : List Int} {x : Int} (h : x ∈ xs) : (gcdL xs : Int) ∣ x := by
  induction xs with
  | nil => cases h
  | cons y ys ih =>
    rw [gcdL_cons]
    rcases List.mem_cons.mp h with e | e
    · subst e
      exact Int.ofNat_dvd_left.mpr (Nat.gcd_dvd_left _ _)
    · exact Int.dvd_trans (Int.ofNat_dvd.mpr (Nat.gcd_dvd_right _ _)) (ih e)
theorem gcdL_zero {xs : List Int} (h : gcdL xs = 0) : ∀ x ∈ xs, x = 0 := fun x hx => by
  have := gcdL_dvd hx
  rw [h] at this
  exact Int.zero_dvd.mp this
theorem gcdL_le {xs : List Int} {x : Int} (h : x ∈ xs) (h0 : x ≠ 0) : gcdL xs ≤ x.natAbs := by
  have h1 : gcdL xs ∣ x.natAbs := Int.natAbs_dvd_natAbs.mpr (gcdL_dvd h) |> fun z => by simpa using z
  exact Nat.le_of_dvd (by omega) h1
theorem gcdL_bits {xs : List Int} {n : Nat} (h : BitsL n xs) : Bits n (gcdL xs : Int) := by
  by_cases h0 : gcdL xs = 0
  · rw [h0]
    show (0 : Nat) < 2 ^ n
    exact Nat.pow_pos (by decide)
  · have : ∃ x ∈ xs, x ≠ 0 := Classical.byContradiction fun hn => h0 (by
      have hz : ∀ x ∈ xs, x = 0 := fun x hx => Classical.byContradiction fun z => hn ⟨x, hx, z⟩
      clear hn h0 h
      induction xs with
      | nil => rfl
      | cons y ys ih =>
        rw [gcdL_cons, ih (fun x hx => hz x (List.mem_cons_of_mem _ hx)), hz y List.mem_cons_self]
        rfl)
    obtain ⟨x, hx, hx0⟩ := this
    exact (h x hx).le (by simpa using gcdL_le hx hx0)
/-- divided by what all are multiples of -/
def shortL (xs : List Int) : List Int := if gcdL xs < 2 then xs else xs.map fun x => x.fdiv (gcdL xs : Int)
theorem shortL_len (xs : List Int) : (shortL xs).length = xs.length := by
  unfold shortL
  split
  · rfl
  · rw [List.length_map]
theorem fdiv_le {x : Int} {g : Nat} : (x.fdiv (g : Int)).natAbs ≤ x.natAbs := by
  by_cases hg : g = 0
  · subst hg
    simp
  · rw [Int.fdiv_eq_ediv_of_nonneg x (by omega)]
    exact Int.natAbs_ediv_le_natAbs x g
theorem shortL_bits {xs : List Int} {n : Nat} (h : BitsL n xs) : BitsL n (shortL xs) := fun y hy => by
  unfold shortL at hy
  split at hy
  · exact h y hy
  · obtain ⟨x, hx, rfl⟩ := List.mem_map.mp hy
    exact (h x hx).le fdiv_le
/-- it is one multiple of the short ones -/
theorem shortL_mul (xs : List Int) (h : ∃ x ∈ xs, x ≠ 0) : 0 < gcdL xs ∧ xs = (shortL xs).map fun y => (gcdL xs : Int) * y := by
  have hg : 0 < gcdL xs := Nat.pos_of_ne_zero fun z => by
    obtain ⟨x, hx, h0⟩ := h
    exact h0 (gcdL_zero z x hx)
  refine ⟨hg, ?_⟩
  unfold shortL
  split
  · have : gcdL xs = 1 := by omega
    rw [this]
    simp
  · rw [List.map_map]
    conv => lhs; rw [← List.map_id xs]
    refine List.map_congr_left fun x hx => ?_
    obtain ⟨c, hc⟩ := gcdL_dvd hx
    show x = (gcdL xs : Int) * x.fdiv (gcdL xs : Int)
    rw [Int.fdiv_eq_ediv_of_nonneg x (by omega)]
    conv => rhs; rw [hc]
    rw [Int.mul_ediv_cancel_left c (by omega)]
    exact hc
def sgn (n : Int) : Int := if 0 < n then 1 else if n < 0 then -1 else 0
def dot (xs ys : List Int) : Int := (List.zipWith (· * ·) xs ys).sum
/-- the place of the first that is not 0 -/
def lead (xs : List Int) : Option Nat := xs.findIdx? fun x => !(x == 0)
def planeL (row : List Int) : Option (List Int) := match lead row.dropLast with
  | none => none
  | some p => some (if (shortL row).getD p 0 < 0 then (shortL row).map (fun x => -x) else shortL row)
def planeD (row : List Int) : PyData := match planeL row with
  | none => .none
  | some xs => tI xs
def fracL (top bottom : Int) : List Int := if 0 < bottom then shortL [top, bottom] else (shortL [top, bottom]).map fun x => -x
def pointL (ns : List Int) (b : Int) : List Int := shortL (ns.map (fun x => (if 0 < b then 1 else -1) * x) ++ [(if 0 < b then 1 else -1) * b])
/-! what is walked, in pairs -/
def onPair (g : Int → Int → Int) : PyData → PyData
  | .tuple [.int x, .int y] => .int (g x y)
  | _ => .none
theorem mem_zipI {xs ys : List Int} {d : PyData} (h : d ∈ List.zipWith (fun x y => PyData.tuple [x, y]) (xs.map .int) (ys.map .int)) : ∃ x ∈ xs, ∃ y ∈ ys, d = .tuple [.int x, .int y] := by
  induction xs generalizing ys with
  | nil => cases h
  | cons x xs ih =>
    cases ys with
    | nil => cases h
    | cons y ys =>
      rcases List.mem_cons.mp h with e | e
      · exact ⟨x, List.mem_cons_self, y, List.mem_cons_self, e⟩
      · obtain ⟨x', h1, y', h2, e'⟩ := ih e
        exact ⟨x', List.mem_cons_of_mem _ h1, y', List.mem_cons_of_mem _ h2, e'⟩
theorem zipI_map (g : Int → Int → Int) (xs ys : List Int) : (List.zipWith (fun x y => PyData.tuple [x, y]) (xs.map .int) (ys.map .int)).map (onPair g) = (List.zipWith g xs ys).map .int := by
  induction xs generalizing ys with
  | nil => rfl
  | cons x xs ih =>
    cases ys with
    | nil => rfl
    | cons y ys =>
      show PyData.int (g x y) :: _ = PyData.int (g x y) :: _
      rw [← ih ys]
def onInt (g : Int → Int) : PyData → PyData
  | .int x => .int (g x)
  | _ => .none
theorem mapI (g : Int → Int) (xs : List Int) : (xs.map PyData.int).map (onInt g) = (xs.map g).map .int := by
  rw [List.map_map, List.map_map] <;> rfl
theorem mem_mapI {xs : List Int} {d : PyData} (h : d ∈ xs.map PyData.int) : ∃ x ∈ xs, d = .int x := by
  obtain ⟨x, hx, e⟩ := List.mem_map.mp h
  exact ⟨x, hx, e.symm⟩
end Zj
/-! More plain mathematics: places, parts. -/
namespace Zj
open PySem PySem.Spec PyProof.Rows L2
variable [Nm]
theorem six_none (n d : Nat) : HT.sIx n d none = d := HT.sIx_none n d
theorem six_last (n d : Nat) (h : 1 ≤ n) : HT.sIx n d (some (-1)) = n - 1 := by
  have e := HT.clip_eq (-1) n d
  rw [if_pos (by decide)] at e
  have : max ((-1 : Int) + (n : Int)) 0 = ((n - 1 : Nat) : Int) := by omega
  rw [this] at e
  exact (Int.ofNat.inj e).symm
theorem cutD_init (ds : List PyData) (h : 1 ≤ ds.length) : cutD ds none (some (-1)) = ds.dropLast := by
  unfold cutD
  rw [six_none, six_last _ _ h, List.drop_zero, Nat.sub_zero, List.dropLast_eq_take]
theorem cutD_tail (ds : List PyData) (h : 1 ≤ ds.length) : cutD ds (some (-1)) none = ds.drop (ds.length - 1) := by
  unfold cutD
  rw [six_none, six_last _ _ h]
  exact List.take_of_length_le (by rw [List.length_drop]; exact Nat.le_refl _)
theorem cut_part (ds : List PyData) (h : 1 ≤ ds.length) : ¬ (HT.sIx ds.length 0 none = 0 ∧ HT.sIx ds.length ds.length (some (-1)) = ds.length) := by
  rw [six_last _ _ h]
  omega
theorem ati_last {α : Type} {xs : List α} {x : α} (h : xs.getLast? = some x) : atI xs (-1) = some x := by
  obtain ⟨l, rfl⟩ : ∃ l, xs = l ++ [x] := List.getLast?_eq_some_iff.mp h
  exact atI_last l x
theorem ati_of {α : Type} {xs : List α} {i : Int} {j : Nat} {x : α} (e : i = (j : Int)) (h : xs[j]? = some x) : atI xs i = some x := by
  rw [e]
  exact atI_nat h
theorem lastI {xs : List Int} {x : Int} (h : xs.getLast? = some x) : (xs.map PyData.int).getLast? = some (.int x) := by
  rw [List.getLast?_map, h] <;> rfl
theorem initI (xs : List Int) : (xs.map PyData.int).dropLast = xs.dropLast.map .int := (List.map_dropLast).symm
def wholeD : PyData → Bool
  | .int _ => true
  | _ => false
def badAt (ds : List PyData) : Option Nat := ds.findIdx? fun x => !wholeD x
def placeD : Option Nat → PyData
  | some k => .int (k : Int)
  | none => .none
def wrongD (v : PyData) (m : Int) : PyData := match v with
  | .tuple ds => if (ds.length : Int) = m then placeD (badAt ds) else .int (-1)
  | _ => .int (-1)
theorem badAt_ints (xs : List Int) : badAt (xs.map .int) = none := by
  unfold badAt
  rw [List.findIdx?_eq_none_iff]
  intro x hx
  obtain ⟨i, _, rfl⟩ := List.mem_map.mp hx
  rfl
/-- the first place of which something holds, told turn by turn -/
theorem find_hit {α : Type} {p : α → Bool} {xs : List α} {n : Nat} {x : α} (h : xs[n]? = some x) (hx : p x = true) (hb : ∀ i y, i < n → xs[i]? = some y → p y = false) : xs.findIdx? p = some n := by
  rw [List.findIdx?_eq_some_iff_getElem]
  obtain ⟨hn1, hn2⟩ := (List.getElem?_eq_some_iff.mp h)
  refine ⟨hn1, by rw [hn2]; exact hx, fun j hj => ?_⟩
  have hj' : j < xs.length := by omega
  have := hb j xs[j] hj (by simp)
  rw [this]
  exact Bool.false_ne_true
theorem find_miss {α : Type} {p : α → Bool} {xs : List α} (hb : ∀ i y, i < xs.length → xs[i]? = some y → p y = false) : xs.findIdx? p = none := by
  rw [List.findIdx?_eq_none_iff]
  intro x hx
  obtain ⟨i, hi, e⟩ := List.getElem_of_mem hx
  exact hb i x hi (by rw [← e]; simp)
theorem gcdL_take {xs : List Int} {n : Nat} {x : Int} (h : xs[n]? = some x) : gcdL (xs.take (n + 1)) = Nat.gcd (gcdL (xs.take n)) x.natAbs := by
  rw [List.take_add_one, h]
  show gcdL (xs.take n ++ [x]) = _
  rw [gcdL_append, gcdL_cons, gcdL_nil, Nat.gcd_zero_right]
theorem getI {xs : List Int} {n : Nat} {d : PyData} (h : (xs.map PyData.int)[n]? = some d) : ∃ x, xs[n]? = some x ∧ d = .int x := by
  rw [List.getElem?_map] at h
  cases e : xs[n]? with
  | none => rw [e] at h; cases h
  | some x => rw [e] at h; cases h; exact ⟨x, rfl, rfl⟩
theorem getN {ds : List PyData} {n : Nat} {d : PyData} (h : (numbered ds)[n]? = some d) : ∃ x, ds[n]? = some x ∧ d = .tuple [.int (n : Int), x] := by
  unfold numbered at h
  rw [List.getElem?_map] at h
  by_cases hn : n < ds.length
  · rw [List.getElem?_range hn] at h
    cases h
    refine ⟨ds[n], by simp, ?_⟩
    show PyData.tuple [.int (n : Int), ds.getD n .none] = _
    rw [List.getD_eq_getElem?_getD, List.getElem?_eq_getElem hn] <;> rfl
  · rw [List.getElem?_eq_none (by simpa using hn)] at h
    cases h
theorem mem_numbered {ds : List PyData} {d : PyData} (h : d ∈ numbered ds) : ∃ (n : Nat) (x : PyData), ds[n]? = some x ∧ d = .tuple [.int (n : Int), x] := by
  obtain ⟨n, hn, e⟩ := List.getElem_of_mem h
  obtain ⟨x, h1, h2⟩ := getN (show (numbered ds)[n]? = some d by rw [← e]; simp)
  exact ⟨n, x, h1, h2⟩
theorem numbered_len (ds : List PyData) : (numbered ds).length = ds.length := by simp [numbered]
/-- a fraction of two numbers, by any common divisor of the right sign -/
theorem frac_lowest {t b : Int} (hb : b ≠ 0) : ([t.fdiv (if b < 0 then -((Nat.gcd t.natAbs b.natAbs : Nat) : Int) else ((Nat.gcd t.natAbs b.natAbs : Nat) : Int)), b.fdiv (if b < 0 then -((Nat.gcd t.natAbs b.natAbs : Nat) : Int) else ((Nat.gcd t.natAbs b.natAbs : Nat) : Int))] : List Int) = fracL t b := by
  have eg : gcdL [t, b] = Nat.gcd t.natAbs b.natAbs := by rw [gcdL_cons, gcdL_cons, gcdL_nil, Nat.gcd_zero_right]
  have gp : 0 < Nat.gcd t.natAbs b.natAbs := Nat.gcd_pos_of_pos_right _ (by omega)
  have d1 : ((Nat.gcd t.natAbs b.natAbs : Nat) : Int) ∣ t := Int.ofNat_dvd_left.mpr (Nat.gcd_dvd_left _ _)
  have d2 : ((Nat.gcd t.natAbs b.natAbs : Nat) : Int) ∣ b := Int.ofNat_dvd_left.mpr (Nat.gcd_dvd_right _ _)
  have sh : shortL [t, b] = [t.fdiv ((Nat.gcd t.natAbs b.natAbs : Nat) : Int), b.fdiv ((Nat.gcd t.natAbs b.natAbs : Nat) : Int)] := by
    unfold shortL
    rw [eg]
    split
    · have : Nat.gcd t.natAbs b.natAbs = 1 := by omega
      rw [this]
      simp
    · rfl
  have neg : ∀ x : Int, ((Nat.gcd t.natAbs b.natAbs : Nat) : Int) ∣ x → x.fdiv (-((Nat.gcd t.natAbs b.natAbs : Nat) : Int)) = -(x.fdiv ((Nat.gcd t.natAbs b.natAbs : Nat) : Int)) := fun x ⟨c, hc⟩ => by
    have g0 : ((Nat.gcd t.natAbs b.natAbs : Nat) : Int) ≠ 0 := by omega
    generalize ((Nat.gcd t.natAbs b.natAbs : Nat) : Int) = g at g0 hc ⊢
    have e1 : x.fdiv g = c := by rw [hc]; exact Int.mul_fdiv_cancel_left c g0
    have e2 : x.fdiv (-g) = -c := by
      rw [hc, show g * c = (-g) * (-c) by rw [Int.neg_mul_neg]]
      exact Int.mul_fdiv_cancel_left (-c) (by omega)
    rw [e1, e2]
  unfold fracL
  rw [sh]
  by_cases h : b < 0
  · rw [if_pos h, if_neg (by omega), neg t d1, neg b d2] <;> rfl
  · rw [if_neg h, if_pos (by omega)]
def intD : PyData → Bool
  | .int _ | .bool _ => true
  | _ => false
def boolD : PyData → Bool
  | .bool _ => true
  | _ => false
def tupD : PyData → Bool
  | .tuple _ => true
  | _ => false
theorem kit_int (d : PyData) : kitB (tyD d) "int" = some (intD d) := by
  cases d with
  | none => show kitB "NoneType" "int" = some false; decide +kernel
  | bool b => show kitB "bool" "int" = some true; decide +kernel
  | int b => show kitB "int" "int" = some true; decide +kernel
  | str b => show kitB "str" "int" = some false; decide +kernel
  | list b => show kitB "list" "int" = some false; decide +kernel
  | tuple b => show kitB "tuple" "int" = some false; decide +kernel
  | dict b => show kitB "dict" "int" = some false; decide +kernel
theorem kit_bool (d : PyData) : kitB (tyD d) "bool" = some (boolD d) := by
  cases d with
  | none => show kitB "NoneType" "bool" = some false; decide +kernel
  | bool b => show kitB "bool" "bool" = some true; decide +kernel
  | int b => show kitB "int" "bool" = some false; decide +kernel
  | str b => show kitB "str" "bool" = some false; decide +kernel
  | list b => show kitB "list" "bool" = some false; decide +kernel
  | tuple b => show kitB "tuple" "bool" = some false; decide +kernel
  | dict b => show kitB "dict" "bool" = some false; decide +kernel
theorem kit_tup (d : PyData) : kitB (tyD d) "tuple" = some (tupD d) := by
  cases d with
  | none => show kitB "NoneType" "tuple" = some false; decide +kernel
  | bool b => show kitB "bool" "tuple" = some false; decide +kernel
  | int b => show kitB "int" "tuple" = some false; decide +kernel
  | str b => show kitB "str" "tuple" = some false; decide +kernel
  | list b => show kitB "list" "tuple" = some false; decide +kernel
  | tuple b => show kitB "tuple" "tuple" = some true; decide +kernel
  | dict b => show kitB "dict" "tuple" = some false; decide +kernel
theorem whole_is (d : PyData) : wholeD d = (intD d && !boolD d) := by cases d <;> rfl
section
variable {X : Cx} {a : Addr} {ρ : Rho} {e : Expr} {pos p p2 : Pos} {d : PyData}
theorem e_isInt (h : EvE X a e ρ d) (hm : X.mg "isinstance" = none) (hmT : X.mg "int" = none) (hg : Gl X "isinstance" := by rfl) (hgT : Gl X "int" := by rfl)
    (hs1 : starEach (e :: [.Name "int" p2]) X.env = (false, eval e X.env) :: starEach [.Name "int" p2] X.env := by exact star_of rfl) (hs2 : starEach (.Name "int" p2 :: []) X.env = (false, eval (.Name "int" p2) X.env) :: starEach [] X.env := by exact star_of rfl)
    (hpl : (backTo pos (starEach [.Name "int" p2] X.env)).any (·.1) = false := by exact star_no rfl) : EvE X a (.Call (.Name "isinstance" p) [e, .Name "int" p2] [] pos) ρ (.bool (intD d)) :=
  e_isi (tn := "int") h (kit_int d) (by decide +kernel) hm hmT hg hgT (by decide) (by decide) hs1 hs2 hpl
theorem e_isBool (h : EvE X a e ρ d) (hm : X.mg "isinstance" = none) (hmT : X.mg "bool" = none) (hg : Gl X "isinstance" := by rfl) (hgT : Gl X "bool" := by rfl)
    (hs1 : starEach (e :: [.Name "bool" p2]) X.env = (false, eval e X.env) :: starEach [.Name "bool" p2] X.env := by exact star_of rfl) (hs2 : starEach (.Name "bool" p2 :: []) X.env = (false, eval (.Name "bool" p2) X.env) :: starEach [] X.env := by exact star_of rfl)
    (hpl : (backTo pos (starEach [.Name "bool" p2] X.env)).any (·.1) = false := by exact star_no rfl) : EvE X a (.Call (.Name "isinstance" p) [e, .Name "bool" p2] [] pos) ρ (.bool (boolD d)) :=
  e_isi (tn := "bool") h (kit_bool d) (by decide +kernel) hm hmT hg hgT (by decide) (by decide) hs1 hs2 hpl
theorem e_isTup (h : EvE X a e ρ d) (hm : X.mg "isinstance" = none) (hmT : X.mg "tuple" = none) (hg : Gl X "isinstance" := by rfl) (hgT : Gl X "tuple" := by rfl)
    (hs1 : starEach (e :: [.Name "tuple" p2]) X.env = (false, eval e X.env) :: starEach [.Name "tuple" p2] X.env := by exact star_of rfl) (hs2 : starEach (.Name "tuple" p2 :: []) X.env = (false, eval (.Name "tuple" p2) X.env) :: starEach [] X.env := by exact star_of rfl)
    (hpl : (backTo pos (starEach [.Name "tuple" p2] X.env)).any (·.1) = false := by exact star_no rfl) : EvE X a (.Call (.Name "isinstance" p) [e, .Name "tuple" p2] [] pos) ρ (.bool (tupD d)) :=
  e_isi (tn := "tuple") h (kit_tup d) (by decide +kernel) hm hmT hg hgT (by decide) (by decide) hs1 hs2 hpl
/-- and, as a value, of two -/
theorem e_and2 {f : Expr} {b c : Bool} (h : EvE X a e ρ (.bool b)) (h2 : EvE X a f ρ (.bool c)) : EvE X a (.BoolOp .And [e, f] pos) ρ (.bool (b && c)) := by
  cases b with
  | true => exact e_andT h (e_one h2)
  | false => exact e_andF h rfl
theorem t_or2 {f : Expr} {b c : Bool} (h : EvT X a e ρ b) (h2 : b = false → EvT X a f ρ c) (hb : b = true → c = true) : EvT X a (.BoolOp .Or [e, f] pos) ρ c := by
  cases b with
  | true => rw [hb rfl]; exact t_orT h
  | false => exact t_orF h (t_or1 (h2 rfl))
theorem t_and2 {f : Expr} {b c : Bool} (h : EvT X a e ρ b) (h2 : b = true → EvT X a f ρ c) (hb : b = false → c = false) : EvT X a (.BoolOp .And [e, f] pos) ρ c := by
  cases b with
  | true => exact t_andT h (t_and1 (h2 rfl))
  | false => rw [hb rfl]; exact t_andF h
end
end Zj
/-! Data that is short, data that is alike, places with their numbers. -/
namespace Zj
open PySem PySem.Spec PyProof.Rows L2
variable [Nm]
/-- short data: nodes at most b, depth at most n -/
structure Tam (b n : Nat) (d : PyData) : Prop where
  tm : Tm d
  bk : d.bulk ≤ b
  dp : d.depth ≤ n
theorem Tam.tame {b n : Nat} {d : PyData} (t : Tam b n d) (hb : b ≤ 8000) (hn : n ≤ 60) : Tame d := ⟨t.tm, Nat.le_trans t.bk hb, Nat.le_trans t.dp hn⟩
theorem Tam.mono {b n b' n' : Nat} {d : PyData} (t : Tam b n d) (hb : b ≤ b') (hn : n ≤ n') : Tam b' n' d := ⟨t.tm, Nat.le_trans t.bk hb, Nat.le_trans t.dp hn⟩
theorem tam_int {i : Int} (h : Bits 1900 i) : Tam 0 0 (.int i) := ⟨by simp only [Tm]; exact Nat.lt_of_lt_of_le (h.log (by decide)) (by decide), by simp only [PyData.bulk]; exact Nat.le_refl _, by simp only [PyData.depth]; exact Nat.le_refl _⟩
theorem tam_non : Tam 0 0 .none := ⟨by simp only [Tm], by simp only [PyData.bulk]; exact Nat.le_refl _, by simp only [PyData.depth]; exact Nat.le_refl _⟩
theorem tam_bool {b : Bool} : Tam 0 0 (.bool b) := ⟨by simp only [Tm], by simp only [PyData.bulk]; exact Nat.le_refl _, by simp only [PyData.depth]; exact Nat.le_refl _⟩
theorem tam_all {b n : Nat} : ∀ {ds : List PyData}, (∀ d ∈ ds, Tam b n d) → TmAll ds ∧ PyData.bulkAll ds ≤ (b + 1) * ds.length ∧ PyData.depthAll ds ≤ n
  | [], _ => ⟨by simp only [TmAll], by simp only [PyData.bulkAll]; exact Nat.zero_le _, by simp only [PyData.depthAll]; exact Nat.zero_le _⟩
  | d :: ds, h => by
    obtain ⟨h1, h2, h3⟩ := tam_all (ds := ds) fun x hx => h x (List.mem_cons_of_mem _ hx)
    have t := h d List.mem_cons_self
    refine ⟨by simp only [TmAll]; exact ⟨t.tm, h1⟩, ?_, ?_⟩
    · simp only [PyData.bulkAll, List.length_cons]
      have := t.bk
      rw [Nat.mul_add, Nat.mul_one]
      omega
    · simp only [PyData.depthAll]
      have := t.dp
      omega
theorem tam_lst {b n l : Nat} {ds : List PyData} (h : ∀ d ∈ ds, Tam b n d) (hl : ds.length ≤ l) : Tam ((b + 1) * l) (n + 1) (.list ds) := by
  obtain ⟨h1, h2, h3⟩ := tam_all h
  have := Nat.mul_le_mul_left (b + 1) hl
  exact ⟨by simp only [Tm]; exact h1, by simp only [PyData.bulk]; omega, by simp only [PyData.depth]; omega⟩
theorem tam_tup {b n l : Nat} {ds : List PyData} (h : ∀ d ∈ ds, Tam b n d) (hl : ds.length ≤ l) : Tam ((b + 1) * l) (n + 1) (.tuple ds) := by
  obtain ⟨h1, h2, h3⟩ := tam_all h
  have := Nat.mul_le_mul_left (b + 1) hl
  exact ⟨by simp only [Tm]; exact h1, by simp only [PyData.bulk]; omega, by simp only [PyData.depth]; omega⟩
theorem tam_tI {xs : List Int} {l : Nat} (h : BitsL 1900 xs) (hl : xs.length ≤ l) : Tam l 1 (tI xs) := by
  have := tam_tup (b := 0) (n := 0) (l := l) (ds := xs.map PyData.int) (fun d hd => by
    obtain ⟨x, hx, rfl⟩ := mem_mapI hd
    exact tam_int (h x hx)) (by simpa using hl)
  exact this.mono (by omega) (Nat.le_refl _)
/-! alike -/
theorem lay_ints (xs : List Int) : PyData.canLayAll0 (xs.map .int) = true := by
  induction xs with
  | nil => simp [PyData.canLayAll0]
  | cons x xs ih => simp [PyData.canLayAll0, PyData.canLay0, ih]
theorem depth_ints (xs : List Int) : PyData.depthAll (xs.map .int) = 0 := by
  induction xs with
  | nil => simp [PyData.depthAll]
  | cons x xs ih => simp [PyData.depthAll, PyData.depth, ih]
theorem shaped_tI (xs : List Int) : SeqAt.shaped (tI xs) = true := by
  unfold SeqAt.shaped
  simp [PyData.canLay0, lay_ints, PyData.depth, depth_ints]
theorem shaped_lI (xs : List Int) : SeqAt.shaped (lI xs) = true := by
  unfold SeqAt.shaped
  simp [PyData.canLay0, lay_ints, PyData.depth, depth_ints]
theorem shaped_non : SeqAt.shaped .none = true := by
  unfold SeqAt.shaped
  simp [PyData.canLay0, PyData.depth]
theorem eqvAll_ints : ∀ (xs ys : List Int), PyData.eqvAll (xs.map .int) (ys.map .int) = (xs == ys)
  | [], [] => by simp [PyData.eqvAll]
  | [], _ :: _ => by simp [PyData.eqvAll]
  | _ :: _, [] => by simp [PyData.eqvAll]
  | x :: xs, y :: ys => by
    have ih := eqvAll_ints xs ys
    simp only [List.map_cons, PyData.eqvAll, PyData.eqv, ih]
    rfl
theorem eqv_tI (xs ys : List Int) : PyData.eqv (tI xs) (tI ys) = (xs == ys) := by simp only [PyData.eqv, eqvAll_ints]
theorem eqv_lI (xs ys : List Int) : PyData.eqv (lI xs) (lI ys) = (xs == ys) := by simp only [PyData.eqv, eqvAll_ints]
/-! each with its number, from a number on -/
def numFrom (k : Nat) : List PyData → List PyData
  | [] => []
  | x :: xs => .tuple [.int (k : Int), x] :: numFrom (k + 1) xs
theorem numFrom_get : ∀ (k : Nat) (ds : List PyData) (i : Nat), (numFrom k ds)[i]? = ds[i]?.map fun x => PyData.tuple [.int ((k + i : Nat) : Int), x]
  | k, [], i => by simp [numFrom]
  | k, x :: xs, 0 => by simp [numFrom]
  | k, x :: xs, i + 1 => by
    have ih := numFrom_get (k + 1) xs i
    simp only [numFrom, List.getElem?_cons_succ, ih]
    rw [show k + 1 + i = k + (i + 1) by omega]
theorem numbered_eq (ds : List PyData) : numbered ds = numFrom 0 ds := by
  apply List.ext_getElem?
  intro i
  rw [numFrom_get, Nat.zero_add]
  cases h : ds[i]? with
  | none =>
    have : ds.length ≤ i := List.getElem?_eq_none_iff.mp h
    rw [List.getElem?_eq_none (by rw [numbered_len]; exact this)]
    rfl
  | some x => exact numbered_get h
/-- what a comprehension over numbered whole numbers keeps: the places of those that are not 0 -/
def keepNZ : PyData → Bool
  | .tuple [_, .int x] => !(x == 0)
  | _ => false
def valK : PyData → PyData
  | .tuple [k, _] => k
  | _ => .none
def nzFrom (k : Nat) : List Int → List Int
  | [] => []
  | x :: xs => if x == 0 then nzFrom (k + 1) xs else (k : Int) :: nzFrom (k + 1) xs
theorem kept_nz : ∀ (k : Nat) (xs : List Int), kept keepNZ valK (numFrom k (xs.map .int)) = (nzFrom k xs).map .int
  | k, [] => rfl
  | k, x :: xs => by
    have ih := kept_nz (k + 1) xs
    unfold kept at ih ⊢
    show ((PyData.tuple [.int (k : Int), .int x] :: numFrom (k + 1) (xs.map .int)).filter keepNZ).map valK = _
    unfold nzFrom
    cases hx : x == 0 with
    | true =>
      rw [List.filter_cons_of_neg (by show ¬ (!(x == 0)) = true; rw [hx]; exact Bool.false_ne_true), ih, if_pos rfl]
    | false =>
      rw [List.filter_cons_of_pos (by show (!(x == 0)) = true; rw [hx]; rfl), if_neg Bool.false_ne_true, List.map_cons, ih, List.map_cons]
      rfl
theorem lead_nil : lead [] = none := rfl
theorem lead_cons (x : Int) (xs : List Int) : lead (x :: xs) = if x == 0 then (lead xs).map (· + 1) else some 0 := by
  unfold lead
  rw [List.findIdx?_cons]
  cases x == 0 <;> rfl
theorem nz_lead : ∀ (k : Nat) (xs : List Int), match lead xs with
    | none => nzFrom k xs = []
    | some p => ∃ tl, nzFrom k xs = ((k + p : Nat) : Int) :: tl
  | k, [] => rfl
  | k, x :: xs => by
    have ih := nz_lead (k + 1) xs
    rw [lead_cons]
    unfold nzFrom
    cases hx : x == 0 with
    | true =>
      rw [if_pos rfl, if_pos rfl]
      cases hl : lead xs with
      | none =>
        rw [hl] at ih
        exact ih
      | some p =>
        rw [hl] at ih
        obtain ⟨tl, e⟩ := ih
        exact ⟨tl, by rw [e, show k + 1 + p = k + (p + 1) by omega]⟩
    | false => exact ⟨_, rfl⟩
theorem lead_get {xs : List Int} {p : Nat} (h : lead xs = some p) : ∃ x, xs[p]? = some x ∧ x ≠ 0 := by
  unfold lead at h
  rw [List.findIdx?_eq_some_iff_getElem] at h
  obtain ⟨h1, h2, _⟩ := h
  exact ⟨xs[p], by simp, by simpa using h2⟩
end Zj
/-! Reading and writing the law's state. -/
namespace Zj
open PySem PySem.Spec PyProof.Rows L2
variable [Nm]
def PInt (d : PyData) : Prop := ∃ i : Int, d = .int i
def PCells (d : PyData) : Prop := ∃ xs : List Int, d = lI xs ∧ 1 ≤ xs.length ∧ xs.length ≤ 100 ∧ BitsL 2000000 xs
def PSpot (n : Nat) (d : PyData) : Prop := ∃ i : Int, d = .int i ∧ 0 ≤ i ∧ i + n ≤ 1000000000000
section
variable {X : Cx} {a : Addr} {ρ : Rho} {n m : Nat} {N : Nat → Rho → Prop} {R : Nat → PyData → Prop} {e : Expr} {P : PyData → Prop} {y : Str} {i j : Nat} {pm kp pos : Pos}
theorem m_get {key : Str} (hu : X.A.units + 64 < cLine) (hi : ρ[i]? = some (some .hnd))
    (hk : ∀ (left seed : Int) (pc : Addr) (spot : Int) (cells : List Int) (H : Hp), SqL X.K H pc (cells.map V.int) → 1 ≤ cells.length → cells.length ≤ 100 → (∀ c ∈ cells, Bits 2000000 c) → 0 ≤ seed → seed < 2147483647 → 0 ≤ spot → spot + n ≤ 1000000000000 →
      ∃ v d, valV (sts left seed pc spot) (Sum.inr key) = some v ∧ Dp X.K H v d ∧ P d)
    (hN : X.N[i]? = some y := by rfl) (hv : Vis X.env.scope y := by first | exact Or.inl rfl | exact Or.inr (Or.inl rfl) | exact Or.inr (Or.inr rfl)) (hd : (y == ("__debug__" : Str)) = false := by decide) (hcd : (y == ("__classdict__" : Str)) = false := by decide) :
    EvM X a (.Subscript (.Name y pm) (.Constant (.str key) j kp) pos) ρ n n P := fun T σ H S ms Q q => by
  obtain ⟨v, h1, h2⟩ := S.sl i _ hi
  have h2 : v = .ref a := h2
  subst h2
  have ms0 := ms
  obtain ⟨left, seed, pc, spot, cells, g1, g2, g3, g4, g5, g6, g7, g8, g9⟩ := ms
  obtain ⟨v, d, k1, k2, k3⟩ := hk left seed pc spot cells _ g2 g3 g4 g5 g6 g7 g8 g9
  exact toE (pe_dget (Nat.lt_of_le_of_lt (Nat.add_le_add_left (by decide) _) hu) (pe_var hN hv hd hcd) pe_str (fun _ _ => rfl)) ⟨_, h1, a, v, rfl, by rw [← k1]; exact DGet.k (k := Sum.inr key) (off_some g1).1, q v d H Kp.refl ms0 k2 k3⟩
theorem m_left (hu : X.A.units + 64 < cLine) (hi : ρ[i]? = some (some .hnd)) (hN : X.N[i]? = some y := by rfl) (hv : Vis X.env.scope y := by first | exact Or.inl rfl | exact Or.inr (Or.inl rfl) | exact Or.inr (Or.inr rfl)) (hd : (y == ("__debug__" : Str)) = false := by decide) (hcd : (y == ("__classdict__" : Str)) = false := by decide) :
    EvM X a (.Subscript (.Name y pm) (.Constant (.str "left") j kp) pos) ρ n n PInt :=
  m_get hu hi (fun left seed pc spot cells H _ _ _ _ _ _ _ _ => ⟨.int left, .int left, rfl, .int _, left, rfl⟩) hN hv hd hcd
theorem m_seed (hu : X.A.units + 64 < cLine) (hi : ρ[i]? = some (some .hnd)) (hN : X.N[i]? = some y := by rfl) (hv : Vis X.env.scope y := by first | exact Or.inl rfl | exact Or.inr (Or.inl rfl) | exact Or.inr (Or.inr rfl)) (hd : (y == ("__debug__" : Str)) = false := by decide) (hcd : (y == ("__classdict__" : Str)) = false := by decide) :
    EvM X a (.Subscript (.Name y pm) (.Constant (.str "seed") j kp) pos) ρ n n PInt :=
  m_get hu hi (fun left seed pc spot cells H _ _ _ _ _ _ _ _ => ⟨.int seed, .int seed, rfl, .int _, seed, rfl⟩) hN hv hd hcd
theorem m_cells (hu : X.A.units + 64 < cLine) (hi : ρ[i]? = some (some .hnd)) (hN : X.N[i]? = some y := by rfl) (hv : Vis X.env.scope y := by first | exact Or.inl rfl | exact Or.inr (Or.inl rfl) | exact Or.inr (Or.inr rfl)) (hd : (y == ("__debug__" : Str)) = false := by decide) (hcd : (y == ("__classdict__" : Str)) = false := by decide) :
    EvM X a (.Subscript (.Name y pm) (.Constant (.str "cells") j kp) pos) ρ n n PCells :=
  m_get hu hi (fun left seed pc spot cells H g2 g3 g4 g5 _ _ _ _ => ⟨.ref pc, lI cells, rfl, .lst g2 (dps_ints cells), cells, rfl, g3, g4, g5⟩) hN hv hd hcd
theorem m_spot (hu : X.A.units + 64 < cLine) (hi : ρ[i]? = some (some .hnd)) (hN : X.N[i]? = some y := by rfl) (hv : Vis X.env.scope y := by first | exact Or.inl rfl | exact Or.inr (Or.inl rfl) | exact Or.inr (Or.inr rfl)) (hd : (y == ("__debug__" : Str)) = false := by decide) (hcd : (y == ("__classdict__" : Str)) = false := by decide) :
    EvM X a (.Subscript (.Name y pm) (.Constant (.str "spot") j kp) pos) ρ n n (PSpot n) :=
  m_get hu hi (fun left seed pc spot cells H _ _ _ _ _ _ g8 g9 => ⟨.int spot, .int spot, rfl, .int _, spot, rfl, g8, g9⟩) hN hv hd hcd
theorem qs_put {key : Str} {k : Nat} {sp : Pos} (hu : X.A.units + 64 < cLine) (hi : ρ[i]? = some (some .hnd)) (h : EvM X a e ρ n m P)
    (hk : ∀ d, P d → ∃ z : Int, d = .int z ∧ ∀ (left seed : Int) (pc : Addr) (spot : Int), 0 ≤ spot → spot + m ≤ 1000000000000 → ∃ left' spot', putK (sts left seed pc spot) (Sum.inr key) (.int z) = sts left' seed pc spot' ∧ 0 ≤ spot' ∧ spot' + k ≤ 1000000000000)
    (hn : N k ρ) (hs : swapsWith e (some (.Subscript (.Name y pm) (.Constant (.str key) j kp) sp)) pos.line X.env = pure false := by rfl)
    (hN : X.N[i]? = some y := by rfl) (hv : Vis X.env.scope y := by first | exact Or.inl rfl | exact Or.inr (Or.inl rfl) | exact Or.inr (Or.inr rfl)) (hd : (y == ("__debug__" : Str)) = false := by decide) (hcd : (y == ("__classdict__" : Str)) = false := by decide) :
    RunMS X a (.Assign [.Subscript (.Name y pm) (.Constant (.str key) j kp) sp] e pos) ρ n N R := fun T σ H D S ms kn kr => by
  obtain ⟨v, h1, h2⟩ := S.sl i _ hi
  have h2 : v = .ref a := h2
  subst h2
  refine toS (ps_dput (Nat.lt_of_le_of_lt (Nat.add_le_add_left (by decide) _) hu) (pe_var hN hv hd hcd) pe_str je hs) (h T σ H S ms _ fun v d H1 s1 ms1 p1 hp => ?_)
  obtain ⟨z, rfl, hz⟩ := hk d hp
  obtain rfl := dp_int p1
  have S1 := S.kpo s1 ms
  have ms1' := ms1
  obtain ⟨left, seed, pc, spot, cells, g1, g2, g3, g4, g5, g6, g7, g8, g9⟩ := ms1
  obtain ⟨e1, e2⟩ := off_some g1
  obtain ⟨left', spot', w1, w2, w3⟩ := hz left seed pc spot g8 g9
  have kp : Kp a H1 (upd H1 a (.dK (sts left' seed pc spot'))) := .put e1
  refine ⟨_, h1, a, upd H1 a (.dK (putK (sts left seed pc spot) (Sum.inr key) (.int z))), rfl, DPut.k (k := Sum.inr key) e1 (by show 4 < sizeLine; decide), ?_⟩
  rw [w1]
  refine kn σ _ ρ k (s1.trans kp) (S1.kpo kp ms1') ⟨left', seed, pc, spot', cells, ?_, kp_l (kp_off kp e2) ⟨_, g1⟩ _ _ g2, g3, g4, g5, g6, g7, w2, w3⟩ hn
  rw [off_no e2, upd_same]
theorem qs_putLeft {sp : Pos} (hu : X.A.units + 64 < cLine) (hi : ρ[i]? = some (some .hnd)) (h : EvM X a e ρ n m PInt) (hn : N m ρ)
    (hs : swapsWith e (some (.Subscript (.Name y pm) (.Constant (.str "left") j kp) sp)) pos.line X.env = pure false := by rfl)
    (hN : X.N[i]? = some y := by rfl) (hv : Vis X.env.scope y := by first | exact Or.inl rfl | exact Or.inr (Or.inl rfl) | exact Or.inr (Or.inr rfl)) (hd : (y == ("__debug__" : Str)) = false := by decide) (hcd : (y == ("__classdict__" : Str)) = false := by decide) :
    RunMS X a (.Assign [.Subscript (.Name y pm) (.Constant (.str "left") j kp) sp] e pos) ρ n N R :=
  qs_put hu hi h (fun d hp => by
    obtain ⟨z, rfl⟩ := hp
    exact ⟨z, rfl, fun left seed pc spot h1 h2 => ⟨z, spot, rfl, h1, h2⟩⟩) hn hs hN hv hd hcd
theorem qs_putSpot {k : Nat} {sp : Pos} (hu : X.A.units + 64 < cLine) (hi : ρ[i]? = some (some .hnd)) (h : EvM X a e ρ n m (PSpot k)) (hn : N k ρ)
    (hs : swapsWith e (some (.Subscript (.Name y pm) (.Constant (.str "spot") j kp) sp)) pos.line X.env = pure false := by rfl)
    (hN : X.N[i]? = some y := by rfl) (hv : Vis X.env.scope y := by first | exact Or.inl rfl | exact Or.inr (Or.inl rfl) | exact Or.inr (Or.inr rfl)) (hd : (y == ("__debug__" : Str)) = false := by decide) (hcd : (y == ("__classdict__" : Str)) = false := by decide) :
    RunMS X a (.Assign [.Subscript (.Name y pm) (.Constant (.str "spot") j kp) sp] e pos) ρ n N R :=
  qs_put hu hi h (fun d hp => by
    obtain ⟨z, rfl, h1, h2⟩ := hp
    exact ⟨z, rfl, fun left seed pc spot _ _ => ⟨left, z, rfl, h1, h2⟩⟩) hn hs hN hv hd hcd
theorem dps_rep {K : PySem.W.Frag} {H : Hp} {vs : List V} {ds : List PyData} (h : DpAll K H vs ds) : ∀ n : Nat, DpAll K H (List.replicate n vs).flatten (List.replicate n ds).flatten
  | 0 => .nil
  | n + 1 => by
    rw [List.replicate_succ, List.replicate_succ, List.flatten_cons, List.flatten_cons]
    exact dps_append h (dps_rep h n)
theorem e_rep {X : Cx} {a : Addr} {ρ : Rho} {es : List Expr} {e : Expr} {ds : List PyData} {k : Int} {pos pos' : Pos} (h : EvA X a es ρ ds) (h2 : EvE X a e ρ (.int k)) (h0 : 0 ≤ k) (hk : k ≤ 1000) (hl : ds.length ≤ 50) : EvE X a (.BinOp (.List es pos') .Mult e pos) ρ (.list (List.replicate k.toNat ds).flatten) := fun T σ H S Q q => by
  refine toE (pe_op op_rep (pe_lst ja) je) (h T σ H S _ fun vs H1 s1 p1 => ⟨by rw [dps_len p1]; exact szl (by omega), fun p hp => ?_⟩)
  have S1 := (S.same s1).same (same_new (o := .lst vs) hp)
  refine h2 T σ _ S1 _ fun v2 H2 s2 p2 => ?_
  obtain rfl := dp_int p2
  have lz : vs.length * k.toNat ≤ 50 * 1000 := by
    rw [dps_len p1]
    exact Nat.mul_le_mul hl (by omega)
  refine ⟨p, k, vs, rfl, rfl, s2.ob _ _ upd_same (by intro ps z; cases z), by omega, by omega, szl (by omega), fun r hr => ?_⟩
  have s3 := (s1.trans (same_new (o := .lst vs) hp)).trans s2
  exact q _ _ (s3.trans (same_new hr)) (dpo_newL (S.same s3).dm hr (dps_rep (dpso ((same_new (o := .lst vs) hp).trans s2) p1) _))
end
end Zj
/-! Planes and rows, as numbers. -/
namespace Zj
open PySem PySem.Spec PyProof.Rows L2
variable [Nm]
theorem lead_scale {c : Int} (hc : c ≠ 0) : ∀ xs : List Int, lead (xs.map fun x => c * x) = lead xs
  | [] => rfl
  | x :: xs => by
    rw [List.map_cons, lead_cons, lead_cons, lead_scale hc xs]
    have : ((c * x) == 0) = (x == 0) := by
      rw [Bool.eq_iff_iff, beq_iff_eq, beq_iff_eq]
      constructor
      · intro h
        rcases Int.mul_eq_zero.mp h with h | h
        · exact absurd h hc
        · exact h
      · intro h
        rw [h, Int.mul_zero]
    rw [this]
theorem gcdL_scale (c : Int) : ∀ xs : List Int, gcdL (xs.map fun x => c * x) = c.natAbs * gcdL xs
  | [] => by simp [gcdL_nil]
  | x :: xs => by
    rw [List.map_cons, gcdL_cons, gcdL_cons, gcdL_scale c xs, Int.natAbs_mul, Nat.gcd_mul_left]
/-- what is so many times a tuple with no common divisor -/
theorem shortL_scale {c : Int} (hc : c ≠ 0) {xs : List Int} (h : ∃ x ∈ xs, x ≠ 0) : shortL (xs.map fun x => c * x) = (shortL xs).map fun y => (if 0 < c then 1 else -1) * y := by
  obtain ⟨g0, e⟩ := shortL_mul xs h
  obtain ⟨x, hx, hx0⟩ := h
  obtain ⟨g1, e1⟩ := shortL_mul (xs.map fun x => c * x) ⟨c * x, List.mem_map.mpr ⟨x, hx, rfl⟩, fun z => by
    rcases Int.mul_eq_zero.mp z with z | z
    · exact hc z
    · exact hx0 z⟩
  apply List.ext_getElem?
  intro i
  have ei : xs[i]? = ((shortL xs).map fun y => (gcdL xs : Int) * y)[i]? := by rw [← e]
  have e1i : (xs.map fun x => c * x)[i]? = ((shortL (xs.map fun x => c * x)).map fun y => (gcdL (xs.map fun x => c * x) : Int) * y)[i]? := by rw [← e1]
  rw [List.getElem?_map] at ei e1i
  rw [List.getElem?_map] at e1i
  rw [ei, gcdL_scale] at e1i
  rw [List.getElem?_map]
  cases hs : (shortL xs)[i]? with
  | none =>
    rw [hs] at e1i
    cases ht : (shortL (xs.map fun x => c * x))[i]? with
    | none => rfl
    | some t => rw [ht] at e1i; cases e1i
  | some s =>
    rw [hs] at e1i
    cases ht : (shortL (xs.map fun x => c * x))[i]? with
    | none => rw [ht] at e1i; cases e1i
    | some t =>
      rw [ht] at e1i
      have q : c * ((gcdL xs : Int) * s) = ((c.natAbs * gcdL xs : Nat) : Int) * t := by simpa using e1i
      show some t = some ((if 0 < c then 1 else -1) * s)
      congr 1
      have gp : (gcdL xs : Int) ≠ 0 := by omega
      rw [Int.natCast_mul] at q
      by_cases hp : 0 < c
      · rw [if_pos hp, Int.one_mul]
        rw [show ((c.natAbs : Nat) : Int) = c by omega, Int.mul_assoc] at q
        exact (Int.eq_of_mul_eq_mul_left gp (Int.eq_of_mul_eq_mul_left hc q)).symm
      · rw [if_neg hp]
        rw [show ((c.natAbs : Nat) : Int) = -c by omega, Int.neg_mul, Int.neg_mul, ← Int.mul_neg, Int.mul_assoc] at q
        have q2 := Int.eq_of_mul_eq_mul_left hc q
        have := Int.eq_of_mul_eq_mul_left gp q2
        omega
theorem lead_row {row : List Int} {p : Nat} (hp : lead row.dropLast = some p) : ∃ x, row[p]? = some x ∧ x ≠ 0 := by
  obtain ⟨x, hx, hx0⟩ := lead_get hp
  refine ⟨x, ?_, hx0⟩
  rw [List.getElem?_dropLast] at hx
  split at hx
  · exact hx
  · cases hx
theorem short_at {row : List Int} {p : Nat} (hp : lead row.dropLast = some p) : ∃ y, (shortL row)[p]? = some y ∧ y ≠ 0 := by
  obtain ⟨x, hx, hx0⟩ := lead_row hp
  obtain ⟨g0, e⟩ := shortL_mul row ⟨x, List.mem_of_getElem? hx, hx0⟩
  rw [e, List.getElem?_map] at hx
  cases hy : (shortL row)[p]? with
  | none => rw [hy] at hx; cases hx
  | some y =>
    rw [hy] at hx
    refine ⟨y, rfl, fun h => ?_⟩
    subst h
    cases hx
    exact hx0 (Int.mul_zero _)
theorem planeL_some {row : List Int} {p : Nat} (hp : lead row.dropLast = some p) : ∃ y, (shortL row)[p]? = some y ∧ y ≠ 0 ∧ planeL row = some (if y < 0 then (shortL row).map (fun x => -x) else shortL row) := by
  obtain ⟨y, hy, hy0⟩ := short_at hp
  refine ⟨y, hy, hy0, ?_⟩
  unfold planeL
  rw [hp]
  show some (if (shortL row).getD p 0 < 0 then _ else _) = _
  rw [List.getD_eq_getElem?_getD, hy] <;> rfl
theorem planeL_scale {c : Int} (hc : c ≠ 0) (row : List Int) : planeL (row.map fun x => c * x) = planeL row := by
  have hl : lead (row.map fun x => c * x).dropLast = lead row.dropLast := by
    rw [← List.map_dropLast, lead_scale hc]
  cases hp : lead row.dropLast with
  | none =>
    unfold planeL
    rw [hl, hp]
  | some p =>
    obtain ⟨x, hx, hx0⟩ := lead_row hp
    obtain ⟨y, hy, hy0, e⟩ := planeL_some hp
    obtain ⟨z, hz, hz0, e2⟩ := planeL_some (hl.trans hp)
    have sc := shortL_scale hc ⟨x, List.mem_of_getElem? hx, hx0⟩
    rw [e, e2]
    rw [sc, List.getElem?_map, hy] at hz
    have hz : (if 0 < c then 1 else -1) * y = z := by simpa using hz
    rw [sc]
    congr 1
    by_cases hp : 0 < c
    · rw [if_pos hp] at hz
      have : z = y := by omega
      subst this
      rw [if_pos hp, show (fun y : Int => 1 * y) = id from funext fun y => Int.one_mul y, List.map_id]
    · rw [if_neg hp] at hz
      have : z = -y := by omega
      subst this
      rw [if_neg hp, show (fun y : Int => -1 * y) = (fun y => -y) from funext fun y => by omega, List.map_map, show ((fun x : Int => -x) ∘ fun y : Int => -y) = id from funext fun y => Int.neg_neg y, List.map_id]
      by_cases hy' : y < 0
      · rw [if_pos hy', if_neg (by omega)]
      · rw [if_neg hy', if_pos (by omega)]
/-- a row is so many times its plane -/
theorem plane_times {row pl : List Int} (h : planeL row = some pl) : ∃ c : Int, c ≠ 0 ∧ row = pl.map fun x => c * x := by
  cases hp : lead row.dropLast with
  | none =>
    unfold planeL at h
    rw [hp] at h
    cases h
  | some p =>
    obtain ⟨x, hx, hx0⟩ := lead_row hp
    obtain ⟨y, hy, hy0, e⟩ := planeL_some hp
    obtain ⟨g0, e1⟩ := shortL_mul row ⟨x, List.mem_of_getElem? hx, hx0⟩
    rw [e] at h
    cases h
    by_cases hy' : y < 0
    · rw [if_pos hy']
      refine ⟨-(gcdL row : Int), by omega, ?_⟩
      rw [List.map_map]
      conv => lhs; rw [e1]
      apply List.map_congr_left
      intro z _
      show (gcdL row : Int) * z = -(gcdL row : Int) * -z
      rw [Int.neg_mul_neg]
    · rw [if_neg hy']
      exact ⟨gcdL row, by omega, e1⟩
theorem planeL_self {row pl : List Int} (h : planeL row = some pl) : planeL pl = some pl := by
  obtain ⟨c, hc, e⟩ := plane_times h
  rw [← planeL_scale hc pl, ← e]
  exact h
theorem planeL_len {row pl : List Int} (h : planeL row = some pl) : pl.length = row.length := by
  obtain ⟨c, hc, e⟩ := plane_times h
  rw [e, List.length_map]
theorem planeL_bits {row pl : List Int} {n : Nat} (h : planeL row = some pl) (hb : BitsL n row) : BitsL n pl := by
  obtain ⟨c, hc, e⟩ := plane_times h
  intro x hx
  refine (hb (c * x) (by rw [e]; exact List.mem_map.mpr ⟨x, hx, rfl⟩)).le ?_
  rw [Int.natAbs_mul]
  exact Nat.le_mul_of_pos_left _ (by omega)
theorem dot_scale (c : Int) : ∀ xs ys : List Int, dot (xs.map fun x => c * x) ys = c * dot xs ys
  | [], _ => by simp [dot]
  | _ :: _, [] => by simp [dot]
  | x :: xs, y :: ys => by
    have ih := dot_scale c xs ys
    unfold dot at ih ⊢
    rw [List.map_cons, List.zipWith_cons_cons, List.zipWith_cons_cons, List.sum_cons, List.sum_cons, ih, Int.mul_add, Int.mul_assoc]
theorem dot_nil (ys : List Int) : dot [] ys = 0 := rfl
theorem dot_cons (x y : Int) (xs ys : List Int) : dot (x :: xs) (y :: ys) = x * y + dot xs ys := by
  unfold dot
  rw [List.zipWith_cons_cons, List.sum_cons]
theorem dot_comm (xs ys : List Int) : dot xs ys = dot ys xs := by
  unfold dot
  rw [List.zipWith_comm]
  congr 1
  congr 1
  funext a b
  exact Int.mul_comm _ _
theorem dot_zero {row pl pt : List Int} (h : planeL row = some pl) : (sgn (dot pl pt) == 0) = (dot row pt == 0) := by
  obtain ⟨c, hc, e⟩ := plane_times h
  have e2 : dot row pt = c * dot pl pt := by
    conv => lhs; rw [e]
    exact dot_scale c pl pt
  rw [Bool.eq_iff_iff, beq_iff_eq, beq_iff_eq, e2]
  unfold sgn
  constructor
  · intro h
    split at h
    · cases h
    · split at h
      · cases h
      · rw [show dot pl pt = 0 by omega, Int.mul_zero]
  · intro h
    rcases Int.mul_eq_zero.mp h with h | h
    · exact absurd h hc
    · rw [h] <;> rfl
/-- a row at a point moved on -/
theorem dot_moved (l b : Int) : ∀ (ns ws : List Int) (rs : List Int) (r : Int), ns.length = ws.length → rs.length = ns.length →
    dot (rs ++ [r]) (List.zipWith (fun n s => n * 2 + s * 1 * l) ns ws ++ [l * 2]) = 2 * dot (rs ++ [r]) (ns ++ [l]) + l * dot rs ws
  | [], [], [], r, _, _ => by
    show dot [r] [l * 2] = 2 * dot [r] [l] + l * dot [] []
    rw [dot_cons, dot_cons, dot_nil]
    show r * (l * 2) + dot [] [] = 2 * (r * l + 0) + l * dot [] []
    rw [dot_nil]
    grind
  | n :: ns, s :: ws, x :: rs, r, h1, h2 => by
    have ih := dot_moved l b ns ws rs r (by simpa using h1) (by simpa using h2)
    rw [List.zipWith_cons_cons, List.cons_append, List.cons_append, List.cons_append, dot_cons, dot_cons, dot_cons, ih]
    grind
  | [], _ :: _, _, _, h, _ => by simp at h
  | _ :: _, [], _, _, h, _ => by simp at h
  | [], [], _ :: _, _, _, h => by simp at h
  | _ :: _, _ :: _, [], _, _, h => by simp at h
theorem fracL_two {t b : Int} (hb : 0 < b) : ∃ u v g : Int, fracL t b = [u, v] ∧ 0 < g ∧ t = g * u ∧ b = g * v := by
  unfold fracL
  rw [if_pos hb]
  obtain ⟨g0, e⟩ := shortL_mul [t, b] ⟨b, by simp, by omega⟩
  have hl := shortL_len [t, b]
  match h : shortL [t, b], hl with
  | [u, v], _ =>
    rw [h] at e
    refine ⟨u, v, gcdL [t, b], rfl, by omega, ?_, ?_⟩
    · exact (List.cons.inj e).1
    · exact (List.cons.inj (List.cons.inj e).2).1
end Zj
/-! Exceptions as data: what raises, what a block comes to that may raise, defs that may. -/
namespace Zj
open PySem PySem.Spec PyProof.Rows L2
/-- an exception: the name of its class, its fields -/
structure Exc where
  c : Str
  fs : List (Str × PyData)
/-- what a call comes to -/
inductive Out where
  | ok (d : PyData)
  | ex (x : Exc)
variable [Nm]
def ExD (K : PySem.W.Frag) (mg : Str → Option Value) (H : Hp) (x : Exc) (cls : Value) (d : Option Addr) : Prop :=
  ∃ C : Addr, mg x.c = some (.ref C) ∧ cls = .ref C ∧ ∀ p ∈ x.fs, ∃ (dd : Addr) (fs : List (Str × V)) (v : V), d = some dd ∧ H dd = some (.xd fs) ∧ fs.lookup p.1 = some v ∧ Dp K H v p.2
theorem exd_sa {K : PySem.W.Frag} {mg : Str → Option Value} {H H' : Hp} {x : Exc} {cls : Value} {d : Option Addr} (s : Sa H H') (h : ExD K mg H x cls d) : ExD K mg H' x cls d := by
  obtain ⟨C, h1, h2, h3⟩ := h
  refine ⟨C, h1, h2, fun p hp => ?_⟩
  obtain ⟨dd, fs, v, g1, g2, g3, g4⟩ := h3 p hp
  exact ⟨dd, fs, v, g1, s _ _ g2 (by intro ps z; cases z), g3, dp_same s g4⟩
section
variable {X : Cx} {a : Addr} {ρ : Rho}
/-- it raises x -/
def EvX (X : Cx) (a : Addr) (e : Expr) (ρ : Rho) (x : Exc) : Prop := ∀ W : WX, Takes X W → ∀ T σ H, SD X.K a T H σ ρ → (∀ cls d H2, Sm H H2 → ExD X.K X.mg (off T H2) x cls d → W cls d σ H2) → ∀ Q : VK, JE X e σ H Q
/-- a def that keeps all: R tells of the arguments what comes of them -/
def spX (K : PySem.W.Frag) (mg : Str → Option Value) (R : List PyData → Out → Prop) : Sp := fun vs H Q E => ∃ T ds o, Din T H ∧ DpAll K (off T H) vs ds ∧ R ds o ∧ (∀ v H' d, o = .ok d → Sm H H' → Dp K (off T H') v d → Q v H') ∧
  ∀ cls dd H' x, o = .ex x → Sm H H' → ExD K mg (off T H') x cls dd → E cls dd H'
structure CalX (P : Program) (w : World) (K : PySem.W.Frag) (mg : Str → Option Value) (base : Heap) (k : Nat) (x : Str) (ps : List Str) (sp : Sp) : Prop where
  ex : ∃ f fd, FnOk P w K mg base (L2.CX P w) k f fd ps sp ∧ mg x = some (.ref f) ∧ PySem.W.keepIn K (.ref f) = true ∧ Binds K fd ps []
variable {e : Expr} {es : List Expr} {pos p : Pos} {d : PyData} {ds : List PyData} {k : Nat} {f : Str} {ps : List Str} {R : List PyData → Out → Prop} {x : Exc}
theorem e_callX (C : CalX X.prog X.w X.K X.mg X.base k f ps (spX X.K X.mg R)) (hr : Room k X.A) (ha : EvA X a (e :: es) ρ ds) (hR : R ds (.ok d))
    (hg : Gl X f := by rfl) (hdb : (f == ("__debug__" : Str)) = false := by decide) (he : starEach (e :: es) X.env = (false, eval e X.env) :: starEach es X.env := by exact star_of rfl) (hpl : (backTo pos (starEach es X.env)).any (·.1) = false := by exact star_no rfl) :
    EvE X a (.Call (.Name f p) (e :: es) [] pos) ρ d := fun T σ H S Q q => by
  obtain ⟨fa, fd, F, hm, hk, hb⟩ := C.ex
  refine toE (pe_call F hr hg hm hk hb (ds := []) (dvs := []) .nil passL ja hdb he hpl) (ha T σ H S _ fun vs H1 s1 p1 => ?_)
  rw [List.append_nil]
  exact ⟨T, ds, .ok d, S.dm.same s1, p1, hR, fun v H2 d' e' s2 p2 => by cases e'; exact q v H2 (s1.trans s2) p2, fun _ _ _ _ e' => by cases e'⟩
theorem x_call (C : CalX X.prog X.w X.K X.mg X.base k f ps (spX X.K X.mg R)) (hr : Room k X.A) (ha : EvA X a (e :: es) ρ ds) (hR : R ds (.ex x))
    (hg : Gl X f := by rfl) (hdb : (f == ("__debug__" : Str)) = false := by decide) (he : starEach (e :: es) X.env = (false, eval e X.env) :: starEach es X.env := by exact star_of rfl) (hpl : (backTo pos (starEach es X.env)).any (·.1) = false := by exact star_no rfl) :
    EvX X a (.Call (.Name f p) (e :: es) [] pos) ρ x := fun W tk T σ H S q Q => by
  obtain ⟨fa, fd, F, hm, hk, hb⟩ := C.ex
  refine toE (pe_callS (E := WE W) F hr hg hm hk hb (fun σ => passAt tk σ) ja hdb he hpl) (ha T σ H S _ fun vs H1 s1 p1 => ?_)
  exact ⟨T, ds, .ex x, S.dm.same s1, p1, hR, (fun _ _ _ e' => by cases e'), fun cls dd H' x' e' s2 h => by cases e'; exact q cls dd H' (s1.trans s2) h⟩

/-! calls by names alone -/
structure CalXK (P : Program) (w : World) (K : PySem.W.Frag) (mg : Str → Option Value) (base : Heap) (k : Nat) (x : Str) (st : Stmt) (ps : List Str) (sp : Sp) : Prop where
  ex : ∃ f fd, Fun K x x st f fd ∧ FnOk P w K mg base (L2.CX P w) k f fd ps sp ∧ mg x = some (.ref f)
theorem je_callK {CX : CXT} {sp : Sp} {ks : List Str} {fa : Addr} {fd : FuncData} {E : XK} {σ : L2.St} {H : Hp} {Q : VK} {kws : List Keyword} {g : List Value → List Value → List Value} {gV : List V → List V → List V} (F : FnOk X.prog X.w X.K X.mg X.base CX k fa fd ps sp) (hr : Room k X.A) (hg : Gl X f) (hm : X.mg f = some (.ref fa)) (hk : PySem.W.keepIn X.K (.ref fa) = true)
    (hb : KBinds X.K fd ps ks g gV) (hx : PassesAt CX X σ E) (hall : (backToKw pos (keywordEach kws X.env)).all (·.1.isSome) = true) (hks : (backToKw pos (keywordEach kws X.env)).filterMap (·.1) = ks) (hdb : (f == ("__debug__" : Str)) = false)
    (hpl : ((backTo pos (starEach [] X.env)).any (·.1) || (backToKw pos (keywordEach kws X.env)).any (·.1.isNone)) = false) (h : JK X kws σ H (fun zs H2 => sp (gV [] zs) H2 Q E)) : JE X (.Call (.Name f p) [] kws pos) σ H Q := fun pins s I => by
  refine wpAny_Call_Name_kw (ld_glob I hg hm ?_ hdb)
  refine PySem.W.callWith_KW0 (h₀ := X.base) I.ok.mod.kin hk hall (thn (h pos pins s I) fun ws s2 ⟨zs, H2, I2, rz, q2⟩ => ⟨I2.kIn, ?_⟩) hpl
  rw [hks]
  have r2 := hb.rel (vs := []) (us := []) .nil rz
  have l2 : (g [] ws).length = ps.length := by rw [← r2.length]; exact F.len _ _ _ _ q2
  refine wpAny_call (codeAny_mono (F.run X.A X.stack s2 H2 ⟨[], ks.zip ws⟩ (g [] ws) (gV [] zs) Q E hr I2.env0 (hb.to s2 [] ws I2.kIn l2) r2 q2) fun res s3 hq => ?_)
  match res, hq with
  | .error er, hq => exact hx pins H2 s2 er s3 I2 hq
  | .ok (.ret u), hq => exact I2.after hq
  | .ok .next, hq => exact False.elim hq
  | .ok .brk, hq => exact False.elim hq
  | .ok .cont, hq => exact False.elim hq
theorem kb_of {P : Program} {w : World} {K : PySem.W.Frag} {st : Stmt} {ks : List Str} {fa : Addr} {fd : FuncData} (fl : Bool) (hne : ps ≠ []) (F : Fun K f f st fa fd)
    (hb : ∀ (kV doc pm : Value) (an : Option Addr) (cdv ct : Value) (ws : List Value), ws.length = ps.length → bindArgs (PySem.W.fnOf f f (defArgs st) (defBody st) (defScope st) .none kV doc pm an cdv ct) ⟨[], ks.zip ws⟩ = pure (ps.zip (turn2 fl ws))) : KBinds K fd ps ks (gK fl) (gK fl) := by
  obtain ⟨oc, od, kV, doc, pm, an, cdv, ct, osl, rfl, lk, hcd⟩ := F.ex
  exact { to := fun s us ws _ hl => by
            cases us with
            | nil => exact .of_eq (hb kV doc pm an cdv ct ws (by rw [← hl]; exact (turn2_len ws).symm))
            | cons u us =>
              cases ps with
              | nil => exact (hne rfl).elim
              | cons _ _ => cases hl
          rel := fun {vs us zs ws} r rz => by
            cases r with
            | nil => exact turn2_vals rz
            | cons _ _ => exact .nil }
variable {kws : List Keyword} {ks : List Str} {st : Stmt}
theorem e_callXK (fl : Bool) (hne : ps ≠ []) (C : CalXK X.prog X.w X.K X.mg X.base k f st ps (spX X.K X.mg R)) (hr : Room k X.A) (ha : EvK X a kws ρ ds) (hR : R (turn2 fl ds) (.ok d))
    (hb : ∀ (kV doc pm : Value) (an : Option Addr) (cdv ct : Value) (ws : List Value), ws.length = ps.length → bindArgs (PySem.W.fnOf f f (defArgs st) (defBody st) (defScope st) .none kV doc pm an cdv ct) ⟨[], ks.zip ws⟩ = pure (ps.zip (turn2 fl ws)))
    (hg : Gl X f := by rfl) (hall : (backToKw pos (keywordEach kws X.env)).all (·.1.isSome) = true := by rfl) (hks : (backToKw pos (keywordEach kws X.env)).filterMap (·.1) = ks := by rfl)
    (hdb : (f == ("__debug__" : Str)) = false := by decide) (hpl : ((backTo pos (starEach [] X.env)).any (·.1) || (backToKw pos (keywordEach kws X.env)).any (·.1.isNone)) = false := by rfl) :
    EvE X a (.Call (.Name f p) [] kws pos) ρ d := fun T σ H S Q q => by
  obtain ⟨fa, fd, F, FO, hm⟩ := C.ex
  refine je_callK (E := E0) FO hr hg hm F.kp (kb_of (P := X.prog) (w := X.w) fl hne F hb) (fun pins H s e s' I c => passL pins σ H s e s' I c) hall hks hdb hpl (ha T σ H S _ fun vs H1 s1 p1 => ?_)
  exact ⟨T, turn2 fl ds, .ok d, S.dm.same s1, turn2_dps p1, hR, fun v H2 d' e' s2 p2 => by cases e'; exact q v H2 (s1.trans s2) p2, fun _ _ _ _ e' => by cases e'⟩
theorem x_callK (fl : Bool) (hne : ps ≠ []) (C : CalXK X.prog X.w X.K X.mg X.base k f st ps (spX X.K X.mg R)) (hr : Room k X.A) (ha : EvK X a kws ρ ds) (hR : R (turn2 fl ds) (.ex x))
    (hb : ∀ (kV doc pm : Value) (an : Option Addr) (cdv ct : Value) (ws : List Value), ws.length = ps.length → bindArgs (PySem.W.fnOf f f (defArgs st) (defBody st) (defScope st) .none kV doc pm an cdv ct) ⟨[], ks.zip ws⟩ = pure (ps.zip (turn2 fl ws)))
    (hg : Gl X f := by rfl) (hall : (backToKw pos (keywordEach kws X.env)).all (·.1.isSome) = true := by rfl) (hks : (backToKw pos (keywordEach kws X.env)).filterMap (·.1) = ks := by rfl)
    (hdb : (f == ("__debug__" : Str)) = false := by decide) (hpl : ((backTo pos (starEach [] X.env)).any (·.1) || (backToKw pos (keywordEach kws X.env)).any (·.1.isNone)) = false := by rfl) :
    EvX X a (.Call (.Name f p) [] kws pos) ρ x := fun W tk T σ H S q Q => by
  obtain ⟨fa, fd, F, FO, hm⟩ := C.ex
  refine je_callK (E := WE W σ) FO hr hg hm F.kp (kb_of (P := X.prog) (w := X.w) fl hne F hb) (passAt tk σ) hall hks hdb hpl (ha T σ H S _ fun vs H1 s1 p1 => ?_)
  exact ⟨T, turn2 fl ds, .ex x, S.dm.same s1, turn2_dps p1, hR, (fun _ _ _ e' => by cases e'), fun cls dd H' x' e' s2 h => by cases e'; exact q cls dd H' (s1.trans s2) h⟩

/-! ### blocks that may raise -/
def RunX (X : Cx) (a : Addr) (sts : List Stmt) (ρ : Rho) (N : Rho → Prop) (R : PyData → Prop) (RX : Exc → Rho → Prop) : Prop := ∀ W : WX, Takes X W → ∀ T σ H D, SD X.K a T H σ ρ → (∀ σ' H' ρ', Sm H H' → SD X.K a T H' σ' ρ' → N ρ' → D.nx σ' H') →
  (∀ v H' d, Sm H H' → Dp X.K (off T H') v d → R d → D.rt v H') → (∀ σ' cls d H' x ρ', Sm H H' → SD X.K a T H' σ' ρ' → ExD X.K X.mg (off T H') x cls d → RX x ρ' → W cls d σ' H') → JSs X sts D σ H
def RunXS (X : Cx) (a : Addr) (st : Stmt) (ρ : Rho) (N : Rho → Prop) (R : PyData → Prop) (RX : Exc → Rho → Prop) : Prop := ∀ W : WX, Takes X W → ∀ T σ H D, SD X.K a T H σ ρ → (∀ σ' H' ρ', Sm H H' → SD X.K a T H' σ' ρ' → N ρ' → D.nx σ' H') →
  (∀ v H' d, Sm H H' → Dp X.K (off T H') v d → R d → D.rt v H') → (∀ σ' cls d H' x ρ', Sm H H' → SD X.K a T H' σ' ρ' → ExD X.K X.mg (off T H') x cls d → RX x ρ' → W cls d σ' H') → JS X st D σ H
variable {stm : Stmt} {sts : List Stmt} {N : Rho → Prop} {RD : PyData → Prop} {RX : Exc → Rho → Prop}
theorem x_nil (h : N ρ) : RunX X a [] ρ N RD RX := fun W tk T σ H D S kn kr kx => toSs pss_nil (kn σ H ρ (Sm.refl H) S h)
theorem x_cons (h : RunXS X a stm ρ (fun ρ' => RunX X a sts ρ' N RD RX) RD RX) : RunX X a (stm :: sts) ρ N RD RX := fun W tk T σ H D S kn kr kx =>
  toSs (pss_cons js jss) (h W tk T σ H { D with nx := fun σ' H' => JSs X sts D σ' H' } S (fun σ' H' ρ' s S' hN => hN W tk T σ' H' D S' (fun σ2 H2 ρ2 s2 S2 n2 => kn σ2 H2 ρ2 (s.trans s2) S2 n2) (fun v H2 d s2 p r => kr v H2 d (s.trans s2) p r)
    fun σ2 cls d H2 x ρ2 s2 S2 p r => kx σ2 cls d H2 x ρ2 (s.trans s2) S2 p r) kr kx)
theorem x_one (h : RunXS X a stm ρ N RD RX) : RunX X a [stm] ρ N RD RX := fun W tk T σ H D S kn kr kx => toSs (pss_one js) (h W tk T σ H D S kn kr kx)
theorem xs_of (h : RunS X a stm ρ N RD) : RunXS X a stm ρ N RD RX := fun W tk T σ H D S kn kr kx => h T σ H D S kn kr
theorem x_of (h : Run X a sts ρ N RD) : RunX X a sts ρ N RD RX := fun W tk T σ H D S kn kr kx => h T σ H D S kn kr
theorem xs_ret (h : EvX X a e ρ x) (hr : RX x ρ) : RunXS X a (.Return (some e) pos) ρ N RD RX := fun W tk T σ H D S kn kr kx => toS (ps_ret je) (h W tk T σ H S (fun cls d H2 s p => kx σ cls d H2 x ρ s (S.same s) p hr) _)
theorem xs_expr (h : EvX X a e ρ x) (hr : RX x ρ) (hs : swapsWith e none pos.line X.env = pure false := by rfl) : RunXS X a (.Expr e pos) ρ N RD RX := fun W tk T σ H D S kn kr kx => toS (ps_expr je hs) (h W tk T σ H S (fun cls d H2 s p => kx σ cls d H2 x ρ s (S.same s) p hr) _)
theorem xs_set {i : Nat} {y : Str} {pos' : Pos} (G : Good X) (h : EvX X a e ρ x) (hr : RX x ρ) (hi : X.N[i]? = some y := by rfl) (hy : Loc X.env.scope y := by first | exact Or.inl rfl | exact Or.inr rfl)
    (hs : swapsWith e (some (.Name y pos')) pos.line X.env = pure false := by rfl) (hf : X.fn y = true ∨ X.env.scope.names.lookup y = some .local := by first | exact .inl rfl | exact .inr rfl) : RunXS X a (.Assign [.Name y pos'] e pos) ρ N RD RX := fun W tk T σ H D S kn kr kx =>
  toS (ps_set G.nd hi hy je hs hf) (h W tk T σ H S (fun cls d H2 s p => kx σ cls d H2 x ρ s (S.same s) p hr) _)
theorem xs_if {c : Expr} {b : Bool} {body orelse : List Stmt} (hc : EvT X a c ρ b) (h1 : b = true → RunX X a body ρ N RD RX) (h2 : b = false → RunX X a orelse ρ N RD RX) : RunXS X a (.If c body orelse pos) ρ N RD RX := fun W tk T σ H D S kn kr kx =>
  toS (ps_if jt jss jss) (hc T σ H S _ fun H1 s1 => by
    have go : ∀ {l : List Stmt}, RunX X a l ρ N RD RX → JSs X l D σ H1 := fun h => h W tk T σ H1 D (S.same s1) (fun σ2 H2 ρ2 s2 S2 n2 => kn σ2 H2 ρ2 (s1.trans s2) S2 n2) (fun v H2 d s2 p r => kr v H2 d (s1.trans s2) p r) fun σ2 cls d H2 x ρ2 s2 S2 p r => kx σ2 cls d H2 x ρ2 (s1.trans s2) S2 p r
    cases b with
    | true => exact iteT (go (h1 rfl))
    | false => exact iteF (go (h2 rfl)))

/-! ### raise -/
def JMk (X : Cx) (e : Expr) (σ : L2.St) (H : Hp) (Q : XK) : Prop := ∀ pins s, Inv X pins σ H s → wpAny (model X.prog X.w) X.A (eval e X.env) (MkP X pins σ Q) X.xe s
theorem jmk : PMk X e (JMk X e) := fun pins s σ H Q I h => h pins s I
theorem toMk {t : L2.St → Hp → XK → Prop} {σ : L2.St} {H : Hp} {Q : XK} (h : PMk X e t) (q : t σ H Q) : JMk X e σ H Q := fun pins s I => h pins s σ H Q I q
/-- it makes the exception x -/
def EvMk (X : Cx) (a : Addr) (e : Expr) (ρ : Rho) (x : Exc) : Prop := ∀ T σ H, SD X.K a T H σ ρ → ∀ Q : XK, (∀ cls d H2, Sm H H2 → ExD X.K X.mg (off T H2) x cls d → Q cls d H2) → JMk X e σ H Q
theorem xs_raise (G : Good X) (h : EvMk X a e ρ x) (hr : RX x ρ) : RunXS X a (.Raise (some e) none pos) ρ N RD RX := fun W tk T σ H D S kn kr kx =>
  toS (ps_raise G.calm tk jmk) (h T σ H S _ fun cls d H2 s p => kx σ cls d H2 x ρ s (S.same s) p hr)
end

/-! ### a def that may raise, from its block -/
section
variable {P : Program} {w : World} {K : PySem.W.Frag} {mg : Str → Option Value} {base : Heap}
theorem fnX {x qual : Str} {st : Stmt} {f : Addr} {fd : FuncData} {N ps : List Str} {k : Nat} {R : List PyData → Out → Prop} (F : Fun K x qual st f fd) (S : FnScope N ps (defScope st)) (hl : ∀ ds o, R ds o → ds.length = ps.length)
    (hb : ∀ (cdv : Value) (A : Around) (outer : List Env) (s : Shared) (H : Hp) (E : XK), Good (cxOf (L2.CX P w) P w K mg base N qual (defScope st) f cdv A outer s H E) → Room k (cxOf (L2.CX P w) P w K mg base N qual (defScope st) f cdv A outer s H E).A → ∀ ds o, R ds o →
      RunX (cxOf (L2.CX P w) P w K mg base N qual (defScope st) f cdv A outer s H E) 0 (defBody st) (dats ds ++ List.replicate (N.length - ds.length) none) (fun _ => o = .ok .none) (fun d => o = .ok d) (fun x' _ => o = .ex x')) : FnOk P w K mg base (L2.CX P w) (k + 1) f fd ps (spX K mg R) :=
  F.okX S (fun vs H Q E h => by
    obtain ⟨T, ds, o, _, h1, h2, _⟩ := h
    rw [dps_len h1]
    exact hl ds o h2) fun cdv A outer s H vs Q E hr h => by
    obtain ⟨T, ds, o, dm, h1, h2, h3, h4⟩ := h
    refine ⟨_, jss, hb cdv A outer s H E ⟨S.nd, rfl, passes_of rfl, hr.units⟩ hr ds o h2 _ (takes_of (E := E) rfl rfl rfl rfl) T _ H _ (SD.start dm h1) (fun σ' H' ρ' s1 S1 e => ?_) (fun v H' d' s1 p e => ?_) fun σ' cls d H' x' ρ' s1 S1 p e => ?_⟩
    · exact h3 _ H' _ e s1 .non
    · exact h3 v H' d' e s1 p
    · exact h4 cls d H' x' e s1 p
end
end Zj
/-! Own exceptions made; tries with several clauses, named or not; a def that hears what a lambda tells. -/
namespace Zj
open PySem PySem.Spec PyProof.Rows L2
variable [Nm]
/-! ### own exceptions that keep their arguments -/
/-- an __init__ that keeps its arguments under the parameters' names -/
def spI (K : PySem.W.Frag) (ps : List Str) : Sp := fun vs H Q _ => ∃ (a C : Addr) (ys : List V), vs = .ref a :: ys ∧ ys.length = ps.length ∧ OexC K C ∧ H a = some (exo a C none) ∧ (∀ f ∈ ps, PySem.W.findIn K (.ref C) f = some none) ∧
  ∀ (dx : Addr) (fs : List (Str × V)), H dx = none → dx ≠ a → (∀ p ∈ ps.zip ys, fs.lookup p.1 = some p.2) → Q .non (upd (upd H dx (exd dx fs)) a (exo a C (some dx)))
structure ClsI (P : Program) (w : World) (K : PySem.W.Frag) (mg : Str → Option Value) (base : Heap) (k : Nat) (x : Str) (ps : List Str) : Prop where
  ex : ∃ C fI fd, mg x = some (.ref C) ∧ OexC K C ∧ PySem.W.findIn K (.ref C) "__init__" = some (some (.ref fI)) ∧ PySem.W.typeIn K (.ref fI) = some (.type "function") ∧ (∀ f ∈ ps, PySem.W.findIn K (.ref C) f = some none) ∧
    FnOk P w K mg base CX0 k fI fd ("self" :: ps) (spI K ps) ∧ Binds K fd ("self" :: ps) []
theorem zip_dps {K : PySem.W.Frag} {H : Hp} : ∀ {ps : List Str} {vs : List V} {ds : List PyData} {f : Str} {d : PyData}, DpAll K H vs ds → (f, d) ∈ ps.zip ds → ∃ v, (f, v) ∈ ps.zip vs ∧ Dp K H v d
  | [], _, _, _, _, _, h => by simp at h
  | _ :: _, _, [], _, _, _, h => by simp at h
  | p :: ps, vs, d0 :: ds, f, d, hd, h => by
    cases hd with
    | @cons v0 _ vs0 _ h1 h2 =>
      rw [List.zip_cons_cons] at h
      rcases List.mem_cons.mp h with e | e
      · cases e
        exact ⟨v0, by rw [List.zip_cons_cons]; exact List.mem_cons_self, h1⟩
      · obtain ⟨v, g1, g2⟩ := zip_dps h2 e
        exact ⟨v, by rw [List.zip_cons_cons]; exact List.mem_cons_of_mem _ g1, g2⟩
section
variable {X : Cx} {a : Addr} {ρ : Rho} {e : Expr} {es : List Expr} {ds : List PyData} {k : Nat} {x : Str} {ps : List Str} {p pos : Pos}
theorem mk_init (C : ClsI X.prog X.w X.K X.mg X.base k x ps) (hr : Room (k + 1) X.A) (ha : EvA X a (e :: es) ρ ds) (hl : ds.length = ps.length) (hz : ds.length ≤ 1000) (hg : Gl X x := by rfl)
    (hdb : (x == ("__debug__" : Str)) = false := by decide) (he : starEach (e :: es) X.env = (false, eval e X.env) :: starEach es X.env := by exact star_of rfl) (hpl : (backTo pos (starEach es X.env)).any (·.1) = false := by exact star_no rfl) :
    EvMk X a (.Call (.Name x p) (e :: es) [] pos) ρ ⟨x, ps.zip ds⟩ := fun T σ H S Q q => by
  obtain ⟨C, fI, fd, hm, hO, hi, ht, hn, F, hb⟩ := C.ex
  refine toMk (pmk_oex hO hi ht F hr hb (ds := []) (dvs := []) .nil pass0 hg hm ja hdb he hpl) (ha T σ H S _ fun vs H1 s1 p1 => ?_)
  have lv := dps_len p1
  refine ⟨by rw [lv]; exact hz, fun a' na => ?_⟩
  rw [List.append_nil]
  refine ⟨a', C, vs, rfl, by rw [lv]; exact hl, hO, upd_same, hn, fun dx fs hdx hne hfs => ⟨rfl, dx, fs, upd_same, (upd_ne hne).trans upd_same, ?_, ?_⟩⟩
  · rw [upd_ne hne] at hdx
    exact hdx
  · rw [upd_ne hne] at hdx
    have eq : upd (del (upd (upd (upd H1 a' (exo a' C none)) dx (exd dx fs)) a' (exo a' C (some dx))) a') dx (.xd fs) = upd H1 dx (.xd fs) := by
      funext b
      by_cases hb1 : b = dx
      · rw [hb1, upd_same, upd_same]
      · rw [upd_ne hb1, upd_ne hb1]
        by_cases hb2 : b = a'
        · rw [hb2, del_same, na]
        · rw [del_ne hb2, upd_ne hb2, upd_ne hb1, upd_ne hb2]
    rw [eq]
    refine q _ _ _ (s1.trans (same_new hdx)) ⟨C, hm, rfl, fun pr hpr => ?_⟩
    obtain ⟨v, g1, g2⟩ := zip_dps (f := pr.1) (d := pr.2) p1 hpr
    have hd := S.dm.same s1
    refine ⟨dx, fs, v, rfl, ?_, hfs _ g1, dpo (same_new hdx) g2⟩
    rw [off_new hd hdx, upd_same]
/-- a class without arguments, without __init__ -/
structure ClsP (K : PySem.W.Frag) (mg : Str → Option Value) (x : Str) : Prop where
  ex : ∃ (C : Addr) (B newId initId : String) (bmB : List Value), mg x = some (.ref C) ∧ ExcBaseFacts B newId initId bmB ∧ PySem.W.excIn K C bmB newId = true ∧ PySem.W.keepIn K (.ref C) = true ∧
    PySem.W.subIn K (.ref C) (.type "BaseException") = some true ∧ PySem.W.typeIn K (.ref C) = some (.type "type")
theorem mk_plain (C : ClsP X.K X.mg x) (hg : Gl X x := by rfl) (hdb : (x == ("__debug__" : Str)) = false := by decide) : EvMk X a (.Call (.Name x p) [] [] pos) ρ ⟨x, []⟩ := fun T σ H S Q q pins s I => by
  obtain ⟨C, B, newId, initId, bmB, hm, F, hE, hk, hs, ht⟩ := C.ex
  refine wpAny_Call_Name_kw (ld_glob I hg hm ?_ hdb)
  refine PySem.W.callWith_K0 I.kIn hk ?_
  obtain ⟨bm, N, nm, qn, bs, hdct, sn, sub, ab, col, dd, k0, k1, k2, k3, k5, mN, o1, o2, o3, T0⟩ := exc_obj I.kIn hE
  refine wpAny_call_exc_subT F T0 o1 o2 o3 (fun h' e' hm' => ?_) (Nat.zero_le _)
  exact mk_of I hm' (raises_own hs ht) (q _ none H (Sm.refl H) ⟨C, hm, rfl, fun pr hpr => by cases hpr⟩) (I.hok.gone hm'.new)
end
section
variable {P : Program} {w : World} {K : PySem.W.Frag} {mg : Str → Option Value} {base : Heap}
/-- def __init__(self, f): self.f = f -/
theorem init1 {qual : Str} {st : Stmt} {fI : Addr} {fd : FuncData} {f : Str} {p1 p2 p3 p4 : Pos} (F : Fun K "__init__" qual st fI fd) (S : FnScope ["self", f] ["self", f] (defScope st)) (hb : defBody st = [.Assign [.Attribute (.Name "self" p1) f p2] (.Name f p3) p4])
    (h1 : Vis (defScope st) "self") (h2 : Vis (defScope st) f) (hd : (f == ("__debug__" : Str)) = false) (hcd : (f == ("__classdict__" : Str)) = false)
    (hs : ∀ env : Env, swapsWith (.Name f p3) (some (.Attribute (.Name "self" p1) f p2)) p4.line env = pure false) : FnOk P w K mg base CX0 1 fI fd ["self", f] (spI K [f]) := by
  refine F.ok S (fun vs H Q E h => ?_) fun cdv A outer s H vs Q E hr h => ?_
  · obtain ⟨a, C, ys, rfl, hl, _⟩ := h
    rw [List.length_cons, hl] <;> rfl
  · obtain ⟨a, C, ys, rfl, hl, hO, ha, hn, q⟩ := h
    match ys, hl with
    | [y], _ =>
      rw [hb]
      refine ⟨_, pss_one (ps_ost (pe_var (i := 0) rfl h1 (by decide) (by decide)) (pe_var (i := 1) rfl h2 hd hcd) (hs _)), ?_⟩
      refine ⟨_, rfl, _, rfl, a, C, rfl, hO, hn f (by simp), .inl ⟨ha, fun dx n ne => ?_⟩⟩
      exact q dx [(f, y)] n ne fun pr hpr => by
        have hpr : pr = (f, y) := by simpa using hpr
        rw [hpr]
        simp [List.lookup]
/-- def __init__(self, f, g): self.f = f; self.g = g -/
theorem init2 {qual : Str} {st : Stmt} {fI : Addr} {fd : FuncData} {f g : Str} {p1 p2 p3 p4 q1 q2 q3 q4 : Pos} (F : Fun K "__init__" qual st fI fd) (S : FnScope ["self", f, g] ["self", f, g] (defScope st))
    (hb : defBody st = [.Assign [.Attribute (.Name "self" p1) f p2] (.Name f p3) p4, .Assign [.Attribute (.Name "self" q1) g q2] (.Name g q3) q4])
    (h1 : Vis (defScope st) "self") (h2 : Vis (defScope st) f) (h3 : Vis (defScope st) g) (hd : (f == ("__debug__" : Str)) = false) (hcd : (f == ("__classdict__" : Str)) = false) (hd2 : (g == ("__debug__" : Str)) = false) (hcd2 : (g == ("__classdict__" : Str)) = false) (hfg : (f == g) = false)
    (hs : ∀ env : Env, swapsWith (.Name f p3) (some (.Attribute (.Name "self" p1) f p2)) p4.line env = pure false) (hs2 : ∀ env : Env, swapsWith (.Name g q3) (some (.Attribute (.Name "self" q1) g q2)) q4.line env = pure false) : FnOk P w K mg base CX0 1 fI fd ["self", f, g] (spI K [f, g]) := by
  refine F.ok S (fun vs H Q E h => ?_) fun cdv A outer s H vs Q E hr h => ?_
  · obtain ⟨a, C, ys, rfl, hl, _⟩ := h
    rw [List.length_cons, hl] <;> rfl
  · obtain ⟨a, C, ys, rfl, hl, hO, ha, hn, q⟩ := h
    match ys, hl with
    | [y, z], _ =>
      rw [hb]
      refine ⟨_, pss_cons (ps_ost (pe_var (i := 0) rfl h1 (by decide) (by decide)) (pe_var (i := 1) rfl h2 hd hcd) (hs _)) (pss_one (ps_ost (pe_var (i := 0) rfl h1 (by decide) (by decide)) (pe_var (i := 2) rfl h3 hd2 hcd2) (hs2 _))), ?_⟩
      refine ⟨_, rfl, _, rfl, a, C, rfl, hO, hn f (by simp), .inl ⟨ha, fun dx n ne => ?_⟩⟩
      refine ⟨_, rfl, _, rfl, a, C, rfl, hO, hn g (by simp), .inr ⟨dx, [(f, y)], upd_same, (upd_ne ne).trans upd_same, by simp, ?_⟩⟩
      have eq : upd (upd (upd H dx (exd dx [(f, y)])) a (exo a C (some dx))) dx (exd dx [(g, z), (f, y)]) = upd (upd H dx (exd dx [(g, z), (f, y)])) a (exo a C (some dx)) := by
        funext b
        by_cases hb1 : b = dx
        · rw [hb1, upd_same, upd_ne ne, upd_same]
        · rw [upd_ne hb1]
          by_cases hb2 : b = a
          · rw [hb2, upd_same, upd_same]
          · rw [upd_ne hb2, upd_ne hb2, upd_ne hb1, upd_ne hb1]
      show Q V.non (upd (upd (upd H dx (exd dx [(f, y)])) a (exo a C (some dx))) dx (exd dx [(g, z), (f, y)]))
      rw [eq]
      exact q dx [(g, z), (f, y)] n ne fun pr hpr => by
        have hpr : pr = (f, y) ∨ pr = (g, z) := by simpa using hpr
        rcases hpr with hpr | hpr
        · rw [hpr]
          simp [List.lookup, hfg]
        · rw [hpr]
          simp [List.lookup]
end

/-! ### try with clauses, named or not -/
def clr (i : Nat) (D : Ends) : Ends := { nx := fun σ H => D.nx (σ.set i none) H, rt := D.rt, bk := fun σ H => D.bk (σ.set i none) H, ct := fun σ H => D.ct (σ.set i none) H }
/-- a clause: its class, what its suite comes to -/
abbrev Cla := Value × (Addr → Value → Option Addr → TS)
inductive ClaOk (X : Cx) : List ExceptHandler → List Cla → Prop
  | nil : ClaOk X [] []
  | bare {x : Str} {c : Value} {ts : Addr → Value → Option Addr → TS} {b0 : Stmt} {sts : List Stmt} {np hp : Pos} {hds : List ExceptHandler} {l : List Cla} (hc : Names X x c)
      (hsu : ∀ (a : Addr) (oe : Obj) (cls : Value) (d : Option Addr) (pn : List (Addr × Obj)), Zc cls d oe → (∃ vs, oe.data = .fields vs) → PSs (X.suite a ((a, oe) :: pn)) (b0 :: sts) (ts a cls d)) (r : ClaOk X hds l) :
      ClaOk X (.ExceptHandler (some (.Name x np)) none (b0 :: sts) hp :: hds) ((c, ts) :: l)
  | named {x n : Str} {i : Nat} {c : Value} {ts : Addr → Value → Option Addr → TS} {b0 : Stmt} {sts : List Stmt} {np hp : Pos} {hds : List ExceptHandler} {l : List Cla} (hi : X.N[i]? = some n) (hln : X.env.kindOf n = some .local) (hc : Names X x c)
      (hsu : ∀ (a : Addr) (oe : Obj) (cls : Value) (d : Option Addr) (pn : List (Addr × Obj)), Zc cls d oe → (∃ vs, oe.data = .fields vs) → PSs (X.suite a ((a, oe) :: pn)) (b0 :: sts) (ts a cls d)) (r : ClaOk X hds l) :
      ClaOk X (.ExceptHandler (some (.Name x np)) (some n) (b0 :: sts) hp :: hds) ((c, fun a cls d D σ H => ts a cls d (clr i D) (σ.set i (some (.ref a))) H) :: l)
theorem ps_tries {X : Cx} {body : List Stmt} {c0 : ExceptHandler} {cs : List ExceptHandler} {l : List Cla} {tp : Pos} {tb : WX → TS} {Wout : WX} (hst : X.stack = X.env :: X.outer) (hfr : X.env.frame = some X.env.locals) (hN : X.N.Nodup) (tk : Takes X Wout)
    (hb : ∀ (W : WX) (pn : List (Addr × Obj)) (xe : Value → Shared → Prop), Takes (X.tr pn xe) W → PassesOwn (model X.prog X.w) X.A X.env xe → PSs (X.tr pn xe) body (tb W))
    (hh : ClaOk X (c0 :: cs) l) : PS X (.Try body (c0 :: cs) [] [] tp) (fun D σ H => tb (wMany X.K Wout D l) D σ H) := by
  refine ⟨fun pins s σ H D I hyp => ?_⟩
  have hok := I.ok
  have fra : X.A.frames = some (X.env :: X.outer) := by rw [hok.frames, hst]
  refine wpAny_Try_except ?_
  refine wpAny_mono ((hb (wMany X.K Wout D l) (X.pn ++ pins) (fun er s1 => wpAny (model X.prog X.w) X.A (noteFrame er X.env) (fun _ s2 => wpAny (model X.prog X.w) X.A (setFlight er none) (fun _ s3 =>
    wpAny (model X.prog X.w) X.A (handleBy er X.env (c0 :: cs)) (SP X pins D) X.xe s3) X.xe s2) X.xe s1) (fun er s1 hx => ?_) PassesOwn.looking).run [] s σ H D (I.toTry _) hyp) (fun fl s1 hsp => ?_) (fun er s1 hx => hx)
  · obtain ⟨a, B, sI, pins', σ1, H1, cls, d, rfl, J0, nb, up, sky, na, os, ag, w⟩ := hx
    have J : Inv X pins σ1 H1 sI := J0.ofTry hok
    show wpAny (model X.prog X.w) X.A (noteFrame (.ref a) X.env) _ _ _
    refine Sky.land (L := X.env.locals) Zc.steady fra hfr (by rw [← hst]; exact sky) fun h3 g3 up3 => ?_
    have J3 : Inv X pins σ1 H1 { s1 with heap := h3 } := J.landed nb g3.1 (up.trans up3) os ag
    obtain ⟨o3, v3, t1, t2, t3⟩ := g3.there
    have nst : a ∉ frs (X.env :: X.outer) := fun hm => by
      obtain ⟨_, o', z1, z2⟩ := g3.2.2.1.mem hm
      rw [t1] at z1
      cases z1
      exact z2 _ t3
    have nL : a ≠ X.env.locals := fun z => nst (List.mem_filterMap.mpr ⟨X.env, List.mem_cons_self, by rw [hfr, z]⟩)
    have nF : a ∉ X.fs := fun hm => by
      obtain ⟨en, z1, z2⟩ := List.mem_filterMap.mp hm
      exact nst (List.mem_filterMap.mpr ⟨en, List.mem_cons_of_mem _ z1, z2⟩)
    have S3 := J3.suite t1 t3 na nL nF
    have LT : PySem.W.Looks (model X.prog X.w) h3 (typeOf (.ref a)) cls := fun A Q E s k q => wpAny_typeOf_ref (k _ _ t1) (by rw [t2.1]; exact q)
    have test : ∀ {x : Str} {c : Value} {np : Pos} {Q : Value → Shared → Prop} {E : Value → Shared → Prop}, Names X x c → Q c { s1 with heap := h3 } → wpAny (model X.prog X.w) (X.A.mark (some (.ref a))) (eval (.Name x np) X.env) Q E { s1 with heap := h3 } := fun {x c np Q E} hc q => by
      obtain ⟨n1, n2, n3 | ⟨n3, n4, n5⟩⟩ := hc
      · exact ld_glob (X := X.suite a ((a, o3) :: (X.pn ++ pins))) S3 n1 n3 q n2
      · exact ld_blt (X := X.suite a ((a, o3) :: (X.pn ++ pins))) S3 n1 n3 n4 q n5 n2
    have go : ∀ {hds : List ExceptHandler} {ll : List Cla}, ClaOk X hds ll → wMany X.K Wout D ll cls d σ1 H1 → wpAny (model X.prog X.w) X.A (handleBy (.ref a) X.env hds) (SP X pins D) X.xe { s1 with heap := h3 } := by
      intro hds ll hk
      induction hk with
      | nil =>
        intro w
        refine wpAny_handleBy_nil ?_
        obtain ⟨_, _, _, oe, vs, T, oT, ts', y1, _, y3, y4, _⟩ := id g3
        unfold PySem.passOn
        refine wpAny_bind (wpAny_field y1 y3 y4 ?_)
        rw [if_neg (show ¬ ((Value.ref T == Value.none) = true) from by simp)]
        have last : wpAny (model X.prog X.w) X.A (setFlight (.ref a) X.env.frame) (fun _ s4 => wpAny (model X.prog X.w) X.A (throw (.ref a) : Sem Flow) (SP X pins D) X.xe s4) X.xe { s1 with heap := h3 } := by
          rw [hfr]
          refine HandSPX.setFlight_upZ g3 fun h4 g4 up4 => wpAny_throw (tk _ _ ?_)
          exact ⟨a, B, sI, pins, σ1, H1, cls, d, rfl, J, nb, (up.trans up3).trans up4, .inr (.inr (by rw [hst]; exact g4)), na, os, ag, w⟩
        first
          | exact wpAny_bind (wpAny_pure (wpAny_bind last))
          | exact wpAny_bind last
      | @bare x c ts b0 sts np hp hds2 l2 hc hsu r ih =>
        intro w
        obtain ⟨b, w1, w2, w3⟩ := w
        refine wpAny_handleBy_cons (codeAny_handlers_test ?_) (by intro z; cases z)
        refine test hc ((PySem.W.exm_one (M := model X.prog X.w) J3.kIn LT w1).here ?_)
        cases b with
        | false =>
          show wpAny _ X.A (handleBy (.ref a) X.env hds2) _ _ _
          exact ih (w3 rfl)
        | true =>
          refine codeAny_handlers_suite ?_
          refine HandSPX.lands_againZ g3 fun h4 g4 up4 => ?_
          have J4 : Inv X pins σ1 H1 { s1 with heap := h4 } := J.landed nb g4.1 ((up.trans up3).trans up4) os ag
          obtain ⟨o4, v4, u1, u2, u3⟩ := g4.there
          refine wpAny_mono ((hsu a o4 cls d (X.pn ++ pins) u2 ⟨_, u3⟩).run [] _ _ H1 _ (J4.suite u1 u3 na nL nF) (w2 rfl a na)) (fun fl s6 hsp => ?_) (fun _ _ z => False.elim z)
          match fl, hsp with
          | .next, ⟨_, _, S6, q6⟩ => exact ⟨_, _, S6.unsuite hok, q6⟩
          | .brk, ⟨_, _, S6, q6⟩ => exact ⟨_, _, S6.unsuite hok, q6⟩
          | .cont, ⟨_, _, S6, q6⟩ => exact ⟨_, _, S6.unsuite hok, q6⟩
          | .ret u, ⟨_, _, _, S6, r6, q6⟩ => exact ⟨_, _, _, S6.unsuite hok, r6, q6⟩
      | @named x n i c ts b0 sts np hp hds2 l2 hi hln hc hsu r ih =>
        intro w
        obtain ⟨b, w1, w2, w3⟩ := w
        refine wpAny_handleBy_cons (codeAny_handlers_test ?_) (by intro z; cases z)
        refine test hc ((PySem.W.exm_one (M := model X.prog X.w) J3.kIn LT w1).here ?_)
        cases b with
        | false =>
          show wpAny _ X.A (handleBy (.ref a) X.env hds2) _ _ _
          exact ih (w3 rfl)
        | true =>
          refine codeAny_handlers_suite_as ?_
          refine HandSPX.lands_againZ g3 fun h4 g4 up4 => ?_
          have J4 : Inv X pins σ1 H1 { s1 with heap := h4 } := J.landed nb g4.1 ((up.trans up3).trans up4) os ag
          obtain ⟨o4, v4, u1, u2, u3⟩ := g4.there
          refine store_ok (X := X.suite a ((a, o4) :: (X.pn ++ pins))) (v := .ref a) (J4.suite u1 u3 na nL nF) hN hi (.inl hln) rfl (fun s5 S5 => ?_) (.inr hln)
          refine wpAny_mono ((hsu a o4 cls d (X.pn ++ pins) u2 ⟨_, u3⟩).run [] s5 _ H1 _ S5 (w2 rfl a na)) (fun fl s6 hsp => ?_) (fun _ _ z => False.elim z)
          have away : ∀ {σ6 : L2.St} {H6 : Hp} {Q : Shared → Prop}, Inv (X.suite a ((a, o4) :: (X.pn ++ pins))) [] σ6 H6 s6 → (∀ s7, Inv X pins (σ6.set i none) H6 s7 → Q s7) →
              wpAny (model X.prog X.w) X.A (do bindName X.env n .none; unbindBehindTheSuite X.env n hp) (fun _ s7 => Q s7) X.xe s6 := fun {σ6 H6 Q} S6 hq => gone_ok (S6.unsuite hok) hN hi hln hq
          match fl, hsp with
          | .next, ⟨_, _, S6, q6⟩ => exact away S6 fun s7 J7 => ⟨_, _, J7, q6⟩
          | .brk, ⟨_, _, S6, q6⟩ => exact away S6 fun s7 J7 => ⟨_, _, J7, q6⟩
          | .cont, ⟨_, _, S6, q6⟩ => exact away S6 fun s7 J7 => ⟨_, _, J7, q6⟩
          | .ret u, ⟨_, _, _, S6, r6, q6⟩ => exact away S6 fun s7 J7 => ⟨_, _, _, J7, r6, q6⟩
    exact go hh w
  · match fl, hsp with
    | .next, ⟨_, _, J0, q⟩ => exact wpAny_execs_nil ⟨_, _, J0.ofTry hok, q⟩
    | .brk, ⟨_, _, J0, q⟩ => exact ⟨_, _, J0.ofTry hok, q⟩
    | .cont, ⟨_, _, J0, q⟩ => exact ⟨_, _, J0.ofTry hok, q⟩
    | .ret u, ⟨_, _, _, J0, r, q⟩ => exact ⟨_, _, _, J0.ofTry hok, r, q⟩
end Zj
/-! A def that is handed a lambda, calls it, and tells what it came to. -/
namespace Zj
open PySem PySem.Spec PyProof.Rows L2
variable [Nm]
section
variable {X : Cx} {pins : List (Addr × Obj)} {σ : L2.St} {H HZ : Hp} {s : Shared} {scope : Scope} {f c' : Addr}
/-- the lambda is called, by the def that was handed it; at the slots σZ -/
theorem je_act {CXg : CXT} {Eg : XK} {Ng : List Str} {qg : Str} {sg : Scope} {g : Addr} {cdg : Value} {params : Arguments} {body : Expr} {is : List Int} {k i : Nat} {an : Str} {pn : List (Addr × Obj)} {xe : Value → Shared → Prop} {W : WX} {p1 p2 : Pos} {σZ : L2.St} {Q : VK}
    (I : Inv X pins σ H s) (L : LamK X.env.scope scope) (hc : CloAt X H s.heap f c' params body scope is) (hb : LamBind params body scope is)
    (tk : Takes ((cxOf CXg X.prog X.w X.K X.mg X.base Ng qg sg g cdg X.A X.stack s H Eg).tr pn xe) W) (hr : Room (k + 1) (X.A.deeper (envOfC qg sg s.heap.objs.size g cdg)))
    (hbody : ∀ (A : Around) (outer : List Env) (s1 : Shared), A.guards = X.A.guards → Room k (A.deeper (LamX.lamEnv X scope s1.heap.objs.size f c')) → JE (lamX X A outer s1 HZ (WE W σZ) scope f c') body σ HZ Q)
    (g1 : σZ[i]? = some (some (.ref f))) (g2 : HZ c' = some (LamX.CodeO c' (lamQ X)))
    (hN : Ng[i]? = some an) (hv : Vis sg an) (hd : (an == ("__debug__" : Str)) = false := by decide) (hcd : (an == ("__classdict__" : Str)) = false := by decide) :
    JE ((cxOf CXg X.prog X.w X.K X.mg X.base Ng qg sg g cdg X.A X.stack s H Eg).tr pn xe) (.Call (.Name an p1) [] [] p2) σZ HZ Q := fun pinsZ sZ IZ => by
  refine wpAny_Call_Name_kw (thn ((pe_var (pos := p1) (i := i) hN hv hd hcd).run pinsZ sZ σZ HZ (fun v H1 => v = .ref f ∧ H1 = HZ) IZ ⟨.ref f, g1, rfl, rfl⟩) fun u s1 hh => ?_)
  obtain ⟨v, H1, I1, r1, rfl, rfl⟩ := hh
  obtain rfl : u = Value.ref f := r1
  have kept : ∀ b o, s.heap.get? b = some o → H b = none → b ∉ frs X.stack → s1.heap.get? b = some o := fun b o e n nf => I1.base.keep b o e n nf (fun z => nomatch (show b ∈ ([] : List Addr) from z))
  obtain ⟨dV, doc, pm, ctv, ob, hD⟩ := hc.ob
  have of1 := kept f _ ob hc.un hc.fr
  refine PySem.W.callWith_F0 ⟨_, _, _, _, of1⟩ ?_
  have un : Un (frs X.stack) [] H H1 s.heap s1.heap := I1.base
  obtain ⟨⟨oc, vs, t, w1, w2, w3⟩, _, _⟩ := I1.hok c' _ g2
  obtain ⟨bs, hbs, hloc⟩ := hb (lamQ X) (cloFrom X.env.cells scope.names []) dV doc pm (.ref c') ctv s1 (hD.imp (fun z => z) fun ⟨D, i, tk, e1, e2, e3, e4, e5⟩ => ⟨D, i, tk, e1, e2, kept D _ e3 e4 e5⟩)
  have rc : codeAny (model X.prog X.w) (X.A.deeper (envOfC qg sg s.heap.objs.size g cdg)) (.call (.ref f) ⟨[], []⟩) (CR (L2.CX X.prog X.w) (envOfC qg sg s.heap.objs.size g cdg :: X.stack) X.prog X.w H1 s1 Q (WE W σZ)) s1 := by
    refine PySem.W.kla_callFunE hr.depth of1 rfl L.co L.gen rfl ⟨c', oc, vs, t, rfl, w1, w2, w3⟩ (hbs _ _ _ _ ?_)
    refine wpAny_newFunctionEnv L.nocell hloc (fun h1 hns hsb => ⟨I1.nolimit.fresh _ hsb, ?_⟩) L.kind
    show codeAny _ _ (.expr body (LamX.lamEnv X scope s1.heap.objs.size f c')) _ _
    have kp : ∀ b o, s1.heap.get? b = some o → h1.get? b = some o := fun b o e => hsb.extBut b o (Nat.ne_of_lt (Heap.lt_size e)) (Heap.get?_push_of_some _ e)
    have J : Inv (lamX X (X.A.deeper (envOfC qg sg s.heap.objs.size g cdg)) (envOfC qg sg s.heap.objs.size g cdg :: X.stack) s1 H1 (WE W σZ) scope f c') [] σ H1 { s1 with heap := h1, toks := s1.toks + bs.length } :=
      lam_enter I L I1.env0 hr.hd un hns kp
    refine PySem.W.kla_codeExpr (wpAny_mono (hbody (X.A.deeper (envOfC qg sg s.heap.objs.size g cdg)) _ s1 rfl (hr.deeper _) [] _ J) (fun v s' hq => ?_) fun e s' hq => hq)
    obtain ⟨w', H', J', rv, q⟩ := hq
    exact ⟨w', H', J'.os, J'.bare, J'.base, J'.hok, rv, q⟩
  refine wpAny_call (codeAny_mono rc fun r s' hq => ?_)
  match r, hq with
  | .error er, hq => exact tk er s' (XE.of_call I1 (fun _ _ _ h => h) hq)
  | .ok (.ret u), hq => exact I1.after hq
  | .ok .next, hq => exact False.elim hq
  | .ok .brk, hq => exact False.elim hq
  | .ok .cont, hq => exact False.elim hq
end
/-- what a call of the lambda in slot 0 comes to -/
def Act (Z : Cx) (T : Addr → Prop) (f : Addr) (H0 : Hp) (o : Out) (an : Str) : Prop := ∀ (W : WX) (pn : List (Addr × Obj)) (xe : Value → Shared → Prop), Takes (Z.tr pn xe) W → ∀ (σZ : L2.St) (HZ : Hp) (p1 p2 : Pos), σZ[0]? = some (some (.ref f)) → Sm H0 HZ →
  ∀ Q : VK, (∀ v H2 d, o = .ok d → Sm HZ H2 → Dp Z.K (off T H2) v d → Q v H2) → (∀ cls dd H2 x, o = .ex x → Sm HZ H2 → ExD Z.K Z.mg (off T H2) x cls dd → W cls dd σZ H2) → JE (Z.tr pn xe) (.Call (.Name an p1) [] [] p2) σZ HZ Q
def HeardB (Z : Cx) (bg : List Stmt) (Ng : List Str) (an : Str) (o : Out) (r : PyData) : Prop := ∀ (T : Addr → Prop) (f : Addr) (H0 : Hp), Din T H0 → Act Z T f H0 o an → ∀ D : Ends, (∀ v H2, Sm H0 H2 → Dp Z.K (off T H2) v r → D.rt v H2) → JSs Z bg D (L2.start Ng [.ref f]) H0
/-- what the lambda's body comes to -/
def LamO (X : Cx) (a : Addr) (ρ : Rho) (scope : Scope) (body : Expr) (k : Nat) (o : Out) : Prop := ∀ (A : Around) (outer : List Env) (s : Shared) (H : Hp) (E : XK) (f c' : Addr), A.guards = X.A.guards → Room k (A.deeper (LamX.lamEnv X scope s.heap.objs.size f c')) →
  match o with
  | .ok d => EvE (lamX X A outer s H E scope f c') a body ρ d
  | .ex x => EvX (lamX X A outer s H E scope f c') a body ρ x
section
variable {X : Cx} {a : Addr} {ρ : Rho} {scope : Scope} {params : Arguments} {body : Expr} {is : List Int} {lpos p pos : Pos} {k : Nat} {o : Out} {r : PyData} {hn an : Str} {stH : Stmt} {Ng : List Str} {g c P : Addr} {fd : FuncData}
theorem e_heard (F : Fun X.K hn hn stH g fd) (hm : X.mg hn = some (.ref g)) (hb : L2.Binds X.K fd [an] []) (Sg : FnScope Ng [an] (defScope stH)) (h0 : Ng[0]? = some an) (hva : Vis (defScope stH) an)
    (HB : ∀ (cdv : Value) (A : Around) (outer : List Env) (s : Shared) (H : Hp), Good (cxOf CX0 X.prog X.w X.K X.mg X.base Ng hn (defScope stH) g cdv A outer s H E0).nox → HeardB (cxOf CX0 X.prog X.w X.K X.mg X.base Ng hn (defScope stH) g cdv A outer s H E0).nox (defBody stH) Ng an o r)
    (hr : Room (k + 2) X.A) (TB : LamX.TabB X.base X.mg c P) (hc0 : X.env.code = .ref c) (hP : P ∈ Nm.tabs) (hq : Nm.nm P = lamQ X) (L : LamK X.env.scope scope) (hd : LamD X.env params is) (hbd : LamBind params body scope is) (LO : LamO X a ρ scope body k o)
    (hg : Gl X hn := by rfl) (hdb : (hn == ("__debug__" : Str)) = false := by decide) (hd1 : (an == ("__debug__" : Str)) = false := by decide) (hd2 : (an == ("__classdict__" : Str)) = false := by decide) :
    EvE X a (.Call (.Name hn p) [.Lambda params body scope lpos] [] pos) ρ r := fun T σ H S Q q pins s I => by
  have hk := F.kp
  obtain ⟨oc, od, kV, doc, pm, an0, cdv, ct, osl, rfl, lk, hcd⟩ := F.ex
  refine wpAny_Call_Name_kw (ld_glob I hg hm ?_ hdb)
  refine PySem.W.callWith_K (h₀ := X.base) I.ok.mod.kin hk ?_ (by rfl) (by rfl)
  show wpAny _ _ (spliced ((false, eval (.Lambda params body scope lpos) X.env) :: backTo pos (starEach [] X.env))) _ _ s
  refine Calls.spliced_cons (lam_made (E := X.xe) I TB hc0 hq (hq ▸ S.dm.tb P hP) (L.has I.ok) hd fun f c' H1 s1 I1 sm CA => ?_)
  refine Calls.spliced_nil ⟨I1.kIn, ?_⟩
  have rc : codeAny (model X.prog X.w) X.A (.call (.ref g) ⟨[.ref f], []⟩) (CR CX0 X.stack X.prog X.w H1 s1 Q E0) s1 := by
    refine LamX.run_ofS (N := Ng) (ps := [an]) (us := [.ref f]) (vs := [.ref f]) lk hcd Sg hr I1.env0 (hb s1 [.ref f] I1.kIn rfl) (.cons rfl .nil) rfl fun hr1 => ⟨_, jss.nox, ?_⟩
    refine HB cdv X.A X.stack s1 H1 ⟨Sg.nd, rfl, PassesOwn.never, hr1.units⟩ T f H1 (S.dm.same sm) (fun W pn xe tk σZ HZ p1 p2 z1 z2 Q2 ko kx => ?_) _ fun v H2 s2 p2 => q v H2 (sm.trans s2) p2
    refine je_act (CXg := CX0) (Eg := E0) (i := 0) I1 L CA hbd tk hr1 (fun A outer s2 hgd hr2 => ?_) z1 (z2.ob _ _ CA.co LamX.codeO_ne) h0 hva hd1 hd2
    have lo := LO A outer s2 HZ (WE W σZ) f c' hgd hr2
    have S2 : SD X.K a T HZ σ ρ := (S.same sm).same z2
    match o, lo, ko, kx with
    | .ok d, lo, ko, kx => exact lo T σ HZ S2 Q2 fun v H2 s3 p3 => ko v H2 d rfl s3 p3
    | .ex x, lo, ko, kx => exact lo _ (takes_of (E := WE W σZ) rfl rfl rfl rfl) T σ HZ S2 (fun cls d H2 s3 p3 => kx cls d H2 x rfl s3 p3) Q2
  refine wpAny_call (codeAny_mono rc fun res s2 hq => ?_)
  match res, hq with
  | .error er, hq => exact (show False from hq).elim
  | .ok (.ret u), hq => exact I1.after hq
  | .ok .next, hq => exact False.elim hq
  | .ok .brk, hq => exact False.elim hq
  | .ok .cont, hq => exact False.elim hq
end

/-! ### what such a def makes of it -/
/-- a class of exceptions, its fields readable -/
structure XcF (K : PySem.W.Frag) (mg : Str → Option Value) (x : Str) (fs : List Str) : Prop where
  ex : ∃ C, mg x = some (.ref C) ∧ XfC K C ∧ ∀ f ∈ fs, PySem.W.findIn K (.ref C) f = some none
/-- whether an exception of x is one of y's -/
structure Exm (K : PySem.W.Frag) (mg : Str → Option Value) (x y : Str) (b : Bool) : Prop where
  ex : ∃ C D, mg x = some (.ref C) ∧ mg y = some (.ref D) ∧ PySem.W.exmOne K (.ref C) (.ref D) = some b
theorem Exm.at {K : PySem.W.Frag} {mg : Str → Option Value} {x y : Str} {b : Bool} (h : Exm K mg x y b) {C D : Addr} (h1 : mg x = some (.ref C)) (h2 : mg y = some (.ref D)) : PySem.W.exmOne K (.ref C) (.ref D) = some b := by
  obtain ⟨C', D', e1, e2, e3⟩ := h.ex
  rw [h1] at e1
  rw [h2] at e2
  cases e1
  cases e2
  exact e3
section
variable {Z : Cx} {an n w1 w2 x1 x2 f1 f2 : Str} {i : Nat} {k j j1 j2 k1 k2 : Nat} {p1 p2 p3 p4 p5 q1 q2 q3 q4 q5 q6 q7 r1 r2 r3 r4 r5 r6 r7 : Pos} {Ng : List Str} {o : Out} {r : PyData}
/-- the suite: ("w", n.f) -/
def tPair (K : PySem.W.Frag) (mg : Str → Option Value) (i : Nat) (w f : Str) (a : Addr) (cls : Value) (d : Option Addr) : TS := fun D σ H => σ[i]? = some (some (.ref a)) ∧ ∃ (T : Addr → Prop) (x : Exc) (y : PyData), Din T H ∧ (f, y) ∈ x.fs ∧ ExD K mg (off T H) x cls d ∧
  (∃ C, XfC K C ∧ PySem.W.findIn K (.ref C) f = some none ∧ cls = .ref C) ∧ ∀ v H2, Sm H H2 → Dp K (off T H2) v (.tuple [.str w, y]) → D.rt v H2
theorem ps_pair {a : Addr} {oe : Obj} {cls : Value} {d : Option Addr} {pn : List (Addr × Obj)} {w f : Str} (hz : Zc cls d oe) (hf : ∃ vs, oe.data = .fields vs) (hi : Z.N[i]? = some n) (hv : Vis Z.env.scope n) (hd : (n == ("__debug__" : Str)) = false) (hcd : (n == ("__classdict__" : Str)) = false)
    (hs : ∀ e : Expr, starEach (.Constant (.str w) j q1 :: [e]) (Z.suite a ((a, oe) :: pn)).env = (false, eval (.Constant (.str w) j q1) (Z.suite a ((a, oe) :: pn)).env) :: starEach [e] (Z.suite a ((a, oe) :: pn)).env) (hs2 : ∀ e : Expr, e = .Attribute (.Name n q2) f q3 → starEach [e] (Z.suite a ((a, oe) :: pn)).env = (false, eval e (Z.suite a ((a, oe) :: pn)).env) :: starEach [] (Z.suite a ((a, oe) :: pn)).env)
    (hb : attributeBase (.Name n q2) f (Z.suite a ((a, oe) :: pn)).env (eval (.Name n q2) (Z.suite a ((a, oe) :: pn)).env) = eval (.Name n q2) (Z.suite a ((a, oe) :: pn)).env) :
    PSs (Z.suite a ((a, oe) :: pn)) [.Return (some (.Tuple [.Constant (.str w) j q1, .Attribute (.Name n q2) f q3] k q4)) q5] (tPair Z.K Z.mg i w f a cls d) := by
  refine ⟨fun pins s σ H D I h => ?_⟩
  obtain ⟨hσ, T, x, y, dm, hx, he, ⟨C, hX, hno, hC⟩, q⟩ := h
  obtain ⟨C', _, hc', hall⟩ := he
  obtain ⟨dd, fs, v, rfl, hdd, hl, hp⟩ := hall _ hx
  refine (pss_one (ps_ret (pe_tup (pa_cons pe_str (pa_cons (pe_xf hX hno hz hf (pe_var hi hv hd hcd) hb) pa_nil (hs2 _ rfl)) (hs _))))).run pins s σ H D I ?_
  refine ⟨.ref a, hσ, rfl, hC, dd, fs, v, rfl, (off_some hdd).1, hl, szl (by simp), fun pa hpa => ?_⟩
  exact q _ _ (same_new hpa) (dpo_newT dm hpa (.cons (.str w) (.cons hp .nil)))
/-- the try's body: [a()] -/
def tAct (Z : Cx) (T : Addr → Prop) (f : Addr) (H0 : Hp) (o : Out) (an : Str) (W : WX) : TS := fun D σ H => σ[0]? = some (some (.ref f)) ∧ Act Z T f H0 o an ∧ Sm H0 H ∧ Din T H ∧ (∀ v H2 d, o = .ok d → Sm H H2 → Dp Z.K (off T H2) v (.list [d]) → D.rt v H2) ∧
  ∀ cls dd H2 x, o = .ex x → Sm H H2 → ExD Z.K Z.mg (off T H2) x cls dd → W cls dd σ H2
theorem ps_act {T : Addr → Prop} {f : Addr} {H0 : Hp} {W : WX} {pn : List (Addr × Obj)} {xe : Value → Shared → Prop} (tk : Takes (Z.tr pn xe) W) (hs : starEach [.Call (.Name an p1) [] [] p2] (Z.tr pn xe).env = (false, eval (.Call (.Name an p1) [] [] p2) (Z.tr pn xe).env) :: starEach [] (Z.tr pn xe).env) :
    PSs (Z.tr pn xe) [.Return (some (.List [.Call (.Name an p1) [] [] p2] p3)) p4] (tAct Z T f H0 o an W) := by
  refine ⟨fun pins s σ H D I h => ?_⟩
  obtain ⟨h1, h2, h3, h4, h5, h6⟩ := h
  refine (pss_one (ps_ret (pe_lst (pa_cons je pa_nil hs)))).run pins s σ H D I (h2 W pn xe tk σ H p1 p2 h1 h3 _ (fun v H2 d e s2 p => ?_) fun cls dd H2 x e s2 p => h6 cls dd H2 x e s2 p)
  exact ⟨szl (by simp), fun pa hpa => h5 _ _ d e (s2.trans (same_new hpa)) (dpo_newL (h4.same s2) hpa (.cons p .nil))⟩
theorem heard1 (G : Good Z) (hst : Z.stack = Z.env :: Z.outer) (hfr : Z.env.frame = some Z.env.locals) (hi : Z.N[i]? = some n) (hln : Z.env.kindOf n = some .local) (hv : Vis Z.env.scope n) (hd : (n == ("__debug__" : Str)) = false) (hcd : (n == ("__classdict__" : Str)) = false) (g1 : Gl Z x1) (d1 : (x1 == ("__debug__" : Str)) = false)
    (C1 : XcF Z.K Z.mg x1 [f1]) (m11 : Exm Z.K Z.mg x1 x1 true) (h0 : ∀ f : Addr, (L2.start Ng [V.ref f])[0]? = some (some (V.ref f))) (hsl : ∀ f a : Addr, ((L2.start Ng [V.ref f]).set i (some (V.ref a)))[i]? = some (some (V.ref a)))
    (ho : (∃ d, o = .ok d ∧ r = .list [d]) ∨ ∃ y, o = .ex ⟨x1, [(f1, y)]⟩ ∧ r = .tuple [.str w1, y]) :
    HeardB Z [.Try [.Return (some (.List [.Call (.Name an p1) [] [] p2] p3)) p4] [.ExceptHandler (some (.Name x1 q1)) (some n) [.Return (some (.Tuple [.Constant (.str w1) j1 r1, .Attribute (.Name n r2) f1 r3] k1 r4)) r5] q2] [] [] p5] Ng an o r := fun T f H0 dm act D q => by
  obtain ⟨A1, hm1, XA, noA⟩ := C1.ex
  refine toSs (pss_one (ps_tries (tb := fun W => tAct Z T f H0 o an W) (Wout := fun _ _ _ _ => False) hst hfr G.nd takes0 (fun W pn xe tk _ => ps_act tk rfl) (.named hi hln ⟨g1, d1, .inl hm1⟩ (fun a oe cls d pn hz hf => ps_pair hz hf hi hv hd hcd (fun _ => rfl) (fun _ e => by subst e; rfl) rfl) .nil)))
    ⟨h0 f, act, Sm.refl H0, dm, fun v H2 d e s p => ?_, fun cls dd H2 x e s p => ?_⟩
  · rcases ho with ⟨d', e', er⟩ | ⟨y, e', er⟩
    · rw [e'] at e
      cases e
      rw [er] at q
      exact q v H2 s p
    · rw [e'] at e
      cases e
  · rcases ho with ⟨d', e', er⟩ | ⟨y, e', er⟩
    · rw [e'] at e
      cases e
    · rw [e'] at e
      cases e
      have p0 := p
      obtain ⟨C, hc, rfl, _⟩ := p0
      have eC := hm1.symm.trans hc
      cases eC
      exact ⟨true, m11.at hm1 hm1, fun _ a na => ⟨hsl f a, T, _, y, dm.same s, List.mem_singleton.mpr rfl, p, ⟨A1, XA, noA _ (List.mem_singleton.mpr rfl), rfl⟩, fun v H3 s3 p3 => q v H3 (s.trans s3) (er ▸ p3)⟩, fun z => nomatch z⟩
theorem heard2 (G : Good Z) (hst : Z.stack = Z.env :: Z.outer) (hfr : Z.env.frame = some Z.env.locals) (hi : Z.N[i]? = some n) (hln : Z.env.kindOf n = some .local) (hv : Vis Z.env.scope n) (hd : (n == ("__debug__" : Str)) = false) (hcd : (n == ("__classdict__" : Str)) = false) (g1 : Gl Z x1) (d1 : (x1 == ("__debug__" : Str)) = false) (g2 : Gl Z x2) (d2 : (x2 == ("__debug__" : Str)) = false)
    (C1 : XcF Z.K Z.mg x1 [f1]) (C2 : XcF Z.K Z.mg x2 [f2]) (m11 : Exm Z.K Z.mg x1 x1 true) (m21 : Exm Z.K Z.mg x2 x1 false) (m22 : Exm Z.K Z.mg x2 x2 true) (h0 : ∀ f : Addr, (L2.start Ng [V.ref f])[0]? = some (some (V.ref f))) (hsl : ∀ f a : Addr, ((L2.start Ng [V.ref f]).set i (some (V.ref a)))[i]? = some (some (V.ref a)))
    (ho : (∃ d, o = .ok d ∧ r = .list [d]) ∨ (∃ y, o = .ex ⟨x1, [(f1, y)]⟩ ∧ r = .tuple [.str w1, y]) ∨ ∃ y, o = .ex ⟨x2, [(f2, y)]⟩ ∧ r = .tuple [.str w2, y]) :
    HeardB Z [.Try [.Return (some (.List [.Call (.Name an p1) [] [] p2] p3)) p4] [.ExceptHandler (some (.Name x1 q1)) (some n) [.Return (some (.Tuple [.Constant (.str w1) j1 r1, .Attribute (.Name n r2) f1 r3] k1 r4)) r5] q2,
      .ExceptHandler (some (.Name x2 q3)) (some n) [.Return (some (.Tuple [.Constant (.str w2) j2 q5, .Attribute (.Name n q6) f2 q7] k2 r6)) r7] q4] [] [] p5] Ng an o r := fun T f H0 dm act D q => by
  obtain ⟨A1, hm1, XA, noA⟩ := C1.ex
  obtain ⟨A2, hm2, XB, noB⟩ := C2.ex
  refine toSs (pss_one (ps_tries (tb := fun W => tAct Z T f H0 o an W) (Wout := fun _ _ _ _ => False) hst hfr G.nd takes0 (fun W pn xe tk _ => ps_act tk rfl) (.named hi hln ⟨g1, d1, .inl hm1⟩ (fun a oe cls d pn hz hf => ps_pair hz hf hi hv hd hcd (fun _ => rfl) (fun _ e => by subst e; rfl) rfl)
    (.named hi hln ⟨g2, d2, .inl hm2⟩ (fun a oe cls d pn hz hf => ps_pair hz hf hi hv hd hcd (fun _ => rfl) (fun _ e => by subst e; rfl) rfl) .nil))))
    ⟨h0 f, act, Sm.refl H0, dm, fun v H2 d e s p => ?_, fun cls dd H2 x e s p => ?_⟩
  · rcases ho with ⟨d', e', er⟩ | ⟨y, e', er⟩ | ⟨y, e', er⟩
    · rw [e'] at e
      cases e
      rw [er] at q
      exact q v H2 s p
    · rw [e'] at e
      cases e
    · rw [e'] at e
      cases e
  · rcases ho with ⟨d', e', er⟩ | ⟨y, e', er⟩ | ⟨y, e', er⟩
    · rw [e'] at e
      cases e
    · rw [e'] at e
      cases e
      have p0 := p
      obtain ⟨C, hc, rfl, _⟩ := p0
      have eC := hm1.symm.trans hc
      cases eC
      exact ⟨true, m11.at hm1 hm1, fun _ a na => ⟨hsl f a, T, _, y, dm.same s, List.mem_singleton.mpr rfl, p, ⟨A1, XA, noA _ (List.mem_singleton.mpr rfl), rfl⟩, fun v H3 s3 p3 => q v H3 (s.trans s3) (er ▸ p3)⟩, fun z => nomatch z⟩
    · rw [e'] at e
      cases e
      have p0 := p
      obtain ⟨C, hc, rfl, _⟩ := p0
      have eC := hm2.symm.trans hc
      cases eC
      exact ⟨false, m21.at hm2 hm1, (fun z => nomatch z), fun _ => ⟨true, m22.at hm2 hm2, fun _ a na => ⟨hsl f a, T, _, y, dm.same s, List.mem_singleton.mpr rfl, p, ⟨A2, XB, noB _ (List.mem_singleton.mpr rfl), rfl⟩, fun v H3 s3 p3 => q v H3 (s.trans s3) (er ▸ p3)⟩, fun z => nomatch z⟩⟩
/-- clauses without names, a text each -/
theorem heard0 {A1 A2 : Addr} (G : Good Z) (hst : Z.stack = Z.env :: Z.outer) (hfr : Z.env.frame = some Z.env.locals) (g1 : Gl Z x1) (d1 : (x1 == ("__debug__" : Str)) = false) (g2 : Gl Z x2) (d2 : (x2 == ("__debug__" : Str)) = false)
    (hm1 : Z.mg x1 = some (.ref A1)) (hm2 : Z.mg x2 = some (.ref A2)) (m11 : Exm Z.K Z.mg x1 x1 true) (m21 : Exm Z.K Z.mg x2 x1 false) (m22 : Exm Z.K Z.mg x2 x2 true) (h0 : ∀ f : Addr, (L2.start Ng [V.ref f])[0]? = some (some (V.ref f)))
    (ho : (∃ d, o = .ok d ∧ r = .list [d]) ∨ (o = .ex ⟨x1, []⟩ ∧ r = .str w1) ∨ (o = .ex ⟨x2, []⟩ ∧ r = .str w2)) :
    HeardB Z [.Try [.Return (some (.List [.Call (.Name an p1) [] [] p2] p3)) p4] [.ExceptHandler (some (.Name x1 q1)) none [.Return (some (.Constant (.str w1) j1 r1)) r5] q2,
      .ExceptHandler (some (.Name x2 q3)) none [.Return (some (.Constant (.str w2) j2 q5)) r7] q4] [] [] p5] Ng an o r := fun T f H0 dm act D q => by
  refine toSs (pss_one (ps_tries (tb := fun W => tAct Z T f H0 o an W) (Wout := fun _ _ _ _ => False) hst hfr G.nd takes0 (fun W pn xe tk _ => ps_act tk rfl) (.bare ⟨g1, d1, .inl hm1⟩ (fun a oe cls d pn hz hf => pss_one (ps_ret pe_str))
    (.bare ⟨g2, d2, .inl hm2⟩ (fun a oe cls d pn hz hf => pss_one (ps_ret pe_str)) .nil))))
    ⟨h0 f, act, Sm.refl H0, dm, fun v H2 d e s p => ?_, fun cls dd H2 x e s p => ?_⟩
  · rcases ho with ⟨d', e', er⟩ | ⟨e', er⟩ | ⟨e', er⟩
    · rw [e'] at e
      cases e
      rw [er] at q
      exact q v H2 s p
    · rw [e'] at e
      cases e
    · rw [e'] at e
      cases e
  · rcases ho with ⟨d', e', er⟩ | ⟨e', er⟩ | ⟨e', er⟩
    · rw [e'] at e
      cases e
    · rw [e'] at e
      cases e
      obtain ⟨C, hc, rfl, _⟩ := p
      have eC := hm1.symm.trans hc
      cases eC
      exact ⟨true, m11.at hm1 hm1, fun _ a na => q _ H2 s (er ▸ .str w1), fun z => nomatch z⟩
    · rw [e'] at e
      cases e
      obtain ⟨C, hc, rfl, _⟩ := p
      have eC := hm2.symm.trans hc
      cases eC
      exact ⟨false, m21.at hm2 hm1, (fun z => nomatch z), fun _ => ⟨true, m22.at hm2 hm2, fun _ a na => q _ H2 s (er ▸ .str w2), fun z => nomatch z⟩⟩
end
end Zj
/-! What several laws share: what defs tell, drawn numbers, the law's state, the defs of the top. -/
namespace Zj
open PySem PySem.Spec PyProof.Rows L2
variable [Nm]
instance (n : Nat) (x : Int) : Decidable (Bits n x) := inferInstanceAs (Decidable (x.natAbs < 2 ^ n))
structure Tx (mg : Str → Option Value) : Prop where
  isi : mg "isinstance" = none
  int : mg "int" = none
  bool : mg "bool" = none
  tuple : mg "tuple" = none
  len : mg "len" = none
  enum : mg "enumerate" = none
  sum : mg "sum" = none
  list : mg "list" = none
  zip : mg "zip" = none
  range : mg "range" = none
  abs : mg "abs" = none
  repr : mg "repr" = none
  max : mg "max" = none
  min : mg "min" = none
  gcd : mg "gcd" = some (.builtin "math.gcd")
def R_weighed (ds : List PyData) (d : PyData) : Prop := ∃ xs ys, ds = [tI xs, tI ys] ∧ BitsL 20000 xs ∧ BitsL 20000 ys ∧ xs.length ≤ 1000 ∧ d = .int (dot xs ys)
def R_whole (ds : List PyData) (d : PyData) : Prop := ∃ x, ds = [x] ∧ d = .bool (wholeD x)
def R_wrong (ds : List PyData) (d : PyData) : Prop := ∃ v m, ds = [v, .int m] ∧ (∀ xs, v = .tuple xs → xs.length ≤ 1000) ∧ d = wrongD v m
/-- the greatest common divisor of all -/
def R_cd (ds : List PyData) (d : PyData) : Prop := ∃ xs : List Int, (ds = [tI xs] ∨ ds = [lI xs]) ∧ d = .int (gcdL xs)
def R_short (ds : List PyData) (d : PyData) : Prop := ∃ xs : List Int, (ds = [tI xs] ∨ ds = [lI xs]) ∧ BitsL 8000 xs ∧ xs.length ≤ 1000 ∧ d = tI (shortL xs)
def R_sign (ds : List PyData) (d : PyData) : Prop := ∃ n, ds = [.int n] ∧ d = .int (sgn n)
def R_lowest (ds : List PyData) (d : PyData) : Prop := ∃ t b, ds = [.int t, .int b] ∧ b ≠ 0 ∧ Bits 8000 b ∧ d = tI (fracL t b)
def R_crow (ds : List PyData) (d : PyData) : Prop := ∃ (n : Int) (xs : List Int), ds = [.int n, tI xs] ∧ (xs.length : Int) = n + 1 ∧ xs.length ≤ 1000 ∧ d = tI xs
def R_first (ds : List PyData) (d : PyData) : Prop := ∃ xs : List Int, ds = [tI xs] ∧ d = placeD (lead xs)
def R_plane (ds : List PyData) (d : PyData) : Prop := ∃ row : List Int, ds = [tI row] ∧ 1 ≤ row.length ∧ row.length ≤ 1000 ∧ BitsL 8000 row ∧ d = planeD row
def R_cplane (ds : List PyData) (d : PyData) : Prop := ∃ (n : Int) (xs : List Int), ds = [.int n, tI xs] ∧ (xs.length : Int) = n + 1 ∧ 1 ≤ xs.length ∧ xs.length ≤ 1000 ∧ BitsL 8000 xs ∧ planeL xs = some xs ∧ d = tI xs
def R_value (ds : List PyData) (d : PyData) : Prop := ∃ (row pt : List Int) (l : Int), ds = [tI row, tI pt] ∧ pt.getLast? = some l ∧ 0 < l ∧ BitsL 8000 row ∧ BitsL 8000 pt ∧ row.length ≤ 1000 ∧ d = tI (fracL (dot row pt) l)
def R_signat (ds : List PyData) (d : PyData) : Prop := ∃ (row pt : List Int), ds = [tI row, tI pt] ∧ BitsL 8000 row ∧ BitsL 8000 pt ∧ row.length ≤ 1000 ∧ d = .int (sgn (dot row pt))
def onRow (g : List Int → Int) : PyData → PyData
  | .tuple ds => .int (g (ds.map fun d => match d with | .int x => x | _ => 0))
  | _ => .none
theorem onRow_tI (g : List Int → Int) (xs : List Int) : onRow g (tI xs) = .int (g xs) := by
  show PyData.int (g ((xs.map PyData.int).map _)) = _
  rw [List.map_map]
  congr 2
  conv => rhs; rw [← List.map_id xs]
  rfl
theorem onRows (g : List Int → Int) (rows : List (List Int)) : (rows.map tI).map (onRow g) = (rows.map g).map .int := by
  rw [List.map_map, List.map_map]
  exact List.map_congr_left fun r _ => onRow_tI g r
def R_signs (ds : List PyData) (d : PyData) : Prop := ∃ (rows : List (List Int)) (pt : List Int), ds = [.tuple (rows.map tI), tI pt] ∧ (∀ row ∈ rows, BitsL 8000 row ∧ row.length ≤ 1000) ∧ BitsL 8000 pt ∧ rows.length ≤ 1000 ∧ d = tI (rows.map fun r => sgn (dot r pt))
def R_slope (ds : List PyData) (d : PyData) : Prop := ∃ (row way : List Int), ds = [tI row, tI way] ∧ 1 ≤ row.length ∧ BitsL 8000 row ∧ BitsL 8000 way ∧ row.length ≤ 1000 ∧ d = .int (dot row.dropLast way)
def movedL (pt way : List Int) (t b l : Int) : List Int := shortL (List.zipWith (fun n s => n * b + s * t * l) pt.dropLast way ++ [l * b])
def R_moved (ds : List PyData) (d : PyData) : Prop := ∃ (pt way : List Int) (t b l : Int), ds = [tI pt, tI way, tI [t, b]] ∧ pt.getLast? = some l ∧ BitsL 1500 pt ∧ BitsL 1500 way ∧ Bits 1500 t ∧ Bits 1500 b ∧ pt.length ≤ 900 ∧ d = tI (movedL pt way t b l)
theorem zip_bits {pt way : List Int} {t b l : Int} (hb : BitsL 1500 pt) (hw : BitsL 1500 way) (ht : Bits 1500 t) (hbb : Bits 1500 b) (hl : Bits 1500 l) : BitsL 8000 (List.zipWith (fun n s => n * b + s * t * l) pt.dropLast way ++ [l * b]) := by
  intro x hx
  rcases List.mem_append.mp hx with hx | hx
  · obtain ⟨i, hi⟩ := List.getElem?_of_mem hx
    rw [List.getElem?_zipWith] at hi
    split at hi
    · rename_i n s e1 e2
      cases hi
      have q1 := hb n (List.dropLast_subset _ (List.mem_of_getElem? e1))
      have q2 := hw s (List.mem_of_getElem? e2)
      exact Bits.mono (Bits.add (m := 4500) ((Bits.mul q1 hbb).mono (by decide)) ((Bits.mul (Bits.mul q2 ht) hl).mono (by decide))) (by decide)
    · cases hi
  · rw [List.mem_singleton] at hx
    subst hx
    exact (Bits.mul hl hbb).mono (by decide)
def R_like (ds : List PyData) (d : PyData) : Prop := ∃ x, ds = [x, x] ∧ Tame x ∧ d = .bool true
def R_fraction (ds : List PyData) (d : PyData) : Prop := ∃ t b, ds = [.int t, .int b] ∧ Bits 8000 t ∧ Bits 8000 b ∧ d = tI (fracL t b)
def R_point (ds : List PyData) (d : PyData) : Prop := ∃ (ns : List Int) (b : Int), ds = [lI ns, .int b] ∧ 0 < b ∧ BitsL 7000 ns ∧ Bits 7000 b ∧ ns.length ≤ 900 ∧ d = tI (shortL (ns ++ [b]))
/-- a number from 0 to b - 1 -/
def R_draw (ds : List PyData) (Q : PyData → Prop) : Prop := ∃ b : Int, ds = [.int b] ∧ 0 < b ∧ Bits 8000 b ∧ ∀ r : Int, 0 ≤ r → r < b → Q (.int r)
theorem bits_lt {x : Int} {n : Nat} (h0 : 0 ≤ x) (h : x < 2 ^ n) : Bits n x := by
  unfold Bits
  have e : ((2 ^ n : Nat) : Int) = (2 : Int) ^ n := by norm_cast
  omega
theorem at_mod {α : Type} {xs : List α} {s : Int} (h0 : 0 ≤ s) (h1 : 1 ≤ xs.length) : ∃ x, x ∈ xs ∧ atI xs (s % (xs.length : Int)) = some x := by
  have p0 : 0 ≤ s % (xs.length : Int) := Int.emod_nonneg _ (by omega)
  have p1 : s % (xs.length : Int) < xs.length := Int.emod_lt_of_pos _ (by omega)
  obtain ⟨n, hn⟩ : ∃ n : Nat, s % (xs.length : Int) = n := ⟨(s % (xs.length : Int)).toNat, by omega⟩
  have hl : n < xs.length := by omega
  exact ⟨xs[n], List.getElem_mem hl, by rw [hn]; exact atI_nat (List.getElem?_eq_getElem hl)⟩
theorem fa2_ints {Q : Int → Prop} {xs ds : List PyData} (h : Fa2 (fun _ d => ∃ x : Int, d = .int x ∧ Q x) xs ds) : ∃ ns : List Int, ds = ns.map .int ∧ ns.length = xs.length ∧ ∀ x ∈ ns, Q x := by
  induction h with
  | nil => exact ⟨[], rfl, rfl, nofun⟩
  | cons hx _ ih =>
    obtain ⟨x, rfl, hq⟩ := hx
    obtain ⟨ns, rfl, hl, hn⟩ := ih
    refine ⟨x :: ns, rfl, by simp [hl], fun y hy => ?_⟩
    rcases List.mem_cons.mp hy with rfl | hy
    · exact hq
    · exact hn y hy
theorem bits_small {x : Int} (h0 : 0 ≤ x) (h : x < 2 ^ 60) : Bits 8000 x := (bits_lt h0 h).mono (by decide)
theorem bits_abs {x : Int} {n : Nat} (h : x.natAbs < 2 ^ n) : Bits n x := h
def SpotL (D : Nat) (pt : List Int) : Prop := ∃ l, pt.getLast? = some l ∧ 0 < l ∧ pt.length = D + 1 ∧ BitsL 10 pt
theorem last_map {α β : Type} (g : α → β) (xs : List α) : (xs.map g).getLast? = xs.getLast?.map g := by
  rw [List.getLast?_map]
theorem spot_of {ns : List Int} {b : Int} {D : Nat} (hl : ns.length = D) (hn : BitsL 10 ns) (h0 : 0 < b) (hb : Bits 10 b) : SpotL D (shortL (ns ++ [b])) := by
  obtain ⟨g0, e⟩ := shortL_mul (ns ++ [b]) ⟨b, by simp, by omega⟩
  have hlast : (ns ++ [b]).getLast? = some b := by simp
  rw [e, last_map] at hlast
  cases hz : (shortL (ns ++ [b])).getLast? with
  | none => rw [hz] at hlast; cases hlast
  | some l =>
    rw [hz] at hlast
    have hlb : (gcdL (ns ++ [b]) : Int) * l = b := by simpa using hlast
    refine ⟨l, hz, ?_, by rw [shortL_len]; simp [hl], shortL_bits fun x hx => ?_⟩
    · have gp : (0 : Int) < gcdL (ns ++ [b]) := by omega
      rcases Int.lt_or_le 0 l with h | h
      · exact h
      · have := Int.mul_le_mul_of_nonneg_left h (Int.le_of_lt gp)
        omega
    · rcases List.mem_append.mp hx with hx | hx
      · exact hn x hx
      · rw [List.mem_singleton] at hx
        subst hx
        exact hb
theorem upto_len (n : Nat) : (upTo n).length = n := by simp [upTo]
def R_spot (ds : List PyData) (Q : PyData → Prop) : Prop := ∃ D : Nat, ds = [.int (D : Int)] ∧ D ≤ 4 ∧ ∀ pt, SpotL D pt → Q (tI pt)
theorem dot_bits {m k : Nat} : ∀ (xs ys : List Int), BitsL m xs → BitsL k ys → Bits (m + k + xs.length) (dot xs ys)
  | [], _, _, _ => by
    rw [dot_nil]
    exact Nat.pow_pos (by decide)
  | _ :: _, [], _, _ => by
    show Bits _ 0
    exact Nat.pow_pos (by decide)
  | x :: xs, y :: ys, h1, h2 => by
    rw [dot_cons]
    have ih := dot_bits xs ys (fun z hz => h1 z (List.mem_cons_of_mem _ hz)) fun z hz => h2 z (List.mem_cons_of_mem _ hz)
    have q := Bits.mul (h1 x List.mem_cons_self) (h2 y List.mem_cons_self)
    exact (Bits.add (q.mono (Nat.le_add_right _ xs.length)) ih).mono (by rw [List.length_cons]; omega)
theorem bits2 {m : Nat} {t b : Int} (h1 : Bits m t) (h2 : Bits m b) : BitsL m [t, b] := fun x hx => by
  rcases List.mem_cons.mp hx with rfl | hx
  · exact h1
  · rw [List.mem_singleton] at hx
    subst hx
    exact h2
theorem fracL_bits {m : Nat} {t b : Int} (h1 : Bits m t) (h2 : Bits m b) : BitsL m (fracL t b) := by
  have q := shortL_bits (bits2 h1 h2)
  unfold fracL
  split
  · exact q
  · intro x hx
    obtain ⟨y, hy, rfl⟩ := List.mem_map.mp hx
    exact (q y hy).neg
theorem fracL_len {t b : Int} : (fracL t b).length = 2 := by
  unfold fracL
  split
  · rw [shortL_len] <;> rfl
  · rw [List.length_map, shortL_len] <;> rfl
theorem planeD_some {row pl : List Int} (h : planeL row = some pl) : planeD row = tI pl := by
  unfold planeD
  rw [h]
theorem planeD_none {row : List Int} (h : planeL row = none) : planeD row = .none := by
  unfold planeD
  rw [h]
theorem tame_plane {row : List Int} (hb : BitsL 100 row) (hl : row.length ≤ 5) : Tame (planeD row) := by
  cases h : planeL row with
  | none =>
    rw [planeD_none h]
    exact tam_non.tame (by decide) (by decide)
  | some pl =>
    rw [planeD_some h]
    exact (tam_tI (l := 5) ((planeL_bits h hb).mono (by decide)) (by rw [planeL_len h]; exact hl)).tame (by decide) (by decide)
theorem last_two {α : Type} {xs : List α} {l : α} (h : xs.getLast? = some l) : xs = xs.dropLast ++ [l] := by
  cases xs with
  | nil => cases h
  | cons x xs =>
    rw [List.getLast?_eq_some_getLast (List.cons_ne_nil x xs)] at h
    cases h
    exact (List.dropLast_concat_getLast (List.cons_ne_nil x xs)).symm
theorem short_last {q : List Int} {z : Int} (hq : q.getLast? = some z) (hz : 0 < z) : ∃ g l' : Int, 0 < g ∧ (shortL q).getLast? = some l' ∧ z = g * l' ∧ 0 < l' ∧ ∀ row, dot row q = g * dot row (shortL q) := by
  obtain ⟨g0, e⟩ := shortL_mul q ⟨z, List.mem_of_getLast? hq, by omega⟩
  have hq2 := hq
  rw [e, List.getLast?_map] at hq2
  cases hs : (shortL q).getLast? with
  | none => rw [hs] at hq2; cases hq2
  | some l' =>
    rw [hs] at hq2
    have hz2 : (gcdL q : Int) * l' = z := by simpa using hq2
    have gp : (0 : Int) < gcdL q := by omega
    refine ⟨gcdL q, l', gp, rfl, hz2.symm, ?_, fun row => ?_⟩
    · rcases Int.lt_or_le 0 l' with h | h
      · exact h
      · have := Int.mul_le_mul_of_nonneg_left h (Int.le_of_lt gp)
        omega
    · rw [dot_comm row (shortL q), ← dot_scale, ← e, dot_comm]
theorem sm_putD {H1 H' : Hp} {D : Addr} {kvs kvs' : List (Key × V)} (s : Sm H1 H') (h1 : H1 D = none) (h3 : H' D = some (.dK kvs)) : Sm H1 (upd H' D (.dK kvs')) := by
  have kp : Kp D H' (upd H' D (.dK kvs')) := .put h3
  exact ⟨fun b o e n => by
    rw [upd_ne (fun z => by rw [z, h1] at e; cases e)]
    exact s.ob b o e n, fun P t => kp.tb P (s.tb P t), fun b hb => kp.dm b (s.dm b hb)⟩
theorem js_cons {X : Cx} {a : Addr} {st : Stmt} {sts : List Stmt} {ρ : Rho} {N : Rho → Prop} {T : Addr → Prop} {σ : L2.St} {H : Hp} {D} (h : RunS X a st ρ N (fun _ => False)) (S : SD X.K a T H σ ρ) (k : ∀ σ' H' ρ', Sm H H' → SD X.K a T H' σ' ρ' → N ρ' → JSs X sts D σ' H') : JSs X (st :: sts) D σ H :=
  toSs (pss_cons js jss) (h T σ H { D with nx := fun σ' H' => JSs X sts D σ' H' } S k fun _ _ _ _ _ f => f.elim)
theorem ev {X : Cx} {a : Addr} {e : Expr} {ρ : Rho} {d : PyData} {T : Addr → Prop} {σ : L2.St} {H : Hp} {Q : VK} (h : EvE X a e ρ d) (S : SD X.K a T H σ ρ) (q : ∀ v H2, Sm H H2 → Dp X.K (off T H2) v d → Q v H2) : JE X e σ H Q := h T σ H S Q q
/-- the law's state is made -/
def spB (K : PySem.W.Frag) : Sp := fun vs H Q _ => ∃ T xs, ∃ k : Nat, Din T H ∧ DpAll K (off T H) vs [lI xs, .int (k : Int)] ∧ k ≤ 3 ∧ xs.length ≤ 63 ∧ BitsL 1100000 xs ∧ ∀ p H', H p = none → Sm H H' → MS K (off T H') p 900000000000 → Q (.ref p) H'
def keepBig : PyData → Bool
  | .int x => decide ((10 ^ Int.toNat 18 : Int) ≤ x)
  | _ => false
def valSame : PyData → PyData := fun d => d
theorem kept_big : ∀ xs : List Int, ∃ ys : List Int, kept keepBig valSame (xs.map .int) = ys.map .int
  | [] => ⟨[], rfl⟩
  | x :: xs => by
    obtain ⟨ys, h⟩ := kept_big xs
    unfold kept at h ⊢
    rw [List.map_cons]
    cases hk : keepBig (.int x) with
    | true =>
      refine ⟨x :: ys, ?_⟩
      rw [List.filter_cons_of_pos hk, List.map_cons, h, List.map_cons] <;> rfl
    | false =>
      refine ⟨ys, ?_⟩
      rw [List.filter_cons_of_neg (by rw [hk]; exact Bool.false_ne_true), h]
theorem dps_ints_inv {K : PySem.W.Frag} {H : Hp} : ∀ {ns : List Int} {vs : List V}, DpAll K H vs (ns.map PyData.int) → vs = ns.map V.int
  | [], _, h => by cases h; rfl
  | n :: ns, _, h => by
    cases h with
    | cons h1 h2 => rw [dp_int h1, dps_ints_inv h2] <;> rfl
theorem cut_cells (xs : List Int) (k : Nat) : ∃ ys : List Int, cutD (xs.map .int) (some (k : Int)) none ++ cutD (xs.map .int) none (some (k : Int)) = ys.map .int ∧ ys.length = xs.length ∧ ∀ y ∈ ys, y ∈ xs := by
  refine ⟨xs.drop (min k xs.length) ++ xs.take (min k xs.length), ?_, ?_, fun y hy => ?_⟩
  · unfold cutD
    rw [HT.sIx_nat, HT.sIx_nat, HT.sIx_none, HT.sIx_none, List.length_map, List.map_append, List.map_drop, List.map_take, List.drop_zero, Nat.sub_zero]
    congr 1
    rw [List.take_of_length_le (by simp)]
  · simp
    omega
  · rcases List.mem_append.mp hy with hy | hy
    · exact List.mem_of_mem_drop hy
    · exact List.mem_of_mem_take hy
theorem bitsOf {xs : List Int} {n : Nat} (h : ∀ x ∈ xs, x.natAbs < 2 ^ n) : BitsL n xs := h
theorem small {xs : List Int} (h : xs.all (fun x => decide (x.natAbs < 2 ^ 10)) = true) : BitsL 8000 xs := fun x hx => Bits.mono (m := 10) (of_decide_eq_true (List.all_eq_true.mp h x hx)) (by decide)
theorem small19 {xs : List Int} (h : xs.all (fun x => decide (x.natAbs < 2 ^ 10)) = true) : BitsL 1900 xs := fun x hx => Bits.mono (m := 10) (of_decide_eq_true (List.all_eq_true.mp h x hx)) (by decide)
theorem tm_I {xs : List Int} (h : xs.all (fun x => decide (x.natAbs < 2 ^ 10)) = true) (hl : xs.length ≤ 10) : Tam 10 1 (tI xs) := tam_tI (small19 h) hl
def unh : Option DV → Option DV
  | some .hnd => none
  | x => x
theorem SD_unh {K : PySem.W.Frag} {a b : Addr} {T : Addr → Prop} {H : Hp} {σ : L2.St} {ρ : Rho} (h : SD K a T H σ ρ) : SD K b T H σ (ρ.map unh) := ⟨by rw [List.length_map]; exact h.len, h.dm, fun i x e => by
  rw [List.getElem?_map] at e
  cases hρ : ρ[i]? with
  | none => rw [hρ] at e; cases e
  | some o =>
    rw [hρ] at e
    have e : unh o = some x := by simpa using e
    cases o with
    | none => cases e
    | some z =>
      cases z with
      | hnd => cases e
      | adr p =>
        cases e
        exact h.sl i _ hρ
      | dat d =>
        cases e
        exact h.sl i _ hρ⟩
section
variable {X : Cx} {a : Addr} {ρ : Rho} {c e1 e2 : Expr} {body : List Stmt} {pos p pos' : Pos} {n : Nat} {N : Nat → Rho → Prop} {R : Nat → PyData → Prop} {N' : Rho → Prop} {R' : PyData → Prop} {d : PyData}
theorem q_run {X : Cx} {a : Addr} {sts : List Stmt} {ρ : Rho} {n : Nat} {N : Nat → Rho → Prop} {R : Nat → PyData → Prop} {N' : Rho → Prop} {R' : PyData → Prop} (h : Run X a sts ρ N' R') (hn : ∀ ρ', N' ρ' → N n ρ') (hr : ∀ d, R' d → R n d) : RunM X a sts ρ n N R := fun T σ H D S ms kn kr =>
  h T σ H D S (fun σ' H' ρ' s S' e => kn σ' H' ρ' n (.of s) S' (ms.same (off_same s)) (hn _ e)) fun v H' d s p e => kr v H' d n (.of s) (ms.same (off_same s)) p (hr d e)
theorem r_skip (hc : EvT X a c ρ false) (h : N' ρ) : RunS X a (.If c body [] pos) ρ N' R' := rs_if (b := false) hc nofun fun _ => r_nil h
theorem q_skip (hc : EvT X a c ρ false) (h : N n ρ) : RunMS X a (.If c body [] pos) ρ n N R := q_pure (N' := fun ρ' => ρ' = ρ) (R' := fun _ => False) (r_skip hc rfl) (fun ρ' e => by rw [e]; exact h) nofun
theorem t_notlike (C : CalG X.prog X.w X.K X.mg X.base 1 "_law_like" ["told", "due"] (spR X.K R_like)) (hgd : X.A.guards = some []) (hr : Room 1 X.A) (ha : EvA X a [e1, e2] ρ [d, d]) (ht : Tame d) (hg : Gl X "_law_like" := by rfl)
    (he : starEach [e1, e2] X.env = (false, eval e1 X.env) :: starEach [e2] X.env := by exact star_of rfl) (hpl : (backTo pos' (starEach [e2] X.env)).any (·.1) = false := by exact star_no rfl)
    (hit : ∀ whole, isTrue (.Call (.Name "_law_like" p) [e1, e2] [] pos') X.env whole = (do let v ← whole; standAt pos'; holding [v] (truthy v)) := by intro _; rfl) :
    EvT X a (.UnaryOp .Not (.Call (.Name "_law_like" p) [e1, e2] [] pos') pos) ρ false :=
  t_is (t_not (t_val (e_callG C hgd hr ha ⟨d, rfl, ht, rfl⟩ hg (by decide) he hpl) hit)) rfl
end
section
variable {X : Cx} {x : Str} {p pos : Pos} {k : Nat} {sp : Sp}
theorem pe_call0G (C : CalG X.prog X.w X.K X.mg X.base k x [] sp) (hgd : X.A.guards = some []) (hr : Room k X.A) (hg : Gl X x := by rfl) (hdb : (x == ("__debug__" : Str)) = false := by decide)
    (hall : (backToKw pos (keywordEach [] X.env)).all (·.1.isSome) = true := by rfl) (hks : (backToKw pos (keywordEach [] X.env)).filterMap (·.1) = [] := by rfl)
    (hpl : ((backTo pos (starEach [] X.env)).any (·.1) || (backToKw pos (keywordEach [] X.env)).any (·.1.isNone)) = false := by rfl) :
    PE X (.Call (.Name x p) [] [] pos) (fun σ H Q => sp [] H Q E0) := by
  obtain ⟨f, fd, F, hm, hk, hb⟩ := C.ex
  refine ⟨fun pins s σ H Q I h => ?_⟩
  refine wpAny_Call_Name_kw (ld_glob I hg hm ?_ hdb)
  refine PySem.W.callWith_KW0 (h₀ := X.base) I.ok.mod.kin hk hall (thn (pk_nil.run pos pins s σ H (fun vs H1 => vs = [] ∧ H1 = H) I ⟨rfl, rfl⟩) fun us s1 hv => ?_) hpl
  obtain ⟨vs, H1, I1, r1, rfl, rfl⟩ := hv
  cases r1
  refine ⟨I1.kIn, ?_⟩
  rw [hks]
  have hbd := hb s1 [] I1.kIn rfl
  refine wpAny_call (codeAny_mono (F.run X.A X.stack s1 H1 ⟨[], []⟩ [] [] Q E0 hgd hr I1.env0 hbd .nil h) fun r s' hq => ?_)
  cases r with
  | error e => exact hq.elim
  | ok fl =>
    cases fl with
    | ret u => exact I1.after hq
    | next => exact hq.elim
    | brk => exact hq.elim
    | cont => exact hq.elim
theorem e_call0 {a : Addr} {ρ : Rho} {d : PyData} {R : List PyData → PyData → Prop} (C : CalG X.prog X.w X.K X.mg X.base k x [] (spR X.K R)) (hgd : X.A.guards = some []) (hr : Room k X.A) (hR : R [] d) (hg : Gl X x := by rfl) (hdb : (x == ("__debug__" : Str)) = false := by decide)
    (hall : (backToKw pos (keywordEach [] X.env)).all (·.1.isSome) = true := by rfl) (hks : (backToKw pos (keywordEach [] X.env)).filterMap (·.1) = [] := by rfl)
    (hpl : ((backTo pos (starEach [] X.env)).any (·.1) || (backToKw pos (keywordEach [] X.env)).any (·.1.isNone)) = false := by rfl) : EvE X a (.Call (.Name x p) [] [] pos) ρ d := fun T σ H S Q q =>
  toE (pe_call0G C hgd hr hg hdb hall hks hpl) ⟨T, [], d, S.dm, .nil, hR, fun v H2 s2 p2 => q v H2 s2 p2⟩
/-- m = _law_begun(..), and what follows -/
theorem r_begun {a : Addr} {ρ : Rho} {N : Rho → Prop} {R : PyData → Prop} {i : Nat} {y : Str} {pos' ps : Pos} {e : Expr} {es : List Expr} {xs : List Int} {kk : Nat} {sts : List Stmt} (G : Good X) (C : CalG X.prog X.w X.K X.mg X.base k x ["script", "k"] (spB X.K)) (hgd : X.A.guards = some []) (hr : Room k X.A)
    (ha : EvA X a (e :: es) ρ [lI xs, .int (kk : Int)]) (hk : kk ≤ 3) (hl : xs.length ≤ 63) (hb : BitsL 1100000 xs)
    (hrest : ∀ q, RunM X q sts ((ρ.map unh).set i (some .hnd)) 900000000000 (fun _ ρ' => N (ρ'.map unh)) (fun _ d => R d))
    (hi : X.N[i]? = some y := by rfl) (hx : Loc X.env.scope y := by first | exact Or.inl rfl | exact Or.inr rfl)
    (hs : swapsWith (.Call (.Name x p) (e :: es) [] pos) (some (.Name y pos')) ps.line X.env = pure false := by rfl) (hf : X.fn y = true ∨ X.env.scope.names.lookup y = some .local := by first | exact .inl rfl | exact .inr rfl)
    (hg : Gl X x := by rfl) (hdb : (x == ("__debug__" : Str)) = false := by decide) (he : starEach (e :: es) X.env = (false, eval e X.env) :: starEach es X.env := by exact star_of rfl) (hpl : (backTo pos (starEach es X.env)).any (·.1) = false := by exact star_no rfl) :
    Run X a (.Assign [.Name y pos'] (.Call (.Name x p) (e :: es) [] pos) ps :: sts) ρ N R := fun T σ H D S kn kr => by
  refine toSs (pss_cons js jss) (toS (ps_set G.nd hi hx (pe_callG C hgd hr ja hg hdb he hpl) hs hf) (ha T σ H S _ fun vs H1 s1 p1 => ⟨T, xs, kk, S.dm.same s1, p1, hk, hl, hb, fun q H2 hq s2 ms => ?_⟩))
  have S2 : SD X.K q T H2 (σ.set i (some (.ref q))) ((ρ.map unh).set i (some .hnd)) := (SD_unh ((S.same s1).same s2)).put (x := .hnd) rfl
  have key : ∀ {H'}, Kp q H2 H' → Sm H H' := fun {H'} kp => s1.trans ⟨fun b o h1 n => kp.ka.1 b o (fun z => by
      rw [z, hq] at h1
      cases h1) (s2.ob b o h1 n) n, fun P t => kp.tb P (s2.tb P t), fun b h => kp.dm b (s2.dm b h)⟩
  exact hrest q T _ H2 D S2 ms (fun σ' H' ρ' m kp S' _ hN => kn σ' H' _ (key kp) (SD_unh S') hN) fun v H' d m kp _ pd hR => kr v H' d (key kp) pd hR
end
/-- a def of the top, where the name finds it -/
structure Df (K : PySem.W.Frag) (x : Str) (st : Stmt) : Prop where
  ex : ∃ f fd, PySem.W.nsIn K mainGlobals x = some (some (.ref f)) ∧ Fun K x x st f fd
theorem df_mk {K : PySem.W.Frag} {x : Str} {st : Stmt} {f : Addr} {oc : Value} {od an : Option Addr} {osl : Array (Option Value)} {kV doc pm cdv ct : Value} (a : PySem.W.nsIn K mainGlobals x = some (some (.ref f)))
    (l : K.lookup f = some ⟨oc, od, .func (PySem.W.fnOf x x (defArgs st) (defBody st) (defScope st) .none kV doc pm an cdv ct), osl⟩)
    (c : PySem.W.codeIn K cdv x = true) (k : PySem.W.keepIn K (.ref f) = true) : Df K x st := ⟨_, _, a, fun_mk l c k⟩
def Tk (st : Stmt) (x : Str) (ps : List Str) : Prop := ∀ (kV doc pm : Value) (an : Option Addr) (cdv ct : Value) (us : List Value), us.length = ps.length → bindArgs (PySem.W.fnOf x x (defArgs st) (defBody st) (defScope st) .none kV doc pm an cdv ct) ⟨us, []⟩ = pure (ps.zip us)
theorem tk0 {st : Stmt} {x : Str} (e : ∀ (kV doc pm : Value) (an : Option Addr) (cdv ct : Value), bindArgs (PySem.W.fnOf x x (defArgs st) (defBody st) (defScope st) .none kV doc pm an cdv ct) ⟨[], []⟩ = pure []) : Tk st x [] := fun kV doc pm an cdv ct us hl => by
  match us, hl with
  | [], _ => exact e kV doc pm an cdv ct
theorem tk1 {st : Stmt} {x a : Str} (e : ∀ (kV doc pm : Value) (an : Option Addr) (cdv ct u : Value), bindArgs (PySem.W.fnOf x x (defArgs st) (defBody st) (defScope st) .none kV doc pm an cdv ct) ⟨[u], []⟩ = pure [(a, u)]) : Tk st x [a] := fun kV doc pm an cdv ct us hl => by
  match us, hl with
  | [u], _ => exact e kV doc pm an cdv ct u
theorem tk2 {st : Stmt} {x a b : Str} (e : ∀ (kV doc pm : Value) (an : Option Addr) (cdv ct u v : Value), bindArgs (PySem.W.fnOf x x (defArgs st) (defBody st) (defScope st) .none kV doc pm an cdv ct) ⟨[u, v], []⟩ = pure [(a, u), (b, v)]) : Tk st x [a, b] := fun kV doc pm an cdv ct us hl => by
  match us, hl with
  | [u, v], _ => exact e kV doc pm an cdv ct u v
theorem tk3 {st : Stmt} {x a b c : Str} (e : ∀ (kV doc pm : Value) (an : Option Addr) (cdv ct u v z : Value), bindArgs (PySem.W.fnOf x x (defArgs st) (defBody st) (defScope st) .none kV doc pm an cdv ct) ⟨[u, v, z], []⟩ = pure [(a, u), (b, v), (c, z)]) : Tk st x [a, b, c] := fun kV doc pm an cdv ct us hl => by
  match us, hl with
  | [u, v, z], _ => exact e kV doc pm an cdv ct u v z
section
variable {P : Program} {w : World} {K : PySem.W.Frag} {h base : Heap} {mg : Str → Option Value} {k : Nat} {x : Str} {st : Stmt} {ps : List Str} {sp : Sp}
theorem cal_mk (X : K.In h) (G : h.Ns mainGlobals mg) (d : Df K x st) (b : Tk st x ps) (ok : ∀ f fd, Fun K x x st f fd → FnOk P w K mg base CX0 k f fd ps sp) : Cal P w K mg base k x ps sp := by
  obtain ⟨f, fd, a, F⟩ := d.ex
  exact ⟨f, fd, ok f fd F, PySem.W.mg_of X G a, F.kp, F.binds b⟩
theorem calG_mk (X : K.In h) (G : h.Ns mainGlobals mg) (d : Df K x st) (b : Tk st x ps) (ok : ∀ f fd, Fun K x x st f fd → FnG P w K mg base CX0 k f fd ps sp) : CalG P w K mg base k x ps sp := by
  obtain ⟨f, fd, a, F⟩ := d.ex
  exact ⟨f, fd, ok f fd F, PySem.W.mg_of X G a, F.kp, F.binds b⟩
theorem calK_mk (X : K.In h) (G : h.Ns mainGlobals mg) (d : Df K x st) (ok : ∀ f fd, Fun K x x st f fd → FnOk P w K mg base CX0 k f fd ps sp) : CalK P w K mg base k x st ps sp := by
  obtain ⟨f, fd, a, F⟩ := d.ex
  exact ⟨f, fd, F, ok f fd F, PySem.W.mg_of X G a⟩
end
end Zj
/-! A list that grows: it stands out of sight while it does. -/
namespace Zj
open PySem PySem.Spec PyProof.Rows L2
variable [Nm]
theorem op_mulIB {X : Cx} : OpR X (binaryOp .Mult) (fun x y H Q => ∃ (i : Int) (b : Bool), x = .int i ∧ y = .bl b ∧ Q (.int (i * if b = true then 1 else 0)) H) := fun pins s σ H x y v u Q I rx ry h => by
  obtain ⟨i, b, rfl, rfl, q⟩ := h
  obtain ⟨t, rfl⟩ := rx
  cases ry
  exact PySem.IntBool.mul_int_bool ⟨.int _, H, I.tok _, ⟨_, rfl⟩, q⟩
theorem od_mulIB {X : Cx} {i : Int} {b : Bool} : OpD X (binaryOp .Mult) (.int i) (.bool b) (.int (i * if b = true then 1 else 0)) :=
  ⟨_, op_mulIB, fun T v1 v2 H dm p1 p2 Q q => ⟨i, b, dp_int p1, dp_bool p2, q _ H (Sm.refl H) (.int _)⟩⟩
section
variable {K : PySem.W.Frag} {H H' H0 : Hp} {T : Addr → Prop} {p : Addr} {acc acc' : List V}
theorem sm_putL (s : Sm H0 H) (h0 : H0 p = none) (h1 : H p = some (.lst acc)) : Sm H0 (upd H p (.lst acc')) := by
  refine ⟨fun b o e n => ?_, fun P t => ?_, fun b hb => ?_⟩
  · rw [upd_ne (fun z => by rw [z, h0] at e; cases e)]
    exact s.ob b o e n
  · obtain ⟨ps, g1, g2, g3⟩ := s.tb P t
    refine ⟨ps, by rw [upd_ne (fun z => by rw [z, h1] at g1; cases g1)]; exact g1, g2, fun pos cv hc => ?_⟩
    obtain ⟨c, e1, e2⟩ := g3 pos cv hc
    exact ⟨c, e1, by rw [upd_ne (fun z => by rw [z, h1] at e2; unfold LamX.CodeO at e2; cases e2)]; exact e2⟩
  · rw [upd_ne (fun z => hb (by rw [z]; exact h0))]
    exact s.dm b hb
theorem Din.putL (d : Din T H) (h1 : H p = some (.lst acc)) : Din T (upd H p (.lst acc')) := ⟨fun b hb => by
  by_cases e : b = p
  · rw [e, upd_same]
    exact fun z => by cases z
  · rw [upd_ne e]
    exact d.dn b hb, fun P hP => by
    obtain ⟨ps, g1, g2, g3⟩ := d.tb P hP
    refine ⟨ps, by rw [upd_ne (fun z => by rw [z, h1] at g1; cases g1)]; exact g1, g2, fun pos cv hc => ?_⟩
    obtain ⟨c, e1, e2⟩ := g3 pos cv hc
    exact ⟨c, e1, by rw [upd_ne (fun z => by rw [z, h1] at e2; unfold LamX.CodeO at e2; cases e2)]; exact e2⟩⟩
/-- all but what stands at p -/
def hole (p : Addr) (H : Hp) : Hp := fun b => if b = p then none else H b
theorem hole_ne {b : Addr} (h : b ≠ p) : hole p H b = H b := if_neg h
theorem hole_at : hole p H p = none := if_pos rfl
theorem sm_hole1 : Sm (hole p H) H := .of fun b o e => by
  by_cases hb : b = p
  · rw [hb, hole_at] at e
    cases e
  · rw [hole_ne hb] at e
    exact e
theorem sm_hole2 (s : Sm H0 H) (h0 : H0 p = none) (h1 : H p = some (.lst acc)) : Sm H0 (hole p H) := by
  refine ⟨fun b o e n => ?_, fun P t => ?_, fun b hb => ?_⟩
  · rw [hole_ne (fun z => by rw [z, h0] at e; cases e)]
    exact s.ob b o e n
  · obtain ⟨ps, g1, g2, g3⟩ := s.tb P t
    refine ⟨ps, by rw [hole_ne (fun z => by rw [z, h1] at g1; cases g1)]; exact g1, g2, fun pos cv hc => ?_⟩
    obtain ⟨c, e1, e2⟩ := g3 pos cv hc
    exact ⟨c, e1, by rw [hole_ne (fun z => by rw [z, h1] at e2; unfold LamX.CodeO at e2; cases e2)]; exact e2⟩
  · rw [hole_ne (fun z => hb (by rw [z]; exact h0))]
    exact s.dm b hb
/-- out of sight: T, and p -/
abbrev Also (T : Addr → Prop) (p : Addr) : Addr → Prop := fun b => T b ∨ b = p
end
section
variable {X : Cx} {a : Addr} {ρ : Rho} {e l r : Expr} {es : List Expr} {ds fs : List PyData} {d : PyData} {pos pos' p1 p2 : Pos} {i : Nat} {x : Str} {st : Stmt} {sts : List Stmt} {N : Rho → Prop} {R : PyData → Prop} {NL : Rho → List PyData → Prop}
/-- it makes a list of its own -/
def EvF (X : Cx) (a : Addr) (e : Expr) (ρ : Rho) (ds : List PyData) : Prop := ∀ T σ H, SD X.K a T H σ ρ → ∀ Q : VK, (∀ p acc H1, Sm H H1 → H1 p = none → DpAll X.K (off T H1) acc ds → Q (.ref p) (upd H1 p (.lst acc))) → JE X e σ H Q
theorem f_lst (h : EvA X a es ρ ds) (hl : ds.length ≤ 100000 := by first | (simp; done) | decide) : EvF X a (.List es pos) ρ ds := fun T σ H S Q q =>
  toE (pe_lst ja) (h T σ H S _ fun vs H1 s1 q1 => ⟨by rw [dps_len q1]; exact szl hl, fun p hp => q p vs H1 s1 hp q1⟩)
theorem f_cat (h1 : EvE X a l ρ (.list ds)) (h2 : EvE X a r ρ (.list fs)) (hl : ds.length + fs.length ≤ 100000) : EvF X a (.BinOp l .Add r pos) ρ (ds ++ fs) := fun T σ H S Q q =>
  toE (pe_op op_catX je je) (h1 T σ H S _ fun v1 H1 s1 q1 => h2 T σ H1 (S.same s1) _ fun v2 H2 s2 q2 => by
    obtain ⟨pa, xs, rfl, g1, g2⟩ := dpo_lst (dpo s2 q1)
    obtain ⟨pb, ys, rfl, g3, g4⟩ := dpo_lst q2
    exact ⟨pa, pb, xs, ys, rfl, rfl, g1, g3, by rw [dps_len g2, dps_len g4]; exact szl hl, fun p hp => q p _ H2 (s1.trans s2) hp (dps_append g2 g4)⟩)
/-- slot i holds the list that grows -/
abbrev ρp (ρ : Rho) (i : Nat) (p : Addr) : Rho := ρ.set i (some (.adr p))
structure Own (X : Cx) (a : Addr) (i : Nat) (T : Addr → Prop) (p : Addr) (H0 H : Hp) (σ : L2.St) (ρ : Rho) (ds : List PyData) : Prop where
  n0 : H0 p = none
  nT : ¬ T p
  sm : Sm H0 H
  sd : SD X.K a (Also T p) H σ (ρp ρ i p)
  lt : i < ρ.length
  at' : ∃ acc, H p = some (.lst acc) ∧ DpAll X.K (off (Also T p) H) acc ds
def RunL (X : Cx) (a : Addr) (i : Nat) (sts : List Stmt) (ρ : Rho) (ds : List PyData) (N : Rho → Prop) (R : PyData → Prop) : Prop := ∀ T p H0 σ H D, Own X a i T p H0 H σ ρ ds → (∀ σ' H' ρ', Sm H0 H' → SD X.K a T H' σ' ρ' → N ρ' → D.nx σ' H') → (∀ v H' d, Sm H0 H' → Dp X.K (off T H') v d → R d → D.rt v H') → JSs X sts D σ H
def RunLB (X : Cx) (a : Addr) (i : Nat) (sts : List Stmt) (ρ : Rho) (ds : List PyData) (NL : Rho → List PyData → Prop) (R : PyData → Prop) : Prop := ∀ T p H0 σ H D, Own X a i T p H0 H σ ρ ds → (∀ σ' H' ρ' ds', Own X a i T p H0 H' σ' ρ' ds' → NL ρ' ds' → D.nx σ' H') → (∀ v H' d, Sm H0 H' → Dp X.K (off T H') v d → R d → D.rt v H') → JSs X sts D σ H
def RunLS (X : Cx) (a : Addr) (i : Nat) (st : Stmt) (ρ : Rho) (ds : List PyData) (NL : Rho → List PyData → Prop) (R : PyData → Prop) : Prop := ∀ T p H0 σ H D, Own X a i T p H0 H σ ρ ds → (∀ σ' H' ρ' ds', Own X a i T p H0 H' σ' ρ' ds' → NL ρ' ds' → D.nx σ' H') → (∀ v H' d, Sm H0 H' → Dp X.K (off T H') v d → R d → D.rt v H') → JS X st D σ H
theorem l_cons (h : RunLS X a i st ρ ds (fun ρ' ds' => RunL X a i sts ρ' ds' N R) R) : RunL X a i (st :: sts) ρ ds N R := fun T p H0 σ H D O kn kr =>
  toSs (pss_cons js jss) (h T p H0 σ H { D with nx := fun σ' H' => JSs X sts D σ' H' } O (fun σ' H' ρ' ds' O' hN => hN T p H0 σ' H' D O' kn kr) kr)
theorem lb_cons (h : RunLS X a i st ρ ds (fun ρ' ds' => RunLB X a i sts ρ' ds' NL R) R) : RunLB X a i (st :: sts) ρ ds NL R := fun T p H0 σ H D O kn kr =>
  toSs (pss_cons js jss) (h T p H0 σ H { D with nx := fun σ' H' => JSs X sts D σ' H' } O (fun σ' H' ρ' ds' O' hN => hN T p H0 σ' H' D O' kn kr) kr)
theorem lb_nil (h : NL ρ ds) : RunLB X a i [] ρ ds NL R := fun T p H0 σ H D O kn kr => toSs pss_nil (kn σ H ρ ds O h)
theorem lb_one (h : RunLS X a i st ρ ds NL R) : RunLB X a i [st] ρ ds NL R := fun T p H0 σ H D O kn kr => toSs (pss_one js) (h T p H0 σ H D O kn kr)
theorem ρp_self {ρ : Rho} {y : Option DV} {p : Addr} : (ρp ρ i p).set i y = ρ.set i y := List.set_set ..
theorem Own.free {T : Addr → Prop} {p : Addr} {H0 H : Hp} {σ : L2.St} (O : Own X a i T p H0 H σ ρ ds) : SD X.K a T H σ (ρ.set i (some (.dat (.list ds)))) := by
  obtain ⟨acc, h1, h2⟩ := O.at'
  refine ⟨by rw [O.sd.len]; simp, ⟨fun b hb => O.sd.dm.dn b (.inl hb), O.sd.dm.tb⟩, fun j y e => ?_⟩
  by_cases hj : i = j
  · subst hj
    rw [List.getElem?_set_self O.lt] at e
    cases e
    obtain ⟨v, g1, g2⟩ := O.sd.sl i (.adr p) (by rw [List.getElem?_set_self O.lt])
    have g2 : v = .ref p := g2
    subst g2
    exact ⟨_, g1, .lst (.of (by rw [off_no O.nT]; exact h1)) (dps_same off_less h2)⟩
  · rw [List.getElem?_set_ne hj] at e
    obtain ⟨v, g1, g2⟩ := O.sd.sl j y (by rw [List.getElem?_set_ne hj]; exact e)
    refine ⟨v, g1, ?_⟩
    cases y with
    | dat d => exact dp_same off_less g2
    | hnd => exact g2
    | adr _ => exact g2
theorem l_free (h : Run X a sts (ρ.set i (some (.dat (.list ds)))) N R) : RunL X a i sts ρ ds N R := fun T p H0 σ H D O kn kr =>
  h T σ H D O.free (fun σ' H' ρ' s S' hN => kn σ' H' ρ' (O.sm.trans s) S' hN) fun v H' d s q hR => kr v H' d (O.sm.trans s) q hR
theorem r_new {y : Str} (G : Good X) (h : EvF X a e ρ ds) (hlt : i < ρ.length) (hn : RunL X a i sts ρ ds N R) (hi : X.N[i]? = some y := by rfl) (hx : Loc X.env.scope y := by first | exact Or.inl rfl | exact Or.inr rfl)
    (hs : swapsWith e (some (.Name y pos')) pos.line X.env = pure false := by rfl) (hf : X.fn y = true ∨ X.env.scope.names.lookup y = some .local := by first | exact .inl rfl | exact .inr rfl) : Run X a (.Assign [.Name y pos'] e pos :: sts) ρ N R := fun T σ H D S kn kr =>
  toSs (pss_cons js jss) (toS (ps_set G.nd hi hx je hs hf) (h T σ H S _ fun p acc H1 s1 hp q1 => by
    have S1 := S.same s1
    have n0 : H p = none := by
      cases q : H p with
      | none => rfl
      | some o => exact (s1.dm p (by rw [q]; exact fun z => by cases z) hp).elim
    have e0 : off (Also T p) (upd H1 p (.lst acc)) = off T H1 := off_more hp
    refine hn T p H _ _ D ⟨n0, fun z => S1.dm.dn p z hp, s1.trans (same_new hp), (S1.more hp).put (x := .adr p) rfl, hlt, acc, upd_same, by rw [e0]; exact q1⟩ kn kr))
/-- what leaves the list alone -/
theorem ls_of (h : ∀ p, RunS X a st (ρp ρ i p) (fun ρ1 => ∃ ρ', ρ1 = ρp ρ' i p ∧ i < ρ'.length ∧ NL ρ' ds) R) : RunLS X a i st ρ ds NL R := fun T p H0 σ H D O kn kr => by
  obtain ⟨acc, h1, h2⟩ := O.at'
  refine h p (Also T p) σ H D O.sd (fun σ' H' ρ1 s S' hN => ?_) fun v H' d s q hR => kr v H' d (O.sm.trans s) (dp_same off_less q) hR
  obtain ⟨ρ', rfl, hl, hN⟩ := hN
  exact kn σ' H' ρ' ds ⟨O.n0, O.nT, O.sm.trans s, S', hl, acc, s.ob _ _ h1 (by intro ps z; cases z), dpso s h2⟩ hN
theorem ls_append {y : Str} (h : ∀ p, EvE X a e (ρp ρ i p) d) (hn : NL ρ (ds ++ [d])) (hz : ds.length < 100000) (hi : X.N[i]? = some y := by rfl) (hv : Vis X.env.scope y := by first | exact Or.inl rfl | exact Or.inr (Or.inl rfl) | exact Or.inr (Or.inr rfl)) (hd : (y == ("__debug__" : Str)) = false := by decide) (hcd : (y == ("__classdict__" : Str)) = false := by decide)
    (hbase : attributeBase (.Name y p1) "append" X.env (eval (.Name y p1) X.env) = eval (.Name y p1) X.env := by rfl)
    (hfew : ((backTo pos (starEach [e] X.env)).all (fun x => !x.1) && (backToKw pos (keywordEach [] X.env)).all (fun x => x.1.isSome) && decide ([e].length + ([] : List Keyword).length + (if ([] : List Keyword).isEmpty then 0 else 1) < 30)) = true := by rfl)
    (hline : (p2.endLine == pos.line) = true := by rfl) (hst : starEach [e] X.env = (false, eval e X.env) :: starEach [] X.env := by exact star_of rfl) (hsw : swapsWith (.Call (.Attribute (.Name y p1) "append" p2) [e] [] pos) none pos'.line X.env = pure false := by rfl) :
    RunLS X a i (.Expr (.Call (.Attribute (.Name y p1) "append" p2) [e] [] pos) pos') ρ ds NL R := fun T p H0 σ H D O kn kr => by
  obtain ⟨acc, h1, h2⟩ := O.at'
  obtain ⟨v, g1, g2⟩ := O.sd.sl i (.adr p) (by rw [List.getElem?_set_self O.lt])
  have g2 : v = .ref p := g2
  subst g2
  refine toS (ps_expr (pe_bm PySem.F.plainAttrs_list PySem.F.slot_list_append PySem.F.type_list_append mt_append (pe_var hi hv hd hcd) (pa_cons je pa_nil hst) hbase hfew hline hst rfl) hsw) ⟨.ref p, g1, ?_, ?_⟩
  · exact .inl ⟨rfl, acc, .of h1⟩
  refine h p (Also T p) σ H O.sd _ fun y' H2 s2 q2 => ?_
  have a2 : H2 p = some (.lst acc) := s2.ob _ _ h1 (by intro ps z; cases z)
  refine ⟨p, acc, y', rfl, rfl, a2, Nat.lt_of_lt_of_le (by rw [dps_len h2]; exact hz) (szl (n := 100000) (Nat.le_refl _)), ?_⟩
  have S2 := O.sd.same s2
  have eo : off (Also T p) (upd H2 p (.lst (acc ++ [y']))) = off (Also T p) H2 := off_put (.inr rfl)
  refine kn σ _ ρ (ds ++ [d]) ⟨O.n0, O.nT, sm_putL (O.sm.trans s2) O.n0 a2, ⟨S2.len, S2.dm.putL a2, fun j z e => ?_⟩, O.lt, acc ++ [y'], upd_same, by rw [eo]; exact dps_snoc (dpso s2 h2) q2⟩ hn
  rw [eo]
  exact S2.sl j z e
theorem ls_if {c : Expr} {b : Bool} {body orelse : List Stmt} (hc : ∀ p, EvT X a c (ρp ρ i p) b) (h1 : b = true → RunLB X a i body ρ ds NL R) (h2 : b = false → RunLB X a i orelse ρ ds NL R) : RunLS X a i (.If c body orelse pos) ρ ds NL R := fun T p H0 σ H D O kn kr => by
  obtain ⟨acc, g1, g2⟩ := O.at'
  refine toS (ps_if jt jss jss) (hc p (Also T p) σ H O.sd _ fun H1 s1 => ?_)
  have O1 : Own X a i T p H0 H1 σ ρ ds := ⟨O.n0, O.nT, O.sm.trans s1, O.sd.same s1, O.lt, acc, s1.ob _ _ g1 (by intro ps z; cases z), dpso s1 g2⟩
  cases b with
  | true => exact iteT (h1 rfl T p H0 σ H1 D O1 kn kr)
  | false => exact iteF (h2 rfl T p H0 σ H1 D O1 kn kr)
theorem ls_for {tg it : Expr} {items : List PyData} {g : TG} {vs : List Nat} {f : PyData → Rho → Option Rho} {body : List Stmt} (G : Good X) (hs : ∀ p, Src X a tg it (ρp ρ i p) items) (hg : PG X tg g) (ht : TgSem X.K a g vs f) (J : Nat → Rho → List PyData → Prop) (h0 : J 0 ρ ds)
    (hb : ∀ n d ρ1 ds1, items[n]? = some d → J n ρ1 ds1 → i < ρ1.length → ∃ ρ2, (∀ p, f d (ρp ρ1 i p) = some (ρp ρ2 i p)) ∧ i < ρ2.length ∧ RunLB X a i body ρ2 ds1 (fun ρ' ds' => J (n + 1) ρ' ds') R) (hd : ∀ ρ' ds', J items.length ρ' ds' → NL ρ' ds')
    (hf : ∀ x, foldedSetIterable it X.env x = pure x := by intro _; rfl) : RunLS X a i (.For tg it body [] pos) ρ ds NL R := fun T p H0 σ H D O kn kr => by
  obtain ⟨acc0, a1, a2⟩ := O.at'
  obtain ⟨wi, hw, hq⟩ := hs p
  refine toS (ps_for G.ow G.calm hw hg jss hf) (hq (Also T p) σ H O.sd _ fun Ji H1 Gd Y s1 w hG hY => ?_)
  have O1 : Own X a i T p H0 H1 σ ρ ds := ⟨O.n0, O.nT, O.sm.trans s1, O.sd.same s1, O.lt, acc0, s1.ob _ _ a1 (by intro ps z; cases z), dpso s1 a2⟩
  have sees : ∀ {H'}, (∀ b o, b ≠ p → H1 b = some o → (∀ ps, o ≠ .tbl ps) → H' b = some o) → Din (Also T p) H' → Sees (Also T p) H1 (Also T p) H' := fun {H'} k dm => ⟨dm, fun b o e n => by
    obtain ⟨e1, e2⟩ := off_some e
    rw [off_no e2]
    exact k b o (fun z => e2 (.inr z)) e1 n⟩
  refine for_it w (fun n σ' H' => (∀ b o, b ≠ p → H1 b = some o → (∀ ps, o ≠ .tbl ps) → H' b = some o) ∧ ∃ ρ' ds', Own X a i T p H0 H' σ' ρ' ds' ∧ J n ρ' ds') ⟨fun b o _ e _ => e, ρ, ds, O1, h0⟩
    (fun n σ' H' _ hp => hG _ H' (by obtain ⟨k, _, _, O', _⟩ := hp; exact sees k O'.sd.dm)) (fun n x σ' H' H'' hi hp y => ?_) fun σ' H' hp => ?_
  · obtain ⟨k, ρ1, ds1, O', hj⟩ := hp
    obtain ⟨s3, d, hdi, pd⟩ := hY _ n H' x H'' hi (sees k O'.sd.dm) y
    obtain ⟨ρ2, e2, hl2, hrun⟩ := hb n d ρ1 ds1 hdi hj O'.lt
    obtain ⟨acc, b1, b2⟩ := O'.at'
    have c1 : H'' p = some (.lst acc) := s3.ob _ _ b1 (by intro ps z; cases z)
    refine ht (Also T p) σ' H'' x d _ _ (O'.sd.same s3) pd (e2 p) _ fun σ2 S2 _ => ?_
    refine hrun T p (hole p H'') σ2 H'' _ ⟨hole_at, O.nT, sm_hole1, S2, hl2, acc, c1, dpso s3 b2⟩ (fun σ3 H3 ρ3 ds3 O3 j3 => ?_) fun v H3 d' s4 q4 hR => kr v H3 d' ((sm_hole2 (O'.sm.trans s3) O.n0 c1).trans s4) q4 hR
    refine ⟨fun b o hb e n => O3.sm.ob b o (by rw [hole_ne hb]; exact s3.ob b o (k b o hb e n) n) n, ρ3, ds3, ⟨O.n0, O.nT, (sm_hole2 (O'.sm.trans s3) O.n0 c1).trans O3.sm, O3.sd, O3.lt, O3.at'⟩, j3⟩
  · obtain ⟨k, ρ1, ds1, O', hj⟩ := hp
    exact kn σ' H' ρ1 ds1 O' (hd ρ1 ds1 hj)
end
end Zj
namespace Zj
open PySem PySem.Spec PyProof.Rows L2
variable [Nm]
/-- the name that a lambda of the def x bears -/
def lq (x : Str) : Str := (envOfC x { kind := .function, names := [], isGenerator := false, isCoroutine := false } 0 0 .none).qual ++ "<lambda>"
/-- the table of a def with lambdas -/
structure Lmb (base : Heap) (mg : Str → Option Value) (fd : FuncData) (x : Str) : Prop where
  ex : ∃ c P, fd.code = .ref c ∧ LamX.TabB base mg c P ∧ P ∈ Nm.tabs ∧ Nm.nm P = lq x
section
variable {X : Cx} {a : Addr} {ρ : Rho} {scope : Scope} {o : Out} {f : Str} {ps : List Str} {R : List PyData → Out → Prop} {ds : List PyData} {e : Expr} {es : List Expr} {p pos : Pos} {kk : Nat} {kws : List Keyword} {ks : List Str} {st : Stmt}
theorem lam_call (C : CalX X.prog X.w X.K X.mg X.base kk f ps (spX X.K X.mg R)) (hR : R ds o) (ha : ∀ A outer s H E f' c', EvA (lamX X A outer s H E scope f' c') a (e :: es) ρ ds) (hg : ∀ A outer s H E f' c', Gl (lamX X A outer s H E scope f' c') f := by intros; rfl) (hdb : (f == ("__debug__" : Str)) = false := by decide)
    (he : ∀ env : Env, starEach (e :: es) env = (false, eval e env) :: starEach es env := by exact fun _ => star_of rfl) (hpl : ∀ env : Env, (backTo pos (starEach es env)).any (·.1) = false := by exact fun _ => star_no rfl) : LamO X a ρ scope (.Call (.Name f p) (e :: es) [] pos) kk o := fun A outer s H E f' c' hgd hr => by
  cases o with
  | ok d => exact e_callX (X := lamX X A outer s H E scope f' c') C hr (ha A outer s H E f' c') hR (hg A outer s H E f' c') hdb (he _) (hpl _)
  | ex x => exact x_call (X := lamX X A outer s H E scope f' c') C hr (ha A outer s H E f' c') hR (hg A outer s H E f' c') hdb (he _) (hpl _)
theorem lam_callK (fl : Bool) (hne : ps ≠ []) (C : CalXK X.prog X.w X.K X.mg X.base kk f st ps (spX X.K X.mg R)) (hR : R (turn2 fl ds) o) (ha : ∀ A outer s H E f' c', EvK (lamX X A outer s H E scope f' c') a kws ρ ds)
    (hb : ∀ (kV doc pm : Value) (an : Option Addr) (cdv ct : Value) (ws : List Value), ws.length = ps.length → bindArgs (PySem.W.fnOf f f (defArgs st) (defBody st) (defScope st) .none kV doc pm an cdv ct) ⟨[], ks.zip ws⟩ = pure (ps.zip (turn2 fl ws)))
    (hg : ∀ A outer s H E f' c', Gl (lamX X A outer s H E scope f' c') f := by intros; rfl) (hall : ∀ env : Env, (backToKw pos (keywordEach kws env)).all (·.1.isSome) = true := by intros; rfl) (hks : ∀ env : Env, (backToKw pos (keywordEach kws env)).filterMap (·.1) = ks := by intros; rfl)
    (hdb : (f == ("__debug__" : Str)) = false := by decide) (hpl : ∀ env : Env, ((backTo pos (starEach [] env)).any (·.1) || (backToKw pos (keywordEach kws env)).any (·.1.isNone)) = false := by intros; rfl) :
    LamO X a ρ scope (.Call (.Name f p) [] kws pos) kk o := fun A outer s H E f' c' hgd hr => by
  cases o with
  | ok d => exact e_callXK (X := lamX X A outer s H E scope f' c') fl hne C hr (ha A outer s H E f' c') hR hb (hg A outer s H E f' c') (hall _) (hks _) hdb (hpl _)
  | ex x => exact x_callK (X := lamX X A outer s H E scope f' c') fl hne C hr (ha A outer s H E f' c') hR hb (hg A outer s H E f' c') (hall _) (hks _) hdb (hpl _)
theorem src_ZL {e2 : Expr} {elts : List Expr} {kc : Nat} {tpos : Pos} {ds2 : List PyData} (h : EvA X a [e, e2] ρ [.list ds, .list ds2]) (hm : X.mg "zip" = none) (hg : Gl X "zip" := by rfl)
    (hs : starEach [e, e2] X.env = (false, eval e X.env) :: starEach [e2] X.env := by exact star_of rfl) (hpl : (backTo pos (starEach [e2] X.env)).any (·.1) = false := by exact star_no rfl) :
    Src X a (.Tuple elts kc tpos) (.Call (.Name "zip" p) [e, e2] [] pos) ρ (List.zipWith (fun x y => PyData.tuple [x, y]) ds ds2) := ⟨_, RZ.pi_zipA hg hm ja hs hpl, fun T σ H S Rr kr => h T σ H S _ fun vs H1 s1 p1 => by
  obtain ⟨v, v2, rfl, q, q2⟩ := dps2 p1
  obtain ⟨pa, xs, rfl, g1, g2⟩ := dp_lst q
  obtain ⟨pb, ys, rfl, g3, g4⟩ := dp_lst q2
  have hl := dps_len g2
  have hl2 := dps_len g4
  refine ⟨pa, pb, xs, ys, rfl, .inl ⟨same_l off_in _ _ g1, same_l off_in _ _ g3, kr _ H1 _ _ s1 (walk_zip (xs := xs) (ys := ys) (by rw [List.length_zipWith, hl, hl2])) (fun T' H' s => ⟨same_l off_in _ _ (same_l s.2 _ _ g1), same_l off_in _ _ (same_l s.2 _ _ g3)⟩) fun T' i H' x H'' hin s y => ?_⟩⟩
  obtain ⟨T0, y1, y2, rfl, hT, rfl, e1, e2⟩ := y
  have e1 : xs[i]? = some y1 := e1
  have e2 : ys[i]? = some y2 := e2
  obtain ⟨d, hd⟩ : ∃ d, ds[i]? = some d := by
    have := (List.getElem?_eq_some_iff.mp e1).1
    exact ⟨ds[i]'(by omega), by simp⟩
  obtain ⟨d2, hd2⟩ : ∃ d, ds2[i]? = some d := by
    have := (List.getElem?_eq_some_iff.mp e2).1
    exact ⟨ds2[i]'(by omega), by simp⟩
  obtain ⟨v, hv, pv⟩ := dps_get g2 hd
  rw [e1] at hv
  cases hv
  obtain ⟨v2, hv2, pv2⟩ := dps_get g4 hd2
  rw [e2] at hv2
  cases hv2
  exact ⟨same_new hT, _, by rw [List.getElem?_zipWith, hd, hd2], dpo_pair s.1 hT (dp_same s.2 pv) (dp_same s.2 pv2)⟩⟩
theorem od_catA {es fs : List PyData} (hl : es.length + fs.length ≤ 100000) : OpD X (binaryOp .Add) (.tuple es) (.tuple fs) (.tuple (es ++ fs)) :=
  ⟨_, op_catA, fun T v1 v2 H dm q1 q2 Q q => by
    obtain ⟨pa, xs, rfl, g1, g2⟩ := dpo_tup q1
    obtain ⟨pb, ys, rfl, g3, g4⟩ := dpo_tup q2
    have l1 := dps_len g2
    have l2 := dps_len g4
    refine ⟨pa, pb, xs, ys, rfl, rfl, g1, g3, by rw [l1, l2]; exact szl hl, fun z => ?_, fun z1 z2 => ?_, fun z1 z2 r hr => q _ _ (same_new hr) (dpo_newT dm hr (dps_append g2 g4))⟩
    · rw [z] at l1
      rw [List.eq_nil_of_length_eq_zero l1.symm] at q
      exact q _ H (Sm.refl H) q2
    · rw [z2] at l2
      rw [List.eq_nil_of_length_eq_zero l2.symm, List.append_nil] at q
      exact q _ H (Sm.refl H) q1⟩
theorem e_slA {eo : Expr} {lo hi : Option Expr} {xl xh : Option Int} {pp : Pos} (h1 : EvE X a eo ρ (.tuple ds)) (h2 : EvO X a lo ρ xl) (h3 : EvO X a hi ρ xh) : EvE X a (.Subscript eo (.Slice lo hi none pp) pos) ρ (.tuple (cutD ds xl xh)) := fun T σ H S Q q => by
  obtain ⟨tl, g2, k2⟩ := h2
  obtain ⟨th, g3, k3⟩ := h3
  refine toE (pe_slice sl_tupA je g2 g3) (h1 T σ H S _ fun v1 H1 s1 q1 => k2 T σ H1 (S.same s1) _ fun H2 s2 => k3 T σ H2 (S.same (s1.trans s2)) _ fun H3 s3 => ?_)
  have q3 := dpo (s2.trans s3) q1
  obtain ⟨pa, xs, rfl, g4, g5⟩ := dpo_tup q3
  have hl := dps_len g5
  refine ⟨pa, xs, rfl, g4, fun z => ?_, fun _ p' hp => q _ _ (((s1.trans s2).trans s3).trans (same_new hp)) (dpo_newT (S.dm.same ((s1.trans s2).trans s3)) hp (cut_dps g5 xl xh))⟩
  have e : cutD ds xl xh = ds := by
    unfold cutD
    rw [← hl, z.1, z.2, List.drop_zero, Nat.sub_zero, hl, List.take_length]
  rw [e] at q
  exact q _ _ ((s1.trans s2).trans s3) q3
end
end Zj
namespace Zj
open PySem PySem.Spec PyProof.Rows L2
variable [Nm]
section
variable {X : Cx} {a : Addr} {ρ : Rho} {m i : Nat} {b : Int} {e : Expr} {p pm pos : Pos} {y : Str}
/-- a number from 0 to b - 1 is drawn -/
theorem m_draw (C : CalG X.prog X.w X.K X.mg X.base 1 "_law_draw" ["m", "bound"] (spM X.K 1 R_draw)) (hgd : X.A.guards = some []) (hr : Room 1 X.A) (hi : ρ[i]? = some (some .hnd)) (he : EvE X a e ρ (.int b)) (h0 : 0 < b) (hb : b < 2 ^ 60)
    (hN : X.N[i]? = some y := by rfl) (hv : Vis X.env.scope y := by first | exact Or.inl rfl | exact Or.inr (Or.inl rfl) | exact Or.inr (Or.inr rfl)) (hd : (y == ("__debug__" : Str)) = false := by decide) (hcd : (y == ("__classdict__" : Str)) = false := by decide)
    (hs : starEach [.Name y pm, e] X.env = (false, eval (.Name y pm) X.env) :: starEach [e] X.env := by exact star_of rfl) (hs2 : starEach [e] X.env = (false, eval e X.env) :: starEach [] X.env := by exact star_of rfl) (hg : Gl X "_law_draw" := by rfl) (hpl : (backTo pos (starEach [e] X.env)).any (·.1) = false := by exact star_no rfl) :
    EvM X a (.Call (.Name "_law_draw" p) [.Name y pm, e] [] pos) ρ (m + 1) m (fun d => ∃ r : Int, d = .int r ∧ 0 ≤ r ∧ r < b) :=
  m_call C hgd hr hi (a_cons he a_nil hs2) ⟨b, rfl, h0, bits_small (by omega) hb, fun r r0 r1 => ⟨r, rfl, r0, r1⟩⟩ (Nat.le_refl _) hN hv hd hcd hs hg (by decide) hpl
end
end Zj
/-! Written data. -/
namespace Zj
open PySem PySem.Spec PyProof.Rows L2
mutual
/-- whether an expression of constants is the data -/
def isC : Expr → PyData → Bool
  | .Constant (.int i) _ _, .int j => decide (i = j)
  | .Constant (.bool b) _ _, .bool c => b == c
  | .Constant (.str s) _ _, .str t => decide (s = t)
  | .Constant .none _ _, .none => true
  | .UnaryOp .USub (.Constant (.int i) _ _) _, .int j => decide (-i = j)
  | .Tuple es _ _, .tuple ds => decide (ds.length ≤ 100000) && isCs es ds
  | .List es _, .list ds => decide (ds.length ≤ 100000) && isCs es ds
  | _, _ => false
def isCs : List Expr → List PyData → Bool
  | [], [] => true
  | e :: es, d :: ds => notStar e && (isC e d && isCs es ds)
  | _, _ => false
end
variable [Nm]
mutual
theorem e_const {X : Cx} {a : Addr} {ρ : Rho} (e : Expr) (d : PyData) (h : isC e d = true) : EvE X a e ρ d := by
  unfold isC at h
  split at h
  · obtain rfl := of_decide_eq_true h
    exact e_int
  · obtain rfl := eq_of_beq h
    exact e_bl
  · obtain rfl := of_decide_eq_true h
    exact e_str
  · exact e_non
  · obtain rfl := of_decide_eq_true h
    exact e_neg e_int
  · rw [Bool.and_eq_true] at h
    exact e_tup (a_const _ _ h.2) (of_decide_eq_true h.1)
  · rw [Bool.and_eq_true] at h
    exact e_lst (a_const _ _ h.2) (of_decide_eq_true h.1)
  · cases h
termination_by sizeOf e
theorem a_const {X : Cx} {a : Addr} {ρ : Rho} (es : List Expr) (ds : List PyData) (h : isCs es ds = true) : EvA X a es ρ ds := by
  unfold isCs at h
  split at h
  · exact a_nil
  · rw [Bool.and_eq_true, Bool.and_eq_true] at h
    exact a_cons (e_const _ _ h.2.1) (a_const _ _ h.2.2) (star_of h.1)
  · cases h
termination_by sizeOf es
end
theorem e_c {X : Cx} {a : Addr} {ρ : Rho} {e : Expr} {d : PyData} (h : isC e d = true) : EvE X a e ρ d := e_const e d h
theorem a_c {X : Cx} {a : Addr} {ρ : Rho} {es : List Expr} {ds : List PyData} (h : isCs es ds = true) : EvA X a es ρ ds := a_const es ds h
end Zj
namespace Zj
open PySem PySem.Spec PyProof.Rows L2
variable [Nm]
section
variable {X : Cx} {a : Addr} {ρ : Rho} {n m k lv : Nat} {e f : Expr} {es rest : List Expr} {pos p : Pos} {PB : Bool → Prop} {P : PyData → Prop} {x : Str} {ps : List Str}
theorem mt_andT (h : EvT X a e ρ true) (h2 : EvMT X a (.BoolOp .And (f :: rest) pos) ρ n k PB) : EvMT X a (.BoolOp .And (e :: f :: rest) pos) ρ n k PB := fun T σ H S ms Q q =>
  toT (PW.pt (pw_and jt pw_self)) (h T σ H S _ fun H1 s1 => iteT (h2 T σ H1 (S.same s1) (ms.same (off_same s1)) _ fun b H2 s2 ms2 hb => q b H2 ((Kp.of s1).trans s2) ms2 hb))
theorem mt_and1 (h : EvMT X a e ρ n m PB) : EvMT X a (.BoolOp .And [e] pos) ρ n m PB := fun T σ H S ms Q q => toT (PW.pt (pw_and1 jt)) (h T σ H S ms Q q)
/-- a def that keeps all and asks for texts, of what was drawn -/
theorem m_callRG {R : List PyData → PyData → Prop} {PA : List PyData → Prop} (C : CalG X.prog X.w X.K X.mg X.base lv x ps (spR X.K R)) (hgd : X.A.guards = some []) (hr : Room lv X.A) (ha : EvMA X a (e :: es) ρ n m PA) (hR : ∀ ds, PA ds → ∃ d, R ds d ∧ P d)
    (hg : Gl X x := by rfl) (hdb : (x == ("__debug__" : Str)) = false := by decide) (he : starEach (e :: es) X.env = (false, eval e X.env) :: starEach es X.env := by exact star_of rfl) (hpl : (backTo pos (starEach es X.env)).any (·.1) = false := by exact star_no rfl) :
    EvM X a (.Call (.Name x p) (e :: es) [] pos) ρ n m P := fun T σ H S ms Q q =>
  toE (pe_callG C hgd hr ja hg hdb he hpl) (ha T σ H S ms _ fun vs ds H1 s1 ms1 p1 hp => by
    obtain ⟨d, h1, h2⟩ := hR ds hp
    exact ⟨T, ds, d, (S.kpo s1 ms).dm, p1, h1, fun v H2 s2 p2 => q v d H2 (s1.trans (.of s2)) (ms1.same (off_same s2)) p2 h2⟩)
end
end Zj
/-! The law's own call, at the top, where tables of code objects are filled. -/
namespace Zj
open PySem PySem.Spec PyProof.Rows L2
section
variable {P : Program} {w : World} {K : PySem.W.Frag} {mg mb : Str → Option Value} {k : Nat} {fa a : Addr} {fd : FuncData} {x : Str} {sp : Sp} {s1 : Shared} {vs : List Value} {ns : List Int} {cs : List (Addr × Addr)}
theorem tab_empty {H : Hp} {Pt : Addr} {q : Str} (h : H Pt = some (.tbl #[])) : LamX.TabS H Pt q := ⟨#[], h, trivial, fun pos cv hc => by cases hc⟩
/-- from an abstract heap that tracks the script or nothing, and the tables -/
theorem law_coreT (KX : K.In s1.heap) (hns : s1.heap.Ns mainGlobals mg) (hb : s1.heap.Ns builtinsNs mb) (hbb : ∀ x : Str, x ≠ "__name__" → mb x = bootBuiltins x) (hlim : s1.heap.NoLimit) (hg : s1.gens = #[])
    (hT : ∀ p ∈ cs, s1.heap.get? p.2 = some { cls := .none, data := .fields #[] }) (nT : ∀ p ∈ cs, K.lookup p.2 = none) (hC : ∀ p ∈ cs, PySem.W.CodeHd s1.heap p.1 p.2)
    (hbm : ∃ (bm : Addr) (ob : Obj), mg "__builtins__" = some (.ref bm) ∧ bm ≠ builtinsNs ∧ s1.heap.get? bm = some ob ∧ ob.cls = .type "module" ∧ ob.dict = some builtinsNs ∧ ob.data = .plain)
    (ha : s1.heap.get? a = some { cls := .type "list", data := .seq vs.toArray }) (hr : Room k callerA)
    (F : ∀ base : Heap, K.In base → base.Ns mainGlobals mg → (∀ p ∈ cs, LamX.TabB base mg p.1 p.2) → FnG P w K mg base CX0 k fa fd [x] sp) (hbind : ∀ (s : Shared) (u : Value), BindsTo s fd ⟨[u], []⟩ [(x, u)])
    {H : Hp} (hH : ∀ p ∈ cs, H p.2 = some (.tbl #[])) (hO : ∀ b, H b = none ∨ (∃ p ∈ cs, p.2 = b) ∨ ∃ o xs, H b = some (.frz o (.lst xs))) (hok : HOk P w H s1.heap) (hA : ∀ b, H b ≠ none → b = a ∨ ∃ p ∈ cs, p.2 = b) (hK : H a ≠ none → K.lookup a = none)
    (hsp : sp [.ref a] H (fun v _ => v = .bl true) fun _ _ _ => False) :
    codeAny (model P w) callerA (.call (.ref fa) ⟨[.ref a], []⟩) (fun r s' => r = .ok (.ret (.bool true)) ∧ OldK s1.heap s'.heap ∧ s'.os = s1.os ∧ AllBare s'.gens) s1 := by
  have only : ∀ {b : Addr} {o : Obj}, s1.heap.get? b = some o → (∀ vs n, o.data ≠ .seq vs n) → o.data ≠ .fields #[] → H b = none := fun {b o} e d1 d2 => by
    cases q : H b with
    | none => rfl
    | some u =>
      rcases hA b (by rw [q]; exact fun z => by cases z) with e' | ⟨p, hp, e'⟩
      · rw [e', ha] at e
        cases e
        exact (d1 _ _ rfl).elim
      · rw [← e', hT p hp] at e
        cases e
        exact (d2 rfl).elim
  have ns' : ∀ {b : Addr} {m : Str → Option Value}, s1.heap.Ns b m → (hidT s1.heap H).Ns b m := fun {b m} ⟨o, es, ep, e, d, r⟩ =>
    ⟨o, es, ep, hidT_get e (only e (fun vs n z => by rw [d] at z; cases z) fun z => by rw [d] at z; cases z), d, r⟩
  have kin : K.In (hidT s1.heap H) := fun b o e => by
    refine hidT_get (KX b o e) ?_
    cases q : H b with
    | none => rfl
    | some u =>
      rcases hA b (by rw [q]; exact fun z => by cases z) with e' | ⟨p, hp, e'⟩
      · subst e'
        rw [hK (by rw [q]; exact fun z => by cases z)] at e
        cases e
      · rw [← e', nT p hp] at e
        cases e
  have tb : ∀ p ∈ cs, LamX.TabB (hidT s1.heap H) mg p.1 p.2 := fun p hp => by
    have tp := hT p hp
    have gl : mainGlobals ≠ p.2 := fun z => by
      obtain ⟨o, es, ep, e, d, _⟩ := hns
      rw [z, tp] at e
      cases e
      cases d
    refine ⟨?_, ?_, gl⟩
    · obtain ⟨o, us, file, tf, flags, tg, inF, text, tt, c1, c2, c3, c4, c5⟩ := hC p hp
      refine ⟨o, us, file, tf, flags, tg, inF, text, tt, hidT_get c1 (only c1 (fun vs n z => by rw [c3] at z; cases z) fun z => ?_), c2, c3, c4, c5⟩
      rw [c3] at z
      cases z
      simp at c4
    · obtain ⟨bm, ob, b1, b2, b3, b4, b5, b6⟩ := hbm
      refine ⟨bm, ob, b1, b2, fun z => ?_, fun z => ?_, hidT_get b3 (only b3 (fun vs n z => by rw [b6] at z; cases z) fun z => by rw [b6] at z; cases z), b4, b5, b6⟩
      · obtain ⟨o, es, ep, e, d, _⟩ := hns
        rw [z, e] at b3
        cases b3
        rw [d] at b6
        cases b6
      · rw [z, tp] at b3
        cases b3
        cases b6
  obtain ⟨mc, lim1, lim2⟩ := hlim
  have md : L2.Mod K mg (hidT s1.heap H) := ⟨kin, ns' hns, ⟨mb, ns' hb, hbb⟩, ⟨mc, ns' lim1, lim2⟩⟩
  have e0 : Env0 P w K mg (hidT s1.heap H) callerA [] s1 H := {
    frames := rfl
    mod := md
    bs := fun b o e => of_hidT e
    bsz := Nat.le_of_eq (hidT_size _ _)
    funs := trivial
    frf := fun b z => by cases z
    hok := hok
    bare := .of_eq hg }
  have run := (F _ kin (ns' hns) tb).run callerA [] s1 H ⟨[.ref a], []⟩ [.ref a] [.ref a] _ _ rfl hr e0 (hbind s1 (.ref a)) (.cons rfl .nil) hsp
  refine codeAny_mono run fun r s' h => ?_
  match r, h with
  | .error e, h => exact h.elim
  | .ok .next, h => exact h.elim
  | .ok .brk, h => exact h.elim
  | .ok .cont, h => exact h.elim
  | .ok (.ret u), h =>
    obtain ⟨v, H', os, bare, un, hok', r', q⟩ := h
    cases q
    cases r'
    have stay : ∀ b o, (¬ ∃ p ∈ cs, p.2 = b) → s1.heap.get? b = some o → s'.heap.get? b = some o := fun b o nb e => by
      rcases hO b with z | z | ⟨ob, xs, z⟩
      · exact un.keep b o e z (fun y => by cases y) (fun y => by cases y)
      · exact absurd z nb
      · have g1 := (hok b _ z).1
        have g2 := (hok' b _ (un.frzs b ob _ z)).1
        rw [e] at g1
        cases g1
        exact g2
    have grew : ∀ p ∈ cs, ∃ more : Array Value, s'.heap.get? p.2 = some { cls := .none, data := .fields more } := fun p hp => by
      obtain ⟨more, z⟩ := un.tbls p.2 #[] (hH p hp)
      exact ⟨_, hok' p.2 _ z⟩
    refine ⟨rfl, ⟨fun b o e => ?_, fun b o e => ?_⟩, os, bare⟩
    · by_cases hb' : ∃ p ∈ cs, p.2 = b
      · obtain ⟨p, hp, ep⟩ := hb'
        obtain ⟨more, hm⟩ := grew p hp
        subst ep
        rw [hT p hp] at e
        cases e
        exact .inr (.inl ⟨((hC p hp).tab (hT p hp)).isCodeTable, rfl, #[], more, rfl, by rw [Array.empty_append]; exact hm⟩)
      · exact .inl (stay b o hb' e)
    · by_cases hb' : ∃ p ∈ cs, p.2 = b
      · obtain ⟨p, hp, ep⟩ := hb'
        obtain ⟨more, hm⟩ := grew p hp
        subst ep
        exact ⟨_, hm⟩
      · exact ⟨o, stay b o hb' e⟩
/-- what is known of the law's promise at the head's heap h -/
structure LawG (P : Program) (w : World) (K : PySem.W.Frag) (k n : Nat) (x : Str) (mg : Str → Option Value) (fa : Addr) (h : Heap) (fd : FuncData) (cs : List (Addr × Addr)) (sp : Sp) : Prop where
  hT : ∀ p ∈ cs, h.get? p.2 = some { cls := .none, data := .fields #[] }
  nT : ∀ p ∈ cs, K.lookup p.2 = none
  hC : ∀ p ∈ cs, PySem.W.CodeHd h p.1 p.2
  hb : ∀ (s : Shared) (u : Value), BindsTo s fd ⟨[u], []⟩ [(x, u)]
  hsp : ∀ (H : Hp) (a : Addr) (ns : List Int), ns.length ≤ n → (∀ z ∈ ns, Builtin.Int.intBits z ≤ 1048576) → (∀ p ∈ cs, H p.2 = some (.tbl #[])) → SqL K H a (ns.map V.int) → sp [.ref a] H (fun v _ => v = .bl true) fun _ _ _ => False
  hF : ∀ base : Heap, K.In base → base.Ns mainGlobals mg → (∀ p ∈ cs, LamX.TabB base mg p.1 p.2) → FnG P w K mg base CX0 k fa fd [x] sp
theorem law_endT {n : Nat} (L : LawG P w K k n x mg fa s1.heap fd cs sp) (KX : K.In s1.heap) (hns : s1.heap.Ns mainGlobals mg) (hb : s1.heap.Ns builtinsNs mb) (hbb : ∀ x : Str, x ≠ "__name__" → mb x = bootBuiltins x) (hlim : s1.heap.NoLimit) (hg : s1.gens = #[])
    (hbm : ∃ (bm : Addr) (ob : Obj), mg "__builtins__" = some (.ref bm) ∧ bm ≠ builtinsNs ∧ s1.heap.get? bm = some ob ∧ ob.cls = .type "module" ∧ ob.dict = some builtinsNs ∧ ob.data = .plain)
    (ha : s1.heap.get? a = some { cls := .type "list", data := .seq vs.toArray }) (hi : IntsAre vs ns) (hl : ns.length ≤ n) (hl2 : n ≤ sizeLine) (hbits : ∀ z ∈ ns, Builtin.Int.intBits z ≤ 1048576) (hr : Room k callerA) :
    codeAny (model P w) callerA (.call (.ref fa) ⟨[.ref a], []⟩) (fun r s' => r = .ok (.ret (.bool true)) ∧ OldK s1.heap s'.heap ∧ s'.os = s1.os ∧ AllBare s'.gens) s1 := by
  have rv := vals_ints hi
  have hl3 := Nat.le_trans hl hl2
  have aT : ¬ ∃ p ∈ cs, p.2 = a := fun ⟨p, hp, e⟩ => by
    have q := L.hT p hp
    rw [e, ha] at q
    cases q
  -- the tables, and the script where the written part has it not
  let H0 : Hp := fun b => open Classical in if ∃ p ∈ cs, p.2 = b then some (.tbl #[]) else if b = a ∧ K.lookup a = none then some (.frz { cls := .type "list", data := .seq vs.toArray } (.lst (ns.map V.int))) else none
  have t0 : ∀ p ∈ cs, H0 p.2 = some (.tbl #[]) := fun p hp => if_pos ⟨p, hp, rfl⟩
  have o0 : ∀ {b : Addr}, (¬ ∃ p ∈ cs, p.2 = b) → ¬ (b = a ∧ K.lookup a = none) → H0 b = none := fun h1 h2 => (if_neg h1).trans (if_neg h2)
  have a0 : K.lookup a = none → H0 a = some (.frz { cls := .type "list", data := .seq vs.toArray } (.lst (ns.map V.int))) := fun h => (if_neg aT).trans (if_pos ⟨rfl, h⟩)
  have hS : SqL K H0 a (ns.map V.int) := by
    cases hk : K.lookup a with
    | some o =>
      have e := KX a o hk
      rw [ha] at e
      cases e
      exact .inr ⟨_, vs.toArray, _, hk, rfl, rfl, rfl, by rw [List.size_toArray, hi.length]; exact hl3, by simpa using rv⟩
    | none => exact .inl (.inr ⟨_, a0 hk⟩)
  refine law_coreT (H := H0) KX hns hb hbb hlim hg L.hT L.nT L.hC hbm ha hr L.hF L.hb t0 (fun b => ?_) (fun b u z => ?_) (fun b z => ?_) (fun z => ?_) (L.hsp H0 a ns hl hbits t0 hS)
  · by_cases h1 : ∃ p ∈ cs, p.2 = b
    · exact .inr (.inl h1)
    · by_cases h2 : b = a ∧ K.lookup a = none
      · rw [h2.1]
        exact .inr (.inr ⟨_, _, a0 h2.2⟩)
      · exact .inl (o0 h1 h2)
  · by_cases h1 : ∃ p ∈ cs, p.2 = b
    · obtain ⟨p, hp, e⟩ := h1
      subst e
      rw [t0 p hp] at z
      cases z
      exact L.hT p hp
    · by_cases h2 : b = a ∧ K.lookup a = none
      · obtain ⟨rfl, h2⟩ := h2
        rw [a0 h2] at z
        cases z
        exact ⟨ha, by rw [List.length_map]; exact hl3, vs, _, rv, ha⟩
      · rw [o0 h1 h2] at z
        cases z
  · by_cases h1 : ∃ p ∈ cs, p.2 = b
    · exact .inr h1
    · by_cases h2 : b = a ∧ K.lookup a = none
      · exact .inl h2.1
      · exact absurd (o0 h1 h2) z
  · by_cases h2 : K.lookup a = none
    · exact h2
    · exact absurd (o0 aT fun y => h2 y.2) z
end
end Zj
namespace Zj
open PySem PySem.Spec PyProof.Rows L2
theorem walk_GT {l : PySem.W.OpenLaw} {n k : Nat} {q : Program} {loose : List Str} {XP : (Str → Option Value) → Heap → Prop} {YP : World → Heap → Prop} {d : DefRec} {K : Params → PySem.W.Frag} {x : Str}
    (hn : l.most = some n) (hn2 : n ≤ sizeLine) (hdf : d.params.defaults = []) (hr : Room k callerA) (hY : ∀ (w : World) (h : Heap), YP w h → (K w.params).In h)
    (F : ∀ (w : World) (mg : Str → Option Value) (fa : Addr) (h : Heap), YP w h → (K w.params).In h → h.Ns mainGlobals mg → mg d.name = some (.ref fa) → ∃ (fd : FuncData) (cs : List (Addr × Addr)) (sp : Sp), LawG l.prog w (K w.params) k n x mg fa h fd cs sp) :
    PySem.W.WalkO q loose XP YP l.row.toRowW d [] (fun f vs => PySem.call f vs) :=
  Att.attach_callB hn hdf fun w s0 s1 mg mb fa o pm cd doc a vs ns G Y ho hd hcd hmg hobj hints hlen hbits hg => by
    obtain ⟨fd, cs, sp, L⟩ := F w mg fa _ Y (hY w _ Y) G.T.g hmg
    exact law_endT L (hY w _ Y) G.T.g G.T.b G.T.builtins G.T.nolimit hg G.T.bmain hobj hints hlen hn2 hbits hr
end Zj
namespace Zj
open PySem PySem.Spec PyProof.Rows L2
/-- a def of the top with lambdas: its code object is at c -/
structure DfC (K : PySem.W.Frag) (x : Str) (st : Stmt) (c : Addr) : Prop where
  ex : ∃ f fd, PySem.W.nsIn K mainGlobals x = some (some (.ref f)) ∧ Fun K x x st f fd ∧ fd.code = .ref c
theorem dfC_mk {K : PySem.W.Frag} {x : Str} {st : Stmt} {f c : Addr} {oc : Value} {od an : Option Addr} {osl : Array (Option Value)} {kV doc pm ct : Value} (a : PySem.W.nsIn K mainGlobals x = some (some (.ref f)))
    (l : K.lookup f = some ⟨oc, od, .func (PySem.W.fnOf x x (defArgs st) (defBody st) (defScope st) .none kV doc pm an (.ref c) ct), osl⟩)
    (hc : PySem.W.codeIn K (.ref c) x = true) (k : PySem.W.keepIn K (.ref f) = true) : DfC K x st c := ⟨_, _, a, fun_mk l hc k, rfl⟩
/-- an own class of exceptions with one field -/
structure Cd1 (K : PySem.W.Frag) (x qi : Str) (st : Stmt) (f : Str) (C : Addr) : Prop where
  a : PySem.W.nsIn K mainGlobals x = some (some (.ref C))
  o : OexC K C
  ini : ∃ fI fd, PySem.W.findIn K (.ref C) "__init__" = some (some (.ref fI)) ∧ PySem.W.typeIn K (.ref fI) = some (.type "function") ∧ Fun K "__init__" qi st fI fd
  nf : PySem.W.findIn K (.ref C) f = some none
  xf : XfC K C
theorem cd1_mk {K : PySem.W.Frag} {x qi : Str} {st : Stmt} {f : Str} {C fI N : Addr} {nm q : Str} {bs bm : List Value} {sn : List Str} {sub : List Value} {ab : Bool} {col : Option Bool} {dd od an : Option Addr} {m0 m1 m2 m3 m5 : Option Value} {oc kV doc pm cdv ct : Value} {osl : Array (Option Value)}
    (a : PySem.W.nsIn K mainGlobals x = some (some (.ref C))) (l : K.lookup C = some (excClassObj nm q C N bs bm true sn sub ab col dd m0 m1 m2 m3 m5 "ValueError.__new__")) (hbm : PySem.HandSPX.refsVE bm = true)
    (sa : PySem.W.findIn K (.ref C) "__setattr__" = some (some (.builtin "object.__setattr__"))) (eC : PySem.W.subIn K (.ref C) (.type "BaseException") = some true) (tC : PySem.W.typeIn K (.ref C) = some (.type "type")) (kC : PySem.W.keepIn K (.ref C) = true)
    (i : PySem.W.findIn K (.ref C) "__init__" = some (some (.ref fI))) (ti : PySem.W.typeIn K (.ref fI) = some (.type "function")) (li : K.lookup fI = some ⟨oc, od, .func (PySem.W.fnOf "__init__" qi (defArgs st) (defBody st) (defScope st) .none kV doc pm an cdv ct), osl⟩)
    (ci : PySem.W.codeIn K cdv qi = true) (ki : PySem.W.keepIn K (.ref fI) = true) (nf : PySem.W.findIn K (.ref C) f = some none) (ga : PySem.W.findIn K (.ref C) "__getattribute__" = some (some (.builtin "BaseException.__getattribute__"))) (gg : PySem.W.findIn K (.ref C) "__getattr__" = some none) (hd : PySem.W.hasDictIn K C = true) :
    Cd1 K x qi st f C := ⟨a, ⟨⟨nm, q, N, bs, bm, sn, sub, ab, col, dd, m0, m1, m2, m3, m5, l, hbm⟩, sa, eC, tC, kC⟩, ⟨_, _, i, ti, fun_mk li ci ki⟩, nf, ⟨ga, gg, eC, hd⟩⟩
section
variable {P : Program} {w : World} {K : PySem.W.Frag} {h base : Heap} {mg : Str → Option Value} {k : Nat} {x y qi f f2 : Str} {st st2 : Stmt} {ps : List Str} {sp : Sp} {c C D : Addr}
theorem calGC_mk (X : K.In h) (G : h.Ns mainGlobals mg) (d : DfC K x st c) (b : Tk st x ps) (ok : ∀ f fd, Fun K x x st f fd → fd.code = .ref c → FnG P w K mg base CX0 k f fd ps sp) : CalG P w K mg base k x ps sp := by
  obtain ⟨fa, fd, a, F, hc⟩ := d.ex
  exact ⟨fa, fd, ok fa fd F hc, PySem.W.mg_of X G a, F.kp, F.binds b⟩
theorem calX_mk (X : K.In h) (G : h.Ns mainGlobals mg) (d : Df K x st) (b : Tk st x ps) (ok : ∀ f fd, Fun K x x st f fd → FnOk P w K mg base (L2.CX P w) k f fd ps sp) : CalX P w K mg base k x ps sp := by
  obtain ⟨fa, fd, a, F⟩ := d.ex
  exact ⟨fa, fd, ok fa fd F, PySem.W.mg_of X G a, F.kp, F.binds b⟩
theorem calXK_mk (X : K.In h) (G : h.Ns mainGlobals mg) (d : Df K x st) (ok : ∀ f fd, Fun K x x st f fd → FnOk P w K mg base (L2.CX P w) k f fd ps sp) : CalXK P w K mg base k x st ps sp := by
  obtain ⟨fa, fd, a, F⟩ := d.ex
  exact ⟨fa, fd, F, ok fa fd F, PySem.W.mg_of X G a⟩
theorem xcF_mk (X : K.In h) (G : h.Ns mainGlobals mg) (d : Cd1 K x qi st f C) : XcF K mg x [f] := ⟨C, PySem.W.mg_of X G d.a, d.xf, fun g hg => by rw [List.mem_singleton] at hg; rw [hg]; exact d.nf⟩
theorem exm_mk {b : Bool} (X : K.In h) (G : h.Ns mainGlobals mg) (dx : PySem.W.nsIn K mainGlobals x = some (some (.ref C))) (d : Cd1 K y qi st f D) (s : PySem.W.subIn K (.ref C) (.ref D) = some b) : Exm K mg x y b :=
  ⟨C, D, PySem.W.mg_of X G dx, PySem.W.mg_of X G d.a, PySem.W.exm_ref d.o.exC d.xf.hdC d.o.tyC s⟩
theorem clsI_mk {p1 p2 p3 p4 : Pos} (X : K.In h) (G : h.Ns mainGlobals mg) (d : Cd1 K x qi st f C) (S : FnScope ["self", f] ["self", f] (defScope st)) (hb : defBody st = [.Assign [.Attribute (.Name "self" p1) f p2] (.Name f p3) p4])
    (h1 : Vis (defScope st) "self") (h2 : Vis (defScope st) f) (hd : (f == ("__debug__" : Str)) = false) (hcd : (f == ("__classdict__" : Str)) = false) (hs : ∀ env : Env, swapsWith (.Name f p3) (some (.Attribute (.Name "self" p1) f p2)) p4.line env = pure false)
    (bd : ∀ (kV doc pm : Value) (an : Option Addr) (cdv ct u v : Value), bindArgs (PySem.W.fnOf "__init__" qi (defArgs st) (defBody st) (defScope st) .none kV doc pm an cdv ct) ⟨[u, v], []⟩ = pure [(("self" : Str), u), (f, v)]) [Nm] : ClsI P w K mg base 1 x [f] := by
  obtain ⟨fI, fd, i, ti, F⟩ := d.ini
  refine ⟨C, fI, fd, PySem.W.mg_of X G d.a, d.o, i, ti, fun g hg => by rw [List.mem_singleton] at hg; rw [hg]; exact d.nf, init1 F S hb h1 h2 hd hcd hs, F.binds fun kV doc pm an cdv ct us hl => ?_⟩
  match us, hl with
  | [u, v], _ => exact bd kV doc pm an cdv ct u v
end
end Zj
/-! Points of fractions, in numbers; the least common multiple. -/
namespace Zj
open PySem PySem.Spec PyProof.Rows L2
theorem lcm_bits {a b : Int} {m n : Nat} (h1 : Bits m a) (h2 : Bits n b) : Bits (m + n) ((Nat.lcm a.natAbs b.natAbs : Nat) : Int) := by
  show (((Nat.lcm a.natAbs b.natAbs : Nat) : Int)).natAbs < _
  rw [Int.natAbs_natCast]
  refine Nat.lt_of_le_of_lt (PySem.W.mc_lcm_le _ _) ?_
  have h1 : a.natAbs < 2 ^ m := h1
  have h2 : b.natAbs < 2 ^ n := h2
  rw [Nat.pow_add]
  exact Nat.mul_lt_mul'' h1 h2
theorem cr_lcm {X : Cx} : CallR X (.builtin "math.lcm") (fun vs H Q => ∃ a b : Int, vs = [.int a, .int b] ∧ Bits 6000 a ∧ Bits 6000 b ∧ Q (.int ((Nat.lcm a.natAbs b.natAbs : Nat) : Int)) H) := by
  intro pins s σ H vs us Q I r h
  obtain ⟨a, b, rfl, ha, hb, q⟩ := h
  obtain ⟨t, u, rfl⟩ := Vals.int2 r
  have la := ha.log (by decide)
  have lb := hb.log (by decide)
  have mx : ∀ x y : Nat, x.log2 < 6000 → y.log2 < 6000 → (max x y).log2 < 6000 := fun x y hx hy => by
    rcases Nat.le_total x y with h | h
    · rw [Nat.max_eq_right h]; exact hy
    · rw [Nat.max_eq_left h]; exact hx
  have e1 : Nat.lcm 1 a.natAbs = a.natAbs := PySem.W.mc_lcm_one _
  refine call_function_meets PySem.W.MGF.kind_lcm PySem.W.MGF.plain_lcm PySem.W.MGF.entry_lcm (PySem.W.MGF.args_lcm _ _) (PySem.W.mg_run_lcm a t b u ?_ ?_ ?_).meets ?_
  · have := mx 1 a.natAbs (by decide) la
    omega
  · have := mx a.natAbs b.natAbs la lb
    omega
  · rw [e1]
    have := (lcm_bits ha hb).log (by decide)
    exact Nat.lt_of_lt_of_le this (by decide)
  · rw [e1]
    exact ⟨.int _, H, I.tok _, ⟨_, rfl⟩, q⟩
theorem ca_lcm [Nm] {X : Cx} {i j : Int} (hi : Bits 6000 i) (hj : Bits 6000 j) : CaD X (.builtin "math.lcm") [.int i, .int j] (.int ((Nat.lcm i.natAbs j.natAbs : Nat) : Int)) := ⟨_, cr_lcm, fun T vs H dm p Q q => by
  obtain ⟨v, v', rfl, h, h'⟩ := dps2 p
  exact ⟨i, j, by rw [dp_int h, dp_int h'], hi, hj, q _ H (Sm.refl H) (.int _)⟩⟩
def lcmL (bs : List Int) : Nat := bs.foldl (fun m b => Nat.lcm m b.natAbs) 1
theorem lcm_fold (bs : List Int) (m : Nat) : bs.foldl (fun m b => Nat.lcm m b.natAbs) m = Nat.lcm m (lcmL bs) := by
  unfold lcmL
  induction bs generalizing m with
  | nil => simp
  | cons b bs ih =>
    rw [List.foldl_cons, List.foldl_cons, ih (Nat.lcm m b.natAbs), ih (Nat.lcm 1 b.natAbs), Nat.lcm_assoc, PySem.W.mc_lcm_one]
theorem lcmL_cons (b : Int) (bs : List Int) : lcmL (b :: bs) = Nat.lcm b.natAbs (lcmL bs) := by
  show (b :: bs).foldl _ 1 = _
  rw [List.foldl_cons, lcm_fold, PySem.W.mc_lcm_one]
theorem lcmL_take {bs : List Int} {n : Nat} {b : Int} (h : bs[n]? = some b) : lcmL (bs.take (n + 1)) = Nat.lcm (lcmL (bs.take n)) b.natAbs := by
  unfold lcmL
  rw [List.take_add_one, h, List.foldl_append]
  rfl
theorem lcmL_dvd {bs : List Int} {b : Int} (h : b ∈ bs) : b.natAbs ∣ lcmL bs := by
  induction bs with
  | nil => cases h
  | cons c bs ih =>
    rw [lcmL_cons]
    rcases List.mem_cons.mp h with rfl | h
    · exact Nat.dvd_lcm_left _ _
    · exact Nat.dvd_trans (ih h) (Nat.dvd_lcm_right _ _)
theorem lcmL_least {bs : List Int} {n : Nat} (h : ∀ b ∈ bs, b.natAbs ∣ n) : lcmL bs ∣ n := by
  induction bs with
  | nil => exact Nat.one_dvd n
  | cons c bs ih =>
    rw [lcmL_cons]
    exact Nat.lcm_dvd (h c List.mem_cons_self) (ih fun b hb => h b (List.mem_cons_of_mem _ hb))
theorem lcmL_pos {bs : List Int} (h : ∀ b ∈ bs, 0 < b) : 0 < lcmL bs := by
  induction bs with
  | nil => exact Nat.one_pos
  | cons c bs ih =>
    rw [lcmL_cons]
    have := h c List.mem_cons_self
    exact Nat.lcm_pos (by omega) (ih fun b hb => h b (List.mem_cons_of_mem _ hb))
theorem lcmL_bits {m : Nat} : ∀ {bs : List Int}, BitsL m bs → Bits (1 + m * bs.length) (lcmL bs : Int)
  | [], _ => by
    show (1 : Nat) < 2 ^ 1
    decide
  | b :: bs, h => by
    rw [lcmL_cons]
    have h1 := lcm_bits (b := (lcmL bs : Int)) (h b List.mem_cons_self) (lcmL_bits fun x hx => h x (List.mem_cons_of_mem _ hx))
    rw [Int.natAbs_natCast] at h1
    exact h1.mono (by rw [List.length_cons, Nat.mul_succ]; omega)
/-- a fraction in lowest terms -/
def Fr (p : Int × Int) : Prop := 0 < p.2 ∧ Nat.gcd p.1.natAbs p.2.natAbs = 1
/-- the point with fractions as coordinates -/
def ptC (cs : List (Int × Int)) : List Int := cs.map (fun p => p.1 * Int.fdiv (lcmL (cs.map Prod.snd)) p.2) ++ [(lcmL (cs.map Prod.snd) : Int)]
theorem fdiv_mul {b k : Int} (hb : 0 < b) : Int.fdiv (b * k) b = k := by
  rw [Int.fdiv_eq_ediv_of_nonneg _ (by omega), Int.mul_ediv_cancel_left _ (by omega)]
theorem quot_of {cs : List (Int × Int)} (h : ∀ p ∈ cs, Fr p) {p : Int × Int} (hp : p ∈ cs) : ∃ k : Nat, 0 < k ∧ (lcmL (cs.map Prod.snd) : Int) = p.2 * k ∧ Int.fdiv (lcmL (cs.map Prod.snd)) p.2 = k := by
  have hb := (h p hp).1
  obtain ⟨k, hk⟩ := lcmL_dvd (List.mem_map.mpr ⟨p, hp, rfl⟩ : p.2 ∈ cs.map Prod.snd)
  have hw : 0 < lcmL (cs.map Prod.snd) := lcmL_pos fun b hb => by
    obtain ⟨q, hq, rfl⟩ := List.mem_map.mp hb
    exact (h q hq).1
  have e : (lcmL (cs.map Prod.snd) : Int) = p.2 * k := by
    rw [hk, Int.natCast_mul, show ((p.2.natAbs : Nat) : Int) = p.2 by omega]
  refine ⟨k, ?_, e, by rw [e, fdiv_mul hb]⟩
  rcases Nat.eq_zero_or_pos k with h0 | h0
  · rw [h0, Nat.mul_zero] at hk
    omega
  · exact h0
theorem ptC_gcd {cs : List (Int × Int)} (h : ∀ p ∈ cs, Fr p) : gcdL (ptC cs) = 1 := by
  have hw : 0 < lcmL (cs.map Prod.snd) := lcmL_pos fun b hb => by
    obtain ⟨q, hq, rfl⟩ := List.mem_map.mp hb
    exact (h q hq).1
  have gW : gcdL (ptC cs) ∣ lcmL (cs.map Prod.snd) := by
    have := gcdL_dvd (xs := ptC cs) (x := (lcmL (cs.map Prod.snd) : Int)) (by unfold ptC; simp)
    exact Int.natCast_dvd_natCast.mp this
  obtain ⟨v, hv⟩ := gW
  have hv0 : 0 < v := by
    rcases Nat.eq_zero_or_pos v with h0 | h0
    · rw [h0, Nat.mul_zero] at hv
      omega
    · exact h0
  have g0 : 0 < gcdL (ptC cs) := by
    rcases Nat.eq_zero_or_pos (gcdL (ptC cs)) with h0 | h0
    · rw [h0, Nat.zero_mul] at hv
      omega
    · exact h0
  have key : lcmL (cs.map Prod.snd) ∣ v := lcmL_least fun b hb => by
    obtain ⟨p, hp, rfl⟩ := List.mem_map.mp hb
    obtain ⟨k, hk0, e1, e2⟩ := quot_of h hp
    have d1 : (gcdL (ptC cs) : Int) ∣ p.1 * Int.fdiv (lcmL (cs.map Prod.snd)) p.2 := gcdL_dvd (by unfold ptC; exact List.mem_append_left _ (List.mem_map.mpr ⟨p, hp, rfl⟩))
    rw [e2] at d1
    have d1' : gcdL (ptC cs) ∣ p.1.natAbs * k := by
      have := Int.natAbs_dvd_natAbs.mpr d1
      rwa [Int.natAbs_natCast, Int.natAbs_mul, Int.natAbs_natCast] at this
    have d2' : gcdL (ptC cs) ∣ p.2.natAbs * k := by
      have e3 : lcmL (cs.map Prod.snd) = p.2.natAbs * k := by
        have := congrArg Int.natAbs e1
        rwa [Int.natAbs_natCast, Int.natAbs_mul, Int.natAbs_natCast] at this
      rw [← e3]
      exact ⟨v, hv⟩
    have d3 : gcdL (ptC cs) ∣ k := by
      have := Nat.dvd_gcd d1' d2'
      rwa [Nat.gcd_mul_right, (h p hp).2, Nat.one_mul] at this
    obtain ⟨k', hk'⟩ := d3
    refine ⟨k', ?_⟩
    have e3 : lcmL (cs.map Prod.snd) = p.2.natAbs * k := by
      have := congrArg Int.natAbs e1
      rwa [Int.natAbs_natCast, Int.natAbs_mul, Int.natAbs_natCast] at this
    rw [hv, hk', Nat.mul_left_comm] at e3
    exact Nat.eq_of_mul_eq_mul_left g0 e3
  have l1 := Nat.le_of_dvd hv0 key
  rw [hv] at l1
  have : gcdL (ptC cs) ≤ 1 := by
    rcases Nat.lt_or_ge 1 (gcdL (ptC cs)) with h2 | h2
    · have := Nat.mul_le_mul_right v h2
      omega
    · exact h2
  omega
theorem short_one {xs : List Int} (h : gcdL xs = 1) : shortL xs = xs := by
  unfold shortL
  rw [h]
  rfl
variable [Nm]
/-- so many times a tuple with no common divisor -/
theorem short_times {xs : List Int} (h : gcdL xs = 1) {c : Int} (hc : 0 < c) : shortL (xs.map fun x => c * x) = xs := by
  have hx : ∃ x ∈ xs, x ≠ 0 := by
    by_cases hh : ∃ x ∈ xs, x ≠ 0
    · exact hh
    · exfalso
      have e : shortL xs = xs := short_one h
      have z : ∀ x ∈ xs, x = 0 := fun x hx => by
        by_cases q : x = 0
        · exact q
        · exact absurd ⟨x, hx, q⟩ hh
      have g : ∀ ys : List Int, (∀ y ∈ ys, y = 0) → gcdL ys = 0 := fun ys => by
        induction ys with
        | nil => exact fun _ => rfl
        | cons y ys ih =>
          intro hy
          rw [gcdL_cons, hy y List.mem_cons_self, ih fun u hu => hy u (List.mem_cons_of_mem _ hu)] <;> rfl
      rw [g xs z] at h
      cases h
  rw [shortL_scale (by omega) hx, if_pos hc, short_one h, show (fun y : Int => 1 * y) = id from funext fun y => Int.one_mul y, List.map_id]
/-- two tuples with no common divisor, one so many times the other one -/
theorem short_same {xs ys : List Int} (h1 : gcdL xs = 1) (h2 : gcdL ys = 1) {c d : Int} (hc : 0 < c) (hd : 0 < d) (e : xs.map (fun x => c * x) = ys.map fun y => d * y) : xs = ys := by
  have := congrArg shortL e
  rwa [short_times h1 hc, short_times h2 hd] at this
end Zj
/-! A tuple so many times; a list made, then one thing of it set. -/
namespace Zj
open PySem PySem.Spec PyProof.Rows L2
theorem tuple_mul1 (l : Addr) (items : Array Value) (n : Nat) (dd : Option Addr) (sl : Array (Option Value)) (x : Int) (u : Tok) (c0 : (decide (x < -(2 ^ 63)) || decide (x ≥ 2 ^ 63)) = false) (c1 : (items.isEmpty || x == 1) = true) :
    Meets (Builtin.«tuple.__mul__» ⟨[.ref l, .int x u], []⟩) (fun _ R s => s.heap.get? l = some { cls := .type "tuple", dict := dd, data := .seq items n, slots := sl } ∧
      R (.ok (.ret (Value.ref l))) s) :=
  .of_wp fun prog w A R s h => by
    obtain ⟨hp, g, d, tk, os⟩ := s
    obtain ⟨hl, h⟩ := h
    have f1 := AutoSeq1.idx_int
    wp_walk using wpAny_loadPart' hl
    refine wpAny_ite_false (decide_eq_false (by rw [c0]; exact Bool.false_ne_true)) ?_
    wp_walk using wpAny_loadPart' hl
    exact ⟨_, rfl, h⟩
theorem op_repT1 {X : Cx} : OpR X (binaryOp .Mult) (fun x y H Q => ∃ l xs, x = .ref l ∧ y = .int 1 ∧ SqT X.K H l xs ∧ Q (.ref l) H) := by
  intro pins s σ H x y v u Q I rx ry h
  obtain ⟨l, xs, rfl, rfl, hT, q⟩ := h
  cases rx
  obtain ⟨t, rfl⟩ := ry
  obtain ⟨its, r, ⟨⟨cls, dd, data, sl⟩, ho, hc, n, hd⟩, hs⟩ := I.tuple hT
  simp only at hc hd
  subst hc hd
  have c0 : (decide ((1 : Int) < -(2 ^ 63)) || decide ((1 : Int) ≥ 2 ^ 63)) = false := by decide
  have c1 : (its.toArray.isEmpty || (1 : Int) == 1) = true := Bool.or_true _
  refine wpAny_binaryOp_repeat_ref (T := "tuple") (U := "int") (by decide) ⟨_, ho, rfl⟩ (fun s' => typeIs_int s' 1 t) noFill_tuple_mul F.fills_int_mul F.slot_int_rmul repeat_tuple F.slot_int_index.lookup
    (call_meets F.slot_int_rmul (typeIs_int s 1 t) F.entry_int_rmul (F.args_int_rmul_2 _ _) (int_rmul_tuple 1 t l its.toArray n dd sl)
      ⟨ho, rfl, ⟨_, ho, rfl⟩, call_meets F.slot_tuple_mul ⟨_, ho, rfl⟩ F.entry_tuple_mul (F.args_tuple_mul_2 _ _) (tuple_mul1 l its.toArray n dd sl 1 t c0 c1) ⟨ho, ?_⟩⟩)
  exact ⟨.ref l, H, I, rfl, q⟩
variable [Nm]
theorem od_repT {X : Cx} {ds : List PyData} {k : Int} (hne : ds ≠ []) (h0 : 1 ≤ k) (hk : k ≤ 1000) (hl : ds.length ≤ 1000) : OpD X (binaryOp .Mult) (.tuple ds) (.int k) (.tuple (List.replicate k.toNat ds).flatten) := by
  by_cases h1 : k = 1
  · subst h1
    refine ⟨_, op_repT1, fun T v1 v2 H dm p1 p2 Q q => ?_⟩
    obtain rfl := dp_int p2
    have p0 := p1
    obtain ⟨p, xs, rfl, g1, g2⟩ := dpo_tup p1
    exact ⟨p, xs, rfl, rfl, g1, q _ H (Sm.refl H) (by
      have e : (List.replicate (Int.toNat 1) ds).flatten = ds := by
        show ([ds] : List (List PyData)).flatten = ds
        simp
      rw [e]
      exact p0)⟩
  · refine ⟨_, op_repT, fun T v1 v2 H dm p1 p2 Q q => ?_⟩
    obtain rfl := dp_int p2
    obtain ⟨p, xs, rfl, g1, g2⟩ := dpo_tup p1
    have hx := dps_len g2
    exact ⟨p, k, xs, rfl, rfl, g1, (fun z => hne (List.eq_nil_of_length_eq_zero (by rw [← hx, z] <;> rfl))), by omega, hk, by omega, fun r hr => q _ _ (same_new hr) (dpo_newT dm hr (dps_rep g2 _))⟩
section
variable {X : Cx} {a : Addr} {ρ : Rho} {n m k c : Nat} {N : Nat → Rho → Prop} {R : Nat → PyData → Prop} {tg it elt cnd : Expr} {pos : Pos} {g : TG} {f : PyData → Rho → Option Rho} {scope : Scope} {own : List (Str × Nat)} {T : Addr → Prop} {p : Addr} {H : Hp} {σ : L2.St} {i : Nat} {ds : List PyData} {acc : List V}
/-- a list of its own is data from here on -/
theorem sd_free (nT : ¬ T p) (sd : SD X.K a (And1 T p) H σ (ρ.set i (some (.adr p)))) (lt : i < ρ.length) (h1 : H p = some (.lst acc)) (h2 : DpAll X.K (off (And1 T p) H) acc ds) : SD X.K a T H σ (ρ.set i (some (.dat (.list ds)))) := by
  refine ⟨by rw [sd.len]; simp, ⟨fun b hb => sd.dm.dn b (.inl hb), sd.dm.tb⟩, fun j y e => ?_⟩
  by_cases hj : i = j
  · subst hj
    rw [List.getElem?_set_self lt] at e
    cases e
    obtain ⟨v, g1, g2⟩ := sd.sl i (.adr p) (by rw [List.getElem?_set_self lt])
    have g2 : v = .ref p := g2
    subst g2
    exact ⟨_, g1, .lst (.of (by rw [off_no nT]; exact h1)) (dps_same off_less h2)⟩
  · rw [List.getElem?_set_ne hj] at e
    obtain ⟨v, g1, g2⟩ := sd.sl j y (by rw [List.getElem?_set_ne hj]; exact e)
    refine ⟨v, g1, ?_⟩
    cases y with
    | dat d => exact dp_same off_less g2
    | hnd => exact g2
    | adr _ => exact g2
/-- y = [.. two things, drawn ..]; y[1] = y[0] if .. else y[1] -/
theorem q_two {y : Str} {py spos spos2 pos2 p1 p2 p3 p4 p5 p6 p7 p8 p9 : Pos} {j1 j2 j3 : Nat} {i0 i1 : PyData} {V : PyData → PyData → Prop} {sts : List Stmt} (G : Good X) (hs : Src X a tg it ρ [i0, i1]) (hn : m + c * 2 ≤ n) (ok : BlkOk X.N X.env.scope scope own)
    (hg : ∀ (s : Shared) (H : Hp) (C : Addr) (cl : List (Str × Addr)) (fp : List Addr), PG (X.blk s H scope (compEnvC scope cl C X.env) fp) tg g) (ht : TgSem X.K a g (own.map (·.2)) f)
    (hb : ∀ d, d ∈ [i0, i1] → ∃ ρ2, f d (wipeR ρ (own.map (·.2))) = some ρ2 ∧ ∀ m, EvMb X scope a elt ρ2 (m + c) m (V d)) (lt : i < ρ.length) (hc : ∀ D, EvMT X a cnd (ρ.set i (some (.adr D))) m k (fun _ => True))
    (hP : ∀ d0 d1 d2, V i0 d0 → V i1 d1 → (d2 = d0 ∨ d2 = d1) → RunM X a sts (ρ.set i (some (.dat (.list [d0, d2])))) k N R)
    (hy : X.N[i]? = some y := by rfl) (hyl : X.env.scope.names.lookup y = some .local := by rfl) (hv : Vis X.env.scope y := by first | exact Or.inl rfl | exact Or.inr (Or.inl rfl) | exact Or.inr (Or.inr rfl)) (hd : (y == ("__debug__" : Str)) = false := by decide) (hcd : (y == ("__classdict__" : Str)) = false := by decide)
    (hsw : swapsWith (.ListComp elt [⟨tg, it, [], 0⟩] scope pos) (some (.Name y py)) spos.line X.env = pure true := by exact sw_true rfl rfl rfl (by decide +kernel))
    (hs2 : swapsWithSole [.Subscript (.Name y p1) (.Constant (.int 1) j1 p2) p3] (.IfExp cnd (.Subscript (.Name y p4) (.Constant (.int 0) j2 p5) p6) (.Subscript (.Name y p7) (.Constant (.int 1) j3 p8) p9) pos2) spos2.line X.env = pure false := by rfl)
    (hf : ∀ x, foldedSetIterable it X.env x = pure x := by intro _; rfl) :
    RunM X a (.Assign [.Name y py] (.ListComp elt [⟨tg, it, [], 0⟩] scope pos) spos :: .Assign [.Subscript (.Name y p1) (.Constant (.int 1) j1 p2) p3] (.IfExp cnd (.Subscript (.Name y p4) (.Constant (.int 0) j2 p5) p6) (.Subscript (.Name y p7) (.Constant (.int 1) j3 p8) p9) pos2) spos2 :: sts) ρ n N R := fun T σ H D S ms kn kr => by
  obtain ⟨wi, hw, hq⟩ := hs
  refine toSs (pss_cons js jss) (toS (ps_setLc (own := own) (te := JEb X scope elt) (tt := tYes) G.calm G.nd hy hyl hsw hw ok hg (fun s H0 C cl fp => pts_nil) (fun s H0 C cl fp => ⟨fun pins s' σ' H' Q' I h => h s H0 C cl fp pins s' I⟩) hf) ?_)
  refine lcM_own (f := f) (V := V) (keep := yes) (ce := c) S ms hn (by simp) (hq _ σ H (S.hide ms)) ht (fun d hd => ?_) fun Dd acc ds H2 n0 nD Da s2 S2 ms2 h5 h6 h7 => ?_
  · obtain ⟨ρ2, e, k2⟩ := hb d hd
    exact ⟨ρ2, e, fun m => ⟨fun T σ H S ms Q q => q H Kp.refl ms, fun hk T σ H S ms Q q s H0 C cl fp => k2 m s H0 C cl fp T σ H S ms Q q⟩⟩
  rw [List.filter_eq_self.mpr (show ∀ z ∈ [i0, i1], yes z = true from fun _ _ => rfl)] at h7
  obtain ⟨d0, d1, rfl, hV0, hV1⟩ : ∃ d0 d1, ds = [d0, d1] ∧ V i0 d0 ∧ V i1 d1 := by
    cases h7 with
    | cons q0 r =>
      cases r with
      | cons q1 r =>
        cases r
        exact ⟨_, _, rfl, q0, q1⟩
  obtain ⟨v0, v1, rfl⟩ : ∃ v0 v1, acc = [v0, v1] := by
    match acc, dps_len h6 with
    | [v0, v1], _ => exact ⟨v0, v1, rfl⟩
  have S3 : SD X.K a (And1 T Dd) H2 (σ.set i (some (.ref Dd))) (ρ.set i (some (.adr Dd))) := S2.put (x := .adr Dd) rfl
  refine toSs (pss_cons js jss) (toS (ps_asg je (pg_sub (pe_var hy hv hd hcd) pe_int set_list) hs2) ?_)
  refine toE (pe_ifExp jt je je) (hc Dd (And1 T Dd) _ H2 S3 ms2 _ fun b H3 s3 ms3 _ => ?_)
  have a3 : H3 Dd = some (.lst [v0, v1]) := s3.ka.1 _ _ Da h5 (by intro ps z; cases z)
  have S4 := S3.kpo s3 ms2
  have p3 := dps_kpo h6 s3 ms2
  obtain ⟨v, g1, g2⟩ := S4.sl i (.adr Dd) (by rw [List.getElem?_set_self lt])
  have g2 : v = .ref Dd := g2
  subst g2
  have fin : ∀ v2 d2, (d2 = d0 ∨ d2 = d1) → Dp X.K (off (And1 T Dd) H3) v2 d2 → JSs X sts D (σ.set i (some (.ref Dd))) (upd H3 Dd (.lst [v0, v2])) := fun v2 d2 hd2 q2 => by
    have s5 : Kp a H (upd H3 Dd (.lst [v0, v2])) := (s2.trans s3).putL n0 a3 Da
    have eo : off (And1 T Dd) (upd H3 Dd (.lst [v0, v2])) = off (And1 T Dd) H3 := off_put (.inr rfl)
    have S5 : SD X.K a (And1 T Dd) (upd H3 Dd (.lst [v0, v2])) (σ.set i (some (.ref Dd))) (ρ.set i (some (.adr Dd))) := ⟨S4.len, S4.dm.putL a3, fun j z e => by rw [eo]; exact S4.sl j z e⟩
    have p5 : DpAll X.K (off (And1 T Dd) (upd H3 Dd (.lst [v0, v2]))) [v0, v2] [d0, d2] := by
      rw [eo]
      cases p3 with
      | cons q0 _ => exact .cons q0 (.cons q2 .nil)
    have m5 : MS X.K (off T (upd H3 Dd (.lst [v0, v2]))) a k := by
      rw [← eo] at ms3
      exact ms3.same off_less
    exact hP d0 d1 d2 hV0 hV1 hd2 T _ _ D (sd_free nD S5 lt upd_same p5) m5 (fun σ' H' ρ' m' s S' ms' hN => kn σ' H' ρ' m' (s5.trans s) S' ms' hN) fun v H' d m' s ms' q r => kr v H' d m' (s5.trans s) ms' q r
  cases p3 with
  | cons q0 r =>
    cases r with
    | cons q1 r =>
      cases b with
      | true =>
        refine iteT (toE (pe_ix ix_list (pe_var hy hv hd hcd) pe_int (by exact fun _ _ => rfl)) ⟨_, g1, Dd, [v0, v1], 0, v0, rfl, rfl, .of a3, rfl, ?_⟩)
        exact ⟨_, g1, Dd, [v0, v1], 1, 1, rfl, rfl, a3, rfl, fin v0 d0 (.inl rfl) q0⟩
      | false =>
        refine iteF (toE (pe_ix ix_list (pe_var hy hv hd hcd) pe_int (by exact fun _ _ => rfl)) ⟨_, g1, Dd, [v0, v1], 1, v1, rfl, rfl, .of a3, rfl, ?_⟩)
        exact ⟨_, g1, Dd, [v0, v1], 1, 1, rfl, rfl, a3, rfl, fin v1 d1 (.inr rfl) q1⟩
end
section
variable {X : Cx} {a : Addr} {ρ : Rho} {e : Expr} {ds : List PyData} {p pos : Pos}
theorem src_EL {elts : List Expr} {kk : Nat} {tpos : Pos} (h : EvA X a [e] ρ [.list ds]) (hm : X.mg "enumerate" = none) (hg : Gl X "enumerate" := by rfl) (hs : starEach [e] X.env = [(false, eval e X.env)] := by exact star_of rfl) :
    Src X a (.Tuple elts kk tpos) (.Call (.Name "enumerate" p) [e] [] pos) ρ (numbered ds) := ⟨_, pi_enum hg hm ja hs, fun T σ H S R k => h T σ H S _ fun vs H1 s1 p1 => by
  obtain ⟨v, rfl, q⟩ := dps1 p1
  obtain ⟨pa, xs, rfl, g1, g2⟩ := dp_lst q
  have hl := dps_len g2
  refine ⟨pa, xs, rfl, same_l off_in _ _ g1, k _ H1 _ _ s1 (by rw [show (numbered ds).length = xs.length by simp [numbered, hl]]; exact walk_enum) (fun T' H' s => same_l off_in _ _ (same_l s.2 _ _ g1)) fun T' i H' x H'' hin s y => ?_⟩
  obtain ⟨T0, y1, y2, rfl, hT, rfl, e1, e2⟩ := y
  have e2 : xs[i]? = some y2 := e2
  cases e1
  obtain ⟨d, hd⟩ : ∃ d, ds[i]? = some d := by
    have := (List.getElem?_eq_some_iff.mp e2).1
    exact ⟨ds[i]'(by omega), by simp⟩
  obtain ⟨v, hv, pv⟩ := dps_get g2 hd
  rw [e2] at hv
  cases hv
  exact ⟨same_new hT, _, numbered_get hd, dpo_pair s.1 hT (.int _) (dp_same s.2 pv)⟩⟩
end
end Zj
/-! Own classes of exceptions without fields; defs of four arguments. -/
namespace Zj
open PySem PySem.Spec PyProof.Rows L2
/-- an own class of exceptions that keeps nothing -/
structure Cd0 (K : PySem.W.Frag) (x : Str) (C : Addr) : Prop where
  a : PySem.W.nsIn K mainGlobals x = some (some (.ref C))
  e : PySem.W.excIn K C [.type "ValueError", .type "Exception", .type "BaseException", .type "object"] "ValueError.__new__" = true
  k : PySem.W.keepIn K (.ref C) = true
  s : PySem.W.subIn K (.ref C) (.type "BaseException") = some true
  t : PySem.W.typeIn K (.ref C) = some (.type "type")
  hd : PySem.W.hasDictIn K C = true
section
variable {K : PySem.W.Frag} {h : Heap} {mg : Str → Option Value} {x y : Str} {C D : Addr}
theorem clsP_mk (X : K.In h) (G : h.Ns mainGlobals mg) (d : Cd0 K x C) : ClsP K mg x := ⟨C, "ValueError", "ValueError.__new__", "ValueError.__init__", _, PySem.W.mg_of X G d.a, PySem.F.excBase_ValueError, d.e, d.k, d.s, d.t⟩
theorem exm0_mk {b : Bool} (X : K.In h) (G : h.Ns mainGlobals mg) (dx : PySem.W.nsIn K mainGlobals x = some (some (.ref C))) (d : Cd0 K y D) (s : PySem.W.subIn K (.ref C) (.ref D) = some b) : Exm K mg x y b :=
  ⟨C, D, PySem.W.mg_of X G dx, PySem.W.mg_of X G d.a, PySem.W.exm_ref d.s d.hd d.t s⟩
end
theorem tk4 {st : Stmt} {x a b c d : Str} (e : ∀ (kV doc pm : Value) (an : Option Addr) (cdv ct u v z z' : Value), bindArgs (PySem.W.fnOf x x (defArgs st) (defBody st) (defScope st) .none kV doc pm an cdv ct) ⟨[u, v, z, z'], []⟩ = pure [(a, u), (b, v), (c, z), (d, z')]) : Tk st x [a, b, c, d] := fun kV doc pm an cdv ct us hl => by
  match us, hl with
  | [u, v, z, z'], _ => exact e kV doc pm an cdv ct u v z z'
end Zj
/-! The text of the program and of the law, by places. -/
namespace K2
open PySem PySem.Spec PyProof.Rows L2 Zj
def top (i : Nat) : Stmt := PySem.Challenge.pw_onesolid_k02_whole_points_moved.main.body.getD i (.Pass ⟨0, 0, 0, 0⟩)
abbrev st_common_divisor : Stmt := top 7
abbrev n_common_divisor : List Str := ["numbers", "divisor", "number"]
theorem sc_common_divisor : FnScope n_common_divisor ["numbers"] (defScope st_common_divisor) := ⟨rfl, rfl, rfl, by decide +kernel, rfl, by decide +kernel, by decide +kernel⟩
abbrev st_common_multiple : Stmt := top 8
abbrev n_common_multiple : List Str := ["numbers", "multiple", "number"]
theorem sc_common_multiple : FnScope n_common_multiple ["numbers"] (defScope st_common_multiple) := ⟨rfl, rfl, rfl, by decide +kernel, rfl, by decide +kernel, by decide +kernel⟩
abbrev st_shortened : Stmt := top 9
abbrev n_shortened : List Str := ["numbers", "divisor", "number"]
theorem sc_shortened : FnScope n_shortened ["numbers"] (defScope st_shortened) := ⟨rfl, rfl, rfl, by decide +kernel, rfl, by decide +kernel, by decide +kernel⟩
abbrev st_lowest : Stmt := top 10
abbrev n_lowest : List Str := ["top", "bottom", "divisor"]
theorem sc_lowest : FnScope n_lowest ["top", "bottom"] (defScope st_lowest) := ⟨rfl, rfl, rfl, by decide +kernel, rfl, by decide +kernel, by decide +kernel⟩
abbrev st_point_of : Stmt := top 12
abbrev n_point_of : List Str := ["coordinates", "weight", "fraction", "top", "bottom"]
theorem sc_point_of : FnScope n_point_of ["coordinates"] (defScope st_point_of) := ⟨rfl, rfl, rfl, by decide +kernel, rfl, by decide +kernel, by decide +kernel⟩
abbrev st_coordinates_of : Stmt := top 13
abbrev n_coordinates_of : List Str := ["point", "number"]
theorem sc_coordinates_of : FnScope n_coordinates_of ["point"] (defScope st_coordinates_of) := ⟨rfl, rfl, rfl, by decide +kernel, rfl, by decide +kernel, by decide +kernel⟩
abbrev st_direction_of : Stmt := top 14
abbrev n_direction_of : List Str := ["numbers"]
theorem sc_direction_of : FnScope n_direction_of ["numbers"] (defScope st_direction_of) := ⟨rfl, rfl, rfl, by decide +kernel, rfl, by decide +kernel, by decide +kernel⟩
abbrev st_steps_between : Stmt := top 15
abbrev n_steps_between : List Str := ["point", "other", "near", "far"]
theorem sc_steps_between : FnScope n_steps_between ["point", "other"] (defScope st_steps_between) := ⟨rfl, rfl, rfl, by decide +kernel, rfl, by decide +kernel, by decide +kernel⟩
abbrev st_moved_by : Stmt := top 16
abbrev n_moved_by : List Str := ["point", "direction", "amount", "top", "bottom", "weight", "moved", "number", "step"]
theorem sc_moved_by : FnScope n_moved_by ["point", "direction", "amount"] (defScope st_moved_by) := ⟨rfl, rfl, rfl, by decide +kernel, rfl, by decide +kernel, by decide +kernel⟩
abbrev st_direction_to : Stmt := top 17
abbrev n_direction_to : List Str := ["point", "other"]
theorem sc_direction_to : FnScope n_direction_to ["point", "other"] (defScope st_direction_to) := ⟨rfl, rfl, rfl, by decide +kernel, rfl, by decide +kernel, by decide +kernel⟩
abbrev st__law_begun : Stmt := top 19
abbrev n__law_begun : List Str := ["script", "k", "cells", "cell", "great", "seed"]
theorem sc__law_begun : FnScope n__law_begun ["script", "k"] (defScope st__law_begun) := ⟨rfl, rfl, rfl, by decide +kernel, rfl, by decide +kernel, by decide +kernel⟩
abbrev st__law_draw : Stmt := top 20
abbrev n__law_draw : List Str := ["m", "bound", "found", "spot", "cells", "extra", "cell", "blend"]
theorem sc__law_draw : FnScope n__law_draw ["m", "bound"] (defScope st__law_draw) := ⟨rfl, rfl, rfl, by decide +kernel, rfl, by decide +kernel, by decide +kernel⟩
abbrev st__law_like : Stmt := top 21
abbrev n__law_like : List Str := ["told", "due"]
theorem sc__law_like : FnScope n__law_like ["told", "due"] (defScope st__law_like) := ⟨rfl, rfl, rfl, by decide +kernel, rfl, by decide +kernel, by decide +kernel⟩
abbrev st__law_common : Stmt := top 22
abbrev n__law_common : List Str := ["numbers_so", "found", "number", "remnant"]
theorem sc__law_common : FnScope n__law_common ["numbers_so"] (defScope st__law_common) := ⟨rfl, rfl, rfl, by decide +kernel, rfl, by decide +kernel, by decide +kernel⟩
abbrev st__law_lowered : Stmt := top 23
abbrev n__law_lowered : List Str := ["numbers_so", "whole", "number"]
theorem sc__law_lowered : FnScope n__law_lowered ["numbers_so"] (defScope st__law_lowered) := ⟨rfl, rfl, rfl, by decide +kernel, rfl, by decide +kernel, by decide +kernel⟩
abbrev st__law_fraction : Stmt := top 24
abbrev n__law_fraction : List Str := ["top", "bottom", "found"]
theorem sc__law_fraction : FnScope n__law_fraction ["top", "bottom"] (defScope st__law_fraction) := ⟨rfl, rfl, rfl, by decide +kernel, rfl, by decide +kernel, by decide +kernel⟩
abbrev st__law_point : Stmt := top 25
abbrev n__law_point : List Str := ["numbers_so", "bottom", "sign", "number"]
theorem sc__law_point : FnScope n__law_point ["numbers_so", "bottom"] (defScope st__law_point) := ⟨rfl, rfl, rfl, by decide +kernel, rfl, by decide +kernel, by decide +kernel⟩
abbrev st__law_along : Stmt := top 26
abbrev n__law_along : List Str := ["point_so", "way", "top", "bottom", "a", "b"]
theorem sc__law_along : FnScope n__law_along ["point_so", "way", "top", "bottom"] (defScope st__law_along) := ⟨rfl, rfl, rfl, by decide +kernel, rfl, by decide +kernel, by decide +kernel⟩
abbrev st__law_pair : Stmt := top 27
abbrev n__law_pair : List Str := ["m", "top", "bottom"]
theorem sc__law_pair : FnScope n__law_pair ["m"] (defScope st__law_pair) := ⟨rfl, rfl, rfl, by decide +kernel, rfl, by decide +kernel, by decide +kernel⟩
abbrev st__law_heard : Stmt := top 28
abbrev n__law_heard : List Str := ["call"]
theorem sc__law_heard : FnScope n__law_heard ["call"] (defScope st__law_heard) := ⟨rfl, rfl, rfl, by decide +kernel, rfl, by decide +kernel, by decide +kernel⟩
abbrev st__law_due_point : Stmt := top 29
abbrev n__law_due_point : List Str := ["coordinates_so", "bottom", "pair", "top", "low"]
theorem sc__law_due_point : FnScope n__law_due_point ["coordinates_so"] (defScope st__law_due_point) := ⟨rfl, rfl, rfl, by decide +kernel, rfl, by decide +kernel, by decide +kernel⟩
abbrev st__law_ways_right : Stmt := top 30
abbrev n__law_ways_right : List Str := ["m", "dimension", "point_so", "other_so", "numbers_so", "due", "way", "k", "amount_so", "step", "a", "b", "spot", "number"]
theorem sc__law_ways_right : FnScope n__law_ways_right ["m", "dimension", "point_so", "other_so"] (defScope st__law_ways_right) := ⟨rfl, rfl, rfl, by decide +kernel, rfl, by decide +kernel, by decide +kernel⟩
abbrev st__law_directions_right : Stmt := top 31
abbrev n__law_directions_right : List Str := ["m", "dimension", "by", "due", "numbers_so", "some", "number", "k"]
theorem sc__law_directions_right : FnScope n__law_directions_right ["m", "dimension"] (defScope st__law_directions_right) := ⟨rfl, rfl, rfl, by decide +kernel, rfl, by decide +kernel, by decide +kernel⟩
abbrev st__law_hand_right : Stmt := top 32
abbrev n__law_hand_right : List Str := ["told"]
theorem sc__law_hand_right : FnScope n__law_hand_right [] (defScope st__law_hand_right) := ⟨rfl, rfl, rfl, by decide +kernel, rfl, by decide +kernel, by decide +kernel⟩
abbrev st_law : Stmt := top 33
abbrev n_law : List Str := ["script", "k", "m", "turn", "dimension", "some", "points", "lot", "one", "spot"]
theorem sc_law : FnScope n_law ["script"] (defScope st_law) := ⟨rfl, rfl, rfl, by decide +kernel, rfl, by decide +kernel, by decide +kernel⟩
end K2
/-! Defs of the program and of the law that several laws share. -/
namespace K2
open PySem PySem.Spec PyProof.Rows L2 Zj
variable [Nm]
section
variable {P : Program} {w : World} {K : PySem.W.Frag} {mg : Str → Option Value} {base : Heap} {f : Addr} {fd : FuncData}
theorem ok_cd (F : Fun K "common_divisor" "common_divisor" st_common_divisor f fd) (T : Tx mg) : FnOk P w K mg base CX0 1 f fd ["numbers"] (spR K R_cd) := by
  refine fnR F sc_common_divisor (fun ds d h => by obtain ⟨x, h, _⟩ := h; rcases h with rfl | rfl <;> rfl) fun cdv A outer s H E G hr ds d h => ?_
  obtain ⟨xs, h, rfl⟩ := h
  have main : ∀ v : PyData, (∀ tg p (ρ : Rho), ρ[0]? = some (some (.dat v)) → Src (cxOf CX0 P w K mg base n_common_divisor "common_divisor" (defScope st_common_divisor) f cdv A outer s H E).nox 0 tg (.Name "numbers" p) ρ (xs.map .int)) →
      Run (cxOf CX0 P w K mg base n_common_divisor "common_divisor" (defScope st_common_divisor) f cdv A outer s H E).nox 0 (defBody st_common_divisor) [some (.dat v), none, none] (fun _ => PyData.int (gcdL xs) = .none) (fun d' => d' = .int (gcdL xs)) := fun v hs => by
    refine r_cons (rs_set (i := 1) G e_int ?_)
    refine r_cons (rs_for G (hs _ _ _ rfl) (pg_name (i := 2) sc_common_divisor.nd rfl (Or.inl rfl)) (tg_name (vs := [2]) (by decide)) (fun n ρ' => ∃ y, ρ' = [some (.dat v), some (.dat (.int (gcdL (xs.take n)))), y]) ⟨_, rfl⟩ (fun n d ρ1 hd hJ => ?_) fun ρ' hJ => ?_)
    · obtain ⟨x, hx, rfl⟩ := getI hd
      obtain ⟨_, rfl⟩ := hJ
      refine ⟨_, rfl, r_one (rs_set (i := 1) G (e_callM ca_gcd (a_cons (e_var (i := 1) rfl) (a_cons (e_var (i := 2) rfl) a_nil)) T.gcd) ⟨some (.dat (.int x)), ?_⟩)⟩
      rw [gcdL_take hx] <;> rfl
    · obtain ⟨_, rfl⟩ := hJ
      rw [List.length_map, List.take_length]
      exact r_one (rs_ret (e_var (i := 1) rfl) rfl)
  rcases h with rfl | rfl
  · exact main _ fun _ _ ρ hρ => src_T (e_var (i := 0) hρ)
  · exact main _ fun _ _ ρ hρ => src_L (e_var (i := 0) hρ)
theorem ok_short (F : Fun K "shortened" "shortened" st_shortened f fd) (T : Tx mg) (C1 : Cal P w K mg base 1 "common_divisor" ["numbers"] (spR K R_cd)) : FnOk P w K mg base CX0 2 f fd ["numbers"] (spR K R_short) := by
  refine fnR F sc_shortened (fun ds d h => by obtain ⟨x, h, _⟩ := h; rcases h with rfl | rfl <;> rfl) fun cdv A outer s H E G hr ds d h => ?_
  obtain ⟨xs, h, hb, hl, rfl⟩ := h
  have main : ∀ v : PyData, (v = tI xs ∨ v = lI xs) → (∀ tg p (ρ : Rho), ρ[0]? = some (some (.dat v)) → Src (cxOf CX0 P w K mg base n_shortened "shortened" (defScope st_shortened) f cdv A outer s H E).nox 0 tg (.Name "numbers" p) ρ (xs.map .int)) →
      CaD (cxOf CX0 P w K mg base n_shortened "shortened" (defScope st_shortened) f cdv A outer s H E).nox (.type "tuple") [v] (tI xs) →
      Run (cxOf CX0 P w K mg base n_shortened "shortened" (defScope st_shortened) f cdv A outer s H E).nox 0 (defBody st_shortened) [some (.dat v), none, none] (fun _ => tI (shortL xs) = .none) (fun d' => d' = tI (shortL xs)) := fun v hv hs hc => by
    refine r_cons (rs_set (i := 1) G (e_call C1 (hr.mono (by decide)) (a_cons (e_var (i := 0) rfl) a_nil) ⟨xs, by rcases hv with rfl | rfl <;> simp, rfl⟩) ?_)
    refine r_cons (rs_if (t_cmp od_lt (e_var (i := 1) rfl) e_int (nomark _)) (fun h2 => r_one (rs_ret (e_callT hc (a_cons (e_var (i := 0) rfl) a_nil) T.tuple (by decide +kernel)) ?_)) fun h2 => r_nil ?_)
    · have h2 := of_decide_eq_true h2
      unfold shortL
      rw [if_pos (by omega)]
    · have h2 := of_decide_eq_false h2
      have g0 : (gcdL xs : Int) ≠ 0 := by omega
      have gb : (gcdL xs : Int).natAbs.log2 < 9000 := Nat.lt_of_lt_of_le ((gcdL_bits hb).log (by decide)) (by decide)
      refine r_one (rs_ret (e_callT ca_tupL (a_cons (e_lc0 (own := [("number", 2)]) (f := fName 2) (val := onInt fun x => x.fdiv (gcdL xs : Int)) G (hs _ _ _ rfl) (by simp; omega) (blkOk_by (N := n_shortened) (sc := defScope st_shortened) (by decide +kernel))
        (fun _ _ _ _ _ => pg_name (i := 2) sc_shortened.nd rfl (Or.inl rfl)) (tg_name (by decide)) fun d hd => ?_) a_nil) T.tuple (by decide +kernel)) ?_)
      · obtain ⟨x, hx, rfl⟩ := mem_mapI hd
        exact ⟨_, rfl, fun s H C cl fp => e_bin (od_fdiv g0 gb) (e_var (i := 2) rfl) (e_var (i := 1) rfl)⟩
      · rw [mapI]
        unfold shortL
        rw [if_neg (by omega)]
  rcases h with rfl | rfl
  · exact main _ (.inl rfl) (fun _ _ ρ hρ => src_T (e_var (i := 0) hρ)) ca_tupT
  · exact main _ (.inr rfl) (fun _ _ ρ hρ => src_L (e_var (i := 0) hρ)) ca_tupL
theorem ok_lowest (F : Fun K "lowest" "lowest" st_lowest f fd) (T : Tx mg) : FnOk P w K mg base CX0 1 f fd ["top", "bottom"] (spR K R_lowest) := by
  refine fnR F sc_lowest (fun ds d h => by obtain ⟨t, b, rfl, _⟩ := h; rfl) fun cdv A outer s H E G hr ds d h => ?_
  obtain ⟨t, b, rfl, hb, hbb, rfl⟩ := h
  have gp : 0 < Nat.gcd t.natAbs b.natAbs := Nat.gcd_pos_of_pos_right _ (by omega)
  have gl : Nat.gcd t.natAbs b.natAbs ≤ b.natAbs := Nat.gcd_le_right _ (by omega)
  have bits : ∀ z : Int, z.natAbs = Nat.gcd t.natAbs b.natAbs → z ≠ 0 ∧ z.natAbs.log2 < 9000 := fun z hz => ⟨by omega, Nat.lt_of_lt_of_le ((hbb.le (x := z) (by omega)).log (by decide)) (by decide)⟩
  refine r_cons (rs_if (b := false) (t_is (t_cmp od_eqI (e_var (i := 1) rfl) e_int (nomark _)) (by simp [hb])) nofun fun _ => r_nil ?_)
  refine r_cons (rs_set (i := 2) G (e_callM ca_gcd (a_cons (e_var (i := 0) rfl) (a_cons (e_var (i := 1) rfl) a_nil)) T.gcd) ?_)
  have fin : ∀ z : Int, z = (if b < 0 then -((Nat.gcd t.natAbs b.natAbs : Nat) : Int) else ((Nat.gcd t.natAbs b.natAbs : Nat) : Int)) →
      Run (cxOf CX0 P w K mg base n_lowest "lowest" (defScope st_lowest) f cdv A outer s H E).nox 0 ((defBody st_lowest).drop 3) [some (.dat (.int t)), some (.dat (.int b)), some (.dat (.int z))] (fun _ => tI (fracL t b) = .none) (fun d' => d' = tI (fracL t b)) := fun z hz => by
    obtain ⟨z0, zb⟩ := bits z (by rw [hz]; split <;> simp)
    refine r_one (rs_ret (e_tup (a_cons (e_bin (od_fdiv z0 zb) (e_var (i := 0) rfl) (e_var (i := 2) rfl)) (a_cons (e_bin (od_fdiv z0 zb) (e_var (i := 1) rfl) (e_var (i := 2) rfl)) a_nil))) ?_)
    rw [← frac_lowest hb, ← hz] <;> rfl
  refine r_cons (rs_if (t_cmp od_lt (e_var (i := 1) rfl) e_int (nomark _)) (fun h => r_one (rs_set (i := 2) G (e_neg (e_var (i := 2) rfl)) ?_)) fun h => r_nil ?_)
  · exact fin _ (by rw [if_pos (of_decide_eq_true h)])
  · exact fin _ (by rw [if_neg (of_decide_eq_false h)])
theorem ok_moved (F : Fun K "moved_by" "moved_by" st_moved_by f fd) (T : Tx mg) (C1 : Cal P w K mg base 2 "shortened" ["numbers"] (spR K R_short)) : FnOk P w K mg base CX0 3 f fd ["point", "direction", "amount"] (spR K R_moved) := by
  refine fnR F sc_moved_by (fun ds d h => by obtain ⟨x, _, _, _, _, rfl, _⟩ := h; rfl) fun cdv A outer s H E G hr ds d h => ?_
  obtain ⟨pt, way, t, b, l, rfl, hl, hb, hw, ht, hbb, hz, rfl⟩ := h
  have hlb : Bits 1500 l := hb l (List.mem_of_getLast? hl)
  have h1' : 1 ≤ (pt.map PyData.int).length := by
    cases pt with
    | nil => cases hl
    | cons => simp
  refine r_cons (rs_asg (ρ' := [some (.dat (tI pt)), some (.dat (tI way)), some (.dat (tI [t, b])), some (.dat (.int t)), some (.dat (.int b)), none, none, none, none]) (e_var (i := 2) rfl) (pg_tup rfl (pgs_cons (pg_name (i := 3) sc_moved_by.nd rfl (Or.inr rfl)) (pgs_cons (pg_name (i := 4) sc_moved_by.nd rfl (Or.inr rfl)) pgs_nil)))
    (fun T σ H v S p Q q => tg_pair (vs := [3, 4]) (by decide) (by decide) T σ H v _ _ _ S p rfl Q (fun σ' h _ => q σ' h)) ?_)
  refine r_cons (rs_set (i := 5) G (e_ixT (e_var (i := 0) rfl) (e_neg e_int) (ati_last (lastI hl))) ?_)
  refine r_cons (rs_lc0 (i := 6) (own := [("number", 7), ("step", 8)]) (f := fPair 7 8) (val := onPair fun n s => n * b + s * t * l) (items := List.zipWith (fun x y => PyData.tuple [x, y]) (pt.dropLast.map .int) (way.map .int)) G
    (src_ZT (a_cons (e_is (e_slT (e_var (i := 0) rfl) o_non (o_int (e_neg e_int)) (cut_part _ h1')) (by rw [cutD_init _ h1', initI])) (a_cons (e_var (i := 1) rfl) a_nil)) T.zip) (by simp; omega) (blkOk_by (N := n_moved_by) (sc := defScope st_moved_by) (by decide +kernel))
    (fun _ _ _ _ _ => pg_tup rfl (pgs_cons (pg_name (i := 7) sc_moved_by.nd rfl (Or.inl rfl)) (pgs_cons (pg_name (i := 8) sc_moved_by.nd rfl (Or.inl rfl)) pgs_nil))) (tg_pair (by decide) (by decide)) (fun d hd => ?_) ?_)
  · obtain ⟨x, g1, y, g2, rfl⟩ := mem_zipI hd
    have q1 := hb x (List.dropLast_subset _ g1)
    have q2 := hw y g2
    exact ⟨_, rfl, fun s H C cl fp => e_bin od_add (e_bin (od_mul (mul_ok q1 hbb (by decide))) (e_var (i := 7) rfl) (e_var (i := 4) rfl)) (e_bin (od_mul (mul_ok (Bits.mul q2 ht) hlb (by decide))) (e_bin (od_mul (mul_ok q2 ht (by decide))) (e_var (i := 8) rfl) (e_var (i := 3) rfl)) (e_var (i := 5) rfl))⟩
  · rw [zipI_map]
    refine r_one (rs_ret (e_call C1 (hr.mono (by decide)) (a_cons (e_is (d' := lI (List.zipWith (fun n s => n * b + s * t * l) pt.dropLast way ++ [l * b])) (e_bin (od_catL (by simp; omega)) (e_var (i := 6) rfl) (e_lst (a_cons (e_bin (od_mul (mul_ok hlb hbb (by decide))) (e_var (i := 5) rfl) (e_var (i := 4) rfl)) a_nil))) ?_) a_nil) ⟨_, .inr rfl, zip_bits hb hw ht hbb hlb, ?_, rfl⟩) rfl)
    · show PyData.list _ = PyData.list (List.map _ _)
      rw [List.map_append]
      rfl
    · simp
      omega
theorem ok_begun (F : Fun K "_law_begun" "_law_begun" st__law_begun f fd) (T : Tx mg) : FnG P w K mg base CX0 1 f fd ["script", "k"] (spB K) := by
  refine fnG F sc__law_begun (fun vs H Q E h => by
    obtain ⟨T, xs, k, _, h1, _⟩ := h
    exact dps_len h1) fun cdv _ A outer s H vs Q E hgd hr h => ?_
  obtain ⟨T', xs, k, dm, hd, hk, hl, hb, hq⟩ := h
  have G : Good (cxOf CX0 P w K mg base n__law_begun "_law_begun" (defScope st__law_begun) f cdv A outer s H E).nox := ⟨sc__law_begun.nd, rfl, PassesOwn.never, hr.units⟩
  obtain ⟨cells, hc, hcl, hcm⟩ := cut_cells xs k
  obtain ⟨great, hg⟩ := kept_big cells
  have hcb : BitsL 1100000 cells := fun y hy => hb y (hcm y hy)
  have S0 := SD.start (N := n__law_begun) (a := 0) dm hd
  refine js_cons (N := fun ρ' => ρ' = [some (.dat (lI xs)), some (.dat (.int (k : Int))), some (.dat (lI cells)), none, none, none]) (rs_set (i := 2) (d := lI cells) G (e_is (e_bin (od_catL ?_) (e_slL (e_var (i := 0) rfl) (o_int (e_var (i := 1) rfl)) o_non) (e_slL (e_var (i := 0) rfl) o_non (o_int (e_var (i := 1) rfl)))) (by rw [hc])) rfl) S0 fun σ1 H1 ρ1 s1 S1 e1 => ?_
  · have := congrArg List.length hc
    rw [List.length_append, List.length_map] at this
    omega
  subst e1
  refine js_cons (N := fun ρ' => ρ' = [some (.dat (lI xs)), some (.dat (.int (k : Int))), some (.dat (lI cells)), none, some (.dat (lI great)), none]) (rs_lc (i := 4) (own := [("cell", 3)]) (f := fName 3) (keep := keepBig) (val := valSame) G (src_L (e_var (i := 2) rfl)) (by simp; omega) (blkOk_by (N := n__law_begun) (sc := defScope st__law_begun) (by decide +kernel))
    (fun _ _ _ _ _ => pg_name (i := 3) sc__law_begun.nd rfl (Or.inl rfl)) (tg_name (by decide)) (fun d hd => ?_) (by rw [hg] <;> rfl)) S1 fun σ2 H2 ρ2 s2 S2 e2 => ?_
  · obtain ⟨x, hx, rfl⟩ := mem_mapI hd
    exact ⟨_, rfl, fun s H C cl fp => t_cmp od_ge (e_var (i := 3) rfl) (e_bin (od_pow ⟨by decide, by decide, by decide⟩) e_int e_int) (nomark _), fun _ s H C cl fp => e_var (i := 3) rfl⟩
  subst e2
  refine js_cons (N := fun ρ' => ρ' = [some (.dat (lI xs)), some (.dat (.int (k : Int))), some (.dat (lI cells)), none, some (.dat (lI great)), some (.dat (.int (86 + (k : Int))))]) (rs_set (i := 5) G (e_bin od_add e_int (e_var (i := 1) rfl)) rfl) S2 fun σ3 H3 ρ3 s3 S3 e3 => ?_
  subst e3
  refine js_cons (N := fun ρ' => ∃ (y : Option DV) (sd : Int), 0 ≤ sd ∧ sd < 2147483647 ∧ ρ' = [some (.dat (lI xs)), some (.dat (.int (k : Int))), some (.dat (lI cells)), y, some (.dat (lI great)), some (.dat (.int sd))]) (rs_for G (src_L (e_var (i := 2) rfl)) (pg_name (i := 3) sc__law_begun.nd rfl (Or.inl rfl)) (tg_name (vs := [3]) (by decide))
    (fun _ ρ' => ∃ (y : Option DV) (sd : Int), 0 ≤ sd ∧ sd < 2147483647 ∧ ρ' = [some (.dat (lI xs)), some (.dat (.int (k : Int))), some (.dat (lI cells)), y, some (.dat (lI great)), some (.dat (.int sd))]) ⟨_, _, by omega, by omega, rfl⟩ (fun i d ρ1 hd hJ => ?_) fun ρ' hJ => hJ) S3 fun σ4 H4 ρ4 s4 S4 e4 => ?_
  · obtain ⟨c, hc, rfl⟩ := getI hd
    obtain ⟨y, sd, d0, d1, rfl⟩ := hJ
    have b7 : Bits 17 48271 := show (48271 : Nat) < 2 ^ 17 by decide
    have bs : Bits 31 sd := bits_lt d0 (by omega)
    exact ⟨_, rfl, r_one (rs_set (i := 5) G (e_bin (od_mod (by decide)) (e_callT ca_int (a_cons (e_bin od_add (e_bin (od_mul (mul_ok bs b7 (by decide))) (e_var (i := 5) rfl) e_int) (e_var (i := 3) rfl)) a_nil) T.int (by decide +kernel)) e_int) ⟨_, _, Int.emod_nonneg _ (by decide), Int.emod_lt_of_pos _ (by decide), rfl⟩)⟩
  obtain ⟨y, sd, d0, d1, rfl⟩ := e4
  have hleft : ∃ left : Int, ∀ p1 p2 p3 p4 p5 p6 p7 p8, EvE (cxOf CX0 P w K mg base n__law_begun "_law_begun" (defScope st__law_begun) f cdv A outer s H E).nox 0
      (.IfExp (.Compare (.Name "great" p1) [.NotEq] [.List [] p2] p3) (.Subscript (.Name "great" p4) (.Constant (.int 0) 0 p5) p6) (.Constant (.int 0) 0 p8) p7)
      [some (.dat (lI xs)), some (.dat (.int (k : Int))), some (.dat (lI cells)), y, some (.dat (lI great)), some (.dat (.int sd))] (.int left) := by
    cases great with
    | nil => exact ⟨0, fun _ _ _ _ _ _ _ _ => e_ifF (t_is (t_cmp (od_neD G.un (shaped_lI []) (shaped_lI [])) (e_var (i := 4) rfl) (e_lst a_nil) (nomark _)) rfl) e_int⟩
    | cons g gs => exact ⟨g, fun _ _ _ _ _ _ _ _ => e_ifT (t_is (t_cmp (od_neD G.un (shaped_lI (g :: gs)) (shaped_lI [])) (e_var (i := 4) rfl) (e_lst a_nil) (nomark _)) (by rw [eqv_lI] <;> rfl)) (e_ixL (e_var (i := 4) rfl) e_int (ati_of (j := 0) rfl rfl))⟩
  obtain ⟨left, hleft⟩ := hleft
  have b53 : Bits 10 53 := show (53 : Nat) < 2 ^ 10 by decide
  have bk : Bits 10 (k : Int) := bits_lt (by omega) (by omega)
  refine toSs (pss_one js) (toS (ps_ret (pe_disp (pps_cons je je (pps_cons je je (pps_cons je je (pps_cons je je pps_nil)))) rfl rfl (by exact fun z => by cases z) (by decide))) ?_)
  intro p hp
  have S5 := S4.same (same_new (o := .dK []) hp)
  refine e_str T' σ4 _ S5 _ fun v1 H5 s5 p5 => ?_
  refine hleft _ _ _ _ _ _ _ _ T' σ4 _ (S5.same s5) _ fun v2 H6 s6 p6 => ?_
  have t6 := s5.trans s6
  refine e_str T' σ4 _ (S5.same t6) _ fun v3 H7 s7 p7 => ?_
  have t7 := t6.trans s7
  refine ev (e_var (i := 5) rfl) (S5.same t7) fun v4 H8 s8 p8 => ?_
  have t8 := t7.trans s8
  refine e_str T' σ4 _ (S5.same t8) _ fun v5 H9 s9 p9 => ?_
  have t9 := t8.trans s9
  refine e_is (d' := lI (cells ++ [53 * (k : Int) + 11])) (e_bin (od_catL (by simp; omega)) (e_var (i := 2) rfl) (e_lst (a_cons (e_bin od_add (e_bin (od_mul (mul_ok b53 bk (by decide))) e_int (e_var (i := 1) rfl)) e_int) a_nil))) (by
    show PyData.list _ = PyData.list (List.map _ _)
    rw [List.map_append]
    rfl) T' σ4 _ (S5.same t9) _ fun v6 H10 s10 p10 => ?_
  have t10 := t9.trans s10
  refine e_str T' σ4 _ (S5.same t10) _ fun v7 H11 s11 p11 => ?_
  have t11 := t10.trans s11
  refine e_int T' σ4 _ (S5.same t11) _ fun v8 H12 s12 p12 => ?_
  have t12 := t11.trans s12
  obtain rfl := dp_str p5
  obtain rfl := dp_int p6
  obtain rfl := dp_str p7
  obtain rfl := dp_int p8
  obtain rfl := dp_str p9
  obtain rfl := dp_str p11
  obtain rfl := dp_int p12
  obtain ⟨pc, xs', rfl, g1, g2⟩ := dp_lst p10
  obtain rfl := dps_ints_inv g2
  have at12 : H12 p = some (.dK []) := t12.ob _ _ upd_same (by intro ps z; cases z)
  have hTp : ¬ T' p := fun z => (S4.dm.dn p z) hp
  have kp : Kp p H12 (upd H12 p (.dK (sts left sd pc 0))) := .put at12
  have s04 : Sm H H4 := ((s1.trans s2).trans s3).trans s4
  have hp0 : H p = none := by
    cases hh : H p with
    | none => rfl
    | some o => exact (s04.dm p (by rw [hh]; exact fun z => by cases z) hp).elim
  refine ⟨at12, sts left sd pc 0, rfl, by show 4 ≤ 15; decide, ?_⟩
  refine hq p _ hp0 (sm_putD ((s04.trans (same_new (o := .dK []) hp)).trans t12) hp0 at12) ⟨left, sd, pc, 0, cells ++ [53 * (k : Int) + 11], ?_, ?_, by simp, by simp; omega, fun c hc => ?_, d0, d1, Int.le_refl _, by decide⟩
  · rw [off_no hTp, upd_same]
    rfl
  · exact kp_l (kp_off kp hTp) ⟨_, by rw [off_no hTp]; exact at12⟩ _ _ (same_l (off_same (s11.trans s12)) _ _ g1)
  · rcases List.mem_append.mp hc with hc | hc
    · exact (hcb c hc).mono (by decide)
    · rw [List.mem_singleton] at hc
      subst hc
      exact (bits_lt (n := 60) (by omega) (by omega)).mono (by decide)
theorem ok_draw (F : Fun K "_law_draw" "_law_draw" st__law_draw f fd) (T : Tx mg) : FnG P w K mg base CX0 1 f fd ["m", "bound"] (spM K 1 R_draw) := by
  refine fnM F sc__law_draw (fun ds Pd h => by obtain ⟨b, rfl, _⟩ := h; rfl) fun cdv A outer s H E G hr hgd a n ds Pd h => ?_
  obtain ⟨b, rfl, hb, hbb, hP⟩ := h
  have hb9 : b.natAbs.log2 < 9000 := Nat.lt_of_lt_of_le (hbb.log (by decide)) (by decide)
  refine q_cons (qs_if (PB := fun _ => True) (m := n + 1) (mt_cmp (P1 := PInt) (P2 := fun _ d => d = .int 0) (m := n + 1) (m_left (i := 0) G.un rfl) (fun _ _ => m_pure e_int rfl (Nat.le_refl _)) (fun d1 d2 h1 h2 => by
    obtain ⟨i, rfl⟩ := h1
    subst h2
    exact ⟨_, od_gt, trivial⟩) (nomark _)) (fun _ => ?_) fun _ => q_nil ?_)
  · refine q_cons (qs_set (i := 2) (m := n + 1) G (P := fun d => ∃ r : Int, d = .int r ∧ 0 ≤ r ∧ r < b) (m_bin (P1 := PInt) (P2 := fun _ d => d = .int b) (m := n + 1)
      (m_callT (PA := fun ds => ∃ d ds', ds = d :: ds' ∧ PInt d ∧ ds' = []) (fun ds h => by
        obtain ⟨d, _, rfl, ⟨i, rfl⟩, rfl⟩ := h
        exact ⟨_, ca_int, i, rfl⟩) (ma_cons (m_left (i := 0) G.un rfl) fun _ _ => ma_nil (Nat.le_refl _)) T.int (by decide +kernel))
      (fun _ _ => m_pure (e_var (i := 1) rfl) rfl (Nat.le_refl _)) (fun d1 d2 h1 h2 => by
        obtain ⟨i, rfl⟩ := h1
        subst h2
        exact ⟨_, od_mod hb, _, rfl, Int.emod_nonneg _ (by omega), Int.emod_lt_of_pos _ hb⟩)) fun d hd => ?_)
    obtain ⟨r, rfl, r0, r1⟩ := hd
    refine q_cons (qs_putLeft (i := 0) (m := n + 1) G.un rfl (m_bin (P1 := PInt) (P2 := fun _ d => d = .int b) (m := n + 1) (m_left (i := 0) G.un rfl) (fun _ _ => m_pure (e_var (i := 1) rfl) rfl (Nat.le_refl _)) (fun d1 d2 h1 h2 => by
        obtain ⟨i, rfl⟩ := h1
        subst h2
        exact ⟨_, od_fdiv (by omega) hb9, _, rfl⟩)) ?_)
    exact q_one (qs_ret (m := n + 1) (P := fun d => d = .int r) (m_pure (e_var (i := 2) rfl) rfl (Nat.le_refl _)) fun d hd => by
      subst hd
      exact ⟨by omega, hP r r0 r1⟩)
  · refine q_cons (qs_set (i := 3) (m := n + 1) G (m_spot (i := 0) G.un rfl) fun d hd => ?_)
    obtain ⟨sp, rfl, s0, s1⟩ := hd
    have sb : Bits 41 sp := bits_lt s0 (by omega)
    refine q_cons (qs_putSpot (i := 0) (m := n + 1) (k := n) G.un rfl (m_pure (e_bin od_add (e_var (i := 3) rfl) e_int) ⟨_, rfl, by omega, by omega⟩ (Nat.le_refl _)) ?_)
    have b4 : Bits 16 40503 := show (40503 : Nat) < 2 ^ 16 by decide
    refine q_cons (qs_par (i := 4) (j := 5) (m := n) (PA := fun ds => ∃ d ds', ds = d :: ds' ∧ PCells d ∧ ∃ d2 ds2, ds' = d2 :: ds2 ∧ PInt d2 ∧ ds2 = []) G (ma_cons (m_cells (i := 0) G.un rfl) fun _ _ => ma_cons (m_bin (P1 := PInt) (P2 := fun _ => PInt) (m := n) (m_seed (i := 0) G.un rfl)
      (fun _ _ => m_pure (e_bin (od_mul (mul_ok (Bits.mul b4 sb) sb (by decide))) (e_bin (od_mul (mul_ok b4 sb (by decide))) e_int (e_var (i := 3) rfl)) (e_var (i := 3) rfl)) ⟨_, rfl⟩ (Nat.le_refl _)) (fun d1 d2 h1 h2 => by
        obtain ⟨i, rfl⟩ := h1
        obtain ⟨j, rfl⟩ := h2
        exact ⟨_, od_add, _, rfl⟩)) fun _ _ => ma_nil (Nat.le_refl _)) fun ds hds => ?_)
    obtain ⟨_, _, rfl, ⟨cells, rfl, c1, c2, c3⟩, _, _, rfl, ⟨extra, rfl⟩, rfl⟩ := hds
    refine ⟨_, _, rfl, ?_⟩
    have c1' : 1 ≤ (cells.map PyData.int).length := by simpa using c1
    obtain ⟨cd, hc, hat⟩ := at_mod (xs := cells.map PyData.int) s0 c1'
    obtain ⟨cell, hcell, rfl⟩ := List.mem_map.mp hc
    refine q_cons (qs_set (i := 6) (m := n) (P := fun d => d = .int cell) G (m_pure (e_ixL (e_var (i := 4) rfl) (e_bin (od_mod (by omega)) (e_callT ca_int (a_cons (e_var (i := 3) rfl) a_nil) T.int (by decide +kernel)) (e_callB ca_lenL (a_cons (e_var (i := 4) rfl) a_nil) T.len (by decide +kernel))) hat) rfl (Nat.le_refl _)) fun d hd => ?_)
    subst hd
    have cb : Bits 2000000 cell := c3 cell hcell
    have b2 : Bits 2 2 := show (2 : Nat) < 2 ^ 2 by decide
    have q3 : Bits 44 (2 * sp + 3) := bits_lt (by omega) (by omega)
    refine q_cons (qs_set (i := 7) (m := n) (P := fun d => ∃ r : Int, d = .int r ∧ 0 ≤ r ∧ r < 2147483647) G (m_pure (e_bin (od_mod (by decide)) (e_callT ca_int (a_cons (e_bin od_add (e_bin (od_mul (mul_ok cb q3 (by decide))) (e_var (i := 6) rfl) (e_bin od_add (e_bin (od_mul (mul_ok b2 sb (by decide))) e_int (e_var (i := 3) rfl)) e_int)) (e_var (i := 5) rfl)) a_nil) T.int (by decide +kernel)) e_int) ⟨_, rfl, Int.emod_nonneg _ (by decide), Int.emod_lt_of_pos _ (by decide)⟩ (Nat.le_refl _)) fun d hd => ?_)
    obtain ⟨bl, rfl, u0, u1⟩ := hd
    have ub : Bits 31 bl := bits_lt u0 (by omega)
    have b6 : Bits 17 69621 := show (69621 : Nat) < 2 ^ 17 by decide
    refine q_cons (qs_set (i := 7) (m := n) (P := fun d => ∃ r : Int, d = .int r ∧ 0 ≤ r ∧ r < 2147483629) G (m_bin (P1 := PInt) (P2 := fun _ d => d = .int 2147483629) (m := n)
      (m_callT (PA := fun ds => ∃ d ds', ds = d :: ds' ∧ PInt d ∧ ds' = []) (fun ds h => by
        obtain ⟨d, _, rfl, ⟨i, rfl⟩, rfl⟩ := h
        exact ⟨_, ca_int, i, rfl⟩) (ma_cons (m_bin (P1 := PInt) (P2 := fun _ => PInt) (m := n)
          (m_pure (e_bin od_add (e_bin (od_mul (mul_ok ub ub (by decide))) (e_var (i := 7) rfl) (e_var (i := 7) rfl)) (e_bin (od_mul (mul_ok b6 sb (by decide))) e_int (e_var (i := 3) rfl))) ⟨_, rfl⟩ (Nat.le_refl _))
          (fun _ _ => m_seed (i := 0) G.un rfl) (fun d1 d2 h1 h2 => by
            obtain ⟨i, rfl⟩ := h1
            obtain ⟨j, rfl⟩ := h2
            exact ⟨_, od_add, _, rfl⟩)) fun _ _ => ma_nil (Nat.le_refl _)) T.int (by decide +kernel))
      (fun _ _ => m_pure e_int rfl (Nat.le_refl _)) (fun d1 d2 h1 h2 => by
        obtain ⟨i, rfl⟩ := h1
        subst h2
        exact ⟨_, od_mod (by decide), _, rfl, Int.emod_nonneg _ (by decide), Int.emod_lt_of_pos _ (by decide)⟩)) fun d hd => ?_)
    obtain ⟨b3, rfl, v0, v1⟩ := hd
    have vb : Bits 31 b3 := bits_lt v0 (by omega)
    have b7 : Bits 17 48271 := show (48271 : Nat) < 2 ^ 17 by decide
    exact q_one (qs_ret (m := n) (P := Pd) (m_pure (e_bin (od_mod hb) (e_bin (od_fdiv (by decide) (by decide)) (e_bin (od_mod (by decide)) (e_callT ca_int (a_cons (e_bin od_add (e_bin (od_mul (mul_ok vb b7 (by decide))) (e_var (i := 7) rfl) e_int) (e_var (i := 3) rfl)) a_nil) T.int (by decide +kernel)) e_int) e_int) (e_var (i := 1) rfl)) (hP _ (Int.emod_nonneg _ (by omega)) (Int.emod_lt_of_pos _ hb)) (Nat.le_refl _)) fun d hd => ⟨Nat.le_refl _, hd⟩)
theorem ok_like (F : Fun K "_law_like" "_law_like" st__law_like f fd) (T : Tx mg) : FnG P w K mg base CX0 1 f fd ["told", "due"] (spR K R_like) := by
  refine fnRG F sc__law_like (fun ds d h => by obtain ⟨x, rfl, _⟩ := h; rfl) fun cdv A outer s H E G hr hgd ds d h => ?_
  obtain ⟨x, rfl, ht, rfl⟩ := h
  exact r_one (rs_ret (e_cmp od_eqS (e_callB (ca_repr hgd G.un ht) (a_cons (e_var (i := 0) rfl) a_nil) T.repr (by decide +kernel)) (e_callB (ca_repr hgd G.un ht) (a_cons (e_var (i := 1) rfl) a_nil) T.repr (by decide +kernel)) (nomark _)) (by rw [beq_self_eq_true]))
theorem ok_common (F : Fun K "_law_common" "_law_common" st__law_common f fd) (T : Tx mg) : FnOk P w K mg base CX0 1 f fd ["numbers_so"] (spR K R_cd) := by
  refine fnR F sc__law_common (fun ds d h => by obtain ⟨x, h, _⟩ := h; rcases h with rfl | rfl <;> rfl) fun cdv A outer s H E G hr ds d h => ?_
  obtain ⟨xs, h, rfl⟩ := h
  have main : ∀ v : PyData, (∀ tg p (ρ : Rho), ρ[0]? = some (some (.dat v)) → Src (cxOf CX0 P w K mg base n__law_common "_law_common" (defScope st__law_common) f cdv A outer s H E).nox 0 tg (.Name "numbers_so" p) ρ (xs.map .int)) →
      Run (cxOf CX0 P w K mg base n__law_common "_law_common" (defScope st__law_common) f cdv A outer s H E).nox 0 (defBody st__law_common) [some (.dat v), none, none, none] (fun _ => PyData.int (gcdL xs) = .none) (fun d' => d' = .int (gcdL xs)) := fun v hs => by
    refine r_cons (rs_set (i := 1) G e_int ?_)
    refine r_cons (rs_for G (hs _ _ _ rfl) (pg_name (i := 2) sc__law_common.nd rfl (Or.inl rfl)) (tg_name (vs := [2]) (by decide)) (fun n ρ' => ∃ y z, ρ' = [some (.dat v), some (.dat (.int (gcdL (xs.take n)))), y, z]) ⟨_, _, rfl⟩ (fun n d ρ1 hd hJ => ?_) fun ρ' hJ => ?_)
    · obtain ⟨x, hx, rfl⟩ := getI hd
      obtain ⟨_, _, rfl⟩ := hJ
      refine ⟨_, rfl, r_cons (rs_set (i := 3) G (e_callB ca_abs (a_cons (e_var (i := 2) rfl) a_nil) T.abs (by decide +kernel)) ?_)⟩
      refine r_one (rs_while G (fun m ρ' => ∃ a b : Nat, b = m ∧ Nat.gcd a b = gcdL (xs.take (n + 1)) ∧ ρ' = [some (.dat v), some (.dat (.int (a : Int))), some (.dat (.int x)), some (.dat (.int (b : Int)))]) x.natAbs ⟨gcdL (xs.take n), x.natAbs, rfl, (gcdL_take hx).symm, ?_⟩ fun m ρ' hW => ?_)
      · have : (if x < 0 then -x else x) = (x.natAbs : Int) := by
          split <;> omega
        rw [this] <;> rfl
      · obtain ⟨a, b, rfl, hg, rfl⟩ := hW
        refine ⟨_, t_cmp od_neI (e_var (i := 3) rfl) e_int (nomark _), fun hne => ?_, fun he => ?_⟩
        · have hb0 : 0 < b := by
            rcases Nat.eq_zero_or_pos b with h | h
            · subst h; cases hne
            · exact h
          refine r_one (rs_par (i := 1) (j := 3) G (a_cons (e_var (i := 3) rfl) (a_cons (e_bin (od_mod (by omega)) (e_callT ca_int (a_cons (e_var (i := 1) rfl) a_nil) T.int (by decide +kernel)) (e_var (i := 3) rfl)) a_nil)) ⟨a % b, Nat.mod_lt _ hb0, b, a % b, rfl, ?_, ?_⟩)
          · rw [Nat.gcd_comm b, ← Nat.gcd_rec, Nat.gcd_comm, hg]
          · rw [show ((a : Int) % (b : Int)) = ((a % b : Nat) : Int) by omega] <;> rfl
        · have hb0 : b = 0 := by
            have he' : (!((b : Int) == 0)) = false := he
            rw [Bool.not_eq_false', beq_iff_eq] at he'
            omega
          subst hb0
          rw [Nat.gcd_zero_right] at hg
          exact ⟨_, _, by rw [hg]⟩
    · obtain ⟨_, _, rfl⟩ := hJ
      rw [List.length_map, List.take_length]
      exact r_one (rs_ret (e_var (i := 1) rfl) rfl)
  rcases h with rfl | rfl
  · exact main _ fun _ _ ρ hρ => src_T (e_var (i := 0) hρ)
  · exact main _ fun _ _ ρ hρ => src_L (e_var (i := 0) hρ)
theorem ok_lowered (F : Fun K "_law_lowered" "_law_lowered" st__law_lowered f fd) (T : Tx mg) (C1 : Cal P w K mg base 1 "_law_common" ["numbers_so"] (spR K R_cd)) : FnOk P w K mg base CX0 2 f fd ["numbers_so"] (spR K R_short) := by
  refine fnR F sc__law_lowered (fun ds d h => by obtain ⟨x, h, _⟩ := h; rcases h with rfl | rfl <;> rfl) fun cdv A outer s H E G hr ds d h => ?_
  obtain ⟨xs, h, hb, hl, rfl⟩ := h
  have main : ∀ v : PyData, (v = tI xs ∨ v = lI xs) → (∀ tg p (ρ : Rho), ρ[0]? = some (some (.dat v)) → Src (cxOf CX0 P w K mg base n__law_lowered "_law_lowered" (defScope st__law_lowered) f cdv A outer s H E).nox 0 tg (.Name "numbers_so" p) ρ (xs.map .int)) →
      CaD (cxOf CX0 P w K mg base n__law_lowered "_law_lowered" (defScope st__law_lowered) f cdv A outer s H E).nox (.type "tuple") [v] (tI xs) →
      Run (cxOf CX0 P w K mg base n__law_lowered "_law_lowered" (defScope st__law_lowered) f cdv A outer s H E).nox 0 (defBody st__law_lowered) [some (.dat v), none, none] (fun _ => tI (shortL xs) = .none) (fun d' => d' = tI (shortL xs)) := fun v hv hs hc => by
    refine r_cons (rs_set (i := 1) G (e_call C1 (hr.mono (by decide)) (a_cons (e_var (i := 0) rfl) a_nil) ⟨xs, by rcases hv with rfl | rfl <;> simp, rfl⟩) ?_)
    refine r_one (rs_ret (e_if (d := tI (shortL xs)) (t_cmp od_gt (e_var (i := 1) rfl) e_int (nomark _)) (fun h2 => ?_) (fun h2 => ?_)) rfl)
    · have h2 := of_decide_eq_true h2
      have g0 : (gcdL xs : Int) ≠ 0 := by omega
      have gb : (gcdL xs : Int).natAbs.log2 < 9000 := Nat.lt_of_lt_of_le ((gcdL_bits hb).log (by decide)) (by decide)
      refine e_is (e_callT ca_tupL (a_cons (e_lc0 (own := [("number", 2)]) (f := fName 2) (val := onInt fun x => x.fdiv (gcdL xs : Int)) G (hs _ _ _ rfl) (by simp; omega) (blkOk_by (N := n__law_lowered) (sc := defScope st__law_lowered) (by decide +kernel))
        (fun _ _ _ _ _ => pg_name (i := 2) sc__law_lowered.nd rfl (Or.inl rfl)) (tg_name (by decide)) fun d hd => ?_) a_nil) T.tuple (by decide +kernel)) ?_
      · obtain ⟨x, hx, rfl⟩ := mem_mapI hd
        exact ⟨_, rfl, fun s H C cl fp => e_bin (od_fdiv g0 gb) (e_var (i := 2) rfl) (e_var (i := 1) rfl)⟩
      · rw [mapI]
        unfold shortL
        rw [if_neg (by omega)]
    · have h2 := of_decide_eq_false h2
      refine e_is (e_callT hc (a_cons (e_var (i := 0) rfl) a_nil) T.tuple (by decide +kernel)) ?_
      unfold shortL
      rw [if_pos (by omega)]
  rcases h with rfl | rfl
  · exact main _ (.inl rfl) (fun _ _ ρ hρ => src_T (e_var (i := 0) hρ)) ca_tupT
  · exact main _ (.inr rfl) (fun _ _ ρ hρ => src_L (e_var (i := 0) hρ)) ca_tupL
theorem ok_fraction (F : Fun K "_law_fraction" "_law_fraction" st__law_fraction f fd) (C1 : Cal P w K mg base 2 "_law_lowered" ["numbers_so"] (spR K R_short)) : FnOk P w K mg base CX0 3 f fd ["top", "bottom"] (spR K R_fraction) := by
  refine fnR F sc__law_fraction (fun ds d h => by obtain ⟨x, _, rfl, _⟩ := h; rfl) fun cdv A outer s H E G hr ds d h => ?_
  obtain ⟨t, b, rfl, ht, hb, rfl⟩ := h
  refine r_cons (rs_set (i := 2) G (e_call C1 (hr.mono (by decide)) (a_cons (e_lst (a_cons (e_var (i := 0) rfl) (a_cons (e_var (i := 1) rfl) a_nil))) a_nil) ⟨[t, b], .inr rfl, fun x hx => ?_, by simp, rfl⟩) ?_)
  · rcases List.mem_cons.mp hx with rfl | hx
    · exact ht
    · rw [List.mem_singleton] at hx
      subst hx
      exact hb
  · obtain ⟨u, v, e⟩ : ∃ u v, shortL [t, b] = [u, v] := by
      have := shortL_len [t, b]
      match h : shortL [t, b], this with
      | [u, v], _ => exact ⟨u, v, rfl⟩
    have e2 : ∀ c : Bool, c = decide (0 < b) → fracL t b = if c = true then [u, v] else [-u, -v] := fun c hc => by
      unfold fracL
      rw [e, hc]
      by_cases hbp : 0 < b
      · rw [if_pos hbp, if_pos (decide_eq_true hbp)]
      · rw [if_neg hbp, if_neg (by simpa using hbp)] <;> rfl
    rw [e]
    refine r_one (rs_ret (e_if (d := tI (fracL t b)) (t_cmp od_gt (e_var (i := 1) rfl) e_int (nomark _)) (fun h2 => e_is (e_var (i := 2) rfl) ?_) (fun h2 => e_is (e_tup (a_cons (e_neg (e_ixT (e_var (i := 2) rfl) e_int (d := .int u) rfl)) (a_cons (e_neg (e_ixT (e_var (i := 2) rfl) e_int (d := .int v) rfl)) a_nil))) ?_)) rfl)
    · rw [e2 _ rfl, if_pos h2]
    · rw [e2 _ rfl, if_neg (by rw [h2]; exact Bool.false_ne_true)] <;> rfl
theorem ok_point (F : Fun K "_law_point" "_law_point" st__law_point f fd) (C1 : Cal P w K mg base 2 "_law_lowered" ["numbers_so"] (spR K R_short)) : FnOk P w K mg base CX0 3 f fd ["numbers_so", "bottom"] (spR K R_point) := by
  refine fnR F sc__law_point (fun ds d h => by obtain ⟨x, _, rfl, _⟩ := h; rfl) fun cdv A outer s H E G hr ds d h => ?_
  obtain ⟨ns, b, rfl, h0, hb, hb2, hz, rfl⟩ := h
  have b1 : Bits 10 1 := show (1 : Nat) < 2 ^ 10 by decide
  refine r_cons (rs_set (i := 2) G (e_ifT (t_is (t_cmp od_gt (e_var (i := 1) rfl) e_int (nomark _)) (decide_eq_true h0)) e_int) ?_)
  refine r_one (rs_ret (e_call C1 (hr.mono (by decide)) (a_cons (e_is (d' := lI (ns ++ [b])) (e_bin (od_catL (by simp; omega)) (e_lc0 (own := [("number", 3)]) (f := fName 3) (val := onInt fun x => 1 * x) G (src_L (e_var (i := 0) rfl)) (by simp; omega) (blkOk_by (N := n__law_point) (sc := defScope st__law_point) (by decide +kernel))
        (fun _ _ _ _ _ => pg_name (i := 3) sc__law_point.nd rfl (Or.inl rfl)) (tg_name (by decide)) fun d hd => ?_) (e_lst (a_cons (e_bin (od_mul (mul_ok b1 hb2 (by decide))) (e_var (i := 2) rfl) (e_var (i := 1) rfl)) a_nil))) ?_) a_nil) ⟨_, .inr rfl, fun x hx => ?_, by simp; omega, rfl⟩) rfl)
  · obtain ⟨x, hx, rfl⟩ := mem_mapI hd
    exact ⟨_, rfl, fun s H C cl fp => e_bin (od_mul (mul_ok b1 (hb x hx) (by decide))) (e_var (i := 2) rfl) (e_var (i := 3) rfl)⟩
  · rw [mapI, show (fun x : Int => 1 * x) = id from funext fun x => Int.one_mul x, List.map_id, Int.one_mul]
    show PyData.list _ = PyData.list (List.map _ _)
    rw [List.map_append]
    rfl
  · rcases List.mem_append.mp hx with hx | hx
    · exact (hb x hx).mono (by decide)
    · rw [List.mem_singleton] at hx
      subst hx
      exact hb2.mono (by decide)
end
end K2
/-! Points of fractions and back, directions. -/
namespace K2
open PySem PySem.Spec PyProof.Rows L2 Zj
variable [Nm]
section
variable {P : Program} {w : World} {K : PySem.W.Frag} {mg : Str → Option Value} {base : Heap} {f : Addr} {fd : FuncData}
def R_cm (ds : List PyData) (d : PyData) : Prop := ∃ xs : List Int, ds = [lI xs] ∧ BitsL 700 xs ∧ xs.length ≤ 5 ∧ d = .int (lcmL xs)
theorem ok_cm (F : Fun K "common_multiple" "common_multiple" st_common_multiple f fd) (T : Tx mg) (hl : mg "lcm" = some (.builtin "math.lcm")) : FnOk P w K mg base CX0 1 f fd ["numbers"] (spR K R_cm) := by
  refine fnR F sc_common_multiple (fun ds d h => by obtain ⟨x, rfl, _⟩ := h; rfl) fun cdv A outer s H E G hr ds d h => ?_
  obtain ⟨xs, rfl, hb, hz, rfl⟩ := h
  refine r_cons (rs_set (i := 1) G e_int ?_)
  refine r_cons (rs_for G (src_L (e_var (i := 0) rfl)) (pg_name (i := 2) sc_common_multiple.nd rfl (Or.inl rfl)) (tg_name (vs := [2]) (by decide)) (fun n ρ' => ∃ y, ρ' = [some (.dat (lI xs)), some (.dat (.int (lcmL (xs.take n)))), y]) ⟨_, rfl⟩ (fun n d ρ1 hd hJ => ?_) fun ρ' hJ => ?_)
  · obtain ⟨x, hx, rfl⟩ := getI hd
    obtain ⟨_, rfl⟩ := hJ
    have hb1 : Bits 6000 (lcmL (xs.take n) : Int) := (lcmL_bits (m := 700) fun y hy => hb y (List.mem_of_mem_take hy)).mono (by
      have : (xs.take n).length ≤ xs.length := by simp; omega
      omega)
    refine ⟨_, rfl, r_one (rs_set (i := 1) G (e_callM (ca_lcm hb1 ((hb x (List.mem_of_getElem? hx)).mono (by decide))) (a_cons (e_var (i := 1) rfl) (a_cons (e_var (i := 2) rfl) a_nil)) hl) ⟨some (.dat (.int x)), ?_⟩)⟩
    rw [lcmL_take hx, Int.natAbs_natCast] <;> rfl
  · obtain ⟨_, rfl⟩ := hJ
    rw [List.length_map, List.take_length]
    exact r_one (rs_ret (e_var (i := 1) rfl) rfl)
/-- a fraction, as data -/
def fr (p : Int × Int) : PyData := tI [p.1, p.2]
def onFr (g : Int → Int → Int) : PyData → PyData
  | .tuple [.int x, .int y] => .int (g x y)
  | _ => .none
theorem onFrs (g : Int → Int → Int) (cs : List (Int × Int)) : (cs.map fr).map (onFr g) = (cs.map fun p => g p.1 p.2).map .int := by
  rw [List.map_map, List.map_map]
  rfl
def Cs (cs : List (Int × Int)) : Prop := (∀ p ∈ cs, Fr p ∧ Bits 80 p.1 ∧ Bits 60 p.2) ∧ cs.length ≤ 4
theorem cs_bits {cs : List (Int × Int)} (h : Cs cs) : Bits 250 (lcmL (cs.map Prod.snd) : Int) ∧ BitsL 400 (ptC cs) := by
  have hw : Bits 250 (lcmL (cs.map Prod.snd) : Int) := (lcmL_bits (m := 60) fun b hb => by
    obtain ⟨p, hp, rfl⟩ := List.mem_map.mp hb
    exact (h.1 p hp).2.2).mono (by rw [List.length_map]; have := h.2; omega)
  refine ⟨hw, fun x hx => ?_⟩
  rcases List.mem_append.mp hx with hx | hx
  · obtain ⟨p, hp, rfl⟩ := List.mem_map.mp hx
    obtain ⟨k, hk0, e1, e2⟩ := quot_of (fun q hq => (h.1 q hq).1) hp
    rw [e2]
    have hk : Bits 250 (k : Int) := hw.le (by
      rw [e1, Int.natAbs_mul]
      have := (h.1 p hp).1.1
      exact Nat.le_mul_of_pos_left _ (by omega))
    exact (Bits.mul (h.1 p hp).2.1 hk).mono (by decide)
  · rw [List.mem_singleton] at hx
    subst hx
    exact hw.mono (by decide)
def R_ptof (ds : List PyData) (d : PyData) : Prop := ∃ cs, ds = [.tuple (cs.map fr)] ∧ Cs cs ∧ 1 ≤ cs.length ∧ d = tI (ptC cs)
theorem ok_ptof (F : Fun K "point_of" "point_of" st_point_of f fd) (T : Tx mg) (C1 : Cal P w K mg base 1 "common_multiple" ["numbers"] (spR K R_cm)) : FnOk P w K mg base CX0 2 f fd ["coordinates"] (spR K R_ptof) := by
  refine fnR F sc_point_of (fun ds d h => by obtain ⟨x, rfl, _⟩ := h; rfl) fun cdv A outer s H E G hr ds d h => ?_
  obtain ⟨cs, rfl, hc, h1, rfl⟩ := h
  have hz := hc.2
  refine r_cons (rs_set (i := 1) G (e_call C1 (hr.mono (by decide)) (a_cons (e_is (d' := lI (cs.map Prod.snd)) (e_lc0 (own := [("fraction", 2)]) (f := fName 2) (val := onFr fun _ y => y) G (src_T (e_var (i := 0) rfl)) (by simp; omega) (blkOk_by (N := n_point_of) (sc := defScope st_point_of) (by decide +kernel))
      (fun _ _ _ _ _ => pg_name (i := 2) sc_point_of.nd rfl (Or.inl rfl)) (tg_name (by decide)) fun d hd => ?_) (by rw [onFrs] <;> rfl)) a_nil) ⟨_, rfl, fun b hb => ?_, by rw [List.length_map]; omega, rfl⟩) ?_)
  · obtain ⟨p, hp, rfl⟩ := List.mem_map.mp hd
    exact ⟨_, rfl, fun s H C cl fp => e_ixT (ds := [.int p.1, .int p.2]) (e_var (i := 2) rfl) e_int (ati_of (j := 1) rfl rfl)⟩
  · obtain ⟨p, hp, rfl⟩ := List.mem_map.mp hb
    exact (hc.1 p hp).2.2.mono (by decide)
  · have hw := (cs_bits hc).1
    refine r_one (rs_ret (e_is (e_bin (od_catA (es := (cs.map fun p => p.1 * Int.fdiv (lcmL (cs.map Prod.snd)) p.2).map .int) (fs := [.int (lcmL (cs.map Prod.snd))]) (by simp; omega)) (e_is (e_callT ca_tupL (a_cons (e_lc0 (own := [("top", 3), ("bottom", 4)]) (f := fPair 3 4) (val := onFr fun x y => x * Int.fdiv (lcmL (cs.map Prod.snd)) y) G (src_T (e_var (i := 0) rfl)) (by simp; omega) (blkOk_by (N := n_point_of) (sc := defScope st_point_of) (by decide +kernel))
      (fun _ _ _ _ _ => pg_tup rfl (pgs_cons (pg_name (i := 3) sc_point_of.nd rfl (Or.inl rfl)) (pgs_cons (pg_name (i := 4) sc_point_of.nd rfl (Or.inl rfl)) pgs_nil))) (tg_pair (by decide) (by decide)) fun d hd => ?_) a_nil) T.tuple (by decide +kernel)) (by rw [onFrs])) (e_tup (a_cons (e_var (i := 1) rfl) a_nil))) ?_) rfl)
    · obtain ⟨p, hp, rfl⟩ := List.mem_map.mp hd
      obtain ⟨k, hk0, e1, e2⟩ := quot_of (fun q hq => (hc.1 q hq).1) hp
      have hp2 := (hc.1 p hp).1.1
      have hq : Bits 250 (Int.fdiv (lcmL (cs.map Prod.snd)) p.2) := by
        rw [e2]
        exact hw.le (by rw [e1, Int.natAbs_mul]; exact Nat.le_mul_of_pos_left _ (by omega))
      exact ⟨_, rfl, fun s H C cl fp => e_bin (od_mul (mul_ok (hc.1 p hp).2.1 hq (by decide))) (e_var (i := 3) rfl) (e_bin (od_fdiv (by omega) (Nat.lt_of_lt_of_le ((hc.1 p hp).2.2.log (by decide)) (by decide))) (e_var (i := 1) rfl) (e_var (i := 4) rfl))⟩
    · show PyData.tuple _ = PyData.tuple (List.map _ _)
      unfold ptC
      rw [List.map_append]
      rfl
/-- a point's coordinates, told back -/
def R_coo (ds : List PyData) (d : PyData) : Prop := ∃ cs, ds = [tI (ptC cs)] ∧ Cs cs ∧ d = .tuple (cs.map fr)
theorem frac_self {p : Int × Int} (h : Fr p) {k : Int} (hk : 0 < k) : fracL (p.1 * k) (p.2 * k) = [p.1, p.2] := by
  have hpos : 0 < p.2 * k := Int.mul_pos h.1 hk
  unfold fracL
  rw [if_pos hpos, show [p.1 * k, p.2 * k] = [p.1, p.2].map (fun x => k * x) by simp [Int.mul_comm]]
  refine short_times ?_ hk
  rw [gcdL_cons, gcdL_cons, gcdL_nil, Nat.gcd_zero_right]
  exact h.2
theorem ok_coo (F : Fun K "coordinates_of" "coordinates_of" st_coordinates_of f fd) (T : Tx mg) (C1 : Cal P w K mg base 1 "lowest" ["top", "bottom"] (spR K R_lowest)) : FnOk P w K mg base CX0 2 f fd ["point"] (spR K R_coo) := by
  refine fnR F sc_coordinates_of (fun ds d h => by obtain ⟨x, rfl, _⟩ := h; rfl) fun cdv A outer s H E G hr ds d h => ?_
  obtain ⟨cs, rfl, hc, rfl⟩ := h
  have hz := hc.2
  have hw := (cs_bits hc).1
  have hw0 : 0 < lcmL (cs.map Prod.snd) := lcmL_pos fun b hb => by
    obtain ⟨p, hp, rfl⟩ := List.mem_map.mp hb
    exact (hc.1 p hp).1.1
  have hlast : (ptC cs).getLast? = some (lcmL (cs.map Prod.snd) : Int) := by unfold ptC; simp
  have hinit : (ptC cs).dropLast = cs.map fun p => p.1 * Int.fdiv (lcmL (cs.map Prod.snd)) p.2 := by unfold ptC; simp
  have h1' : 1 ≤ ((ptC cs).map PyData.int).length := by unfold ptC; simp
  refine r_one (rs_ret (e_is (e_callT ca_tupL (a_cons (e_lc0 (own := [("number", 1)]) (f := fName 1) (val := fun d => match d with | .int x => tI (fracL x (lcmL (cs.map Prod.snd))) | _ => .none) (items := (cs.map fun p => p.1 * Int.fdiv (lcmL (cs.map Prod.snd)) p.2).map .int) G
      (src_T (e_is (e_slA (e_var (i := 0) rfl) o_non (o_int (e_neg e_int))) (by rw [cutD_init _ h1', initI, hinit]))) (by simp; omega) (blkOk_by (N := n_coordinates_of) (sc := defScope st_coordinates_of) (by decide +kernel))
      (fun _ _ _ _ _ => pg_name (i := 1) sc_coordinates_of.nd rfl (Or.inl rfl)) (tg_name (by decide)) fun d hd => ?_) a_nil) T.tuple (by decide +kernel)) ?_) rfl)
  · obtain ⟨x, hx, rfl⟩ := mem_mapI hd
    exact ⟨_, rfl, fun s H C cl fp => e_call C1 (hr.mono (by decide)) (a_cons (e_var (i := 1) rfl) (a_cons (e_ixT (e_var (i := 0) rfl) (e_neg e_int) (ati_last (lastI hlast))) a_nil)) ⟨_, _, rfl, by omega, hw.mono (by decide), rfl⟩⟩
  · rw [List.map_map, List.map_map]
    refine congrArg PyData.tuple (List.map_congr_left fun p hp => ?_)
    obtain ⟨k, hk0, e1, e2⟩ := quot_of (fun q hq => (hc.1 q hq).1) hp
    show tI (fracL (p.1 * Int.fdiv (lcmL (cs.map Prod.snd)) p.2) (lcmL (cs.map Prod.snd))) = tI [p.1, p.2]
    rw [e2, e1, frac_self (hc.1 p hp).1 (by omega)]
end
end K2
/-! Directions. -/
namespace K2
open PySem PySem.Spec PyProof.Rows L2 Zj
variable [Nm]
section
variable {P : Program} {w : World} {K : PySem.W.Frag} {mg : Str → Option Value} {base : Heap} {f : Addr} {fd : FuncData}
/-- so many times what leads from p to q -/
def stepsL (p q : List Int) (pl ql : Int) : List Int := List.zipWith (fun near far => far * pl - near * ql) p.dropLast q.dropLast
theorem steps_bits {p q : List Int} {pl ql : Int} (hp : p.getLast? = some pl) (hq : q.getLast? = some ql) (h1 : BitsL 500 p) (h2 : BitsL 500 q) : BitsL 1100 (stepsL p q pl ql) := by
  intro x hx
  obtain ⟨i, hi⟩ := List.getElem?_of_mem hx
  unfold stepsL at hi
  rw [List.getElem?_zipWith] at hi
  split at hi
  · rename_i n s e1 e2
    cases hi
    have q1 := h1 n (List.dropLast_subset _ (List.mem_of_getElem? e1))
    have q2 := h2 s (List.dropLast_subset _ (List.mem_of_getElem? e2))
    have l1 := h1 pl (List.mem_of_getLast? hp)
    have l2 := h2 ql (List.mem_of_getLast? hq)
    rw [Int.sub_eq_add_neg]
    exact (Bits.add (Bits.mul q2 l1) (Bits.mul q1 l2).neg).mono (by decide)
  · cases hi
theorem steps_len {p q : List Int} {pl ql : Int} : (stepsL p q pl ql).length ≤ p.length := by
  unfold stepsL
  rw [List.length_zipWith, List.length_dropLast]
  omega
def R_steps (ds : List PyData) (d : PyData) : Prop := ∃ (p q : List Int) (pl ql : Int), ds = [tI p, tI q] ∧ p.getLast? = some pl ∧ q.getLast? = some ql ∧ BitsL 500 p ∧ BitsL 500 q ∧ p.length ≤ 10 ∧ d = tI (stepsL p q pl ql)
theorem one_le_of_last {p : List Int} {l : Int} (h : p.getLast? = some l) : 1 ≤ (p.map PyData.int).length := by
  cases p with
  | nil => cases h
  | cons => simp
theorem ok_steps (F : Fun K "steps_between" "steps_between" st_steps_between f fd) (T : Tx mg) : FnOk P w K mg base CX0 1 f fd ["point", "other"] (spR K R_steps) := by
  refine fnR F sc_steps_between (fun ds d h => by obtain ⟨x, _, _, _, rfl, _⟩ := h; rfl) fun cdv A outer s H E G hr ds d h => ?_
  obtain ⟨p, q, pl, ql, rfl, hp, hq, b1, b2, hz, rfl⟩ := h
  have p1 := one_le_of_last hp
  have q1 := one_le_of_last hq
  refine r_one (rs_ret (e_is (e_callT ca_tupL (a_cons (e_lc0 (own := [("near", 2), ("far", 3)]) (f := fPair 2 3) (val := onPair fun near far => far * pl - near * ql) (items := List.zipWith (fun x y => PyData.tuple [x, y]) (p.dropLast.map .int) (q.dropLast.map .int)) G
    (src_ZT (a_cons (e_is (e_slT (e_var (i := 0) rfl) o_non (o_int (e_neg e_int)) (cut_part _ p1)) (by rw [cutD_init _ p1, initI])) (a_cons (e_is (e_slT (e_var (i := 1) rfl) o_non (o_int (e_neg e_int)) (cut_part _ q1)) (by rw [cutD_init _ q1, initI])) a_nil)) T.zip) (by simp; omega) (blkOk_by (N := n_steps_between) (sc := defScope st_steps_between) (by decide +kernel))
    (fun _ _ _ _ _ => pg_tup rfl (pgs_cons (pg_name (i := 2) sc_steps_between.nd rfl (Or.inl rfl)) (pgs_cons (pg_name (i := 3) sc_steps_between.nd rfl (Or.inl rfl)) pgs_nil))) (tg_pair (by decide) (by decide)) fun d hd => ?_) a_nil) T.tuple (by decide +kernel)) ?_) rfl)
  · obtain ⟨x, g1, y, g2, rfl⟩ := mem_zipI hd
    have hx := b1 x (List.dropLast_subset _ g1)
    have hy := b2 y (List.dropLast_subset _ g2)
    have l1 := b1 pl (List.mem_of_getLast? hp)
    have l2 := b2 ql (List.mem_of_getLast? hq)
    exact ⟨_, rfl, fun s H C cl fp => e_bin od_sub (e_bin (od_mul (mul_ok hy l1 (by decide))) (e_var (i := 3) rfl) (e_ixT (e_var (i := 0) rfl) (e_neg e_int) (ati_last (lastI hp)))) (e_bin (od_mul (mul_ok hx l2 (by decide))) (e_var (i := 2) rfl) (e_ixT (e_var (i := 1) rfl) (e_neg e_int) (ati_last (lastI hq))))⟩
  · rw [zipI_map] <;> rfl
def dirO (xs : List Int) : Out := if gcdL xs = 0 then .ex ⟨"Flat", []⟩ else .ok (tI (shortL xs))
def R_dirof (ds : List PyData) (o : Out) : Prop := ∃ xs, ds = [tI xs] ∧ BitsL 8000 xs ∧ xs.length ≤ 1000 ∧ o = dirO xs
theorem ok_dirof (F : Fun K "direction_of" "direction_of" st_direction_of f fd) (CF : ClsP K mg "Flat") (C1 : Cal P w K mg base 1 "common_divisor" ["numbers"] (spR K R_cd)) (C2 : Cal P w K mg base 2 "shortened" ["numbers"] (spR K R_short)) : FnOk P w K mg base (L2.CX P w) 3 f fd ["numbers"] (spX K mg R_dirof) := by
  refine fnX F sc_direction_of (fun ds o h => by obtain ⟨_, rfl, _⟩ := h; rfl) fun cdv A outer s H E G hr ds o h => ?_
  obtain ⟨xs, rfl, hb, hz, rfl⟩ := h
  unfold dirO
  refine x_cons (xs_if (t_cmp od_eqI (e_call C1 (hr.mono (by decide)) (a_cons (e_var (i := 0) rfl) a_nil) ⟨xs, .inl rfl, rfl⟩) e_int (nomark _)) (fun h1 => x_one (xs_raise G (mk_plain CF) ?_)) fun h1 => x_nil (x_one (xs_of (rs_ret (e_call C2 (hr.mono (by decide)) (a_cons (e_var (i := 0) rfl) a_nil) ⟨xs, .inl rfl, hb, hz, rfl⟩) ?_))))
  · rw [if_pos (by simpa using h1)]
  · rw [if_neg (by simpa using h1)]
def dirtoO (p q : List Int) (pl ql : Int) : Out := if p = q then .ex ⟨"Unlike", []⟩ else dirO (stepsL p q pl ql)
def R_dirto (ds : List PyData) (o : Out) : Prop := ∃ (p q : List Int) (pl ql : Int), ds = [tI p, tI q] ∧ p.getLast? = some pl ∧ q.getLast? = some ql ∧ BitsL 500 p ∧ BitsL 500 q ∧ p.length ≤ 10 ∧ o = dirtoO p q pl ql
theorem ok_dirto (F : Fun K "direction_to" "direction_to" st_direction_to f fd) (CU : ClsP K mg "Unlike") (C1 : Cal P w K mg base 1 "steps_between" ["point", "other"] (spR K R_steps)) (CD : CalX P w K mg base 3 "direction_of" ["numbers"] (spX K mg R_dirof)) : FnOk P w K mg base (L2.CX P w) 4 f fd ["point", "other"] (spX K mg R_dirto) := by
  refine fnX F sc_direction_to (fun ds o h => by obtain ⟨_, _, _, _, rfl, _⟩ := h; rfl) fun cdv A outer s H E G hr ds o h => ?_
  obtain ⟨p, q, pl, ql, rfl, hp, hq, b1, b2, hz, rfl⟩ := h
  unfold dirtoO
  refine x_cons (xs_if (b := p == q) (t_is (t_cmp (od_eqD G.un (shaped_tI p) (shaped_tI q)) (e_var (i := 0) rfl) (e_var (i := 1) rfl) (nomark _)) (eqv_tI p q)) (fun h1 => x_one (xs_raise G (mk_plain CU) ?_)) fun h1 => x_nil (x_one ?_))
  · rw [if_pos (by simpa using h1)]
  · rw [if_neg (by simpa using h1)]
    have R : R_dirof [tI (stepsL p q pl ql)] (dirO (stepsL p q pl ql)) := ⟨_, rfl, (steps_bits hp hq b1 b2).mono (by decide), Nat.le_trans steps_len (by omega), rfl⟩
    have ea : ∀ {A : Prop}, A → A := fun h => h
    unfold dirO at R ⊢
    by_cases h0 : gcdL (stepsL p q pl ql) = 0
    · rw [if_pos h0] at R ⊢
      exact xs_ret (x_call CD (hr.mono (by decide)) (a_cons (e_call C1 (hr.mono (by decide)) (a_cons (e_var (i := 0) rfl) (a_cons (e_var (i := 1) rfl) a_nil)) ⟨p, q, pl, ql, rfl, hp, hq, b1, b2, hz, rfl⟩) a_nil) R) rfl
    · rw [if_neg h0] at R ⊢
      exact xs_of (rs_ret (e_callX CD (hr.mono (by decide)) (a_cons (e_call C1 (hr.mono (by decide)) (a_cons (e_var (i := 0) rfl) (a_cons (e_var (i := 1) rfl) a_nil)) ⟨p, q, pl, ql, rfl, hp, hq, b1, b2, hz, rfl⟩) a_nil) R) rfl)
end
end K2
/-! Moves and directions, in numbers. -/
namespace K2
open PySem PySem.Spec PyProof.Rows L2 Zj
theorem gcd_zero {xs : List Int} (h : gcdL xs = 0) : ∀ x ∈ xs, x = 0 := fun x hx => by
  have := gcdL_dvd hx
  rw [h] at this
  exact Int.zero_dvd.mp this
theorem zip_zero {pl ql : Int} : ∀ (xs ys : List Int), xs.length = ys.length → (∀ z ∈ List.zipWith (fun near far => far * pl - near * ql) xs ys, z = 0) → xs.map (fun x => ql * x) = ys.map fun y => pl * y
  | [], [], _, _ => rfl
  | x :: xs, y :: ys, hl, h => by
    have h0 := h (y * pl - x * ql) (by rw [List.zipWith_cons_cons]; exact List.mem_cons_self)
    have ih := zip_zero xs ys (by simpa using hl) fun z hz => h z (by rw [List.zipWith_cons_cons]; exact List.mem_cons_of_mem _ hz)
    rw [List.map_cons, List.map_cons, ih]
    congr 1
    rw [Int.mul_comm ql, Int.mul_comm pl]
    omega
  | [], _ :: _, hl, _ => by cases hl
  | _ :: _, [], hl, _ => by cases hl
/-- what two points are: nothing divides all, the last is above 0 -/
structure Pt2 (p q : List Int) (pl ql : Int) : Prop where
  hp : p.getLast? = some pl
  hq : q.getLast? = some ql
  p0 : 0 < pl
  q0 : 0 < ql
  gp : gcdL p = 1
  gq : gcdL q = 1
  hl : p.length = q.length
theorem Pt2.flip {p q : List Int} {pl ql : Int} (h : Pt2 p q pl ql) : Pt2 q p ql pl := ⟨h.hq, h.hp, h.q0, h.p0, h.gq, h.gp, h.hl.symm⟩
theorem Pt2.dl {p q : List Int} {pl ql : Int} (h : Pt2 p q pl ql) : p.dropLast.length = q.dropLast.length := by
  rw [List.length_dropLast, List.length_dropLast, h.hl]
variable [Nm]
theorem steps_same {p q : List Int} {pl ql : Int} (h : Pt2 p q pl ql) (z : gcdL (stepsL p q pl ql) = 0) : p = q := by
  refine short_same h.gp h.gq h.q0 h.p0 ?_
  have e := zip_zero p.dropLast q.dropLast h.dl (gcd_zero z)
  rw [last_two h.hp, last_two h.hq, List.map_append, List.map_append, e]
  congr 1
  show [ql * pl] = [pl * ql]
  rw [Int.mul_comm]
theorem steps_flip (p q : List Int) (pl ql : Int) : stepsL q p ql pl = (stepsL p q pl ql).map fun x => -1 * x := by
  unfold stepsL
  generalize p.dropLast = xs
  generalize q.dropLast = ys
  induction xs generalizing ys with
  | nil => cases ys <;> rfl
  | cons x xs ih =>
    cases ys with
    | nil => rfl
    | cons y ys =>
      rw [List.zipWith_cons_cons, List.zipWith_cons_cons, List.map_cons, ih]
      congr 1
      omega
/-- a thing so many times, before it is made short -/
theorem short_of {L q : List Int} {c d : Int} (hc : 0 < c) (hd : 0 < d) (gq : gcdL q = 1) (hn : ∃ x ∈ L, x ≠ 0) (e : L.map (fun x => c * x) = q.map fun x => d * x) : shortL L = q := by
  have e2 := shortL_scale (c := c) (by omega) hn
  rw [e, short_times gq hd, if_pos hc, show (fun y : Int => 1 * y) = id from funext fun y => Int.one_mul y, List.map_id] at e2
  exact e2.symm
theorem ring1 {b t pl ql g c n far s : Int} (h1 : c * t = g) (h2 : c * b = pl * ql) (h3 : far * pl - n * ql = g * s) : c * (n * b + s * t * pl) = pl * pl * far := by
  have e1 : c * (n * b + s * t * pl) = n * (c * b) + s * (c * t) * pl := by
    rw [Int.mul_add, Int.mul_left_comm c n b, Int.mul_assoc s t pl, Int.mul_left_comm c s, Int.mul_assoc s (c * t) pl, Int.mul_assoc c t pl]
  have e2 : s * g * pl = (far * pl - n * ql) * pl := by rw [h3, Int.mul_comm s g]
  rw [e1, h1, h2, e2, Int.sub_mul, Int.mul_comm pl ql, ← Int.mul_assoc n ql pl, Int.mul_assoc far pl pl, Int.mul_comm (pl * pl) far]
  omega
theorem ring2 {b t pl ql g c n far s : Int} (h1 : c * t = g) (h2 : c * b = pl * ql) (h3 : far * pl - n * ql = g * s) : c * (far * b + s * -t * ql) = ql * ql * n := by
  refine ring1 (g := -g) (pl := ql) (ql := pl) (by rw [Int.mul_neg, h1]) (by rw [h2, Int.mul_comm]) ?_
  rw [Int.neg_mul, ← h3]
  omega
theorem zip_moved {b t pl ql g c : Int} (h1 : c * t = g) (h2 : c * b = pl * ql) : ∀ (xs ys ws : List Int), xs.length = ys.length → List.zipWith (fun near far => far * pl - near * ql) xs ys = ws.map (fun s => g * s) →
    (List.zipWith (fun n s => n * b + s * t * pl) xs ws).map (fun x => c * x) = ys.map (fun y => pl * pl * y) ∧ (List.zipWith (fun n s => n * b + s * -t * ql) ys ws).map (fun x => c * x) = xs.map (fun y => ql * ql * y)
  | [], [], _, _, _ => ⟨by simp, by simp⟩
  | x :: xs, y :: ys, [], hl, h => by cases h
  | x :: xs, y :: ys, w :: ws, hl, h => by
    rw [List.zipWith_cons_cons, List.map_cons] at h
    obtain ⟨i1, i2⟩ := zip_moved h1 h2 xs ys ws (by simpa using hl) (List.cons.inj h).2
    have h3 := (List.cons.inj h).1
    rw [List.zipWith_cons_cons, List.zipWith_cons_cons, List.map_cons, List.map_cons, List.map_cons, List.map_cons, i1, i2, ring1 h1 h2 h3, ring2 h1 h2 h3]
    exact ⟨rfl, rfl⟩
  | [], _ :: _, _, hl, _ => by cases hl
  | _ :: _, [], _, hl, _ => by cases hl
theorem moved_both {p q : List Int} {pl ql b t c : Int} (h : Pt2 p q pl ql) (hc : 0 < c) (h1 : c * t = (gcdL (stepsL p q pl ql) : Int)) (h2 : c * b = pl * ql) (hn : ∃ x ∈ stepsL p q pl ql, x ≠ 0) :
    movedL p (shortL (stepsL p q pl ql)) t b pl = q ∧ movedL q (shortL (stepsL p q pl ql)) (-t) b ql = p := by
  obtain ⟨g0, e⟩ := shortL_mul (stepsL p q pl ql) hn
  obtain ⟨i1, i2⟩ := zip_moved h1 h2 p.dropLast q.dropLast (shortL (stepsL p q pl ql)) h.dl e
  have b0 : b ≠ 0 := fun z => by
    rw [z, Int.mul_zero] at h2
    have := Int.mul_pos h.p0 h.q0
    omega
  constructor
  · refine short_of hc (Int.mul_pos h.p0 h.p0) h.gq ⟨pl * b, by simp, Int.mul_ne_zero (by have := h.p0; omega) b0⟩ ?_
    rw [List.map_append, i1]
    conv => rhs; rw [last_two h.hq]
    rw [List.map_append]
    congr 1
    show [c * (pl * b)] = [pl * pl * ql]
    rw [Int.mul_left_comm, h2, Int.mul_assoc]
  · refine short_of hc (Int.mul_pos h.q0 h.q0) h.gp ⟨ql * b, by simp, Int.mul_ne_zero (by have := h.q0; omega) b0⟩ ?_
    rw [List.map_append, i2]
    conv => rhs; rw [last_two h.hp]
    rw [List.map_append]
    congr 1
    show [c * (ql * b)] = [ql * ql * pl]
    rw [Int.mul_left_comm, h2, Int.mul_assoc, Int.mul_comm pl ql]
theorem frac_fr {t b : Int} (hb : 0 < b) : ∃ p : Int × Int, fracL t b = [p.1, p.2] ∧ Fr p ∧ ∃ g : Int, 0 < g ∧ g * p.1 = t ∧ g * p.2 = b := by
  obtain ⟨g0, e⟩ := shortL_mul [t, b] ⟨b, by simp, by omega⟩
  have hl := shortL_len [t, b]
  obtain ⟨g, hg⟩ : ∃ g, gcdL [t, b] = g := ⟨_, rfl⟩
  rw [hg] at e g0
  match h : shortL [t, b], hl with
  | [u, v], _ =>
    rw [h] at e
    have e1 : t = (g : Int) * u := (List.cons.inj e).1
    have e2 : b = (g : Int) * v := (List.cons.inj (List.cons.inj e).2).1
    have gp : (0 : Int) < g := by omega
    have v0 : 0 < v := by
      rcases Int.lt_or_le 0 v with h | h
      · exact h
      · have := Int.mul_le_mul_of_nonneg_left h (Int.le_of_lt gp)
        omega
    refine ⟨(u, v), by unfold fracL; rw [if_pos hb, h], ⟨v0, ?_⟩, g, gp, e1.symm, e2.symm⟩
    rw [gcdL_cons, gcdL_cons, gcdL_nil, Nat.gcd_zero_right, e1, e2, Int.natAbs_mul, Int.natAbs_mul, Int.natAbs_natCast, Nat.gcd_mul_left] at hg
    have : g * Nat.gcd u.natAbs v.natAbs = g * 1 := by rw [hg, Nat.mul_one]
    exact Nat.eq_of_mul_eq_mul_left g0 this
theorem frac_scale {t b c : Int} (hb : 0 < b) (hc : c ≠ 0) : fracL (c * t) (c * b) = fracL t b := by
  have e := shortL_scale (xs := [t, b]) hc ⟨b, by simp, by omega⟩
  have e : shortL [c * t, c * b] = (shortL [t, b]).map fun y => (if 0 < c then 1 else -1) * y := e
  unfold fracL
  rw [if_pos hb, e]
  rcases Int.lt_or_le 0 c with h | h
  · rw [if_pos (Int.mul_pos h hb), if_pos h, show (fun y : Int => 1 * y) = id from funext fun y => Int.one_mul y, List.map_id]
  · have hcb : ¬ 0 < c * b := by
      have := Int.mul_le_mul_of_nonneg_right h (Int.le_of_lt hb)
      omega
    rw [if_neg hcb, if_neg (by omega), List.map_map]
    conv => rhs; rw [← List.map_id (shortL [t, b])]
    refine List.map_congr_left fun x _ => ?_
    show -(-1 * x) = x
    omega
theorem frac_bits {t b : Int} {m : Nat} {p : Int × Int} (e : fracL t b = [p.1, p.2]) (h1 : Bits m t) (h2 : Bits m b) : Bits m p.1 ∧ Bits m p.2 := by
  have := fracL_bits h1 h2
  rw [e] at this
  exact ⟨this _ List.mem_cons_self, this _ (List.mem_cons_of_mem _ List.mem_cons_self)⟩
/-- the product of some bottoms -/
def prodL (bs : List Int) : Int := bs.foldl (fun m b => m * b) 1
theorem prod_take {bs : List Int} {n : Nat} {b : Int} (h : bs[n]? = some b) : prodL (bs.take (n + 1)) = prodL (bs.take n) * b := by
  unfold prodL
  rw [List.take_add_one, h, List.foldl_append] <;> rfl
theorem prod_fold (bs : List Int) (m : Int) : bs.foldl (fun m b => m * b) m = m * prodL bs := by
  unfold prodL
  induction bs generalizing m with
  | nil => simp
  | cons b bs ih => rw [List.foldl_cons, List.foldl_cons, ih (m * b), ih (1 * b), Int.one_mul, Int.mul_assoc]
theorem prod_cons (b : Int) (bs : List Int) : prodL (b :: bs) = b * prodL bs := by
  show (b :: bs).foldl _ 1 = _
  rw [List.foldl_cons, prod_fold, Int.one_mul]
theorem prod_pos {bs : List Int} (h : ∀ b ∈ bs, 0 < b) : 0 < prodL bs := by
  induction bs with
  | nil => decide
  | cons b bs ih =>
    rw [prod_cons]
    exact Int.mul_pos (h b List.mem_cons_self) (ih fun x hx => h x (List.mem_cons_of_mem _ hx))
theorem prod_dvd {bs : List Int} {b : Int} (h : b ∈ bs) : b ∣ prodL bs := by
  induction bs with
  | nil => cases h
  | cons c bs ih =>
    rw [prod_cons]
    rcases List.mem_cons.mp h with rfl | h
    · exact Int.dvd_mul_right _ _
    · exact Int.dvd_trans (ih h) (Int.dvd_mul_left _ _)
theorem prod_bits {m : Nat} : ∀ {bs : List Int}, BitsL m bs → Bits (1 + m * bs.length) (prodL bs)
  | [], _ => by
    show (1 : Nat) < 2 ^ 1
    decide
  | b :: bs, h => by
    rw [prod_cons]
    exact (Bits.mul (h b List.mem_cons_self) (prod_bits fun x hx => h x (List.mem_cons_of_mem _ hx))).mono (by rw [List.length_cons, Nat.mul_succ]; omega)
/-- over the product of the bottoms -/
def overP (cs : List (Int × Int)) : List Int := cs.map fun p => p.1 * Int.fdiv (prodL (cs.map Prod.snd)) p.2
theorem over_point {cs : List (Int × Int)} (h : ∀ p ∈ cs, Fr p) : shortL (overP cs ++ [prodL (cs.map Prod.snd)]) = ptC cs := by
  have hb : ∀ b ∈ cs.map Prod.snd, 0 < b := fun b hb => by
    obtain ⟨q, hq, rfl⟩ := List.mem_map.mp hb
    exact (h q hq).1
  have P0 := prod_pos hb
  have W0 := lcmL_pos hb
  obtain ⟨c, hc⟩ : lcmL (cs.map Prod.snd) ∣ (prodL (cs.map Prod.snd)).natAbs := lcmL_least fun b hb => Int.natAbs_dvd_natAbs.mpr (prod_dvd hb)
  have hP : prodL (cs.map Prod.snd) = (lcmL (cs.map Prod.snd) : Int) * c := by
    have e : ((prodL (cs.map Prod.snd)).natAbs : Int) = ((lcmL (cs.map Prod.snd) * c : Nat) : Int) := by rw [hc]
    rw [Int.natCast_mul] at e
    omega
  have c0 : 0 < (c : Int) := by
    rcases Nat.eq_zero_or_pos c with z | z
    · rw [z, Nat.mul_zero] at hc
      omega
    · omega
  have e : overP cs ++ [prodL (cs.map Prod.snd)] = (ptC cs).map fun x => (c : Int) * x := by
    unfold overP ptC
    rw [List.map_append, List.map_map]
    congr 1
    · refine List.map_congr_left fun p hp => ?_
      obtain ⟨k, hk0, e1, e2⟩ := quot_of h hp
      show p.1 * Int.fdiv (prodL (cs.map Prod.snd)) p.2 = (c : Int) * (p.1 * Int.fdiv (lcmL (cs.map Prod.snd)) p.2)
      rw [e2, hP, e1, Int.mul_assoc p.2, fdiv_mul (h p hp).1, Int.mul_comm (c : Int) (p.1 * k), Int.mul_assoc]
    · show [prodL (cs.map Prod.snd)] = [(c : Int) * (lcmL (cs.map Prod.snd) : Int)]
      rw [hP, Int.mul_comm]
  rw [e]
  exact short_times (ptC_gcd h) c0
end K2
/-! The law's own points and fractions. -/
namespace K2
open PySem PySem.Spec PyProof.Rows L2 Zj
variable [Nm]
section
variable {P : Program} {w : World} {K : PySem.W.Frag} {mg : Str → Option Value} {base : Heap} {f : Addr} {fd : FuncData}
def R_along (ds : List PyData) (d : PyData) : Prop := ∃ (p way : List Int) (t b l : Int), ds = [tI p, tI way, .int t, .int b] ∧ p.getLast? = some l ∧ 0 < l ∧ 0 < b ∧ BitsL 1500 p ∧ BitsL 1500 way ∧ Bits 1500 t ∧ Bits 1500 b ∧ p.length ≤ 900 ∧ d = tI (movedL p way t b l)
theorem ok_along (F : Fun K "_law_along" "_law_along" st__law_along f fd) (T : Tx mg) (C1 : Cal P w K mg base 3 "_law_point" ["numbers_so", "bottom"] (spR K R_point)) : FnOk P w K mg base CX0 4 f fd ["point_so", "way", "top", "bottom"] (spR K R_along) := by
  refine fnR F sc__law_along (fun ds d h => by obtain ⟨x, _, _, _, _, rfl, _⟩ := h; rfl) fun cdv A outer s H E G hr ds d h => ?_
  obtain ⟨p, way, t, b, l, rfl, hl, l0, b0, hb, hw, ht, hbb, hz, rfl⟩ := h
  have p1 := one_le_of_last hl
  have hlb : Bits 1500 l := hb l (List.mem_of_getLast? hl)
  have ez : List.zipWith (fun a s => b * a + t * l * s) p.dropLast way = List.zipWith (fun n s => n * b + s * t * l) p.dropLast way := by
    congr 1
    funext n s
    rw [Int.mul_comm b n, Int.mul_comm (t * l) s, Int.mul_assoc s t l]
  refine r_one (rs_ret (e_call C1 (hr.mono (by decide)) (a_cons (e_is (d' := lI (List.zipWith (fun n s => n * b + s * t * l) p.dropLast way)) (e_lc0 (own := [("a", 4), ("b", 5)]) (f := fPair 4 5) (val := onPair fun a s => b * a + t * l * s) (items := List.zipWith (fun x y => PyData.tuple [x, y]) (p.dropLast.map .int) (way.map .int)) G
    (src_ZT (a_cons (e_is (e_slT (e_var (i := 0) rfl) o_non (o_int (e_neg e_int)) (cut_part _ p1)) (by rw [cutD_init _ p1, initI])) (a_cons (e_var (i := 1) rfl) a_nil)) T.zip) (by simp; omega) (blkOk_by (N := n__law_along) (sc := defScope st__law_along) (by decide +kernel))
    (fun _ _ _ _ _ => pg_tup rfl (pgs_cons (pg_name (i := 4) sc__law_along.nd rfl (Or.inl rfl)) (pgs_cons (pg_name (i := 5) sc__law_along.nd rfl (Or.inl rfl)) pgs_nil))) (tg_pair (by decide) (by decide)) fun d hd => ?_) ?_) (a_cons (e_bin (od_mul (mul_ok hbb hlb (by decide))) (e_var (i := 3) rfl) (e_ixT (e_var (i := 0) rfl) (e_neg e_int) (ati_last (lastI hl)))) a_nil)) ⟨_, _, rfl, Int.mul_pos b0 l0, ?_, (Bits.mul hbb hlb).mono (by decide), ?_, ?_⟩) rfl)
  · obtain ⟨x, g1, y, g2, rfl⟩ := mem_zipI hd
    have hx := hb x (List.dropLast_subset _ g1)
    have hy := hw y g2
    exact ⟨_, rfl, fun s H C cl fp => e_bin od_add (e_bin (od_mul (mul_ok hbb hx (by decide))) (e_var (i := 3) rfl) (e_var (i := 4) rfl)) (e_bin (od_mul (mul_ok (Bits.mul ht hlb) hy (by decide))) (e_bin (od_mul (mul_ok ht hlb (by decide))) (e_var (i := 2) rfl) (e_ixT (e_var (i := 0) rfl) (e_neg e_int) (ati_last (lastI hl)))) (e_var (i := 5) rfl))⟩
  · rw [zipI_map, ez]
  · intro x hx
    obtain ⟨i, hi⟩ := List.getElem?_of_mem hx
    rw [List.getElem?_zipWith] at hi
    split at hi
    · rename_i n s e1 e2
      cases hi
      have q1 := hb n (List.dropLast_subset _ (List.mem_of_getElem? e1))
      have q2 := hw s (List.mem_of_getElem? e2)
      exact Bits.mono (Bits.add (m := 4500) ((Bits.mul q1 hbb).mono (by decide)) ((Bits.mul (Bits.mul q2 ht) hlb).mono (by decide))) (by decide)
    · cases hi
  · simp
    omega
  · unfold movedL
    rw [Int.mul_comm b l]
def R_pair (ds : List PyData) (Q : PyData → Prop) : Prop := ds = [] ∧ ∀ p, Fr p → Bits 80 p.1 → Bits 60 p.2 → Q (fr p)
theorem ok_pair (F : Fun K "_law_pair" "_law_pair" st__law_pair f fd) (T : Tx mg) (C1 : CalG P w K mg base 1 "_law_draw" ["m", "bound"] (spM K 1 R_draw)) (C2 : Cal P w K mg base 3 "_law_fraction" ["top", "bottom"] (spR K R_fraction)) : FnG P w K mg base CX0 4 f fd ["m"] (spM K 4 R_pair) := by
  refine fnM F sc__law_pair (fun ds Pd h => by obtain ⟨rfl, _⟩ := h; rfl) fun cdv A outer s H E G hr hgd a n ds Pd h => ?_
  obtain ⟨rfl, hP⟩ := h
  refine q_cons (qs_par (i := 1) (j := 2) (m := n + 2) (PA := fun ds => ∃ d ds', ds = d :: ds' ∧ (∃ t : Int, d = .int t ∧ Bits 5 t) ∧ ∃ d2 ds2, ds' = d2 :: ds2 ∧ (∃ b : Int, d2 = .int b ∧ 0 < b ∧ Bits 5 b) ∧ ds2 = []) G
    (ma_cons (m := n + 3) (m_bin (P1 := fun d => ∃ r : Int, d = .int r ∧ 0 ≤ r ∧ r < 25) (P2 := fun _ d => d = .int 12) (m := n + 3) (m_draw (i := 0) C1 hgd (hr.mono (by decide)) rfl e_int (by decide) (by decide)) (fun _ _ => m_pure e_int rfl (Nat.le_refl _)) fun d1 d2 h1 h2 => by
        obtain ⟨r, rfl, r0, r1⟩ := h1
        subst h2
        exact ⟨_, od_sub, _, rfl, bits_abs (by omega)⟩)
      fun _ _ => ma_cons (m := n + 2) (m_bin (P1 := fun d => d = .int 1) (P2 := fun _ d => ∃ r : Int, d = .int r ∧ 0 ≤ r ∧ r < 7) (m := n + 3) (m_pure e_int rfl (Nat.le_refl _)) (fun _ _ => m_draw (i := 0) C1 hgd (hr.mono (by decide)) rfl e_int (by decide) (by decide)) fun d1 d2 h1 h2 => by
        subst h1
        obtain ⟨r, rfl, r0, r1⟩ := h2
        exact ⟨_, od_add, _, rfl, by omega, bits_abs (by omega)⟩) fun _ _ => ma_nil (Nat.le_refl _)) fun ds hds => ?_)
  obtain ⟨_, _, rfl, ⟨t, rfl, ht⟩, _, _, rfl, ⟨b, rfl, b0, hb⟩, rfl⟩ := hds
  refine ⟨_, _, rfl, ?_⟩
  have q20 : Bits 70 (10 ^ Int.toNat 20 + 1) := by unfold Bits; decide +kernel
  have q15 : Bits 52 (10 ^ Int.toNat 15 + 3) := by unfold Bits; decide +kernel
  have one70 : Bits 70 1 := by unfold Bits; decide +kernel
  have one52 : Bits 52 1 := by unfold Bits; decide +kernel
  refine q_one (qs_ret (m := n) (P := Pd) (m_callR (PA := fun ds => ∃ d ds', ds = d :: ds' ∧ (∃ t : Int, d = .int t ∧ Bits 75 t) ∧ ∃ d2 ds2, ds' = d2 :: ds2 ∧ (∃ b : Int, d2 = .int b ∧ 0 < b ∧ Bits 57 b) ∧ ds2 = []) C2 (hr.mono (by decide))
    (ma_cons (m := n + 1) (m_bin (P1 := fun d => d = .int t) (P2 := fun _ d => ∃ r : Int, d = .int r ∧ Bits 70 r) (m := n + 2) (m_pure (e_var (i := 1) rfl) rfl (Nat.le_refl _))
        (fun _ _ => m_ixL (ds := [.int 1, .int 1, .int 1, .int (10 ^ Int.toNat 20 + 1)]) (PI := fun d => ∃ r : Int, d = .int r ∧ 0 ≤ r ∧ r < 4) (e_lst (a_cons e_int (a_cons e_int (a_cons e_int (a_cons (e_bin od_add (e_bin (od_pow ⟨by decide, by decide, by decide⟩) e_int e_int) e_int) a_nil))))) (m_draw (i := 0) C1 hgd (hr.mono (by decide)) rfl e_int (by decide) (by decide)) fun d hd => ?_)
        fun d1 d2 h1 h2 => ?_)
      fun _ _ => ma_cons (m := n) (m_bin (P1 := fun d => d = .int b) (P2 := fun _ d => ∃ r : Int, d = .int r ∧ 0 < r ∧ Bits 52 r) (m := n + 1) (m_pure (e_var (i := 2) rfl) rfl (Nat.le_refl _))
        (fun _ _ => m_ixL (ds := [.int 1, .int 1, .int (10 ^ Int.toNat 15 + 3)]) (PI := fun d => ∃ r : Int, d = .int r ∧ 0 ≤ r ∧ r < 3) (e_lst (a_cons e_int (a_cons e_int (a_cons (e_bin od_add (e_bin (od_pow ⟨by decide, by decide, by decide⟩) e_int e_int) e_int) a_nil)))) (m_draw (i := 0) C1 hgd (hr.mono (by decide)) rfl e_int (by decide) (by decide)) fun d hd => ?_)
        fun d1 d2 h1 h2 => ?_) fun _ _ => ma_nil (Nat.le_refl _)) fun ds hds => ?_) fun d hd => ⟨Nat.le_refl _, hd⟩)
  · obtain ⟨r, rfl, r0, r1⟩ := hd
    have : r = 0 ∨ r = 1 ∨ r = 2 ∨ r = 3 := by omega
    rcases this with rfl | rfl | rfl | rfl
    · exact ⟨0, _, rfl, ati_of (j := 0) rfl rfl, _, rfl, one70⟩
    · exact ⟨1, _, rfl, ati_of (j := 1) rfl rfl, _, rfl, one70⟩
    · exact ⟨2, _, rfl, ati_of (j := 2) rfl rfl, _, rfl, one70⟩
    · exact ⟨3, _, rfl, ati_of (j := 3) rfl rfl, _, rfl, q20⟩
  · subst h1
    obtain ⟨r, rfl, hr70⟩ := h2
    exact ⟨_, od_mul (mul_ok ht hr70 (by decide)), _, rfl, Bits.mul ht hr70⟩
  · obtain ⟨r, rfl, r0, r1⟩ := hd
    have : r = 0 ∨ r = 1 ∨ r = 2 := by omega
    rcases this with rfl | rfl | rfl
    · exact ⟨0, _, rfl, ati_of (j := 0) rfl rfl, _, rfl, by decide, one52⟩
    · exact ⟨1, _, rfl, ati_of (j := 1) rfl rfl, _, rfl, by decide, one52⟩
    · exact ⟨2, _, rfl, ati_of (j := 2) rfl rfl, _, rfl, by decide +kernel, q15⟩
  · subst h1
    obtain ⟨r, rfl, r0, hr52⟩ := h2
    exact ⟨_, od_mul (mul_ok hb hr52 (by decide)), _, rfl, Int.mul_pos b0 r0, Bits.mul hb hr52⟩
  · obtain ⟨_, _, rfl, ⟨t', rfl, ht'⟩, _, _, rfl, ⟨b', rfl, b0', hb'⟩, rfl⟩ := hds
    obtain ⟨p, e, hf, g, g0, e1, e2⟩ := frac_fr (t := t') b0'
    refine ⟨tI (fracL t' b'), ⟨t', b', rfl, ht'.mono (by decide), hb'.mono (by decide), rfl⟩, ?_⟩
    rw [e]
    have up : ∀ {x y : Int}, g * x = y → x.natAbs ≤ y.natAbs := fun {x y} h => by
      rw [← h, Int.natAbs_mul]
      exact Nat.le_mul_of_pos_left _ (by omega)
    exact hP p hf ((ht'.le (up e1)).mono (by decide)) ((hb'.le (up e2)).mono (by decide))
def R_duept (ds : List PyData) (d : PyData) : Prop := ∃ cs, ds = [.tuple (cs.map fr)] ∧ Cs cs ∧ d = tI (ptC cs)
theorem ok_duept (F : Fun K "_law_due_point" "_law_due_point" st__law_due_point f fd) (T : Tx mg) (C1 : Cal P w K mg base 3 "_law_point" ["numbers_so", "bottom"] (spR K R_point)) : FnOk P w K mg base CX0 4 f fd ["coordinates_so"] (spR K R_duept) := by
  refine fnR F sc__law_due_point (fun ds d h => by obtain ⟨x, rfl, _⟩ := h; rfl) fun cdv A outer s H E G hr ds d h => ?_
  obtain ⟨cs, rfl, hc, rfl⟩ := h
  have hz := hc.2
  have hbL : BitsL 60 (cs.map Prod.snd) := fun b hb => by
    obtain ⟨p, hp, rfl⟩ := List.mem_map.mp hb
    exact (hc.1 p hp).2.2
  have hb0 : ∀ b ∈ cs.map Prod.snd, 0 < b := fun b hb => by
    obtain ⟨p, hp, rfl⟩ := List.mem_map.mp hb
    exact (hc.1 p hp).1.1
  have hPb : Bits 250 (prodL (cs.map Prod.snd)) := (prod_bits hbL).mono (by rw [List.length_map]; omega)
  have hP0 := prod_pos hb0
  refine r_cons (rs_set (i := 1) G e_int ?_)
  refine r_cons (rs_for G (src_T (e_var (i := 0) rfl)) (pg_name (i := 2) sc__law_due_point.nd rfl (Or.inl rfl)) (tg_name (vs := [2]) (by decide)) (fun n ρ' => ∃ y, ρ' = [some (.dat (.tuple (cs.map fr))), some (.dat (.int (prodL ((cs.map Prod.snd).take n)))), y, none, none]) ⟨_, rfl⟩ (fun n d ρ1 hd hJ => ?_) fun ρ' hJ => ?_)
  · obtain ⟨p, hp, rfl⟩ : ∃ p, cs[n]? = some p ∧ d = fr p := by
      rw [List.getElem?_map] at hd
      cases hq : cs[n]? with
      | none => rw [hq] at hd; cases hd
      | some p => rw [hq] at hd; cases hd; exact ⟨p, rfl, rfl⟩
    obtain ⟨_, rfl⟩ := hJ
    have hp' := hc.1 p (List.mem_of_getElem? hp)
    have hb1 : Bits 1000 (prodL ((cs.map Prod.snd).take n)) := (prod_bits fun y hy => hbL y (List.mem_of_mem_take hy)).mono (by
      have : ((cs.map Prod.snd).take n).length ≤ cs.length := by simp; omega
      omega)
    refine ⟨_, rfl, r_one (rs_set (i := 1) G (e_bin (od_mul (mul_ok hb1 hp'.2.2 (by decide))) (e_var (i := 1) rfl) (e_ixT (ds := [.int p.1, .int p.2]) (e_var (i := 2) rfl) e_int (ati_of (j := 1) rfl rfl))) ⟨some (.dat (fr p)), ?_⟩)⟩
    rw [prod_take (show (cs.map Prod.snd)[n]? = some p.2 by rw [List.getElem?_map, hp] <;> rfl)] <;> rfl
  · obtain ⟨y, rfl⟩ := hJ
    have eL : (cs.map Prod.snd).take (cs.map fr).length = cs.map Prod.snd := by
      rw [List.length_map]
      exact List.take_of_length_le (by simp)
    rw [eL]
    have qb : ∀ p ∈ cs, Bits 250 (Int.fdiv (prodL (cs.map Prod.snd)) p.2) := fun p hp => by
      have p2 := (hc.1 p hp).1.1
      obtain ⟨k, hk⟩ := prod_dvd (List.mem_map.mpr ⟨p, hp, rfl⟩ : p.2 ∈ cs.map Prod.snd)
      rw [hk, fdiv_mul p2]
      exact hPb.le (by rw [hk, Int.natAbs_mul]; exact Nat.le_mul_of_pos_left _ (by omega))
    refine r_one (rs_ret (e_call C1 (hr.mono (by decide)) (a_cons (e_is (d' := lI (overP cs)) (e_lc0 (own := [("top", 3), ("low", 4)]) (f := fPair 3 4) (val := onFr fun x y => x * Int.fdiv (prodL (cs.map Prod.snd)) y) G (src_T (e_var (i := 0) rfl)) (by simp; omega) (blkOk_by (N := n__law_due_point) (sc := defScope st__law_due_point) (by decide +kernel))
      (fun _ _ _ _ _ => pg_tup rfl (pgs_cons (pg_name (i := 3) sc__law_due_point.nd rfl (Or.inl rfl)) (pgs_cons (pg_name (i := 4) sc__law_due_point.nd rfl (Or.inl rfl)) pgs_nil))) (tg_pair (by decide) (by decide)) fun d hd => ?_) (by rw [onFrs] <;> rfl)) (a_cons (e_var (i := 1) rfl) a_nil)) ⟨_, _, rfl, hP0, fun x hx => ?_, hPb.mono (by decide), ?_, rfl⟩) ?_)
    · obtain ⟨p, hp, rfl⟩ := List.mem_map.mp hd
      have p2 := (hc.1 p hp).1.1
      exact ⟨_, rfl, fun s H C cl fp => e_bin (od_mul (mul_ok (hc.1 p hp).2.1 (qb p hp) (by decide))) (e_var (i := 3) rfl) (e_bin (od_fdiv (by omega) (Nat.lt_of_lt_of_le ((hc.1 p hp).2.2.log (by decide)) (by decide))) (e_var (i := 1) rfl) (e_var (i := 4) rfl))⟩
    · obtain ⟨p, hp, rfl⟩ := List.mem_map.mp hx
      exact (Bits.mul (hc.1 p hp).2.1 (qb p hp)).mono (by decide)
    · unfold overP
      rw [List.length_map]
      omega
    · rw [over_point fun p hp => (hc.1 p hp).1]
end
end K2
/-! Ways between points. -/
namespace K2
open PySem PySem.Spec PyProof.Rows L2 Zj
variable [Nm]
def RH (o : Out) (r : PyData) : Prop := (∃ d, o = .ok d ∧ r = .list [d]) ∨ (o = .ex ⟨"Unlike", []⟩ ∧ r = .str "unlike") ∨ (o = .ex ⟨"Flat", []⟩ ∧ r = .str "flat")
/-- what is known of the def that hears, and of the classes that it names -/
structure Hr (K : PySem.W.Frag) (mg : Str → Option Value) : Prop where
  ex : ∃ g fd, Fun K "_law_heard" "_law_heard" st__law_heard g fd ∧ mg "_law_heard" = some (.ref g) ∧ L2.Binds K fd ["call"] []
  c1 : ∃ A, mg "Unlike" = some (.ref A)
  c2 : ∃ A, mg "Flat" = some (.ref A)
  m11 : Exm K mg "Unlike" "Unlike" true
  m21 : Exm K mg "Flat" "Unlike" false
  m22 : Exm K mg "Flat" "Flat" true
section
variable {X : Cx} {a : Addr} {ρ : Rho} {scope : Scope} {params : Arguments} {body : Expr} {is : List Int} {lpos p pos : Pos} {k : Nat} {o : Out} {r : PyData} {base : Heap} {mg : Str → Option Value} {fd : FuncData} {x : Str}
theorem e_hear (h : Hr X.K X.mg) (ho : RH o r) (hr : Room (k + 2) X.A) (lm : Lmb X.base X.mg fd x) (hc : fd.code = X.env.code) (hq : lamQ X = lq x) (L : LamK X.env.scope scope) (hd : LamD X.env params is) (hbd : LamBind params body scope is) (LO : LamO X a ρ scope body k o)
    (hg : Gl X "_law_heard" := by rfl) : EvE X a (.Call (.Name "_law_heard" p) [.Lambda params body scope lpos] [] pos) ρ r := by
  obtain ⟨g, fdg, F, hm, hb⟩ := h.ex
  obtain ⟨c, P, hc0, TB, hP, hn⟩ := lm.ex
  obtain ⟨A1, h1⟩ := h.c1
  obtain ⟨A2, h2⟩ := h.c2
  exact e_heard F hm hb sc__law_heard rfl (.inl rfl) (fun cdv A outer s H G => heard0 G rfl rfl rfl (by decide) rfl (by decide) h1 h2 h.m11 h.m21 h.m22 (fun _ => rfl) ho) hr TB (hc.symm.trans hc0) hP (hn.trans hq.symm) L hd hbd LO hg
end
theorem tam_str {x : Str} (h : x.cps.toList.all (fun c => decide (c < 16 ^ 8)) = true) (hb : (PyData.str x).bulk ≤ 10) : Tam 10 0 (.str x) := ⟨by simp only [Zj.Tm]; exact fun c hc => of_decide_eq_true (List.all_eq_true.mp h c hc), hb, by simp only [PyData.depth]; exact Nat.le_refl _⟩
theorem tam_unl : Tam 10 0 (.str "unlike") := tam_str (by decide +kernel) (by decide +kernel)
theorem tam_flat : Tam 10 0 (.str "flat") := tam_str (by decide +kernel) (by decide +kernel)
theorem tam_l1 {d : PyData} {b n : Nat} (h : Tam b n d) : Tam (b + 1) (n + 1) (.list [d]) := (tam_lst (b := b) (n := n) (l := 1) (ds := [d]) (fun x hx => by rw [List.mem_singleton] at hx; rw [hx]; exact h) (by simp)).mono (by omega) (Nat.le_refl _)
theorem tam_l2 {d e : PyData} {b n : Nat} (h : Tam b n d) (h2 : Tam b n e) : Tam ((b + 1) * 2) (n + 1) (.list [d, e]) := tam_lst (l := 2) (fun x hx => by
  rcases List.mem_cons.mp hx with rfl | hx
  · exact h
  · rw [List.mem_singleton] at hx
    rw [hx]
    exact h2) (by simp)
theorem steps_swap (p q : List Int) (pl ql : Int) : List.zipWith (fun a b => a * pl - b * ql) q.dropLast p.dropLast = stepsL p q pl ql := by
  unfold stepsL
  rw [List.zipWith_comm]
theorem pt2_of {cs es : List (Int × Int)} (hc : Cs cs) (he : Cs es) (hl : cs.length = es.length) : Pt2 (ptC cs) (ptC es) (lcmL (cs.map Prod.snd)) (lcmL (es.map Prod.snd)) := by
  have pos : ∀ {xs : List (Int × Int)}, Cs xs → (0 : Int) < lcmL (xs.map Prod.snd) := fun {xs} h => by
    have := lcmL_pos (bs := xs.map Prod.snd) fun b hb => by
      obtain ⟨p, hp, rfl⟩ := List.mem_map.mp hb
      exact (h.1 p hp).1.1
    omega
  have last : ∀ xs : List (Int × Int), (ptC xs).getLast? = some (lcmL (xs.map Prod.snd) : Int) := fun xs => by unfold ptC; simp
  exact ⟨last _, last _, pos hc, pos he, ptC_gcd fun p hp => (hc.1 p hp).1, ptC_gcd fun p hp => (he.1 p hp).1, by unfold ptC; simp [hl]⟩
theorem pt_len (cs : List (Int × Int)) : (ptC cs).length = cs.length + 1 := by unfold ptC; simp
theorem some_lead {xs : List Int} (h : ∃ x ∈ xs, x ≠ 0) : ∃ k, lead xs = some k := by
  cases hk : lead xs with
  | some k => exact ⟨k, rfl⟩
  | none =>
    obtain ⟨x, hx, h0⟩ := h
    unfold lead at hk
    rw [List.findIdx?_eq_none_iff] at hk
    have := hk x hx
    simp at this
    exact absurd this h0
theorem moved_bits {p way : List Int} {t b l : Int} (hl : p.getLast? = some l) (h1 : BitsL 400 p) (h2 : BitsL 1100 way) (h3 : Bits 80 t) (h4 : Bits 60 b) : BitsL 1700 (movedL p way t b l) := by
  have hlb := h1 l (List.mem_of_getLast? hl)
  refine shortL_bits fun x hx => ?_
  rcases List.mem_append.mp hx with hx | hx
  · obtain ⟨i, hi⟩ := List.getElem?_of_mem hx
    rw [List.getElem?_zipWith] at hi
    split at hi
    · rename_i n s e1 e2
      cases hi
      have q1 := h1 n (List.dropLast_subset _ (List.mem_of_getElem? e1))
      have q2 := h2 s (List.mem_of_getElem? e2)
      exact Bits.mono (Bits.add (m := 1600) ((Bits.mul q1 h4).mono (by decide)) ((Bits.mul (Bits.mul q2 h3) hlb).mono (by decide))) (by decide)
    · cases hi
  · rw [List.mem_singleton] at hx
    subst hx
    exact (Bits.mul hlb h4).mono (by decide)
theorem moved_len {p way : List Int} {t b l : Int} : (movedL p way t b l).length ≤ p.length + 1 := by
  unfold movedL
  rw [shortL_len, List.length_append, List.length_zipWith, List.length_dropLast]
  simp
  omega
section
variable {P : Program} {w : World} {K : PySem.W.Frag} {mg : Str → Option Value} {base : Heap} {f : Addr} {fd : FuncData}
def R_ways (ds : List PyData) (Q : PyData → Prop) : Prop := ∃ (D : Int) (cs es : List (Int × Int)), ds = [.int D, tI (ptC cs), tI (ptC es)] ∧ Cs cs ∧ Cs es ∧ cs.length = es.length ∧ Q (.bool true)
theorem ok_ways (F : Fun K "_law_ways_right" "_law_ways_right" st__law_ways_right f fd) (T : Tx mg) (lm : Lmb base mg fd "_law_ways_right") (h : Hr K mg) (CL : CalG P w K mg base 1 "_law_like" ["told", "due"] (spR K R_like)) (CW : Cal P w K mg base 2 "_law_lowered" ["numbers_so"] (spR K R_short))
    (CF : Cal P w K mg base 3 "_law_fraction" ["top", "bottom"] (spR K R_fraction)) (CA : Cal P w K mg base 4 "_law_along" ["point_so", "way", "top", "bottom"] (spR K R_along)) (CP : CalG P w K mg base 4 "_law_pair" ["m"] (spM K 4 R_pair))
    (CM : Cal P w K mg base 3 "moved_by" ["point", "direction", "amount"] (spR K R_moved)) (CX : CalX P w K mg base 4 "direction_to" ["point", "other"] (spX K mg R_dirto)) : FnG P w K mg base CX0 7 f fd ["m", "dimension", "point_so", "other_so"] (spM K 4 R_ways) := by
  refine fnMC F sc__law_ways_right (fun ds Pd h => by obtain ⟨_, _, _, rfl, _⟩ := h; rfl) fun cdv hcv A outer s H E G hr hgd a n ds Pd h' => ?_
  obtain ⟨D, cs, es, rfl, hc, he, hl, hP⟩ := h'
  have pt := pt2_of hc he hl
  obtain ⟨wp, bp⟩ := cs_bits hc
  obtain ⟨wq, bq⟩ := cs_bits he
  have zp : (ptC cs).length ≤ 5 := by rw [pt_len]; have := hc.2; omega
  have zq : (ptC es).length ≤ 5 := by rw [pt_len]; have := he.2; omega
  generalize (lcmL (cs.map Prod.snd) : Int) = pl at pt wp
  generalize (lcmL (es.map Prod.snd) : Int) = ql at pt wq
  generalize ptC cs = p at pt bp zp
  generalize ptC es = q at pt bq zq
  have p1 := one_le_of_last pt.hp
  have q1 := one_le_of_last pt.hq
  have bp5 : BitsL 500 p := bp.mono (by decide)
  have bq5 : BitsL 500 q := bq.mono (by decide)
  have bn := steps_bits pt.hp pt.hq bp5 bq5
  have zn : (stepsL p q pl ql).length ≤ 5 := Nat.le_trans steps_len zp
  refine q_cons (q_pure (N' := fun ρ' => ρ' = [some .hnd, some (.dat (.int D)), some (.dat (tI p)), some (.dat (tI q)), some (.dat (lI (stepsL p q pl ql))), none, none, none, none, none, none, none, none, none]) (R' := fun _ => False)
    (rs_lc0 (i := 4) (own := [("a", 10), ("b", 11)]) (f := fPair 10 11) (val := onPair fun a b => a * pl - b * ql) (items := List.zipWith (fun x y => PyData.tuple [x, y]) (q.dropLast.map .int) (p.dropLast.map .int)) G
      (src_ZT (a_cons (e_is (e_slT (e_var (i := 3) rfl) o_non (o_int (e_neg e_int)) (cut_part _ q1)) (by rw [cutD_init _ q1, initI])) (a_cons (e_is (e_slT (e_var (i := 2) rfl) o_non (o_int (e_neg e_int)) (cut_part _ p1)) (by rw [cutD_init _ p1, initI])) a_nil)) T.zip) (by simp; omega) (blkOk_by (N := n__law_ways_right) (sc := defScope st__law_ways_right) (by decide +kernel))
      (fun _ _ _ _ _ => pg_tup rfl (pgs_cons (pg_name (i := 10) sc__law_ways_right.nd rfl (Or.inl rfl)) (pgs_cons (pg_name (i := 11) sc__law_ways_right.nd rfl (Or.inl rfl)) pgs_nil))) (tg_pair (by decide) (by decide)) (fun d hd => ?_) (by rw [zipI_map, steps_swap] <;> rfl)) (fun ρ' e => ?_) nofun)
  · obtain ⟨x, g1, y, g2, rfl⟩ := mem_zipI hd
    have hx := bq5 x (List.dropLast_subset _ g1)
    have hy := bp5 y (List.dropLast_subset _ g2)
    have l1 := bp5 pl (List.mem_of_getLast? pt.hp)
    have l2 := bq5 ql (List.mem_of_getLast? pt.hq)
    exact ⟨_, rfl, fun s H C cl fp => e_bin od_sub (e_bin (od_mul (mul_ok hx l1 (by decide))) (e_var (i := 10) rfl) (e_ixT (e_var (i := 2) rfl) (e_neg e_int) (ati_last (lastI pt.hp)))) (e_bin (od_mul (mul_ok hy l2 (by decide))) (e_var (i := 11) rfl) (e_ixT (e_var (i := 3) rfl) (e_neg e_int) (ati_last (lastI pt.hq))))⟩
  rw [e]
  have R1 : R_dirto [tI p, tI q] (dirtoO p q pl ql) := ⟨p, q, pl, ql, rfl, pt.hp, pt.hq, bp5, bq5, by omega, rfl⟩
  by_cases hpq : p = q
  · have o1 : dirtoO p q pl ql = .ex ⟨"Unlike", []⟩ := if_pos hpq
    rw [o1] at R1
    refine q_cons (qs_set (i := 5) (m := n + 4) (P := fun d => d = .str "unlike") G (m_pure (e_ifF (t_is (t_cmp (od_neD G.un (shaped_tI p) (shaped_tI q)) (e_var (i := 2) rfl) (e_var (i := 3) rfl) (nomark _)) (by rw [eqv_tI, hpq]; simp)) e_str) rfl (Nat.le_refl _)) fun d hd => ?_)
    subst hd
    refine q_cons (q_skip (t_notlike CL hgd (hr.mono (by decide)) (a_cons (e_hear h (.inr (.inl ⟨rfl, rfl⟩)) (hr.mono (by decide)) lm hcv rfl (lamK_by (sc := defScope st__law_ways_right) (by decide +kernel)) (.no rfl) (lamBind0 fun _ _ _ _ _ _ => rfl) (lam_call CX R1 fun A outer s H E f' c' => a_cons (e_var (i := 2) rfl) (a_cons (e_var (i := 3) rfl) a_nil))) (a_cons (e_var (i := 5) rfl) a_nil)) (tam_unl.tame (by decide) (by decide))) ?_)
    exact q_cons (qs_if (PB := fun b => b = true) (m := n + 4) (mt_pure (t_is (t_cmp (od_eqD G.un (shaped_tI p) (shaped_tI q)) (e_var (i := 2) rfl) (e_var (i := 3) rfl) (nomark _)) (by rw [eqv_tI, hpq]; simp)) rfl (Nat.le_refl _)) (fun _ => q_one (qs_ret (m := n) (P := Pd) (m_pure e_bl hP (by omega)) fun d hd => ⟨Nat.le_refl _, hd⟩)) fun z => nomatch z)
  · have g0 : gcdL (stepsL p q pl ql) ≠ 0 := fun z => hpq (steps_same pt z)
    have hn : ∃ x ∈ stepsL p q pl ql, x ≠ 0 := by
      by_cases hh : ∃ x ∈ stepsL p q pl ql, x ≠ 0
      · exact hh
      · exfalso
        refine g0 ?_
        have z : ∀ ys : List Int, (∀ y ∈ ys, y = 0) → gcdL ys = 0 := fun ys => by
          induction ys with
          | nil => exact fun _ => rfl
          | cons y ys ih =>
            intro hy
            rw [gcdL_cons, hy y List.mem_cons_self, ih fun u hu => hy u (List.mem_cons_of_mem _ hu)] <;> rfl
        exact z _ fun x hx => by
          by_cases h0 : x = 0
          · exact h0
          · exact absurd ⟨x, hx, h0⟩ hh
    have o1 : dirtoO p q pl ql = .ok (tI (shortL (stepsL p q pl ql))) := (if_neg hpq).trans (if_neg g0)
    rw [o1] at R1
    have hn2 : ∃ x ∈ stepsL q p ql pl, x ≠ 0 := by
      obtain ⟨x, hx, h0⟩ := hn
      rw [steps_flip p q pl ql]
      exact ⟨-1 * x, List.mem_map.mpr ⟨x, hx, rfl⟩, by omega⟩
    have R2 : R_dirto [tI q, tI p] (.ok (tI ((shortL (stepsL p q pl ql)).map fun x => -x))) := by
      refine ⟨q, p, ql, pl, rfl, pt.hq, pt.hp, bq5, bp5, by omega, ?_⟩
      have g02 : gcdL (stepsL q p ql pl) ≠ 0 := fun z => by
        obtain ⟨x, hx, h0⟩ := hn2
        exact h0 (gcd_zero z x hx)
      have e2 : shortL (stepsL q p ql pl) = (shortL (stepsL p q pl ql)).map fun x => -x := by
        rw [steps_flip p q pl ql, shortL_scale (by decide) hn, if_neg (by decide)]
        refine List.map_congr_left fun x _ => ?_
        show -1 * x = -x
        omega
      have : dirtoO q p ql pl = .ok (tI (shortL (stepsL q p ql pl))) := (if_neg fun z => hpq z.symm).trans (if_neg g02)
      rw [this, e2]
    have bw : BitsL 1100 (shortL (stepsL p q pl ql)) := shortL_bits bn
    have zw : (shortL (stepsL p q pl ql)).length ≤ 5 := by rw [shortL_len]; exact zn
    have tw : Tam 5 1 (tI (shortL (stepsL p q pl ql))) := tam_tI (bw.mono (by decide)) zw
    have tp : Tam 5 1 (tI p) := tam_tI (bp.mono (by decide)) zp
    have tq : Tam 5 1 (tI q) := tam_tI (bq.mono (by decide)) zq
    refine q_cons (qs_set (i := 5) (m := n + 4) (P := fun d => d = .list [tI (shortL (stepsL p q pl ql))]) G (m_pure (e_ifT (t_is (t_cmp (od_neD G.un (shaped_tI p) (shaped_tI q)) (e_var (i := 2) rfl) (e_var (i := 3) rfl) (nomark _)) (by rw [eqv_tI]; simp [hpq])) (e_lst (a_cons (e_call CW (hr.mono (by decide)) (a_cons (e_var (i := 4) rfl) a_nil) ⟨_, .inr rfl, bn.mono (by decide), by omega, rfl⟩) a_nil))) rfl (Nat.le_refl _)) fun d hd => ?_)
    subst hd
    refine q_cons (q_skip (t_notlike CL hgd (hr.mono (by decide)) (a_cons (e_hear h (.inl ⟨_, rfl, rfl⟩) (hr.mono (by decide)) lm hcv rfl (lamK_by (sc := defScope st__law_ways_right) (by decide +kernel)) (.no rfl) (lamBind0 fun _ _ _ _ _ _ => rfl) (lam_call CX R1 fun A outer s H E f' c' => a_cons (e_var (i := 2) rfl) (a_cons (e_var (i := 3) rfl) a_nil))) (a_cons (e_var (i := 5) rfl) a_nil)) ((tam_l1 tw).tame (by decide) (by decide))) ?_)
    refine q_cons (qs_if (PB := fun b => b = false) (m := n + 4) (mt_pure (t_is (t_cmp (od_eqD G.un (shaped_tI p) (shaped_tI q)) (e_var (i := 2) rfl) (e_var (i := 3) rfl) (nomark _)) (by rw [eqv_tI]; simp [hpq])) rfl (Nat.le_refl _)) (fun z => nomatch z) fun _ => q_nil ?_)
    obtain ⟨k, hk⟩ := some_lead hn
    obtain ⟨x, hx, x0⟩ := lead_get hk
    obtain ⟨gp, eg⟩ := shortL_mul (stepsL p q pl ql) hn
    obtain ⟨y, hy, hxy⟩ : ∃ y, (shortL (stepsL p q pl ql))[k]? = some y ∧ x = (gcdL (stepsL p q pl ql) : Int) * y := by
      rw [eg, List.getElem?_map] at hx
      cases hs : (shortL (stepsL p q pl ql))[k]? with
      | none => rw [hs] at hx; cases hx
      | some y => rw [hs] at hx; cases hx; exact ⟨y, rfl, rfl⟩
    have y0 : y ≠ 0 := fun z => x0 (by rw [hxy, z, Int.mul_zero])
    have hnz := nz_lead 0 (stepsL p q pl ql)
    rw [hk] at hnz
    obtain ⟨tl, ez⟩ := hnz
    rw [Nat.zero_add] at ez
    refine q_cons (qs_par (i := 6) (j := 7) (m := n + 4) (PA := fun ds => ds = [tI (shortL (stepsL p q pl ql)), .int (k : Int)]) G (ma_pure (a_cons (e_ixL (e_var (i := 5) rfl) e_int (ati_of (j := 0) rfl rfl)) (a_cons (e_ixL (ds := ((k : Int) :: tl).map .int) (d := .int (k : Int)) (e_is (e_lc (own := [("spot", 12), ("number", 13)]) (f := fPair 12 13) (keep := keepNZ) (val := valK) (items := numbered ((stepsL p q pl ql).map .int)) G
      (src_EL (a_cons (e_var (i := 4) rfl) a_nil) T.enum) (by rw [numbered_len]; simp; omega) (blkOk_by (N := n__law_ways_right) (sc := defScope st__law_ways_right) (by decide +kernel))
      (fun _ _ _ _ _ => pg_tup rfl (pgs_cons (pg_name (i := 12) sc__law_ways_right.nd rfl (Or.inl rfl)) (pgs_cons (pg_name (i := 13) sc__law_ways_right.nd rfl (Or.inl rfl)) pgs_nil))) (tg_pair (by decide) (by decide)) (fun d hd => ?_)) (by rw [numbered_eq, kept_nz, ez])) e_int (ati_of (j := 0) rfl rfl)) a_nil)) rfl (Nat.le_refl _)) fun ds hds => ?_)
    · obtain ⟨n, x, hx, rfl⟩ := mem_numbered hd
      obtain ⟨x, _, rfl⟩ := getI hx
      exact ⟨_, rfl, fun s H C cl fp => t_cmp od_neI (e_var (i := 13) rfl) e_int (nomark _), fun _ s H C cl fp => e_var (i := 12) rfl⟩
    subst hds
    refine ⟨_, _, rfl, ?_⟩
    obtain ⟨⟨t, b⟩, ef, hfr, c, c0, ct, cb⟩ := frac_fr (t := (gcdL (stepsL p q pl ql) : Int)) (Int.mul_pos pt.p0 pt.q0)
    have ef : fracL (gcdL (stepsL p q pl ql) : Int) (pl * ql) = [t, b] := ef
    have ct : c * t = (gcdL (stepsL p q pl ql) : Int) := ct
    have cb : c * b = pl * ql := cb
    have l1 : Bits 400 pl := bp pl (List.mem_of_getLast? pt.hp)
    have l2 : Bits 400 ql := bq ql (List.mem_of_getLast? pt.hq)
    have bx : Bits 1100 x := bn x (List.mem_of_getElem? hx)
    have by' : Bits 1100 y := bw y (List.mem_of_getElem? hy)
    have up : ∀ {u v : Int}, c * u = v → u.natAbs ≤ v.natAbs := fun {u v} h => by
      rw [← h, Int.natAbs_mul]
      exact Nat.le_mul_of_pos_left _ (by omega)
    have bt : Bits 1100 t := (gcdL_bits bn).le (up ct)
    have bb : Bits 800 b := (Bits.mul l1 l2).le (up cb)
    have ex : fracL x (y * pl * ql) = [t, b] := by
      rw [hxy, Int.mul_comm _ y, Int.mul_assoc y, frac_scale (Int.mul_pos pt.p0 pt.q0) y0, ef]
    have hatx : atI ((stepsL p q pl ql).map PyData.int) (k : Int) = some (.int x) := atI_nat (by rw [List.getElem?_map, hx] <;> rfl)
    have haty : atI ((shortL (stepsL p q pl ql)).map PyData.int) (k : Int) = some (.int y) := atI_nat (by rw [List.getElem?_map, hy] <;> rfl)
    refine q_cons (qs_set (i := 8) (m := n + 4) (P := fun d => d = tI [t, b]) G (m_pure (e_call CF (hr.mono (by decide)) (a_cons (e_ixL (e_var (i := 4) rfl) (e_var (i := 7) rfl) hatx) (a_cons (e_bin (od_mul (mul_ok (Bits.mul by' l1) l2 (by decide))) (e_bin (od_mul (mul_ok by' l1 (by decide))) (e_ixT (e_var (i := 6) rfl) (e_var (i := 7) rfl) haty) (e_ixT (e_var (i := 2) rfl) (e_neg e_int) (ati_last (lastI pt.hp)))) (e_ixT (e_var (i := 3) rfl) (e_neg e_int) (ati_last (lastI pt.hq)))) a_nil))
      ⟨x, y * pl * ql, rfl, bx.mono (by decide), (Bits.mul (Bits.mul by' l1) l2).mono (by decide), by rw [ex]⟩) rfl (Nat.le_refl _)) fun d hd => ?_)
    subst hd
    obtain ⟨mv1, mv2⟩ := moved_both pt c0 ct cb hn
    refine q_cons (q_skip (t_notlike CL hgd (hr.mono (by decide)) (d := .list [tI q, tI p]) (a_cons (e_lst (a_cons (e_call CM (hr.mono (by decide)) (a_cons (e_var (i := 2) rfl) (a_cons (e_var (i := 6) rfl) (a_cons (e_var (i := 8) rfl) a_nil))) ⟨p, _, t, b, pl, rfl, pt.hp, bp.mono (by decide), bw.mono (by decide), bt.mono (by decide), bb.mono (by decide), by omega, by rw [mv1]⟩)
      (a_cons (e_call CM (hr.mono (by decide)) (a_cons (e_var (i := 3) rfl) (a_cons (e_var (i := 6) rfl) (a_cons (e_tup (a_cons (e_neg (e_ixT (e_var (i := 8) rfl) e_int (ati_of (j := 0) rfl rfl))) (a_cons (e_ixT (e_var (i := 8) rfl) e_int (ati_of (j := 1) rfl rfl)) a_nil))) a_nil))) ⟨q, _, -t, b, ql, rfl, pt.hq, bq.mono (by decide), bw.mono (by decide), bt.neg.mono (by decide), bb.mono (by decide), by omega, by rw [mv2]⟩) a_nil)))
      (a_cons (e_lst (a_cons (e_var (i := 3) rfl) (a_cons (e_var (i := 2) rfl) a_nil))) a_nil)) ((tam_l2 tq tp).tame (by decide) (by decide))) ?_)
    have tnw : Tam 5 1 (tI ((shortL (stepsL p q pl ql)).map fun x => -x)) := tam_tI (fun z hz => by
      obtain ⟨u, hu, rfl⟩ := List.mem_map.mp hz
      exact (bw u hu).neg.mono (by decide)) (by rw [List.length_map]; exact zw)
    refine q_cons (q_skip (t_notlike CL hgd (hr.mono (by decide)) (a_cons (e_callX CX (hr.mono (by decide)) (a_cons (e_var (i := 3) rfl) (a_cons (e_var (i := 2) rfl) a_nil)) R2) (a_cons (e_is (e_callT ca_tupL (a_cons (e_lc0 (own := [("number", 13)]) (f := fName 13) (val := onInt fun x => -x) G (src_T (e_var (i := 6) rfl)) (by simp; omega) (blkOk_by (N := n__law_ways_right) (sc := defScope st__law_ways_right) (by decide +kernel))
      (fun _ _ _ _ _ => pg_name (i := 13) sc__law_ways_right.nd rfl (Or.inl rfl)) (tg_name (by decide)) fun d hd => ?_) a_nil) T.tuple (by decide +kernel)) (by rw [mapI])) a_nil)) (tnw.tame (by decide) (by decide))) ?_)
    · obtain ⟨x, hx, rfl⟩ := mem_mapI hd
      exact ⟨_, rfl, fun s H C cl fp => e_neg (e_var (i := 13) rfl)⟩
    refine q_cons (qs_set (i := 9) (m := n) (P := fun d => ∃ u : Int × Int, d = fr u ∧ Fr u ∧ Bits 80 u.1 ∧ Bits 60 u.2) G (m_call (i := 0) (ds := []) CP hgd (hr.mono (by decide)) rfl a_nil ⟨rfl, fun u h1 h2 h3 => ⟨u, rfl, h1, h2, h3⟩⟩ (Nat.le_refl _)) fun d hd => ?_)
    obtain ⟨⟨t', b'⟩, rfl, hf', ht', hb'⟩ := hd
    have ht' : Bits 80 t' := ht'
    have hb' : Bits 60 b' := hb'
    have b0' : 0 < b' := hf'.1
    refine q_one (qs_ret (m := n) (P := Pd) (m_pure (e_callG CL hgd (hr.mono (by decide)) (a_cons (e_call CM (hr.mono (by decide)) (a_cons (e_var (i := 2) rfl) (a_cons (e_var (i := 6) rfl) (a_cons (e_var (i := 9) rfl) a_nil))) ⟨p, _, t', b', pl, rfl, pt.hp, bp.mono (by decide), bw.mono (by decide), ht'.mono (by decide), hb'.mono (by decide), by omega, rfl⟩)
      (a_cons (e_call CA (hr.mono (by decide)) (a_cons (e_var (i := 2) rfl) (a_cons (e_var (i := 6) rfl) (a_cons (e_ixT (ds := [.int t', .int b']) (e_var (i := 9) rfl) e_int (ati_of (j := 0) rfl rfl)) (a_cons (e_ixT (ds := [.int t', .int b']) (e_var (i := 9) rfl) e_int (ati_of (j := 1) rfl rfl)) a_nil)))) ⟨p, _, t', b', pl, rfl, pt.hp, pt.p0, b0', bp.mono (by decide), bw.mono (by decide), ht'.mono (by decide), hb'.mono (by decide), by omega, rfl⟩) a_nil))
      ⟨_, rfl, (tam_tI (l := 6) ((moved_bits pt.hp bp bw ht' hb').mono (by decide)) (Nat.le_trans moved_len (by omega))).tame (by decide) (by decide), rfl⟩) hP (Nat.le_refl _)) fun d hd => ⟨Nat.le_refl _, hd⟩)
end
end K2
/-! Integers brought to a direction. -/
namespace K2
open PySem PySem.Spec PyProof.Rows L2 Zj
variable [Nm]
theorem rep_ints (D : Nat) : (List.replicate D [PyData.int 0]).flatten = (List.replicate D (0 : Int)).map .int := by
  induction D with
  | zero => rfl
  | succ D ih =>
    rw [List.replicate_succ, List.flatten_cons, ih, List.replicate_succ, List.map_cons]
    rfl
theorem all_zero {xs : List Int} (h : ¬ ∃ x ∈ xs, x ≠ 0) : xs = List.replicate xs.length 0 := List.eq_replicate_iff.mpr ⟨rfl, fun x hx => by
  by_cases h0 : x = 0
  · exact h0
  · exact absurd ⟨x, hx, h0⟩ h⟩
theorem gcd_none {xs : List Int} (h : ∀ x ∈ xs, x = 0) : gcdL xs = 0 := by
  induction xs with
  | nil => rfl
  | cons x xs ih => rw [gcdL_cons, h x List.mem_cons_self, ih fun u hu => h u (List.mem_cons_of_mem _ hu)] <;> rfl
section
variable {P : Program} {w : World} {K : PySem.W.Frag} {mg : Str → Option Value} {base : Heap} {f : Addr} {fd : FuncData}
def R_dirs (ds : List PyData) (Q : PyData → Prop) : Prop := ∃ D : Nat, ds = [.int (D : Int)] ∧ 1 ≤ D ∧ D ≤ 4 ∧ Q (.bool true)
theorem ok_dirs (F : Fun K "_law_directions_right" "_law_directions_right" st__law_directions_right f fd) (T : Tx mg) (lm : Lmb base mg fd "_law_directions_right") (h : Hr K mg) (CL : CalG P w K mg base 1 "_law_like" ["told", "due"] (spR K R_like)) (CW : Cal P w K mg base 2 "_law_lowered" ["numbers_so"] (spR K R_short))
    (C1 : CalG P w K mg base 1 "_law_draw" ["m", "bound"] (spM K 1 R_draw)) (CX : CalX P w K mg base 3 "direction_of" ["numbers"] (spX K mg R_dirof)) : FnG P w K mg base CX0 6 f fd ["m", "dimension"] (spM K 5 R_dirs) := by
  refine fnMC F sc__law_directions_right (fun ds Pd h => by obtain ⟨_, rfl, _⟩ := h; rfl) fun cdv hcv A outer s H E G hr hgd a n ds Pd h' => ?_
  obtain ⟨D, rfl, hD, hD4, hP⟩ := h'
  refine q_cons (qs_asg (m := n) (P := fun d => ∃ (xs : List Int) (c : Int), d = .tuple [tI xs, .int c] ∧ xs.length = D ∧ BitsL 4 xs ∧ 0 < c ∧ Bits 6 c) (m_tup (PA := fun ds => ∃ d ds', ds = d :: ds' ∧ (∃ xs : List Int, d = tI xs ∧ xs.length = D ∧ BitsL 4 xs) ∧ ∃ d2 ds2, ds' = d2 :: ds2 ∧ (∃ c : Int, d2 = .int c ∧ 0 < c ∧ Bits 6 c) ∧ ds2 = [])
    (ma_cons (m := n + 1) (m_callT (id := "tuple") (PA := fun ds => ∃ d ds', ds = d :: ds' ∧ (∃ xs : List Int, d = lI xs ∧ xs.length = D ∧ BitsL 4 xs) ∧ ds' = []) (fun ds hds => ?_)
        (ma_cons (m := n + 1) (m_lc0 (k := n + 1) (c := 1) (own := [("k", 7)]) (f := fName 7) (V := fun _ d => ∃ x : Int, d = .int x ∧ Bits 4 x) (items := upTo ((D : Int)).toNat) G (src_R (a_cons (e_var (i := 1) rfl) a_nil) (by omega) (by omega) T.range)
          (by rw [upto_len]; omega) (by rw [upto_len]; omega) (blkOk_by (N := n__law_directions_right) (sc := defScope st__law_directions_right) (by decide +kernel)) (fun _ _ _ _ _ => pg_name (i := 7) sc__law_directions_right.nd rfl (Or.inl rfl)) (tg_name (by decide)) (fun d hd => ⟨_, rfl, fun m s H C cl fp => ?_⟩) fun ds hds => ?_) fun _ _ => ma_nil (Nat.le_refl _)) T.tuple (by decide +kernel))
      fun _ _ => ma_cons (m := n) (P := fun d2 => ∃ c : Int, d2 = .int c ∧ 0 < c ∧ Bits 6 c) (m_bin (P1 := fun d => d = .int 1) (P2 := fun _ d => ∃ r : Int, d = .int r ∧ 0 ≤ r ∧ r < 30) (m := n + 1) (m_pure e_int rfl (Nat.le_refl _)) (fun _ _ => m_draw (i := 0) C1 hgd (hr.mono (by decide)) rfl e_int (by decide) (by decide)) fun d1 d2 h1 h2 => ?_) fun _ _ => ma_nil (Nat.le_refl _)) fun ds hds => ?_)
    (pg_tup rfl (pgs_cons (pg_name (i := 4) sc__law_directions_right.nd rfl (Or.inr rfl)) (pgs_cons (pg_name (i := 2) sc__law_directions_right.nd rfl (Or.inr rfl)) pgs_nil))) (tg_pair (vs := [4, 2]) (by decide) (by decide)) fun d hd => ?_)
  · obtain ⟨_, _, rfl, ⟨xs, rfl, h1, h2⟩, rfl⟩ := hds
    exact ⟨_, ca_tupL, xs, rfl, h1, h2⟩
  · refine m_bin (P1 := fun d => ∃ r : Int, d = .int r ∧ 0 ≤ r ∧ r < 7) (P2 := fun _ d => d = .int 3) (m := m) (m_draw (i := 0) C1 hgd (hr.mono (by decide)) rfl e_int (by decide) (by decide)) (fun _ _ => m_pure e_int rfl (Nat.le_refl _)) (fun d1 d2 h1 h2 => ?_)
    obtain ⟨r, rfl, r0, r1⟩ := h1
    subst h2
    exact ⟨_, od_sub, _, rfl, bits_abs (by omega)⟩
  · obtain ⟨ns, rfl, hl, hn⟩ := fa2_ints hds
    exact ⟨ns, rfl, by rw [hl, upto_len]; omega, hn⟩
  · subst h1
    obtain ⟨r, rfl, r0, r1⟩ := h2
    exact ⟨_, od_add, _, rfl, by omega, bits_abs (by omega)⟩
  · obtain ⟨_, _, rfl, ⟨xs, rfl, h1, h2⟩, _, _, rfl, ⟨c, rfl, h3, h4⟩, rfl⟩ := hds
    exact ⟨by simp, xs, c, rfl, h1, h2, h3, h4⟩
  obtain ⟨xs, c, rfl, hl, hb, c0, hcb⟩ := hd
  refine ⟨_, rfl, ?_⟩
  have bs : BitsL 10 (xs.map fun x => c * x) := fun z hz => by
    obtain ⟨x, hx, rfl⟩ := List.mem_map.mp hz
    exact (Bits.mul hcb (hb x hx)).mono (by decide)
  refine q_cons (qs_set (i := 5) (m := n) (P := fun d => d = lI (xs.map fun x => c * x)) G (m_pure (e_is (e_lc0 (own := [("number", 6)]) (f := fName 6) (val := onInt fun x => c * x) G (src_T (e_var (i := 4) rfl)) (by simp; omega) (blkOk_by (N := n__law_directions_right) (sc := defScope st__law_directions_right) (by decide +kernel))
    (fun _ _ _ _ _ => pg_name (i := 6) sc__law_directions_right.nd rfl (Or.inl rfl)) (tg_name (by decide)) fun d hd => ?_) (by rw [mapI])) rfl (Nat.le_refl _)) fun d hd => ?_)
  · obtain ⟨x, hx, rfl⟩ := mem_mapI hd
    exact ⟨_, rfl, fun s H C cl fp => e_bin (od_mul (mul_ok hcb (hb x hx) (by decide))) (e_var (i := 2) rfl) (e_var (i := 6) rfl)⟩
  subst hd
  obtain ⟨r, o1, o2, hr1, hr2, tr, rh1, rh2, hdue⟩ : ∃ (r : PyData) (o1 o2 : Out), dirO (xs.map fun x => c * x) = o1 ∧ dirO xs = o2 ∧ Tam 10 2 r ∧ RH o1 r ∧ RH o2 r ∧ r = if (xs == List.replicate D 0) = true then PyData.str "flat" else .list [tI (shortL xs)] := by
    by_cases hx : ∃ x ∈ xs, x ≠ 0
    · have ne : (xs == List.replicate D 0) = false := beq_eq_false_iff_ne.mpr fun z => by
        obtain ⟨x, hm, h0⟩ := hx
        rw [z] at hm
        exact h0 (List.eq_of_mem_replicate hm)
      have g0 : gcdL xs ≠ 0 := fun z => by
        obtain ⟨x, hm, h0⟩ := hx
        exact h0 (gcd_zero z x hm)
      have e1 : dirO (xs.map fun x => c * x) = .ok (tI (shortL xs)) := by
        have g1 : gcdL (xs.map fun x => c * x) ≠ 0 := by
          rw [gcdL_scale]
          exact Nat.mul_ne_zero (by omega) g0
        have e : shortL (xs.map fun x => c * x) = shortL xs := by
          rw [shortL_scale (by omega) hx, if_pos c0, show (fun y : Int => 1 * y) = id from funext fun y => Int.one_mul y, List.map_id]
        unfold dirO
        rw [if_neg g1, e]
      have e2 : dirO xs = .ok (tI (shortL xs)) := if_neg g0
      exact ⟨_, _, _, e1, e2, (tam_l1 (tam_tI (l := 4) ((shortL_bits hb).mono (by decide)) (by rw [shortL_len]; omega))).mono (by decide) (by decide), .inl ⟨_, rfl, rfl⟩, .inl ⟨_, rfl, rfl⟩, by rw [ne, if_neg Bool.false_ne_true]⟩
    · have ez := all_zero hx
      rw [hl] at ez
      have z0 : ∀ x ∈ xs, x = 0 := fun x hm => by
        rw [ez] at hm
        exact List.eq_of_mem_replicate hm
      have e1 : dirO (xs.map fun x => c * x) = .ex ⟨"Flat", []⟩ := if_pos (gcd_none fun x hm => by
        obtain ⟨y, hy, rfl⟩ := List.mem_map.mp hm
        show c * y = 0
        rw [z0 y hy, Int.mul_zero])
      have e2 : dirO xs = .ex ⟨"Flat", []⟩ := if_pos (gcd_none z0)
      exact ⟨_, _, _, e1, e2, tam_flat.mono (by decide) (by decide), .inr (.inr ⟨rfl, rfl⟩), .inr (.inr ⟨rfl, rfl⟩), by rw [if_pos (beq_iff_eq.mpr ez)]⟩
  have R1 : R_dirof [tI (xs.map fun x => c * x)] o1 := ⟨_, rfl, bs.mono (by decide), by rw [List.length_map]; omega, hr1.symm⟩
  have R2 : R_dirof [tI xs] o2 := ⟨_, rfl, hb.mono (by decide), by omega, hr2.symm⟩
  refine q_cons (qs_set (i := 3) (m := n) (P := fun d => d = r) G (m_pure (e_if (b := !(xs == List.replicate D 0)) (d := r) (t_is (t_cmp (od_neD G.un (shaped_tI xs) (shaped_tI (List.replicate D 0))) (e_var (i := 4) rfl) (e_is (e_bin (od_repT (ds := [.int 0]) (by simp) (by omega) (by omega) (by simp)) (e_tup (a_cons e_int a_nil)) (e_var (i := 1) rfl)) (by rw [Int.toNat_natCast, rep_ints])) (nomark _)) (by rw [eqv_tI]))
    (fun hb1 => e_is (e_lst (a_cons (e_call CW (hr.mono (by decide)) (a_cons (e_var (i := 4) rfl) a_nil) ⟨xs, .inl rfl, hb.mono (by decide), by omega, rfl⟩) a_nil)) ?_) fun hb1 => e_is e_str ?_) rfl (Nat.le_refl _)) fun d hd => ?_)
  · rw [hdue, if_neg (by simpa using hb1)]
  · rw [hdue, if_pos (by simpa using hb1)]
  subst hd
  exact q_one (qs_ret (m := n) (P := Pd) (m_pure (e_callG CL hgd (hr.mono (by decide)) (a_cons (e_lst (a_cons (e_hear h rh1 (hr.mono (by decide)) lm hcv rfl (lamK_by (sc := defScope st__law_directions_right) (by decide +kernel)) (.no rfl) (lamBind0 fun _ _ _ _ _ _ => rfl) (lam_call CX R1 fun A outer s H E f' c' => a_cons (e_callT ca_tupL (a_cons (e_var (i := 5) rfl) a_nil) T.tuple (by decide +kernel)) a_nil))
    (a_cons (e_hear h rh2 (hr.mono (by decide)) lm hcv rfl (lamK_by (sc := defScope st__law_directions_right) (by decide +kernel)) (.one rfl rfl) (lamBind1 (n := "k") (fun _ _ _ _ _ _ _ => ⟨_, rfl, fun _ => rfl⟩) rfl) (lam_call CX R2 fun A outer s H E f' c' => a_cons (e_var (i := 4) rfl) a_nil)) a_nil)))
    (a_cons (e_lst (a_cons (e_var (i := 3) rfl) (a_cons (e_var (i := 3) rfl) a_nil))) a_nil)) ⟨_, rfl, (tam_l2 tr tr).tame (by decide) (by decide), rfl⟩) hP (Nat.le_refl _)) fun d hd => ⟨Nat.le_refl _, hd⟩)
end
end K2
/-! By hand. -/
namespace K2
open PySem PySem.Spec PyProof.Rows L2 Zj
variable [Nm]
def R_hand (ds : List PyData) (d : PyData) : Prop := ds = [] ∧ d = .bool true
theorem kb1 {f a : Str} {st : Stmt} (e : ∀ (kV doc pm : Value) (an : Option Addr) (cdv ct u : Value), bindArgs (PySem.W.fnOf f f (defArgs st) (defBody st) (defScope st) .none kV doc pm an cdv ct) ⟨[], [(a, u)]⟩ = pure [(a, u)])
    (kV doc pm : Value) (an : Option Addr) (cdv ct : Value) (ws : List Value) (hl : ws.length = [a].length) : bindArgs (PySem.W.fnOf f f (defArgs st) (defBody st) (defScope st) .none kV doc pm an cdv ct) ⟨[], [a].zip ws⟩ = pure ([a].zip (turn2 false ws)) := by
  match ws, hl with
  | [u], _ => exact e kV doc pm an cdv ct u
theorem kb2 {f a b : Str} {st : Stmt} (e : ∀ (kV doc pm : Value) (an : Option Addr) (cdv ct u v : Value), bindArgs (PySem.W.fnOf f f (defArgs st) (defBody st) (defScope st) .none kV doc pm an cdv ct) ⟨[], [(a, u), (b, v)]⟩ = pure [(a, u), (b, v)])
    (kV doc pm : Value) (an : Option Addr) (cdv ct : Value) (ws : List Value) (hl : ws.length = [a, b].length) : bindArgs (PySem.W.fnOf f f (defArgs st) (defBody st) (defScope st) .none kV doc pm an cdv ct) ⟨[], [a, b].zip ws⟩ = pure ([a, b].zip (turn2 false ws)) := by
  match ws, hl with
  | [u, v], _ => exact e kV doc pm an cdv ct u v
theorem kb3 {f a b c : Str} {st : Stmt} (e : ∀ (kV doc pm : Value) (an : Option Addr) (cdv ct u v z : Value), bindArgs (PySem.W.fnOf f f (defArgs st) (defBody st) (defScope st) .none kV doc pm an cdv ct) ⟨[], [(a, u), (b, v), (c, z)]⟩ = pure [(a, u), (b, v), (c, z)])
    (kV doc pm : Value) (an : Option Addr) (cdv ct : Value) (ws : List Value) (hl : ws.length = [a, b, c].length) : bindArgs (PySem.W.fnOf f f (defArgs st) (defBody st) (defScope st) .none kV doc pm an cdv ct) ⟨[], [a, b, c].zip ws⟩ = pure ([a, b, c].zip (turn2 false ws)) := by
  match ws, hl with
  | [u, v, z], _ => exact e kV doc pm an cdv ct u v z
theorem sb {xs : List Int} {n : Nat} (h : xs.all (fun x => decide (x.natAbs < 2 ^ 10)) = true) (hn : 10 ≤ n := by decide) : BitsL n xs := fun x hx => Bits.mono (m := 10) (of_decide_eq_true (List.all_eq_true.mp h x hx)) hn
theorem cs1 : Cs [(1, 2), (-1, 3)] := by
  refine ⟨fun p hp => ?_, by decide⟩
  simp only [List.mem_cons, List.not_mem_nil, or_false] at hp
  rcases hp with rfl | rfl
  · exact ⟨⟨by decide, by decide⟩, by decide, by decide⟩
  · exact ⟨⟨by decide, by decide⟩, by decide, by decide⟩
theorem cs2 : Cs [(1, 2)] := by
  refine ⟨fun p hp => ?_, by decide⟩
  simp only [List.mem_cons, List.not_mem_nil, or_false] at hp
  rcases hp with rfl
  exact ⟨⟨by decide, by decide⟩, by decide, by decide⟩
theorem pc1 : ptC [(1, 2), (-1, 3)] = [3, -2, 6] := by decide +kernel
theorem pc2 : ptC [(1, 2)] = [1, 2] := by decide +kernel
theorem dt1 : dirtoO [0, 0, 1] [1, 2, 3] 1 3 = .ok (tI [1, 2]) := by
  unfold dirtoO
  rw [if_neg (by decide), show stepsL [0, 0, 1] [1, 2, 3] 1 3 = [1, 2] from by decide]
  unfold dirO
  rw [if_neg (by decide), show shortL [1, 2] = [1, 2] from by decide]
theorem do1 : dirO [0, -6] = .ok (tI [0, -1]) := by
  unfold dirO
  rw [if_neg (by decide), show shortL [0, -6] = [0, -1] from by decide]
theorem do2 : dirO [4, -2] = .ok (tI [2, -1]) := by
  unfold dirO
  rw [if_neg (by decide), show shortL [4, -2] = [2, -1] from by decide]
theorem mv1 : movedL [1, 1] [-1] 1 2 1 = [1, 2] := by decide
section
variable {P : Program} {w : World} {K : PySem.W.Frag} {mg : Str → Option Value} {base : Heap} {f : Addr} {fd : FuncData}
theorem ok_hand (F : Fun K "_law_hand_right" "_law_hand_right" st__law_hand_right f fd) (T : Tx mg) (CL : CalG P w K mg base 1 "_law_like" ["told", "due"] (spR K R_like)) (C1 : Cal P w K mg base 2 "point_of" ["coordinates"] (spR K R_ptof)) (C2 : Cal P w K mg base 2 "coordinates_of" ["point"] (spR K R_coo))
    (C3 : CalX P w K mg base 3 "direction_of" ["numbers"] (spX K mg R_dirof)) (K1 : CalK P w K mg base 2 "point_of" st_point_of ["coordinates"] (spR K R_ptof)) (K2 : CalK P w K mg base 2 "coordinates_of" st_coordinates_of ["point"] (spR K R_coo))
    (K3 : CalXK P w K mg base 3 "direction_of" st_direction_of ["numbers"] (spX K mg R_dirof)) (K4 : CalXK P w K mg base 4 "direction_to" st_direction_to ["point", "other"] (spX K mg R_dirto)) (K5 : CalK P w K mg base 3 "moved_by" st_moved_by ["point", "direction", "amount"] (spR K R_moved)) : FnG P w K mg base CX0 5 f fd [] (spR K R_hand) := by
  refine fnRG F sc__law_hand_right (fun ds d h => by obtain ⟨rfl, _⟩ := h; rfl) fun cdv A outer s H E G hr hgd ds d h' => ?_
  obtain ⟨rfl, rfl⟩ := h'
  have t1 : Tam 10 1 (.tuple [.int 3, .int (-2), .int 6]) := tm_I (xs := [3, -2, 6]) (by decide) (by decide)
  have t0 : ∀ x y : Int, Bits 10 x → Bits 10 y → Tam 10 1 (.tuple [.int x, .int y]) := fun x y h1 h2 => (tam_tI (xs := [x, y]) (l := 2) ((bits2 h1 h2).mono (by decide)) (by simp)).mono (by decide) (by decide)
  have t2 : Tam 30 2 (.tuple [.tuple [.int 1, .int 2], .tuple [.int (-1), .int 3]]) := (tam_tup (b := 10) (n := 1) (l := 2) (fun x hx => by
    rcases List.mem_cons.mp hx with rfl | hx
    · exact t0 _ _ (by decide) (by decide)
    · rw [List.mem_singleton] at hx
      rw [hx]
      exact t0 _ _ (by decide) (by decide)) (by simp)).mono (by decide) (by decide)
  have t3 : Tam 30 2 (.tuple [.tuple [.int 1, .int 2]]) := (tam_tup (b := 10) (n := 1) (l := 1) (fun x hx => by
    rw [List.mem_singleton] at hx
    rw [hx]
    exact t0 _ _ (by decide) (by decide)) (by simp)).mono (by decide) (by decide)
  refine r_cons (r_skip (t_or2 (b := false)
    (t_notlike (d := .tuple [.int 3, .int (-2), .int 6]) CL hgd (hr.mono (by decide)) (a_cons (e_call C1 (hr.mono (by decide)) (a_cons (e_tup (a_cons (e_tup (a_cons e_int (a_cons e_int a_nil))) (a_cons (e_tup (a_cons (e_neg e_int) (a_cons e_int a_nil))) a_nil))) a_nil) ⟨[(1, 2), (-1, 3)], rfl, cs1, by decide, by rw [pc1] <;> rfl⟩) (a_cons (e_tup (a_cons e_int (a_cons (e_neg e_int) (a_cons e_int a_nil)))) a_nil)) (t1.tame (by decide) (by decide)))
    (fun _ => t_notlike (d := .tuple [.tuple [.int 1, .int 2], .tuple [.int (-1), .int 3]]) CL hgd (hr.mono (by decide)) (a_cons (e_call C2 (hr.mono (by decide)) (a_cons (e_tup (a_cons e_int (a_cons (e_neg e_int) (a_cons e_int a_nil)))) a_nil) ⟨[(1, 2), (-1, 3)], by rw [pc1] <;> rfl, cs1, rfl⟩) (a_cons (e_tup (a_cons (e_tup (a_cons e_int (a_cons e_int a_nil))) (a_cons (e_tup (a_cons (e_neg e_int) (a_cons e_int a_nil))) a_nil))) a_nil)) (t2.tame (by decide) (by decide))) nofun) ?_)
  refine r_cons (r_skip (t_or2 (b := false)
    (t_notlike (d := .tuple [.int 1, .int 2]) CL hgd (hr.mono (by decide)) (a_cons (e_callXK (ks := ["point", "other"]) false (by decide) K4 (hr.mono (by decide)) (k_cons (e_tup (a_cons e_int (a_cons e_int (a_cons e_int a_nil)))) (k_cons (e_tup (a_cons e_int (a_cons e_int (a_cons e_int a_nil)))) k_nil)) ⟨[0, 0, 1], [1, 2, 3], 1, 3, rfl, rfl, rfl, sb (by decide), sb (by decide), by decide, dt1.symm⟩ (kb2 fun _ _ _ _ _ _ _ _ => rfl)) (a_cons (e_tup (a_cons e_int (a_cons e_int a_nil))) a_nil)) ((t0 _ _ (by decide) (by decide)).tame (by decide) (by decide)))
    (fun _ => t_notlike (d := .tuple [.int 0, .int (-1)]) CL hgd (hr.mono (by decide)) (a_cons (e_callX C3 (hr.mono (by decide)) (a_cons (e_tup (a_cons e_int (a_cons (e_neg e_int) a_nil))) a_nil) ⟨[0, -6], rfl, sb (by decide), by decide, do1.symm⟩) (a_cons (e_tup (a_cons e_int (a_cons (e_neg e_int) a_nil))) a_nil)) ((t0 _ _ (by decide) (by decide)).tame (by decide) (by decide))) nofun) ?_)
  refine r_cons (rs_set (i := 0) (d := .list [.tuple [.int 1, .int 2], .tuple [.int 1, .int 2], .tuple [.tuple [.int 1, .int 2]]]) G (e_lst
    (a_cons (e_callK (ks := ["point", "direction", "amount"]) false (by decide) K5 (hr.mono (by decide)) (k_cons (e_tup (a_cons e_int (a_cons e_int a_nil))) (k_cons (e_tup (a_cons (e_neg e_int) a_nil)) (k_cons (e_tup (a_cons e_int (a_cons e_int a_nil))) k_nil))) ⟨[1, 1], [-1], 1, 2, 1, rfl, rfl, sb (by decide), sb (by decide), Bits.mono (m := 10) (by decide) (by decide), Bits.mono (m := 10) (by decide) (by decide), by decide, by rw [mv1] <;> rfl⟩ (kb3 fun _ _ _ _ _ _ _ _ _ => rfl))
    (a_cons (e_callK (ks := ["coordinates"]) false (by decide) K1 (hr.mono (by decide)) (k_cons (e_tup (a_cons (e_tup (a_cons e_int (a_cons e_int a_nil))) a_nil)) k_nil) ⟨[(1, 2)], rfl, cs2, by decide, by rw [pc2] <;> rfl⟩ (kb1 fun _ _ _ _ _ _ _ => rfl))
    (a_cons (e_callK (ks := ["point"]) false (by decide) K2 (hr.mono (by decide)) (k_cons (e_tup (a_cons e_int (a_cons e_int a_nil))) k_nil) ⟨[(1, 2)], by rw [pc2] <;> rfl, cs2, rfl⟩ (kb1 fun _ _ _ _ _ _ _ => rfl)) a_nil)))) ?_)
  refine r_one (rs_ret (e_callG CL hgd (hr.mono (by decide)) (a_cons (e_bin (od_catL (fs := [.tuple [.int 2, .int (-1)]]) (by simp)) (e_var (i := 0) rfl) (e_lst (a_cons (e_callXK (ks := ["numbers"]) false (by decide) K3 (hr.mono (by decide)) (k_cons (e_tup (a_cons e_int (a_cons (e_neg e_int) a_nil))) k_nil) ⟨[4, -2], rfl, sb (by decide), by decide, do2.symm⟩ (kb1 fun _ _ _ _ _ _ _ => rfl)) a_nil)))
    (a_cons (e_lst (a_cons (e_tup (a_cons e_int (a_cons e_int a_nil))) (a_cons (e_tup (a_cons e_int (a_cons e_int a_nil))) (a_cons (e_tup (a_cons (e_tup (a_cons e_int (a_cons e_int a_nil))) a_nil)) (a_cons (e_tup (a_cons e_int (a_cons (e_neg e_int) a_nil))) a_nil))))) a_nil)) ⟨_, rfl, (Tam.tame (tam_lst (b := 30) (n := 2) (l := 4) (fun x hx => ?_) (by simp)) (by decide) (by decide)), rfl⟩) rfl)
  rcases List.mem_append.mp hx with hx | hx
  · simp only [List.mem_cons, List.not_mem_nil, or_false] at hx
    rcases hx with rfl | rfl | rfl
    · exact (t0 _ _ (by decide) (by decide)).mono (by decide) (by decide)
    · exact (t0 _ _ (by decide) (by decide)).mono (by decide) (by decide)
    · exact t3
  · rw [List.mem_singleton] at hx
    rw [hx]
    exact (t0 _ _ (by decide) (by decide)).mono (by decide) (by decide)
end
end K2
/-! The law. -/
namespace K2
open PySem PySem.Spec PyProof.Rows L2 Zj
variable [Nm]
def R_law (ds : List PyData) (d : PyData) : Prop := ∃ xs, ds = [lI xs] ∧ xs.length ≤ 63 ∧ BitsL 1100000 xs ∧ d = .bool true
/-- back to fractions -/
def cooL (xs : List Int) : List PyData := xs.dropLast.map fun x => tI (fracL x (xs.getLast?.getD 0))
theorem coo_eq {cs : List (Int × Int)} (hc : Cs cs) : cooL (ptC cs) = cs.map fr := by
  have hw0 : 0 < lcmL (cs.map Prod.snd) := lcmL_pos fun b hb => by
    obtain ⟨p, hp, rfl⟩ := List.mem_map.mp hb
    exact (hc.1 p hp).1.1
  have hlast : (ptC cs).getLast? = some (lcmL (cs.map Prod.snd) : Int) := by unfold ptC; simp
  have hinit : (ptC cs).dropLast = cs.map fun p => p.1 * Int.fdiv (lcmL (cs.map Prod.snd)) p.2 := by unfold ptC; simp
  unfold cooL
  rw [hlast, hinit, List.map_map]
  refine List.map_congr_left fun p hp => ?_
  obtain ⟨k, hk0, e1, e2⟩ := quot_of (fun q hq => (hc.1 q hq).1) hp
  show tI (fracL (p.1 * Int.fdiv (lcmL (cs.map Prod.snd)) p.2) (lcmL (cs.map Prod.snd))) = tI [p.1, p.2]
  rw [e2, e1, frac_self (hc.1 p hp).1 (by omega)]
def numsOf : PyData → List Int
  | .tuple ds => ds.map fun d => match d with | .int x => x | _ => 0
  | _ => []
theorem nums_tI (xs : List Int) : numsOf (tI xs) = xs := by
  show (xs.map PyData.int).map _ = xs
  rw [List.map_map]
  conv => rhs; rw [← List.map_id xs]
  rfl
def vCoo (d : PyData) : PyData := .tuple (cooL (numsOf d))
theorem vCoo_eq {cs : List (Int × Int)} (hc : Cs cs) : vCoo (tI (ptC cs)) = .tuple (cs.map fr) := by
  unfold vCoo
  rw [nums_tI, coo_eq hc]
def unfr : PyData → Int × Int
  | .tuple [.int x, .int y] => (x, y)
  | _ => (0, 0)
def vPt : PyData → PyData
  | .tuple ds => tI (ptC (ds.map unfr))
  | _ => .none
theorem vPt_eq (cs : List (Int × Int)) : vPt (.tuple (cs.map fr)) = tI (ptC cs) := by
  show tI (ptC ((cs.map fr).map unfr)) = _
  rw [List.map_map, show unfr ∘ fr = id from funext fun p => rfl, List.map_id]
theorem fa2_frs {xs ds : List PyData} (h : Fa2 (fun _ d => ∃ u : Int × Int, d = fr u ∧ Fr u ∧ Bits 80 u.1 ∧ Bits 60 u.2) xs ds) : ∃ cs : List (Int × Int), ds = cs.map fr ∧ cs.length = xs.length ∧ ∀ p ∈ cs, Fr p ∧ Bits 80 p.1 ∧ Bits 60 p.2 := by
  induction h with
  | nil => exact ⟨[], rfl, rfl, nofun⟩
  | cons hx _ ih =>
    obtain ⟨u, rfl, hu⟩ := hx
    obtain ⟨cs, rfl, hl, hc⟩ := ih
    refine ⟨u :: cs, rfl, by simp [hl], fun y hy => ?_⟩
    rcases List.mem_cons.mp hy with rfl | hy
    · exact hu
    · exact hc y hy
/-- drawn coordinates -/
def Vc (D : Nat) (d : PyData) : Prop := ∃ cs, d = .tuple (cs.map fr) ∧ Cs cs ∧ cs.length = D
theorem tam_fr {u : Int × Int} (h1 : Bits 80 u.1) (h2 : Bits 60 u.2) : Tam 2 1 (fr u) := tam_tI (l := 2) (bits2 (h1.mono (by decide)) (h2.mono (by decide))) (by simp)
theorem tam_cs {cs : List (Int × Int)} (hc : Cs cs) : Tam 12 2 (.tuple (cs.map fr)) := (tam_tup (b := 2) (n := 1) (l := 4) (fun d hd => by
  obtain ⟨p, hp, rfl⟩ := List.mem_map.mp hd
  exact tam_fr (hc.1 p hp).2.1 (hc.1 p hp).2.2) (by rw [List.length_map]; exact hc.2)).mono (by decide) (by decide)
theorem tam_pt {cs : List (Int × Int)} (hc : Cs cs) : Tam 5 1 (tI (ptC cs)) := tam_tI ((cs_bits hc).2.mono (by decide)) (by rw [pt_len]; have := hc.2; omega)
theorem good_blk {X : Cx} (G : Good X) {s : Shared} {H : Hp} {scope : Scope} {cenv : Env} {fp : List Addr} : Good (X.blk s H scope cenv fp) := ⟨G.nd, G.calm, PassesOwn.never, G.un⟩
section
variable {P : Program} {w : World} {K : PySem.W.Frag} {mg : Str → Option Value} {base : Heap} {f : Addr} {fd : FuncData}
theorem ok_law (F : Fun K "law" "law" st_law f fd) (T : Tx mg) (CH : CalG P w K mg base 5 "_law_hand_right" [] (spR K R_hand)) (CB : CalG P w K mg base 1 "_law_begun" ["script", "k"] (spB K)) (C1 : CalG P w K mg base 1 "_law_draw" ["m", "bound"] (spM K 1 R_draw))
    (CL : CalG P w K mg base 1 "_law_like" ["told", "due"] (spR K R_like)) (CP : CalG P w K mg base 4 "_law_pair" ["m"] (spM K 4 R_pair)) (CD : Cal P w K mg base 4 "_law_due_point" ["coordinates_so"] (spR K R_duept)) (C2 : Cal P w K mg base 2 "point_of" ["coordinates"] (spR K R_ptof)) (C3 : Cal P w K mg base 2 "coordinates_of" ["point"] (spR K R_coo))
    (CW : CalG P w K mg base 7 "_law_ways_right" ["m", "dimension", "point_so", "other_so"] (spM K 4 R_ways)) (CS : CalG P w K mg base 6 "_law_directions_right" ["m", "dimension"] (spM K 5 R_dirs)) : FnG P w K mg base CX0 8 f fd ["script"] (spR K R_law) := by
  refine fnRG F sc_law (fun ds d h => by obtain ⟨xs, rfl, _⟩ := h; rfl) fun cdv A outer s H E G hr hgd ds d h => ?_
  obtain ⟨xs, rfl, hl, hb, rfl⟩ := h
  refine r_cons (r_skip (t_is (t_not (t_val (e_call0 CH hgd (hr.mono (by decide)) ⟨rfl, rfl⟩))) rfl) ?_)
  obtain ⟨M, hM0, hM4, hM⟩ : ∃ M : Int, 0 ≤ M ∧ M ≤ 4 ∧ (if (if (4 : Int) < ((xs.map PyData.int).length : Int) then 4 else ((xs.map PyData.int).length : Int)) > 2 then (if (4 : Int) < ((xs.map PyData.int).length : Int) then 4 else ((xs.map PyData.int).length : Int)) else 2) = M := by
    refine ⟨_, ?_, ?_, rfl⟩
    · split
      · omega
      · omega
    · split
      · split <;> omega
      · omega
  refine r_cons (rs_for G (src_R (n := M) (a_cons (e_is (e_callB (ca_max G.calm) (a_cons e_int (a_cons (e_callB (ca_min G.calm) (a_cons (e_callB ca_lenL (a_cons (e_var (i := 0) rfl) a_nil) T.len (by decide +kernel)) (a_cons e_int a_nil)) T.min (by decide +kernel)) a_nil)) T.max (by decide +kernel)) (by rw [hM])) a_nil) (by omega) (by omega) T.range)
    (pg_name (i := 1) sc_law.nd rfl (Or.inl rfl)) (tg_name (vs := [1]) (by decide)) (fun _ ρ' => ∃ y1 y2 y3 y4 y5 y6 y7 y8 y9, ρ' = [some (.dat (lI xs)), y1, y8, y2, y3, y4, y5, y6, y7, y9]) ⟨_, _, _, _, _, _, _, _, _, rfl⟩ (fun i d ρ1 hd hJ => ?_) fun ρ' hJ => ?_)
  · obtain ⟨y1, y2, y3, y4, y5, y6, y7, y8, y9, rfl⟩ := hJ
    have hi : i < M.toNat ∧ d = .int (i : Int) := by
      unfold Zj.upTo at hd
      rw [List.getElem?_map] at hd
      by_cases hlt : i < M.toNat
      · rw [List.getElem?_range hlt] at hd
        cases hd
        exact ⟨hlt, rfl⟩
      · rw [List.getElem?_eq_none (by simpa using hlt)] at hd
        cases hd
    obtain ⟨hi, rfl⟩ := hi
    refine ⟨_, rfl, r_begun (i := 2) (kk := i) (xs := xs) G CB hgd (hr.mono (by decide)) (a_cons (e_var (i := 0) rfl) (a_cons (e_var (i := 1) rfl) a_nil)) (by omega) hl hb fun q => ?_⟩
    refine q_one (qs_for G (src_R (n := 4) (a_cons e_int a_nil) (by decide) (by decide) T.range) (pg_name (i := 3) sc_law.nd rfl (Or.inl rfl)) (tg_name (vs := [3]) (by decide))
      (fun j m ρ' => 1000 ≤ m + 50 * j ∧ ∃ z1 z2 z3 z4 z5 z6 z7, ρ' = [some (.dat (lI xs)), some (.dat (.int (i : Int))), some .hnd, z1, z2, z3, z4, z5, z6, z7]) ⟨by decide, _, _, _, _, _, _, _, rfl⟩ (fun j d m ρ1 hd hJ => ?_) fun m ρ' hJ => ?_)
    · obtain ⟨hm, z1, z2, z3, z4, z5, z6, z7, rfl⟩ := hJ
      have hj : j < 4 := by
        have := (List.getElem?_eq_some_iff.mp hd).1
        rw [upto_len] at this
        omega
      obtain ⟨r, rfl⟩ : ∃ r, m = r + 43 := ⟨m - 43, by omega⟩
      refine ⟨_, rfl, ?_⟩
      refine q_cons (qs_set (i := 4) (m := r + 42) (P := fun d => ∃ D : Nat, d = .int (D : Int) ∧ 1 ≤ D ∧ D ≤ 4) G (m_bin (P1 := fun d => d = .int 1) (P2 := fun _ d => ∃ r : Int, d = .int r ∧ 0 ≤ r ∧ r < 4) (m := r + 43) (m_pure e_int rfl (Nat.le_refl _))
        (fun _ _ => m_draw (i := 2) C1 hgd (hr.mono (by decide)) rfl e_int (by decide) (by decide)) (fun d1 d2 h1 h2 => by
          subst h1
          obtain ⟨v, rfl, r0, r1⟩ := h2
          exact ⟨_, od_add, (1 + v).toNat, congrArg PyData.int (by omega), by omega, by omega⟩)) fun d hd => ?_)
      obtain ⟨D, rfl, hD1, hD⟩ := hd
      refine q_two (i := 5) (i0 := .int 0) (i1 := .int 1) (V := fun _ d => Vc D d) (m := r + 10) (k := r + 9) (c := 16) (own := [("lot", 7)]) (f := fName 7) G (src_R (n := 2) (a_cons e_int a_nil) (by decide) (by decide) T.range) (by omega) (blkOk_by (N := n_law) (sc := defScope st_law) (by decide +kernel))
        (fun _ _ _ _ _ => pg_name (i := 7) sc_law.nd rfl (Or.inl rfl)) (tg_name (by decide)) (fun d hd => ⟨_, rfl, fun m s H C cl fp => ?_⟩) (by show 5 < 10; decide) (fun Dd => ?_) fun d0 d1 d2 h0 h1 h01 => ?_
      · refine m_callT (id := "tuple") (PA := fun ds => ∃ d ds', ds = d :: ds' ∧ (∃ cs, d = .list (cs.map fr) ∧ Cs cs ∧ cs.length = D) ∧ ds' = []) (fun ds hds => ?_)
          (ma_cons (m := m) (m_lc0 (k := m) (c := 4) (own := [("spot", 9)]) (f := fName 9) (V := fun _ d => ∃ u : Int × Int, d = fr u ∧ Fr u ∧ Bits 80 u.1 ∧ Bits 60 u.2) (items := Zj.upTo ((D : Int)).toNat) (good_blk G) (src_R (a_cons (e_var (i := 4) rfl) a_nil) (by omega) (by omega) T.range)
            (by rw [upto_len]; omega) (by rw [upto_len]; omega) (blkOk_by (by rfl)) (fun _ _ _ _ _ => pg_name (i := 9) sc_law.nd rfl (Or.inl rfl)) (tg_name (by decide)) (fun d hd => ⟨_, rfl, fun m s H C cl fp => ?_⟩) fun ds hds => ?_) fun _ _ => ma_nil (Nat.le_refl _)) T.tuple (by decide +kernel)
        · obtain ⟨_, _, rfl, ⟨cs, rfl, h1, h2⟩, rfl⟩ := hds
          exact ⟨_, ca_tupL, cs, rfl, h1, h2⟩
        · exact m_call (i := 2) (ds := []) CP hgd (hr.mono (by decide)) rfl a_nil ⟨rfl, fun u h1 h2 h3 => ⟨u, rfl, h1, h2, h3⟩⟩ (Nat.le_refl _)
        · obtain ⟨cs, rfl, hl, hc⟩ := fa2_frs hds
          have hl : cs.length = D := by rw [hl, upto_len]; omega
          exact ⟨cs, rfl, ⟨hc, by omega⟩, hl⟩
      · exact mt_cmp (P1 := fun d => ∃ r : Int, d = .int r ∧ 0 ≤ r ∧ r < 6) (P2 := fun _ d => d = .int 0) (m := r + 9) (m_draw (i := 2) C1 hgd (hr.mono (by decide)) rfl e_int (by decide) (by decide)) (fun _ _ => m_pure e_int rfl (Nat.le_refl _)) (fun d1 d2 h1 h2 => by
          obtain ⟨v, rfl, _, _⟩ := h1
          subst h2
          exact ⟨_, od_eqI, trivial⟩) (nomark _)
      have hd2 : Vc D d2 := by
        rcases h01 with rfl | rfl
        · exact h0
        · exact h1
      clear h01
      obtain ⟨cs, rfl, hc, hcl⟩ := h0
      obtain ⟨es, rfl, he, hel⟩ := hd2
      have pick : ∀ d ∈ [PyData.tuple (cs.map fr), .tuple (es.map fr)], ∃ us, d = .tuple (us.map fr) ∧ Cs us ∧ us.length = D := fun d hd => by
        rcases List.mem_cons.mp hd with rfl | hd
        · exact ⟨cs, rfl, hc, hcl⟩
        · rw [List.mem_singleton] at hd
          exact ⟨es, hd, he, hel⟩
      have epts : ([PyData.tuple (cs.map fr), .tuple (es.map fr)]).map vPt = [tI (ptC cs), tI (ptC es)] := by
        rw [List.map_cons, List.map_cons, vPt_eq, vPt_eq, List.map_nil]
      have ecoo : ([tI (ptC cs), tI (ptC es)]).map vCoo = [PyData.tuple (cs.map fr), .tuple (es.map fr)] := by
        rw [List.map_cons, List.map_cons, vCoo_eq hc, vCoo_eq he, List.map_nil]
      refine q_cons (q_pure (N' := fun ρ' => ρ' = [some (.dat (lI xs)), some (.dat (.int (i : Int))), some .hnd, some (.dat d), some (.dat (.int (D : Int))), some (.dat (.list [.tuple (cs.map fr), .tuple (es.map fr)])), some (.dat (.list [tI (ptC cs), tI (ptC es)])), z5, z6, z7]) (R' := fun _ => False)
        (rs_lc0 (i := 6) (own := [("one", 8)]) (f := fName 8) (val := vPt) G (src_L (e_var (i := 5) rfl)) (by simp) (blkOk_by (N := n_law) (sc := defScope st_law) (by decide +kernel)) (fun _ _ _ _ _ => pg_name (i := 8) sc_law.nd rfl (Or.inl rfl)) (tg_name (by decide)) (fun d hd => ?_) (by rw [epts] <;> rfl)) (fun ρ' e => ?_) nofun)
      · obtain ⟨us, rfl, hu, _⟩ := pick d hd
        exact ⟨_, rfl, fun s H C cl fp => e_call CD (hr.mono (by decide)) (a_cons (e_var (i := 8) rfl) a_nil) ⟨us, rfl, hu, vPt_eq us⟩⟩
      rw [e]
      refine q_cons (q_skip (t_or2 (b := false) (t_notlike CL hgd (hr.mono (by decide)) (d := .list [tI (ptC cs), tI (ptC es)]) (a_cons (e_is (e_lc0 (own := [("one", 8)]) (f := fName 8) (val := vPt) G (src_L (e_var (i := 5) rfl)) (by simp) (blkOk_by (N := n_law) (sc := defScope st_law) (by decide +kernel)) (fun _ _ _ _ _ => pg_name (i := 8) sc_law.nd rfl (Or.inl rfl)) (tg_name (by decide)) fun d hd => ?_) (by rw [epts])) (a_cons (e_var (i := 6) rfl) a_nil)) ((tam_l2 (tam_pt hc) (tam_pt he)).tame (by decide) (by decide)))
        (fun _ => t_notlike CL hgd (hr.mono (by decide)) (d := .list [.tuple (cs.map fr), .tuple (es.map fr)]) (a_cons (e_is (e_lc0 (own := [("one", 8)]) (f := fName 8) (val := vCoo) G (src_L (e_var (i := 6) rfl)) (by simp) (blkOk_by (N := n_law) (sc := defScope st_law) (by decide +kernel)) (fun _ _ _ _ _ => pg_name (i := 8) sc_law.nd rfl (Or.inl rfl)) (tg_name (by decide)) fun d hd => ?_) (by rw [ecoo])) (a_cons (e_var (i := 5) rfl) a_nil)) ((tam_l2 (tam_cs hc) (tam_cs he)).tame (by decide) (by decide))) nofun) ?_)
      · obtain ⟨us, rfl, hu, hul⟩ := pick d hd
        exact ⟨_, rfl, fun s H C cl fp => e_call C2 (hr.mono (by decide)) (a_cons (e_var (i := 8) rfl) a_nil) ⟨us, rfl, hu, by omega, vPt_eq us⟩⟩
      · obtain ⟨us, rfl, hu⟩ : ∃ us, d = tI (ptC us) ∧ Cs us := by
          rcases List.mem_cons.mp hd with rfl | hd
          · exact ⟨cs, rfl, hc⟩
          · rw [List.mem_singleton] at hd
            exact ⟨es, hd, he⟩
        exact ⟨_, rfl, fun s H C cl fp => e_call C3 (hr.mono (by decide)) (a_cons (e_var (i := 8) rfl) a_nil) ⟨us, rfl, hu, vCoo_eq hu⟩⟩
      refine q_one (qs_if (PB := fun b => b = false) (m := r) ?_ (fun z => nomatch z) fun _ => q_nil ⟨by omega, _, _, _, _, _, _, _, rfl⟩)
      refine mt_or (m := r + 5) (mt_not (mt_val (m_call (i := 2) (ds := [.int (D : Int), tI (ptC cs), tI (ptC es)]) CW hgd (hr.mono (by decide)) rfl (a_cons (e_var (i := 4) rfl) (a_cons (e_ixL (e_var (i := 6) rfl) e_int (ati_of (j := 0) rfl rfl)) (a_cons (e_ixL (e_var (i := 6) rfl) e_int (ati_of (j := 1) rfl rfl)) a_nil))) ⟨D, cs, es, rfl, hc, he, by omega, true, rfl, rfl⟩ (Nat.le_refl _))))
        (mt_or1 (mt_not (mt_val (m_call (i := 2) (ds := [.int (D : Int)]) CS hgd (hr.mono (by decide)) rfl (a_cons (e_var (i := 4) rfl) a_nil) ⟨D, rfl, hD1, hD, true, rfl, rfl⟩ (Nat.le_refl _)))))
    · obtain ⟨_, z1, z2, z3, z4, z5, z6, z7, rfl⟩ := hJ
      exact ⟨_, _, _, _, _, _, _, _, _, rfl⟩
  · obtain ⟨y1, y2, y3, y4, y5, y6, y7, y8, y9, rfl⟩ := hJ
    exact r_one (rs_ret e_bl rfl)
end
end K2
/-! All together. -/
namespace K2
open PySem PySem.Spec PyProof.Rows L2 Zj
structure Tops (K : PySem.W.Frag) (CU CF c1 c2 : Addr) : Prop where
  cd : Df K "common_divisor" st_common_divisor
  cm : Df K "common_multiple" st_common_multiple
  short : Df K "shortened" st_shortened
  low : Df K "lowest" st_lowest
  ptof : Df K "point_of" st_point_of
  coo : Df K "coordinates_of" st_coordinates_of
  dirof : Df K "direction_of" st_direction_of
  steps : Df K "steps_between" st_steps_between
  moved : Df K "moved_by" st_moved_by
  dirto : Df K "direction_to" st_direction_to
  lbegun : Df K "_law_begun" st__law_begun
  ldraw : Df K "_law_draw" st__law_draw
  llike : Df K "_law_like" st__law_like
  lcommon : Df K "_law_common" st__law_common
  llow : Df K "_law_lowered" st__law_lowered
  lfrac : Df K "_law_fraction" st__law_fraction
  lpoint : Df K "_law_point" st__law_point
  lalong : Df K "_law_along" st__law_along
  lpair : Df K "_law_pair" st__law_pair
  lheard : Df K "_law_heard" st__law_heard
  lduept : Df K "_law_due_point" st__law_due_point
  lhand : Df K "_law_hand_right" st__law_hand_right
  law : Df K "law" st_law
  ways : DfC K "_law_ways_right" st__law_ways_right c1
  dirs : DfC K "_law_directions_right" st__law_directions_right c2
  unlike : Cd0 K "Unlike" CU
  flat : Cd0 K "Flat" CF
  suu : PySem.W.subIn K (.ref CU) (.ref CU) = some true
  sfu : PySem.W.subIn K (.ref CF) (.ref CU) = some false
  sff : PySem.W.subIn K (.ref CF) (.ref CF) = some true
  zisi : PySem.W.nsIn K mainGlobals "isinstance" = some none
  zint : PySem.W.nsIn K mainGlobals "int" = some none
  zbool : PySem.W.nsIn K mainGlobals "bool" = some none
  ztuple : PySem.W.nsIn K mainGlobals "tuple" = some none
  zlen : PySem.W.nsIn K mainGlobals "len" = some none
  zenum : PySem.W.nsIn K mainGlobals "enumerate" = some none
  zsum : PySem.W.nsIn K mainGlobals "sum" = some none
  zlist : PySem.W.nsIn K mainGlobals "list" = some none
  zzip : PySem.W.nsIn K mainGlobals "zip" = some none
  zrange : PySem.W.nsIn K mainGlobals "range" = some none
  zabs : PySem.W.nsIn K mainGlobals "abs" = some none
  zrepr : PySem.W.nsIn K mainGlobals "repr" = some none
  zmax : PySem.W.nsIn K mainGlobals "max" = some none
  zmin : PySem.W.nsIn K mainGlobals "min" = some none
  zgcd : PySem.W.nsIn K mainGlobals "gcd" = some (some (.builtin "math.gcd"))
  zlcm : PySem.W.nsIn K mainGlobals "lcm" = some (some (.builtin "math.lcm"))
theorem all_ok {P : Program} {w : World} {K : PySem.W.Frag} {h base : Heap} {mg : Str → Option Value} {f CU CF c1 c2 P1 P2 : Addr} {fd : FuncData} [Nm] (X : K.In h) (G : h.Ns mainGlobals mg) (t : Tops K CU CF c1 c2) (F : Fun K "law" "law" st_law f fd)
    (tb1 : LamX.TabB base mg c1 P1) (tb2 : LamX.TabB base mg c2 P2) (i1 : P1 ∈ Nm.tabs) (i2 : P2 ∈ Nm.tabs) (n1 : Nm.nm P1 = lq "_law_ways_right") (n2 : Nm.nm P2 = lq "_law_directions_right") : FnG P w K mg base CX0 8 f fd ["script"] (spR K R_law) := by
  have no : ∀ {x : Str}, PySem.W.nsIn K mainGlobals x = some none → mg x = none := fun {x} e => PySem.W.mg_none_of X G e
  have T : Tx mg := ⟨no t.zisi, no t.zint, no t.zbool, no t.ztuple, no t.zlen, no t.zenum, no t.zsum, no t.zlist, no t.zzip, no t.zrange, no t.zabs, no t.zrepr, no t.zmax, no t.zmin, PySem.W.mg_of X G t.zgcd⟩
  have hlcm : mg "lcm" = some (.builtin "math.lcm") := PySem.W.mg_of X G t.zlcm
  have c_cd : Cal P w K mg base 1 "common_divisor" ["numbers"] (spR K R_cd) := cal_mk X G t.cd (tk1 fun _ _ _ _ _ _ _ => rfl) fun f fd F => ok_cd F T
  have c_cm : Cal P w K mg base 1 "common_multiple" ["numbers"] (spR K R_cm) := cal_mk X G t.cm (tk1 fun _ _ _ _ _ _ _ => rfl) fun f fd F => ok_cm F T hlcm
  have c_short : Cal P w K mg base 2 "shortened" ["numbers"] (spR K R_short) := cal_mk X G t.short (tk1 fun _ _ _ _ _ _ _ => rfl) fun f fd F => ok_short F T c_cd
  have c_low : Cal P w K mg base 1 "lowest" ["top", "bottom"] (spR K R_lowest) := cal_mk X G t.low (tk2 fun _ _ _ _ _ _ _ _ => rfl) fun f fd F => ok_lowest F T
  have c_ptof : Cal P w K mg base 2 "point_of" ["coordinates"] (spR K R_ptof) := cal_mk X G t.ptof (tk1 fun _ _ _ _ _ _ _ => rfl) fun f fd F => ok_ptof F T c_cm
  have k_ptof : CalK P w K mg base 2 "point_of" st_point_of ["coordinates"] (spR K R_ptof) := calK_mk X G t.ptof fun f fd F => ok_ptof F T c_cm
  have c_coo : Cal P w K mg base 2 "coordinates_of" ["point"] (spR K R_coo) := cal_mk X G t.coo (tk1 fun _ _ _ _ _ _ _ => rfl) fun f fd F => ok_coo F T c_low
  have k_coo : CalK P w K mg base 2 "coordinates_of" st_coordinates_of ["point"] (spR K R_coo) := calK_mk X G t.coo fun f fd F => ok_coo F T c_low
  have c_steps : Cal P w K mg base 1 "steps_between" ["point", "other"] (spR K R_steps) := cal_mk X G t.steps (tk2 fun _ _ _ _ _ _ _ _ => rfl) fun f fd F => ok_steps F T
  have c_moved : Cal P w K mg base 3 "moved_by" ["point", "direction", "amount"] (spR K R_moved) := cal_mk X G t.moved (tk3 fun _ _ _ _ _ _ _ _ _ => rfl) fun f fd F => ok_moved F T c_short
  have k_moved : CalK P w K mg base 3 "moved_by" st_moved_by ["point", "direction", "amount"] (spR K R_moved) := calK_mk X G t.moved fun f fd F => ok_moved F T c_short
  have p_unlike : ClsP K mg "Unlike" := clsP_mk X G t.unlike
  have p_flat : ClsP K mg "Flat" := clsP_mk X G t.flat
  have x_dirof : CalX P w K mg base 3 "direction_of" ["numbers"] (spX K mg R_dirof) := calX_mk X G t.dirof (tk1 fun _ _ _ _ _ _ _ => rfl) fun f fd F => ok_dirof F p_flat c_cd c_short
  have kx_dirof : CalXK P w K mg base 3 "direction_of" st_direction_of ["numbers"] (spX K mg R_dirof) := calXK_mk X G t.dirof fun f fd F => ok_dirof F p_flat c_cd c_short
  have x_dirto : CalX P w K mg base 4 "direction_to" ["point", "other"] (spX K mg R_dirto) := calX_mk X G t.dirto (tk2 fun _ _ _ _ _ _ _ _ => rfl) fun f fd F => ok_dirto F p_unlike c_steps x_dirof
  have kx_dirto : CalXK P w K mg base 4 "direction_to" st_direction_to ["point", "other"] (spX K mg R_dirto) := calXK_mk X G t.dirto fun f fd F => ok_dirto F p_unlike c_steps x_dirof
  have l_begun : CalG P w K mg base 1 "_law_begun" ["script", "k"] (spB K) := calG_mk X G t.lbegun (tk2 fun _ _ _ _ _ _ _ _ => rfl) fun f fd F => ok_begun F T
  have l_draw : CalG P w K mg base 1 "_law_draw" ["m", "bound"] (spM K 1 R_draw) := calG_mk X G t.ldraw (tk2 fun _ _ _ _ _ _ _ _ => rfl) fun f fd F => ok_draw F T
  have l_like : CalG P w K mg base 1 "_law_like" ["told", "due"] (spR K R_like) := calG_mk X G t.llike (tk2 fun _ _ _ _ _ _ _ _ => rfl) fun f fd F => ok_like F T
  have l_common : Cal P w K mg base 1 "_law_common" ["numbers_so"] (spR K R_cd) := cal_mk X G t.lcommon (tk1 fun _ _ _ _ _ _ _ => rfl) fun f fd F => ok_common F T
  have l_low : Cal P w K mg base 2 "_law_lowered" ["numbers_so"] (spR K R_short) := cal_mk X G t.llow (tk1 fun _ _ _ _ _ _ _ => rfl) fun f fd F => ok_lowered F T l_common
  have l_frac : Cal P w K mg base 3 "_law_fraction" ["top", "bottom"] (spR K R_fraction) := cal_mk X G t.lfrac (tk2 fun _ _ _ _ _ _ _ _ => rfl) fun f fd F => ok_fraction F l_low
  have l_point : Cal P w K mg base 3 "_law_point" ["numbers_so", "bottom"] (spR K R_point) := cal_mk X G t.lpoint (tk2 fun _ _ _ _ _ _ _ _ => rfl) fun f fd F => ok_point F l_low
  have l_along : Cal P w K mg base 4 "_law_along" ["point_so", "way", "top", "bottom"] (spR K R_along) := cal_mk X G t.lalong (tk4 fun _ _ _ _ _ _ _ _ _ _ => rfl) fun f fd F => ok_along F T l_point
  have l_pair : CalG P w K mg base 4 "_law_pair" ["m"] (spM K 4 R_pair) := calG_mk X G t.lpair (tk1 fun _ _ _ _ _ _ _ => rfl) fun f fd F => ok_pair F T l_draw l_frac
  have l_duept : Cal P w K mg base 4 "_law_due_point" ["coordinates_so"] (spR K R_duept) := cal_mk X G t.lduept (tk1 fun _ _ _ _ _ _ _ => rfl) fun f fd F => ok_duept F T l_point
  have hr : Hr K mg := by
    obtain ⟨g, fdg, a, Fg⟩ := t.lheard.ex
    exact ⟨⟨g, fdg, Fg, PySem.W.mg_of X G a, Fg.binds (tk1 fun _ _ _ _ _ _ _ => rfl)⟩, ⟨CU, PySem.W.mg_of X G t.unlike.a⟩, ⟨CF, PySem.W.mg_of X G t.flat.a⟩, exm0_mk X G t.unlike.a t.unlike t.suu, exm0_mk X G t.flat.a t.unlike t.sfu, exm0_mk X G t.flat.a t.flat t.sff⟩
  have l_ways : CalG P w K mg base 7 "_law_ways_right" ["m", "dimension", "point_so", "other_so"] (spM K 4 R_ways) := calGC_mk X G t.ways (tk4 fun _ _ _ _ _ _ _ _ _ _ => rfl) fun f fd F e => ok_ways F T ⟨c1, P1, e, tb1, i1, n1⟩ hr l_like l_low l_frac l_along l_pair c_moved x_dirto
  have l_dirs : CalG P w K mg base 6 "_law_directions_right" ["m", "dimension"] (spM K 5 R_dirs) := calGC_mk X G t.dirs (tk2 fun _ _ _ _ _ _ _ _ => rfl) fun f fd F e => ok_dirs F T ⟨c2, P2, e, tb2, i2, n2⟩ hr l_like l_low l_draw x_dirof
  have l_hand : CalG P w K mg base 5 "_law_hand_right" [] (spR K R_hand) := calG_mk X G t.lhand (tk0 fun _ _ _ _ _ _ => rfl) fun f fd F => ok_hand F T l_like c_ptof c_coo x_dirof k_ptof k_coo kx_dirof kx_dirto k_moved
  exact ok_law F T l_hand l_begun l_draw l_like l_pair l_duept c_ptof c_coo l_ways l_dirs
def pOf (vs : Array Value) : Addr := match (vs[11]? : Option Value) with
  | some (Value.ref Q) => Q
  | _ => 0
theorem fin {P : Program} {w : World} {K : PySem.W.Frag} {h : Heap} {mg : Str → Option Value} {fa CU CF c1 c2 P1 P2 : Addr} (X : K.In h) (G : h.Ns mainGlobals mg) (hfa : mg "law" = some (.ref fa)) (t : Tops K CU CF c1 c2) (ne : P1 ≠ P2)
    (e1 : h.get? P1 = some { cls := .none, data := .fields #[] }) (e2 : h.get? P2 = some { cls := .none, data := .fields #[] }) (z1 : PySem.W.codeHdIn K c1 P1 = true) (z2 : PySem.W.codeHdIn K c2 P2 = true) (n1 : K.lookup P1 = none) (n2 : K.lookup P2 = none) :
    ∃ (fd : FuncData) (cs : List (Addr × Addr)) (sp : Sp), LawG P w K 8 63 "script" mg fa h fd cs sp := by
  obtain ⟨f, fd, a, F⟩ := t.law.ex
  have e := hfa.symm.trans (PySem.W.mg_of X G a)
  cases e
  let I : Nm := ⟨fun Q => if Q = P1 then lq "_law_ways_right" else lq "_law_directions_right", [P1, P2]⟩
  have two : ∀ {R : Addr × Addr → Prop}, R (c1, P1) → R (c2, P2) → ∀ p ∈ [(c1, P1), (c2, P2)], R p := fun {R} h1 h2 p hp => by
    simp only [List.mem_cons, List.not_mem_nil, or_false] at hp
    rcases hp with rfl | rfl
    · exact h1
    · exact h2
  refine ⟨fd, [(c1, P1), (c2, P2)], spR K R_law, ⟨two e1 e2, two n1 n2, two (PySem.W.codeHd_of_K X z1) (PySem.W.codeHd_of_K X z2), fun s u => ?_, fun H q ns hl hb hH hS => ?_, fun base _ _ htb => ?_⟩⟩
  · obtain ⟨oc, od, kV, doc, pm, an, cdv, ct, osl, rfl, _⟩ := F.ex
    exact .of_eq rfl
  · refine ⟨fun _ => False, [lI ns], .bool true, .nothing fun Q hQ => ?_, ?_, ⟨ns, rfl, hl, fun z hz => ?_, rfl⟩, fun v H' _ p => dp_bool p⟩
    · have hQ : Q ∈ [P1, P2] := hQ
      simp only [List.mem_cons, List.not_mem_nil, or_false] at hQ
      rcases hQ with rfl | rfl
      · exact tab_empty (hH _ List.mem_cons_self)
      · exact tab_empty (hH _ (List.mem_cons_of_mem _ List.mem_cons_self))
    · rw [off_nothing]
      exact .cons (.lst hS (dps_ints ns)) .nil
    · exact Nat.lt_of_lt_of_le (natAbs_lt_pow_bits z) (Nat.pow_le_pow_right (by decide) (Nat.le_trans (hb z hz) (by decide)))
  · refine all_ok X G t F (htb _ List.mem_cons_self) (htb _ (List.mem_cons_of_mem _ List.mem_cons_self)) List.mem_cons_self (List.mem_cons_of_mem _ List.mem_cons_self) (if_pos rfl) (if_neg (Ne.symm ne))
theorem fin2 {P : Program} {w : World} {K : PySem.W.Frag} {h : Heap} {mg : Str → Option Value} {fa CU CF c1 c2 : Addr} {oc1 oc2 : Value} {od1 od2 : Option Addr} {v1 v2 : Array Value} {sl1 sl2 : Array (Option Value)} (X : K.In h) (G : h.Ns mainGlobals mg) (hfa : mg "law" = some (.ref fa)) (t : Tops K CU CF c1 c2)
    (l1 : K.lookup c1 = some ⟨oc1, od1, .fields v1, sl1⟩) (l2 : K.lookup c2 = some ⟨oc2, od2, .fields v2, sl2⟩) (ne : pOf v1 ≠ pOf v2)
    (e1 : h.get? (pOf v1) = some { cls := .none, data := .fields #[] }) (e2 : h.get? (pOf v2) = some { cls := .none, data := .fields #[] }) (z1 : PySem.W.codeHdIn K c1 (pOf v1) = true) (z2 : PySem.W.codeHdIn K c2 (pOf v2) = true) (n1 : K.lookup (pOf v1) = none) (n2 : K.lookup (pOf v2) = none) :
    ∃ (fd : FuncData) (cs : List (Addr × Addr)) (sp : Sp), LawG P w K 8 63 "script" mg fa h fd cs sp := fin X G hfa t ne e1 e2 z1 z2 n1 n2
end K2
open PySem PySem.W PyProof.Rows
set_option maxRecDepth 100000 in
set_option maxHeartbeats 0 in
theorem PySem.Challenge.cw_onesolid_k02_whole_points_moved_holds : PySem.Challenge.rw_onesolid_k02_whole_points_moved.Holds := by
  w_on; o_law; k_head; (case hw => w_witness2)
  k_fill
  refine Zj.walk_GT (l := PySem.Challenge.rw_onesolid_k02_whole_points_moved) (n := 63) (k := 8) (x := "script") rfl (by decide) rfl ⟨rfl, by decide, by decide⟩ (fun w h Y => PySem.W.km_in_of Y) ?F
  case F =>
    intro w mg fa h Y KX G hmg
    have hT8 := PySem.W.km_tabs_of Y
    letI : Zj.Nm := ⟨fun _ => PySem.Str.ofString "", []⟩
    refine' K2.fin2 KX G hmg ?t ?l1 ?l2 ?ne ?e1 ?e2 ?z1 ?z2 ?n1 ?n2
    case t =>
      refine' K2.Tops.mk ?cd ?cm ?short ?low ?ptof ?coo ?dirof ?steps ?moved ?dirto ?lbegun ?ldraw ?llike ?lcommon ?llow ?lfrac ?lpoint ?lalong ?lpair ?lheard ?lduept ?lhand ?law ?ways ?dirs ?unlike ?flat ?suu ?sfu ?sff ?zisi ?zint ?zbool ?ztuple ?zlen ?zenum ?zsum ?zlist ?zzip ?zrange ?zabs ?zrepr ?zmax ?zmin ?zgcd ?zlcm
      (case cd => (refine' Zj.df_mk ?a ?l ?c ?k; (case a => k_is); (case l => k_is); (case c => k_is); (case k => k_is)))
      (case cm => (refine' Zj.df_mk ?a ?l ?c ?k; (case a => k_is); (case l => k_is); (case c => k_is); (case k => k_is)))
      (case short => (refine' Zj.df_mk ?a ?l ?c ?k; (case a => k_is); (case l => k_is); (case c => k_is); (case k => k_is)))
      (case low => (refine' Zj.df_mk ?a ?l ?c ?k; (case a => k_is); (case l => k_is); (case c => k_is); (case k => k_is)))
      (case ptof => (refine' Zj.df_mk ?a ?l ?c ?k; (case a => k_is); (case l => k_is); (case c => k_is); (case k => k_is)))
      (case coo => (refine' Zj.df_mk ?a ?l ?c ?k; (case a => k_is); (case l => k_is); (case c => k_is); (case k => k_is)))
      (case dirof => (refine' Zj.df_mk ?a ?l ?c ?k; (case a => k_is); (case l => k_is); (case c => k_is); (case k => k_is)))
      (case steps => (refine' Zj.df_mk ?a ?l ?c ?k; (case a => k_is); (case l => k_is); (case c => k_is); (case k => k_is)))
      (case moved => (refine' Zj.df_mk ?a ?l ?c ?k; (case a => k_is); (case l => k_is); (case c => k_is); (case k => k_is)))
      (case dirto => (refine' Zj.df_mk ?a ?l ?c ?k; (case a => k_is); (case l => k_is); (case c => k_is); (case k => k_is)))
      (case lbegun => (refine' Zj.df_mk ?a ?l ?c ?k; (case a => k_is); (case l => k_is); (case c => k_is); (case k => k_is)))
      (case ldraw => (refine' Zj.df_mk ?a ?l ?c ?k; (case a => k_is); (case l => k_is); (case c => k_is); (case k => k_is)))
      (case llike => (refine' Zj.df_mk ?a ?l ?c ?k; (case a => k_is); (case l => k_is); (case c => k_is); (case k => k_is)))
      (case lcommon => (refine' Zj.df_mk ?a ?l ?c ?k; (case a => k_is); (case l => k_is); (case c => k_is); (case k => k_is)))
      (case llow => (refine' Zj.df_mk ?a ?l ?c ?k; (case a => k_is); (case l => k_is); (case c => k_is); (case k => k_is)))
      (case lfrac => (refine' Zj.df_mk ?a ?l ?c ?k; (case a => k_is); (case l => k_is); (case c => k_is); (case k => k_is)))
      (case lpoint => (refine' Zj.df_mk ?a ?l ?c ?k; (case a => k_is); (case l => k_is); (case c => k_is); (case k => k_is)))
      (case lalong => (refine' Zj.df_mk ?a ?l ?c ?k; (case a => k_is); (case l => k_is); (case c => k_is); (case k => k_is)))
      (case lpair => (refine' Zj.df_mk ?a ?l ?c ?k; (case a => k_is); (case l => k_is); (case c => k_is); (case k => k_is)))
      (case lheard => (refine' Zj.df_mk ?a ?l ?c ?k; (case a => k_is); (case l => k_is); (case c => k_is); (case k => k_is)))
      (case lduept => (refine' Zj.df_mk ?a ?l ?c ?k; (case a => k_is); (case l => k_is); (case c => k_is); (case k => k_is)))
      (case lhand => (refine' Zj.df_mk ?a ?l ?c ?k; (case a => k_is); (case l => k_is); (case c => k_is); (case k => k_is)))
      (case law => (refine' Zj.df_mk ?a ?l ?c ?k; (case a => k_is); (case l => k_is); (case c => k_is); (case k => k_is)))
      (case ways => (refine' Zj.dfC_mk ?a ?l ?c ?k; (case a => k_is); (case l => k_is); (case c => k_is); (case k => k_is)))
      (case dirs => (refine' Zj.dfC_mk ?a ?l ?c ?k; (case a => k_is); (case l => k_is); (case c => k_is); (case k => k_is)))
      (case unlike => (refine' Zj.Cd0.mk ?a ?e ?k ?s ?t ?hd; (case a => k_is); (case e => kernel_rfl); (case k => k_is); (case s => k_is); (case t => k_is); (case hd => k_is)))
      (case flat => (refine' Zj.Cd0.mk ?a ?e ?k ?s ?t ?hd; (case a => k_is); (case e => kernel_rfl); (case k => k_is); (case s => k_is); (case t => k_is); (case hd => k_is)))
      (case suu => k_is)
      (case sfu => k_is)
      (case sff => k_is)
      (case zisi => k_is)
      (case zint => k_is)
      (case zbool => k_is)
      (case ztuple => k_is)
      (case zlen => k_is)
      (case zenum => k_is)
      (case zsum => k_is)
      (case zlist => k_is)
      (case zzip => k_is)
      (case zrange => k_is)
      (case zabs => k_is)
      (case zrepr => k_is)
      (case zmax => k_is)
      (case zmin => k_is)
      (case zgcd => k_is)
      (case zlcm => k_is)
    (case l1 => k_is)
    (case l2 => k_is)
    (case z1 => kernel_rfl)
    (case z2 => kernel_rfl)
    (case n1 => kernel_rfl)
    (case n2 => kernel_rfl)
    (case ne => decide +kernel)
    (case e1 => exact hT8 _ (by decide +kernel))
    (case e2 => exact hT8 _ (by decide +kernel))
#print axioms PySem.Challenge.cw_onesolid_k02_whole_points_moved_holds
