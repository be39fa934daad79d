import PyProof.Rows.All
import Wide.All
import OpenK.AllK
import Wide.FinOn
import PyProof.EqAt
import PyProof.EqKinds
import PyProof.TupleCall
import HandS.Base
import HandS.Call
import HandS.List
import HandS.Comp
import HandS.Ends
import HandS.Lambda
import HandS.Words
import HandS.Dict
import HandS.Iter
import HandS.Walk
import HandS.Gcd
import HandS.EndBits
import HandS.Zip
import HandS.Wide
import PyProof.ReprRoads
import PyProof.ReprLen
import KE.GoesMore
import HandS.IsInst
import KE.KDflt
import HandS.TryMany
import HandS.ExcInit
import HandS.ExcField
import HandS.EndTab
import HandS.ExcOwn
import HandS.WordsExc
import PyProof.Rows.IntBool
import HandS.TupAny
import HandS.ExcIs
import KE.KNestM
import KE.KSortKey
import HandS.SortKw
import KE.KMathGC
import HandS.TupMul
import HandS.Style
import KE.KRevSl
import PyProof.ExcBaseAll.ValueError
import KE.KExcIs
import HandS.ExcValue
import PySem.Challenge.RW_onesolid_k04_whole_flats
set_option Elab.async false
set_option linter.all false
set_option maxRecDepth 100000
set_option maxHeartbeats 4000000
/-! Own words over the hand layer: what a piece of program text comes to, said of data. -/
namespace Zj
open PySem PySem.Spec PyProof.Rows L2
/-- the tables of code objects that the law's lambdas fill; the name that each one's code objects bear -/
class Nm where
  nm : Addr → Str
  tabs : List Addr
section
variable {X : Cx} {e : Expr} {es : List Expr} {st : Stmt} {sts : List Stmt} {σ : L2.St} {H : Hp}
/-- the weakest thing that must hold ahead -/
def JE (X : Cx) (e : Expr) : TE := fun σ H Q => ∀ pins s, Inv X pins σ H s → wpAny (model X.prog X.w) X.A (eval e X.env) (EP X pins σ Q) X.xe s
def JT (X : Cx) (e : Expr) : TT := fun σ H Q => ∀ pins s, Inv X pins σ H s → wpAny (model X.prog X.w) X.A (isTrue e X.env (eval e X.env)) (TP X pins σ Q) X.xe s
def JA (X : Cx) (es : List Expr) : TA := fun σ H Q => ∀ pos pins s, Inv X pins σ H s → wpAny (model X.prog X.w) X.A (spliced (backTo pos (starEach es X.env))) (AP X pins σ Q) X.xe s
def JS (X : Cx) (st : Stmt) : TS := fun D σ H => ∀ pins s, Inv X pins σ H s → wpAny (model X.prog X.w) X.A (exec st X.env) (SP X pins D) X.xe s
def JSs (X : Cx) (sts : List Stmt) : TS := fun D σ H => ∀ pins s, Inv X pins σ H s → wpAny (model X.prog X.w) X.A (execs sts X.env) (SP X pins D) X.xe s
theorem je : PE X e (JE X e) := ⟨fun pins s _ _ _ I h => h pins s I⟩
theorem jt : PT X e (JT X e) := ⟨fun pins s _ _ _ I h => h pins s I⟩
theorem ja : PA X es (JA X es) := ⟨fun pos pins s _ _ _ I h => h pos pins s I⟩
theorem js : PS X st (JS X st) := ⟨fun pins s _ _ _ I h => h pins s I⟩
theorem jss : PSs X sts (JSs X sts) := ⟨fun pins s _ _ _ I h => h pins s I⟩
theorem toE {t : TE} {Q : VK} (h : PE X e t) (q : t σ H Q) : JE X e σ H Q := fun pins s I => h.run pins s σ H Q I q
theorem toT {t : TT} {Q : Bool → Hp → Prop} (h : PT X e t) (q : t σ H Q) : JT X e σ H Q := fun pins s I => h.run pins s σ H Q I q
theorem toA {t : TA} {Q : List V → Hp → Prop} (h : PA X es t) (q : t σ H Q) : JA X es σ H Q := fun pos pins s I => h.run pos pins s σ H Q I q
theorem toS {t : TS} {D : Ends} (h : PS X st t) (q : t D σ H) : JS X st D σ H := fun pins s I => h.run pins s σ H D I q
theorem toSs {t : TS} {D : Ends} (h : PSs X sts t) (q : t D σ H) : JSs X sts D σ H := fun pins s I => h.run pins s σ H D I q
end

/-! ### arguments without a star -/
def notStar : Expr → Bool
  | .Starred .. => false
  | _ => true
theorem star_of {e : Expr} {es : List Expr} {env : Env} (h : notStar e = true) : starEach (e :: es) env = (false, eval e env) :: starEach es env := by
  cases e <;> first | rfl | cases h
theorem star_no {es : List Expr} {env : Env} {pos : Pos} (h : es.all notStar = true) : (backTo pos (starEach es env)).any (·.1) = false := by
  induction es with
  | nil => rfl
  | cons e es ih =>
    rw [List.all_cons, Bool.and_eq_true] at h
    rw [star_of h.1]
    show (false || (backTo pos (starEach es env)).any (·.1)) = false
    rw [ih h.2] <;> rfl
/-! ### data in the heap -/
section
variable [Nm] {K : PySem.W.Frag} {H H' : Hp}
/-- what is no table stays -/
def Sa (H H' : Hp) : Prop := ∀ b o, H b = some o → (∀ ps, o ≠ .tbl ps) → H' b = some o
/-- all stays, but that tables of code objects may grow -/
structure Sm (H H' : Hp) : Prop where
  ob : Sa H H'
  tb : ∀ P, LamX.TabS H P (Nm.nm P) → LamX.TabS H' P (Nm.nm P)
  dm : ∀ b, H b ≠ none → H' b ≠ none
theorem Sa.refl (H : Hp) : Sa H H := fun _ _ h _ => h
theorem Sa.trans {H1 : Hp} (x : Sa H H1) (y : Sa H1 H') : Sa H H' := fun b o h n => y b o (x b o h n) n
theorem Sm.of (s : ∀ b o, H b = some o → H' b = some o) : Sm H H' := ⟨fun b o h _ => s b o h, fun P t => t.ext s, fun b h => by
  cases q : H b with
  | none => exact fun _ => h q
  | some o => rw [s b o q]; exact fun z => by cases z⟩
theorem Sm.refl (H : Hp) : Sm H H := .of fun _ _ h => h
theorem Sm.trans {H1 : Hp} (x : Sm H H1) (y : Sm H1 H') : Sm H H' := ⟨x.ob.trans y.ob, fun P t => y.tb P (x.tb P t), fun b h => y.dm b (x.dm b h)⟩
mutual
theorem dp_map (f : ∀ b xs, SqL K H b xs → SqL K H' b xs) (g : ∀ b xs, SqT K H b xs → SqT K H' b xs) : ∀ (d : PyData) (v : V), Dp K H v d → Dp K H' v d
  | .none, _, h => by cases h; exact .non
  | .bool b, _, h => by cases h; exact .bl b
  | .int i, _, h => by cases h; exact .int i
  | .str x, _, h => by cases h; exact .str x
  | .list ds, _, h => by
    cases h with
    | lst h1 h2 => exact .lst (f _ _ h1) (dp_mapAll f g ds _ h2)
  | .tuple ds, _, h => by
    cases h with
    | tup h1 h2 => exact .tup (g _ _ h1) (dp_mapAll f g ds _ h2)
  | .dict _, _, h => by cases h
theorem dp_mapAll (f : ∀ b xs, SqL K H b xs → SqL K H' b xs) (g : ∀ b xs, SqT K H b xs → SqT K H' b xs) : ∀ (ds : List PyData) (vs : List V), DpAll K H vs ds → DpAll K H' vs ds
  | [], _, h => by cases h; exact .nil
  | d :: ds, _, h => by
    cases h with
    | cons h1 h2 => exact .cons (dp_map f g d _ h1) (dp_mapAll f g ds _ h2)
end
theorem same_l (s : Sa H H') (b : Addr) (xs : List V) (h : SqL K H b xs) : SqL K H' b xs := by
  rcases h with (h | ⟨o, h⟩) | h
  · exact .inl (.inl (s _ _ h (by intro ps z; cases z)))
  · exact .inl (.inr ⟨o, s _ _ h (by intro ps z; cases z)⟩)
  · exact .inr h
theorem same_t (s : Sa H H') (b : Addr) (xs : List V) (h : SqT K H b xs) : SqT K H' b xs := by
  rcases h with (h | ⟨o, h⟩) | h
  · exact .inl (.inl (s _ _ h (by intro ps z; cases z)))
  · exact .inl (.inr ⟨o, s _ _ h (by intro ps z; cases z)⟩)
  · exact .inr h
theorem dp_same {v : V} {d : PyData} (s : Sa H H') (h : Dp K H v d) : Dp K H' v d := dp_map (same_l s) (same_t s) d v h
theorem dps_same {vs : List V} {ds : List PyData} (s : Sa H H') (h : DpAll K H vs ds) : DpAll K H' vs ds := dp_mapAll (same_l s) (same_t s) ds vs h
/-- all but the dict at a stays -/
def Ka (a : Addr) (H H' : Hp) : Prop := (∀ b o, b ≠ a → H b = some o → (∀ ps, o ≠ .tbl ps) → H' b = some o) ∧ ((∃ kvs, H a = some (.dK kvs)) → ∃ kvs, H' a = some (.dK kvs))
structure Kp (a : Addr) (H H' : Hp) : Prop where
  ka : Ka a H H'
  tb : ∀ P, LamX.TabS H P (Nm.nm P) → LamX.TabS H' P (Nm.nm P)
  dm : ∀ b, H b ≠ none → H' b ≠ none
theorem Ka.of {a : Addr} (s : Sa H H') : Ka a H H' := ⟨fun b o _ h n => s b o h n, fun ⟨kvs, h⟩ => ⟨kvs, s _ _ h (by intro ps z; cases z)⟩⟩
theorem Kp.of {a : Addr} (s : Sm H H') : Kp a H H' := ⟨.of s.ob, s.tb, s.dm⟩
theorem Kp.refl {a : Addr} : Kp a H H := .of (Sm.refl H)
theorem Kp.trans {a : Addr} {H1 : Hp} (x : Kp a H H1) (y : Kp a H1 H') : Kp a H H' := ⟨⟨fun b o n h m => y.ka.1 b o n (x.ka.1 b o n h m) m, fun h => y.ka.2 (x.ka.2 h)⟩, fun P t => y.tb P (x.tb P t), fun b h => y.dm b (x.dm b h)⟩
/-- the dict at a is written -/
theorem Kp.put {a : Addr} {kvs kvs' : List (Key × V)} (h : H a = some (.dK kvs)) : Kp a H (upd H a (.dK kvs')) := ⟨⟨fun b o hb hh _ => by rw [upd_ne hb]; exact hh, fun _ => ⟨_, upd_same⟩⟩, fun P t => by
    obtain ⟨ps, h1, h2, h3⟩ := t
    refine ⟨ps, by rw [upd_ne (ne_of h1 h (by intro z; cases z))]; exact h1, h2, fun pos cv hc => ?_⟩
    obtain ⟨c, e1, e2⟩ := h3 pos cv hc
    exact ⟨c, e1, by rw [upd_ne (ne_of e2 h (by intro z; unfold LamX.CodeO at z; cases z))]; exact e2⟩, fun b hb => by
    by_cases e : b = a
    · rw [e, upd_same]; exact fun z => by cases z
    · rw [upd_ne e]; exact hb⟩
theorem kp_l {a : Addr} (s : Ka a H H') (ha : ∃ kvs, H a = some (.dK kvs)) (b : Addr) (xs : List V) (h : SqL K H b xs) : SqL K H' b xs := by
  obtain ⟨kvs, ha⟩ := ha
  rcases h with (h | ⟨o, h⟩) | h
  · exact .inl (.inl (s.1 _ _ (ne_of h ha (by intro z; cases z)) h (by intro ps z; cases z)))
  · exact .inl (.inr ⟨o, s.1 _ _ (ne_of h ha (by intro z; cases z)) h (by intro ps z; cases z)⟩)
  · exact .inr h
theorem kp_t {a : Addr} (s : Ka a H H') (ha : ∃ kvs, H a = some (.dK kvs)) (b : Addr) (xs : List V) (h : SqT K H b xs) : SqT K H' b xs := by
  obtain ⟨kvs, ha⟩ := ha
  rcases h with (h | ⟨o, h⟩) | h
  · exact .inl (.inl (s.1 _ _ (ne_of h ha (by intro z; cases z)) h (by intro ps z; cases z)))
  · exact .inl (.inr ⟨o, s.1 _ _ (ne_of h ha (by intro z; cases z)) h (by intro ps z; cases z)⟩)
  · exact .inr h
theorem dp_kp {a : Addr} {v : V} {d : PyData} (s : Ka a H H') (ha : ∃ kvs, H a = some (.dK kvs)) (h : Dp K H v d) : Dp K H' v d := dp_map (kp_l s ha) (kp_t s ha) d v h
theorem dps_kp {a : Addr} {vs : List V} {ds : List PyData} (s : Ka a H H') (ha : ∃ kvs, H a = some (.dK kvs)) (h : DpAll K H vs ds) : DpAll K H' vs ds := dp_mapAll (kp_l s ha) (kp_t s ha) ds vs h

theorem dp_int {v : V} {i : Int} (h : Dp K H v (.int i)) : v = .int i := by cases h; rfl
theorem dp_str {v : V} {x : Str} (h : Dp K H v (.str x)) : v = .str x := by cases h; rfl
theorem dp_bool {v : V} {b : Bool} (h : Dp K H v (.bool b)) : v = .bl b := by cases h; rfl
theorem dp_non {v : V} (h : Dp K H v .none) : v = .non := by cases h; rfl
theorem dp_tup {v : V} {ds : List PyData} (h : Dp K H v (.tuple ds)) : ∃ p xs, v = .ref p ∧ SqT K H p xs ∧ DpAll K H xs ds := by
  cases h with
  | tup h1 h2 => exact ⟨_, _, rfl, h1, h2⟩
theorem dp_lst {v : V} {ds : List PyData} (h : Dp K H v (.list ds)) : ∃ p xs, v = .ref p ∧ SqL K H p xs ∧ DpAll K H xs ds := by
  cases h with
  | lst h1 h2 => exact ⟨_, _, rfl, h1, h2⟩
theorem dps_len {vs : List V} {ds : List PyData} (h : DpAll K H vs ds) : vs.length = ds.length := by
  induction ds generalizing vs with
  | nil => cases h; rfl
  | cons d ds ih =>
    cases h with
    | cons h1 h2 => rw [List.length_cons, List.length_cons, ih h2]
theorem dps_get : ∀ {ds : List PyData} {vs : List V} {i : Nat} {d : PyData}, DpAll K H vs ds → ds[i]? = some d → ∃ v, vs[i]? = some v ∧ Dp K H v d
  | [], _, _, _, _, e => by simp at e
  | d :: ds, _, 0, d', h, e => by
    cases h with
    | cons h1 h2 =>
      have e' : d = d' := by simpa using e
      subst e'
      exact ⟨_, rfl, h1⟩
  | d :: ds, _, i + 1, _, h, e => by
    cases h with
    | cons h1 h2 =>
      obtain ⟨v, a, b⟩ := dps_get (i := i) h2 (by simpa using e)
      exact ⟨v, by simpa using a, b⟩
theorem dps_append {vs us : List V} {ds es : List PyData} (h : DpAll K H vs ds) (h' : DpAll K H us es) : DpAll K H (vs ++ us) (ds ++ es) := by
  induction ds generalizing vs with
  | nil => cases h; exact h'
  | cons d ds ih =>
    cases h with
    | cons h1 h2 => exact .cons h1 (ih h2)
theorem dps_snoc {vs : List V} {v : V} {ds : List PyData} {d : PyData} (h : DpAll K H vs ds) (h' : Dp K H v d) : DpAll K H (vs ++ [v]) (ds ++ [d]) := dps_append h (.cons h' .nil)
theorem dps_drop {vs : List V} {ds : List PyData} (n : Nat) (h : DpAll K H vs ds) : DpAll K H (vs.drop n) (ds.drop n) := by
  induction n generalizing vs ds with
  | zero => exact h
  | succ n ih =>
    cases ds with
    | nil => cases h; exact .nil
    | cons d ds =>
      cases h with
      | cons h1 h2 => exact ih h2
theorem dps_take {vs : List V} {ds : List PyData} (n : Nat) (h : DpAll K H vs ds) : DpAll K H (vs.take n) (ds.take n) := by
  induction n generalizing vs ds with
  | zero => exact .nil
  | succ n ih =>
    cases ds with
    | nil => cases h; exact .nil
    | cons d ds =>
      cases h with
      | cons h1 h2 => exact .cons h1 (ih h2)
theorem dps_ints (ns : List Int) : DpAll K H (ns.map V.int) (ns.map PyData.int) := by
  induction ns with
  | nil => exact .nil
  | cons n ns ih => exact .cons (.int n) ih
theorem vs_ints {vs : List V} {ns : List Int} (h : DpAll K H vs (ns.map PyData.int)) : vs = ns.map V.int := by
  induction ns generalizing vs with
  | nil => cases h; rfl
  | cons n ns ih =>
    cases h with
    | cons h1 h2 => rw [dp_int h1, ih h2] <;> rfl
theorem vs_bools {vs : List V} {ns : List Bool} (h : DpAll K H vs (ns.map PyData.bool)) : vs = ns.map V.bl := by
  induction ns generalizing vs with
  | nil => cases h; rfl
  | cons n ns ih =>
    cases h with
    | cons h1 h2 => rw [dp_bool h1, ih h2] <;> rfl
theorem dp_newT {p : Addr} {xs : List V} {ds : List PyData} (hp : H p = none) (h : DpAll K H xs ds) : Dp K (upd H p (.tup xs)) (.ref p) (.tuple ds) :=
  .tup (.of upd_same) (dps_same (fun b o e _ => by rw [upd_ne (ne_of_none e hp)]; exact e) h)
theorem dp_newL {p : Addr} {xs : List V} {ds : List PyData} (hp : H p = none) (h : DpAll K H xs ds) : Dp K (upd H p (.lst xs)) (.ref p) (.list ds) :=
  .lst (.of upd_same) (dps_same (fun b o e _ => by rw [upd_ne (ne_of_none e hp)]; exact e) h)
theorem same_new {p : Addr} {o : HO} (hp : H p = none) : Sm H (upd H p o) := .of fun b u e => by rw [upd_ne (ne_of_none e hp)]; exact e
end

/-! ### a part of the heap left out of sight (a list that a comprehension is filling) -/
open Classical in
noncomputable def off (T : Addr → Prop) (H : Hp) : Hp := fun b => if T b then none else H b
structure Din [Nm] (T : Addr → Prop) (H : Hp) : Prop where
  dn : ∀ b, T b → H b ≠ none
  tb : ∀ P ∈ Nm.tabs, LamX.TabS H P (Nm.nm P)
section
variable [Nm] {K : PySem.W.Frag} {H H' : Hp} {T : Addr → Prop}
theorem off_yes {b : Addr} (h : T b) : off T H b = none := by unfold off; rw [if_pos h]
theorem off_no {b : Addr} (h : ¬ T b) : off T H b = H b := by unfold off; rw [if_neg h]
theorem off_some {b : Addr} {o : HO} (h : off T H b = some o) : H b = some o ∧ ¬ T b := by
  by_cases hb : T b
  · rw [off_yes hb] at h
    cases h
  · rw [off_no hb] at h
    exact ⟨h, hb⟩
theorem off_sa (s : Sa H H') : Sa (off T H) (off T H') := fun b o h n => by
  obtain ⟨h1, h2⟩ := off_some h
  rw [off_no h2]
  exact s b o h1 n
theorem off_same (s : Sm H H') : Sa (off T H) (off T H') := off_sa s.ob
theorem off_in : Sa (off T H) H := fun b o h _ => (off_some h).1
theorem Din.same (d : Din T H) (s : Sm H H') : Din T H' := ⟨fun b hb => s.dm b (d.dn b hb), fun P hP => s.tb P (d.tb P hP)⟩
theorem off_free {p : Addr} (h : H p = none) : off T H p = none := by
  by_cases hp : T p
  · exact off_yes hp
  · rw [off_no hp]
    exact h
theorem off_new {p : Addr} {o : HO} (d : Din T H) (h : H p = none) : off T (upd H p o) = upd (off T H) p o := by
  funext b
  by_cases hb : b = p
  · subst hb
    rw [upd_same, off_no (fun z => d.dn b z h), upd_same]
  · rw [upd_ne hb]
    by_cases ht : T b
    · rw [off_yes ht, off_yes ht]
    · rw [off_no ht, off_no ht, upd_ne hb]
theorem dp_off {v : V} {d : PyData} (h : Dp K (off T H) v d) : Dp K H v d := dp_same off_in h
theorem dps_off {vs : List V} {ds : List PyData} (h : DpAll K (off T H) vs ds) : DpAll K H vs ds := dps_same off_in h
theorem dpo {v : V} {d : PyData} (s : Sm H H') (h : Dp K (off T H) v d) : Dp K (off T H') v d := dp_same (off_same s) h
theorem dpso {vs : List V} {ds : List PyData} (s : Sm H H') (h : DpAll K (off T H) vs ds) : DpAll K (off T H') vs ds := dps_same (off_same s) h
theorem dpo_newT {p : Addr} {xs : List V} {ds : List PyData} (t : Din T H) (hp : H p = none) (h : DpAll K (off T H) xs ds) : Dp K (off T (upd H p (.tup xs))) (.ref p) (.tuple ds) := by
  rw [off_new t hp]
  exact dp_newT (off_free hp) h
theorem dpo_newL {p : Addr} {xs : List V} {ds : List PyData} (t : Din T H) (hp : H p = none) (h : DpAll K (off T H) xs ds) : Dp K (off T (upd H p (.lst xs))) (.ref p) (.list ds) := by
  rw [off_new t hp]
  exact dp_newL (off_free hp) h
theorem dpo_tup {v : V} {ds : List PyData} (h : Dp K (off T H) v (.tuple ds)) : ∃ p xs, v = .ref p ∧ SqT K H p xs ∧ DpAll K (off T H) xs ds := by
  obtain ⟨p, xs, e, h1, h2⟩ := dp_tup h
  exact ⟨p, xs, e, same_t off_in _ _ h1, h2⟩
theorem dpo_lst {v : V} {ds : List PyData} (h : Dp K (off T H) v (.list ds)) : ∃ p xs, v = .ref p ∧ SqL K H p xs ∧ DpAll K (off T H) xs ds := by
  obtain ⟨p, xs, e, h1, h2⟩ := dp_lst h
  exact ⟨p, xs, e, same_l off_in _ _ h1, h2⟩
theorem off_nothing : off (fun _ => False) H = H := by
  funext b
  exact off_no (fun z => z)
theorem Din.nothing (h : ∀ P ∈ Nm.tabs, LamX.TabS H P (Nm.nm P)) : Din (fun _ => False) H := ⟨fun _ z => z.elim, h⟩
theorem Din.new {p : Addr} {o : HO} (d : Din T H) (h : H p = none) : Din (fun b => T b ∨ b = p) (upd H p o) := ⟨fun b hb => by
  rcases hb with hb | hb
  · rw [upd_ne (fun z => d.dn b hb (by rw [z]; exact h))]
    exact d.dn b hb
  · rw [hb, upd_same]
    simp, fun P hP => (same_new h).tb P (d.tb P hP)⟩
theorem off_more {p : Addr} {o : HO} (h : H p = none) : off (fun b => T b ∨ b = p) (upd H p o) = off T H := by
  funext b
  by_cases hb : b = p
  · subst hb
    rw [off_yes (.inr rfl), off_free h]
  · by_cases ht : T b
    · rw [off_yes (.inl ht), off_yes ht]
    · rw [off_no (fun z => z.elim ht hb), off_no ht, upd_ne hb]
theorem off_put {p : Addr} {o : HO} (h : T p) : off T (upd H p o) = off T H := by
  funext b
  by_cases ht : T b
  · rw [off_yes ht, off_yes ht]
  · rw [off_no ht, off_no ht, upd_ne (fun z => ht (by rw [z]; exact h))]
theorem off_less {p : Addr} : Sa (off (fun b => T b ∨ b = p) H) (off T H) := fun b o h _ => by
  obtain ⟨h1, h2⟩ := off_some h
  rw [off_no (fun z => h2 (.inl z))]
  exact h1
end

/-! ### slots that hold data, or the law's state -/
/-- what is written once: neither a table nor a dict -/
def Kd (o : HO) : Prop := (∀ ps, o ≠ .tbl ps) ∧ ∀ kvs, o ≠ .dK kvs
/-- what is known of a value that is no data -/
structure VR where
  rel : Hp → V → Prop
  per : ∀ {H H' : Hp} {v : V}, (∀ b o, H b = some o → Kd o → H' b = some o) → rel H v → rel H' v
theorem VR.same {R : VR} {H H' : Hp} {v : V} (s : Sa H H') (h : R.rel H v) : R.rel H' v := R.per (fun b o e k => s b o e k.1) h
theorem VR.kp {R : VR} {a : Addr} {H H' : Hp} {v : V} (s : Ka a H H') (ha : ∃ kvs, H a = some (.dK kvs)) (h : R.rel H v) : R.rel H' v := R.per (fun b o e k => by
  by_cases hb : b = a
  · obtain ⟨kvs, ha⟩ := ha
    rw [hb, ha] at e
    cases e
    exact (k.2 _ rfl).elim
  · exact s.1 b o hb e k.1) h
inductive DV where
  | dat (d : PyData)
  | hnd
  | adr (p : Addr)
  | val (R : VR)
abbrev Rho := List (Option DV)
def RelD (K : PySem.W.Frag) (a : Addr) (H : Hp) (v : V) : DV → Prop
  | .dat d => Dp K H v d
  | .hnd => v = .ref a
  | .adr p => v = .ref p
  | .val R => R.rel H v
structure SD [Nm] (K : PySem.W.Frag) (a : Addr) (T : Addr → Prop) (H : Hp) (σ : L2.St) (ρ : Rho) : Prop where
  len : σ.length = ρ.length
  dm : Din T H
  sl : ∀ (i : Nat) (x : DV), ρ[i]? = some (some x) → ∃ v, σ[i]? = some (some v) ∧ RelD K a (off T H) v x
section
variable [Nm] {K : PySem.W.Frag} {a : Addr} {T : Addr → Prop} {H H' : Hp} {σ : L2.St} {ρ : Rho}
theorem SD.same (h : SD K a T H σ ρ) (s : Sm H H') : SD K a T H' σ ρ := ⟨h.len, h.dm.same s, fun i x e => by
  obtain ⟨v, h1, h2⟩ := h.sl i x e
  refine ⟨v, h1, ?_⟩
  cases x with
  | dat d => exact dpo s h2
  | hnd => exact h2
  | adr _ => exact h2
  | val R => exact VR.same (R := R) (off_same s) h2⟩
theorem SD.kp (h : SD K a (fun _ => False) H σ ρ) (s : Kp a H H') (ha : ∃ kvs, H a = some (.dK kvs)) : SD K a (fun _ => False) H' σ ρ := ⟨h.len, .nothing fun P hP => s.tb P (h.dm.tb P hP), fun i x e => by
  obtain ⟨v, h1, h2⟩ := h.sl i x e
  refine ⟨v, h1, ?_⟩
  rw [off_nothing] at h2 ⊢
  cases x with
  | dat d => exact dp_kp s.ka ha h2
  | hnd => exact h2
  | adr _ => exact h2
  | val R => exact VR.kp (R := R) s.ka ha h2⟩
theorem SD.put {i : Nat} {v : V} {x : DV} (h : SD K a T H σ ρ) (hx : RelD K a (off T H) v x) : SD K a T H (σ.set i (some v)) (ρ.set i (some x)) := by
  refine ⟨by rw [List.length_set, List.length_set, h.len], h.dm, fun j y e => ?_⟩
  by_cases hj : i = j
  · subst hj
    by_cases hi : i < ρ.length
    · rw [List.getElem?_set_self hi] at e
      cases e
      exact ⟨v, by rw [List.getElem?_set_self (by rw [h.len]; exact hi)], hx⟩
    · rw [List.getElem?_eq_none (by simpa using hi)] at e
      cases e
  · rw [List.getElem?_set_ne hj] at e ⊢
    exact h.sl j y e
theorem SD.clear {i : Nat} (h : SD K a T H σ ρ) : SD K a T H (σ.set i none) (ρ.set i none) := by
  refine ⟨by rw [List.length_set, List.length_set, h.len], h.dm, fun j y e => ?_⟩
  by_cases hj : i = j
  · subst hj
    by_cases hi : i < ρ.length
    · rw [List.getElem?_set_self hi] at e
      cases e
    · rw [List.getElem?_eq_none (by simpa using hi)] at e
      cases e
  · rw [List.getElem?_set_ne hj] at e ⊢
    exact h.sl j y e
def wipeR (ρ : Rho) : List Nat → Rho
  | [] => ρ
  | v :: vs => (wipeR ρ vs).set v none
theorem SD.wipe (h : SD K a T H σ ρ) : ∀ vs : List Nat, SD K a T H (L2.wipe σ vs) (wipeR ρ vs)
  | [] => h
  | v :: vs => (SD.wipe h vs).clear
/-- one more thing out of sight -/
theorem SD.more {p : Addr} {o : HO} (h : SD K a T H σ ρ) (hp : H p = none) : SD K a (fun b => T b ∨ b = p) (upd H p o) σ ρ :=
  ⟨h.len, h.dm.new hp, fun i x e => by
    rw [off_more hp]
    exact h.sl i x e⟩
def dats (ds : List PyData) : Rho := ds.map fun d => some (.dat d)
theorem SD.start {N : List Str} {vs : List V} {ds : List PyData} (t : Din T H) (h : DpAll K (off T H) vs ds) : SD K a T H (start N vs) (dats ds ++ List.replicate (N.length - ds.length) none) := by
  have hl := dps_len h
  unfold L2.start dats
  refine ⟨by simp [hl], t, fun i x e => ?_⟩
  by_cases hi : i < ds.length
  · rw [List.getElem?_append_left (by simpa using hi)] at e
    rw [List.getElem?_map] at e
    obtain ⟨d, h1⟩ : ∃ d, ds[i]? = some d := ⟨ds[i], by simp [hi]⟩
    rw [h1] at e
    cases e
    obtain ⟨v, h3, h4⟩ := dps_get h h1
    exact ⟨v, by rw [List.getElem?_append_left (by simpa [hl] using hi), List.getElem?_map, h3]; rfl, h4⟩
  · rw [List.getElem?_append_right (by simpa using hi)] at e
    rw [List.getElem?_replicate] at e
    split at e <;> cases e
end
end Zj
/-! What an expression, a test, an argument list, a block comes to, said of data. -/
namespace Zj
open PySem PySem.Spec PyProof.Rows L2
variable [Nm]
section
variable {X : Cx} {a : Addr} {ρ : Rho}
def EvE (X : Cx) (a : Addr) (e : Expr) (ρ : Rho) (d : PyData) : Prop := ∀ T σ H, SD X.K a T H σ ρ → ∀ Q : VK, (∀ v H2, Sm H H2 → Dp X.K (off T H2) v d → Q v H2) → JE X e σ H Q
def EvT (X : Cx) (a : Addr) (e : Expr) (ρ : Rho) (b : Bool) : Prop := ∀ T σ H, SD X.K a T H σ ρ → ∀ Q : Bool → Hp → Prop, (∀ H2, Sm H H2 → Q b H2) → JT X e σ H Q
def EvA (X : Cx) (a : Addr) (es : List Expr) (ρ : Rho) (ds : List PyData) : Prop := ∀ T σ H, SD X.K a T H σ ρ → ∀ Q : List V → Hp → Prop, (∀ vs H2, Sm H H2 → DpAll X.K (off T H2) vs ds → Q vs H2) → JA X es σ H Q
def EvO (X : Cx) (a : Addr) (e : Option Expr) (ρ : Rho) (o : Option Int) : Prop := ∃ t, PO X e t ∧ ∀ T σ H, SD X.K a T H σ ρ → ∀ Q : Option Int → Hp → Prop, (∀ H2, Sm H H2 → Q o H2) → t σ H Q

theorem e_var {x : Str} {pos : Pos} {i : Nat} {d : PyData} (h : ρ[i]? = some (some (.dat d))) (hN : X.N[i]? = some x := by rfl)
    (hv : Vis X.env.scope x := by first | exact Or.inl rfl | exact Or.inr (Or.inl rfl) | exact Or.inr (Or.inr rfl)) (hd : (x == ("__debug__" : Str)) = false := by decide) (hcd : (x == ("__classdict__" : Str)) = false := by decide) :
    EvE X a (.Name x pos) ρ d := fun T σ H S Q q => by
  obtain ⟨v, h1, h2⟩ := S.sl i _ h
  exact toE (pe_var hN hv hd hcd) ⟨v, h1, q v H (Sm.refl H) h2⟩
theorem e_int {i : Int} {j : Nat} {pos : Pos} : EvE X a (.Constant (.int i) j pos) ρ (.int i) := fun T σ H S Q q => toE pe_int (q _ H (Sm.refl H) (.int i))
theorem e_bl {i : Bool} {j : Nat} {pos : Pos} : EvE X a (.Constant (.bool i) j pos) ρ (.bool i) := fun T σ H S Q q => toE pe_bl (q _ H (Sm.refl H) (.bl i))
theorem e_str {i : Str} {j : Nat} {pos : Pos} : EvE X a (.Constant (.str i) j pos) ρ (.str i) := fun T σ H S Q q => toE pe_str (q _ H (Sm.refl H) (.str i))
theorem e_non {j : Nat} {pos : Pos} : EvE X a (.Constant .none j pos) ρ .none := fun T σ H S Q q => toE pe_non (q _ H (Sm.refl H) .non)

variable {l r e c : Expr} {es : List Expr} {pos : Pos} {d d1 d2 : PyData} {i j : Int}
/-- what an operator does with data -/
def OpD (X : Cx) (f : Value → Value → Sem Value) (d1 d2 d : PyData) : Prop := ∃ r : R2, OpR X f r ∧ ∀ T v1 v2 H, Din T H → Dp X.K (off T H) v1 d1 → Dp X.K (off T H) v2 d2 → ∀ Q : VK, (∀ v H2, Sm H H2 → Dp X.K (off T H2) v d → Q v H2) → r v1 v2 H Q
theorem e_bin {op : Operator} (ho : OpD X (binaryOp op) d1 d2 d) (h1 : EvE X a l ρ d1) (h2 : EvE X a r ρ d2) : EvE X a (.BinOp l op r pos) ρ d := fun T σ H S Q q => by
  obtain ⟨rr, hr, hq⟩ := ho
  exact toE (pe_op hr je je) (h1 T σ H S _ fun v1 H1 s1 p1 => h2 T σ H1 (S.same s1) _ fun v2 H2 s2 p2 => hq T v1 v2 H2 (S.same (s1.trans s2)).dm (dpo s2 p1) p2 Q fun v H3 s3 p3 => q v H3 ((s1.trans s2).trans s3) p3)
theorem e_cmp {op : CmpOp} (ho : OpD X (compareOp op) d1 d2 d) (h1 : EvE X a l ρ d1) (h2 : EvE X a r ρ d2) (hm : behindInMarks op r = false) : EvE X a (.Compare l [op] [r] pos) ρ d := fun T σ H S Q q => by
  obtain ⟨rr, hr, hq⟩ := ho
  exact toE (pe_cmpR hr je je hm) (h1 T σ H S _ fun v1 H1 s1 p1 => h2 T σ H1 (S.same s1) _ fun v2 H2 s2 p2 => hq T v1 v2 H2 (S.same (s1.trans s2)).dm (dpo s2 p1) p2 Q fun v H3 s3 p3 => q v H3 ((s1.trans s2).trans s3) p3)
theorem t_cmp {op : CmpOp} {b : Bool} (ho : OpD X (compareOp op) d1 d2 (.bool b)) (h1 : EvE X a l ρ d1) (h2 : EvE X a r ρ d2) (hm : behindInMarks op r = false) : EvT X a (.Compare l [op] [r] pos) ρ b := fun T σ H S Q q => by
  obtain ⟨rr, hr, hq⟩ := ho
  exact toT (pt_cmpR hr je je hm) (h1 T σ H S _ fun v1 H1 s1 p1 => h2 T σ H1 (S.same s1) _ fun v2 H2 s2 p2 => hq T v1 v2 H2 (S.same (s1.trans s2)).dm (dpo s2 p1) p2 _ fun v H3 s3 p3 => ⟨b, dp_bool p3, q H3 ((s1.trans s2).trans s3)⟩)

theorem od_I {f : Value → Value → Sem Value} {g : Int → Int → V} {C : Int → Int → Prop} (ho : OpR X f (rI C g)) (hc : C i j) (hd : ∀ H, Dp X.K H (g i j) d) : OpD X f (.int i) (.int j) d :=
  ⟨_, ho, fun T v1 v2 H dm p1 p2 Q q => ⟨i, j, dp_int p1, dp_int p2, hc, q _ H (Sm.refl H) (hd _)⟩⟩
theorem od_I0 {f : Value → Value → Sem Value} {g : Int → Int → V} (ho : OpR X f (rI0 g)) (hd : ∀ H, Dp X.K H (g i j) d) : OpD X f (.int i) (.int j) d :=
  ⟨_, ho, fun T v1 v2 H dm p1 p2 Q q => ⟨i, j, dp_int p1, dp_int p2, q _ H (Sm.refl H) (hd _)⟩⟩
theorem op_mulX : OpR X (binaryOp .Mult) (rI IntMulOk fun i j => .int (i * j)) := opI fun _ _ _ _ _ _ _ hc q => mul_int q hc
theorem op_fdivX : OpR X (binaryOp .FloorDiv) (rI (fun _ j => j ≠ 0 ∧ j.natAbs.log2 < 9000) fun i j => .int (i.fdiv j)) := opI fun i j _ _ _ _ _ hc q =>
  floordiv_int hc.1 q (.inl (PyProof.noPylong_of_log2 hc.2))
/-- numbers of less than n binary figures -/
def Bits (n : Nat) (i : Int) : Prop := i.natAbs < 2 ^ n
theorem mul_ok {m n : Nat} (h1 : Bits m i) (h2 : Bits n j) (h : m + n ≤ 100000000) : IntMulOk i j := by
  have b : ∀ (x : Int) (k : Nat), Bits k x → Builtin.Int.intBits x ≤ k := fun x k hx => by
    unfold Builtin.Int.intBits
    split
    · omega
    · rename_i hx0
      have hx1 : x.natAbs ≠ 0 := by simpa using hx0
      have : x.natAbs.log2 < k := (Nat.log2_lt hx1).mpr hx
      omega
  have h1' := b i m h1
  have h2' := b j n h2
  have e : bitsLine = 134217728 := by decide
  unfold IntMulOk
  intro z
  rw [Bool.and_eq_true] at z
  have z2 := z.2
  unfold Builtin.Int.intTooBig at z2
  have z3 := of_decide_eq_true z2
  rw [e] at z3
  omega
theorem od_add : OpD X (binaryOp .Add) (.int i) (.int j) (.int (i + j)) := od_I0 op_add fun _ => .int _
theorem od_sub : OpD X (binaryOp .Sub) (.int i) (.int j) (.int (i - j)) := od_I0 op_sub fun _ => .int _
theorem od_mul (h : IntMulOk i j) : OpD X (binaryOp .Mult) (.int i) (.int j) (.int (i * j)) := od_I op_mulX h fun _ => .int _
theorem od_fdiv (h : j ≠ 0) (hb : j.natAbs.log2 < 9000) : OpD X (binaryOp .FloorDiv) (.int i) (.int j) (.int (i.fdiv j)) := od_I op_fdivX ⟨h, hb⟩ fun _ => .int _
theorem od_mod (h : 0 < j) : OpD X (binaryOp .Mod) (.int i) (.int j) (.int (i % j)) := od_I op_mod h fun _ => .int _
theorem od_pow (h : CPow i j) : OpD X (binaryOp .Pow) (.int i) (.int j) (.int (i ^ j.toNat)) := od_I op_pow h fun _ => .int _
theorem od_lt : OpD X (compareOp .Lt) (.int i) (.int j) (.bool (decide (i < j))) := od_I0 op_lt fun _ => .bl _
theorem od_le : OpD X (compareOp .LtE) (.int i) (.int j) (.bool (decide (i ≤ j))) := od_I0 op_le fun _ => .bl _
theorem od_gt : OpD X (compareOp .Gt) (.int i) (.int j) (.bool (decide (j < i))) := od_I0 op_gt fun _ => .bl _
theorem od_ge : OpD X (compareOp .GtE) (.int i) (.int j) (.bool (decide (j ≤ i))) := od_I0 op_ge fun _ => .bl _
theorem od_eqI : OpD X (compareOp .Eq) (.int i) (.int j) (.bool (i == j)) :=
  ⟨_, op_eq, fun T v1 v2 H dm p1 p2 Q q => by rw [dp_int p1, dp_int p2]; exact ⟨rfl, by rw [dec_int]; exact q _ H (Sm.refl H) (.bl _)⟩⟩
theorem od_neI : OpD X (compareOp .NotEq) (.int i) (.int j) (.bool (!(i == j))) :=
  ⟨_, op_ne, fun T v1 v2 H dm p1 p2 Q q => by rw [dp_int p1, dp_int p2]; exact ⟨rfl, by rw [dec_int]; exact q _ H (Sm.refl H) (.bl _)⟩⟩
theorem od_eqS {x y : Str} : OpD X (compareOp .Eq) (.str x) (.str y) (.bool (x == y)) :=
  ⟨_, op_eq, fun T v1 v2 H dm p1 p2 Q q => by rw [dp_str p1, dp_str p2]; exact ⟨rfl, by rw [dec_str]; exact q _ H (Sm.refl H) (.bl _)⟩⟩
theorem od_eqB {x y : Bool} : OpD X (compareOp .Eq) (.bool x) (.bool y) (.bool (x == y)) :=
  ⟨_, op_eq, fun T v1 v2 H dm p1 p2 Q q => by rw [dp_bool p1, dp_bool p2]; exact ⟨rfl, by rw [dec_bl]; exact q _ H (Sm.refl H) (.bl _)⟩⟩
theorem od_neB {x y : Bool} : OpD X (compareOp .NotEq) (.bool x) (.bool y) (.bool (!(x == y))) :=
  ⟨_, op_ne, fun T v1 v2 H dm p1 p2 Q q => by rw [dp_bool p1, dp_bool p2]; exact ⟨rfl, by rw [dec_bl]; exact q _ H (Sm.refl H) (.bl _)⟩⟩
theorem od_eqD (hu : X.A.units + 64 < cLine) (h1 : SeqAt.shaped d1 = true) (h2 : SeqAt.shaped d2 = true) : OpD X (compareOp .Eq) d1 d2 (.bool (PyData.eqv d1 d2)) :=
  ⟨_, op_eqD hu, fun T v1 v2 H dm p1 p2 Q q => ⟨d1, d2, dp_off p1, dp_off p2, h1, h2, q _ H (Sm.refl H) (.bl _)⟩⟩
theorem od_neD (hu : X.A.units + 64 < cLine) (h1 : SeqAt.shaped d1 = true) (h2 : SeqAt.shaped d2 = true) : OpD X (compareOp .NotEq) d1 d2 (.bool (!PyData.eqv d1 d2)) :=
  ⟨_, op_neD hu, fun T v1 v2 H dm p1 p2 Q q => ⟨d1, d2, dp_off p1, dp_off p2, h1, h2, q _ H (Sm.refl H) (.bl _)⟩⟩
/-- whether data is None -/
def isN : PyData → Bool
  | .none => true
  | _ => false
theorem dp_isN {K : PySem.W.Frag} {H : Hp} {v : V} (p : Dp K H v d) : decide (v = .non) = isN d := by
  cases p <;> rfl
theorem od_isN : OpD X (compareOp .Is) d .none (.bool (isN d)) := ⟨_, op_isN, fun T v1 v2 H dm p1 p2 Q q => ⟨dp_non p2, by rw [dp_isN p1]; exact q _ H (Sm.refl H) (.bl _)⟩⟩
theorem od_notN : OpD X (compareOp .IsNot) d .none (.bool (!isN d)) := ⟨_, op_notN, fun T v1 v2 H dm p1 p2 Q q => ⟨dp_non p2, by rw [dp_isN p1]; exact q _ H (Sm.refl H) (.bl _)⟩⟩
theorem e_neg (h : EvE X a e ρ (.int i)) : EvE X a (.UnaryOp .USub e pos) ρ (.int (-i)) := fun T σ H S Q q =>
  toE (pe_un un_neg je) (h T σ H S _ fun v H1 s1 p1 => ⟨i, dp_int p1, q _ H1 s1 (.int _)⟩)

/-! tests -/
theorem t_not {b : Bool} (h : EvT X a e ρ b) : EvT X a (.UnaryOp .Not e pos) ρ (!b) := fun T σ H S Q q => toT (pt_not jt) (h T σ H S _ fun H1 s1 => q H1 s1)
theorem t_val {b : Bool} (h : EvE X a e ρ (.bool b)) (he : ∀ whole, isTrue e X.env whole = (do let v ← whole; standAt e.pos; holding [v] (truthy v)) := by intro _; rfl) : EvT X a e ρ b := fun T σ H S Q q =>
  toT (pt_val je he) (h T σ H S _ fun v H1 s1 p1 => ⟨b, dp_bool p1, q H1 s1⟩)
theorem t_is {b b' : Bool} (h : EvT X a e ρ b) (hb : b = b') : EvT X a e ρ b' := hb ▸ h
theorem e_is {d'} (h : EvE X a e ρ d) (hb : d = d') : EvE X a e ρ d' := hb ▸ h
theorem t_and1 {b : Bool} (h : EvT X a e ρ b) : EvT X a (.BoolOp .And [e] pos) ρ b := fun T σ H S Q q => toT (PW.pt (pw_and1 jt)) (h T σ H S Q q)
theorem t_or1 {b : Bool} (h : EvT X a e ρ b) : EvT X a (.BoolOp .Or [e] pos) ρ b := fun T σ H S Q q => toT (PW.pt (pw_or1 jt)) (h T σ H S Q q)
end
section
variable {X : Cx} {a : Addr} {ρ : Rho} {c e f : Expr} {es : List Expr} {pos : Pos} {d : PyData}
theorem e_ifT (h : EvT X a c ρ true) (h1 : EvE X a e ρ d) : EvE X a (.IfExp c e f pos) ρ d := fun T σ H S Q q =>
  toE (pe_ifExp jt je je) (h T σ H S _ fun H1 s1 => iteT (h1 T σ H1 (S.same s1) _ fun v H2 s2 p => q v H2 (s1.trans s2) p))
theorem e_ifF (h : EvT X a c ρ false) (h1 : EvE X a f ρ d) : EvE X a (.IfExp c e f pos) ρ d := fun T σ H S Q q =>
  toE (pe_ifExp jt je je) (h T σ H S _ fun H1 s1 => iteF (h1 T σ H1 (S.same s1) _ fun v H2 s2 p => q v H2 (s1.trans s2) p))
theorem e_if {b : Bool} (h : EvT X a c ρ b) (h1 : b = true → EvE X a e ρ d) (h2 : b = false → EvE X a f ρ d) : EvE X a (.IfExp c e f pos) ρ d := by
  cases b with
  | true => exact e_ifT h (h1 rfl)
  | false => exact e_ifF h (h2 rfl)

/-! argument lists, displays -/
theorem a_nil : EvA X a [] ρ [] := fun T σ H S Q q => toA pa_nil (q _ H (Sm.refl H) .nil)
theorem a_cons {ds : List PyData} (h : EvE X a e ρ d) (h2 : EvA X a es ρ ds) (hs : starEach (e :: es) X.env = (false, eval e X.env) :: starEach es X.env := by exact star_of rfl) : EvA X a (e :: es) ρ (d :: ds) := fun T σ H S Q q =>
  toA (pa_cons je ja hs) (h T σ H S _ fun v H1 s1 p1 => h2 T σ H1 (S.same s1) _ fun vs H2 s2 p2 => q _ H2 (s1.trans s2) (.cons (dpo s2 p1) p2))
theorem szl {n : Nat} (h : n ≤ 100000) : n ≤ sizeLine := Nat.le_trans h (by decide)
theorem e_tup {x1} {ds : List PyData} (h : EvA X a es ρ ds) (hl : ds.length ≤ 100000 := by first | (simp; done) | decide) : EvE X a (.Tuple es x1 pos) ρ (.tuple ds) := fun T σ H S Q q =>
  toE (pe_tup ja) (h T σ H S _ fun vs H1 s1 p1 => ⟨by rw [dps_len p1]; exact szl hl, fun p hp => q _ _ (s1.trans (same_new hp)) (dpo_newT (S.dm.same s1) hp p1)⟩)
theorem e_lst {ds : List PyData} (h : EvA X a es ρ ds) (hl : ds.length ≤ 100000 := by first | (simp; done) | decide) : EvE X a (.List es pos) ρ (.list ds) := fun T σ H S Q q =>
  toE (pe_lst ja) (h T σ H S _ fun vs H1 s1 p1 => ⟨by rw [dps_len p1]; exact szl hl, fun p hp => q _ _ (s1.trans (same_new hp)) (dpo_newL (S.dm.same s1) hp p1)⟩)

/-! items, slices, sums of sequences -/
variable {i j : Int} {ds : List PyData} {o : Expr}
theorem ati_dps {K : PySem.W.Frag} {H : Hp} {vs : List V} (h : DpAll K H vs ds) (e : atI ds i = some d) : ∃ v, atI vs i = some v ∧ Dp K H v d := by
  unfold atI at e ⊢
  rw [dps_len h]
  cases q : ixN ds.length i with
  | none => rw [q] at e; cases e
  | some k =>
    rw [q] at e
    obtain ⟨v, h1, h2⟩ := dps_get h (show ds[k]? = some d from e)
    exact ⟨v, h1, h2⟩
theorem e_ixT (h1 : EvE X a o ρ (.tuple ds)) (h2 : EvE X a e ρ (.int i)) (h : atI ds i = some d) (hs : PlainIx e := by exact fun _ _ => rfl) : EvE X a (.Subscript o e pos) ρ d := fun T σ H S Q q =>
  toE (pe_ix ix_tup je je hs) (h1 T σ H S _ fun v1 H1 s1 p1 => h2 T σ H1 (S.same s1) _ fun v2 H2 s2 p2 => by
    obtain ⟨p, xs, rfl, g1, g2⟩ := dpo_tup (dpo s2 p1)
    obtain ⟨v, g3, g4⟩ := ati_dps g2 h
    exact ⟨p, xs, i, v, rfl, dp_int p2, g1, g3, q v H2 (s1.trans s2) g4⟩)
theorem e_ixL (h1 : EvE X a o ρ (.list ds)) (h2 : EvE X a e ρ (.int i)) (h : atI ds i = some d) (hs : PlainIx e := by exact fun _ _ => rfl) : EvE X a (.Subscript o e pos) ρ d := fun T σ H S Q q =>
  toE (pe_ix ix_list je je hs) (h1 T σ H S _ fun v1 H1 s1 p1 => h2 T σ H1 (S.same s1) _ fun v2 H2 s2 p2 => by
    obtain ⟨p, xs, rfl, g1, g2⟩ := dpo_lst (dpo s2 p1)
    obtain ⟨v, g3, g4⟩ := ati_dps g2 h
    exact ⟨p, xs, i, v, rfl, dp_int p2, g1, g3, q v H2 (s1.trans s2) g4⟩)
theorem o_non : EvO X a none ρ none := ⟨_, po_none, fun T σ H S Q q => q H (Sm.refl H)⟩
theorem o_int (h : EvE X a e ρ (.int i)) : EvO X a (some e) ρ (some i) := ⟨_, po_some je, fun T σ H S Q q => h T σ H S _ fun v H1 s1 p1 => ⟨i, dp_int p1, q H1 s1⟩⟩
def cutD (xs : List PyData) (lo hi : Option Int) : List PyData := (xs.drop (HT.sIx xs.length 0 lo)).take (HT.sIx xs.length xs.length hi - HT.sIx xs.length 0 lo)
theorem cut_dps {K : PySem.W.Frag} {H : Hp} {vs : List V} (h : DpAll K H vs ds) (lo hi : Option Int) : DpAll K H (cutV vs lo hi) (cutD ds lo hi) := by
  unfold cutV cutD
  rw [dps_len h]
  exact dps_take _ (dps_drop _ h)
theorem e_slT {lo hi : Option Expr} {x y : Option Int} {p2 : Pos} (h1 : EvE X a o ρ (.tuple ds)) (h2 : EvO X a lo ρ x) (h3 : EvO X a hi ρ y) (hw : ¬ (HT.sIx ds.length 0 x = 0 ∧ HT.sIx ds.length ds.length y = ds.length)) :
    EvE X a (.Subscript o (.Slice lo hi none p2) pos) ρ (.tuple (cutD ds x y)) := fun T σ H S Q q => by
  obtain ⟨tl, g2, k2⟩ := h2
  obtain ⟨th, g3, k3⟩ := h3
  refine toE (pe_slice sl_tup je g2 g3) (h1 T σ H S _ fun v1 H1 s1 p1 => k2 T σ H1 (S.same s1) _ fun H2 s2 => k3 T σ H2 (S.same (s1.trans s2)) _ fun H3 s3 => ?_)
  obtain ⟨p, xs, rfl, g4, g5⟩ := dpo_tup (dpo (s2.trans s3) p1)
  have hl := dps_len g5
  exact ⟨p, xs, rfl, g4, by rw [hl]; exact hw, fun p' hp => q _ _ (((s1.trans s2).trans s3).trans (same_new hp)) (dpo_newT (S.dm.same ((s1.trans s2).trans s3)) hp (cut_dps g5 x y))⟩
theorem e_slL {lo hi : Option Expr} {x y : Option Int} {p2 : Pos} (h1 : EvE X a o ρ (.list ds)) (h2 : EvO X a lo ρ x) (h3 : EvO X a hi ρ y) :
    EvE X a (.Subscript o (.Slice lo hi none p2) pos) ρ (.list (cutD ds x y)) := fun T σ H S Q q => by
  obtain ⟨tl, g2, k2⟩ := h2
  obtain ⟨th, g3, k3⟩ := h3
  refine toE (pe_slice sl_list je g2 g3) (h1 T σ H S _ fun v1 H1 s1 p1 => k2 T σ H1 (S.same s1) _ fun H2 s2 => k3 T σ H2 (S.same (s1.trans s2)) _ fun H3 s3 => ?_)
  obtain ⟨p, xs, rfl, g4, g5⟩ := dpo_lst (dpo (s2.trans s3) p1)
  exact ⟨p, xs, rfl, g4, fun p' hp => q _ _ (((s1.trans s2).trans s3).trans (same_new hp)) (dpo_newL (S.dm.same ((s1.trans s2).trans s3)) hp (cut_dps g5 x y))⟩
theorem od_catT {es fs : List PyData} (h : es ≠ []) (hl : es.length + fs.length ≤ 100000) : OpD X (binaryOp .Add) (.tuple es) (.tuple fs) (.tuple (es ++ fs)) :=
  ⟨_, op_catT, fun T v1 v2 H dm p1 p2 Q q => by
    obtain ⟨p, xs, rfl, g1, g2⟩ := dpo_tup p1
    obtain ⟨p', ys, rfl, g3, g4⟩ := dpo_tup p2
    have l1 := dps_len g2
    have l2 := dps_len g4
    refine ⟨p, p', xs, ys, rfl, rfl, g1, g3, fun z => h ?_, by rw [l1, l2]; exact szl hl, fun z => ?_, fun z r hr => q _ _ (same_new hr) (dpo_newT dm hr (dps_append g2 g4))⟩
    · rw [z] at l1
      exact List.eq_nil_of_length_eq_zero l1.symm
    · rw [z] at l2
      rw [List.eq_nil_of_length_eq_zero l2.symm, List.append_nil] at q
      exact q _ H (Sm.refl H) p1⟩
/-- list + list, whoever holds them -/
theorem op_catX {X : Cx} : OpR X (binaryOp .Add) (fun x y H Q => ∃ l b xs zs, x = .ref l ∧ y = .ref b ∧ SqL X.K H l xs ∧ SqL X.K H b zs ∧ xs.length + zs.length ≤ sizeLine ∧ ∀ p, H p = none → Q (.ref p) (upd H p (.lst (xs ++ zs)))) := by
  intro pins s σ H x y v u Q I rx ry h
  obtain ⟨l, b, xs, zs, rfl, rfl, hH, hB, hz, q⟩ := h
  cases rx
  cases ry
  obtain ⟨its, r, pl, hl⟩ := I.list hH
  obtain ⟨its2, r2, pl2, hl2⟩ := I.list hB
  obtain ⟨⟨c1, dd1, da1, sl1⟩, n1, e1, k1, d1, b1⟩ := pl
  obtain ⟨⟨c2, dd2, da2, sl2⟩, n2, e2, k2, d2, b2⟩ := pl2
  have e3 := r.length
  have e4 := r2.length
  simp only at k1 d1 b1 k2 d2 b2
  subst k1 b1 k2 b2
  have ea : its.toArray ++ its2.toArray = (its ++ its2).toArray := by simp
  have sz : its.toArray.size + its2.toArray.size ≤ sizeLine := by rw [List.size_toArray, List.size_toArray, ← e3, ← e4]; exact hz
  refine concat_meets ⟨_, e1, rfl⟩ ⟨_, e2, rfl⟩ noFill_list_add seq_list_add F.slot_list_add F.entry_list_add (F.args_list_add_2 _ _)
    (list_addW l b its.toArray its2.toArray n1 n2 dd1 dd2 sl1 sl2 sz) ⟨e1, e2, ?_⟩
  rw [ea]
  exact ⟨.ref _, _, I.lnew (t' := s.toks) (r.append r2) (by rw [List.length_append]; exact hz), rfl, q _ I.fresh⟩
theorem od_catL {es fs : List PyData} (hl : es.length + fs.length ≤ 100000) : OpD X (binaryOp .Add) (.list es) (.list fs) (.list (es ++ fs)) :=
  ⟨_, op_catX, fun T v1 v2 H dm p1 p2 Q q => by
    obtain ⟨p, xs, rfl, g1, g2⟩ := dpo_lst p1
    obtain ⟨p', ys, rfl, g3, g4⟩ := dpo_lst p2
    have l1 := dps_len g2
    have l2 := dps_len g4
    exact ⟨p, p', xs, ys, rfl, rfl, g1, g3, by rw [l1, l2]; exact szl hl, fun r hr => q _ _ (same_new hr) (dpo_newL dm hr (dps_append g2 g4))⟩⟩
/-! calls -/
structure Cal (P : Program) (w : World) (K : PySem.W.Frag) (mg : Str → Option Value) (base : Heap) (k : Nat) (x : Str) (ps : List Str) (sp : Sp) : Prop where
  ex : ∃ f fd, FnOk P w K mg base CX0 k f fd ps sp ∧ mg x = some (.ref f) ∧ PySem.W.keepIn K (.ref f) = true ∧ Binds K fd ps []
/-- a def that keeps all and hands on data: R tells of the arguments what comes of them -/
def spR (K : PySem.W.Frag) (R : List PyData → PyData → Prop) : Sp := fun vs H Q _ => ∃ T ds d, Din T H ∧ DpAll K (off T H) vs ds ∧ R ds d ∧ ∀ v H', Sm H H' → Dp K (off T H') v d → Q v H'
theorem e_call {k : Nat} {x : Str} {p : Pos} {ps : List Str} {R : List PyData → PyData → Prop} (C : Cal X.prog X.w X.K X.mg X.base k x ps (spR X.K R)) (hr : Room k X.A) (ha : EvA X a (e :: es) ρ ds) (hR : R ds d)
    (hg : Gl X x := by rfl) (hdb : (x == ("__debug__" : Str)) = false := by decide) (he : starEach (e :: es) X.env = (false, eval e X.env) :: starEach es X.env := by exact star_of rfl) (hpl : (backTo pos (starEach es X.env)).any (·.1) = false := by exact star_no rfl) :
    EvE X a (.Call (.Name x p) (e :: es) [] pos) ρ d := fun T σ H S Q q => by
  obtain ⟨f, fd, F, hm, hk, hb⟩ := C.ex
  refine toE (pe_call F hr hg hm hk hb (ds := []) (dvs := []) .nil pass0 ja hdb he hpl) (ha T σ H S _ fun vs H1 s1 p1 => ?_)
  rw [List.append_nil]
  exact ⟨T, ds, d, S.dm.same s1, p1, hR, fun v H2 s2 p2 => q v H2 (s1.trans s2) p2⟩
/-- what a built-in does with data -/
def CaD (X : Cx) (f : Value) (ds : List PyData) (d : PyData) : Prop := ∃ r, CallR X f r ∧ ∀ T vs H, Din T H → DpAll X.K (off T H) vs ds → ∀ Q : VK, (∀ v H2, Sm H H2 → Dp X.K (off T H2) v d → Q v H2) → r vs H Q
theorem e_callB {x : Str} {p : Pos} {id : String} (hc : CaD X (.builtin id) ds d) (ha : EvA X a (e :: es) ρ ds) (hm : X.mg x = none) (hv : bootBuiltins x = some (.builtin id)) (hg : Gl X x := by rfl) (hn : x ≠ "__name__" := by decide) (hdb : (x == ("__debug__" : Str)) = false := by decide)
    (he : starEach (e :: es) X.env = (false, eval e X.env) :: starEach es X.env := by exact star_of rfl) (hpl : (backTo pos (starEach es X.env)).any (·.1) = false := by exact star_no rfl) : EvE X a (.Call (.Name x p) (e :: es) [] pos) ρ d := fun T σ H S Q q => by
  obtain ⟨r, h1, h2⟩ := hc
  exact toE (pe_callB h1 hg hm hv ja hn hdb he hpl) (ha T σ H S _ fun vs H1 s1 p1 => h2 T vs H1 (S.dm.same s1) p1 Q fun v H2 s2 p2 => q v H2 (s1.trans s2) p2)
theorem e_callT {x : Str} {p : Pos} {Ty : String} (hc : CaD X (.type Ty) ds d) (ha : EvA X a (e :: es) ρ ds) (hm : X.mg x = none) (hv : bootBuiltins x = some (.type Ty)) (hg : Gl X x := by rfl) (hn : x ≠ "__name__" := by decide) (hdb : (x == ("__debug__" : Str)) = false := by decide)
    (he : starEach (e :: es) X.env = (false, eval e X.env) :: starEach es X.env := by exact star_of rfl) (hpl : (backTo pos (starEach es X.env)).any (·.1) = false := by exact star_no rfl) : EvE X a (.Call (.Name x p) (e :: es) [] pos) ρ d := fun T σ H S Q q => by
  obtain ⟨r, h1, h2⟩ := hc
  exact toE (pe_callTy h1 hg hm hv ja hn hdb he hpl) (ha T σ H S _ fun vs H1 s1 p1 => h2 T vs H1 (S.dm.same s1) p1 Q fun v H2 s2 p2 => q v H2 (s1.trans s2) p2)
theorem e_callM {x : Str} {p : Pos} {id : String} (hc : CaD X (.builtin id) ds d) (ha : EvA X a (e :: es) ρ ds) (hm : X.mg x = some (.builtin id)) (hg : Gl X x := by rfl) (hdb : (x == ("__debug__" : Str)) = false := by decide)
    (he : starEach (e :: es) X.env = (false, eval e X.env) :: starEach es X.env := by exact star_of rfl) (hpl : (backTo pos (starEach es X.env)).any (·.1) = false := by exact star_no rfl) : EvE X a (.Call (.Name x p) (e :: es) [] pos) ρ d := fun T σ H S Q q => by
  obtain ⟨r, h1, h2⟩ := hc
  exact toE (pe_callBfun h1 hg hm ja hdb he hpl) (ha T σ H S _ fun vs H1 s1 p1 => h2 T vs H1 (S.dm.same s1) p1 Q fun v H2 s2 p2 => q v H2 (s1.trans s2) p2)
theorem dps1 {K : PySem.W.Frag} {H : Hp} {vs : List V} (h : DpAll K H vs [d]) : ∃ v, vs = [v] ∧ Dp K H v d := by
  cases h with
  | cons h1 h2 => cases h2; exact ⟨_, rfl, h1⟩
theorem dps2 {K : PySem.W.Frag} {H : Hp} {vs : List V} {d' : PyData} (h : DpAll K H vs [d, d']) : ∃ v v', vs = [v, v'] ∧ Dp K H v d ∧ Dp K H v' d' := by
  cases h with
  | cons h1 h2 =>
    obtain ⟨v', rfl, h3⟩ := dps1 h2
    exact ⟨_, v', rfl, h1, h3⟩
theorem ca_lenT : CaD X (.builtin "len") [.tuple ds] (.int ds.length) := ⟨_, call_len_seq, fun T vs H dm p Q q => by
  obtain ⟨v, rfl, h⟩ := dps1 p
  obtain ⟨pa, xs, rfl, g1, g2⟩ := dpo_tup h
  exact ⟨pa, xs, rfl, .inr g1, by rw [dps_len g2]; exact q _ H (Sm.refl H) (.int _)⟩⟩
theorem ca_lenL : CaD X (.builtin "len") [.list ds] (.int ds.length) := ⟨_, call_len_seq, fun T vs H dm p Q q => by
  obtain ⟨v, rfl, h⟩ := dps1 p
  obtain ⟨pa, xs, rfl, g1, g2⟩ := dpo_lst h
  exact ⟨pa, xs, rfl, .inl g1, by rw [dps_len g2]; exact q _ H (Sm.refl H) (.int _)⟩⟩
theorem ca_abs : CaD X (.builtin "abs") [.int i] (.int (if i < 0 then -i else i)) := ⟨_, call_abs, fun T vs H dm p Q q => by
  obtain ⟨v, rfl, h⟩ := dps1 p
  exact ⟨i, by rw [dp_int h], q _ H (Sm.refl H) (.int _)⟩⟩
theorem ca_int : CaD X (.type "int") [.int i] (.int i) := ⟨_, call_int1, fun T vs H dm p Q q => by
  obtain ⟨v, rfl, h⟩ := dps1 p
  exact .inl ⟨i, by rw [dp_int h], q _ H (Sm.refl H) (.int _)⟩⟩
theorem ca_intB {b : Bool} : CaD X (.type "int") [.bool b] (.int (if b then 1 else 0)) := ⟨_, call_int1, fun T vs H dm p Q q => by
  obtain ⟨v, rfl, h⟩ := dps1 p
  exact .inr ⟨b, by rw [dp_bool h], q _ H (Sm.refl H) (.int _)⟩⟩
theorem ca_max (hc : X.calm = true) : CaD X (.builtin "max") [.int i, .int j] (.int (if j > i then j else i)) := ⟨_, call_max2 hc, fun T vs H dm p Q q => by
  obtain ⟨v, v', rfl, h, h'⟩ := dps2 p
  exact ⟨i, j, by rw [dp_int h, dp_int h'], q _ H (Sm.refl H) (.int _)⟩⟩
theorem ca_min (hc : X.calm = true) : CaD X (.builtin "min") [.int i, .int j] (.int (if j < i then j else i)) := ⟨_, call_min2 hc, fun T vs H dm p Q q => by
  obtain ⟨v, v', rfl, h, h'⟩ := dps2 p
  exact ⟨i, j, by rw [dp_int h, dp_int h'], q _ H (Sm.refl H) (.int _)⟩⟩
theorem ca_gcd : CaD X (.builtin "math.gcd") [.int i, .int j] (.int ((Nat.gcd i.natAbs j.natAbs : Nat) : Int)) := ⟨_, cr_gcd, fun T vs H dm p Q q => by
  obtain ⟨v, v', rfl, h, h'⟩ := dps2 p
  exact ⟨i, j, by rw [dp_int h, dp_int h'], q _ H (Sm.refl H) (.int _)⟩⟩
theorem ca_tupL : CaD X (.type "tuple") [.list ds] (.tuple ds) := ⟨_, call_tuple_of, fun T vs H dm p Q q => by
  obtain ⟨v, rfl, h⟩ := dps1 p
  obtain ⟨pa, xs, rfl, g1, g2⟩ := dpo_lst h
  exact ⟨pa, xs, rfl, .inl ⟨g1, fun l hl => q _ _ (same_new hl) (dpo_newT dm hl g2)⟩⟩⟩
theorem ca_tupT : CaD X (.type "tuple") [.tuple ds] (.tuple ds) := ⟨_, call_tuple_of, fun T vs H dm p Q q => by
  obtain ⟨v, rfl, h⟩ := dps1 p
  obtain ⟨pa, xs, rfl, g1, g2⟩ := dpo_tup h
  exact ⟨pa, xs, rfl, .inr ⟨g1, q _ H (Sm.refl H) h⟩⟩⟩
theorem ca_listT : CaD X (.type "list") [.tuple ds] (.list ds) := ⟨_, call_list_of, fun T vs H dm p Q q => by
  obtain ⟨v, rfl, h⟩ := dps1 p
  obtain ⟨pa, xs, rfl, g1, g2⟩ := dpo_tup h
  exact ⟨pa, xs, rfl, .inr g1, fun l hl => q _ _ (same_new hl) (dpo_newL dm hl g2)⟩⟩
theorem ca_listL : CaD X (.type "list") [.list ds] (.list ds) := ⟨_, call_list_of, fun T vs H dm p Q q => by
  obtain ⟨v, rfl, h⟩ := dps1 p
  obtain ⟨pa, xs, rfl, g1, g2⟩ := dpo_lst h
  exact ⟨pa, xs, rfl, .inl g1, fun l hl => q _ _ (same_new hl) (dpo_newL dm hl g2)⟩⟩
theorem ca_sum (hc : X.calm = true) {ns : List Int} : CaD X (.builtin "sum") [.list (ns.map .int)] (.int ns.sum) := ⟨_, cr_sum hc, fun T vs H dm p Q q => by
  obtain ⟨v, rfl, h⟩ := dps1 p
  obtain ⟨pa, xs, rfl, g1, g2⟩ := dpo_lst h
  exact ⟨pa, ns, rfl, by rw [← vs_ints g2]; exact g1, q _ H (Sm.refl H) (.int _)⟩⟩
theorem ca_all (hc : X.calm = true) {bs : List Bool} : CaD X (.builtin "all") [.list (bs.map .bool)] (.bool (bs.all id)) := ⟨_, cr_all hc, fun T vs H dm p Q q => by
  obtain ⟨v, rfl, h⟩ := dps1 p
  obtain ⟨pa, xs, rfl, g1, g2⟩ := dpo_lst h
  exact ⟨pa, bs, rfl, by rw [← vs_bools g2]; exact g1, q _ H (Sm.refl H) (.bl _)⟩⟩
end
end Zj
/-! enumerate of a tuple. -/
namespace Zj
open PySem PySem.Spec PyProof.Rows L2
variable [Nm]
open AutoSeq1 (wpAny_loadPart')
theorem enumT_new (l : Addr) (items : Array Value) (n : Nat) (dct : Option Addr) (sl : Array (Option Value)) :
    Meets (Builtin.«enumerate.__new__» ⟨[.type "enumerate", .ref l], []⟩) (fun _ R s => s.heap.get? l = some { cls := .type "tuple", dict := dct, data := .seq items n, slots := sl } ∧
      R (.ok (.ret (.ref (s.heap.push { cls := .type "tuple_iterator", data := .fields #[.ref l, .int 0 0] }).objs.size)))
        { s with heap := (s.heap.push { cls := .type "tuple_iterator", data := .fields #[.ref l, .int 0 0] }).push { cls := .type "enumerate", data := .fields #[.none, .bool false, .ref s.heap.objs.size, rawInt 0, .none, .none] } }) :=
  .of_wp fun prog w A R s h => by
    obtain ⟨hp, g, d, tk, os⟩ := s
    obtain ⟨hl, h⟩ := h
    have hsub := sub_enumerate
    have hTu : Heap.IsTuple (Shared.heap ⟨hp, g, d, tk, os⟩) l items := ⟨_, hl, rfl, n, rfl⟩
    wp_walk using wpAny_loadPart' hl
    refine wpAny_stack_any fun st => wpAny_pure ?_
    split
    · rename_i c _ _ _ _ _
      cases (c == Value.type "enumerate")
      all_goals
        wp_walk using wpAny_loadPart' hl, wpAny_pyIter_tuple hTu
        exact ⟨_, rfl, h⟩
    · wp_walk using wpAny_loadPart' hl, wpAny_pyIter_tuple hTu
      exact ⟨_, rfl, h⟩
section
variable {prog : Program} {w : World} {A : Around} {E : Value → Shared → Prop} {s : Shared}
theorem call_enumT {l : Addr} {items : Array Value} {Q : Value → Shared → Prop} (hT : IsTup s.heap l items)
    (h : ∀ h', IsEnum h' (s.heap.objs.size + 1) s.heap.objs.size 0 .none → h'.IsTupleIter s.heap.objs.size l 0 → (∀ b o, s.heap.get? b = some o → h'.get? b = some o) → Q (.ref (s.heap.objs.size + 1)) { s with heap := h' }) :
    wpAny (model prog w) A (call (.type "enumerate") [.ref l]) Q E s := by
  obtain ⟨⟨c, dct, dt, sl⟩, hl, hc, n, hd⟩ := hT
  simp only at hc hd
  subst hc hd
  refine callType_new F.called_enumerate (by decide) (F.typeCall_enumerate_1 _) (F.newCall_enumerate_1 _) (fun obj => F.args_object_init_2 obj _) F.entry_enumerate_new (enumT_new l items n dct sl) ⟨hl, ?_⟩
  have hz : (s.heap.push { cls := .type "tuple_iterator", data := .fields #[.ref l, .int 0 0] }).objs.size = s.heap.objs.size + 1 := Heap.size_push ..
  have he := Heap.get?_push_size (s.heap.push { cls := .type "tuple_iterator", data := .fields #[.ref l, .int 0 0] }) (o := { cls := .type "enumerate", data := .fields #[.none, .bool false, .ref s.heap.objs.size, rawInt 0, .none, .none] }) rfl
  rw [hz] at he
  show _ ∧ _
  rw [hz]
  exact ⟨⟨_, he, rfl⟩, h _ he ⟨_, Heap.get?_push_of_some _ (Heap.get?_push_size _ rfl), rfl, rfl⟩ fun b o x => Heap.get?_push_of_some _ (Heap.get?_push_of_some _ x)⟩
end
/-- the tuple at a, each item in a new pair -/
def IteT (K : PySem.W.Frag) (a : Addr) : It :=
  ⟨fun i H => ∃ (xs : List V) (x : V), SqT K H a xs ∧ xs[i]? = some x, fun i H v H' => ∃ T x, v = .ref T ∧ H T = none ∧ H' = upd H T (.tup [.int (i : Nat), x]) ∧ ∀ xs, SqT K H a xs → xs[i]? = some x, fun i H => ∃ xs : List V, SqT K H a xs ∧ xs.length ≤ i⟩
theorem turn_enumT {P : Program} {w : World} {K : PySem.W.Frag} {elts : List Expr} {kk : Nat} {tpos : Pos} (a e it : Addr) :
    Turn P w K (.Tuple elts kk tpos) (IteT K a) [e, it] e (fun i h => (∃ old, IsEnum h e it ((i : Nat) : Int) old) ∧ h.IsTupleIter it a i ∧ e ≠ it ∧ e ≠ a ∧ a ≠ it) where
  mem := by simp
  obj := fun i h st b hb => by
    obtain ⟨⟨old, he⟩, ⟨o, ho, hc, hd⟩, _⟩ := st
    have e' : b = e ∨ b = it := by simpa using hb
    rcases e' with z | z
    · rw [z]; exact ⟨_, he, fun v q => nomatch q⟩
    · rw [z]; exact ⟨o, ho, fun v q => by rw [hd] at q; cases q⟩
  keep := fun i h h' st k => by
    obtain ⟨⟨old, he⟩, hi, hne⟩ := st
    exact ⟨⟨old, k e (by simp) _ he⟩, hi.at fun o q => k it (by simp) o q, hne⟩
  item := by
    intro X hP hw hK hc i pins s σ H E I hf st hg
    subst hP hw hK
    obtain ⟨⟨old, he⟩, hit, hne, hea, hai⟩ := st
    obtain ⟨xs, x, hq, hx⟩ := hg
    obtain ⟨its, rv, p, hz⟩ := I.tuple hq
    obtain ⟨u, hu, ru⟩ := rv.get hx
    have hlt : i < its.toArray.size := by
      have := (List.getElem?_eq_some_iff.mp hu).1
      simpa using this
    have hel : e < s.heap.objs.size := Heap.lt_size he
    have hil : it < s.heap.objs.size := by obtain ⟨_, q, _⟩ := hit; exact Heap.lt_size q
    refine wpAny_pyNext_enum_itemD (Draws.tuple (A := X.A.in1) (I.ok.hd hc) it a hai its.toArray) he ⟨hit, p⟩ hlt hne (by simp; exact ⟨hne, hea⟩) fun x' h' tk hx' ho hst' hT hsz hk => ?_
    have exu : x' = u := by
      have z : some u = some x' := by
        rw [← hx']
        simpa using hu.symm
      exact (Option.some.inj z).symm
    subst exu
    refine ⟨_, rfl, wpAny_letOwnedTupleGo_enum (s := { s with heap := h', toks := tk + 1 }) ho fun h'' he' sb => ?_⟩
    have hT2 : h''.get? s.heap.objs.size = some { cls := .type "tuple", data := .seq #[.int i tk, x'] } := (sb.2 _ (Nat.ne_of_gt hel)).trans hT
    have new : ObjOk X.prog X.w (upd H s.heap.objs.size (.tup [.int (i : Nat), x])) h'' s.heap.objs.size (.tup [.int (i : Nat), x]) :=
      ⟨by show 2 ≤ sizeLine; decide, [.int i tk, x'], .cons ⟨_, rfl⟩ (.cons ru .nil), ⟨_, hT2, rfl, _, rfl⟩⟩
    have I1 : Inv X pins σ (upd H s.heap.objs.size (.tup [.int (i : Nat), x])) { s with heap := h'', toks := tk + 1 } := by
      refine I.turnedNew (ch := [e, it]) (fun b ob hb q => ?_) hf (Nat.le_refl _) new
      exact (sb.2 b (fun z => hb (by simp [z]))).trans (hk b ob (fun z => hb (by simp [z])) (fun z => hb (by simp [z])) q)
    refine ⟨.ref s.heap.objs.size, _, I1, rfl, ⟨_, x, rfl, I.hok.fresh (Nat.le_refl _), rfl, fun ys hy => by rw [I.tuple_inj hy hq]; exact hx⟩, ⟨⟨x', ?_⟩, hst'.1.at fun o q => (sb.2 it (Ne.symm hne)).trans q, hne, hea, hai⟩, fun b hb => ?_⟩
    · have e1 : ((i + 1 : Nat) : Int) = (i : Int) + 1 := by omega
      rw [e1]
      exact he'
    · have hb' : b < s.heap.objs.size := by
        have e' : b = e ∨ b = it := by simpa using hb
        rcases e' with z | z
        · rw [z]; exact hel
        · rw [z]; exact hil
      rw [upd_ne (Nat.ne_of_lt hb')]
      exact (hf b hb).1
  done := by
    intro X hP hw hK hc i pins s σ H E I hf st hg
    subst hP hw hK
    obtain ⟨⟨old, he⟩, hit, hne, hea, hai⟩ := st
    obtain ⟨xs, hq, hx⟩ := hg
    obtain ⟨its, rv, p, hz⟩ := I.tuple hq
    obtain ⟨f0, f1, f2, f3, f4, f5⟩ := hf it (by simp)
    have hl := rv.length
    have D : Draws X.prog X.w X.A.in1 it [it, a] i (fun i v => its.toArray[i]? = some v) (fun j h => j = i ∧ h.IsTupleIter it a j ∧ h.IsTuple a its.toArray ∧ its.toArray.size ≤ i) := {
      live := fun j h st => by obtain ⟨_, ⟨o, ho, _⟩, _⟩ := st; exact ⟨o, ho⟩
      frame := fun j h h' st hk => ⟨st.1, st.2.1.at fun o e => hk it (by simp) o e, st.2.2.1.at fun o e => hk a (by simp) o e, st.2.2.2⟩
      item := fun j s Q E hi st hQ => by
        have := st.1
        omega
      done := fun s Q E st hE => wpAny_nextOf_tuple_end (I.ok.hd hc) st.2.1 st.2.2.1 (by have := st.2.2.2; simp only [Array.getElem?_eq_none_iff]; omega) hE }
    exact wpAny_pyNext_enum_endD D he ⟨rfl, hit, p, by simp; omega⟩ fun h' eb => ⟨rfl, I.turned (t' := s.toks) (fun b o hb q => eb b o hb q) f0 f1 f3 f4 f5⟩
  self := fun A i s Q E st h => by
    obtain ⟨⟨_, he⟩, _⟩ := st
    exact wpAny_pyIter_enum he h
def iEnumT (K : PySem.W.Frag) (ta : TA) : TI := fun σ H R => ta σ H fun vs H1 => ∃ a xs, vs = [.ref a] ∧ SqT K H1 a xs ∧ R (IteT K a) H1
theorem pi_enumT {X : Cx} {e : Expr} {ta : TA} {p pos tpos : Pos} {elts : List Expr} {kk : Nat} (hg : Gl X "enumerate") (hm : X.mg "enumerate" = none) (ha : PA X [e] ta) (hs : starEach [e] X.env = [(false, eval e X.env)] := by exact star_of rfl) :
    PI X (.Tuple elts kk tpos) (.Call (.Name "enumerate" p) [e] [] pos) (iEnumT X.K ta) := by
  refine ⟨fun pins s σ H R I h => ?_⟩
  refine Call_ (ld_blt I hg hm boot_enumerate (PyProof.Rows.callWith_type1 (thn (ha.run pos pins s σ H _ I h) fun us s1 hv => ?_) hs rfl))
  obtain ⟨vs, H1, I1, r1, a, xs, rfl, hq, q⟩ := hv
  obtain ⟨u, rfl, ru⟩ := vals1 r1
  cases ru
  obtain ⟨its, rv, p', hz⟩ := I1.tuple hq
  have al : a < s1.heap.objs.size := p'.lt
  refine call_enumT p' fun h' he hit hk => wpAny_pyIter_enum he ?_
  have I2 : Inv X pins σ H1 { s1 with heap := h' } := I1.kept (t' := s1.toks) hk
  refine ⟨s1.heap.objs.size + 1, [s1.heap.objs.size + 1, s1.heap.objs.size], _, _, H1, rfl, I2, turn_enumT a (s1.heap.objs.size + 1) s1.heap.objs.size, ⟨⟨.none, he⟩, hit, Nat.succ_ne_self _, Nat.ne_of_gt (Nat.lt_succ_of_lt al), Nat.ne_of_lt al⟩, fun b hb => ?_, q⟩
  have hle : s1.heap.objs.size ≤ b := by
    have e' : b = s1.heap.objs.size + 1 ∨ b = s1.heap.objs.size := by simpa using hb
    rcases e' with z | z
    · rw [z]; exact Nat.le_add_right _ _
    · rw [z]; exact Nat.le_refl _
  exact I1.fpOk hle (I1.hok.fresh hle)
theorem walk_enumT {K : PySem.W.Frag} {a : Addr} {xs : List V} : Walk (IteT K a) xs.length (fun H => SqT K H a xs) (YPair (fun i => some (.int (i : Nat))) (fun i => xs[i]?)) := by
  refine ⟨fun i _ hi q => ⟨xs, xs[i], q, by simp [hi]⟩, fun _ q => ⟨xs, q, Nat.le_refl _⟩, fun i H v H' _ q y => ?_⟩
  obtain ⟨T, x, h1, h2, h3, h4⟩ := y
  exact ⟨T, .int (i : Nat), x, h1, h2, h3, rfl, h4 xs q⟩
theorem walk_zipT {K : PySem.W.Frag} {a b : Addr} {xs ys : List V} {n : Nat} (hn : n = min xs.length ys.length) : Walk (RZ.ItzT K a b) n (fun H => SqT K H a xs ∧ SqT K H b ys) (YPair (fun i => xs[i]?) (fun i => ys[i]?)) := by
  subst hn
  refine ⟨fun i _ hi q => ?_, fun _ q => ⟨xs, ys, q.1, q.2, by omega⟩, fun i H v H' _ q y => ?_⟩
  · have h1 : i < xs.length := by omega
    have h2 : i < ys.length := by omega
    exact ⟨xs, ys, xs[i], ys[i], q.1, q.2, by simp [h1], by simp [h2]⟩
  · obtain ⟨T, x, z, h1, h2, h3, h4, h5⟩ := y
    exact ⟨T, x, z, h1, h2, h3, h4 xs q.1, h5 ys q.2⟩
end Zj
/-! Blocks, loops, comprehensions, said of data. -/
namespace Zj
open PySem PySem.Spec PyProof.Rows L2
variable [Nm]
structure Good (X : Cx) : Prop where
  nd : X.N.Nodup
  calm : X.calm = true
  ow : PassesOwn (model X.prog X.w) X.A X.env X.xe
  un : X.A.units + 64 < cLine
section
variable {X : Cx} {a : Addr} {ρ : Rho} {N : Rho → Prop} {R : PyData → Prop}
def Run (X : Cx) (a : Addr) (sts : List Stmt) (ρ : Rho) (N : Rho → Prop) (R : PyData → Prop) : Prop := ∀ T σ H D, SD X.K a T H σ ρ → (∀ σ' H' ρ', Sm H H' → SD X.K a T H' σ' ρ' → N ρ' → D.nx σ' H') → (∀ v H' d, Sm H H' → Dp X.K (off T H') v d → R d → D.rt v H') → JSs X sts D σ H
def RunS (X : Cx) (a : Addr) (st : Stmt) (ρ : Rho) (N : Rho → Prop) (R : PyData → Prop) : Prop := ∀ T σ H D, SD X.K a T H σ ρ → (∀ σ' H' ρ', Sm H H' → SD X.K a T H' σ' ρ' → N ρ' → D.nx σ' H') → (∀ v H' d, Sm H H' → Dp X.K (off T H') v d → R d → D.rt v H') → JS X st D σ H
variable {st : Stmt} {sts : List Stmt} {e : Expr} {d : PyData} {pos : Pos}
theorem r_nil (h : N ρ) : Run X a [] ρ N R := fun T σ H D S kn kr => toSs pss_nil (kn σ H ρ (Sm.refl H) S h)
theorem r_cons (h : RunS X a st ρ (fun ρ' => Run X a sts ρ' N R) R) : Run X a (st :: sts) ρ N R := fun T σ H D S kn kr =>
  toSs (pss_cons js jss) (h T σ H { D with nx := fun σ' H' => JSs X sts D σ' H' } S (fun σ' H' ρ' s S' hN => hN T σ' H' D S' (fun σ2 H2 ρ2 s2 S2 n2 => kn σ2 H2 ρ2 (s.trans s2) S2 n2) fun v H2 d s2 p r => kr v H2 d (s.trans s2) p r) kr)
theorem r_one (h : RunS X a st ρ N R) : Run X a [st] ρ N R := fun T σ H D S kn kr => toSs (pss_one js) (h T σ H D S kn kr)
theorem r_never (h : False) : Run X a sts ρ N R := h.elim
theorem rs_ret (h : EvE X a e ρ d) (hr : R d) : RunS X a (.Return (some e) pos) ρ N R := fun T σ H D S kn kr => toS (ps_ret je) (h T σ H S _ fun v H1 s1 p1 => kr v H1 d s1 p1 hr)
theorem rs_expr (h : EvE X a e ρ d) (hn : N ρ) (hs : swapsWith e none pos.line X.env = pure false := by rfl) : RunS X a (.Expr e pos) ρ N R := fun T σ H D S kn kr => toS (ps_expr je hs) (h T σ H S _ fun v H1 s1 p1 => kn σ H1 ρ s1 (S.same s1) hn)
theorem rs_set {i : Nat} {x : Str} {pos' : Pos} (G : Good X) (h : EvE X a e ρ d) (hn : N (ρ.set i (some (.dat d)))) (hi : X.N[i]? = some x := by rfl) (hx : Loc X.env.scope x := by first | exact Or.inl rfl | exact Or.inr rfl)
    (hs : swapsWith e (some (.Name x pos')) pos.line X.env = pure false := by rfl) (hf : X.fn x = true ∨ X.env.scope.names.lookup x = some .local := by first | exact .inl rfl | exact .inr rfl) : RunS X a (.Assign [.Name x pos'] e pos) ρ N R := fun T σ H D S kn kr =>
  toS (ps_set G.nd hi hx je hs hf) (h T σ H S _ fun v H1 s1 p1 => kn _ H1 _ s1 ((S.same s1).put (x := .dat d) p1) hn)
theorem rs_if {c : Expr} {b : Bool} {body orelse : List Stmt} (hc : EvT X a c ρ b) (h1 : b = true → Run X a body ρ N R) (h2 : b = false → Run X a orelse ρ N R) : RunS X a (.If c body orelse pos) ρ N R := fun T σ H D S kn kr =>
  toS (ps_if jt jss jss) (hc T σ H S _ fun H1 s1 => by
    cases b with
    | true => exact iteT (h1 rfl T σ H1 D (S.same s1) (fun σ2 H2 ρ2 s2 S2 n2 => kn σ2 H2 ρ2 (s1.trans s2) S2 n2) fun v H2 d s2 p r => kr v H2 d (s1.trans s2) p r)
    | false => exact iteF (h2 rfl T σ H1 D (S.same s1) (fun σ2 H2 ρ2 s2 S2 n2 => kn σ2 H2 ρ2 (s1.trans s2) S2 n2) fun v H2 d s2 p r => kr v H2 d (s1.trans s2) p r))
/-- two plain local names at once -/
theorem rs_par {i j : Nat} {x y : Str} {e1 e2 : Expr} {px py pt : Pos} {kt k2 pt2} {d1 d2 : PyData} (G : Good X) (h : EvA X a [e1, e2] ρ [d1, d2]) (hn : N ((ρ.set i (some (.dat d1))).set j (some (.dat d2)))) (hi : X.N[i]? = some x := by rfl) (hj : X.N[j]? = some y := by rfl) (hij : i ≠ j := by decide)
    (hx : X.env.scope.names.lookup x = some .local := by rfl) (hy : X.env.scope.names.lookup y = some .local := by rfl)
    (hw : swappedStores [.Tuple [.Name x px, .Name y py] kt pt] (.Tuple [e1, e2] k2 pt2) X.env = pure (some [x, y]) := by rfl)
    (hs : swapsWithSole [.Tuple [.Name x px, .Name y py] kt pt] (.Tuple [e1, e2] k2 pt2) pos.line X.env = pure false := by rfl) :
    RunS X a (.Assign [.Tuple [.Name x px, .Name y py] kt pt] (.Tuple [e1, e2] k2 pt2) pos) ρ N R := fun T σ H D S kn kr =>
  toS (ps_par G.calm G.nd hi hj hij hx hy ja hw hs) (h T σ H S _ fun vs H1 s1 p1 => by
    obtain ⟨v, v', rfl, q1, q2⟩ := dps2 p1
    exact ⟨v, v', rfl, kn _ H1 _ s1 (((S.same s1).put (x := .dat d1) q1).put (x := .dat d2) q2) hn⟩)
/-- a target of two or three names, from a tuple -/
theorem rs_asg {tg : Expr} {g : TG} {ρ' : Rho} (h : EvE X a e ρ d) (hg : PG X tg g) (ht : ∀ T σ H v, SD X.K a T H σ ρ → Dp X.K (off T H) v d → ∀ Q : L2.St → Hp → Prop, (∀ σ', SD X.K a T H σ' ρ' → Q σ' H) → g v σ H Q) (hn : N ρ')
    (hs : swapsWithSole [tg] e pos.line X.env = pure false := by rfl) (hw : swappedStores [tg] e X.env = pure none := by rfl) (h1 : (assignEach [tg] X.env).map (·.2) = [assign tg X.env] := by rfl) : RunS X a (.Assign [tg] e pos) ρ N R := fun T σ H D S kn kr =>
  toS (ps_asg je hg hs hw h1) (h T σ H S _ fun v H1 s1 p1 => ht T σ H1 v (S.same s1) p1 _ fun σ' S' => kn σ' H1 ρ' s1 S' hn)
theorem rs_while {c : Expr} {body : List Stmt} (G : Good X) (W : Nat → Rho → Prop) (m0 : Nat) (h0 : W m0 ρ)
    (hs : ∀ m ρ', W m ρ' → ∃ b, EvT X a c ρ' b ∧ (b = true → Run X a body ρ' (fun ρ2 => ∃ m', m' < m ∧ W m' ρ2) R) ∧ (b = false → N ρ')) : RunS X a (.While c body [] pos) ρ N R := fun T σ H D S kn kr =>
  toS (ps_while G.ow jt jss) ⟨fun m σ' H' => Sm H H' ∧ ∃ ρ', SD X.K a T H' σ' ρ' ∧ W m ρ', ⟨m0, Sm.refl H, ρ, S, h0⟩, fun m σ' H' hW => by
    obtain ⟨s1, ρ', S', w⟩ := hW
    obtain ⟨b, hb, k1, k2⟩ := hs m ρ' w
    refine hb T σ' H' S' _ fun H2 s2 => ?_
    cases b with
    | true =>
      refine iteT ⟨fun σ3 H3 => ∃ m', m' < m ∧ (Sm H H3 ∧ ∃ ρ', SD X.K a T H3 σ3 ρ' ∧ W m' ρ'), fun _ _ q => q, ?_⟩
      exact k1 rfl T σ' H2 _ (S'.same s2) (fun σ3 H3 ρ3 s3 S3 ⟨m', hm, w'⟩ => ⟨m', hm, (s1.trans s2).trans s3, ρ3, S3, w'⟩) fun v H3 d s3 p r => kr v H3 d ((s1.trans s2).trans s3) p r
    | false => exact iteF (kn σ' H2 ρ' (s1.trans s2) (S'.same s2) (k2 rfl))⟩
end

/-! ### what is walked -/
section
variable {X : Cx} {a : Addr} {ρ : Rho} {tg it e e2 : Expr} {es : List Expr} {ds items : List PyData} {p pos : Pos}
/-- from H1 on, T out of sight, what was in sight stays in sight -/
def Sees (T : Addr → Prop) (H1 : Hp) (T' : Addr → Prop) (H' : Hp) : Prop := Din T' H' ∧ Sa (off T H1) (off T' H')
def Src (X : Cx) (a : Addr) (tg it : Expr) (ρ : Rho) (items : List PyData) : Prop := ∃ wi, PI X tg it wi ∧ ∀ T σ H, SD X.K a T H σ ρ → ∀ R : It → Hp → Prop,
  (∀ J H1 (Gd : Hp → Prop) Y, Sm H H1 → Walk J items.length Gd Y → (∀ T' H', Sees T H1 T' H' → Gd H') →
    (∀ T' i H' x H'', i < items.length → Sees T H1 T' H' → Y i H' x H'' → Sm H' H'' ∧ ∃ d, items[i]? = some d ∧ Dp X.K (off T' H'') x d) → R J H1) → wi σ H R
theorem src_L (h : EvE X a e ρ (.list ds)) : Src X a tg e ρ ds := ⟨_, pi_list je, fun T σ H S R k => h T σ H S _ fun v H1 s1 p1 => by
  obtain ⟨pa, xs, rfl, g1, g2⟩ := dp_lst p1
  have hl := dps_len g2
  refine ⟨pa, rfl, ⟨xs, same_l off_in _ _ g1⟩, k _ H1 (fun H => SqL X.K H pa xs) (YAt xs) s1 (by rw [← hl]; exact walk_list) (fun T' H' s => same_l off_in _ _ (same_l s.2 _ _ g1)) fun T' i H' x H'' hin s y => ?_⟩
  obtain ⟨rfl, hx⟩ := y
  obtain ⟨d, hd⟩ : ∃ d, ds[i]? = some d := by
    have := (List.getElem?_eq_some_iff.mp hx).1
    exact ⟨ds[i]'(by omega), by simp⟩
  obtain ⟨v, hv, pv⟩ := dps_get g2 hd
  rw [hx] at hv
  cases hv
  exact ⟨Sm.refl _, d, hd, dp_same s.2 pv⟩⟩
theorem src_T (h : EvE X a e ρ (.tuple ds)) : Src X a tg e ρ ds := ⟨_, pi_tup je, fun T σ H S R k => h T σ H S _ fun v H1 s1 p1 => by
  obtain ⟨pa, xs, rfl, g1, g2⟩ := dp_tup p1
  have hl := dps_len g2
  refine ⟨pa, rfl, ⟨xs, same_t off_in _ _ g1⟩, k _ H1 (fun H => SqT X.K H pa xs) (YAt xs) s1 (by rw [← hl]; exact walk_tup) (fun T' H' s => same_t off_in _ _ (same_t s.2 _ _ g1)) fun T' i H' x H'' hin s y => ?_⟩
  obtain ⟨rfl, hx⟩ := y
  obtain ⟨d, hd⟩ : ∃ d, ds[i]? = some d := by
    have := (List.getElem?_eq_some_iff.mp hx).1
    exact ⟨ds[i]'(by omega), by simp⟩
  obtain ⟨v, hv, pv⟩ := dps_get g2 hd
  rw [hx] at hv
  cases hv
  exact ⟨Sm.refl _, d, hd, dp_same s.2 pv⟩⟩
/-- the whole numbers below n -/
def upTo (n : Nat) : List PyData := (List.range n).map fun (i : Nat) => PyData.int (i : Int)
theorem src_R {n : Int} (h : EvA X a [e] ρ [.int n]) (hn : n < 2 ^ 62) (h0 : -(2 ^ 62) ≤ n) (hm : X.mg "range" = none) (hg : Gl X "range" := by rfl) (hs : starEach [e] X.env = [(false, eval e X.env)] := by exact star_of rfl) :
    Src X a tg (.Call (.Name "range" p) [e] [] pos) ρ (upTo n.toNat) := ⟨_, pi_range1 hg hm ja hs, fun T σ H S R k => h T σ H S _ fun vs H1 s1 p1 => by
  obtain ⟨v, rfl, q⟩ := dps1 p1
  refine ⟨n, by rw [dp_int q], h0, hn, k _ H1 _ _ s1 (by rw [show (upTo n.toNat).length = n.toNat by simp [upTo]]; exact walk_range) (fun _ _ _ => trivial) fun T' i H' x H'' hin s y => ?_⟩
  obtain ⟨rfl, rfl⟩ := y
  have hi : i < n.toNat := by simpa [upTo] using hin
  refine ⟨Sm.refl _, .int (i : Int), ?_, ?_⟩
  · unfold upTo
    rw [List.getElem?_map, List.getElem?_range hi] <;> rfl
  · have e : V.int ((0 : Int) + (i : Int)) = V.int (i : Int) := by rw [Int.zero_add]
    show Dp X.K (off T' H'') (V.int ((0 : Int) + (i : Int))) (.int (i : Int))
    rw [e]
    exact .int _⟩
theorem dpo_pair {K : PySem.W.Frag} {T : Addr → Prop} {H : Hp} {q : Addr} {x y : V} {d1 d2 : PyData} (t : Din T H) (hq : H q = none) (h1 : Dp K (off T H) x d1) (h2 : Dp K (off T H) y d2) : Dp K (off T (upd H q (.tup [x, y]))) (.ref q) (.tuple [d1, d2]) :=
  dpo_newT t hq (.cons h1 (.cons h2 .nil))
/-- each with its number -/
def numbered (ds : List PyData) : List PyData := (List.range ds.length).map fun (i : Nat) => PyData.tuple [.int (i : Int), ds.getD i .none]
theorem numbered_get {i : Nat} {d : PyData} (h : ds[i]? = some d) : (numbered ds)[i]? = some (.tuple [.int (i : Int), d]) := by
  have hi := (List.getElem?_eq_some_iff.mp h).1
  unfold numbered
  rw [List.getElem?_map, List.getElem?_range hi]
  show some (PyData.tuple [.int (i : Int), ds.getD i .none]) = _
  rw [List.getD_eq_getElem?_getD, h] <;> rfl
theorem src_ET {elts : List Expr} {kk : Nat} {tpos : Pos} (h : EvA X a [e] ρ [.tuple ds]) (hm : X.mg "enumerate" = none) (hg : Gl X "enumerate" := by rfl) (hs : starEach [e] X.env = [(false, eval e X.env)] := by exact star_of rfl) :
    Src X a (.Tuple elts kk tpos) (.Call (.Name "enumerate" p) [e] [] pos) ρ (numbered ds) := ⟨_, pi_enumT hg hm ja hs, fun T σ H S R k => h T σ H S _ fun vs H1 s1 p1 => by
  obtain ⟨v, rfl, q⟩ := dps1 p1
  obtain ⟨pa, xs, rfl, g1, g2⟩ := dp_tup q
  have hl := dps_len g2
  refine ⟨pa, xs, rfl, same_t off_in _ _ g1, k _ H1 _ _ s1 (by rw [show (numbered ds).length = xs.length by simp [numbered, hl]]; exact walk_enumT) (fun T' H' s => same_t off_in _ _ (same_t s.2 _ _ g1)) fun T' i H' x H'' hin s y => ?_⟩
  obtain ⟨T0, y1, y2, rfl, hT, rfl, e1, e2⟩ := y
  have e2 : xs[i]? = some y2 := e2
  cases e1
  obtain ⟨d, hd⟩ : ∃ d, ds[i]? = some d := by
    have := (List.getElem?_eq_some_iff.mp e2).1
    exact ⟨ds[i]'(by omega), by simp⟩
  obtain ⟨v, hv, pv⟩ := dps_get g2 hd
  rw [e2] at hv
  cases hv
  exact ⟨same_new hT, _, numbered_get hd, dpo_pair s.1 hT (.int _) (dp_same s.2 pv)⟩⟩
theorem src_ZT {elts : List Expr} {kk : Nat} {tpos : Pos} {ds2 : List PyData} (h : EvA X a [e, e2] ρ [.tuple ds, .tuple ds2]) (hm : X.mg "zip" = none) (hg : Gl X "zip" := by rfl)
    (hs : starEach [e, e2] X.env = (false, eval e X.env) :: starEach [e2] X.env := by exact star_of rfl) (hpl : (backTo pos (starEach [e2] X.env)).any (·.1) = false := by exact star_no rfl) :
    Src X a (.Tuple elts kk tpos) (.Call (.Name "zip" p) [e, e2] [] pos) ρ (List.zipWith (fun x y => PyData.tuple [x, y]) ds ds2) := ⟨_, RZ.pi_zipA hg hm ja hs hpl, fun T σ H S R k => h T σ H S _ fun vs H1 s1 p1 => by
  obtain ⟨v, v2, rfl, q, q2⟩ := dps2 p1
  obtain ⟨pa, xs, rfl, g1, g2⟩ := dp_tup q
  obtain ⟨pb, ys, rfl, g3, g4⟩ := dp_tup q2
  have hl := dps_len g2
  have hl2 := dps_len g4
  refine ⟨pa, pb, xs, ys, rfl, .inr ⟨same_t off_in _ _ g1, same_t off_in _ _ g3, k _ H1 _ _ s1 (walk_zipT (xs := xs) (ys := ys) (by rw [List.length_zipWith, hl, hl2])) (fun T' H' s => ⟨same_t off_in _ _ (same_t s.2 _ _ g1), same_t off_in _ _ (same_t s.2 _ _ g3)⟩) fun T' i H' x H'' hin s y => ?_⟩⟩
  obtain ⟨T0, y1, y2, rfl, hT, rfl, e1, e2⟩ := y
  have e1 : xs[i]? = some y1 := e1
  have e2 : ys[i]? = some y2 := e2
  obtain ⟨d, hd⟩ : ∃ d, ds[i]? = some d := by
    have := (List.getElem?_eq_some_iff.mp e1).1
    exact ⟨ds[i]'(by omega), by simp⟩
  obtain ⟨d2, hd2⟩ : ∃ d, ds2[i]? = some d := by
    have := (List.getElem?_eq_some_iff.mp e2).1
    exact ⟨ds2[i]'(by omega), by simp⟩
  obtain ⟨v, hv, pv⟩ := dps_get g2 hd
  rw [e1] at hv
  cases hv
  obtain ⟨v2, hv2, pv2⟩ := dps_get g4 hd2
  rw [e2] at hv2
  cases hv2
  exact ⟨same_new hT, _, by rw [List.getElem?_zipWith, hd, hd2], dpo_pair s.1 hT (dp_same s.2 pv) (dp_same s.2 pv2)⟩⟩
end
/-! ### targets -/
def TgSem (K : PySem.W.Frag) (a : Addr) (g : TG) (vs : List Nat) (f : PyData → Rho → Option Rho) : Prop := ∀ T σ H v d ρ ρ', SD K a T H σ ρ → Dp K (off T H) v d → f d ρ = some ρ' → ∀ Q : L2.St → Hp → Prop, (∀ σ', SD K a T H σ' ρ' → L2.wipe σ' vs = L2.wipe σ vs → Q σ' H) → g v σ H Q
theorem wipe_get (σ : L2.St) (k : Nat) : ∀ vs : List Nat, (L2.wipe σ vs)[k]? = if k ∈ vs then (if k < σ.length then some none else none) else σ[k]?
  | [] => by rw [if_neg (by simp)]; rfl
  | v :: vs => by
    unfold L2.wipe
    have ih := wipe_get σ k vs
    have hl := wipe_length σ vs
    by_cases hv : v = k
    · subst hv
      rw [if_pos (by simp)]
      by_cases hk : v < σ.length
      · rw [if_pos hk, List.getElem?_set_self (by rw [hl]; exact hk)]
      · rw [if_neg hk]
        exact List.getElem?_eq_none (by rw [List.length_set, hl]; omega)
    · rw [List.getElem?_set_ne hv, ih]
      by_cases hm : k ∈ vs
      · have h1 : k ∈ v :: vs := List.mem_cons_of_mem _ hm
        rw [if_pos hm, if_pos h1]
      · have h1 : ¬ k ∈ v :: vs := fun z => by
          rcases List.mem_cons.mp z with z | z
          · exact hv z.symm
          · exact hm z
        rw [if_neg hm, if_neg h1]
theorem wipe_set {σ : L2.St} {j : Nat} {x : Option V} {vs : List Nat} (h : j ∈ vs) : L2.wipe (σ.set j x) vs = L2.wipe σ vs := by
  apply List.ext_getElem?
  intro k
  rw [wipe_get, wipe_get, List.length_set]
  by_cases hk : k ∈ vs
  · rw [if_pos hk, if_pos hk]
  · rw [if_neg hk, if_neg hk, List.getElem?_set_ne (fun z => hk (by rw [← z]; exact h))]
def fName (i : Nat) : PyData → Rho → Option Rho := fun d ρ => some (ρ.set i (some (.dat d)))
def fPair (i j : Nat) : PyData → Rho → Option Rho := fun d ρ => match d with
  | .tuple [x, y] => some ((ρ.set i (some (.dat x))).set j (some (.dat y)))
  | _ => none
section
variable {K : PySem.W.Frag} {a : Addr}
theorem tg_name {i : Nat} {vs : List Nat} (h : i ∈ vs) : TgSem K a (gName i) vs (fName i) := fun T σ H v d ρ ρ' S p e Q q => by
  cases e
  exact q _ (S.put (x := .dat d) p) (wipe_set h)
theorem tg_pair {i j : Nat} {vs : List Nat} (h : i ∈ vs) (h2 : j ∈ vs) : TgSem K a (gTup K 2 (gCons (gName i) (gCons (gName j) gNil))) vs (fPair i j) := fun T σ H v d ρ ρ' S p e Q q => by
  unfold fPair at e
  split at e
  · rename_i x y
    cases e
    obtain ⟨pa, xs, rfl, g1, g2⟩ := dpo_tup p
    obtain ⟨v1, v2, rfl, q1, q2⟩ := dps2 g2
    refine ⟨pa, _, rfl, g1, rfl, v1, _, rfl, v2, _, rfl, rfl, q _ ((S.put (x := .dat x) q1).put (x := .dat y) q2) ?_⟩
    rw [wipe_set h2, wipe_set h]
  · cases e
end
/-! ### for -/
section
variable {X : Cx} {a : Addr} {ρ : Rho} {N : Rho → Prop} {R : PyData → Prop} {tg it : Expr} {items : List PyData} {pos : Pos} {body : List Stmt} {g : TG} {vs : List Nat} {f : PyData → Rho → Option Rho}
theorem Sees.refl {T : Addr → Prop} {H : Hp} (d : Din T H) : Sees T H T H := ⟨d, Sa.refl _⟩
theorem Sees.same {T : Addr → Prop} {H H' : Hp} (d : Din T H) (s : Sm H H') : Sees T H T H' := ⟨d.same s, off_same s⟩
theorem rs_for (G : Good X) (hs : Src X a tg it ρ items) (hg : PG X tg g) (ht : TgSem X.K a g vs f) (J : Nat → Rho → Prop) (h0 : J 0 ρ)
    (hb : ∀ n d ρ1, items[n]? = some d → J n ρ1 → ∃ ρ2, f d ρ1 = some ρ2 ∧ Run X a body ρ2 (J (n + 1)) R) (hd : ∀ ρ', J items.length ρ' → N ρ')
    (hf : ∀ x, foldedSetIterable it X.env x = pure x := by intro _; rfl) : RunS X a (.For tg it body [] pos) ρ N R := fun T σ H D S kn kr => by
  obtain ⟨wi, hw, hq⟩ := hs
  refine toS (ps_for G.ow G.calm hw hg jss hf) (hq T σ H S _ fun Ji H1 Gd Y s1 w hG hY => ?_)
  refine for_it w (fun n σ' H' => Sm H1 H' ∧ ∃ ρ', SD X.K a T H' σ' ρ' ∧ J n ρ') ⟨Sm.refl H1, ρ, S.same s1, h0⟩ (fun i σ' H' _ hp => hG T H' (.same (S.same s1).dm hp.1)) (fun i x σ' H' H'' hi hp y => ?_) fun σ' H' hp => ?_
  · obtain ⟨s2, ρ', S', hj⟩ := hp
    obtain ⟨s3, d, hdi, pd⟩ := hY T i H' x H'' hi (.same (S.same s1).dm s2) y
    obtain ⟨ρ2, e2, hrun⟩ := hb i d ρ' hdi hj
    refine ht T σ' H'' x d ρ' ρ2 (S'.same s3) pd e2 _ fun σ2 S2 _ => ?_
    exact hrun T σ2 H'' _ S2 (fun σ3 H3 ρ3 s4 S3 n3 => ⟨(s2.trans s3).trans s4, ρ3, S3, n3⟩) fun v H3 d s4 p r => kr v H3 d (((s1.trans s2).trans s3).trans s4) p r
  · obtain ⟨s2, ρ', S', hj⟩ := hp
    exact kn σ' H' ρ' (s1.trans s2) S' (hd ρ' hj)
end
/-! ### comprehensions -/
section
variable {X : Cx} {a : Addr} {ρ : Rho} {N : Rho → Prop} {R : PyData → Prop} {tg it elt c : Expr} {ifs : List Expr} {scope : Scope} {own : List (Str × Nat)} {items : List PyData} {pos : Pos} {g : TG} {f : PyData → Rho → Option Rho}
/-- in every block that the comprehension may run in -/
def JEb (X : Cx) (scope : Scope) (e : Expr) : TE := fun σ H Q => ∀ s H0 C cl fp, JE (X.blk s H0 scope (compEnvC scope cl C X.env) fp) e σ H Q
def JTb (X : Cx) (scope : Scope) (e : Expr) : TT := fun σ H Q => ∀ s H0 C cl fp, JT (X.blk s H0 scope (compEnvC scope cl C X.env) fp) e σ H Q
def EvEb (X : Cx) (scope : Scope) (a : Addr) (e : Expr) (ρ : Rho) (d : PyData) : Prop := ∀ s H0 C cl fp, EvE (X.blk s H0 scope (compEnvC scope cl C X.env) fp) a e ρ d
def EvTb (X : Cx) (scope : Scope) (a : Addr) (e : Expr) (ρ : Rho) (b : Bool) : Prop := ∀ s H0 C cl fp, EvT (X.blk s H0 scope (compEnvC scope cl C X.env) fp) a e ρ b
/-- what a list that is being filled holds so far -/
def Fill (K : PySem.W.Frag) (T : Addr → Prop) (H1 : Hp) (D : Addr) (ds : List PyData) (H' : Hp) : Prop := H1 D = none ∧ Sm H1 H' ∧ ∃ acc, H' D = some (.lst acc) ∧ DpAll K (off (fun b => T b ∨ b = D) H') acc ds
theorem Fill.sees {K : PySem.W.Frag} {T : Addr → Prop} {H1 H' : Hp} {D : Addr} {ds : List PyData} (t : Din T H1) (h : Fill K T H1 D ds H') : Sees T H1 (fun b => T b ∨ b = D) H' := by
  obtain ⟨h1, h2, acc, h3, h4⟩ := h
  refine ⟨⟨fun b hb => ?_, (t.same h2).tb⟩, fun b o ho n => ?_⟩
  · rcases hb with hb | hb
    · exact (t.same h2).dn b hb
    · rw [hb, h3]
      simp
  · obtain ⟨q1, q2⟩ := off_some ho
    rw [off_no (fun z => z.elim q2 fun z => by rw [z, h1] at q1; cases q1)]
    exact h2.ob b o q1 n
theorem Fill.same {K : PySem.W.Frag} {T : Addr → Prop} {H1 H' H'' : Hp} {D : Addr} {ds : List PyData} (h : Fill K T H1 D ds H') (s : Sm H' H'') : Fill K T H1 D ds H'' := by
  obtain ⟨h1, h2, acc, h3, h4⟩ := h
  exact ⟨h1, h2.trans s, acc, s.ob _ _ h3 (by intro ps z; cases z), dpso s h4⟩
theorem Fill.done {K : PySem.W.Frag} {T : Addr → Prop} {H1 H' : Hp} {D : Addr} {ds : List PyData} (h : Fill K T H1 D ds H') (hT : ¬ T D) : Sm H1 H' ∧ Dp K (off T H') (.ref D) (.list ds) := by
  obtain ⟨h1, h2, acc, h3, h4⟩ := h
  exact ⟨h2, .lst (.of (by rw [off_no hT]; exact h3)) (dps_same off_less h4)⟩
theorem Sm.putL {H1 H' : Hp} {D : Addr} {acc acc' : List V} (s : Sm H1 H') (h1 : H1 D = none) (h3 : H' D = some (.lst acc)) : Sm H1 (upd H' D (.lst acc')) := ⟨fun b o e n => by
    rw [upd_ne (fun z => by rw [z, h1] at e; cases e)]
    exact s.ob b o e n, fun P t => by
    have t1 := t
    obtain ⟨ps, g1, _⟩ := t1
    obtain ⟨ps, g2, g3, g4⟩ := s.tb P t
    refine ⟨ps, by rw [upd_ne (fun z => by rw [z, h1] at g1; cases g1)]; exact g2, g3, fun pos cv hc => ?_⟩
    obtain ⟨c, e1, e2⟩ := g4 pos cv hc
    exact ⟨c, e1, by rw [upd_ne (fun z => by rw [z, h3] at e2; unfold LamX.CodeO at e2; cases e2)]; exact e2⟩, fun b hb => by
    rw [upd_ne (fun z => hb (by rw [z]; exact h1))]
    exact s.dm b hb⟩
theorem Fill.add {K : PySem.W.Frag} {T : Addr → Prop} {H1 H' : Hp} {D : Addr} {ds : List PyData} {d : PyData} {y : V} {acc : List V} (h1 : H1 D = none) (h2 : Sm H1 H') (h3 : H' D = some (.lst acc))
    (h4 : DpAll K (off (fun b => T b ∨ b = D) H') acc ds) (hy : Dp K (off (fun b => T b ∨ b = D) H') y d) : Fill K T H1 D (ds ++ [d]) (upd H' D (.lst (acc ++ [y]))) := by
  refine ⟨h1, h2.putL h1 h3, acc ++ [y], upd_same, ?_⟩
  rw [off_put (.inr rfl)]
  exact dps_snoc h4 hy
def kept (keep : PyData → Bool) (val : PyData → PyData) (items : List PyData) : List PyData := (items.filter keep).map val
theorem kept_succ {keep : PyData → Bool} {val : PyData → PyData} {i : Nat} {d : PyData} (h : items[i]? = some d) : kept keep val (items.take (i + 1)) = if keep d then kept keep val (items.take i) ++ [val d] else kept keep val (items.take i) := by
  unfold kept
  rw [List.take_add_one, h]
  simp only [Option.toList_some, List.filter_append, List.map_append]
  cases hk : keep d with
  | true => rw [if_pos rfl, List.filter_cons_of_pos hk] <;> rfl
  | false =>
    rw [List.filter_cons_of_neg (by rw [hk]; exact Bool.false_ne_true)]
    show _ ++ ([] : List PyData) = _
    rw [List.append_nil] <;> rfl
theorem kept_len {keep : PyData → Bool} {val : PyData → PyData} : (kept keep val items).length ≤ items.length := by
  unfold kept
  rw [List.length_map]
  exact List.length_filter_le _ _
/-- the reading of a comprehension, from its turns -/
theorem lc_read {wi : TI} {tt : TT} {te : TE} {vs : List Nat} {keep : PyData → Bool} {val : PyData → PyData} {T : Addr → Prop} {σ : L2.St} {H : Hp} {Q : VK} (S : SD X.K a T H σ ρ) (hz : items.length < 100000)
    (hq : ∀ R : It → Hp → Prop,
  (∀ J H1 (Gd : Hp → Prop) Y, Sm H H1 → Walk J items.length Gd Y → (∀ T' H', Sees T H1 T' H' → Gd H') →
    (∀ T' i H' x H'', i < items.length → Sees T H1 T' H' → Y i H' x H'' → Sm H' H'' ∧ ∃ d, items[i]? = some d ∧ Dp X.K (off T' H'') x d) → R J H1) → wi σ H R)
    (ht : TgSem X.K a g vs f)
    (hb : ∀ d, d ∈ items → ∃ ρ2, f d (wipeR ρ vs) = some ρ2 ∧ (∀ T σ H, SD X.K a T H σ ρ2 → ∀ Q : Bool → Hp → Prop, (∀ H2, Sm H H2 → Q (keep d) H2) → tt σ H Q) ∧
      (keep d = true → ∀ T σ H, SD X.K a T H σ ρ2 → ∀ Q : VK, (∀ v H2, Sm H H2 → Dp X.K (off T H2) v (val d) → Q v H2) → te σ H Q))
    (k : ∀ v H2, Sm H H2 → Dp X.K (off T H2) v (.list (kept keep val items)) → Q v H2) : tLc wi g tt te vs σ H Q := by
  refine hq _ fun J H1 Gd Y s1 w hG hY => ?_
  intro D hD
  have S1 := S.same s1
  have nD : ¬ T D := fun z => S1.dm.dn D z hD
  refine lc_it w (fun n H' => Fill X.K T H1 D (kept keep val (items.take n)) H') ⟨hD, same_new hD, [], upd_same, .nil⟩
    (fun i H' _ p => hG _ H' (p.sees S1.dm)) (fun i x H' H'' hi p y => ?_) fun H' p => ?_
  · have sees := p.sees S1.dm
    obtain ⟨s3, d, hdi, pd⟩ := hY _ i H' x H'' hi sees y
    obtain ⟨ρ2, e2, k1, k2⟩ := hb d (List.mem_of_getElem? hdi)
    have p' := p.same s3
    have sees' := p'.sees S1.dm
    have S2 : SD X.K a (fun b => T b ∨ b = D) H'' (L2.wipe σ vs) (wipeR ρ vs) := ⟨(S1.wipe vs).len, sees'.1, fun j z e => by
      obtain ⟨v, q1, q2⟩ := (S1.wipe vs).sl j z e
      refine ⟨v, q1, ?_⟩
      cases z with
      | dat d => exact dp_same sees'.2 q2
      | hnd => exact q2
      | adr _ => exact q2
      | val R => exact VR.same (R := R) sees'.2 q2⟩
    refine ht _ _ H'' x d _ ρ2 S2 pd e2 _ fun σ2 S3 hw => ⟨?_, ?_⟩
    · rw [hw]
      apply List.ext_getElem?
      intro n
      rw [wipe_get, wipe_get, wipe_length]
      by_cases hn : n ∈ vs
      · rw [if_pos hn, if_pos hn]
      · rw [if_neg hn, if_neg hn]
    · refine k1 _ σ2 H'' S3 _ fun H3 s4 => ?_
      rw [kept_succ hdi]
      cases hk : keep d with
      | false => exact iteF (p'.same s4)
      | true =>
        refine iteT (k2 hk _ σ2 H3 (S3.same s4) _ fun y H4 s5 py => ?_)
        obtain ⟨h1, h2, acc, h3, h4⟩ := (p'.same s4).same s5
        refine ⟨acc, h3, ?_, .add h1 h2 h3 h4 py⟩
        have := dps_len h4
        have := kept_len (keep := keep) (val := val) (items := items.take i)
        have := List.length_take_le i items
        exact Nat.lt_of_lt_of_le (show acc.length < 100000 by omega) (by decide)
  · rw [List.take_length] at p
    obtain ⟨q1, q2⟩ := p.done nD
    exact k _ H' (s1.trans q1) q2
theorem e_lc {keep : PyData → Bool} {val : PyData → PyData} (G : Good X) (hs : Src X a tg it ρ items) (hz : items.length < 100000) (ok : BlkOk X.N X.env.scope scope own)
    (hg : ∀ (s : Shared) (H : Hp) (C : Addr) (cl : List (Str × Addr)) (fp : List Addr), PG (X.blk s H scope (compEnvC scope cl C X.env) fp) tg g) (ht : TgSem X.K a g (own.map (·.2)) f)
    (hb : ∀ d, d ∈ items → ∃ ρ2, f d (wipeR ρ (own.map (·.2))) = some ρ2 ∧ EvTb X scope a c ρ2 (keep d) ∧ (keep d = true → EvEb X scope a elt ρ2 (val d)))
    (hf : ∀ x, foldedSetIterable it X.env x = pure x := by intro _; rfl) : EvE X a (.ListComp elt [⟨tg, it, [c], 0⟩] scope pos) ρ (.list (kept keep val items)) := fun T σ H S Q q => by
  obtain ⟨wi, hw, hq⟩ := hs
  refine toE (pe_lc (own := own) (te := JEb X scope elt) (tt := JTb X scope c) G.calm G.nd hw ok hg (fun s H0 C cl fp => pts_one ⟨fun pins s' σ' H' Q' I h => h s H0 C cl fp pins s' I⟩) (fun s H0 C cl fp => ⟨fun pins s' σ' H' Q' I h => h s H0 C cl fp pins s' I⟩) hf) ?_
  refine lc_read (f := f) S hz (hq T σ H S) ht (fun d hd => ?_) q
  obtain ⟨ρ2, e, k1, k2⟩ := hb d hd
  exact ⟨ρ2, e, fun T σ H S Q q s H0 C cl fp => k1 s H0 C cl fp T σ H S Q q, fun hk T σ H S Q q s H0 C cl fp => k2 hk s H0 C cl fp T σ H S Q q⟩
def yes (_ : PyData) : Bool := true
theorem kept_yes {val : PyData → PyData} : kept yes val items = items.map val := by
  unfold kept
  rw [List.filter_eq_self.mpr (show ∀ z ∈ items, yes z = true from fun _ _ => rfl)]
theorem e_lc0 {val : PyData → PyData} (G : Good X) (hs : Src X a tg it ρ items) (hz : items.length < 100000) (ok : BlkOk X.N X.env.scope scope own)
    (hg : ∀ (s : Shared) (H : Hp) (C : Addr) (cl : List (Str × Addr)) (fp : List Addr), PG (X.blk s H scope (compEnvC scope cl C X.env) fp) tg g) (ht : TgSem X.K a g (own.map (·.2)) f)
    (hb : ∀ d, d ∈ items → ∃ ρ2, f d (wipeR ρ (own.map (·.2))) = some ρ2 ∧ EvEb X scope a elt ρ2 (val d))
    (hf : ∀ x, foldedSetIterable it X.env x = pure x := by intro _; rfl) : EvE X a (.ListComp elt [⟨tg, it, [], 0⟩] scope pos) ρ (.list (items.map val)) := fun T σ H S Q q => by
  obtain ⟨wi, hw, hq⟩ := hs
  refine toE (pe_lc (own := own) (te := JEb X scope elt) (tt := tYes) G.calm G.nd hw ok hg (fun s H0 C cl fp => pts_nil) (fun s H0 C cl fp => ⟨fun pins s' σ' H' Q' I h => h s H0 C cl fp pins s' I⟩) hf) ?_
  rw [← kept_yes] at q
  refine lc_read (f := f) (keep := yes) S hz (hq T σ H S) ht (fun d hd => ?_) q
  obtain ⟨ρ2, e, k2⟩ := hb d hd
  exact ⟨ρ2, e, fun T σ H S Q q => q H (Sm.refl H), fun hk T σ H S Q q s H0 C cl fp => k2 s H0 C cl fp T σ H S Q q⟩
theorem rs_lc {i : Nat} {y : Str} {py spos : Pos} {keep : PyData → Bool} {val : PyData → PyData} (G : Good X) (hs : Src X a tg it ρ items) (hz : items.length < 100000) (ok : BlkOk X.N X.env.scope scope own)
    (hg : ∀ (s : Shared) (H : Hp) (C : Addr) (cl : List (Str × Addr)) (fp : List Addr), PG (X.blk s H scope (compEnvC scope cl C X.env) fp) tg g) (ht : TgSem X.K a g (own.map (·.2)) f)
    (hb : ∀ d, d ∈ items → ∃ ρ2, f d (wipeR ρ (own.map (·.2))) = some ρ2 ∧ EvTb X scope a c ρ2 (keep d) ∧ (keep d = true → EvEb X scope a elt ρ2 (val d)))
    (hn : N (ρ.set i (some (.dat (.list (kept keep val items)))))) (hy : X.N[i]? = some y := by rfl) (hyl : X.env.scope.names.lookup y = some .local := by rfl)
    (hsw : swapsWith (.ListComp elt [⟨tg, it, [c], 0⟩] scope pos) (some (.Name y py)) spos.line X.env = pure true := by exact sw_true rfl rfl rfl (by decide +kernel))
    (hf : ∀ x, foldedSetIterable it X.env x = pure x := by intro _; rfl) : RunS X a (.Assign [.Name y py] (.ListComp elt [⟨tg, it, [c], 0⟩] scope pos) spos) ρ N R := fun T σ H D S kn kr => by
  obtain ⟨wi, hw, hq⟩ := hs
  refine toS (ps_setLc (own := own) (te := JEb X scope elt) (tt := JTb X scope c) G.calm G.nd hy hyl hsw hw ok hg (fun s H0 C cl fp => pts_one ⟨fun pins s' σ' H' Q' I h => h s H0 C cl fp pins s' I⟩) (fun s H0 C cl fp => ⟨fun pins s' σ' H' Q' I h => h s H0 C cl fp pins s' I⟩) hf) ?_
  refine lc_read (f := f) S hz (hq T σ H S) ht (fun d hd => ?_) fun v H2 s2 p2 => kn _ H2 _ s2 ((S.same s2).put (x := .dat _) p2) hn
  obtain ⟨ρ2, e, k1, k2⟩ := hb d hd
  exact ⟨ρ2, e, fun T σ H S Q q s H0 C cl fp => k1 s H0 C cl fp T σ H S Q q, fun hk T σ H S Q q s H0 C cl fp => k2 hk s H0 C cl fp T σ H S Q q⟩
theorem rs_lc0 {i : Nat} {y : Str} {py spos : Pos} {val : PyData → PyData} (G : Good X) (hs : Src X a tg it ρ items) (hz : items.length < 100000) (ok : BlkOk X.N X.env.scope scope own)
    (hg : ∀ (s : Shared) (H : Hp) (C : Addr) (cl : List (Str × Addr)) (fp : List Addr), PG (X.blk s H scope (compEnvC scope cl C X.env) fp) tg g) (ht : TgSem X.K a g (own.map (·.2)) f)
    (hb : ∀ d, d ∈ items → ∃ ρ2, f d (wipeR ρ (own.map (·.2))) = some ρ2 ∧ EvEb X scope a elt ρ2 (val d))
    (hn : N (ρ.set i (some (.dat (.list (items.map val)))))) (hy : X.N[i]? = some y := by rfl) (hyl : X.env.scope.names.lookup y = some .local := by rfl)
    (hsw : swapsWith (.ListComp elt [⟨tg, it, [], 0⟩] scope pos) (some (.Name y py)) spos.line X.env = pure true := by exact sw_true rfl rfl rfl (by decide +kernel))
    (hf : ∀ x, foldedSetIterable it X.env x = pure x := by intro _; rfl) : RunS X a (.Assign [.Name y py] (.ListComp elt [⟨tg, it, [], 0⟩] scope pos) spos) ρ N R := fun T σ H D S kn kr => by
  obtain ⟨wi, hw, hq⟩ := hs
  refine toS (ps_setLc (own := own) (te := JEb X scope elt) (tt := tYes) G.calm G.nd hy hyl hsw hw ok hg (fun s H0 C cl fp => pts_nil) (fun s H0 C cl fp => ⟨fun pins s' σ' H' Q' I h => h s H0 C cl fp pins s' I⟩) hf) ?_
  rw [← kept_yes] at hn
  refine lc_read (f := f) (keep := yes) S hz (hq T σ H S) ht (fun d hd => ?_) fun v H2 s2 p2 => kn _ H2 _ s2 ((S.same s2).put (x := .dat _) p2) hn
  obtain ⟨ρ2, e, k2⟩ := hb d hd
  exact ⟨ρ2, e, fun T σ H S Q q => q H (Sm.refl H), fun hk T σ H S Q q s H0 C cl fp => k2 s H0 C cl fp T σ H S Q q⟩
end
end Zj
/-! Defs by their blocks; repr of data; defs that want nothing under way of repr. -/
namespace Zj
open PySem PySem.Spec PyProof.Rows L2
variable [Nm]
section
variable {P : Program} {w : World} {K : PySem.W.Frag} {mg : Str → Option Value} {base : Heap}
/-- a def that hands on data, from its block -/
theorem fnR {x qual : Str} {st : Stmt} {f : Addr} {fd : FuncData} {N ps : List Str} {k : Nat} {R : List PyData → PyData → Prop} (F : Fun K x qual st f fd) (S : FnScope N ps (defScope st)) (hl : ∀ ds d, R ds d → ds.length = ps.length)
    (hb : ∀ (cdv : Value) (A : Around) (outer : List Env) (s : Shared) (H : Hp) (E : XK), Good (cxOf CX0 P w K mg base N qual (defScope st) f cdv A outer s H E).nox → Room k (cxOf CX0 P w K mg base N qual (defScope st) f cdv A outer s H E).nox.A → ∀ ds d, R ds d →
      Run (cxOf CX0 P w K mg base N qual (defScope st) f cdv A outer s H E).nox 0 (defBody st) (dats ds ++ List.replicate (N.length - ds.length) none) (fun _ => d = .none) (fun d' => d' = d)) : FnOk P w K mg base CX0 (k + 1) f fd ps (spR K R) :=
  F.ok S (fun vs H Q E h => by
    obtain ⟨T, ds, d, _, h1, h2, _⟩ := h
    rw [dps_len h1]
    exact hl ds d h2) fun cdv A outer s H vs Q E hr h => by
    obtain ⟨T, ds, d, dm, h1, h2, h3⟩ := h
    refine ⟨_, jss, hb cdv A outer s H E ⟨S.nd, rfl, PassesOwn.never, hr.units⟩ hr ds d h2 T _ H _ (SD.start dm h1) (fun σ' H' ρ' s1 S1 e => ?_) fun v H' d' s1 p e => ?_⟩
    · exact h3 _ H' s1 (by rw [e]; exact .non)
    · subst e
      exact h3 v H' s1 p
end

/-! ### repr -/
mutual
/-- data whose text is no long one -/
def Tm : PyData → Prop
  | .none | .bool _ => True
  | .int i => i.natAbs.log2 < 1920
  | .str x => ∀ c ∈ x.cps.toList, c < 16 ^ 8
  | .list xs | .tuple xs => TmAll xs
  | .dict _ => False
def TmAll : List PyData → Prop
  | [] => True
  | x :: xs => Tm x ∧ TmAll xs
end
mutual
theorem tm_show : ∀ d : PyData, Tm d → d.showable = true ∧ d.hasDict = false ∧ d.leavesShort 2000 = true
  | .none, _ => ⟨by simp only [PyData.showable], by simp only [PyData.hasDict], by simp only [PyData.leavesShort]⟩
  | .bool _, _ => ⟨by simp only [PyData.showable], by simp only [PyData.hasDict], by simp only [PyData.leavesShort]⟩
  | .int i, h => by
    have h : i.natAbs.log2 < 1920 := by simpa only [Tm] using h
    refine ⟨by simp only [PyData.showable]; exact decide_eq_true h, by simp only [PyData.hasDict], ?_⟩
    simp only [PyData.leavesShort, PyData.shown]
    have := int_text_len_1921 h
    exact decide_eq_true (by omega)
  | .str x, h => by
    have h : ∀ c ∈ x.cps.toList, c < 16 ^ 8 := by simpa only [Tm] using h
    refine ⟨by simp only [PyData.showable], by simp only [PyData.hasDict], ?_⟩
    simp only [PyData.leavesShort, List.all_eq_true, decide_eq_true_eq]
    exact h
  | .list xs, h => by
    obtain ⟨h1, h2, h3⟩ := tm_showAll xs (by simpa only [Tm] using h)
    exact ⟨by simpa only [PyData.showable] using h1, by simpa only [PyData.hasDict] using h2, by simpa only [PyData.leavesShort] using h3⟩
  | .tuple xs, h => by
    obtain ⟨h1, h2, h3⟩ := tm_showAll xs (by simpa only [Tm] using h)
    exact ⟨by simpa only [PyData.showable] using h1, by simpa only [PyData.hasDict] using h2, by simpa only [PyData.leavesShort] using h3⟩
  | .dict _, h => by simp only [Tm] at h
theorem tm_showAll : ∀ ds : List PyData, TmAll ds → PyData.showableAll ds = true ∧ PyData.hasDictAll ds = false ∧ PyData.leavesShortAll 2000 ds = true
  | [], _ => ⟨by simp only [PyData.showableAll], by simp only [PyData.hasDictAll], by simp only [PyData.leavesShortAll]⟩
  | x :: xs, h => by
    have h : Tm x ∧ TmAll xs := by simpa only [TmAll] using h
    obtain ⟨a1, a2, a3⟩ := tm_show x h.1
    obtain ⟨b1, b2, b3⟩ := tm_showAll xs h.2
    exact ⟨by simp only [PyData.showableAll, a1, b1, Bool.and_self], by simp only [PyData.hasDictAll, a2, b2, Bool.or_self], by simp only [PyData.leavesShortAll, a3, b3, Bool.and_self]⟩
end
structure Tame (d : PyData) : Prop where
  tm : Tm d
  bk : d.bulk ≤ 8000
  dp : d.depth ≤ 60
theorem Tame.len {d : PyData} (t : Tame d) : d.shown.length ≤ sizeLine := by
  have h := PyData.shown_le_bulk 2000 (by decide) d (tm_show d t.tm).2.2
  have := t.bk
  have e : sizeLine = 16777216 := sizeLine_eq
  have : 2002 * d.bulk ≤ 2002 * 8000 := Nat.mul_le_mul_left _ t.bk
  omega
section
variable {X : Cx} {d : PyData}
theorem call_repr (hg : X.A.guards = some []) (hu : X.A.units + 64 < cLine) : CallR X (.builtin "repr") (fun vs H Q => ∃ v d, vs = [v] ∧ Dp X.K H v d ∧ Tame d ∧ Q (.str d.shown) H) := by
  intro pins s σ H vs us Q I r h
  obtain ⟨v, d, rfl, p, t, q⟩ := h
  obtain ⟨u, rfl, ru⟩ := vals1 r
  have ts := tm_show d t.tm
  have big : ∀ pa : Addr, u = .ref pa → wpAny (model X.prog X.w) X.A (call (.builtin "repr") [u]) (EP X pins σ Q) X.xe s := fun pa e => by
    subst e
    obtain ⟨as, hr⟩ := Dp.reads I d v _ p ru
    refine repr_of_reads' hr ts.1 (PyData.noDict_hsm ts.2.1) hg (by have := t.dp; omega) (fun _ _ e => e) (fun h' u tk hk => ?_) t.len
    exact ⟨.str d.shown, H, I.kept (t' := tk) hk, ⟨u, rfl⟩, q⟩
  cases p with
  | non =>
    cases ru
    exact PySem.P.repr_of_none ⟨.str _, H, I.tok _, ⟨_, rfl⟩, by simpa only [PyData.shown] using q⟩
  | bl b =>
    cases ru
    exact PySem.P.repr_of_bool ⟨.str _, H, I.tok _, ⟨_, rfl⟩, by simpa only [PyData.shown] using q⟩
  | int i =>
    obtain ⟨t', rfl⟩ := ru
    exact PySem.P.repr_of_int (by simpa only [Tm] using t.tm) ⟨.str _, H, I.tok _, ⟨_, rfl⟩, by simpa only [PyData.shown] using q⟩
  | str x =>
    obtain ⟨t', rfl⟩ := ru
    exact PySem.P.repr_of_str ⟨.str _, H, I.tok _, ⟨_, rfl⟩, by simpa only [PyData.shown] using q⟩ (by have := t.len; simpa only [PyData.shown] using this)
  | lst _ _ => exact big _ ru
  | tup _ _ => exact big _ ru
theorem ca_repr (hg : X.A.guards = some []) (hu : X.A.units + 64 < cLine) (t : Tame d) : CaD X (.builtin "repr") [d] (.str d.shown) := ⟨_, call_repr hg hu, fun T vs H dm p Q q => by
  obtain ⟨v, rfl, h⟩ := dps1 p
  exact ⟨v, d, rfl, dp_off h, t, q _ H (Sm.refl H) (.str _)⟩⟩
end

/-! ### defs that are called while no repr is under way -/
structure FnG (P : Program) (w : World) (K : PySem.W.Frag) (mg : Str → Option Value) (base : Heap) (CX : CXT) (k : Nat) (f : Addr) (fd : FuncData) (ps : List Str) (sp : Sp) : Prop where
  len : ∀ vs H Q E, sp vs H Q E → vs.length = ps.length
  run : ∀ (A : Around) (outer : List Env) (s : Shared) (H : Hp) (args : Args) (us : List Value) (vs : List V) (Q : VK) (E : XK), A.guards = some [] → Room k A → Env0 P w K mg base A outer s H → BindsTo s fd args (ps.zip us) → Vals vs us → sp vs H Q E →
    codeAny (model P w) A (.call (.ref f) args) (CR CX outer P w H s Q E) s
section
variable {P : Program} {w : World} {K : PySem.W.Frag} {mg : Str → Option Value} {base : Heap} {CX : CXT}
theorem FnG.of {k : Nat} {f : Addr} {fd : FuncData} {ps : List Str} {sp : Sp} (F : FnOk P w K mg base CX k f fd ps sp) : FnG P w K mg base CX k f fd ps sp :=
  ⟨F.len, fun A outer s H args us vs Q E _ hr e0 hb hv hs => F.run A outer s H args us vs Q E hr e0 hb hv hs⟩
theorem fnG {x qual : Str} {st : Stmt} {f : Addr} {fd : FuncData} {N ps : List Str} {k : Nat} {sp : Sp} (F : Fun K x qual st f fd) (S : FnScope N ps (defScope st)) (len : ∀ vs H Q E, sp vs H Q E → vs.length = ps.length)
    (hbody : ∀ (cdv : Value), fd.code = cdv → ∀ (A : Around) (outer : List Env) (s : Shared) (H : Hp) (vs : List V) (Q : VK) (E : XK), A.guards = some [] → Room k (A.deeper (envOfC qual (defScope st) s.heap.objs.size f cdv)) → sp vs H Q E →
      JSs (cxOf CX0 P w K mg base N qual (defScope st) f cdv A outer s H E).nox (defBody st) { nx := fun _ H' => Q .non H', rt := Q } (start N vs) H) : FnG P w K mg base CX0 (k + 1) f fd ps sp := by
  obtain ⟨oc, od, kV, doc, pm, an, cdv, ct, osl, rfl, lk, hcd⟩ := F.ex
  refine ⟨len, fun A outer s H args us vs Q E hgd hr e0 hb r hsp => ?_⟩
  have toS : ∀ b o, base.get? b = some o → s.heap.get? b = some o := fun b o e => (e0.bs b o e).1
  have KX : K.In s.heap := e0.mod.kin.keeps toS
  refine codeAny_call_function hr.depth (KX _ _ lk) rfl S.co S.gen rfl (PySem.W.codeRec_of KX hcd) (hb _ _ _ _ ?_)
  refine wpAny_newFunctionEnv_cells S.kind (fun y hy => ?_) fun env he s1 x => ?_
  · rcases S.par y.1 (List.of_mem_zip (show (y.1, y.2) ∈ ps.zip us from hy)).1 with q | q
    · exact .inl q
    · exact .inr ⟨q, PySem.W.cellsFrom_some _ _ _ (.inl q)⟩
  · subst he
    refine ⟨(e0.mod.nolimit.keeps toS).keeps x.toInCall.keep, codeAny_func ?_⟩
    have J0 := inv_start (CX := CX0) (E := E) S hr.hd e0 (len _ _ _ _ hsp) r x
    have body := (jss.nox).run [] s1 (start N vs) H _ J0 (hbody cdv rfl A outer s H vs Q E hgd (hr.deeper _) hsp)
    refine wpAny_mono body (fun fl s' hs => ?_) fun e s' hs => hs
    cases fl with
    | ret u =>
      obtain ⟨v, σ', H', J, rv, q⟩ := hs
      exact ⟨v, H', J.os, J.bare, J.base, J.hok, rv, q⟩
    | next =>
      obtain ⟨σ', H', J, q⟩ := hs
      exact ⟨.non, H', J.os, J.bare, J.base, J.hok, rfl, q⟩
    | brk =>
      obtain ⟨_, _, _, q⟩ := hs
      exact q.elim
    | cont =>
      obtain ⟨_, _, _, q⟩ := hs
      exact q.elim
end
structure CalG (P : Program) (w : World) (K : PySem.W.Frag) (mg : Str → Option Value) (base : Heap) (k : Nat) (x : Str) (ps : List Str) (sp : Sp) : Prop where
  ex : ∃ f fd, FnG P w K mg base CX0 k f fd ps sp ∧ mg x = some (.ref f) ∧ PySem.W.keepIn K (.ref f) = true ∧ Binds K fd ps []
section
variable {X : Cx} {k : Nat} {x : Str} {ps : List Str} {sp : Sp} {e : Expr} {es : List Expr} {p pos : Pos}
theorem pe_callG {t : TA} (C : CalG X.prog X.w X.K X.mg X.base k x ps sp) (hgd : X.A.guards = some []) (hr : Room k X.A) (ha : PA X (e :: es) t) (hg : Gl X x := by rfl) (hdb : (x == ("__debug__" : Str)) = false := by decide)
    (he : starEach (e :: es) X.env = (false, eval e X.env) :: starEach es X.env := by exact star_of rfl) (hpl : (backTo pos (starEach es X.env)).any (·.1) = false := by exact star_no rfl) :
    PE X (.Call (.Name x p) (e :: es) [] pos) (fun σ H Q => t σ H fun vs H1 => sp vs H1 Q E0) := by
  obtain ⟨f, fd, F, hm, hk, hb⟩ := C.ex
  refine ⟨fun pins s σ H Q I h => ?_⟩
  refine wpAny_Call_Name_kw (ld_glob I hg hm ?_ hdb)
  refine PySem.W.callWith_K (h₀ := X.base) I.ok.mod.kin hk (thn (ha.run pos pins s σ H _ I h) fun us s1 hv => ?_) he hpl
  obtain ⟨vs, H1, I1, r1, q1⟩ := hv
  refine ⟨I1.kIn, ?_⟩
  have hl : us.length = ps.length := by rw [← r1.length]; exact F.len _ _ _ _ q1
  have hbd := hb s1 us I1.kIn (by rw [List.append_nil]; exact hl)
  rw [List.append_nil] at hbd
  refine wpAny_call (codeAny_mono (F.run X.A X.stack s1 H1 ⟨us, []⟩ us vs Q E0 hgd hr I1.env0 hbd r1 q1) fun r s' hq => ?_)
  cases r with
  | error e => exact hq.elim
  | ok fl =>
    cases fl with
    | ret u => exact I1.after hq
    | next => exact hq.elim
    | brk => exact hq.elim
    | cont => exact hq.elim
end
end Zj
/-! The law's own call, at the top. -/
namespace Zj
open PySem PySem.Spec PyProof.Rows L2
variable [Nm]
section
variable {P : Program} {w : World} {K : PySem.W.Frag} {mg mb : Str → Option Value} {k : Nat} {fa a : Addr} {fd : FuncData} {x : Str} {sp : Sp} {s1 : Shared} {vs : List Value} {ns : List Int}
/-- from an abstract heap that tracks the script or nothing -/
theorem law_core (KX : K.In s1.heap) (hns : s1.heap.Ns mainGlobals mg) (hb : s1.heap.Ns builtinsNs mb) (hbb : ∀ x : Str, x ≠ "__name__" → mb x = bootBuiltins x) (hlim : s1.heap.NoLimit) (hg : s1.gens = #[])
    (ha : s1.heap.get? a = some { cls := .type "list", data := .seq vs.toArray }) (hr : Room k callerA)
    (F : ∀ base : Heap, K.In base → base.Ns mainGlobals mg → FnG P w K mg base CX0 k fa fd [x] sp) (hbind : ∀ (s : Shared) (u : Value), BindsTo s fd ⟨[u], []⟩ [(x, u)])
    {H : Hp} (hO : Only H) (hS : SqL K H a (ns.map V.int)) (hok : HOk P w H s1.heap) (hA : ∀ b, H b ≠ none → b = a) (hK : H a ≠ none → K.lookup a = none)
    (hsp : sp [.ref a] H (fun v _ => v = .bl true) fun _ _ _ => False) :
    codeAny (model P w) callerA (.call (.ref fa) ⟨[.ref a], []⟩) (fun r s' => r = .ok (.ret (.bool true)) ∧ OldK s1.heap s'.heap ∧ s'.os = s1.os ∧ AllBare s'.gens) s1 := by
  have only : ∀ {b : Addr} {o : Obj}, s1.heap.get? b = some o → (∀ vs n, o.data ≠ .seq vs n) → H b = none := fun {b o} e d => by
    cases q : H b with
    | none => rfl
    | some u =>
      have e' := hA b (by rw [q]; exact fun z => by cases z)
      rw [e', ha] at e
      cases e
      exact (d _ _ rfl).elim
  have ns' : ∀ {b : Addr} {m : Str → Option Value}, s1.heap.Ns b m → (hidT s1.heap H).Ns b m := fun {b m} ⟨o, es, ep, e, d, r⟩ =>
    ⟨o, es, ep, hidT_get e (only e fun vs n z => by rw [d] at z; cases z), d, r⟩
  have kin : K.In (hidT s1.heap H) := fun b o e => by
    refine hidT_get (KX b o e) ?_
    cases q : H b with
    | none => rfl
    | some u =>
      have e' := hA b (by rw [q]; exact fun z => by cases z)
      subst e'
      rw [hK (by rw [q]; exact fun z => by cases z)] at e
      cases e
  obtain ⟨mc, lim1, lim2⟩ := hlim
  have md : L2.Mod K mg (hidT s1.heap H) := ⟨kin, ns' hns, ⟨mb, ns' hb, hbb⟩, ⟨mc, ns' lim1, lim2⟩⟩
  have e0 : Env0 P w K mg (hidT s1.heap H) callerA [] s1 H := {
    frames := rfl
    mod := md
    bs := fun b o e => of_hidT e
    bsz := Nat.le_of_eq (hidT_size _ _)
    funs := trivial
    frf := fun b z => by cases z
    hok := hok
    bare := .of_eq hg }
  have run := (F _ kin (ns' hns)).run callerA [] s1 H ⟨[.ref a], []⟩ [.ref a] [.ref a] _ _ rfl hr e0 (hbind s1 (.ref a)) (.cons rfl .nil) hsp
  refine codeAny_mono run fun r s' h => ?_
  cases r with
  | error e => exact h.elim
  | ok fl =>
    cases fl with
    | next => exact h.elim
    | brk => exact h.elim
    | cont => exact h.elim
    | ret u =>
      obtain ⟨v, H', os, bare, un, hok', r', q⟩ := h
      cases q
      cases r'
      refine ⟨rfl, OldK.of_keep fun b o e => ?_, os, bare⟩
      rcases hO b with z | ⟨ob, xs, z⟩
      · exact un.keep b o e z (fun y => by cases y) (fun y => by cases y)
      · have g1 := (hok b _ z).1
        have g2 := (hok' b _ (un.frzs b ob _ z)).1
        rw [e] at g1
        cases g1
        exact g2
theorem law_endG (KX : K.In s1.heap) (hns : s1.heap.Ns mainGlobals mg) (hb : s1.heap.Ns builtinsNs mb) (hbb : ∀ x : Str, x ≠ "__name__" → mb x = bootBuiltins x) (hlim : s1.heap.NoLimit) (hg : s1.gens = #[])
    (ha : s1.heap.get? a = some { cls := .type "list", data := .seq vs.toArray }) (hi : IntsAre vs ns) (hl : ns.length ≤ sizeLine) (hr : Room k callerA)
    (F : ∀ base : Heap, K.In base → base.Ns mainGlobals mg → FnG P w K mg base CX0 k fa fd [x] sp) (hbind : ∀ (s : Shared) (u : Value), BindsTo s fd ⟨[u], []⟩ [(x, u)])
    (hsp : ∀ H : Hp, Only H → SqL K H a (ns.map V.int) → sp [.ref a] H (fun v _ => v = .bl true) fun _ _ _ => False) :
    codeAny (model P w) callerA (.call (.ref fa) ⟨[.ref a], []⟩) (fun r s' => r = .ok (.ret (.bool true)) ∧ OldK s1.heap s'.heap ∧ s'.os = s1.os ∧ AllBare s'.gens) s1 := by
  have rv := vals_ints hi
  cases hk : K.lookup a with
  | some o =>
    have e := KX a o hk
    rw [ha] at e
    cases e
    have hS : SqL K (fun _ => none) a (ns.map V.int) := .inr ⟨_, vs.toArray, _, hk, rfl, rfl, rfl, by rw [List.size_toArray, hi.length]; exact hl, by simpa using rv⟩
    have hO : Only fun _ => none := fun _ => .inl rfl
    exact law_core KX hns hb hbb hlim hg ha hr F hbind hO hS (fun b u z => by cases z) (fun b z => (z rfl).elim) (fun z => (z rfl).elim) (hsp _ hO hS)
  | none =>
    let H0 : Hp := upd (fun _ => none) a (.frz { cls := .type "list", data := .seq vs.toArray } (.lst (ns.map V.int)))
    have at0 : ∀ b, b ≠ a → H0 b = none := fun b hb => upd_ne hb
    have hS : SqL K H0 a (ns.map V.int) := .inl (.inr ⟨_, upd_same⟩)
    have hO : Only H0 := fun b => by
      by_cases hb : b = a
      · subst hb
        exact .inr ⟨_, _, upd_same⟩
      · exact .inl (at0 b hb)
    refine law_core KX hns hb hbb hlim hg ha hr F hbind hO hS (fun b u z => ?_) (fun b z => ?_) (fun _ => hk) (hsp _ hO hS)
    · by_cases hb : b = a
      · subst hb
        have z' := upd_same.symm.trans z
        cases z'
        exact ⟨ha, by rw [List.length_map]; exact hl, vs, _, rv, ha⟩
      · rw [at0 b hb] at z
        cases z
    · by_cases hb : b = a
      · exact hb
      · exact absurd (at0 b hb) z
end
theorem walk_G {l : PySem.W.OpenLaw} {n k : Nat} {q : Program} {loose : List Str} {XP : (Str → Option Value) → Heap → Prop} {YP : World → Heap → Prop} {d : DefRec} {K : Params → PySem.W.Frag} {sp : PySem.W.Frag → Sp} {x : Str}
    (hn : l.most = some n) (hn2 : n ≤ sizeLine) (hdf : d.params.defaults = []) (hr : Room k callerA) (hY : ∀ (w : World) (h : Heap), YP w h → (K w.params).In h)
    (F : ∀ (w : World) (mg : Str → Option Value) (fa : Addr) (h : Heap), (K w.params).In h → h.Ns mainGlobals mg → mg d.name = some (.ref fa) →
      ∃ fd : FuncData, (∀ (s : Shared) (u : Value), BindsTo s fd ⟨[u], []⟩ [(x, u)]) ∧ ∀ base : Heap, (K w.params).In base → base.Ns mainGlobals mg → FnG l.prog w (K w.params) mg base CX0 k fa fd [x] (sp (K w.params)))
    (hsp : ∀ (K : PySem.W.Frag) (H : Hp) (a : Addr) (ns : List Int), ns.length ≤ n → (∀ z ∈ ns, Builtin.Int.intBits z ≤ 1048576) → Only H → SqL K H a (ns.map V.int) → sp K [.ref a] H (fun v _ => v = .bl true) fun _ _ _ => False) :
    PySem.W.WalkO q loose XP YP l.row.toRowW d [] (fun f vs => PySem.call f vs) :=
  Att.attach_callB hn hdf fun w s0 s1 mg mb fa o pm cd doc a vs ns G Y ho hd hcd hmg hobj hints hlen hbits hg => by
    obtain ⟨fd, hb, hF⟩ := F w mg fa _ (hY w _ Y) G.T.g hmg
    exact law_endG (hY w _ Y) G.T.g G.T.b G.T.builtins G.T.nolimit hg hobj hints (Nat.le_trans hlen hn2) hr hF hb fun H hO hS => hsp _ H a ns hlen hbits hO hS
end Zj
/-! Text that draws from the law's own state. -/
namespace Zj
open PySem PySem.Spec PyProof.Rows L2
variable [Nm]
/-- the pairs of the law's state -/
def sts (left seed : Int) (pc : Addr) (spot : Int) : List (Key × V) := [(Sum.inr "left", .int left), (Sum.inr "seed", .int seed), (Sum.inr "cells", .ref pc), (Sum.inr "spot", .int spot)]
/-- the law's state stands at a; n more numbers may be drawn -/
def MS (K : PySem.W.Frag) (H : Hp) (a : Addr) (n : Nat) : Prop := ∃ (left seed : Int) (pc : Addr) (spot : Int) (cells : List Int), H a = some (.dK (sts left seed pc spot)) ∧ SqL K H pc (cells.map V.int) ∧ 1 ≤ cells.length ∧ cells.length ≤ 100 ∧
  (∀ c ∈ cells, Bits 2000000 c) ∧ 0 ≤ seed ∧ seed < 2147483647 ∧ 0 ≤ spot ∧ spot + n ≤ 1000000000000
section
variable {K : PySem.W.Frag} {H H' : Hp} {a : Addr} {n m : Nat} {T : Addr → Prop} {σ : L2.St} {ρ : Rho}
theorem MS.mono (h : MS K H a n) (hm : m ≤ n) : MS K H a m := by
  obtain ⟨left, seed, pc, spot, cells, h1, h2, h3, h4, h5, h6, h7, h8, h9⟩ := h
  exact ⟨left, seed, pc, spot, cells, h1, h2, h3, h4, h5, h6, h7, h8, by omega⟩
theorem MS.same (h : MS K H a n) (s : Sa H H') : MS K H' a n := by
  obtain ⟨left, seed, pc, spot, cells, h1, h2, h3⟩ := h
  exact ⟨left, seed, pc, spot, cells, s _ _ h1 (by intro ps z; cases z), same_l s _ _ h2, h3⟩
theorem MS.dic (h : MS K H a n) : ∃ kvs, H a = some (.dK kvs) := by
  obtain ⟨left, seed, pc, spot, cells, h1, _⟩ := h
  exact ⟨_, h1⟩
theorem MS.vis (h : MS K (off T H) a n) : ¬ T a ∧ ∃ kvs, H a = some (.dK kvs) := by
  obtain ⟨kvs, h1⟩ := h.dic
  obtain ⟨h2, h3⟩ := off_some h1
  exact ⟨h3, kvs, h2⟩
theorem kp_off (s : Kp a H H') (h : ¬ T a) : Ka a (off T H) (off T H') := by
  refine ⟨fun b o hb e n => ?_, fun ⟨kvs, e⟩ => ?_⟩
  · obtain ⟨e1, e2⟩ := off_some e
    rw [off_no e2]
    exact s.ka.1 b o hb e1 n
  · obtain ⟨e1, e2⟩ := off_some e
    rw [off_no h]
    exact s.ka.2 ⟨kvs, e1⟩
theorem Din.kp (d : Din T H) (s : Kp a H H') : Din T H' := ⟨fun b hb => s.dm b (d.dn b hb), fun P hP => s.tb P (d.tb P hP)⟩
theorem SD.kpo (h : SD K a T H σ ρ) (s : Kp a H H') (m : MS K (off T H) a n) : SD K a T H' σ ρ := by
  obtain ⟨h1, kvs, h2⟩ := m.vis
  refine ⟨h.len, h.dm.kp s, fun i x e => ?_⟩
  obtain ⟨v, g1, g2⟩ := h.sl i x e
  refine ⟨v, g1, ?_⟩
  cases x with
  | dat d => exact dp_kp (kp_off s h1) m.dic g2
  | hnd => exact g2
  | adr _ => exact g2
  | val R => exact VR.kp (R := R) (kp_off s h1) m.dic g2
theorem dp_kpo {v : V} {d : PyData} (h : Dp K (off T H) v d) (s : Kp a H H') (m : MS K (off T H) a n) : Dp K (off T H') v d := dp_kp (kp_off s m.vis.1) m.dic h
theorem dps_kpo {v : List V} {d : List PyData} (h : DpAll K (off T H) v d) (s : Kp a H H') (m : MS K (off T H) a n) : DpAll K (off T H') v d := dps_kp (kp_off s m.vis.1) m.dic h
end

section
variable {X : Cx} {a : Addr} {ρ : Rho}
/-- an expression that may draw: from n left to m left, what comes of it is told by P -/
def EvM (X : Cx) (a : Addr) (e : Expr) (ρ : Rho) (n m : Nat) (P : PyData → Prop) : Prop := ∀ T σ H, SD X.K a T H σ ρ → MS X.K (off T H) a n → ∀ Q : VK, (∀ v d H2, Kp a H H2 → MS X.K (off T H2) a m → Dp X.K (off T H2) v d → P d → Q v H2) → JE X e σ H Q
def EvMT (X : Cx) (a : Addr) (e : Expr) (ρ : Rho) (n m : Nat) (P : Bool → Prop) : Prop := ∀ T σ H, SD X.K a T H σ ρ → MS X.K (off T H) a n → ∀ Q : Bool → Hp → Prop, (∀ b H2, Kp a H H2 → MS X.K (off T H2) a m → P b → Q b H2) → JT X e σ H Q
def EvMA (X : Cx) (a : Addr) (es : List Expr) (ρ : Rho) (n m : Nat) (P : List PyData → Prop) : Prop := ∀ T σ H, SD X.K a T H σ ρ → MS X.K (off T H) a n → ∀ Q : List V → Hp → Prop, (∀ vs ds H2, Kp a H H2 → MS X.K (off T H2) a m → DpAll X.K (off T H2) vs ds → P ds → Q vs H2) → JA X es σ H Q
variable {e l r : Expr} {es : List Expr} {pos : Pos} {n m k : Nat} {d : PyData} {P P1 : PyData → Prop} {P2 : PyData → PyData → Prop}
theorem m_pure (h : EvE X a e ρ d) (hp : P d) (hm : m ≤ n) : EvM X a e ρ n m P := fun T σ H S ms Q q => h T σ H S Q fun v H2 s p => q v d H2 (.of s) ((ms.same (off_same s)).mono hm) p hp
theorem mt_pure {b : Bool} {PB : Bool → Prop} (h : EvT X a e ρ b) (hp : PB b) (hm : m ≤ n) : EvMT X a e ρ n m PB := fun T σ H S ms Q q => h T σ H S Q fun H2 s => q b H2 (.of s) ((ms.same (off_same s)).mono hm) hp
theorem ma_pure {ds : List PyData} {PA : List PyData → Prop} (h : EvA X a es ρ ds) (hp : PA ds) (hm : m ≤ n) : EvMA X a es ρ n m PA := fun T σ H S ms Q q => h T σ H S Q fun vs H2 s p => q vs ds H2 (.of s) ((ms.same (off_same s)).mono hm) p hp
theorem m_weak {n' m' : Nat} {P' : PyData → Prop} (h : EvM X a e ρ n m P) (h1 : n ≤ n') (h2 : m' ≤ m) (h3 : ∀ d, P d → P' d) : EvM X a e ρ n' m' P' := fun T σ H S ms Q q => h T σ H S (ms.mono h1) Q fun v d H2 s ms2 p hp => q v d H2 s (ms2.mono h2) p (h3 d hp)
theorem ma_nil (hm : m ≤ n) : EvMA X a [] ρ n m (fun ds => ds = []) := ma_pure a_nil rfl hm
theorem ma_cons {P2 : PyData → List PyData → Prop} (h : EvM X a e ρ n m P) (h2 : ∀ d, P d → EvMA X a es ρ m k (P2 d)) (hs : starEach (e :: es) X.env = (false, eval e X.env) :: starEach es X.env := by exact star_of rfl) : EvMA X a (e :: es) ρ n k (fun ds => ∃ d ds', ds = d :: ds' ∧ P d ∧ P2 d ds') := fun T σ H S ms Q q =>
  toA (pa_cons je ja hs) (h T σ H S ms _ fun v d H1 s1 ms1 p1 hp => h2 d hp T σ H1 (S.kpo s1 ms) ms1 _ fun vs ds H2 s2 ms2 p2 hp2 => q _ _ H2 (s1.trans s2) ms2 (.cons (dp_kpo p1 s2 ms1) p2) ⟨d, ds, rfl, hp, hp2⟩)
theorem m_bin {op : Operator} (h1 : EvM X a l ρ n m P1) (h2 : ∀ d, P1 d → EvM X a r ρ m k (P2 d)) (ho : ∀ d1 d2, P1 d1 → P2 d1 d2 → ∃ d, OpD X (binaryOp op) d1 d2 d ∧ P d) : EvM X a (.BinOp l op r pos) ρ n k P := fun T σ H S ms Q q => by
  intro pins s I
  have key : ∀ (rr : R2), (∀ x y H Q, rr x y H Q → ∃ r' : R2, OpR X (binaryOp op) r' ∧ r' x y H Q) → OpR X (binaryOp op) rr := fun rr hrr pins s σ H x y v u Q I rx ry h => by
    obtain ⟨r', h1, h2⟩ := hrr x y H Q h
    exact h1 pins s σ H x y v u Q I rx ry h2
  refine (pe_op (key (fun x y H Q => ∃ r' : R2, OpR X (binaryOp op) r' ∧ r' x y H Q) fun _ _ _ _ h => h) je je).run pins s σ H Q I ?_
  refine h1 T σ H S ms _ fun v1 d1 H1 s1 ms1 p1 q1 => h2 d1 q1 T σ H1 (S.kpo s1 ms) ms1 _ fun v2 d2 H2 s2 ms2 p2 q2 => ?_
  obtain ⟨d, ⟨r', hr, hq⟩, hP⟩ := ho d1 d2 q1 q2
  exact ⟨r', hr, hq T v1 v2 H2 ((S.kpo s1 ms).kpo s2 ms1).dm (dp_kpo p1 s2 ms1) p2 Q fun v H3 s3 p3 => q v d H3 ((s1.trans s2).trans (.of s3)) (ms2.same (off_same s3)) p3 hP⟩
theorem m_cmp {op : CmpOp} (h1 : EvM X a l ρ n m P1) (h2 : ∀ d, P1 d → EvM X a r ρ m k (P2 d)) (ho : ∀ d1 d2, P1 d1 → P2 d1 d2 → ∃ d, OpD X (compareOp op) d1 d2 d ∧ P d) (hm : behindInMarks op r = false) : EvM X a (.Compare l [op] [r] pos) ρ n k P := fun T σ H S ms Q q => by
  intro pins s I
  have key : ∀ (rr : R2), (∀ x y H Q, rr x y H Q → ∃ r' : R2, OpR X (compareOp op) r' ∧ r' x y H Q) → OpR X (compareOp op) rr := fun rr hrr pins s σ H x y v u Q I rx ry h => by
    obtain ⟨r', h1, h2⟩ := hrr x y H Q h
    exact h1 pins s σ H x y v u Q I rx ry h2
  refine (pe_cmpR (key (fun x y H Q => ∃ r' : R2, OpR X (compareOp op) r' ∧ r' x y H Q) fun _ _ _ _ h => h) je je hm).run pins s σ H Q I ?_
  refine h1 T σ H S ms _ fun v1 d1 H1 s1 ms1 p1 q1 => h2 d1 q1 T σ H1 (S.kpo s1 ms) ms1 _ fun v2 d2 H2 s2 ms2 p2 q2 => ?_
  obtain ⟨d, ⟨r', hr, hq⟩, hP⟩ := ho d1 d2 q1 q2
  exact ⟨r', hr, hq T v1 v2 H2 ((S.kpo s1 ms).kpo s2 ms1).dm (dp_kpo p1 s2 ms1) p2 Q fun v H3 s3 p3 => q v d H3 ((s1.trans s2).trans (.of s3)) (ms2.same (off_same s3)) p3 hP⟩
theorem mt_cmp {op : CmpOp} {PB : Bool → Prop} (h1 : EvM X a l ρ n m P1) (h2 : ∀ d, P1 d → EvM X a r ρ m k (P2 d)) (ho : ∀ d1 d2, P1 d1 → P2 d1 d2 → ∃ b, OpD X (compareOp op) d1 d2 (.bool b) ∧ PB b) (hm : behindInMarks op r = false) : EvMT X a (.Compare l [op] [r] pos) ρ n k PB := fun T σ H S ms Q q => by
  intro pins s I
  have key : ∀ (rr : R2), (∀ x y H Q, rr x y H Q → ∃ r' : R2, OpR X (compareOp op) r' ∧ r' x y H Q) → OpR X (compareOp op) rr := fun rr hrr pins s σ H x y v u Q I rx ry h => by
    obtain ⟨r', h1, h2⟩ := hrr x y H Q h
    exact h1 pins s σ H x y v u Q I rx ry h2
  refine (pt_cmpR (key (fun x y H Q => ∃ r' : R2, OpR X (compareOp op) r' ∧ r' x y H Q) fun _ _ _ _ h => h) je je hm).run pins s σ H Q I ?_
  refine h1 T σ H S ms _ fun v1 d1 H1 s1 ms1 p1 q1 => h2 d1 q1 T σ H1 (S.kpo s1 ms) ms1 _ fun v2 d2 H2 s2 ms2 p2 q2 => ?_
  obtain ⟨b, ⟨r', hr, hq⟩, hP⟩ := ho d1 d2 q1 q2
  exact ⟨r', hr, hq T v1 v2 H2 ((S.kpo s1 ms).kpo s2 ms1).dm (dp_kpo p1 s2 ms1) p2 _ fun v H3 s3 p3 => ⟨b, dp_bool p3, q b H3 ((s1.trans s2).trans (.of s3)) (ms2.same (off_same s3)) hP⟩⟩
theorem mt_not {PB : Bool → Prop} (h : EvMT X a e ρ n m fun b => PB (!b)) : EvMT X a (.UnaryOp .Not e pos) ρ n m PB := fun T σ H S ms Q q => toT (pt_not jt) (h T σ H S ms _ fun b H2 s2 ms2 hp => q (!b) H2 s2 ms2 hp)
theorem mt_val {PB : Bool → Prop} (h : EvM X a e ρ n m fun d => ∃ b, d = .bool b ∧ PB b) (he : ∀ whole, isTrue e X.env whole = (do let v ← whole; standAt e.pos; holding [v] (truthy v)) := by intro _; rfl) : EvMT X a e ρ n m PB := fun T σ H S ms Q q =>
  toT (pt_val je he) (h T σ H S ms _ fun v d H2 s2 ms2 p hp => by
    obtain ⟨b, rfl, hb⟩ := hp
    exact ⟨b, dp_bool p, q b H2 s2 ms2 hb⟩)
/-- a or b, where a is known to fail -/
theorem mt_orF {PB : Bool → Prop} {b : Expr} {rest : List Expr} (h : EvMT X a e ρ n m fun b => b = false) (h2 : EvMT X a (.BoolOp .Or (b :: rest) pos) ρ m k PB) (hw : PW X (.BoolOp .Or (b :: rest) pos) (JT X (.BoolOp .Or (b :: rest) pos))) : EvMT X a (.BoolOp .Or (e :: b :: rest) pos) ρ n k PB := fun T σ H S ms Q q =>
  toT (PW.pt (pw_or jt hw)) (h T σ H S ms _ fun b H1 s1 ms1 hb => by
    subst hb
    exact iteF (h2 T σ H1 (S.kpo s1 ms) ms1 _ fun b H2 s2 ms2 hp => q b H2 (s1.trans s2) ms2 hp))
theorem m_ixL {o i : Expr} {ds : List PyData} {PI : PyData → Prop} (h1 : EvE X a o ρ (.list ds)) (h2 : EvM X a i ρ n m PI) (hi : ∀ d, PI d → ∃ j d', d = .int j ∧ atI ds j = some d' ∧ P d') (hs : PlainIx i := by exact fun _ _ => rfl) : EvM X a (.Subscript o i pos) ρ n m P := fun T σ H S ms Q q =>
  toE (pe_ix ix_list je je hs) (h1 T σ H S _ fun v1 H1 s1 p1 => h2 T σ H1 (S.same s1) (ms.same (off_same s1)) _ fun v2 d2 H2 s2 ms2 p2 hp2 => by
    obtain ⟨j, d', rfl, g0, gP⟩ := hi d2 hp2
    obtain ⟨pa, xs, rfl, g1, g2⟩ := dpo_lst (dp_kpo p1 s2 (ms.same (off_same s1)))
    obtain ⟨v, g3, g4⟩ := ati_dps g2 g0
    exact ⟨pa, xs, j, v, rfl, dp_int p2, g1, g3, q v d' H2 ((Kp.of s1).trans s2) ms2 g4 gP⟩)
end
end Zj
/-! Calls, blocks, loops, comprehensions that draw. -/
namespace Zj
open PySem PySem.Spec PyProof.Rows L2
variable [Nm]
/-- a def that may draw at most c numbers: of the arguments behind the state R tells what comes of them -/
def spM (K : PySem.W.Frag) (c : Nat) (R : List PyData → (PyData → Prop) → Prop) : Sp := fun vs H Q _ => ∃ a T n vs' ds P, vs = .ref a :: vs' ∧ Din T H ∧ MS K (off T H) a (n + c) ∧ DpAll K (off T H) vs' ds ∧ R ds P ∧ ∀ v d H', Kp a H H' → MS K (off T H') a n → Dp K (off T H') v d → P d → Q v H'
section
variable {X : Cx} {a : Addr} {ρ : Rho} {e l r : Expr} {es : List Expr} {pos p pm : Pos} {n m k c : Nat} {d : PyData} {P : PyData → Prop} {x y : Str} {ps : List Str} {lv : Nat}
theorem m_call {R : List PyData → (PyData → Prop) → Prop} {i : Nat} {ds : List PyData} (C : CalG X.prog X.w X.K X.mg X.base lv x ps (spM X.K c R)) (hgd : X.A.guards = some []) (hr : Room lv X.A) (hi : ρ[i]? = some (some .hnd)) (ha : EvA X a es ρ ds) (hR : R ds P) (hn : m + c ≤ n)
    (hN : X.N[i]? = some y := by rfl) (hv : Vis X.env.scope y := by first | exact Or.inl rfl | exact Or.inr (Or.inl rfl) | exact Or.inr (Or.inr rfl)) (hd : (y == ("__debug__" : Str)) = false := by decide) (hcd : (y == ("__classdict__" : Str)) = false := by decide)
    (hs : starEach (.Name y pm :: es) X.env = (false, eval (.Name y pm) X.env) :: starEach es X.env := by exact star_of rfl) (hg : Gl X x := by rfl) (hdb : (x == ("__debug__" : Str)) = false := by decide) (hpl : (backTo pos (starEach es X.env)).any (·.1) = false := by exact star_no rfl) :
    EvM X a (.Call (.Name x p) (.Name y pm :: es) [] pos) ρ n m P := fun T σ H S ms Q q => by
  obtain ⟨v, h1, h2⟩ := S.sl i _ hi
  have h2 : v = .ref a := h2
  subst h2
  refine toE (pe_callG C hgd hr (pa_cons (pe_var hN hv hd hcd) ja hs) hg hdb hs hpl) ⟨_, h1, ha T σ H S _ fun vs H1 s1 p1 => ?_⟩
  exact ⟨a, T, m, vs, ds, P, rfl, S.dm.same s1, (ms.same (off_same s1)).mono hn, p1, hR, fun v d H' s2 ms2 p2 hp => q v d H' ((Kp.of s1).trans s2) ms2 p2 hp⟩
/-- a def that keeps all, of what was drawn -/
theorem m_callR {R : List PyData → PyData → Prop} {PA : List PyData → Prop} (C : Cal X.prog X.w X.K X.mg X.base lv x ps (spR X.K R)) (hr : Room lv X.A) (ha : EvMA X a (e :: es) ρ n m PA) (hR : ∀ ds, PA ds → ∃ d, R ds d ∧ P d)
    (hg : Gl X x := by rfl) (hdb : (x == ("__debug__" : Str)) = false := by decide) (he : starEach (e :: es) X.env = (false, eval e X.env) :: starEach es X.env := by exact star_of rfl) (hpl : (backTo pos (starEach es X.env)).any (·.1) = false := by exact star_no rfl) :
    EvM X a (.Call (.Name x p) (e :: es) [] pos) ρ n m P := fun T σ H S ms Q q => by
  obtain ⟨f, fd, F, hm, hk, hb⟩ := C.ex
  refine toE (pe_call F hr hg hm hk hb (ds := []) (dvs := []) .nil pass0 ja hdb he hpl) (ha T σ H S ms _ fun vs ds H1 s1 ms1 p1 hp => ?_)
  rw [List.append_nil]
  obtain ⟨d, h1, h2⟩ := hR ds hp
  exact ⟨T, ds, d, (S.kpo s1 ms).dm, p1, h1, fun v H2 s2 p2 => q v d H2 (s1.trans (.of s2)) (ms1.same (off_same s2)) p2 h2⟩
theorem e_callG {R : List PyData → PyData → Prop} {ds : List PyData} (C : CalG X.prog X.w X.K X.mg X.base lv x ps (spR X.K R)) (hgd : X.A.guards = some []) (hr : Room lv X.A) (ha : EvA X a (e :: es) ρ ds) (hR : R ds d)
    (hg : Gl X x := by rfl) (hdb : (x == ("__debug__" : Str)) = false := by decide) (he : starEach (e :: es) X.env = (false, eval e X.env) :: starEach es X.env := by exact star_of rfl) (hpl : (backTo pos (starEach es X.env)).any (·.1) = false := by exact star_no rfl) :
    EvE X a (.Call (.Name x p) (e :: es) [] pos) ρ d := fun T σ H S Q q =>
  toE (pe_callG C hgd hr ja hg hdb he hpl) (ha T σ H S _ fun vs H1 s1 p1 => ⟨T, ds, d, S.dm.same s1, p1, hR, fun v H2 s2 p2 => q v H2 (s1.trans s2) p2⟩)
/-- a built-in, of what was drawn -/
theorem m_callT {id : String} {PA : List PyData → Prop} (hc : ∀ ds, PA ds → ∃ d, CaD X (.type id) ds d ∧ P d) (ha : EvMA X a (e :: es) ρ n m PA) (hm : X.mg x = none) (hv : bootBuiltins x = some (.type id)) (hg : Gl X x := by rfl) (hn : x ≠ "__name__" := by decide) (hdb : (x == ("__debug__" : Str)) = false := by decide)
    (he : starEach (e :: es) X.env = (false, eval e X.env) :: starEach es X.env := by exact star_of rfl) (hpl : (backTo pos (starEach es X.env)).any (·.1) = false := by exact star_no rfl) : EvM X a (.Call (.Name x p) (e :: es) [] pos) ρ n m P := fun T σ H S ms Q q => by
  have key : CallR X (.type id) (fun vs H Q => ∃ r', CallR X (.type id) r' ∧ r' vs H Q) := fun pins s σ H vs us Q I r h => by
    obtain ⟨r', h1, h2⟩ := h
    exact h1 pins s σ H vs us Q I r h2
  refine toE (pe_callTy key hg hm hv ja hn hdb he hpl) (ha T σ H S ms _ fun vs ds H1 s1 ms1 p1 hp => ?_)
  obtain ⟨d, ⟨r', h1, h2⟩, h3⟩ := hc ds hp
  exact ⟨r', h1, h2 T vs H1 (S.kpo s1 ms).dm p1 Q fun v H2 s2 p2 => q v d H2 (s1.trans (.of s2)) (ms1.same (off_same s2)) p2 h3⟩
theorem m_tup {x1} {PA : List PyData → Prop} (h : EvMA X a es ρ n m PA) (hP : ∀ ds, PA ds → ds.length ≤ 100000 ∧ P (.tuple ds)) : EvM X a (.Tuple es x1 pos) ρ n m P := fun T σ H S ms Q q =>
  toE (pe_tup ja) (h T σ H S ms _ fun vs ds H1 s1 ms1 p1 hp => ⟨by rw [dps_len p1]; exact szl (hP ds hp).1, fun p h0 => q _ _ _ (s1.trans (.of (same_new h0))) (ms1.same (off_same (same_new h0))) (dpo_newT (S.kpo s1 ms).dm h0 p1) (hP ds hp).2⟩)
theorem m_lst {PA : List PyData → Prop} (h : EvMA X a es ρ n m PA) (hP : ∀ ds, PA ds → ds.length ≤ 100000 ∧ P (.list ds)) : EvM X a (.List es pos) ρ n m P := fun T σ H S ms Q q =>
  toE (pe_lst ja) (h T σ H S ms _ fun vs ds H1 s1 ms1 p1 hp => ⟨by rw [dps_len p1]; exact szl (hP ds hp).1, fun p h0 => q _ _ _ (s1.trans (.of (same_new h0))) (ms1.same (off_same (same_new h0))) (dpo_newL (S.kpo s1 ms).dm h0 p1) (hP ds hp).2⟩)
end

/-! ### blocks -/
section
variable {X : Cx} {a : Addr} {ρ : Rho} {n m : Nat} {N : Nat → Rho → Prop} {R : Nat → PyData → Prop} {st : Stmt} {sts : List Stmt} {e : Expr} {d : PyData} {pos : Pos} {P : PyData → Prop}
def RunM (X : Cx) (a : Addr) (sts : List Stmt) (ρ : Rho) (n : Nat) (N : Nat → Rho → Prop) (R : Nat → PyData → Prop) : Prop := ∀ T σ H D, SD X.K a T H σ ρ → MS X.K (off T H) a n → (∀ σ' H' ρ' m, Kp a H H' → SD X.K a T H' σ' ρ' → MS X.K (off T H') a m → N m ρ' → D.nx σ' H') → (∀ v H' d m, Kp a H H' → MS X.K (off T H') a m → Dp X.K (off T H') v d → R m d → D.rt v H') → JSs X sts D σ H
def RunMS (X : Cx) (a : Addr) (st : Stmt) (ρ : Rho) (n : Nat) (N : Nat → Rho → Prop) (R : Nat → PyData → Prop) : Prop := ∀ T σ H D, SD X.K a T H σ ρ → MS X.K (off T H) a n → (∀ σ' H' ρ' m, Kp a H H' → SD X.K a T H' σ' ρ' → MS X.K (off T H') a m → N m ρ' → D.nx σ' H') → (∀ v H' d m, Kp a H H' → MS X.K (off T H') a m → Dp X.K (off T H') v d → R m d → D.rt v H') → JS X st D σ H
theorem q_nil (h : N n ρ) : RunM X a [] ρ n N R := fun T σ H D S ms kn kr => toSs pss_nil (kn σ H ρ n Kp.refl S ms h)
theorem q_cons (h : RunMS X a st ρ n (fun m ρ' => RunM X a sts ρ' m N R) R) : RunM X a (st :: sts) ρ n N R := fun T σ H D S ms kn kr =>
  toSs (pss_cons js jss) (h T σ H { D with nx := fun σ' H' => JSs X sts D σ' H' } S ms (fun σ' H' ρ' m s S' ms' hN => hN T σ' H' D S' ms' (fun σ2 H2 ρ2 m2 s2 S2 ms2 n2 => kn σ2 H2 ρ2 m2 (s.trans s2) S2 ms2 n2) fun v H2 d m2 s2 ms2 p r => kr v H2 d m2 (s.trans s2) ms2 p r) kr)
theorem q_one (h : RunMS X a st ρ n N R) : RunM X a [st] ρ n N R := fun T σ H D S ms kn kr => toSs (pss_one js) (h T σ H D S ms kn kr)
/-- a statement that draws nothing -/
theorem q_pure {R' : PyData → Prop} {N' : Rho → Prop} (h : RunS X a st ρ N' R') (hn : ∀ ρ', N' ρ' → N n ρ') (hr : ∀ d, R' d → R n d) : RunMS X a st ρ n N R := fun T σ H D S ms kn kr =>
  h T σ H D S (fun σ' H' ρ' s S' h' => kn σ' H' ρ' n (.of s) S' (ms.same (off_same s)) (hn ρ' h')) fun v H' d s p r => kr v H' d n (.of s) (ms.same (off_same s)) p (hr d r)
theorem qs_ret (h : EvM X a e ρ n m P) (hr : ∀ d, P d → R m d) : RunMS X a (.Return (some e) pos) ρ n N R := fun T σ H D S ms kn kr => toS (ps_ret je) (h T σ H S ms _ fun v d H1 s1 ms1 p1 hp => kr v H1 d m s1 ms1 p1 (hr d hp))
theorem qs_set {i : Nat} {x : Str} {pos' : Pos} (G : Good X) (h : EvM X a e ρ n m P) (hn : ∀ d, P d → N m (ρ.set i (some (.dat d)))) (hi : X.N[i]? = some x := by rfl) (hx : Loc X.env.scope x := by first | exact Or.inl rfl | exact Or.inr rfl)
    (hs : swapsWith e (some (.Name x pos')) pos.line X.env = pure false := by rfl) (hf : X.fn x = true ∨ X.env.scope.names.lookup x = some .local := by first | exact .inl rfl | exact .inr rfl) : RunMS X a (.Assign [.Name x pos'] e pos) ρ n N R := fun T σ H D S ms kn kr =>
  toS (ps_set G.nd hi hx je hs hf) (h T σ H S ms _ fun v d H1 s1 ms1 p1 hp => kn _ H1 _ m s1 ((S.kpo s1 ms).put (x := .dat d) p1) ms1 (hn d hp))
theorem qs_par {i j : Nat} {x y : Str} {e1 e2 : Expr} {px py pt : Pos} {kt k2 pt2} {PA : List PyData → Prop} (G : Good X) (h : EvMA X a [e1, e2] ρ n m PA) (hn : ∀ ds, PA ds → ∃ d1 d2, ds = [d1, d2] ∧ N m ((ρ.set i (some (.dat d1))).set j (some (.dat d2)))) (hi : X.N[i]? = some x := by rfl) (hj : X.N[j]? = some y := by rfl) (hij : i ≠ j := by decide)
    (hx : X.env.scope.names.lookup x = some .local := by rfl) (hy : X.env.scope.names.lookup y = some .local := by rfl)
    (hw : swappedStores [.Tuple [.Name x px, .Name y py] kt pt] (.Tuple [e1, e2] k2 pt2) X.env = pure (some [x, y]) := by rfl)
    (hs : swapsWithSole [.Tuple [.Name x px, .Name y py] kt pt] (.Tuple [e1, e2] k2 pt2) pos.line X.env = pure false := by rfl) :
    RunMS X a (.Assign [.Tuple [.Name x px, .Name y py] kt pt] (.Tuple [e1, e2] k2 pt2) pos) ρ n N R := fun T σ H D S ms kn kr =>
  toS (ps_par G.calm G.nd hi hj hij hx hy ja hw hs) (h T σ H S ms _ fun vs ds H1 s1 ms1 p1 hp => by
    obtain ⟨d1, d2, rfl, hN⟩ := hn ds hp
    obtain ⟨v, v', rfl, q1, q2⟩ := dps2 p1
    exact ⟨v, v', rfl, kn _ H1 _ m s1 (((S.kpo s1 ms).put (x := .dat d1) q1).put (x := .dat d2) q2) ms1 hN⟩)
theorem qs_asg {tg : Expr} {g : TG} {vs : List Nat} {f : PyData → Rho → Option Rho} (h : EvM X a e ρ n m P) (hg : PG X tg g) (ht : TgSem X.K a g vs f) (hn : ∀ d, P d → ∃ ρ', f d ρ = some ρ' ∧ N m ρ')
    (hs : swapsWithSole [tg] e pos.line X.env = pure false := by rfl) (hw : swappedStores [tg] e X.env = pure none := by rfl) (h1 : (assignEach [tg] X.env).map (·.2) = [assign tg X.env] := by rfl) : RunMS X a (.Assign [tg] e pos) ρ n N R := fun T σ H D S ms kn kr =>
  toS (ps_asg je hg hs hw h1) (h T σ H S ms _ fun v d H1 s1 ms1 p1 hp => by
    obtain ⟨ρ', e', hN⟩ := hn d hp
    exact ht T σ H1 v d ρ ρ' (S.kpo s1 ms) p1 e' _ fun σ' S' _ => kn σ' H1 ρ' m s1 S' ms1 hN)
theorem qs_if {c : Expr} {PB : Bool → Prop} {body orelse : List Stmt} (hc : EvMT X a c ρ n m PB) (h1 : PB true → RunM X a body ρ m N R) (h2 : PB false → RunM X a orelse ρ m N R) : RunMS X a (.If c body orelse pos) ρ n N R := fun T σ H D S ms kn kr =>
  toS (ps_if jt jss jss) (hc T σ H S ms _ fun b H1 s1 ms1 hb => by
    cases b with
    | true => exact iteT (h1 hb T σ H1 D (S.kpo s1 ms) ms1 (fun σ2 H2 ρ2 m2 s2 S2 ms2 n2 => kn σ2 H2 ρ2 m2 (s1.trans s2) S2 ms2 n2) fun v H2 d m2 s2 ms2 p r => kr v H2 d m2 (s1.trans s2) ms2 p r)
    | false => exact iteF (h2 hb T σ H1 D (S.kpo s1 ms) ms1 (fun σ2 H2 ρ2 m2 s2 S2 ms2 n2 => kn σ2 H2 ρ2 m2 (s1.trans s2) S2 ms2 n2) fun v H2 d m2 s2 ms2 p r => kr v H2 d m2 (s1.trans s2) ms2 p r))
end
/-! ### the state out of sight, while something is walked -/
section
variable {K : PySem.W.Frag} {a : Addr} {T : Addr → Prop} {H H' : Hp} {σ : L2.St} {ρ : Rho} {n : Nat}
def And1 (T : Addr → Prop) (a : Addr) : Addr → Prop := fun b => T b ∨ b = a
theorem dp_hide {v : V} {d : PyData} (h : Dp K (off T H) v d) (m : MS K (off T H) a n) : Dp K (off (And1 T a) H) v d := by
  obtain ⟨kvs, hk⟩ := m.dic
  have key : ∀ b o, off T H b = some o → (∀ k, o ≠ .dK k) → off (And1 T a) H b = some o := fun b o e hn => by
    have hne : b ≠ a := fun z => by
      rw [z, hk] at e
      cases e
      exact hn _ rfl
    obtain ⟨e1, e2⟩ := off_some e
    rw [off_no (fun z => z.elim e2 hne)]
    exact e1
  refine dp_map (fun b xs h => ?_) (fun b xs h => ?_) d v h
  · rcases h with (h | ⟨o, h⟩) | h
    · exact .inl (.inl (key _ _ h fun k z => by cases z))
    · exact .inl (.inr ⟨o, key _ _ h fun k z => by cases z⟩)
    · exact .inr h
  · rcases h with (h | ⟨o, h⟩) | h
    · exact .inl (.inl (key _ _ h fun k z => by cases z))
    · exact .inl (.inr ⟨o, key _ _ h fun k z => by cases z⟩)
    · exact .inr h
theorem vr_hide {R : VR} {v : V} (h : R.rel (off T H) v) (m : MS K (off T H) a n) : R.rel (off (And1 T a) H) v := R.per (fun b o e k => by
  obtain ⟨e1, e2⟩ := off_some e
  obtain ⟨_, kvs, hk⟩ := m.vis
  have hb : b ≠ a := fun z => by
    rw [z, hk] at e1
    cases e1
    exact k.2 _ rfl
  rw [off_no (fun z => z.elim e2 hb)]
  exact e1) h
theorem Din.and1 (d : Din T H) (m : MS K (off T H) a n) : Din (And1 T a) H := ⟨fun b hb => by
  rcases hb with hb | hb
  · exact d.dn b hb
  · obtain ⟨_, kvs, h⟩ := m.vis
    rw [hb, h]
    exact (fun z => nomatch z), d.tb⟩
theorem SD.hide (h : SD K a T H σ ρ) (m : MS K (off T H) a n) : SD K a (And1 T a) H σ ρ := ⟨h.len, h.dm.and1 m, fun i x e => by
  obtain ⟨v, g1, g2⟩ := h.sl i x e
  refine ⟨v, g1, ?_⟩
  cases x with
  | dat d => exact dp_hide g2 m
  | hnd => exact g2
  | adr _ => exact g2
  | val R => exact vr_hide (R := R) g2 m⟩
theorem kp_same1 (s : Kp a H H') : Sa (off (And1 T a) H) (off (And1 T a) H') := fun b o e n => by
  obtain ⟨e1, e2⟩ := off_some e
  rw [off_no e2]
  exact s.ka.1 b o (fun z => e2 (.inr z)) e1 n
theorem Kp.putL {H1 : Hp} {D : Addr} {acc acc' : List V} (s : Kp a H1 H') (h1 : H1 D = none) (h3 : H' D = some (.lst acc)) (Da : D ≠ a) : Kp a H1 (upd H' D (.lst acc')) := ⟨⟨fun b o hb e n => by
    rw [upd_ne (fun z => by rw [z, h1] at e; cases e)]
    exact s.ka.1 b o hb e n, fun z => by
    rw [upd_ne (Ne.symm Da)]
    exact s.ka.2 z⟩, fun P t => by
    have t1 := t
    obtain ⟨ps, g1, _⟩ := t1
    obtain ⟨ps, g2, g3, g4⟩ := s.tb P t
    refine ⟨ps, by rw [upd_ne (fun z => by rw [z, h1] at g1; cases g1)]; exact g2, g3, fun pos cv hc => ?_⟩
    obtain ⟨c, e1, e2⟩ := g4 pos cv hc
    exact ⟨c, e1, by rw [upd_ne (fun z => by rw [z, h3] at e2; unfold LamX.CodeO at e2; cases e2)]; exact e2⟩, fun b hb => by
    rw [upd_ne (fun z => hb (by rw [z]; exact h1))]
    exact s.dm b hb⟩
inductive Fa2 (V : PyData → PyData → Prop) : List PyData → List PyData → Prop
  | nil : Fa2 V [] []
  | cons {x y : PyData} {xs ys : List PyData} : V x y → Fa2 V xs ys → Fa2 V (x :: xs) (y :: ys)
theorem Fa2.len {V : PyData → PyData → Prop} {xs ys : List PyData} (h : Fa2 V xs ys) : xs.length = ys.length := by
  induction h with
  | nil => rfl
  | cons _ _ ih => rw [List.length_cons, List.length_cons, ih]
theorem Fa2.snoc {V : PyData → PyData → Prop} {xs ys : List PyData} {x y : PyData} (h : Fa2 V xs ys) (hx : V x y) : Fa2 V (xs ++ [x]) (ys ++ [y]) := by
  induction h with
  | nil => exact .cons hx .nil
  | cons a _ ih => exact .cons a ih
theorem Fa2.all {V : PyData → PyData → Prop} {W : PyData → Prop} {xs ys : List PyData} (h : Fa2 V xs ys) (hw : ∀ x y, V x y → W y) : ∀ y ∈ ys, W y := by
  induction h with
  | nil => exact fun y hy => by cases hy
  | cons a _ ih =>
    intro z hz
    rcases List.mem_cons.mp hz with e | e
    · rw [e]
      exact hw _ _ a
    · exact ih z e
end
section
variable {X : Cx} {a : Addr} {ρ : Rho} {n k c ce : Nat} {N : Nat → Rho → Prop} {R : Nat → PyData → Prop} {tg it elt t : Expr} {items : List PyData} {pos : Pos} {body : List Stmt} {g : TG} {vs : List Nat} {f : PyData → Rho → Option Rho} {scope : Scope} {own : List (Str × Nat)} {P : PyData → Prop}
theorem qs_for (G : Good X) (hs : Src X a tg it ρ items) (hg : PG X tg g) (ht : TgSem X.K a g vs f) (J : Nat → Nat → Rho → Prop) (h0 : J 0 n ρ)
    (hb : ∀ i d m ρ1, items[i]? = some d → J i m ρ1 → ∃ ρ2, f d ρ1 = some ρ2 ∧ RunM X a body ρ2 m (fun m' ρ' => J (i + 1) m' ρ') R) (hd : ∀ m ρ', J items.length m ρ' → N m ρ')
    (hf : ∀ x, foldedSetIterable it X.env x = pure x := by intro _; rfl) : RunMS X a (.For tg it body [] pos) ρ n N R := fun T σ H D S ms kn kr => by
  obtain ⟨wi, hw, hq⟩ := hs
  refine toS (ps_for G.ow G.calm hw hg jss hf) (hq (And1 T a) σ H (S.hide ms) _ fun Ji H1 Gd Y s1 w hG hY => ?_)
  have ms1 := ms.same (off_same s1)
  have S1 := S.same s1
  have sees : ∀ {H'}, Kp a H1 H' → Sees (And1 T a) H1 (And1 T a) H' := fun {H'} s => by
    refine ⟨⟨fun b hb => ?_, (S1.dm.kp s).tb⟩, kp_same1 s⟩
    rcases hb with hb | hb
    · exact (S1.dm.kp s).dn b hb
    · obtain ⟨kvs, hk⟩ := s.ka.2 ms1.vis.2
      rw [hb, hk]
      exact fun z => by cases z
  refine for_it w (fun i σ' H' => Kp a H1 H' ∧ ∃ ρ' m, SD X.K a T H' σ' ρ' ∧ MS X.K (off T H') a m ∧ J i m ρ') ⟨Kp.refl, ρ, n, S1, ms1, h0⟩ (fun i σ' H' _ hp => hG _ H' (sees hp.1)) (fun i x σ' H' H'' hi hp y => ?_) fun σ' H' hp => ?_
  · obtain ⟨s2, ρ', m, S', ms', hj⟩ := hp
    obtain ⟨s3, d, hdi, pd⟩ := hY _ i H' x H'' hi (sees s2) y
    obtain ⟨ρ2, e2, hrun⟩ := hb i d m ρ' hdi hj
    refine ht T σ' H'' x d ρ' ρ2 (S'.same s3) (dp_same off_less pd) e2 _ fun σ2 S2 _ => ?_
    have s23 : Kp a H1 H'' := s2.trans (.of s3)
    exact hrun T σ2 H'' _ S2 (ms'.same (off_same s3)) (fun σ3 H3 ρ3 m3 s4 S3 ms3 n3 => ⟨s23.trans s4, ρ3, m3, S3, ms3, n3⟩) fun v H3 d m3 s4 ms4 p r => kr v H3 d m3 ((Kp.of s1).trans (s23.trans s4)) ms4 p r
  · obtain ⟨s2, ρ', m, S', ms', hj⟩ := hp
    exact kn σ' H' ρ' m ((Kp.of s1).trans s2) S' ms' (hd m ρ' hj)

def FillM (K : PySem.W.Frag) (a : Addr) (T : Addr → Prop) (H1 : Hp) (D : Addr) (m : Nat) (V : PyData → PyData → Prop) (xs : List PyData) (H' : Hp) : Prop := H1 D = none ∧ Kp a H1 H' ∧ Din (And1 T D) H' ∧ MS K (off (And1 T D) H') a m ∧ ∃ acc ds, H' D = some (.lst acc) ∧ DpAll K (off (And1 T D) H') acc ds ∧ Fa2 V xs ds
theorem lcM_own {wi : TI} {tt : TT} {te : TE} {keep : PyData → Bool} {V : PyData → PyData → Prop} {T : Addr → Prop} {σ : L2.St} {H : Hp} {Q : VK} (S : SD X.K a T H σ ρ) (ms : MS X.K (off T H) a n) (hn : k + c * items.length ≤ n) (hz : items.length < 100000)
    (hq : ∀ R : It → Hp → Prop,
  (∀ J H1 (Gd : Hp → Prop) Y, Sm H H1 → Walk J items.length Gd Y → (∀ T' H', Sees (And1 T a) H1 T' H' → Gd H') →
    (∀ T' i H' x H'', i < items.length → Sees (And1 T a) H1 T' H' → Y i H' x H'' → Sm H' H'' ∧ ∃ d, items[i]? = some d ∧ Dp X.K (off T' H'') x d) → R J H1) → wi σ H R)
    (ht : TgSem X.K a g vs f)
    (hb : ∀ d, d ∈ items → ∃ ρ2, f d (wipeR ρ vs) = some ρ2 ∧ ∀ m, (∀ T σ H, SD X.K a T H σ ρ2 → MS X.K (off T H) a (m + c) → ∀ Q : Bool → Hp → Prop, (∀ H2, Kp a H H2 → MS X.K (off T H2) a (m + ce) → Q (keep d) H2) → tt σ H Q) ∧
      (keep d = true → ∀ T σ H, SD X.K a T H σ ρ2 → MS X.K (off T H) a (m + ce) → ∀ Q : VK, (∀ v d' H2, Kp a H H2 → MS X.K (off T H2) a m → Dp X.K (off T H2) v d' → V d d' → Q v H2) → te σ H Q))
    (kq : ∀ D acc ds H2, H D = none → ¬ T D → D ≠ a → Kp a H H2 → SD X.K a (And1 T D) H2 σ ρ → MS X.K (off (And1 T D) H2) a k → H2 D = some (.lst acc) → DpAll X.K (off (And1 T D) H2) acc ds → Fa2 V (items.filter keep) ds → Q (.ref D) H2) : tLc wi g tt te vs σ H Q := by
  refine hq _ fun J H1 Gd Y s1 w hG hY => ?_
  intro D hD
  have S1 := S.same s1
  have ms1 := ms.same (off_same s1)
  have nD : ¬ T D := fun z => S1.dm.dn D z hD
  have Da : D ≠ a := fun z => by
    obtain ⟨_, kvs, hk⟩ := ms1.vis
    rw [← z, hD] at hk
    cases hk
  have sees : ∀ {H' xs m}, FillM X.K a T H1 D m V xs H' → Sees (And1 T a) H1 (And1 (And1 T D) a) H' := fun {H' xs m} p => by
    obtain ⟨h1, h2, h3, h4, _⟩ := p
    refine ⟨h3.and1 h4, fun b o e n => ?_⟩
    obtain ⟨e1, e2⟩ := off_some e
    have hb : b ≠ D := fun z => by
      rw [z, h1] at e1
      cases e1
    rw [off_no (fun z => z.elim (fun z => z.elim (fun z => e2 (.inl z)) hb) fun z => e2 (.inr z))]
    exact h2.ka.1 b o (fun z => e2 (.inr z)) e1 n
  have start : FillM X.K a T H1 D (k + c * items.length) V ((items.take 0).filter keep) (upd H1 D (.lst [])) :=
    ⟨hD, .of (same_new hD), S1.dm.new hD, by
      have e : off (And1 T D) (upd H1 D (.lst [])) = off T H1 := off_more hD
      rw [e]
      exact ms1.mono hn, [], [], upd_same, .nil, .nil⟩
  have fsame : ∀ {H' H'' xs m}, FillM X.K a T H1 D m V xs H' → Sm H' H'' → FillM X.K a T H1 D m V xs H'' := fun {H' H'' xs m} p s => by
    obtain ⟨h1, h2, h3, h4, acc, ds, h5, h6, h7⟩ := p
    exact ⟨h1, h2.trans (.of s), h3.same s, h4.same (off_same s), acc, ds, s.ob _ _ h5 (by intro ps z; cases z), dpso s h6, h7⟩
  have fkp : ∀ {H' H'' xs m m'}, FillM X.K a T H1 D m V xs H' → Kp a H' H'' → MS X.K (off (And1 T D) H'') a m' → FillM X.K a T H1 D m' V xs H'' := fun {H' H'' xs m m'} p s ms' => by
    obtain ⟨h1, h2, h3, h4, acc, ds, h5, h6, h7⟩ := p
    exact ⟨h1, h2.trans s, h3.kp s, ms', acc, ds, s.ka.1 _ _ Da h5 (by intro ps z; cases z), dps_kpo h6 s h4, h7⟩
  have key : ∀ i, i < items.length → c * (items.length - i) = c * (items.length - (i + 1)) + c := fun i hi => by
    rw [show items.length - i = (items.length - (i + 1)) + 1 by omega, Nat.mul_add, Nat.mul_one]
  refine lc_it w (fun i H' => i ≤ items.length ∧ FillM X.K a T H1 D (k + c * (items.length - i)) V ((items.take i).filter keep) H') ⟨Nat.zero_le _, start⟩
    (fun i H' _ p => hG _ H' (sees p.2)) (fun i x H' H'' hi p y => ?_) fun H' p => ?_
  · obtain ⟨s3, d, hdi, pd⟩ := hY _ i H' x H'' hi (sees p.2) y
    obtain ⟨ρ2, e2, hm⟩ := hb d (List.mem_of_getElem? hdi)
    obtain ⟨k1, k2⟩ := hm (k + c * (items.length - (i + 1)))
    have p' := fsame p.2 s3
    have ee : k + c * (items.length - (i + 1)) + c = k + c * (items.length - i) := by rw [key i hi]; omega
    have S2 : SD X.K a (And1 T D) H'' (L2.wipe σ vs) (wipeR ρ vs) := ⟨(S1.wipe vs).len, p'.2.2.1, fun j z e => by
      obtain ⟨v, q1, q2⟩ := ((S1.hide ms1).wipe vs).sl j z e
      refine ⟨v, q1, ?_⟩
      cases z with
      | dat d => exact dp_same off_less (dp_same (sees p').2 q2)
      | hnd => exact q2
      | adr _ => exact q2
      | val R => exact VR.same (R := R) off_less (VR.same (R := R) (sees p').2 q2)⟩
    refine ht _ _ H'' x d _ ρ2 S2 (dp_same off_less pd) e2 _ fun σ2 S3 hw => ⟨?_, ?_⟩
    · rw [hw]
      apply List.ext_getElem?
      intro n
      rw [wipe_get, wipe_get, wipe_length]
      by_cases hn : n ∈ vs
      · rw [if_pos hn, if_pos hn]
      · rw [if_neg hn, if_neg hn]
    · have msp := p'.2.2.2.1
      rw [← ee] at msp
      refine k1 _ σ2 H'' S3 msp _ fun H3 s4 ms4 => ?_
      have tk : (items.take (i + 1)).filter keep = if keep d then (items.take i).filter keep ++ [d] else (items.take i).filter keep := by
        rw [List.take_add_one, hdi]
        simp only [Option.toList_some, List.filter_append]
        cases hk : keep d with
        | true => rw [if_pos rfl, List.filter_cons_of_pos hk] <;> rfl
        | false =>
          rw [List.filter_cons_of_neg (by rw [hk]; exact Bool.false_ne_true)]
          show _ ++ ([] : List PyData) = _
          rw [List.append_nil] <;> rfl
      have p3 := fkp p' s4 ms4
      rw [tk]
      cases hk : keep d with
      | false => exact iteF ⟨hi, fkp p' s4 (ms4.mono (Nat.le_add_right _ _))⟩
      | true =>
        refine iteT (k2 hk _ σ2 H3 (S3.kpo s4 msp) ms4 _ fun y d' H4 s5 ms5 py hV => ?_)
        obtain ⟨h1, h2, h3, h4, acc, ds, h5, h6, h7⟩ := fkp p3 s5 ms5
        refine ⟨acc, h5, ?_, hi, h1, h2.putL h1 h5 Da, ⟨fun b hb => ?_, fun P hP => (h2.putL h1 h5 Da).tb P (S1.dm.tb P hP)⟩, ?_, acc ++ [y], ds ++ [d'], upd_same, ?_, h7.snoc hV⟩
        · have e1 := dps_len h6
          have e2 := h7.len
          have e3 := List.length_filter_le keep (items.take i)
          have e4 := List.length_take_le i items
          exact Nat.lt_of_lt_of_le (show acc.length < 100000 by omega) (by decide)
        · by_cases hbD : b = D
          · rw [hbD, upd_same]
            exact fun z => by cases z
          · rw [upd_ne hbD]
            exact h3.dn b hb
        · have e : off (And1 T D) (upd H4 D (.lst (acc ++ [y]))) = off (And1 T D) H4 := off_put (.inr rfl)
          rw [e]
          exact ms5
        · have e : off (And1 T D) (upd H4 D (.lst (acc ++ [y]))) = off (And1 T D) H4 := off_put (.inr rfl)
          rw [e]
          exact dps_snoc h6 py
  · have p0 := p.2
    obtain ⟨_, h1, h2, h3, h4, acc, ds, h5, h6, h7⟩ := p
    rw [List.take_length] at h7
    have n0 : H D = none := by
      cases q : H D with
      | none => rfl
      | some o => exact (s1.dm D (by rw [q]; exact fun z => by cases z) hD).elim
    refine kq D acc ds H' n0 nD Da ((Kp.of s1).trans h2) ⟨S1.len, h3, fun j z e => ?_⟩ (h4.mono (by rw [Nat.sub_self]; omega)) h5 h6 h7
    obtain ⟨v, q1, q2⟩ := (S1.hide ms1).sl j z e
    refine ⟨v, q1, ?_⟩
    cases z with
    | dat d => exact dp_same off_less (dp_same (sees p0).2 q2)
    | hnd => exact q2
    | adr _ => exact q2
    | val R => exact VR.same (R := R) off_less (VR.same (R := R) (sees p0).2 q2)
theorem lcM_read {wi : TI} {tt : TT} {te : TE} {keep : PyData → Bool} {V : PyData → PyData → Prop} {T : Addr → Prop} {σ : L2.St} {H : Hp} {Q : VK} (S : SD X.K a T H σ ρ) (ms : MS X.K (off T H) a n) (hn : k + c * items.length ≤ n) (hz : items.length < 100000)
    (hq : ∀ R : It → Hp → Prop,
  (∀ J H1 (Gd : Hp → Prop) Y, Sm H H1 → Walk J items.length Gd Y → (∀ T' H', Sees (And1 T a) H1 T' H' → Gd H') →
    (∀ T' i H' x H'', i < items.length → Sees (And1 T a) H1 T' H' → Y i H' x H'' → Sm H' H'' ∧ ∃ d, items[i]? = some d ∧ Dp X.K (off T' H'') x d) → R J H1) → wi σ H R)
    (ht : TgSem X.K a g vs f)
    (hb : ∀ d, d ∈ items → ∃ ρ2, f d (wipeR ρ vs) = some ρ2 ∧ ∀ m, (∀ T σ H, SD X.K a T H σ ρ2 → MS X.K (off T H) a (m + c) → ∀ Q : Bool → Hp → Prop, (∀ H2, Kp a H H2 → MS X.K (off T H2) a (m + ce) → Q (keep d) H2) → tt σ H Q) ∧
      (keep d = true → ∀ T σ H, SD X.K a T H σ ρ2 → MS X.K (off T H) a (m + ce) → ∀ Q : VK, (∀ v d' H2, Kp a H H2 → MS X.K (off T H2) a m → Dp X.K (off T H2) v d' → V d d' → Q v H2) → te σ H Q))
    (kq : ∀ v ds H2, Kp a H H2 → MS X.K (off T H2) a k → Dp X.K (off T H2) v (.list ds) → Fa2 V (items.filter keep) ds → Q v H2) : tLc wi g tt te vs σ H Q :=
  lcM_own S ms hn hz hq ht hb fun D acc ds H2 n0 nD Da s S2 ms2 h5 h6 h7 => kq _ ds H2 s (ms2.same off_less) (.lst (.of (by rw [off_no nD]; exact h5)) (dps_same off_less h6)) h7
end
end Zj
/-! Comprehensions that draw, by their text; defs that draw. -/
namespace Zj
open PySem PySem.Spec PyProof.Rows L2
variable [Nm]
section
variable {X : Cx} {a : Addr} {ρ : Rho} {n k c ce : Nat} {N : Nat → Rho → Prop} {R : Nat → PyData → Prop} {tg it elt t : Expr} {items : List PyData} {pos : Pos} {g : TG} {f : PyData → Rho → Option Rho} {scope : Scope} {own : List (Str × Nat)} {P : PyData → Prop}
def EvMb (X : Cx) (scope : Scope) (a : Addr) (e : Expr) (ρ : Rho) (n m : Nat) (P : PyData → Prop) : Prop := ∀ s H0 C cl fp, EvM (X.blk s H0 scope (compEnvC scope cl C X.env) fp) a e ρ n m P
def EvMTb (X : Cx) (scope : Scope) (a : Addr) (e : Expr) (ρ : Rho) (n m : Nat) (P : Bool → Prop) : Prop := ∀ s H0 C cl fp, EvMT (X.blk s H0 scope (compEnvC scope cl C X.env) fp) a e ρ n m P
theorem m_lc0 {V : PyData → PyData → Prop} (G : Good X) (hs : Src X a tg it ρ items) (hn : k + c * items.length ≤ n) (hz : items.length < 100000) (ok : BlkOk X.N X.env.scope scope own)
    (hg : ∀ (s : Shared) (H : Hp) (C : Addr) (cl : List (Str × Addr)) (fp : List Addr), PG (X.blk s H scope (compEnvC scope cl C X.env) fp) tg g) (ht : TgSem X.K a g (own.map (·.2)) f)
    (hb : ∀ d, d ∈ items → ∃ ρ2, f d (wipeR ρ (own.map (·.2))) = some ρ2 ∧ ∀ m, EvMb X scope a elt ρ2 (m + c) m (V d)) (hP : ∀ ds, Fa2 V items ds → P (.list ds))
    (hf : ∀ x, foldedSetIterable it X.env x = pure x := by intro _; rfl) : EvM X a (.ListComp elt [⟨tg, it, [], 0⟩] scope pos) ρ n k P := fun T σ H S ms Q q => by
  obtain ⟨wi, hw, hq⟩ := hs
  refine toE (pe_lc (own := own) (te := JEb X scope elt) (tt := tYes) G.calm G.nd hw ok hg (fun s H0 C cl fp => pts_nil) (fun s H0 C cl fp => ⟨fun pins s' σ' H' Q' I h => h s H0 C cl fp pins s' I⟩) hf) ?_
  refine lcM_read (f := f) (V := V) (keep := yes) (ce := c) S ms hn hz (hq _ σ H (S.hide ms)) ht (fun d hd => ?_) fun v ds H2 s2 ms2 p2 h2 => q v _ H2 s2 ms2 p2 (hP ds ?_)
  · obtain ⟨ρ2, e, k2⟩ := hb d hd
    exact ⟨ρ2, e, fun m => ⟨fun T σ H S ms Q q => q H Kp.refl ms, fun hk T σ H S ms Q q s H0 C cl fp => k2 m s H0 C cl fp T σ H S ms Q q⟩⟩
  · rw [List.filter_eq_self.mpr (show ∀ z ∈ items, yes z = true from fun _ _ => rfl)] at h2
    exact h2
theorem m_lc1 {V : PyData → PyData → Prop} {keep : PyData → Bool} (G : Good X) (hs : Src X a tg it ρ items) (hn : k + c * items.length ≤ n) (hz : items.length < 100000) (ok : BlkOk X.N X.env.scope scope own)
    (hg : ∀ (s : Shared) (H : Hp) (C : Addr) (cl : List (Str × Addr)) (fp : List Addr), PG (X.blk s H scope (compEnvC scope cl C X.env) fp) tg g) (ht : TgSem X.K a g (own.map (·.2)) f)
    (hb : ∀ d, d ∈ items → ∃ ρ2, f d (wipeR ρ (own.map (·.2))) = some ρ2 ∧ ∀ m, EvMTb X scope a t ρ2 (m + c) (m + ce) (· = keep d) ∧ (keep d = true → EvMb X scope a elt ρ2 (m + ce) m (V d))) (hP : ∀ ds, Fa2 V (items.filter keep) ds → P (.list ds))
    (hf : ∀ x, foldedSetIterable it X.env x = pure x := by intro _; rfl) : EvM X a (.ListComp elt [⟨tg, it, [t], 0⟩] scope pos) ρ n k P := fun T σ H S ms Q q => by
  obtain ⟨wi, hw, hq⟩ := hs
  refine toE (pe_lc (own := own) (te := JEb X scope elt) (tt := JTb X scope t) G.calm G.nd hw ok hg (fun s H0 C cl fp => pts_one ⟨fun pins s' σ' H' Q' I h => h s H0 C cl fp pins s' I⟩) (fun s H0 C cl fp => ⟨fun pins s' σ' H' Q' I h => h s H0 C cl fp pins s' I⟩) hf) ?_
  refine lcM_read (f := f) (V := V) (keep := keep) (ce := ce) S ms hn hz (hq _ σ H (S.hide ms)) ht (fun d hd => ?_) fun v ds H2 s2 ms2 p2 h2 => q v _ H2 s2 ms2 p2 (hP ds h2)
  obtain ⟨ρ2, e, k2⟩ := hb d hd
  refine ⟨ρ2, e, fun m => ⟨fun T σ H S ms Q q s H0 C cl fp => (k2 m).1 s H0 C cl fp T σ H S ms Q fun b H2 s2 ms2 hb => ?_, fun hk T σ H S ms Q q s H0 C cl fp => (k2 m).2 hk s H0 C cl fp T σ H S ms Q q⟩⟩
  rw [hb]
  exact q H2 s2 ms2
theorem qs_lc0 {i : Nat} {y : Str} {py spos : Pos} {V : PyData → PyData → Prop} (G : Good X) (hs : Src X a tg it ρ items) (hn : k + c * items.length ≤ n) (hz : items.length < 100000) (ok : BlkOk X.N X.env.scope scope own)
    (hg : ∀ (s : Shared) (H : Hp) (C : Addr) (cl : List (Str × Addr)) (fp : List Addr), PG (X.blk s H scope (compEnvC scope cl C X.env) fp) tg g) (ht : TgSem X.K a g (own.map (·.2)) f)
    (hb : ∀ d, d ∈ items → ∃ ρ2, f d (wipeR ρ (own.map (·.2))) = some ρ2 ∧ ∀ m, EvMb X scope a elt ρ2 (m + c) m (V d)) (hP : ∀ ds, Fa2 V items ds → N k (ρ.set i (some (.dat (.list ds)))))
    (hy : X.N[i]? = some y := by rfl) (hyl : X.env.scope.names.lookup y = some .local := by rfl)
    (hsw : swapsWith (.ListComp elt [⟨tg, it, [], 0⟩] scope pos) (some (.Name y py)) spos.line X.env = pure true := by exact sw_true rfl rfl rfl (by decide +kernel))
    (hf : ∀ x, foldedSetIterable it X.env x = pure x := by intro _; rfl) : RunMS X a (.Assign [.Name y py] (.ListComp elt [⟨tg, it, [], 0⟩] scope pos) spos) ρ n N R := fun T σ H D S ms kn kr => by
  obtain ⟨wi, hw, hq⟩ := hs
  refine toS (ps_setLc (own := own) (te := JEb X scope elt) (tt := tYes) G.calm G.nd hy hyl hsw hw ok hg (fun s H0 C cl fp => pts_nil) (fun s H0 C cl fp => ⟨fun pins s' σ' H' Q' I h => h s H0 C cl fp pins s' I⟩) hf) ?_
  refine lcM_read (f := f) (V := V) (keep := yes) (ce := c) S ms hn hz (hq _ σ H (S.hide ms)) ht (fun d hd => ?_) fun v ds H2 s2 ms2 p2 h2 => kn _ H2 _ k s2 ((S.kpo s2 ms).put (x := .dat _) p2) ms2 (hP ds ?_)
  · obtain ⟨ρ2, e, k2⟩ := hb d hd
    exact ⟨ρ2, e, fun m => ⟨fun T σ H S ms Q q => q H Kp.refl ms, fun hk T σ H S ms Q q s H0 C cl fp => k2 m s H0 C cl fp T σ H S ms Q q⟩⟩
  · rw [List.filter_eq_self.mpr (show ∀ z ∈ items, yes z = true from fun _ _ => rfl)] at h2
    exact h2
end
section
variable {P : Program} {w : World} {K : PySem.W.Frag} {mg : Str → Option Value} {base : Heap}
theorem SD.startM {a : Addr} {T : Addr → Prop} {H : Hp} {N : List Str} {vs : List V} {ds : List PyData} (t : Din T H) (h : DpAll K (off T H) vs ds) : SD K a T H (L2.start N (.ref a :: vs)) (some .hnd :: dats ds ++ List.replicate (N.length - (ds.length + 1)) none) := by
  have hl := dps_len h
  refine ⟨?_, t, fun i x e => ?_⟩
  · unfold L2.start dats
    simp [hl]
  · cases i with
    | zero =>
      cases (show some (some DV.hnd) = some (some x) from e)
      exact ⟨.ref a, rfl, rfl⟩
    | succ i =>
      have S := SD.start (a := a) (N := List.replicate (N.length - 1) "") t h
      obtain ⟨v, h1, h2⟩ := S.sl i x (by
        have e' : (dats ds ++ List.replicate (N.length - (ds.length + 1)) none)[i]? = some (some x) := e
        rw [List.length_replicate, show N.length - 1 - ds.length = N.length - (ds.length + 1) by omega]
        exact e')
      refine ⟨v, ?_, h2⟩
      have h1' : (vs.map some ++ List.replicate (N.length - 1 - vs.length) none)[i]? = some (some v) := by
        have h1 := h1
        unfold L2.start at h1
        rw [List.length_replicate] at h1
        exact h1
      show (vs.map some ++ List.replicate (N.length - (vs.length + 1)) none)[i]? = some (some v)
      rw [show N.length - (vs.length + 1) = N.length - 1 - vs.length by omega]
      exact h1'
theorem fnMC {x qual : Str} {st : Stmt} {f : Addr} {fd : FuncData} {N ps : List Str} {k c : Nat} {R : List PyData → (PyData → Prop) → Prop} (F : Fun K x qual st f fd) (S : FnScope N ps (defScope st)) (hl : ∀ ds P, R ds P → ds.length + 1 = ps.length)
    (hb : ∀ (cdv : Value), fd.code = cdv → ∀ (A : Around) (outer : List Env) (s : Shared) (H : Hp) (E : XK), Good (cxOf CX0 P w K mg base N qual (defScope st) f cdv A outer s H E).nox → Room k (cxOf CX0 P w K mg base N qual (defScope st) f cdv A outer s H E).nox.A →
      (cxOf CX0 P w K mg base N qual (defScope st) f cdv A outer s H E).nox.A.guards = some [] → ∀ a n ds Pd, R ds Pd →
      RunM (cxOf CX0 P w K mg base N qual (defScope st) f cdv A outer s H E).nox a (defBody st) (some .hnd :: dats ds ++ List.replicate (N.length - (ds.length + 1)) none) (n + c) (fun m _ => n ≤ m ∧ Pd .none) (fun m d => n ≤ m ∧ Pd d)) : FnG P w K mg base CX0 (k + 1) f fd ps (spM K c R) :=
  fnG F S (fun vs H Q E h => by
    obtain ⟨a, T, n, vs', ds, Pd, rfl, _, _, h2, h3, _⟩ := h
    rw [List.length_cons, dps_len h2]
    exact hl ds Pd h3) fun cdv hcv A outer s H vs Q E hgd hr h => by
    obtain ⟨a, T, n, vs', ds, Pd, rfl, dm, ms, h2, h3, h4⟩ := h
    refine hb cdv hcv A outer s H E ⟨S.nd, rfl, PassesOwn.never, hr.units⟩ hr hgd a n ds Pd h3 T _ H _ (SD.startM dm h2) ms (fun σ' H' ρ' m s1 S1 ms1 e => ?_) fun v H' d m s1 ms1 p e => ?_
    · exact h4 .non .none H' s1 (ms1.mono e.1) .non e.2
    · exact h4 v d H' s1 (ms1.mono e.1) p e.2
theorem fnM {x qual : Str} {st : Stmt} {f : Addr} {fd : FuncData} {N ps : List Str} {k c : Nat} {R : List PyData → (PyData → Prop) → Prop} (F : Fun K x qual st f fd) (S : FnScope N ps (defScope st)) (hl : ∀ ds P, R ds P → ds.length + 1 = ps.length)
    (hb : ∀ (cdv : Value) (A : Around) (outer : List Env) (s : Shared) (H : Hp) (E : XK), Good (cxOf CX0 P w K mg base N qual (defScope st) f cdv A outer s H E).nox → Room k (cxOf CX0 P w K mg base N qual (defScope st) f cdv A outer s H E).nox.A →
      (cxOf CX0 P w K mg base N qual (defScope st) f cdv A outer s H E).nox.A.guards = some [] → ∀ a n ds Pd, R ds Pd →
      RunM (cxOf CX0 P w K mg base N qual (defScope st) f cdv A outer s H E).nox a (defBody st) (some .hnd :: dats ds ++ List.replicate (N.length - (ds.length + 1)) none) (n + c) (fun m _ => n ≤ m ∧ Pd .none) (fun m d => n ≤ m ∧ Pd d)) : FnG P w K mg base CX0 (k + 1) f fd ps (spM K c R) := fnMC F S hl fun cdv _ => hb cdv
/-- a def that keeps all and asks for texts of data -/
theorem fnRGC {x qual : Str} {st : Stmt} {f : Addr} {fd : FuncData} {N ps : List Str} {k : Nat} {R : List PyData → PyData → Prop} (F : Fun K x qual st f fd) (S : FnScope N ps (defScope st)) (hl : ∀ ds d, R ds d → ds.length = ps.length)
    (hb : ∀ (cdv : Value), fd.code = cdv → ∀ (A : Around) (outer : List Env) (s : Shared) (H : Hp) (E : XK), Good (cxOf CX0 P w K mg base N qual (defScope st) f cdv A outer s H E).nox → Room k (cxOf CX0 P w K mg base N qual (defScope st) f cdv A outer s H E).nox.A →
      (cxOf CX0 P w K mg base N qual (defScope st) f cdv A outer s H E).nox.A.guards = some [] → ∀ ds d, R ds d →
      Run (cxOf CX0 P w K mg base N qual (defScope st) f cdv A outer s H E).nox 0 (defBody st) (dats ds ++ List.replicate (N.length - ds.length) none) (fun _ => d = .none) (fun d' => d' = d)) : FnG P w K mg base CX0 (k + 1) f fd ps (spR K R) :=
  fnG F S (fun vs H Q E h => by
    obtain ⟨T, ds, d, _, h1, h2, _⟩ := h
    rw [dps_len h1]
    exact hl ds d h2) fun cdv hcv A outer s H vs Q E hgd hr h => by
    obtain ⟨T, ds, d, dm, h1, h2, h3⟩ := h
    refine hb cdv hcv A outer s H E ⟨S.nd, rfl, PassesOwn.never, hr.units⟩ hr hgd ds d h2 T _ H _ (SD.start dm h1) (fun σ' H' ρ' s1 S1 e => ?_) fun v H' d' s1 p e => ?_
    · exact h3 _ H' s1 (by rw [e]; exact .non)
    · subst e
      exact h3 v H' s1 p
theorem fnRG {x qual : Str} {st : Stmt} {f : Addr} {fd : FuncData} {N ps : List Str} {k : Nat} {R : List PyData → PyData → Prop} (F : Fun K x qual st f fd) (S : FnScope N ps (defScope st)) (hl : ∀ ds d, R ds d → ds.length = ps.length)
    (hb : ∀ (cdv : Value) (A : Around) (outer : List Env) (s : Shared) (H : Hp) (E : XK), Good (cxOf CX0 P w K mg base N qual (defScope st) f cdv A outer s H E).nox → Room k (cxOf CX0 P w K mg base N qual (defScope st) f cdv A outer s H E).nox.A →
      (cxOf CX0 P w K mg base N qual (defScope st) f cdv A outer s H E).nox.A.guards = some [] → ∀ ds d, R ds d →
      Run (cxOf CX0 P w K mg base N qual (defScope st) f cdv A outer s H E).nox 0 (defBody st) (dats ds ++ List.replicate (N.length - ds.length) none) (fun _ => d = .none) (fun d' => d' = d)) : FnG P w K mg base CX0 (k + 1) f fd ps (spR K R) := fnRGC F S hl fun cdv _ => hb cdv
end
end Zj
/-! isinstance, and/or as values, calls by names. -/
namespace Zj
open PySem PySem.Spec PyProof.Rows L2
variable [Nm]
def tyD : PyData → String
  | .none => "NoneType"
  | .bool _ => "bool"
  | .int _ => "int"
  | .str _ => "str"
  | .list _ => "list"
  | .tuple _ => "tuple"
  | .dict _ => "dict"
section
variable {X : Cx} {a : Addr} {ρ : Rho} {e f : Expr} {es rest : List Expr} {pos p p2 : Pos} {d : PyData}
theorem dp_ty {K : PySem.W.Frag} {H : Hp} {v : V} (h : Dp K H v d) : TyX K H v (.type (tyD d)) := by
  cases h with
  | non => exact .base .non
  | bl b => exact .base (.bl b)
  | int i => exact .base (.int i)
  | str x => exact .base (.str x)
  | lst h1 h2 =>
    rcases h1 with (h | ⟨o, h⟩) | h
    · exact .base (.lst h)
    · exact .base (.frz h)
    · obtain ⟨o, its, n, e, c, _⟩ := h
      exact .kList e c
  | tup h1 h2 =>
    rcases h1 with (h | ⟨o, h⟩) | h
    · exact .base (.tup h)
    · exact .fTuple h
    · obtain ⟨o, its, n, e, c, _⟩ := h
      exact .kTuple e c
theorem e_isi {ty : Str} {tn : String} {b : Bool} (h : EvE X a e ρ d) (hk : kitB (tyD d) tn = some b) (hv : bootBuiltins ty = some (.type tn)) (hm : X.mg "isinstance" = none) (hmT : X.mg ty = none) (hg : Gl X "isinstance" := by rfl) (hgT : Gl X ty := by rfl)
    (hn : ty ≠ "__name__" := by decide) (hd : (ty == ("__debug__" : Str)) = false := by decide)
    (hs1 : starEach (e :: [.Name ty p2]) X.env = (false, eval e X.env) :: starEach [.Name ty p2] X.env := by exact star_of rfl) (hs2 : starEach (.Name ty p2 :: []) X.env = (false, eval (.Name ty p2) X.env) :: starEach [] X.env := by exact star_of rfl)
    (hpl : (backTo pos (starEach [.Name ty p2] X.env)).any (·.1) = false := by exact star_no rfl) :
    EvE X a (.Call (.Name "isinstance" p) [e, .Name ty p2] [] pos) ρ (.bool b) := fun T σ H S Q q =>
  toE (pe_callB call_isi hg hm (by decide +kernel) (pa_cons je (pa_cons (pe_bltn (v := .ty tn) hgT hmT hv rfl hn hd) pa_nil hs2) hs1) (by decide) (by decide) hs1 hpl) (h T σ H S _ fun v H1 s1 p1 =>
    ⟨v, .ty tn, _, _, b, rfl, .ty tn, dp_ty (dp_off p1), kit_ty hk, q _ H1 s1 (.bl b)⟩)
theorem e_one {op} (h : EvE X a e ρ d) : EvE X a (.BoolOp op [e] pos) ρ d := fun T σ H S Q q => toE (pe_one je) (h T σ H S Q q)
theorem e_andT (h : EvE X a e ρ (.bool true)) (h2 : EvE X a (.BoolOp .And (f :: rest) pos) ρ d) : EvE X a (.BoolOp .And (e :: f :: rest) pos) ρ d := fun T σ H S Q q =>
  toE (pe_and je je) (h T σ H S _ fun v H1 s1 p1 => ⟨true, dp_bool p1, iteT (h2 T σ H1 (S.same s1) _ fun v H2 s2 p => q v H2 (s1.trans s2) p)⟩)
theorem e_andF (h : EvE X a e ρ (.bool false)) (hd : d = .bool false) : EvE X a (.BoolOp .And (e :: f :: rest) pos) ρ d := fun T σ H S Q q =>
  toE (pe_and je je) (h T σ H S _ fun v H1 s1 p1 => ⟨false, dp_bool p1, iteF (q _ H1 s1 (by subst hd; exact .bl false))⟩)
theorem e_not {b : Bool} (h : EvE X a e ρ (.bool b)) : EvE X a (.UnaryOp .Not e pos) ρ (.bool (!b)) := fun T σ H S Q q =>
  toE (pe_not je) (h T σ H S _ fun v H1 s1 p1 => ⟨b, dp_bool p1, q _ H1 s1 (.bl _)⟩)
/-- an 'and', an 'or' as a test is its own whole -/
theorem pw_self {op} {l : List Expr} : PW X (.BoolOp op l pos) (JT X (.BoolOp op l pos)) := ⟨fun wh pins s σ H Q I h => by
  have h1 := h pins s I
  simp only [PySem.isTrue] at h1 ⊢
  exact h1⟩
/-- or, and as tests, the first part known -/
theorem t_orF {b : Bool} (h : EvT X a e ρ false) (h2 : EvT X a (.BoolOp .Or (f :: rest) pos) ρ b) : EvT X a (.BoolOp .Or (e :: f :: rest) pos) ρ b := fun T σ H S Q q =>
  toT (PW.pt (pw_or jt pw_self)) (h T σ H S _ fun H1 s1 => iteF (h2 T σ H1 (S.same s1) _ fun H2 s2 => q H2 (s1.trans s2)))
theorem t_orT (h : EvT X a e ρ true) : EvT X a (.BoolOp .Or (e :: f :: rest) pos) ρ true := fun T σ H S Q q =>
  toT (PW.pt (pw_or jt pw_self)) (h T σ H S _ fun H1 s1 => iteT (q H1 s1))
theorem t_andT {b : Bool} (h : EvT X a e ρ true) (h2 : EvT X a (.BoolOp .And (f :: rest) pos) ρ b) : EvT X a (.BoolOp .And (e :: f :: rest) pos) ρ b := fun T σ H S Q q =>
  toT (PW.pt (pw_and jt pw_self)) (h T σ H S _ fun H1 s1 => iteT (h2 T σ H1 (S.same s1) _ fun H2 s2 => q H2 (s1.trans s2)))
theorem t_andF (h : EvT X a e ρ false) : EvT X a (.BoolOp .And (e :: f :: rest) pos) ρ false := fun T σ H S Q q =>
  toT (PW.pt (pw_and jt pw_self)) (h T σ H S _ fun H1 s1 => iteF (q H1 s1))
theorem mt_or {PB : Bool → Prop} {n m k : Nat} (h : EvMT X a e ρ n m fun b => b = false) (h2 : EvMT X a (.BoolOp .Or (f :: rest) pos) ρ m k PB) : EvMT X a (.BoolOp .Or (e :: f :: rest) pos) ρ n k PB := mt_orF h h2 pw_self
theorem mt_or1 {PB : Bool → Prop} {n m : Nat} (h : EvMT X a e ρ n m PB) : EvMT X a (.BoolOp .Or [e] pos) ρ n m PB := fun T σ H S ms Q q => toT (PW.pt (pw_or1 jt)) (h T σ H S ms Q q)
end

/-! calls by names alone -/
structure CalK (P : Program) (w : World) (K : PySem.W.Frag) (mg : Str → Option Value) (base : Heap) (k : Nat) (x : Str) (st : Stmt) (ps : List Str) (sp : Sp) : Prop where
  ex : ∃ f fd, Fun K x x st f fd ∧ FnOk P w K mg base CX0 k f fd ps sp ∧ mg x = some (.ref f)
section
variable {X : Cx} {a : Addr} {ρ : Rho} {e : Expr} {kws : List Keyword} {pos p kpos : Pos} {d : PyData} {ds : List PyData} {nm : Option Str}
def JK (X : Cx) (kws : List Keyword) : TA := fun σ H Q => ∀ pos pins s, Inv X pins σ H s → wpAny (model X.prog X.w) X.A (evalAll ((backToKw pos (keywordEach kws X.env)).map (·.2))) (AP X pins σ Q) X.xe s
theorem jk : PK X kws (JK X kws) := ⟨fun pos pins s _ _ _ I h => h pos pins s I⟩
def EvK (X : Cx) (a : Addr) (kws : List Keyword) (ρ : Rho) (ds : List PyData) : Prop := ∀ T σ H, SD X.K a T H σ ρ → ∀ Q : List V → Hp → Prop, (∀ vs H2, Sm H H2 → DpAll X.K (off T H2) vs ds → Q vs H2) → JK X kws σ H Q
theorem k_nil : EvK X a [] ρ [] := fun T σ H S Q q pos pins s I => pk_nil.run pos pins s σ H Q I (q _ H (Sm.refl H) .nil)
theorem k_cons (h : EvE X a e ρ d) (h2 : EvK X a kws ρ ds) : EvK X a (⟨nm, e, kpos⟩ :: kws) ρ (d :: ds) := fun T σ H S Q q pos pins s I =>
  (pk_cons (nm := nm) (kpos := kpos) je jk).run pos pins s σ H Q I (h T σ H S _ fun v H1 s1 p1 => h2 T σ H1 (S.same s1) _ fun vs H2 s2 p2 => q _ H2 (s1.trans s2) (.cons (dpo s2 p1) p2))
/-- f(k = v, ..), two names; fl: they stand in the other order -/
def turn2 (fl : Bool) {α : Type} : List α → List α
  | [x, y] => if fl then [y, x] else [x, y]
  | l => l
def gK (fl : Bool) {α : Type} (us ws : List α) : List α := match us with
  | [] => turn2 fl ws
  | _ => []
theorem turn2_len {fl : Bool} {α : Type} (l : List α) : (turn2 fl l).length = l.length := by
  unfold turn2
  split
  · cases fl <;> rfl
  · rfl
theorem turn2_vals {fl : Bool} {vs : List V} {us : List Value} (r : Vals vs us) : Vals (turn2 fl vs) (turn2 fl us) := by
  unfold turn2
  cases r with
  | nil => exact .nil
  | cons a r =>
    cases r with
    | nil => exact .cons a .nil
    | cons b r =>
      cases r with
      | nil =>
        cases fl
        · exact .cons a (.cons b .nil)
        · exact .cons b (.cons a .nil)
      | cons c r => exact .cons a (.cons b (.cons c r))
theorem turn2_dps {fl : Bool} {K : PySem.W.Frag} {H : Hp} {vs : List V} (r : DpAll K H vs ds) : DpAll K H (turn2 fl vs) (turn2 fl ds) := by
  unfold turn2
  cases r with
  | nil => exact .nil
  | cons a r =>
    cases r with
    | nil => exact .cons a .nil
    | cons b r =>
      cases r with
      | nil =>
        cases fl
        · exact .cons a (.cons b .nil)
        · exact .cons b (.cons a .nil)
      | cons c r => exact .cons a (.cons b (.cons c r))
theorem pe_callK0 {CX : CXT} {k : Nat} {f : Addr} {fd : FuncData} {ps ks : List Str} {sp : Sp} {E : XK} {x : Str} {g : List Value → List Value → List Value} {gV : List V → List V → List V} {tk : TA} (F : FnOk X.prog X.w X.K X.mg X.base CX k f fd ps sp) (hr : Room k X.A) (hg : Gl X x) (hm : X.mg x = some (.ref f)) (hk : PySem.W.keepIn X.K (.ref f) = true) (hb : KBinds X.K fd ps ks g gV) (hx : Passes CX X E)
    (hkw : PK X kws tk) (hall : (backToKw pos (keywordEach kws X.env)).all (·.1.isSome) = true) (hks : (backToKw pos (keywordEach kws X.env)).filterMap (·.1) = ks) (hdb : (x == ("__debug__" : Str)) = false)
    (hpl : ((backTo pos (starEach [] X.env)).any (·.1) || (backToKw pos (keywordEach kws X.env)).any (·.1.isNone)) = false) :
    PE X (.Call (.Name x p) [] kws pos) (fun σ H Q => tk σ H fun zs H2 => sp (gV [] zs) H2 Q E) := by
  refine ⟨fun pins s σ H Q I h => ?_⟩
  refine wpAny_Call_Name_kw (ld_glob I hg hm ?_ hdb)
  refine PySem.W.callWith_KW0 (h₀ := X.base) I.ok.mod.kin hk hall (thn (hkw.run pos pins s σ H _ I h) fun ws s2 hv => ?_) hpl
  obtain ⟨zs, H2, I2, rz, q2⟩ := hv
  refine ⟨I2.kIn, ?_⟩
  rw [hks]
  exact run_fnk F hr hb hx I2 (us := []) (vs := []) .nil rz q2
theorem e_callK {lv : Nat} {x : Str} {st : Stmt} {ps ks : List Str} {R : List PyData → PyData → Prop} (fl : Bool) (hne : ps ≠ []) (C : CalK X.prog X.w X.K X.mg X.base lv x st ps (spR X.K R)) (hr : Room lv X.A) (ha : EvK X a kws ρ ds) (hR : R (turn2 fl ds) d)
    (hb : ∀ (kV doc pm : Value) (an : Option Addr) (cdv ct : Value) (ws : List Value), ws.length = ps.length → bindArgs (PySem.W.fnOf x x (defArgs st) (defBody st) (defScope st) .none kV doc pm an cdv ct) ⟨[], ks.zip ws⟩ = pure (ps.zip (turn2 fl ws)))
    (hg : Gl X x := by rfl) (hall : (backToKw pos (keywordEach kws X.env)).all (·.1.isSome) = true := by rfl) (hks : (backToKw pos (keywordEach kws X.env)).filterMap (·.1) = ks := by rfl)
    (hdb : (x == ("__debug__" : Str)) = false := by decide) (hpl : ((backTo pos (starEach [] X.env)).any (·.1) || (backToKw pos (keywordEach kws X.env)).any (·.1.isNone)) = false := by rfl) :
    EvE X a (.Call (.Name x p) [] kws pos) ρ d := fun T σ H S Q q => by
  obtain ⟨f, fd, F, FO, hm⟩ := C.ex
  have hk := F.kp
  obtain ⟨oc, od, kV, doc, pm, an, cdv, ct, osl, rfl, lk, hcd⟩ := F.ex
  have KB : KBinds X.K (PySem.W.fnOf x x (defArgs st) (defBody st) (defScope st) .none kV doc pm an cdv ct) ps ks (gK fl) (gK fl) := {
    to := fun s us ws _ hl => by
      cases us with
      | nil => exact .of_eq (hb kV doc pm an cdv ct ws (by rw [← hl]; exact (turn2_len ws).symm))
      | cons u us =>
        cases ps with
        | nil => exact (hne rfl).elim
        | cons _ _ => cases hl
    rel := fun {vs us zs ws} r rz => by
      cases r with
      | nil => exact turn2_vals rz
      | cons _ _ => exact .nil }
  exact toE (pe_callK0 (E := E0) FO hr hg hm hk KB pass0 jk hall hks hdb hpl) (ha T σ H S _ fun vs H1 s1 p1 => ⟨T, _, d, S.dm.same s1, turn2_dps p1, hR, fun v H2 s2 p2 => q v H2 (s1.trans s2) p2⟩)
end
end Zj
/-! Lambdas of no parameter, or of one with a written default. -/
namespace Zj
open PySem PySem.Spec PyProof.Rows L2
variable [Nm]
def lamQ (X : Cx) : Str := X.env.qual ++ "<lambda>"
section
variable {X : Cx} {pins : List (Addr × Obj)} {σ : L2.St} {H : Hp} {s : Shared} {c P : Addr} {params : Arguments} {body : Expr} {scope : Scope} {pos : Pos}
theorem sm_table {H : Hp} {P c' : Addr} {q : Str} {ps more : Array Value} (hP : H P = some (.tbl ps)) (hc : H c' = none) (hq : Nm.nm P = q) (new : LamX.TabS H P q → LamX.TabS (upd (upd H P (.tbl (ps ++ more))) c' (LamX.CodeO c' q)) P q) :
    Sm H (upd (upd H P (.tbl (ps ++ more))) c' (LamX.CodeO c' q)) := by
  have ob : Sa H (upd (upd H P (.tbl (ps ++ more))) c' (LamX.CodeO c' q)) := fun b o e n => by
    have h1 : b ≠ c' := fun z => by
      rw [z, hc] at e
      cases e
    have h2 : b ≠ P := fun z => by
      rw [z, hP] at e
      cases e
      exact n _ rfl
    rw [upd_ne h1, upd_ne h2]
    exact e
  refine ⟨ob, fun P' t => ?_, fun b hb => ?_⟩
  · by_cases hpp : P' = P
    · rw [hpp] at t ⊢
      rw [hq] at t ⊢
      exact new t
    · obtain ⟨ps', a1, a2, a3⟩ := t
      have h1 : P' ≠ c' := fun z => by
        rw [z, hc] at a1
        cases a1
      refine ⟨ps', ?_, a2, fun p' cv hcv => ?_⟩
      · rw [upd_ne h1, upd_ne hpp]
        exact a1
      · obtain ⟨c0, g1, g2⟩ := a3 p' cv hcv
        exact ⟨c0, g1, ob _ _ g2 LamX.codeO_ne⟩
  · by_cases h1 : b = c'
    · rw [h1, upd_same]
      exact fun z => by cases z
    · rw [upd_ne h1]
      by_cases h2 : b = P
      · rw [h2, upd_same]
        exact fun z => by cases z
      · rw [upd_ne h2]
        exact hb
theorem lam_tail {dV : Value} {E Q : Value → Shared → Prop} (I : Inv X pins σ H s) (B : LamX.TabB X.base X.mg c P) (hc0 : X.env.code = .ref c) (hq : Nm.nm P = lamQ X) (hT : LamX.TabS H P (lamQ X)) (hfree : ∀ y ∈ scope.names, y.2 = .free → ∃ c, X.env.cells.lookup y.1 = some c)
    (h : ∀ (f c' : Addr) (doc pm ctv : Value) (H1 : Hp) (s1 : Shared), Inv X pins σ H1 s1 → Sm H H1 → (∀ b o, b ≠ P → s.heap.get? b = some o → s1.heap.get? b = some o) → (∀ b o, s.heap.get? b = some o → H b = none → H1 b = none) →
      s1.heap.get? f = some (PySem.W.kdv_obj "<lambda>" (lamQ X) params (.expr body) scope (cloFrom X.env.cells scope.names []) dV doc pm c' ctv) → H1 f = none → f ∉ frs X.stack → H1 c' = some (LamX.CodeO c' (lamQ X)) → Q (.ref f) s1) :
    wpAny (model X.prog X.w) X.A (PySem.makeTail "<lambda>" (lamQ X) params (.expr body) scope X.env dV .none none pos pos.line) Q E s := by
  have hT0 := hT
  obtain ⟨ps, g1, g2, g3⟩ := hT
  have gP : s.heap.BuiltinsAt X.mg P := B.bm.keeps I.bk
  have gH : s.heap.get? P = some { cls := .none, data := .fields ps } := I.hok P _ g1
  have nofr : ∀ f, s.heap.objs.size ≤ f → f ∉ frs X.stack := fun f hf z => by
    rcases List.mem_cons.mp (I.stkSub _ z) with e | e
    · have l := I.lt
      rw [← e] at l
      exact absurd (Nat.lt_of_lt_of_le l hf) (Nat.lt_irrefl _)
    · exact I.nofs hf e
  cases hca : codeAmong pos ps.toList with
  | none =>
    refine PySem.W.kdv_makeTail (mg := X.mg) (c := c) (P := P) (ps := ps) (closure_ok hfree) I.ok.glob (I.mod.glob.keeps I.bk) hc0 (B.code.keeps I.bk) gH g2 hca B.gP gP ?_
    intro c' ctv doc h1 tk hx hge hlt hrec htb
    obtain ⟨c2, oc, vs, t, e2, w1, w2, w3⟩ := hrec
    cases e2
    have zs : s.heap.objs.size ≤ h1.objs.size := Nat.le_trans hge (Nat.le_of_lt hlt)
    have fresh : H c' = none := I.hok.fresh hge
    have I1 := LamX.inv_table (t' := tk) (more := #[rawInt pos.line, rawInt pos.col, .ref c']) (q := lamQ X)
      (h' := h1.push (PySem.W.kdv_obj "<lambda>" (lamQ X) params (.expr body) scope (cloFrom X.env.cells scope.names []) dV doc ((X.mg "__name__").getD .none) c' ctv)) I g1
      (fun b o hb e => Heap.get?_push_of_some _ (hx b o hb e)) (Heap.get?_push_of_some _ htb) hge ⟨oc, vs, t, Heap.get?_push_of_some _ w1, w2, w3⟩
    have eL : (ps ++ #[rawInt pos.line, rawInt pos.col, .ref c']).toList = ps.toList ++ [rawInt pos.line, rawInt pos.col, .ref c'] := by simp
    have sm : Sm H (upd (upd H P (.tbl (ps ++ #[rawInt pos.line, rawInt pos.col, .ref c']))) c' (LamX.CodeO c' (lamQ X))) := sm_table g1 fresh hq fun _ => by
      refine ⟨_, by rw [upd_ne (ne_of_none g1 fresh), upd_same], ?_, fun p' cv hcv => ?_⟩
      · rw [eL]
        exact PySem.TriplesOk_snoc _ _ _ _ g2
      · rw [eL] at hcv
        rcases LamX.among_app _ g2 hcv with z | z
        · obtain ⟨c0, e1, e2⟩ := g3 p' cv z
          refine ⟨c0, e1, ?_⟩
          rw [upd_ne (ne_of_none e2 fresh), upd_ne (ne_of e2 g1 (LamX.codeO_ne _))]
          exact e2
        · exact ⟨c', z, upd_same⟩
    refine h h1.objs.size c' doc ((X.mg "__name__").getD .none) ctv _ _ I1 sm (fun b o hb e => Heap.get?_push_of_some _ (hx b o hb e)) (fun b o e n => ?_) (Heap.get?_push_size _ rfl) ?_ (nofr _ zs) upd_same
    · rw [upd_ne (Nat.ne_of_lt (Nat.lt_of_lt_of_le (Heap.lt_size e) hge)), upd_ne (fun z => by rw [z, g1] at n; cases n)]
      exact n
    · rw [upd_ne (Nat.ne_of_gt hlt), upd_ne (Nat.ne_of_gt (Nat.lt_of_lt_of_le (Heap.lt_size gH) zs))]
      exact I.hok.fresh zs
  | some cv =>
    obtain ⟨c', e, hco⟩ := g3 pos cv hca
    subst e
    refine PySem.W.kdv_makeTailHit (mg := X.mg) (c := c) (P := P) (ps := ps) (closure_ok hfree) I.ok.glob (I.mod.glob.keeps I.bk) hc0 (B.code.keeps I.bk) gH g2 hca gP ?_
    intro ctv doc h1 tk hx zs
    have I1 : Inv X pins σ H { s with heap := h1.push (PySem.W.kdv_obj "<lambda>" (lamQ X) params (.expr body) scope (cloFrom X.env.cells scope.names []) dV doc ((X.mg "__name__").getD .none) c' ctv), toks := tk } :=
      I.kept fun b o e => Heap.get?_push_of_some _ (hx b o e)
    exact h h1.objs.size c' doc ((X.mg "__name__").getD .none) ctv H _ I1 (Sm.refl H) (fun b o _ e => Heap.get?_push_of_some _ (hx b o e)) (fun b o _ n => n) (Heap.get?_push_size _ rfl) (I.hok.fresh zs) (nofr _ zs) hco
/-- a closure made of the lambda stands at f, its code at c'; is: its default, if there is one -/
structure CloAt (X : Cx) (H : Hp) (h : Heap) (f c' : Addr) (params : Arguments) (body : Expr) (scope : Scope) (is : List Int) : Prop where
  ob : ∃ dV doc pm ctv, h.get? f = some (PySem.W.kdv_obj "<lambda>" (lamQ X) params (.expr body) scope (cloFrom X.env.cells scope.names []) dV doc pm c' ctv) ∧
    ((is = [] ∧ dV = .none) ∨ ∃ (D : Addr) (i : Int) (tk : Tok), is = [i] ∧ dV = .ref D ∧ h.get? D = some (PySem.W.kdv_tup [.int i tk]) ∧ H D = none ∧ D ∉ frs X.stack)
  un : H f = none
  fr : f ∉ frs X.stack
  co : H c' = some (LamX.CodeO c' (lamQ X))
/-- the defaults that are written -/
inductive LamD (env : Env) : Arguments → List Int → Prop
  | no {params : Arguments} (h : defaultsOf params env = ([], [])) : LamD env params []
  | one {params : Arguments} {i : Int} {j : Nat} {p : Pos} (h : params.defaults = [.Constant (.int i) j p]) (hk : params.kw_defaults = []) : LamD env params [i]
theorem lam_made {is : List Int} {E Q : Value → Shared → Prop} (I : Inv X pins σ H s) (B : LamX.TabB X.base X.mg c P) (hc0 : X.env.code = .ref c) (hq : Nm.nm P = lamQ X) (hT : LamX.TabS H P (lamQ X)) (hfree : ∀ y ∈ scope.names, y.2 = .free → ∃ c, X.env.cells.lookup y.1 = some c)
    (hd : LamD X.env params is)
    (h : ∀ (f c' : Addr) (H1 : Hp) (s1 : Shared), Inv X pins σ H1 s1 → Sm H H1 → CloAt X H1 s1.heap f c' params body scope is → Q (.ref f) s1) :
    wpAny (model X.prog X.w) X.A (eval (.Lambda params body scope pos) X.env) Q X.xe s := by
  cases hd with
  | no hd =>
    refine PySem.W.kla_eval hd ?_
    rw [makeFunction_eq]
    simp only [List.zip_nil_right, List.filterMap_nil, List.isEmpty_nil, if_true, pure_bind]
    exact lam_tail I B hc0 hq hT hfree fun f c' doc pm ctv H1 s1 I1 sm _ _ e n m co => h f c' H1 s1 I1 sm ⟨⟨_, doc, pm, ctv, e, .inl ⟨rfl, rfl⟩⟩, n, m, co⟩
  | @one i j p hd hk =>
    refine PySem.W.kdv_lam (by rw [hd]; rfl) hk ?_
    rw [hd]
    refine PySem.W.kdv_all1 (thn ((pe_int (X := X) (i := i) (j := j) (pos := p)).run pins s σ H (fun v H1 => v = .int i ∧ H1 = H) I ⟨rfl, rfl⟩) fun u s0 hv => PySem.W.kdv_all0 ?_)
    obtain ⟨v, H0, I0, rv, rfl, rfl⟩ := hv
    obtain ⟨tk, rfl⟩ := rv
    rw [makeFunction_eq]
    simp only [List.zip_nil_right, List.filterMap_nil, List.isEmpty_nil, List.isEmpty_cons, Bool.false_eq_true, if_false, if_true, pure_bind]
    refine wpAny_bind (wpAny_newTextTuple ?_)
    have I2 : Inv X pins σ H0 { s0 with heap := s0.heap.push (PySem.W.kdv_tup [.int i tk]) } := I0.kept (t' := s0.toks) fun b o e => Heap.get?_push_of_some _ e
    have eD : (s0.heap.push (PySem.W.kdv_tup [.int i tk])).get? s0.heap.objs.size = some (PySem.W.kdv_tup [.int i tk]) := Heap.get?_push_size _ rfl
    have nD : H0 s0.heap.objs.size = none := I0.hok.fresh (Nat.le_refl _)
    have hP : P ≠ s0.heap.objs.size := fun z => by
      obtain ⟨ps, g1, _⟩ := hT
      rw [z, nD] at g1
      cases g1
    refine lam_tail I2 B hc0 hq hT hfree fun f c' doc pm ctv H1 s1 I1 sm kb kn e n m co => h f c' H1 s1 I1 sm ⟨⟨_, doc, pm, ctv, e, .inr ⟨s0.heap.objs.size, i, tk, rfl, rfl, kb _ _ (Ne.symm hP) eD, kn _ _ eD nD, fun z => ?_⟩⟩, n, m, co⟩
    rcases List.mem_cons.mp (I0.stkSub _ z) with e | e
    · have l := I0.lt
      rw [← e] at l
      exact absurd l (Nat.lt_irrefl _)
    · exact I0.nofs (Nat.le_refl _) e
end

/-! ### the lambda's body -/
/-- what it names: its own default's name, captured names, globals -/
structure LamK (sc scope : Scope) : Prop where
  kind : scope.kind = .function
  co : scope.isCoroutine = false
  gen : scope.isGenerator = false
  nocell : ∀ y ∈ scope.names, y.2 ≠ .cell
  nz : scope.names.lookup ("" : Str) = none
  free : ∀ y ∈ scope.names, y.2 = .free → sc.names.lookup y.1 = some .cell ∨ sc.names.lookup y.1 = some .free
def lamKB (sc scope : Scope) : Bool :=
  decide (scope.kind = .function) && (!scope.isCoroutine && (!scope.isGenerator && (decide (scope.names.lookup ("" : Str) = none) && scope.names.all fun y => !decide (y.2 = .cell) && (!decide (y.2 = .free) || decide (sc.names.lookup y.1 = some .cell) || decide (sc.names.lookup y.1 = some .free)))))
theorem lamK_by {sc scope : Scope} (h : lamKB sc scope = true) : LamK sc scope := by
  unfold lamKB at h
  simp only [Bool.and_eq_true, Bool.or_eq_true, Bool.not_eq_true', decide_eq_true_eq, decide_eq_false_iff_not, List.all_eq_true] at h
  obtain ⟨h1, h2, h3, h4, h5⟩ := h
  refine ⟨h1, h2, h3, fun y hy => (h5 y hy).1, h4, fun y hy e => ?_⟩
  rcases (h5 y hy).2 with (z | z) | z
  · exact absurd e z
  · exact .inl z
  · exact .inr z
theorem LamK.has {X : Cx} {scope : Scope} (L : LamK X.env.scope scope) (ok : X.Ok) : ∀ y ∈ scope.names, y.2 = .free → ∃ c, X.env.cells.lookup y.1 = some c := fun y hy e => by
  rcases L.free y hy e with k | k
  · exact ok.has _ (.inl k)
  · exact ok.has _ (.inr k)
/-- a slot of the maker's, as the lambda's body may name it -/
def lamNm (scope : Scope) (x : Str) : Str := if scope.names.lookup x = some .free then x else ("" : Str)
def lamX (X : Cx) (A : Around) (outer : List Env) (s : Shared) (H : Hp) (E : XK) (scope : Scope) (f c' : Addr) : Cx := { LamX.lamCx X A outer s H E scope f c' with N := X.N.map (lamNm scope) }
section
variable {X : Cx} {pins : List (Addr × Obj)} {σ : L2.St} {H HZ : Hp} {s s1 : Shared} {scope : Scope} {f c' : Addr}
theorem lam_enter {A : Around} {outer : List Env} {E : XK} {h₁ : Heap} {tk : Nat} {m : Str → Option Value} (I : Inv X pins σ H s) (L : LamK X.env.scope scope) (e0 : Env0 X.prog X.w X.K X.mg X.base A outer s1 HZ) (hd : A.handled = none)
    (un : Un (frs X.stack) [] H HZ s.heap s1.heap) (hns : h₁.Ns s1.heap.objs.size m) (kp : ∀ b o, s1.heap.get? b = some o → h₁.get? b = some o) :
    Inv (lamX X A outer s1 HZ E scope f c') [] σ HZ { s1 with heap := h₁, toks := tk } := by
  have fr := L.has I.ok
  have cm : ∀ {y c}, (cloFrom X.env.cells scope.names []).lookup y = some c → X.env.cells.lookup y = some c := fun {y c} e => by
    rcases cloFrom_mem (PySem.mem_of_lookup e) with z | ⟨z1, z2⟩
    · cases z
    · obtain ⟨c1, w1⟩ := fr _ z1 rfl
      have w1 : X.env.cells.lookup y = some c1 := w1
      rw [w1] at z2
      rw [w1]
      exact congrArg some z2.symm
  have look : ∀ {y}, scope.names.lookup y = some .free → ∃ c, (cloFrom X.env.cells scope.names []).lookup y = some c := fun {y} w =>
    mem_lookup (cloFrom_has (cells := X.env.cells) (acc := []) (PySem.mem_of_lookup w : (y, NameKind.free) ∈ scope.names))
  have cellK : ∀ {c : Addr} {v : Option Value}, H c = none → s.heap.IsCell c v → h₁.IsCell c v := fun {c v} n ⟨o, w1, w2⟩ => by
    obtain ⟨sl, q⟩ := un.any w1 n (by simp)
    exact ⟨_, kp _ _ q, w2⟩
  have noX : ∀ b : Addr, b ∉ (lamX X A outer s1 HZ E scope f c').ex := fun b z => by cases (show b ∈ ([] : List Addr) from z)
  refine ⟨⟨e0.mod, L.kind, rfl, rfl, Nat.le_refl _, fun y z c e1 e2 => I.ok.inj y z c (cm e1) (cm e2), fun y hy => ?_, fun y c z _ => ?_, fun _ => hd, Around.frames_deeper e0.frames, .inr ⟨rfl, rfl⟩, fun b z => absurd z (noX b), e0.bs, e0.bsz, fun b _ _ => noX b,
      fun b z => absurd z (noX b), e0.funs, e0.frf⟩,
    rfl, e0.bare, Un.kept kp, ⟨m, hns, fun i y v e1 e2 e3 => ?_⟩, fun y c e => ?_, e0.hok.fresh (Nat.le_refl _), fun y c e => ?_, fun q hq => ?_, e0.hok.kept kp, ?_⟩
  · have hy : scope.names.lookup y = some .cell ∨ scope.names.lookup y = some .free := hy
    rcases hy with hy | hy
    · exact absurd rfl (L.nocell _ (PySem.mem_of_lookup hy))
    · exact look hy
  · cases (show false = true from z)
  · have e1 : (X.N.map (lamNm scope))[i]? = some y := e1
    have e3 : Vis scope y := e3
    rw [List.getElem?_map] at e1
    cases hx : X.N[i]? with
    | none => rw [hx] at e1; cases e1
    | some x =>
      rw [hx] at e1
      have e1 : lamNm scope x = y := Option.some.inj e1
      unfold lamNm at e1
      split at e1
      · rename_i k
        subst e1
        obtain ⟨m0, hn, hl⟩ := I.loc
        have hvis : Vis X.env.scope x := (L.free _ (PySem.mem_of_lookup k) rfl).elim (fun k => .inr (.inl k)) (fun k => .inr (.inr k))
        obtain ⟨w', r, q⟩ := hl i x v hx e2 hvis
        obtain ⟨c2, h2⟩ := look k
        refine ⟨w', r, .inr ⟨.inr k, c2, h2, ?_⟩⟩
        have c1 := cm h2
        rcases q with ⟨k', _⟩ | ⟨_, c3, e', z⟩
        · have k' : X.env.scope.names.lookup x = some .local := k'
          rcases L.free _ (PySem.mem_of_lookup k) rfl with k2 | k2
          · have k2 : X.env.scope.names.lookup x = some .cell := k2
            rw [k2] at k'
            cases k'
          · have k2 : X.env.scope.names.lookup x = some .free := k2
            rw [k2] at k'
            cases k'
        · rw [c1] at e'
          cases e'
          exact cellK (I.freeC x _ c1) z
      · subst e1
        exfalso
        rcases e3 with z | z | z
        · rw [L.nz] at z
          cases z
        · rw [L.nz] at z
          cases z
        · rw [L.nz] at z
          cases z
  · obtain ⟨w', z⟩ := I.cell y c (cm e)
    exact ⟨w', cellK (I.freeC y c (cm e)) z⟩
  · obtain ⟨v, o, w1, w2⟩ := I.cell y c (cm e)
    exact un.free c o w1 (I.freeC y c (cm e)) (by simp)
  · cases (show q ∈ ([] : List (Addr × Obj)) from hq)
  · show σ.length = (X.N.map (lamNm scope)).length
    rw [List.length_map]
    exact I.len
/-- what the call of it binds -/
def LamBind (params : Arguments) (body : Expr) (scope : Scope) (is : List Int) : Prop := ∀ (q : Str) (cl : List (Str × Addr)) (dV doc pm cv ctv : Value) (s : Shared),
  ((is = [] ∧ dV = .none) ∨ ∃ (D : Addr) (i : Int) (tk : Tok), is = [i] ∧ dV = .ref D ∧ s.heap.get? D = some (PySem.W.kdv_tup [.int i tk])) →
    ∃ bs : List (Str × Value), BindsTo s (PySem.W.kdv_fn "<lambda>" q params (.expr body) scope cl dV doc pm cv ctv) ⟨[], []⟩ bs ∧ ∀ y ∈ bs, scope.names.lookup y.1 = some .local
theorem lamBind0 {params : Arguments} {body : Expr} (h : ∀ (q : Str) (cl : List (Str × Addr)) (doc pm cv ctv : Value), bindArgs (PySem.W.kdv_fn "<lambda>" q params (.expr body) scope cl .none doc pm cv ctv) ⟨[], []⟩ = pure []) : LamBind params body scope [] := fun q cl dV doc pm cv ctv s hd => by
  rcases hd with ⟨_, rfl⟩ | ⟨D, i, tk, e, _⟩
  · exact ⟨[], .of_eq (h q cl doc pm cv ctv), nofun⟩
  · cases e
theorem lamBind1 {params : Arguments} {body : Expr} {i : Int} {n : Str} (h : ∀ (q : Str) (cl : List (Str × Addr)) (D : Addr) (doc pm cv ctv : Value), ∃ k : Option (Array Value) → Sem (List (Str × Value)), bindArgs (PySem.W.kdv_fn "<lambda>" q params (.expr body) scope cl (.ref D) doc pm cv ctv) ⟨[], []⟩ = seqItems? (.ref D) >>= k ∧ ∀ v, k (some #[v]) = pure [(n, v)])
    (hn : scope.names.lookup n = some .local) : LamBind params body scope [i] := fun q cl dV doc pm cv ctv s hd => by
  rcases hd with ⟨e, _⟩ | ⟨D, i, tk, e, rfl, hD⟩
  · cases e
  · obtain ⟨k, h1, h2⟩ := h q cl D doc pm cv ctv
    refine ⟨[(n, .int i tk)], .of_defaults rfl hD rfl h1 (h2 _), fun y hy => ?_⟩
    rw [List.mem_singleton.mp hy]
    exact hn
theorem pe_act {CXg : CXT} {Eg : XK} {Ng : List Str} {qg : Str} {sg : Scope} {g : Addr} {cdg : Value} {params : Arguments} {body : Expr} {is : List Int} {k i : Nat} {a : Str} {pn : List (Addr × Obj)} {xe : Value → Shared → Prop} {W : WX} {E : XK} {tb : TE} {p1 p2 : Pos}
    (I : Inv X pins σ H s) (L : LamK X.env.scope scope) (hc : CloAt X H s.heap f c' params body scope is) (hb : LamBind params body scope is)
    (tk : Takes ((cxOf CXg X.prog X.w X.K X.mg X.base Ng qg sg g cdg X.A X.stack s H Eg).tr pn xe) W) (hW : ∀ cls d σ' H', E cls d H' → W cls d σ' H') (hr : Room (k + 1) (X.A.deeper (envOfC qg sg s.heap.objs.size g cdg)))
    (hbody : ∀ (A : Around) (outer : List Env) (s : Shared) (H : Hp), A.guards = X.A.guards → Room k (A.deeper (LamX.lamEnv X scope s.heap.objs.size f c')) → PE (lamX X A outer s H E scope f c') body tb)
    (hN : Ng[i]? = some a) (hv : Vis sg a) (hd : (a == ("__debug__" : Str)) = false := by decide) (hcd : (a == ("__classdict__" : Str)) = false := by decide) :
    PE ((cxOf CXg X.prog X.w X.K X.mg X.base Ng qg sg g cdg X.A X.stack s H Eg).tr pn xe) (.Call (.Name a p1) [] [] p2)
      (fun σZ HZ Q => σZ[i]? = some (some (.ref f)) ∧ HZ c' = some (LamX.CodeO c' (lamQ X)) ∧ tb σ HZ Q) := by
  refine ⟨fun pinsZ sZ σZ HZ Q IZ h => ?_⟩
  obtain ⟨g1, g2, g3⟩ := h
  refine wpAny_Call_Name_kw (thn ((pe_var (pos := p1) (i := i) hN hv hd hcd).run pinsZ sZ σZ HZ (fun v H1 => v = .ref f ∧ H1 = HZ) IZ ⟨.ref f, g1, rfl, rfl⟩) fun u s1 hh => ?_)
  obtain ⟨v, H1, I1, r1, rfl, rfl⟩ := hh
  obtain rfl : u = Value.ref f := r1
  have stay : ∀ b o, s.heap.get? b = some o → H b = none → b ∉ frs X.stack → s1.heap.get? b = some o := fun b o e n nf => I1.base.keep b o e n nf (fun z => nomatch (show b ∈ ([] : List Addr) from z))
  obtain ⟨dV, doc, pm, ctv, ob, hD⟩ := hc.ob
  have of1 := stay f _ ob hc.un hc.fr
  refine PySem.W.callWith_F0 ⟨_, _, _, _, of1⟩ ?_
  have un : Un (frs X.stack) [] H H1 s.heap s1.heap := I1.base
  obtain ⟨⟨oc, vs, t, w1, w2, w3⟩, _, _⟩ := I1.hok c' _ g2
  obtain ⟨bs, hbs, hloc⟩ := hb (lamQ X) (cloFrom X.env.cells scope.names []) dV doc pm (.ref c') ctv s1 (hD.imp (fun z => z) fun ⟨D, i, tk, e1, e2, e3, e4, e5⟩ => ⟨D, i, tk, e1, e2, stay D _ e3 e4 e5⟩)
  have rc : codeAny (model X.prog X.w) (X.A.deeper (envOfC qg sg s.heap.objs.size g cdg)) (.call (.ref f) ⟨[], []⟩) (CR (L2.CX X.prog X.w) (envOfC qg sg s.heap.objs.size g cdg :: X.stack) X.prog X.w H1 s1 Q E) s1 := by
    refine PySem.W.kla_callFunE hr.depth of1 rfl L.co L.gen rfl ⟨c', oc, vs, t, rfl, w1, w2, w3⟩ (hbs _ _ _ _ ?_)
    refine wpAny_newFunctionEnv L.nocell hloc (fun h₁ hns hsb => ⟨I1.nolimit.fresh _ hsb, ?_⟩) L.kind
    show codeAny _ _ (.expr body (LamX.lamEnv X scope s1.heap.objs.size f c')) _ _
    have kp : ∀ b o, s1.heap.get? b = some o → h₁.get? b = some o := fun b o e => hsb.extBut b o (Nat.ne_of_lt (Heap.lt_size e)) (Heap.get?_push_of_some _ e)
    have J : Inv (lamX X (X.A.deeper (envOfC qg sg s.heap.objs.size g cdg)) (envOfC qg sg s.heap.objs.size g cdg :: X.stack) s1 H1 E scope f c') [] σ H1 { s1 with heap := h₁, toks := s1.toks + bs.length } :=
      lam_enter I L I1.env0 hr.hd un hns kp
    refine PySem.W.kla_codeExpr (wpAny_mono ((hbody (X.A.deeper (envOfC qg sg s.heap.objs.size g cdg)) _ s1 H1 rfl (hr.deeper _)).run [] _ _ H1 Q J g3) (fun v s' hq => ?_) fun e s' hq => hq)
    obtain ⟨w', H', J', rv, q⟩ := hq
    exact ⟨w', H', J'.os, J'.bare, J'.base, J'.hok, rv, q⟩
  have hx : Passes (L2.CX X.prog X.w) ((cxOf CXg X.prog X.w X.K X.mg X.base Ng qg sg g cdg X.A X.stack s H Eg).tr pn xe) E := passes_call tk hW
  refine wpAny_call (codeAny_mono rc fun r s' hq => ?_)
  cases r with
  | error e => exact hx pinsZ σZ H1 s1 e s' I1 hq
  | ok fl =>
    cases fl with
    | ret u => exact I1.after hq
    | next => exact hq.elim
    | brk => exact hq.elim
    | cont => exact hq.elim
end
end Zj
/-! Exceptions as data: what raises, what a block comes to that may raise, defs that may. -/
namespace Zj
open PySem PySem.Spec PyProof.Rows L2
/-- an exception: the name of its class, its fields -/
structure Exc where
  c : Str
  fs : List (Str × PyData)
/-- what a call comes to -/
inductive Out where
  | ok (d : PyData)
  | ex (x : Exc)
variable [Nm]
def ExD (K : PySem.W.Frag) (mg : Str → Option Value) (H : Hp) (x : Exc) (cls : Value) (d : Option Addr) : Prop :=
  ∃ C : Addr, mg x.c = some (.ref C) ∧ cls = .ref C ∧ ∀ p ∈ x.fs, ∃ (dd : Addr) (fs : List (Str × V)) (v : V), d = some dd ∧ H dd = some (.xd fs) ∧ fs.lookup p.1 = some v ∧ Dp K H v p.2
theorem exd_sa {K : PySem.W.Frag} {mg : Str → Option Value} {H H' : Hp} {x : Exc} {cls : Value} {d : Option Addr} (s : Sa H H') (h : ExD K mg H x cls d) : ExD K mg H' x cls d := by
  obtain ⟨C, h1, h2, h3⟩ := h
  refine ⟨C, h1, h2, fun p hp => ?_⟩
  obtain ⟨dd, fs, v, g1, g2, g3, g4⟩ := h3 p hp
  exact ⟨dd, fs, v, g1, s _ _ g2 (by intro ps z; cases z), g3, dp_same s g4⟩
section
variable {X : Cx} {a : Addr} {ρ : Rho}
/-- it raises x -/
def EvX (X : Cx) (a : Addr) (e : Expr) (ρ : Rho) (x : Exc) : Prop := ∀ W : WX, Takes X W → ∀ T σ H, SD X.K a T H σ ρ → (∀ cls d H2, Sm H H2 → ExD X.K X.mg (off T H2) x cls d → W cls d σ H2) → ∀ Q : VK, JE X e σ H Q
/-- a def that keeps all: R tells of the arguments what comes of them -/
def spX (K : PySem.W.Frag) (mg : Str → Option Value) (R : List PyData → Out → Prop) : Sp := fun vs H Q E => ∃ T ds o, Din T H ∧ DpAll K (off T H) vs ds ∧ R ds o ∧ (∀ v H' d, o = .ok d → Sm H H' → Dp K (off T H') v d → Q v H') ∧
  ∀ cls dd H' x, o = .ex x → Sm H H' → ExD K mg (off T H') x cls dd → E cls dd H'
structure CalX (P : Program) (w : World) (K : PySem.W.Frag) (mg : Str → Option Value) (base : Heap) (k : Nat) (x : Str) (ps : List Str) (sp : Sp) : Prop where
  ex : ∃ f fd, FnOk P w K mg base (L2.CX P w) k f fd ps sp ∧ mg x = some (.ref f) ∧ PySem.W.keepIn K (.ref f) = true ∧ Binds K fd ps []
variable {e : Expr} {es : List Expr} {pos p : Pos} {d : PyData} {ds : List PyData} {k : Nat} {f : Str} {ps : List Str} {R : List PyData → Out → Prop} {x : Exc}
theorem e_callX (C : CalX X.prog X.w X.K X.mg X.base k f ps (spX X.K X.mg R)) (hr : Room k X.A) (ha : EvA X a (e :: es) ρ ds) (hR : R ds (.ok d))
    (hg : Gl X f := by rfl) (hdb : (f == ("__debug__" : Str)) = false := by decide) (he : starEach (e :: es) X.env = (false, eval e X.env) :: starEach es X.env := by exact star_of rfl) (hpl : (backTo pos (starEach es X.env)).any (·.1) = false := by exact star_no rfl) :
    EvE X a (.Call (.Name f p) (e :: es) [] pos) ρ d := fun T σ H S Q q => by
  obtain ⟨fa, fd, F, hm, hk, hb⟩ := C.ex
  refine toE (pe_call F hr hg hm hk hb (ds := []) (dvs := []) .nil passL ja hdb he hpl) (ha T σ H S _ fun vs H1 s1 p1 => ?_)
  rw [List.append_nil]
  exact ⟨T, ds, .ok d, S.dm.same s1, p1, hR, fun v H2 d' e' s2 p2 => by cases e'; exact q v H2 (s1.trans s2) p2, fun _ _ _ _ e' => by cases e'⟩
theorem x_call (C : CalX X.prog X.w X.K X.mg X.base k f ps (spX X.K X.mg R)) (hr : Room k X.A) (ha : EvA X a (e :: es) ρ ds) (hR : R ds (.ex x))
    (hg : Gl X f := by rfl) (hdb : (f == ("__debug__" : Str)) = false := by decide) (he : starEach (e :: es) X.env = (false, eval e X.env) :: starEach es X.env := by exact star_of rfl) (hpl : (backTo pos (starEach es X.env)).any (·.1) = false := by exact star_no rfl) :
    EvX X a (.Call (.Name f p) (e :: es) [] pos) ρ x := fun W tk T σ H S q Q => by
  obtain ⟨fa, fd, F, hm, hk, hb⟩ := C.ex
  refine toE (pe_callS (E := WE W) F hr hg hm hk hb (fun σ => passAt tk σ) ja hdb he hpl) (ha T σ H S _ fun vs H1 s1 p1 => ?_)
  exact ⟨T, ds, .ex x, S.dm.same s1, p1, hR, (fun _ _ _ e' => by cases e'), fun cls dd H' x' e' s2 h => by cases e'; exact q cls dd H' (s1.trans s2) h⟩

/-! calls by names alone -/
structure CalXK (P : Program) (w : World) (K : PySem.W.Frag) (mg : Str → Option Value) (base : Heap) (k : Nat) (x : Str) (st : Stmt) (ps : List Str) (sp : Sp) : Prop where
  ex : ∃ f fd, Fun K x x st f fd ∧ FnOk P w K mg base (L2.CX P w) k f fd ps sp ∧ mg x = some (.ref f)
theorem je_callK {CX : CXT} {sp : Sp} {ks : List Str} {fa : Addr} {fd : FuncData} {E : XK} {σ : L2.St} {H : Hp} {Q : VK} {kws : List Keyword} {g : List Value → List Value → List Value} {gV : List V → List V → List V} (F : FnOk X.prog X.w X.K X.mg X.base CX k fa fd ps sp) (hr : Room k X.A) (hg : Gl X f) (hm : X.mg f = some (.ref fa)) (hk : PySem.W.keepIn X.K (.ref fa) = true)
    (hb : KBinds X.K fd ps ks g gV) (hx : PassesAt CX X σ E) (hall : (backToKw pos (keywordEach kws X.env)).all (·.1.isSome) = true) (hks : (backToKw pos (keywordEach kws X.env)).filterMap (·.1) = ks) (hdb : (f == ("__debug__" : Str)) = false)
    (hpl : ((backTo pos (starEach [] X.env)).any (·.1) || (backToKw pos (keywordEach kws X.env)).any (·.1.isNone)) = false) (h : JK X kws σ H (fun zs H2 => sp (gV [] zs) H2 Q E)) : JE X (.Call (.Name f p) [] kws pos) σ H Q := fun pins s I => by
  refine wpAny_Call_Name_kw (ld_glob I hg hm ?_ hdb)
  refine PySem.W.callWith_KW0 (h₀ := X.base) I.ok.mod.kin hk hall (thn (h pos pins s I) fun ws s2 ⟨zs, H2, I2, rz, q2⟩ => ⟨I2.kIn, ?_⟩) hpl
  rw [hks]
  have r2 := hb.rel (vs := []) (us := []) .nil rz
  have l2 : (g [] ws).length = ps.length := by rw [← r2.length]; exact F.len _ _ _ _ q2
  refine wpAny_call (codeAny_mono (F.run X.A X.stack s2 H2 ⟨[], ks.zip ws⟩ (g [] ws) (gV [] zs) Q E hr I2.env0 (hb.to s2 [] ws I2.kIn l2) r2 q2) fun res s3 hq => ?_)
  match res, hq with
  | .error er, hq => exact hx pins H2 s2 er s3 I2 hq
  | .ok (.ret u), hq => exact I2.after hq
  | .ok .next, hq => exact False.elim hq
  | .ok .brk, hq => exact False.elim hq
  | .ok .cont, hq => exact False.elim hq
theorem kb_of {P : Program} {w : World} {K : PySem.W.Frag} {st : Stmt} {ks : List Str} {fa : Addr} {fd : FuncData} (fl : Bool) (hne : ps ≠ []) (F : Fun K f f st fa fd)
    (hb : ∀ (kV doc pm : Value) (an : Option Addr) (cdv ct : Value) (ws : List Value), ws.length = ps.length → bindArgs (PySem.W.fnOf f f (defArgs st) (defBody st) (defScope st) .none kV doc pm an cdv ct) ⟨[], ks.zip ws⟩ = pure (ps.zip (turn2 fl ws))) : KBinds K fd ps ks (gK fl) (gK fl) := by
  obtain ⟨oc, od, kV, doc, pm, an, cdv, ct, osl, rfl, lk, hcd⟩ := F.ex
  exact { to := fun s us ws _ hl => by
            cases us with
            | nil => exact .of_eq (hb kV doc pm an cdv ct ws (by rw [← hl]; exact (turn2_len ws).symm))
            | cons u us =>
              cases ps with
              | nil => exact (hne rfl).elim
              | cons _ _ => cases hl
          rel := fun {vs us zs ws} r rz => by
            cases r with
            | nil => exact turn2_vals rz
            | cons _ _ => exact .nil }
variable {kws : List Keyword} {ks : List Str} {st : Stmt}
theorem e_callXK (fl : Bool) (hne : ps ≠ []) (C : CalXK X.prog X.w X.K X.mg X.base k f st ps (spX X.K X.mg R)) (hr : Room k X.A) (ha : EvK X a kws ρ ds) (hR : R (turn2 fl ds) (.ok d))
    (hb : ∀ (kV doc pm : Value) (an : Option Addr) (cdv ct : Value) (ws : List Value), ws.length = ps.length → bindArgs (PySem.W.fnOf f f (defArgs st) (defBody st) (defScope st) .none kV doc pm an cdv ct) ⟨[], ks.zip ws⟩ = pure (ps.zip (turn2 fl ws)))
    (hg : Gl X f := by rfl) (hall : (backToKw pos (keywordEach kws X.env)).all (·.1.isSome) = true := by rfl) (hks : (backToKw pos (keywordEach kws X.env)).filterMap (·.1) = ks := by rfl)
    (hdb : (f == ("__debug__" : Str)) = false := by decide) (hpl : ((backTo pos (starEach [] X.env)).any (·.1) || (backToKw pos (keywordEach kws X.env)).any (·.1.isNone)) = false := by rfl) :
    EvE X a (.Call (.Name f p) [] kws pos) ρ d := fun T σ H S Q q => by
  obtain ⟨fa, fd, F, FO, hm⟩ := C.ex
  refine je_callK (E := E0) FO hr hg hm F.kp (kb_of (P := X.prog) (w := X.w) fl hne F hb) (fun pins H s e s' I c => passL pins σ H s e s' I c) hall hks hdb hpl (ha T σ H S _ fun vs H1 s1 p1 => ?_)
  exact ⟨T, turn2 fl ds, .ok d, S.dm.same s1, turn2_dps p1, hR, fun v H2 d' e' s2 p2 => by cases e'; exact q v H2 (s1.trans s2) p2, fun _ _ _ _ e' => by cases e'⟩
theorem x_callK (fl : Bool) (hne : ps ≠ []) (C : CalXK X.prog X.w X.K X.mg X.base k f st ps (spX X.K X.mg R)) (hr : Room k X.A) (ha : EvK X a kws ρ ds) (hR : R (turn2 fl ds) (.ex x))
    (hb : ∀ (kV doc pm : Value) (an : Option Addr) (cdv ct : Value) (ws : List Value), ws.length = ps.length → bindArgs (PySem.W.fnOf f f (defArgs st) (defBody st) (defScope st) .none kV doc pm an cdv ct) ⟨[], ks.zip ws⟩ = pure (ps.zip (turn2 fl ws)))
    (hg : Gl X f := by rfl) (hall : (backToKw pos (keywordEach kws X.env)).all (·.1.isSome) = true := by rfl) (hks : (backToKw pos (keywordEach kws X.env)).filterMap (·.1) = ks := by rfl)
    (hdb : (f == ("__debug__" : Str)) = false := by decide) (hpl : ((backTo pos (starEach [] X.env)).any (·.1) || (backToKw pos (keywordEach kws X.env)).any (·.1.isNone)) = false := by rfl) :
    EvX X a (.Call (.Name f p) [] kws pos) ρ x := fun W tk T σ H S q Q => by
  obtain ⟨fa, fd, F, FO, hm⟩ := C.ex
  refine je_callK (E := WE W σ) FO hr hg hm F.kp (kb_of (P := X.prog) (w := X.w) fl hne F hb) (passAt tk σ) hall hks hdb hpl (ha T σ H S _ fun vs H1 s1 p1 => ?_)
  exact ⟨T, turn2 fl ds, .ex x, S.dm.same s1, turn2_dps p1, hR, (fun _ _ _ e' => by cases e'), fun cls dd H' x' e' s2 h => by cases e'; exact q cls dd H' (s1.trans s2) h⟩

/-! ### blocks that may raise -/
def RunX (X : Cx) (a : Addr) (sts : List Stmt) (ρ : Rho) (N : Rho → Prop) (R : PyData → Prop) (RX : Exc → Rho → Prop) : Prop := ∀ W : WX, Takes X W → ∀ T σ H D, SD X.K a T H σ ρ → (∀ σ' H' ρ', Sm H H' → SD X.K a T H' σ' ρ' → N ρ' → D.nx σ' H') →
  (∀ v H' d, Sm H H' → Dp X.K (off T H') v d → R d → D.rt v H') → (∀ σ' cls d H' x ρ', Sm H H' → SD X.K a T H' σ' ρ' → ExD X.K X.mg (off T H') x cls d → RX x ρ' → W cls d σ' H') → JSs X sts D σ H
def RunXS (X : Cx) (a : Addr) (st : Stmt) (ρ : Rho) (N : Rho → Prop) (R : PyData → Prop) (RX : Exc → Rho → Prop) : Prop := ∀ W : WX, Takes X W → ∀ T σ H D, SD X.K a T H σ ρ → (∀ σ' H' ρ', Sm H H' → SD X.K a T H' σ' ρ' → N ρ' → D.nx σ' H') →
  (∀ v H' d, Sm H H' → Dp X.K (off T H') v d → R d → D.rt v H') → (∀ σ' cls d H' x ρ', Sm H H' → SD X.K a T H' σ' ρ' → ExD X.K X.mg (off T H') x cls d → RX x ρ' → W cls d σ' H') → JS X st D σ H
variable {stm : Stmt} {sts : List Stmt} {N : Rho → Prop} {RD : PyData → Prop} {RX : Exc → Rho → Prop}
theorem x_nil (h : N ρ) : RunX X a [] ρ N RD RX := fun W tk T σ H D S kn kr kx => toSs pss_nil (kn σ H ρ (Sm.refl H) S h)
theorem x_cons (h : RunXS X a stm ρ (fun ρ' => RunX X a sts ρ' N RD RX) RD RX) : RunX X a (stm :: sts) ρ N RD RX := fun W tk T σ H D S kn kr kx =>
  toSs (pss_cons js jss) (h W tk T σ H { D with nx := fun σ' H' => JSs X sts D σ' H' } S (fun σ' H' ρ' s S' hN => hN W tk T σ' H' D S' (fun σ2 H2 ρ2 s2 S2 n2 => kn σ2 H2 ρ2 (s.trans s2) S2 n2) (fun v H2 d s2 p r => kr v H2 d (s.trans s2) p r)
    fun σ2 cls d H2 x ρ2 s2 S2 p r => kx σ2 cls d H2 x ρ2 (s.trans s2) S2 p r) kr kx)
theorem x_one (h : RunXS X a stm ρ N RD RX) : RunX X a [stm] ρ N RD RX := fun W tk T σ H D S kn kr kx => toSs (pss_one js) (h W tk T σ H D S kn kr kx)
theorem xs_of (h : RunS X a stm ρ N RD) : RunXS X a stm ρ N RD RX := fun W tk T σ H D S kn kr kx => h T σ H D S kn kr
theorem x_of (h : Run X a sts ρ N RD) : RunX X a sts ρ N RD RX := fun W tk T σ H D S kn kr kx => h T σ H D S kn kr
theorem xs_ret (h : EvX X a e ρ x) (hr : RX x ρ) : RunXS X a (.Return (some e) pos) ρ N RD RX := fun W tk T σ H D S kn kr kx => toS (ps_ret je) (h W tk T σ H S (fun cls d H2 s p => kx σ cls d H2 x ρ s (S.same s) p hr) _)
theorem xs_expr (h : EvX X a e ρ x) (hr : RX x ρ) (hs : swapsWith e none pos.line X.env = pure false := by rfl) : RunXS X a (.Expr e pos) ρ N RD RX := fun W tk T σ H D S kn kr kx => toS (ps_expr je hs) (h W tk T σ H S (fun cls d H2 s p => kx σ cls d H2 x ρ s (S.same s) p hr) _)
theorem xs_set {i : Nat} {y : Str} {pos' : Pos} (G : Good X) (h : EvX X a e ρ x) (hr : RX x ρ) (hi : X.N[i]? = some y := by rfl) (hy : Loc X.env.scope y := by first | exact Or.inl rfl | exact Or.inr rfl)
    (hs : swapsWith e (some (.Name y pos')) pos.line X.env = pure false := by rfl) (hf : X.fn y = true ∨ X.env.scope.names.lookup y = some .local := by first | exact .inl rfl | exact .inr rfl) : RunXS X a (.Assign [.Name y pos'] e pos) ρ N RD RX := fun W tk T σ H D S kn kr kx =>
  toS (ps_set G.nd hi hy je hs hf) (h W tk T σ H S (fun cls d H2 s p => kx σ cls d H2 x ρ s (S.same s) p hr) _)
theorem xs_if {c : Expr} {b : Bool} {body orelse : List Stmt} (hc : EvT X a c ρ b) (h1 : b = true → RunX X a body ρ N RD RX) (h2 : b = false → RunX X a orelse ρ N RD RX) : RunXS X a (.If c body orelse pos) ρ N RD RX := fun W tk T σ H D S kn kr kx =>
  toS (ps_if jt jss jss) (hc T σ H S _ fun H1 s1 => by
    have go : ∀ {l : List Stmt}, RunX X a l ρ N RD RX → JSs X l D σ H1 := fun h => h W tk T σ H1 D (S.same s1) (fun σ2 H2 ρ2 s2 S2 n2 => kn σ2 H2 ρ2 (s1.trans s2) S2 n2) (fun v H2 d s2 p r => kr v H2 d (s1.trans s2) p r) fun σ2 cls d H2 x ρ2 s2 S2 p r => kx σ2 cls d H2 x ρ2 (s1.trans s2) S2 p r
    cases b with
    | true => exact iteT (go (h1 rfl))
    | false => exact iteF (go (h2 rfl)))

/-! ### raise -/
def JMk (X : Cx) (e : Expr) (σ : L2.St) (H : Hp) (Q : XK) : Prop := ∀ pins s, Inv X pins σ H s → wpAny (model X.prog X.w) X.A (eval e X.env) (MkP X pins σ Q) X.xe s
theorem jmk : PMk X e (JMk X e) := fun pins s σ H Q I h => h pins s I
theorem toMk {t : L2.St → Hp → XK → Prop} {σ : L2.St} {H : Hp} {Q : XK} (h : PMk X e t) (q : t σ H Q) : JMk X e σ H Q := fun pins s I => h pins s σ H Q I q
/-- it makes the exception x -/
def EvMk (X : Cx) (a : Addr) (e : Expr) (ρ : Rho) (x : Exc) : Prop := ∀ T σ H, SD X.K a T H σ ρ → ∀ Q : XK, (∀ cls d H2, Sm H H2 → ExD X.K X.mg (off T H2) x cls d → Q cls d H2) → JMk X e σ H Q
theorem xs_raise (G : Good X) (h : EvMk X a e ρ x) (hr : RX x ρ) : RunXS X a (.Raise (some e) none pos) ρ N RD RX := fun W tk T σ H D S kn kr kx =>
  toS (ps_raise G.calm tk jmk) (h T σ H S _ fun cls d H2 s p => kx σ cls d H2 x ρ s (S.same s) p hr)
end

/-! ### a def that may raise, from its block -/
section
variable {P : Program} {w : World} {K : PySem.W.Frag} {mg : Str → Option Value} {base : Heap}
theorem fnX {x qual : Str} {st : Stmt} {f : Addr} {fd : FuncData} {N ps : List Str} {k : Nat} {R : List PyData → Out → Prop} (F : Fun K x qual st f fd) (S : FnScope N ps (defScope st)) (hl : ∀ ds o, R ds o → ds.length = ps.length)
    (hb : ∀ (cdv : Value) (A : Around) (outer : List Env) (s : Shared) (H : Hp) (E : XK), Good (cxOf (L2.CX P w) P w K mg base N qual (defScope st) f cdv A outer s H E) → Room k (cxOf (L2.CX P w) P w K mg base N qual (defScope st) f cdv A outer s H E).A → ∀ ds o, R ds o →
      RunX (cxOf (L2.CX P w) P w K mg base N qual (defScope st) f cdv A outer s H E) 0 (defBody st) (dats ds ++ List.replicate (N.length - ds.length) none) (fun _ => o = .ok .none) (fun d => o = .ok d) (fun x' _ => o = .ex x')) : FnOk P w K mg base (L2.CX P w) (k + 1) f fd ps (spX K mg R) :=
  F.okX S (fun vs H Q E h => by
    obtain ⟨T, ds, o, _, h1, h2, _⟩ := h
    rw [dps_len h1]
    exact hl ds o h2) fun cdv A outer s H vs Q E hr h => by
    obtain ⟨T, ds, o, dm, h1, h2, h3, h4⟩ := h
    refine ⟨_, jss, hb cdv A outer s H E ⟨S.nd, rfl, passes_of rfl, hr.units⟩ hr ds o h2 _ (takes_of (E := E) rfl rfl rfl rfl) T _ H _ (SD.start dm h1) (fun σ' H' ρ' s1 S1 e => ?_) (fun v H' d' s1 p e => ?_) fun σ' cls d H' x' ρ' s1 S1 p e => ?_⟩
    · exact h3 _ H' _ e s1 .non
    · exact h3 v H' d' e s1 p
    · exact h4 cls d H' x' e s1 p
end
end Zj
/-! Own exceptions made; tries with several clauses, named or not; a def that hears what a lambda tells. -/
namespace Zj
open PySem PySem.Spec PyProof.Rows L2
variable [Nm]
/-! ### own exceptions that keep their arguments -/
/-- an __init__ that keeps its arguments under the parameters' names -/
def spI (K : PySem.W.Frag) (ps : List Str) : Sp := fun vs H Q _ => ∃ (a C : Addr) (ys : List V), vs = .ref a :: ys ∧ ys.length = ps.length ∧ OexC K C ∧ H a = some (exo a C none) ∧ (∀ f ∈ ps, PySem.W.findIn K (.ref C) f = some none) ∧
  ∀ (dx : Addr) (fs : List (Str × V)), H dx = none → dx ≠ a → (∀ p ∈ ps.zip ys, fs.lookup p.1 = some p.2) → Q .non (upd (upd H dx (exd dx fs)) a (exo a C (some dx)))
structure ClsI (P : Program) (w : World) (K : PySem.W.Frag) (mg : Str → Option Value) (base : Heap) (k : Nat) (x : Str) (ps : List Str) : Prop where
  ex : ∃ C fI fd, mg x = some (.ref C) ∧ OexC K C ∧ PySem.W.findIn K (.ref C) "__init__" = some (some (.ref fI)) ∧ PySem.W.typeIn K (.ref fI) = some (.type "function") ∧ (∀ f ∈ ps, PySem.W.findIn K (.ref C) f = some none) ∧
    FnOk P w K mg base CX0 k fI fd ("self" :: ps) (spI K ps) ∧ Binds K fd ("self" :: ps) []
theorem zip_dps {K : PySem.W.Frag} {H : Hp} : ∀ {ps : List Str} {vs : List V} {ds : List PyData} {f : Str} {d : PyData}, DpAll K H vs ds → (f, d) ∈ ps.zip ds → ∃ v, (f, v) ∈ ps.zip vs ∧ Dp K H v d
  | [], _, _, _, _, _, h => by simp at h
  | _ :: _, _, [], _, _, _, h => by simp at h
  | p :: ps, vs, d0 :: ds, f, d, hd, h => by
    cases hd with
    | @cons v0 _ vs0 _ h1 h2 =>
      rw [List.zip_cons_cons] at h
      rcases List.mem_cons.mp h with e | e
      · cases e
        exact ⟨v0, by rw [List.zip_cons_cons]; exact List.mem_cons_self, h1⟩
      · obtain ⟨v, g1, g2⟩ := zip_dps h2 e
        exact ⟨v, by rw [List.zip_cons_cons]; exact List.mem_cons_of_mem _ g1, g2⟩
section
variable {X : Cx} {a : Addr} {ρ : Rho} {e : Expr} {es : List Expr} {ds : List PyData} {k : Nat} {x : Str} {ps : List Str} {p pos : Pos}
theorem mk_init (C : ClsI X.prog X.w X.K X.mg X.base k x ps) (hr : Room (k + 1) X.A) (ha : EvA X a (e :: es) ρ ds) (hl : ds.length = ps.length) (hz : ds.length ≤ 1000) (hg : Gl X x := by rfl)
    (hdb : (x == ("__debug__" : Str)) = false := by decide) (he : starEach (e :: es) X.env = (false, eval e X.env) :: starEach es X.env := by exact star_of rfl) (hpl : (backTo pos (starEach es X.env)).any (·.1) = false := by exact star_no rfl) :
    EvMk X a (.Call (.Name x p) (e :: es) [] pos) ρ ⟨x, ps.zip ds⟩ := fun T σ H S Q q => by
  obtain ⟨C, fI, fd, hm, hO, hi, ht, hn, F, hb⟩ := C.ex
  refine toMk (pmk_oex hO hi ht F hr hb (ds := []) (dvs := []) .nil pass0 hg hm ja hdb he hpl) (ha T σ H S _ fun vs H1 s1 p1 => ?_)
  have lv := dps_len p1
  refine ⟨by rw [lv]; exact hz, fun a' na => ?_⟩
  rw [List.append_nil]
  refine ⟨a', C, vs, rfl, by rw [lv]; exact hl, hO, upd_same, hn, fun dx fs hdx hne hfs => ⟨rfl, dx, fs, upd_same, (upd_ne hne).trans upd_same, ?_, ?_⟩⟩
  · rw [upd_ne hne] at hdx
    exact hdx
  · rw [upd_ne hne] at hdx
    have eq : upd (del (upd (upd (upd H1 a' (exo a' C none)) dx (exd dx fs)) a' (exo a' C (some dx))) a') dx (.xd fs) = upd H1 dx (.xd fs) := by
      funext b
      by_cases hb1 : b = dx
      · rw [hb1, upd_same, upd_same]
      · rw [upd_ne hb1, upd_ne hb1]
        by_cases hb2 : b = a'
        · rw [hb2, del_same, na]
        · rw [del_ne hb2, upd_ne hb2, upd_ne hb1, upd_ne hb2]
    rw [eq]
    refine q _ _ _ (s1.trans (same_new hdx)) ⟨C, hm, rfl, fun pr hpr => ?_⟩
    obtain ⟨v, g1, g2⟩ := zip_dps (f := pr.1) (d := pr.2) p1 hpr
    have hd := S.dm.same s1
    refine ⟨dx, fs, v, rfl, ?_, hfs _ g1, dpo (same_new hdx) g2⟩
    rw [off_new hd hdx, upd_same]
/-- a class without arguments, without __init__ -/
structure ClsP (K : PySem.W.Frag) (mg : Str → Option Value) (x : Str) : Prop where
  ex : ∃ (C : Addr) (B newId initId : String) (bmB : List Value), mg x = some (.ref C) ∧ ExcBaseFacts B newId initId bmB ∧ PySem.W.excIn K C bmB newId = true ∧ PySem.W.keepIn K (.ref C) = true ∧
    PySem.W.subIn K (.ref C) (.type "BaseException") = some true ∧ PySem.W.typeIn K (.ref C) = some (.type "type")
theorem mk_plain (C : ClsP X.K X.mg x) (hg : Gl X x := by rfl) (hdb : (x == ("__debug__" : Str)) = false := by decide) : EvMk X a (.Call (.Name x p) [] [] pos) ρ ⟨x, []⟩ := fun T σ H S Q q pins s I => by
  obtain ⟨C, B, newId, initId, bmB, hm, F, hE, hk, hs, ht⟩ := C.ex
  refine wpAny_Call_Name_kw (ld_glob I hg hm ?_ hdb)
  refine PySem.W.callWith_K0 I.kIn hk ?_
  obtain ⟨bm, N, nm, qn, bs, hdct, sn, sub, ab, col, dd, k0, k1, k2, k3, k5, mN, o1, o2, o3, T0⟩ := exc_obj I.kIn hE
  refine wpAny_call_exc_subT F T0 o1 o2 o3 (fun h' e' hm' => ?_) (Nat.zero_le _)
  exact mk_of I hm' (raises_own hs ht) (q _ none H (Sm.refl H) ⟨C, hm, rfl, fun pr hpr => by cases hpr⟩) (I.hok.gone hm'.new)
end
section
variable {P : Program} {w : World} {K : PySem.W.Frag} {mg : Str → Option Value} {base : Heap}
/-- def __init__(self, f): self.f = f -/
theorem init1 {qual : Str} {st : Stmt} {fI : Addr} {fd : FuncData} {f : Str} {p1 p2 p3 p4 : Pos} (F : Fun K "__init__" qual st fI fd) (S : FnScope ["self", f] ["self", f] (defScope st)) (hb : defBody st = [.Assign [.Attribute (.Name "self" p1) f p2] (.Name f p3) p4])
    (h1 : Vis (defScope st) "self") (h2 : Vis (defScope st) f) (hd : (f == ("__debug__" : Str)) = false) (hcd : (f == ("__classdict__" : Str)) = false)
    (hs : ∀ env : Env, swapsWith (.Name f p3) (some (.Attribute (.Name "self" p1) f p2)) p4.line env = pure false) : FnOk P w K mg base CX0 1 fI fd ["self", f] (spI K [f]) := by
  refine F.ok S (fun vs H Q E h => ?_) fun cdv A outer s H vs Q E hr h => ?_
  · obtain ⟨a, C, ys, rfl, hl, _⟩ := h
    rw [List.length_cons, hl] <;> rfl
  · obtain ⟨a, C, ys, rfl, hl, hO, ha, hn, q⟩ := h
    match ys, hl with
    | [y], _ =>
      rw [hb]
      refine ⟨_, pss_one (ps_ost (pe_var (i := 0) rfl h1 (by decide) (by decide)) (pe_var (i := 1) rfl h2 hd hcd) (hs _)), ?_⟩
      refine ⟨_, rfl, _, rfl, a, C, rfl, hO, hn f (by simp), .inl ⟨ha, fun dx n ne => ?_⟩⟩
      exact q dx [(f, y)] n ne fun pr hpr => by
        have hpr : pr = (f, y) := by simpa using hpr
        rw [hpr]
        simp [List.lookup]
/-- def __init__(self, f, g): self.f = f; self.g = g -/
theorem init2 {qual : Str} {st : Stmt} {fI : Addr} {fd : FuncData} {f g : Str} {p1 p2 p3 p4 q1 q2 q3 q4 : Pos} (F : Fun K "__init__" qual st fI fd) (S : FnScope ["self", f, g] ["self", f, g] (defScope st))
    (hb : defBody st = [.Assign [.Attribute (.Name "self" p1) f p2] (.Name f p3) p4, .Assign [.Attribute (.Name "self" q1) g q2] (.Name g q3) q4])
    (h1 : Vis (defScope st) "self") (h2 : Vis (defScope st) f) (h3 : Vis (defScope st) g) (hd : (f == ("__debug__" : Str)) = false) (hcd : (f == ("__classdict__" : Str)) = false) (hd2 : (g == ("__debug__" : Str)) = false) (hcd2 : (g == ("__classdict__" : Str)) = false) (hfg : (f == g) = false)
    (hs : ∀ env : Env, swapsWith (.Name f p3) (some (.Attribute (.Name "self" p1) f p2)) p4.line env = pure false) (hs2 : ∀ env : Env, swapsWith (.Name g q3) (some (.Attribute (.Name "self" q1) g q2)) q4.line env = pure false) : FnOk P w K mg base CX0 1 fI fd ["self", f, g] (spI K [f, g]) := by
  refine F.ok S (fun vs H Q E h => ?_) fun cdv A outer s H vs Q E hr h => ?_
  · obtain ⟨a, C, ys, rfl, hl, _⟩ := h
    rw [List.length_cons, hl] <;> rfl
  · obtain ⟨a, C, ys, rfl, hl, hO, ha, hn, q⟩ := h
    match ys, hl with
    | [y, z], _ =>
      rw [hb]
      refine ⟨_, pss_cons (ps_ost (pe_var (i := 0) rfl h1 (by decide) (by decide)) (pe_var (i := 1) rfl h2 hd hcd) (hs _)) (pss_one (ps_ost (pe_var (i := 0) rfl h1 (by decide) (by decide)) (pe_var (i := 2) rfl h3 hd2 hcd2) (hs2 _))), ?_⟩
      refine ⟨_, rfl, _, rfl, a, C, rfl, hO, hn f (by simp), .inl ⟨ha, fun dx n ne => ?_⟩⟩
      refine ⟨_, rfl, _, rfl, a, C, rfl, hO, hn g (by simp), .inr ⟨dx, [(f, y)], upd_same, (upd_ne ne).trans upd_same, by simp, ?_⟩⟩
      have eq : upd (upd (upd H dx (exd dx [(f, y)])) a (exo a C (some dx))) dx (exd dx [(g, z), (f, y)]) = upd (upd H dx (exd dx [(g, z), (f, y)])) a (exo a C (some dx)) := by
        funext b
        by_cases hb1 : b = dx
        · rw [hb1, upd_same, upd_ne ne, upd_same]
        · rw [upd_ne hb1]
          by_cases hb2 : b = a
          · rw [hb2, upd_same, upd_same]
          · rw [upd_ne hb2, upd_ne hb2, upd_ne hb1, upd_ne hb1]
      show Q V.non (upd (upd (upd H dx (exd dx [(f, y)])) a (exo a C (some dx))) dx (exd dx [(g, z), (f, y)]))
      rw [eq]
      exact q dx [(g, z), (f, y)] n ne fun pr hpr => by
        have hpr : pr = (f, y) ∨ pr = (g, z) := by simpa using hpr
        rcases hpr with hpr | hpr
        · rw [hpr]
          simp [List.lookup, hfg]
        · rw [hpr]
          simp [List.lookup]
end

/-! ### try with clauses, named or not -/
def clr (i : Nat) (D : Ends) : Ends := { nx := fun σ H => D.nx (σ.set i none) H, rt := D.rt, bk := fun σ H => D.bk (σ.set i none) H, ct := fun σ H => D.ct (σ.set i none) H }
/-- a clause: its class, what its suite comes to -/
abbrev Cla := Value × (Addr → Value → Option Addr → TS)
inductive ClaOk (X : Cx) : List ExceptHandler → List Cla → Prop
  | nil : ClaOk X [] []
  | bare {x : Str} {c : Value} {ts : Addr → Value → Option Addr → TS} {b0 : Stmt} {sts : List Stmt} {np hp : Pos} {hds : List ExceptHandler} {l : List Cla} (hc : Names X x c)
      (hsu : ∀ (a : Addr) (oe : Obj) (cls : Value) (d : Option Addr) (pn : List (Addr × Obj)), Zc cls d oe → (∃ vs, oe.data = .fields vs) → PSs (X.suite a ((a, oe) :: pn)) (b0 :: sts) (ts a cls d)) (r : ClaOk X hds l) :
      ClaOk X (.ExceptHandler (some (.Name x np)) none (b0 :: sts) hp :: hds) ((c, ts) :: l)
  | named {x n : Str} {i : Nat} {c : Value} {ts : Addr → Value → Option Addr → TS} {b0 : Stmt} {sts : List Stmt} {np hp : Pos} {hds : List ExceptHandler} {l : List Cla} (hi : X.N[i]? = some n) (hln : X.env.kindOf n = some .local) (hc : Names X x c)
      (hsu : ∀ (a : Addr) (oe : Obj) (cls : Value) (d : Option Addr) (pn : List (Addr × Obj)), Zc cls d oe → (∃ vs, oe.data = .fields vs) → PSs (X.suite a ((a, oe) :: pn)) (b0 :: sts) (ts a cls d)) (r : ClaOk X hds l) :
      ClaOk X (.ExceptHandler (some (.Name x np)) (some n) (b0 :: sts) hp :: hds) ((c, fun a cls d D σ H => ts a cls d (clr i D) (σ.set i (some (.ref a))) H) :: l)
theorem ps_tries {X : Cx} {body : List Stmt} {c0 : ExceptHandler} {cs : List ExceptHandler} {l : List Cla} {tp : Pos} {tb : WX → TS} {Wout : WX} (hst : X.stack = X.env :: X.outer) (hfr : X.env.frame = some X.env.locals) (hN : X.N.Nodup) (tk : Takes X Wout)
    (hb : ∀ (W : WX) (pn : List (Addr × Obj)) (xe : Value → Shared → Prop), Takes (X.tr pn xe) W → PassesOwn (model X.prog X.w) X.A X.env xe → PSs (X.tr pn xe) body (tb W))
    (hh : ClaOk X (c0 :: cs) l) : PS X (.Try body (c0 :: cs) [] [] tp) (fun D σ H => tb (wMany X.K Wout D l) D σ H) := by
  refine ⟨fun pins s σ H D I hyp => ?_⟩
  have hok := I.ok
  have fra : X.A.frames = some (X.env :: X.outer) := by rw [hok.frames, hst]
  refine wpAny_Try_except ?_
  refine wpAny_mono ((hb (wMany X.K Wout D l) (X.pn ++ pins) (fun er s1 => wpAny (model X.prog X.w) X.A (noteFrame er X.env) (fun _ s2 => wpAny (model X.prog X.w) X.A (setFlight er none) (fun _ s3 =>
    wpAny (model X.prog X.w) X.A (handleBy er X.env (c0 :: cs)) (SP X pins D) X.xe s3) X.xe s2) X.xe s1) (fun er s1 hx => ?_) PassesOwn.looking).run [] s σ H D (I.toTry _) hyp) (fun fl s1 hsp => ?_) (fun er s1 hx => hx)
  · obtain ⟨a, B, sI, pins', σ1, H1, cls, d, rfl, J0, nb, up, sky, na, os, ag, w⟩ := hx
    have J : Inv X pins σ1 H1 sI := J0.ofTry hok
    show wpAny (model X.prog X.w) X.A (noteFrame (.ref a) X.env) _ _ _
    refine Sky.land (L := X.env.locals) Zc.steady fra hfr (by rw [← hst]; exact sky) fun h3 g3 up3 => ?_
    have J3 : Inv X pins σ1 H1 { s1 with heap := h3 } := J.landed nb g3.1 (up.trans up3) os ag
    obtain ⟨o3, v3, t1, t2, t3⟩ := g3.there
    have nst : a ∉ frs (X.env :: X.outer) := fun hm => by
      obtain ⟨_, o', z1, z2⟩ := g3.2.2.1.mem hm
      rw [t1] at z1
      cases z1
      exact z2 _ t3
    have nL : a ≠ X.env.locals := fun z => nst (List.mem_filterMap.mpr ⟨X.env, List.mem_cons_self, by rw [hfr, z]⟩)
    have nF : a ∉ X.fs := fun hm => by
      obtain ⟨en, z1, z2⟩ := List.mem_filterMap.mp hm
      exact nst (List.mem_filterMap.mpr ⟨en, List.mem_cons_of_mem _ z1, z2⟩)
    have S3 := J3.suite t1 t3 na nL nF
    have LT : PySem.W.Looks (model X.prog X.w) h3 (typeOf (.ref a)) cls := fun A Q E s k q => wpAny_typeOf_ref (k _ _ t1) (by rw [t2.1]; exact q)
    have test : ∀ {x : Str} {c : Value} {np : Pos} {Q : Value → Shared → Prop} {E : Value → Shared → Prop}, Names X x c → Q c { s1 with heap := h3 } → wpAny (model X.prog X.w) (X.A.mark (some (.ref a))) (eval (.Name x np) X.env) Q E { s1 with heap := h3 } := fun {x c np Q E} hc q => by
      obtain ⟨n1, n2, n3 | ⟨n3, n4, n5⟩⟩ := hc
      · exact ld_glob (X := X.suite a ((a, o3) :: (X.pn ++ pins))) S3 n1 n3 q n2
      · exact ld_blt (X := X.suite a ((a, o3) :: (X.pn ++ pins))) S3 n1 n3 n4 q n5 n2
    have go : ∀ {hds : List ExceptHandler} {ll : List Cla}, ClaOk X hds ll → wMany X.K Wout D ll cls d σ1 H1 → wpAny (model X.prog X.w) X.A (handleBy (.ref a) X.env hds) (SP X pins D) X.xe { s1 with heap := h3 } := by
      intro hds ll hk
      induction hk with
      | nil =>
        intro w
        refine wpAny_handleBy_nil ?_
        obtain ⟨_, _, _, oe, vs, T, oT, ts', y1, _, y3, y4, _⟩ := id g3
        unfold PySem.passOn
        refine wpAny_bind (wpAny_field y1 y3 y4 ?_)
        rw [if_neg (show ¬ ((Value.ref T == Value.none) = true) from by simp)]
        have last : wpAny (model X.prog X.w) X.A (setFlight (.ref a) X.env.frame) (fun _ s4 => wpAny (model X.prog X.w) X.A (throw (.ref a) : Sem Flow) (SP X pins D) X.xe s4) X.xe { s1 with heap := h3 } := by
          rw [hfr]
          refine HandSPX.setFlight_upZ g3 fun h4 g4 up4 => wpAny_throw (tk _ _ ?_)
          exact ⟨a, B, sI, pins, σ1, H1, cls, d, rfl, J, nb, (up.trans up3).trans up4, .inr (.inr (by rw [hst]; exact g4)), na, os, ag, w⟩
        first
          | exact wpAny_bind (wpAny_pure (wpAny_bind last))
          | exact wpAny_bind last
      | @bare x c ts b0 sts np hp hds2 l2 hc hsu r ih =>
        intro w
        obtain ⟨b, w1, w2, w3⟩ := w
        refine wpAny_handleBy_cons (codeAny_handlers_test ?_) (by intro z; cases z)
        refine test hc ((PySem.W.exm_one (M := model X.prog X.w) J3.kIn LT w1).here ?_)
        cases b with
        | false =>
          show wpAny _ X.A (handleBy (.ref a) X.env hds2) _ _ _
          exact ih (w3 rfl)
        | true =>
          refine codeAny_handlers_suite ?_
          refine HandSPX.lands_againZ g3 fun h4 g4 up4 => ?_
          have J4 : Inv X pins σ1 H1 { s1 with heap := h4 } := J.landed nb g4.1 ((up.trans up3).trans up4) os ag
          obtain ⟨o4, v4, u1, u2, u3⟩ := g4.there
          refine wpAny_mono ((hsu a o4 cls d (X.pn ++ pins) u2 ⟨_, u3⟩).run [] _ _ H1 _ (J4.suite u1 u3 na nL nF) (w2 rfl a na)) (fun fl s6 hsp => ?_) (fun _ _ z => False.elim z)
          match fl, hsp with
          | .next, ⟨_, _, S6, q6⟩ => exact ⟨_, _, S6.unsuite hok, q6⟩
          | .brk, ⟨_, _, S6, q6⟩ => exact ⟨_, _, S6.unsuite hok, q6⟩
          | .cont, ⟨_, _, S6, q6⟩ => exact ⟨_, _, S6.unsuite hok, q6⟩
          | .ret u, ⟨_, _, _, S6, r6, q6⟩ => exact ⟨_, _, _, S6.unsuite hok, r6, q6⟩
      | @named x n i c ts b0 sts np hp hds2 l2 hi hln hc hsu r ih =>
        intro w
        obtain ⟨b, w1, w2, w3⟩ := w
        refine wpAny_handleBy_cons (codeAny_handlers_test ?_) (by intro z; cases z)
        refine test hc ((PySem.W.exm_one (M := model X.prog X.w) J3.kIn LT w1).here ?_)
        cases b with
        | false =>
          show wpAny _ X.A (handleBy (.ref a) X.env hds2) _ _ _
          exact ih (w3 rfl)
        | true =>
          refine codeAny_handlers_suite_as ?_
          refine HandSPX.lands_againZ g3 fun h4 g4 up4 => ?_
          have J4 : Inv X pins σ1 H1 { s1 with heap := h4 } := J.landed nb g4.1 ((up.trans up3).trans up4) os ag
          obtain ⟨o4, v4, u1, u2, u3⟩ := g4.there
          refine store_ok (X := X.suite a ((a, o4) :: (X.pn ++ pins))) (v := .ref a) (J4.suite u1 u3 na nL nF) hN hi (.inl hln) rfl (fun s5 S5 => ?_) (.inr hln)
          refine wpAny_mono ((hsu a o4 cls d (X.pn ++ pins) u2 ⟨_, u3⟩).run [] s5 _ H1 _ S5 (w2 rfl a na)) (fun fl s6 hsp => ?_) (fun _ _ z => False.elim z)
          have away : ∀ {σ6 : L2.St} {H6 : Hp} {Q : Shared → Prop}, Inv (X.suite a ((a, o4) :: (X.pn ++ pins))) [] σ6 H6 s6 → (∀ s7, Inv X pins (σ6.set i none) H6 s7 → Q s7) →
              wpAny (model X.prog X.w) X.A (do bindName X.env n .none; unbindBehindTheSuite X.env n hp) (fun _ s7 => Q s7) X.xe s6 := fun {σ6 H6 Q} S6 hq => gone_ok (S6.unsuite hok) hN hi hln hq
          match fl, hsp with
          | .next, ⟨_, _, S6, q6⟩ => exact away S6 fun s7 J7 => ⟨_, _, J7, q6⟩
          | .brk, ⟨_, _, S6, q6⟩ => exact away S6 fun s7 J7 => ⟨_, _, J7, q6⟩
          | .cont, ⟨_, _, S6, q6⟩ => exact away S6 fun s7 J7 => ⟨_, _, J7, q6⟩
          | .ret u, ⟨_, _, _, S6, r6, q6⟩ => exact away S6 fun s7 J7 => ⟨_, _, _, J7, r6, q6⟩
    exact go hh w
  · match fl, hsp with
    | .next, ⟨_, _, J0, q⟩ => exact wpAny_execs_nil ⟨_, _, J0.ofTry hok, q⟩
    | .brk, ⟨_, _, J0, q⟩ => exact ⟨_, _, J0.ofTry hok, q⟩
    | .cont, ⟨_, _, J0, q⟩ => exact ⟨_, _, J0.ofTry hok, q⟩
    | .ret u, ⟨_, _, _, J0, r, q⟩ => exact ⟨_, _, _, J0.ofTry hok, r, q⟩
end Zj
/-! A def that is handed a lambda, calls it, and tells what it came to. -/
namespace Zj
open PySem PySem.Spec PyProof.Rows L2
variable [Nm]
section
variable {X : Cx} {pins : List (Addr × Obj)} {σ : L2.St} {H HZ : Hp} {s : Shared} {scope : Scope} {f c' : Addr}
/-- the lambda is called, by the def that was handed it; at the slots σZ -/
theorem je_act {CXg : CXT} {Eg : XK} {Ng : List Str} {qg : Str} {sg : Scope} {g : Addr} {cdg : Value} {params : Arguments} {body : Expr} {is : List Int} {k i : Nat} {an : Str} {pn : List (Addr × Obj)} {xe : Value → Shared → Prop} {W : WX} {p1 p2 : Pos} {σZ : L2.St} {Q : VK}
    (I : Inv X pins σ H s) (L : LamK X.env.scope scope) (hc : CloAt X H s.heap f c' params body scope is) (hb : LamBind params body scope is)
    (tk : Takes ((cxOf CXg X.prog X.w X.K X.mg X.base Ng qg sg g cdg X.A X.stack s H Eg).tr pn xe) W) (hr : Room (k + 1) (X.A.deeper (envOfC qg sg s.heap.objs.size g cdg)))
    (hbody : ∀ (A : Around) (outer : List Env) (s1 : Shared), A.guards = X.A.guards → Room k (A.deeper (LamX.lamEnv X scope s1.heap.objs.size f c')) → JE (lamX X A outer s1 HZ (WE W σZ) scope f c') body σ HZ Q)
    (g1 : σZ[i]? = some (some (.ref f))) (g2 : HZ c' = some (LamX.CodeO c' (lamQ X)))
    (hN : Ng[i]? = some an) (hv : Vis sg an) (hd : (an == ("__debug__" : Str)) = false := by decide) (hcd : (an == ("__classdict__" : Str)) = false := by decide) :
    JE ((cxOf CXg X.prog X.w X.K X.mg X.base Ng qg sg g cdg X.A X.stack s H Eg).tr pn xe) (.Call (.Name an p1) [] [] p2) σZ HZ Q := fun pinsZ sZ IZ => by
  refine wpAny_Call_Name_kw (thn ((pe_var (pos := p1) (i := i) hN hv hd hcd).run pinsZ sZ σZ HZ (fun v H1 => v = .ref f ∧ H1 = HZ) IZ ⟨.ref f, g1, rfl, rfl⟩) fun u s1 hh => ?_)
  obtain ⟨v, H1, I1, r1, rfl, rfl⟩ := hh
  obtain rfl : u = Value.ref f := r1
  have kept : ∀ b o, s.heap.get? b = some o → H b = none → b ∉ frs X.stack → s1.heap.get? b = some o := fun b o e n nf => I1.base.keep b o e n nf (fun z => nomatch (show b ∈ ([] : List Addr) from z))
  obtain ⟨dV, doc, pm, ctv, ob, hD⟩ := hc.ob
  have of1 := kept f _ ob hc.un hc.fr
  refine PySem.W.callWith_F0 ⟨_, _, _, _, of1⟩ ?_
  have un : Un (frs X.stack) [] H H1 s.heap s1.heap := I1.base
  obtain ⟨⟨oc, vs, t, w1, w2, w3⟩, _, _⟩ := I1.hok c' _ g2
  obtain ⟨bs, hbs, hloc⟩ := hb (lamQ X) (cloFrom X.env.cells scope.names []) dV doc pm (.ref c') ctv s1 (hD.imp (fun z => z) fun ⟨D, i, tk, e1, e2, e3, e4, e5⟩ => ⟨D, i, tk, e1, e2, kept D _ e3 e4 e5⟩)
  have rc : codeAny (model X.prog X.w) (X.A.deeper (envOfC qg sg s.heap.objs.size g cdg)) (.call (.ref f) ⟨[], []⟩) (CR (L2.CX X.prog X.w) (envOfC qg sg s.heap.objs.size g cdg :: X.stack) X.prog X.w H1 s1 Q (WE W σZ)) s1 := by
    refine PySem.W.kla_callFunE hr.depth of1 rfl L.co L.gen rfl ⟨c', oc, vs, t, rfl, w1, w2, w3⟩ (hbs _ _ _ _ ?_)
    refine wpAny_newFunctionEnv L.nocell hloc (fun h1 hns hsb => ⟨I1.nolimit.fresh _ hsb, ?_⟩) L.kind
    show codeAny _ _ (.expr body (LamX.lamEnv X scope s1.heap.objs.size f c')) _ _
    have kp : ∀ b o, s1.heap.get? b = some o → h1.get? b = some o := fun b o e => hsb.extBut b o (Nat.ne_of_lt (Heap.lt_size e)) (Heap.get?_push_of_some _ e)
    have J : Inv (lamX X (X.A.deeper (envOfC qg sg s.heap.objs.size g cdg)) (envOfC qg sg s.heap.objs.size g cdg :: X.stack) s1 H1 (WE W σZ) scope f c') [] σ H1 { s1 with heap := h1, toks := s1.toks + bs.length } :=
      lam_enter I L I1.env0 hr.hd un hns kp
    refine PySem.W.kla_codeExpr (wpAny_mono (hbody (X.A.deeper (envOfC qg sg s.heap.objs.size g cdg)) _ s1 rfl (hr.deeper _) [] _ J) (fun v s' hq => ?_) fun e s' hq => hq)
    obtain ⟨w', H', J', rv, q⟩ := hq
    exact ⟨w', H', J'.os, J'.bare, J'.base, J'.hok, rv, q⟩
  refine wpAny_call (codeAny_mono rc fun r s' hq => ?_)
  match r, hq with
  | .error er, hq => exact tk er s' (XE.of_call I1 (fun _ _ _ h => h) hq)
  | .ok (.ret u), hq => exact I1.after hq
  | .ok .next, hq => exact False.elim hq
  | .ok .brk, hq => exact False.elim hq
  | .ok .cont, hq => exact False.elim hq
end
/-- what a call of the lambda in slot 0 comes to -/
def Act (Z : Cx) (T : Addr → Prop) (f : Addr) (H0 : Hp) (o : Out) (an : Str) : Prop := ∀ (W : WX) (pn : List (Addr × Obj)) (xe : Value → Shared → Prop), Takes (Z.tr pn xe) W → ∀ (σZ : L2.St) (HZ : Hp) (p1 p2 : Pos), σZ[0]? = some (some (.ref f)) → Sm H0 HZ →
  ∀ Q : VK, (∀ v H2 d, o = .ok d → Sm HZ H2 → Dp Z.K (off T H2) v d → Q v H2) → (∀ cls dd H2 x, o = .ex x → Sm HZ H2 → ExD Z.K Z.mg (off T H2) x cls dd → W cls dd σZ H2) → JE (Z.tr pn xe) (.Call (.Name an p1) [] [] p2) σZ HZ Q
def HeardB (Z : Cx) (bg : List Stmt) (Ng : List Str) (an : Str) (o : Out) (r : PyData) : Prop := ∀ (T : Addr → Prop) (f : Addr) (H0 : Hp), Din T H0 → Act Z T f H0 o an → ∀ D : Ends, (∀ v H2, Sm H0 H2 → Dp Z.K (off T H2) v r → D.rt v H2) → JSs Z bg D (L2.start Ng [.ref f]) H0
/-- what the lambda's body comes to -/
def LamO (X : Cx) (a : Addr) (ρ : Rho) (scope : Scope) (body : Expr) (k : Nat) (o : Out) : Prop := ∀ (A : Around) (outer : List Env) (s : Shared) (H : Hp) (E : XK) (f c' : Addr), A.guards = X.A.guards → Room k (A.deeper (LamX.lamEnv X scope s.heap.objs.size f c')) →
  match o with
  | .ok d => EvE (lamX X A outer s H E scope f c') a body ρ d
  | .ex x => EvX (lamX X A outer s H E scope f c') a body ρ x
section
variable {X : Cx} {a : Addr} {ρ : Rho} {scope : Scope} {params : Arguments} {body : Expr} {is : List Int} {lpos p pos : Pos} {k : Nat} {o : Out} {r : PyData} {hn an : Str} {stH : Stmt} {Ng : List Str} {g c P : Addr} {fd : FuncData}
theorem e_heard (F : Fun X.K hn hn stH g fd) (hm : X.mg hn = some (.ref g)) (hb : L2.Binds X.K fd [an] []) (Sg : FnScope Ng [an] (defScope stH)) (h0 : Ng[0]? = some an) (hva : Vis (defScope stH) an)
    (HB : ∀ (cdv : Value) (A : Around) (outer : List Env) (s : Shared) (H : Hp), Good (cxOf CX0 X.prog X.w X.K X.mg X.base Ng hn (defScope stH) g cdv A outer s H E0).nox → HeardB (cxOf CX0 X.prog X.w X.K X.mg X.base Ng hn (defScope stH) g cdv A outer s H E0).nox (defBody stH) Ng an o r)
    (hr : Room (k + 2) X.A) (TB : LamX.TabB X.base X.mg c P) (hc0 : X.env.code = .ref c) (hP : P ∈ Nm.tabs) (hq : Nm.nm P = lamQ X) (L : LamK X.env.scope scope) (hd : LamD X.env params is) (hbd : LamBind params body scope is) (LO : LamO X a ρ scope body k o)
    (hg : Gl X hn := by rfl) (hdb : (hn == ("__debug__" : Str)) = false := by decide) (hd1 : (an == ("__debug__" : Str)) = false := by decide) (hd2 : (an == ("__classdict__" : Str)) = false := by decide) :
    EvE X a (.Call (.Name hn p) [.Lambda params body scope lpos] [] pos) ρ r := fun T σ H S Q q pins s I => by
  have hk := F.kp
  obtain ⟨oc, od, kV, doc, pm, an0, cdv, ct, osl, rfl, lk, hcd⟩ := F.ex
  refine wpAny_Call_Name_kw (ld_glob I hg hm ?_ hdb)
  refine PySem.W.callWith_K (h₀ := X.base) I.ok.mod.kin hk ?_ (by rfl) (by rfl)
  show wpAny _ _ (spliced ((false, eval (.Lambda params body scope lpos) X.env) :: backTo pos (starEach [] X.env))) _ _ s
  refine Calls.spliced_cons (lam_made (E := X.xe) I TB hc0 hq (hq ▸ S.dm.tb P hP) (L.has I.ok) hd fun f c' H1 s1 I1 sm CA => ?_)
  refine Calls.spliced_nil ⟨I1.kIn, ?_⟩
  have rc : codeAny (model X.prog X.w) X.A (.call (.ref g) ⟨[.ref f], []⟩) (CR CX0 X.stack X.prog X.w H1 s1 Q E0) s1 := by
    refine LamX.run_ofS (N := Ng) (ps := [an]) (us := [.ref f]) (vs := [.ref f]) lk hcd Sg hr I1.env0 (hb s1 [.ref f] I1.kIn rfl) (.cons rfl .nil) rfl fun hr1 => ⟨_, jss.nox, ?_⟩
    refine HB cdv X.A X.stack s1 H1 ⟨Sg.nd, rfl, PassesOwn.never, hr1.units⟩ T f H1 (S.dm.same sm) (fun W pn xe tk σZ HZ p1 p2 z1 z2 Q2 ko kx => ?_) _ fun v H2 s2 p2 => q v H2 (sm.trans s2) p2
    refine je_act (CXg := CX0) (Eg := E0) (i := 0) I1 L CA hbd tk hr1 (fun A outer s2 hgd hr2 => ?_) z1 (z2.ob _ _ CA.co LamX.codeO_ne) h0 hva hd1 hd2
    have lo := LO A outer s2 HZ (WE W σZ) f c' hgd hr2
    have S2 : SD X.K a T HZ σ ρ := (S.same sm).same z2
    match o, lo, ko, kx with
    | .ok d, lo, ko, kx => exact lo T σ HZ S2 Q2 fun v H2 s3 p3 => ko v H2 d rfl s3 p3
    | .ex x, lo, ko, kx => exact lo _ (takes_of (E := WE W σZ) rfl rfl rfl rfl) T σ HZ S2 (fun cls d H2 s3 p3 => kx cls d H2 x rfl s3 p3) Q2
  refine wpAny_call (codeAny_mono rc fun res s2 hq => ?_)
  match res, hq with
  | .error er, hq => exact (show False from hq).elim
  | .ok (.ret u), hq => exact I1.after hq
  | .ok .next, hq => exact False.elim hq
  | .ok .brk, hq => exact False.elim hq
  | .ok .cont, hq => exact False.elim hq
end

/-! ### what such a def makes of it -/
/-- a class of exceptions, its fields readable -/
structure XcF (K : PySem.W.Frag) (mg : Str → Option Value) (x : Str) (fs : List Str) : Prop where
  ex : ∃ C, mg x = some (.ref C) ∧ XfC K C ∧ ∀ f ∈ fs, PySem.W.findIn K (.ref C) f = some none
/-- whether an exception of x is one of y's -/
structure Exm (K : PySem.W.Frag) (mg : Str → Option Value) (x y : Str) (b : Bool) : Prop where
  ex : ∃ C D, mg x = some (.ref C) ∧ mg y = some (.ref D) ∧ PySem.W.exmOne K (.ref C) (.ref D) = some b
theorem Exm.at {K : PySem.W.Frag} {mg : Str → Option Value} {x y : Str} {b : Bool} (h : Exm K mg x y b) {C D : Addr} (h1 : mg x = some (.ref C)) (h2 : mg y = some (.ref D)) : PySem.W.exmOne K (.ref C) (.ref D) = some b := by
  obtain ⟨C', D', e1, e2, e3⟩ := h.ex
  rw [h1] at e1
  rw [h2] at e2
  cases e1
  cases e2
  exact e3
section
variable {Z : Cx} {an n w1 w2 x1 x2 f1 f2 : Str} {i : Nat} {k j j1 j2 k1 k2 : Nat} {p1 p2 p3 p4 p5 q1 q2 q3 q4 q5 q6 q7 r1 r2 r3 r4 r5 r6 r7 : Pos} {Ng : List Str} {o : Out} {r : PyData}
/-- the suite: ("w", n.f) -/
def tPair (K : PySem.W.Frag) (mg : Str → Option Value) (i : Nat) (w f : Str) (a : Addr) (cls : Value) (d : Option Addr) : TS := fun D σ H => σ[i]? = some (some (.ref a)) ∧ ∃ (T : Addr → Prop) (x : Exc) (y : PyData), Din T H ∧ (f, y) ∈ x.fs ∧ ExD K mg (off T H) x cls d ∧
  (∃ C, XfC K C ∧ PySem.W.findIn K (.ref C) f = some none ∧ cls = .ref C) ∧ ∀ v H2, Sm H H2 → Dp K (off T H2) v (.tuple [.str w, y]) → D.rt v H2
theorem ps_pair {a : Addr} {oe : Obj} {cls : Value} {d : Option Addr} {pn : List (Addr × Obj)} {w f : Str} (hz : Zc cls d oe) (hf : ∃ vs, oe.data = .fields vs) (hi : Z.N[i]? = some n) (hv : Vis Z.env.scope n) (hd : (n == ("__debug__" : Str)) = false) (hcd : (n == ("__classdict__" : Str)) = false)
    (hs : ∀ e : Expr, starEach (.Constant (.str w) j q1 :: [e]) (Z.suite a ((a, oe) :: pn)).env = (false, eval (.Constant (.str w) j q1) (Z.suite a ((a, oe) :: pn)).env) :: starEach [e] (Z.suite a ((a, oe) :: pn)).env) (hs2 : ∀ e : Expr, e = .Attribute (.Name n q2) f q3 → starEach [e] (Z.suite a ((a, oe) :: pn)).env = (false, eval e (Z.suite a ((a, oe) :: pn)).env) :: starEach [] (Z.suite a ((a, oe) :: pn)).env)
    (hb : attributeBase (.Name n q2) f (Z.suite a ((a, oe) :: pn)).env (eval (.Name n q2) (Z.suite a ((a, oe) :: pn)).env) = eval (.Name n q2) (Z.suite a ((a, oe) :: pn)).env) :
    PSs (Z.suite a ((a, oe) :: pn)) [.Return (some (.Tuple [.Constant (.str w) j q1, .Attribute (.Name n q2) f q3] k q4)) q5] (tPair Z.K Z.mg i w f a cls d) := by
  refine ⟨fun pins s σ H D I h => ?_⟩
  obtain ⟨hσ, T, x, y, dm, hx, he, ⟨C, hX, hno, hC⟩, q⟩ := h
  obtain ⟨C', _, hc', hall⟩ := he
  obtain ⟨dd, fs, v, rfl, hdd, hl, hp⟩ := hall _ hx
  refine (pss_one (ps_ret (pe_tup (pa_cons pe_str (pa_cons (pe_xf hX hno hz hf (pe_var hi hv hd hcd) hb) pa_nil (hs2 _ rfl)) (hs _))))).run pins s σ H D I ?_
  refine ⟨.ref a, hσ, rfl, hC, dd, fs, v, rfl, (off_some hdd).1, hl, szl (by simp), fun pa hpa => ?_⟩
  exact q _ _ (same_new hpa) (dpo_newT dm hpa (.cons (.str w) (.cons hp .nil)))
/-- the try's body: [a()] -/
def tAct (Z : Cx) (T : Addr → Prop) (f : Addr) (H0 : Hp) (o : Out) (an : Str) (W : WX) : TS := fun D σ H => σ[0]? = some (some (.ref f)) ∧ Act Z T f H0 o an ∧ Sm H0 H ∧ Din T H ∧ (∀ v H2 d, o = .ok d → Sm H H2 → Dp Z.K (off T H2) v (.list [d]) → D.rt v H2) ∧
  ∀ cls dd H2 x, o = .ex x → Sm H H2 → ExD Z.K Z.mg (off T H2) x cls dd → W cls dd σ H2
theorem ps_act {T : Addr → Prop} {f : Addr} {H0 : Hp} {W : WX} {pn : List (Addr × Obj)} {xe : Value → Shared → Prop} (tk : Takes (Z.tr pn xe) W) (hs : starEach [.Call (.Name an p1) [] [] p2] (Z.tr pn xe).env = (false, eval (.Call (.Name an p1) [] [] p2) (Z.tr pn xe).env) :: starEach [] (Z.tr pn xe).env) :
    PSs (Z.tr pn xe) [.Return (some (.List [.Call (.Name an p1) [] [] p2] p3)) p4] (tAct Z T f H0 o an W) := by
  refine ⟨fun pins s σ H D I h => ?_⟩
  obtain ⟨h1, h2, h3, h4, h5, h6⟩ := h
  refine (pss_one (ps_ret (pe_lst (pa_cons je pa_nil hs)))).run pins s σ H D I (h2 W pn xe tk σ H p1 p2 h1 h3 _ (fun v H2 d e s2 p => ?_) fun cls dd H2 x e s2 p => h6 cls dd H2 x e s2 p)
  exact ⟨szl (by simp), fun pa hpa => h5 _ _ d e (s2.trans (same_new hpa)) (dpo_newL (h4.same s2) hpa (.cons p .nil))⟩
theorem heard1 (G : Good Z) (hst : Z.stack = Z.env :: Z.outer) (hfr : Z.env.frame = some Z.env.locals) (hi : Z.N[i]? = some n) (hln : Z.env.kindOf n = some .local) (hv : Vis Z.env.scope n) (hd : (n == ("__debug__" : Str)) = false) (hcd : (n == ("__classdict__" : Str)) = false) (g1 : Gl Z x1) (d1 : (x1 == ("__debug__" : Str)) = false)
    (C1 : XcF Z.K Z.mg x1 [f1]) (m11 : Exm Z.K Z.mg x1 x1 true) (h0 : ∀ f : Addr, (L2.start Ng [V.ref f])[0]? = some (some (V.ref f))) (hsl : ∀ f a : Addr, ((L2.start Ng [V.ref f]).set i (some (V.ref a)))[i]? = some (some (V.ref a)))
    (ho : (∃ d, o = .ok d ∧ r = .list [d]) ∨ ∃ y, o = .ex ⟨x1, [(f1, y)]⟩ ∧ r = .tuple [.str w1, y]) :
    HeardB Z [.Try [.Return (some (.List [.Call (.Name an p1) [] [] p2] p3)) p4] [.ExceptHandler (some (.Name x1 q1)) (some n) [.Return (some (.Tuple [.Constant (.str w1) j1 r1, .Attribute (.Name n r2) f1 r3] k1 r4)) r5] q2] [] [] p5] Ng an o r := fun T f H0 dm act D q => by
  obtain ⟨A1, hm1, XA, noA⟩ := C1.ex
  refine toSs (pss_one (ps_tries (tb := fun W => tAct Z T f H0 o an W) (Wout := fun _ _ _ _ => False) hst hfr G.nd takes0 (fun W pn xe tk _ => ps_act tk rfl) (.named hi hln ⟨g1, d1, .inl hm1⟩ (fun a oe cls d pn hz hf => ps_pair hz hf hi hv hd hcd (fun _ => rfl) (fun _ e => by subst e; rfl) rfl) .nil)))
    ⟨h0 f, act, Sm.refl H0, dm, fun v H2 d e s p => ?_, fun cls dd H2 x e s p => ?_⟩
  · rcases ho with ⟨d', e', er⟩ | ⟨y, e', er⟩
    · rw [e'] at e
      cases e
      rw [er] at q
      exact q v H2 s p
    · rw [e'] at e
      cases e
  · rcases ho with ⟨d', e', er⟩ | ⟨y, e', er⟩
    · rw [e'] at e
      cases e
    · rw [e'] at e
      cases e
      have p0 := p
      obtain ⟨C, hc, rfl, _⟩ := p0
      have eC := hm1.symm.trans hc
      cases eC
      exact ⟨true, m11.at hm1 hm1, fun _ a na => ⟨hsl f a, T, _, y, dm.same s, List.mem_singleton.mpr rfl, p, ⟨A1, XA, noA _ (List.mem_singleton.mpr rfl), rfl⟩, fun v H3 s3 p3 => q v H3 (s.trans s3) (er ▸ p3)⟩, fun z => nomatch z⟩
theorem heard2 (G : Good Z) (hst : Z.stack = Z.env :: Z.outer) (hfr : Z.env.frame = some Z.env.locals) (hi : Z.N[i]? = some n) (hln : Z.env.kindOf n = some .local) (hv : Vis Z.env.scope n) (hd : (n == ("__debug__" : Str)) = false) (hcd : (n == ("__classdict__" : Str)) = false) (g1 : Gl Z x1) (d1 : (x1 == ("__debug__" : Str)) = false) (g2 : Gl Z x2) (d2 : (x2 == ("__debug__" : Str)) = false)
    (C1 : XcF Z.K Z.mg x1 [f1]) (C2 : XcF Z.K Z.mg x2 [f2]) (m11 : Exm Z.K Z.mg x1 x1 true) (m21 : Exm Z.K Z.mg x2 x1 false) (m22 : Exm Z.K Z.mg x2 x2 true) (h0 : ∀ f : Addr, (L2.start Ng [V.ref f])[0]? = some (some (V.ref f))) (hsl : ∀ f a : Addr, ((L2.start Ng [V.ref f]).set i (some (V.ref a)))[i]? = some (some (V.ref a)))
    (ho : (∃ d, o = .ok d ∧ r = .list [d]) ∨ (∃ y, o = .ex ⟨x1, [(f1, y)]⟩ ∧ r = .tuple [.str w1, y]) ∨ ∃ y, o = .ex ⟨x2, [(f2, y)]⟩ ∧ r = .tuple [.str w2, y]) :
    HeardB Z [.Try [.Return (some (.List [.Call (.Name an p1) [] [] p2] p3)) p4] [.ExceptHandler (some (.Name x1 q1)) (some n) [.Return (some (.Tuple [.Constant (.str w1) j1 r1, .Attribute (.Name n r2) f1 r3] k1 r4)) r5] q2,
      .ExceptHandler (some (.Name x2 q3)) (some n) [.Return (some (.Tuple [.Constant (.str w2) j2 q5, .Attribute (.Name n q6) f2 q7] k2 r6)) r7] q4] [] [] p5] Ng an o r := fun T f H0 dm act D q => by
  obtain ⟨A1, hm1, XA, noA⟩ := C1.ex
  obtain ⟨A2, hm2, XB, noB⟩ := C2.ex
  refine toSs (pss_one (ps_tries (tb := fun W => tAct Z T f H0 o an W) (Wout := fun _ _ _ _ => False) hst hfr G.nd takes0 (fun W pn xe tk _ => ps_act tk rfl) (.named hi hln ⟨g1, d1, .inl hm1⟩ (fun a oe cls d pn hz hf => ps_pair hz hf hi hv hd hcd (fun _ => rfl) (fun _ e => by subst e; rfl) rfl)
    (.named hi hln ⟨g2, d2, .inl hm2⟩ (fun a oe cls d pn hz hf => ps_pair hz hf hi hv hd hcd (fun _ => rfl) (fun _ e => by subst e; rfl) rfl) .nil))))
    ⟨h0 f, act, Sm.refl H0, dm, fun v H2 d e s p => ?_, fun cls dd H2 x e s p => ?_⟩
  · rcases ho with ⟨d', e', er⟩ | ⟨y, e', er⟩ | ⟨y, e', er⟩
    · rw [e'] at e
      cases e
      rw [er] at q
      exact q v H2 s p
    · rw [e'] at e
      cases e
    · rw [e'] at e
      cases e
  · rcases ho with ⟨d', e', er⟩ | ⟨y, e', er⟩ | ⟨y, e', er⟩
    · rw [e'] at e
      cases e
    · rw [e'] at e
      cases e
      have p0 := p
      obtain ⟨C, hc, rfl, _⟩ := p0
      have eC := hm1.symm.trans hc
      cases eC
      exact ⟨true, m11.at hm1 hm1, fun _ a na => ⟨hsl f a, T, _, y, dm.same s, List.mem_singleton.mpr rfl, p, ⟨A1, XA, noA _ (List.mem_singleton.mpr rfl), rfl⟩, fun v H3 s3 p3 => q v H3 (s.trans s3) (er ▸ p3)⟩, fun z => nomatch z⟩
    · rw [e'] at e
      cases e
      have p0 := p
      obtain ⟨C, hc, rfl, _⟩ := p0
      have eC := hm2.symm.trans hc
      cases eC
      exact ⟨false, m21.at hm2 hm1, (fun z => nomatch z), fun _ => ⟨true, m22.at hm2 hm2, fun _ a na => ⟨hsl f a, T, _, y, dm.same s, List.mem_singleton.mpr rfl, p, ⟨A2, XB, noB _ (List.mem_singleton.mpr rfl), rfl⟩, fun v H3 s3 p3 => q v H3 (s.trans s3) (er ▸ p3)⟩, fun z => nomatch z⟩⟩
/-- clauses without names, a text each -/
theorem heard0 {A1 A2 : Addr} (G : Good Z) (hst : Z.stack = Z.env :: Z.outer) (hfr : Z.env.frame = some Z.env.locals) (g1 : Gl Z x1) (d1 : (x1 == ("__debug__" : Str)) = false) (g2 : Gl Z x2) (d2 : (x2 == ("__debug__" : Str)) = false)
    (hm1 : Z.mg x1 = some (.ref A1)) (hm2 : Z.mg x2 = some (.ref A2)) (m11 : Exm Z.K Z.mg x1 x1 true) (m21 : Exm Z.K Z.mg x2 x1 false) (m22 : Exm Z.K Z.mg x2 x2 true) (h0 : ∀ f : Addr, (L2.start Ng [V.ref f])[0]? = some (some (V.ref f)))
    (ho : (∃ d, o = .ok d ∧ r = .list [d]) ∨ (o = .ex ⟨x1, []⟩ ∧ r = .str w1) ∨ (o = .ex ⟨x2, []⟩ ∧ r = .str w2)) :
    HeardB Z [.Try [.Return (some (.List [.Call (.Name an p1) [] [] p2] p3)) p4] [.ExceptHandler (some (.Name x1 q1)) none [.Return (some (.Constant (.str w1) j1 r1)) r5] q2,
      .ExceptHandler (some (.Name x2 q3)) none [.Return (some (.Constant (.str w2) j2 q5)) r7] q4] [] [] p5] Ng an o r := fun T f H0 dm act D q => by
  refine toSs (pss_one (ps_tries (tb := fun W => tAct Z T f H0 o an W) (Wout := fun _ _ _ _ => False) hst hfr G.nd takes0 (fun W pn xe tk _ => ps_act tk rfl) (.bare ⟨g1, d1, .inl hm1⟩ (fun a oe cls d pn hz hf => pss_one (ps_ret pe_str))
    (.bare ⟨g2, d2, .inl hm2⟩ (fun a oe cls d pn hz hf => pss_one (ps_ret pe_str)) .nil))))
    ⟨h0 f, act, Sm.refl H0, dm, fun v H2 d e s p => ?_, fun cls dd H2 x e s p => ?_⟩
  · rcases ho with ⟨d', e', er⟩ | ⟨e', er⟩ | ⟨e', er⟩
    · rw [e'] at e
      cases e
      rw [er] at q
      exact q v H2 s p
    · rw [e'] at e
      cases e
    · rw [e'] at e
      cases e
  · rcases ho with ⟨d', e', er⟩ | ⟨e', er⟩ | ⟨e', er⟩
    · rw [e'] at e
      cases e
    · rw [e'] at e
      cases e
      obtain ⟨C, hc, rfl, _⟩ := p
      have eC := hm1.symm.trans hc
      cases eC
      exact ⟨true, m11.at hm1 hm1, fun _ a na => q _ H2 s (er ▸ .str w1), fun z => nomatch z⟩
    · rw [e'] at e
      cases e
      obtain ⟨C, hc, rfl, _⟩ := p
      have eC := hm2.symm.trans hc
      cases eC
      exact ⟨false, m21.at hm2 hm1, (fun z => nomatch z), fun _ => ⟨true, m22.at hm2 hm2, fun _ a na => q _ H2 s (er ▸ .str w2), fun z => nomatch z⟩⟩
end
end Zj
/-! Whole numbers, rows of them: plain mathematics. -/
namespace Zj
open PySem PySem.Spec PyProof.Rows L2
abbrev tI (xs : List Int) : PyData := .tuple (xs.map .int)
abbrev lI (xs : List Int) : PyData := .list (xs.map .int)
/-- all of them below n binary figures -/
def BitsL (n : Nat) (xs : List Int) : Prop := ∀ x ∈ xs, Bits n x
theorem Bits.mono {m n : Nat} {x : Int} (h : Bits m x) (l : m ≤ n) : Bits n x := Nat.lt_of_lt_of_le h (Nat.pow_le_pow_right (by decide) l)
theorem BitsL.mono {m n : Nat} {xs : List Int} (h : BitsL m xs) (l : m ≤ n) : BitsL n xs := fun x hx => (h x hx).mono l
theorem Bits.mul {m n : Nat} {x y : Int} (h : Bits m x) (l : Bits n y) : Bits (m + n) (x * y) := by
  unfold Bits at *
  rw [Int.natAbs_mul, Nat.pow_add]
  exact Nat.mul_lt_mul'' h l
theorem Bits.add {m : Nat} {x y : Int} (h : Bits m x) (l : Bits m y) : Bits (m + 1) (x + y) := by
  unfold Bits at *
  rw [Nat.pow_succ]
  omega
theorem Bits.sub {m : Nat} {x y : Int} (h : Bits m x) (l : Bits m y) : Bits (m + 1) (x - y) := by
  unfold Bits at *
  rw [Nat.pow_succ]
  omega
theorem Bits.neg {m : Nat} {x : Int} (h : Bits m x) : Bits m (-x) := by
  unfold Bits at *
  rw [Int.natAbs_neg]
  exact h
theorem Bits.log {m : Nat} {x : Int} (h : Bits m x) (h0 : 0 < m) : x.natAbs.log2 < m := PySem.Flt.log2_lt_of h0 h
theorem Bits.le {m : Nat} {x y : Int} (h : Bits m y) (l : x.natAbs ≤ y.natAbs) : Bits m x := Nat.lt_of_le_of_lt l h
def gcdL (xs : List Int) : Nat := xs.foldl (fun g x => Nat.gcd g x.natAbs) 0
theorem gcd_fold (xs : List Int) (g : Nat) : xs.foldl (fun g x => Nat.gcd g x.natAbs) g = Nat.gcd g (gcdL xs) := by
  induction xs generalizing g with
  | nil =>
    show g = Nat.gcd g 0
    rw [Nat.gcd_zero_right]
  | cons x xs ih =>
    show xs.foldl _ (Nat.gcd g x.natAbs) = Nat.gcd g (xs.foldl _ (Nat.gcd 0 x.natAbs))
    rw [ih, ih, Nat.gcd_zero_left, Nat.gcd_assoc]
theorem gcdL_cons (x : Int) (xs : List Int) : gcdL (x :: xs) = Nat.gcd x.natAbs (gcdL xs) := by
  show xs.foldl _ (Nat.gcd 0 x.natAbs) = _
  rw [gcd_fold, Nat.gcd_zero_left]
theorem gcdL_nil : gcdL [] = 0 := rfl
theorem gcdL_append (xs ys : List Int) : gcdL (xs ++ ys) = Nat.gcd (gcdL xs) (gcdL ys) := by
  unfold gcdL
  rw [List.foldl_append, gcd_fold]
  rfl
theorem gcdL_dvd {xs : List Int} {x : Int} (h : x ∈ xs) : (gcdL xs : Int) ∣ x := by
  induction xs with
  | nil => cases h
  | cons y ys ih =>
    rw [gcdL_cons]
    rcases List.mem_cons.mp h with e | e
    · subst e
      exact Int.ofNat_dvd_left.mpr (Nat.gcd_dvd_left _ _)
    · exact Int.dvd_trans (Int.ofNat_dvd.mpr (Nat.gcd_dvd_right _ _)) (ih e)
theorem gcdL_zero {xs : List Int} (h : gcdL xs = 0) : ∀ x ∈ xs, x = 0 := fun x hx => by
  have := gcdL_dvd hx
  rw [h] at this
  exact Int.zero_dvd.mp this
theorem gcdL_le {xs : List Int} {x : Int} (h : x ∈ xs) (h0 : x ≠ 0) : gcdL xs ≤ x.natAbs := by
  have h1 : gcdL xs ∣ x.natAbs := Int.natAbs_dvd_natAbs.mpr (gcdL_dvd h) |> fun z => by simpa using z
  exact Nat.le_of_dvd (by omega) h1
theorem gcdL_bits {xs : List Int} {n : Nat} (h : BitsL n xs) : Bits n (gcdL xs : Int) := by
  by_cases h0 : gcdL xs = 0
  · rw [h0]
    show (0 : Nat) < 2 ^ n
    exact Nat.pow_pos (by decide)
  · have : ∃ x ∈ xs, x ≠ 0 := Classical.byContradiction fun hn => h0 (by
      have hz : ∀ x ∈ xs, x = 0 := fun x hx => Classical.byContradiction fun z => hn ⟨x, hx, z⟩
      clear hn h0 h
      induction xs with
      | nil => rfl
      | cons y ys ih =>
        rw [gcdL_cons, ih (fun x hx => hz x (List.mem_cons_of_mem _ hx)), hz y List.mem_cons_self]
        rfl)
    obtain ⟨x, hx, hx0⟩ := this
    exact (h x hx).le (by simpa using gcdL_le hx hx0)
/-- divided by what all are multiples of -/
def shortL (xs : List Int) : List Int := if gcdL xs < 2 then xs else xs.map fun x => x.fdiv (gcdL xs : Int)
theorem shortL_len (xs : List Int) : (shortL xs).length = xs.length := by
  unfold shortL
  split
  · rfl
  · rw [List.length_map]
theorem fdiv_le {x : Int} {g : Nat} : (x.fdiv (g : Int)).natAbs ≤ x.natAbs := by
  by_cases hg : g = 0
  · subst hg
    simp
  · rw [Int.fdiv_eq_ediv_of_nonneg x (by omega)]
    exact Int.natAbs_ediv_le_natAbs x g
theorem shortL_bits {xs : List Int} {n : Nat} (h : BitsL n xs) : BitsL n (shortL xs) := fun y hy => by
  unfold shortL at hy
  split at hy
  · exact h y hy
  · obtain ⟨x, hx, rfl⟩ := List.mem_map.mp hy
    exact (h x hx).le fdiv_le
/-- it is one multiple of the short ones -/
theorem shortL_mul (xs : List Int) (h : ∃ x ∈ xs, x ≠ 0) : 0 < gcdL xs ∧ xs = (shortL xs).map fun y => (gcdL xs : Int) * y := by
  have hg : 0 < gcdL xs := Nat.pos_of_ne_zero fun z => by
    obtain ⟨x, hx, h0⟩ := h
    exact h0 (gcdL_zero z x hx)
  refine ⟨hg, ?_⟩
  unfold shortL
  split
  · have : gcdL xs = 1 := by omega
    rw [this]
    simp
  · rw [List.map_map]
    conv => lhs; rw [← List.map_id xs]
    refine List.map_congr_left fun x hx => ?_
    obtain ⟨c, hc⟩ := gcdL_dvd hx
    show x = (gcdL xs : Int) * x.fdiv (gcdL xs : Int)
    rw [Int.fdiv_eq_ediv_of_nonneg x (by omega)]
    conv => rhs; rw [hc]
    rw [Int.mul_ediv_cancel_left c (by omega)]
    exact hc
def sgn (n : Int) : Int := if 0 < n then 1 else if n < 0 then -1 else 0
def dot (xs ys : List Int) : Int := (List.zipWith (· * ·) xs ys).sum
/-- the place of the first that is not 0 -/
def lead (xs : List Int) : Option Nat := xs.findIdx? fun x => !(x == 0)
def planeL (row : List Int) : Option (List Int) := match lead row.dropLast with
  | none => none
  | some p => some (if (shortL row).getD p 0 < 0 then (shortL row).map (fun x => -x) else shortL row)
def planeD (row : List Int) : PyData := match planeL row with
  | none => .none
  | some xs => tI xs
def fracL (top bottom : Int) : List Int := if 0 < bottom then shortL [top, bottom] else (shortL [top, bottom]).map fun x => -x
def pointL (ns : List Int) (b : Int) : List Int := shortL (ns.map (fun x => (if 0 < b then 1 else -1) * x) ++ [(if 0 < b then 1 else -1) * b])
/-! what is walked, in pairs -/
def onPair (g : Int → Int → Int) : PyData → PyData
  | .tuple [.int x, .int y] => .int (g x y)
  | _ => .none
theorem mem_zipI {xs ys : List Int} {d : PyData} (h : d ∈ List.zipWith (fun x y => PyData.tuple [x, y]) (xs.map .int) (ys.map .int)) : ∃ x ∈ xs, ∃ y ∈ ys, d = .tuple [.int x, .int y] := by
  induction xs generalizing ys with
  | nil => cases h
  | cons x xs ih =>
    cases ys with
    | nil => cases h
    | cons y ys =>
      rcases List.mem_cons.mp h with e | e
      · exact ⟨x, List.mem_cons_self, y, List.mem_cons_self, e⟩
      · obtain ⟨x', h1, y', h2, e'⟩ := ih e
        exact ⟨x', List.mem_cons_of_mem _ h1, y', List.mem_cons_of_mem _ h2, e'⟩
theorem zipI_map (g : Int → Int → Int) (xs ys : List Int) : (List.zipWith (fun x y => PyData.tuple [x, y]) (xs.map .int) (ys.map .int)).map (onPair g) = (List.zipWith g xs ys).map .int := by
  induction xs generalizing ys with
  | nil => rfl
  | cons x xs ih =>
    cases ys with
    | nil => rfl
    | cons y ys =>
      show PyData.int (g x y) :: _ = PyData.int (g x y) :: _
      rw [← ih ys]
def onInt (g : Int → Int) : PyData → PyData
  | .int x => .int (g x)
  | _ => .none
theorem mapI (g : Int → Int) (xs : List Int) : (xs.map PyData.int).map (onInt g) = (xs.map g).map .int := by
  rw [List.map_map, List.map_map] <;> rfl
theorem mem_mapI {xs : List Int} {d : PyData} (h : d ∈ xs.map PyData.int) : ∃ x ∈ xs, d = .int x := by
  obtain ⟨x, hx, e⟩ := List.mem_map.mp h
  exact ⟨x, hx, e.symm⟩
end Zj
/-! More plain mathematics: places, parts. -/
namespace Zj
open PySem PySem.Spec PyProof.Rows L2
variable [Nm]
theorem six_none (n d : Nat) : HT.sIx n d none = d := HT.sIx_none n d
theorem six_last (n d : Nat) (h : 1 ≤ n) : HT.sIx n d (some (-1)) = n - 1 := by
  have e := HT.clip_eq (-1) n d
  rw [if_pos (by decide)] at e
  have : max ((-1 : Int) + (n : Int)) 0 = ((n - 1 : Nat) : Int) := by omega
  rw [this] at e
  exact (Int.ofNat.inj e).symm
theorem cutD_init (ds : List PyData) (h : 1 ≤ ds.length) : cutD ds none (some (-1)) = ds.dropLast := by
  unfold cutD
  rw [six_none, six_last _ _ h, List.drop_zero, Nat.sub_zero, List.dropLast_eq_take]
theorem cutD_tail (ds : List PyData) (h : 1 ≤ ds.length) : cutD ds (some (-1)) none = ds.drop (ds.length - 1) := by
  unfold cutD
  rw [six_none, six_last _ _ h]
  exact List.take_of_length_le (by rw [List.length_drop]; exact Nat.le_refl _)
theorem cut_part (ds : List PyData) (h : 1 ≤ ds.length) : ¬ (HT.sIx ds.length 0 none = 0 ∧ HT.sIx ds.length ds.length (some (-1)) = ds.length) := by
  rw [six_last _ _ h]
  omega
theorem ati_last {α : Type} {xs : List α} {x : α} (h : xs.getLast? = some x) : atI xs (-1) = some x := by
  obtain ⟨l, rfl⟩ : ∃ l, xs = l ++ [x] := List.getLast?_eq_some_iff.mp h
  exact atI_last l x
theorem ati_of {α : Type} {xs : List α} {i : Int} {j : Nat} {x : α} (e : i = (j : Int)) (h : xs[j]? = some x) : atI xs i = some x := by
  rw [e]
  exact atI_nat h
theorem lastI {xs : List Int} {x : Int} (h : xs.getLast? = some x) : (xs.map PyData.int).getLast? = some (.int x) := by
  rw [List.getLast?_map, h] <;> rfl
theorem initI (xs : List Int) : (xs.map PyData.int).dropLast = xs.dropLast.map .int := (List.map_dropLast).symm
def wholeD : PyData → Bool
  | .int _ => true
  | _ => false
def badAt (ds : List PyData) : Option Nat := ds.findIdx? fun x => !wholeD x
def placeD : Option Nat → PyData
  | some k => .int (k : Int)
  | none => .none
def wrongD (v : PyData) (m : Int) : PyData := match v with
  | .tuple ds => if (ds.length : Int) = m then placeD (badAt ds) else .int (-1)
  | _ => .int (-1)
theorem badAt_ints (xs : List Int) : badAt (xs.map .int) = none := by
  unfold badAt
  rw [List.findIdx?_eq_none_iff]
  intro x hx
  obtain ⟨i, _, rfl⟩ := List.mem_map.mp hx
  rfl
/-- the first place of which something holds, told turn by turn -/
theorem find_hit {α : Type} {p : α → Bool} {xs : List α} {n : Nat} {x : α} (h : xs[n]? = some x) (hx : p x = true) (hb : ∀ i y, i < n → xs[i]? = some y → p y = false) : xs.findIdx? p = some n := by
  rw [List.findIdx?_eq_some_iff_getElem]
  obtain ⟨hn1, hn2⟩ := (List.getElem?_eq_some_iff.mp h)
  refine ⟨hn1, by rw [hn2]; exact hx, fun j hj => ?_⟩
  have hj' : j < xs.length := by omega
  have := hb j xs[j] hj (by simp)
  rw [this]
  exact Bool.false_ne_true
theorem find_miss {α : Type} {p : α → Bool} {xs : List α} (hb : ∀ i y, i < xs.length → xs[i]? = some y → p y = false) : xs.findIdx? p = none := by
  rw [List.findIdx?_eq_none_iff]
  intro x hx
  obtain ⟨i, hi, e⟩ := List.getElem_of_mem hx
  exact hb i x hi (by rw [← e]; simp)
theorem gcdL_take {xs : List Int} {n : Nat} {x : Int} (h : xs[n]? = some x) : gcdL (xs.take (n + 1)) = Nat.gcd (gcdL (xs.take n)) x.natAbs := by
  rw [List.take_add_one, h]
  show gcdL (xs.take n ++ [x]) = _
  rw [gcdL_append, gcdL_cons, gcdL_nil, Nat.gcd_zero_right]
theorem getI {xs : List Int} {n : Nat} {d : PyData} (h : (xs.map PyData.int)[n]? = some d) : ∃ x, xs[n]? = some x ∧ d = .int x := by
  rw [List.getElem?_map] at h
  cases e : xs[n]? with
  | none => rw [e] at h; cases h
  | some x => rw [e] at h; cases h; exact ⟨x, rfl, rfl⟩
theorem getN {ds : List PyData} {n : Nat} {d : PyData} (h : (numbered ds)[n]? = some d) : ∃ x, ds[n]? = some x ∧ d = .tuple [.int (n : Int), x] := by
  unfold numbered at h
  rw [List.getElem?_map] at h
  by_cases hn : n < ds.length
  · rw [List.getElem?_range hn] at h
    cases h
    refine ⟨ds[n], by simp, ?_⟩
    show PyData.tuple [.int (n : Int), ds.getD n .none] = _
    rw [List.getD_eq_getElem?_getD, List.getElem?_eq_getElem hn] <;> rfl
  · rw [List.getElem?_eq_none (by simpa using hn)] at h
    cases h
theorem mem_numbered {ds : List PyData} {d : PyData} (h : d ∈ numbered ds) : ∃ (n : Nat) (x : PyData), ds[n]? = some x ∧ d = .tuple [.int (n : Int), x] := by
  obtain ⟨n, hn, e⟩ := List.getElem_of_mem h
  obtain ⟨x, h1, h2⟩ := getN (show (numbered ds)[n]? = some d by rw [← e]; simp)
  exact ⟨n, x, h1, h2⟩
theorem numbered_len (ds : List PyData) : (numbered ds).length = ds.length := by simp [numbered]
/-- a fraction of two numbers, by any common divisor of the right sign -/
theorem frac_lowest {t b : Int} (hb : b ≠ 0) : ([t.fdiv (if b < 0 then -((Nat.gcd t.natAbs b.natAbs : Nat) : Int) else ((Nat.gcd t.natAbs b.natAbs : Nat) : Int)), b.fdiv (if b < 0 then -((Nat.gcd t.natAbs b.natAbs : Nat) : Int) else ((Nat.gcd t.natAbs b.natAbs : Nat) : Int))] : List Int) = fracL t b := by
  have eg : gcdL [t, b] = Nat.gcd t.natAbs b.natAbs := by rw [gcdL_cons, gcdL_cons, gcdL_nil, Nat.gcd_zero_right]
  have gp : 0 < Nat.gcd t.natAbs b.natAbs := Nat.gcd_pos_of_pos_right _ (by omega)
  have d1 : ((Nat.gcd t.natAbs b.natAbs : Nat) : Int) ∣ t := Int.ofNat_dvd_left.mpr (Nat.gcd_dvd_left _ _)
  have d2 : ((Nat.gcd t.natAbs b.natAbs : Nat) : Int) ∣ b := Int.ofNat_dvd_left.mpr (Nat.gcd_dvd_right _ _)
  have sh : shortL [t, b] = [t.fdiv ((Nat.gcd t.natAbs b.natAbs : Nat) : Int), b.fdiv ((Nat.gcd t.natAbs b.natAbs : Nat) : Int)] := by
    unfold shortL
    rw [eg]
    split
    · have : Nat.gcd t.natAbs b.natAbs = 1 := by omega
      rw [this]
      simp
    · rfl
  have neg : ∀ x : Int, ((Nat.gcd t.natAbs b.natAbs : Nat) : Int) ∣ x → x.fdiv (-((Nat.gcd t.natAbs b.natAbs : Nat) : Int)) = -(x.fdiv ((Nat.gcd t.natAbs b.natAbs : Nat) : Int)) := fun x ⟨c, hc⟩ => by
    have g0 : ((Nat.gcd t.natAbs b.natAbs : Nat) : Int) ≠ 0 := by omega
    generalize ((Nat.gcd t.natAbs b.natAbs : Nat) : Int) = g at g0 hc ⊢
    have e1 : x.fdiv g = c := by rw [hc]; exact Int.mul_fdiv_cancel_left c g0
    have e2 : x.fdiv (-g) = -c := by
      rw [hc, show g * c = (-g) * (-c) by rw [Int.neg_mul_neg]]
      exact Int.mul_fdiv_cancel_left (-c) (by omega)
    rw [e1, e2]
  unfold fracL
  rw [sh]
  by_cases h : b < 0
  · rw [if_pos h, if_neg (by omega), neg t d1, neg b d2] <;> rfl
  · rw [if_neg h, if_pos (by omega)]
def intD : PyData → Bool
  | .int _ | .bool _ => true
  | _ => false
def boolD : PyData → Bool
  | .bool _ => true
  | _ => false
def tupD : PyData → Bool
  | .tuple _ => true
  | _ => false
theorem kit_int (d : PyData) : kitB (tyD d) "int" = some (intD d) := by
  cases d with
  | none => show kitB "NoneType" "int" = some false; decide +kernel
  | bool b => show kitB "bool" "int" = some true; decide +kernel
  | int b => show kitB "int" "int" = some true; decide +kernel
  | str b => show kitB "str" "int" = some false; decide +kernel
  | list b => show kitB "list" "int" = some false; decide +kernel
  | tuple b => show kitB "tuple" "int" = some false; decide +kernel
  | dict b => show kitB "dict" "int" = some false; decide +kernel
theorem kit_bool (d : PyData) : kitB (tyD d) "bool" = some (boolD d) := by
  cases d with
  | none => show kitB "NoneType" "bool" = some false; decide +kernel
  | bool b => show kitB "bool" "bool" = some true; decide +kernel
  | int b => show kitB "int" "bool" = some false; decide +kernel
  | str b => show kitB "str" "bool" = some false; decide +kernel
  | list b => show kitB "list" "bool" = some false; decide +kernel
  | tuple b => show kitB "tuple" "bool" = some false; decide +kernel
  | dict b => show kitB "dict" "bool" = some false; decide +kernel
theorem kit_tup (d : PyData) : kitB (tyD d) "tuple" = some (tupD d) := by
  cases d with
  | none => show kitB "NoneType" "tuple" = some false; decide +kernel
  | bool b => show kitB "bool" "tuple" = some false; decide +kernel
  | int b => show kitB "int" "tuple" = some false; decide +kernel
  | str b => show kitB "str" "tuple" = some false; decide +kernel
  | list b => show kitB "list" "tuple" = some false; decide +kernel
  | tuple b => show kitB "tuple" "tuple" = some true; decide +kernel
  | dict b => show kitB "dict" "tuple" = some false; decide +kernel
theorem whole_is (d : PyData) : wholeD d = (intD d && !boolD d) := by cases d <;> rfl
section
variable {X : Cx} {a : Addr} {ρ : Rho} {e : Expr} {pos p p2 : Pos} {d : PyData}
theorem e_isInt (h : EvE X a e ρ d) (hm : X.mg "isinstance" = none) (hmT : X.mg "int" = none) (hg : Gl X "isinstance" := by rfl) (hgT : Gl X "int" := by rfl)
    (hs1 : starEach (e :: [.Name "int" p2]) X.env = (false, eval e X.env) :: starEach [.Name "int" p2] X.env := by exact star_of rfl) (hs2 : starEach (.Name "int" p2 :: []) X.env = (false, eval (.Name "int" p2) X.env) :: starEach [] X.env := by exact star_of rfl)
    (hpl : (backTo pos (starEach [.Name "int" p2] X.env)).any (·.1) = false := by exact star_no rfl) : EvE X a (.Call (.Name "isinstance" p) [e, .Name "int" p2] [] pos) ρ (.bool (intD d)) :=
  e_isi (tn := "int") h (kit_int d) (by decide +kernel) hm hmT hg hgT (by decide) (by decide) hs1 hs2 hpl
theorem e_isBool (h : EvE X a e ρ d) (hm : X.mg "isinstance" = none) (hmT : X.mg "bool" = none) (hg : Gl X "isinstance" := by rfl) (hgT : Gl X "bool" := by rfl)
    (hs1 : starEach (e :: [.Name "bool" p2]) X.env = (false, eval e X.env) :: starEach [.Name "bool" p2] X.env := by exact star_of rfl) (hs2 : starEach (.Name "bool" p2 :: []) X.env = (false, eval (.Name "bool" p2) X.env) :: starEach [] X.env := by exact star_of rfl)
    (hpl : (backTo pos (starEach [.Name "bool" p2] X.env)).any (·.1) = false := by exact star_no rfl) : EvE X a (.Call (.Name "isinstance" p) [e, .Name "bool" p2] [] pos) ρ (.bool (boolD d)) :=
  e_isi (tn := "bool") h (kit_bool d) (by decide +kernel) hm hmT hg hgT (by decide) (by decide) hs1 hs2 hpl
theorem e_isTup (h : EvE X a e ρ d) (hm : X.mg "isinstance" = none) (hmT : X.mg "tuple" = none) (hg : Gl X "isinstance" := by rfl) (hgT : Gl X "tuple" := by rfl)
    (hs1 : starEach (e :: [.Name "tuple" p2]) X.env = (false, eval e X.env) :: starEach [.Name "tuple" p2] X.env := by exact star_of rfl) (hs2 : starEach (.Name "tuple" p2 :: []) X.env = (false, eval (.Name "tuple" p2) X.env) :: starEach [] X.env := by exact star_of rfl)
    (hpl : (backTo pos (starEach [.Name "tuple" p2] X.env)).any (·.1) = false := by exact star_no rfl) : EvE X a (.Call (.Name "isinstance" p) [e, .Name "tuple" p2] [] pos) ρ (.bool (tupD d)) :=
  e_isi (tn := "tuple") h (kit_tup d) (by decide +kernel) hm hmT hg hgT (by decide) (by decide) hs1 hs2 hpl
/-- and, as a value, of two -/
theorem e_and2 {f : Expr} {b c : Bool} (h : EvE X a e ρ (.bool b)) (h2 : EvE X a f ρ (.bool c)) : EvE X a (.BoolOp .And [e, f] pos) ρ (.bool (b && c)) := by
  cases b with
  | true => exact e_andT h (e_one h2)
  | false => exact e_andF h rfl
theorem t_or2 {f : Expr} {b c : Bool} (h : EvT X a e ρ b) (h2 : b = false → EvT X a f ρ c) (hb : b = true → c = true) : EvT X a (.BoolOp .Or [e, f] pos) ρ c := by
  cases b with
  | true => rw [hb rfl]; exact t_orT h
  | false => exact t_orF h (t_or1 (h2 rfl))
theorem t_and2 {f : Expr} {b c : Bool} (h : EvT X a e ρ b) (h2 : b = true → EvT X a f ρ c) (hb : b = false → c = false) : EvT X a (.BoolOp .And [e, f] pos) ρ c := by
  cases b with
  | true => exact t_andT h (t_and1 (h2 rfl))
  | false => rw [hb rfl]; exact t_andF h
end
end Zj
/-! Data that is short, data that is alike, places with their numbers. -/
namespace Zj
open PySem PySem.Spec PyProof.Rows L2
variable [Nm]
/-- short data: nodes at most b, depth at most n -/
structure Tam (b n : Nat) (d : PyData) : Prop where
  tm : Tm d
  bk : d.bulk ≤ b
  dp : d.depth ≤ n
theorem Tam.tame {b n : Nat} {d : PyData} (t : Tam b n d) (hb : b ≤ 8000) (hn : n ≤ 60) : Tame d := ⟨t.tm, Nat.le_trans t.bk hb, Nat.le_trans t.dp hn⟩
theorem Tam.mono {b n b' n' : Nat} {d : PyData} (t : Tam b n d) (hb : b ≤ b') (hn : n ≤ n') : Tam b' n' d := ⟨t.tm, Nat.le_trans t.bk hb, Nat.le_trans t.dp hn⟩
theorem tam_int {i : Int} (h : Bits 1900 i) : Tam 0 0 (.int i) := ⟨by simp only [Tm]; exact Nat.lt_of_lt_of_le (h.log (by decide)) (by decide), by simp only [PyData.bulk]; exact Nat.le_refl _, by simp only [PyData.depth]; exact Nat.le_refl _⟩
theorem tam_non : Tam 0 0 .none := ⟨by simp only [Tm], by simp only [PyData.bulk]; exact Nat.le_refl _, by simp only [PyData.depth]; exact Nat.le_refl _⟩
theorem tam_bool {b : Bool} : Tam 0 0 (.bool b) := ⟨by simp only [Tm], by simp only [PyData.bulk]; exact Nat.le_refl _, by simp only [PyData.depth]; exact Nat.le_refl _⟩
theorem tam_all {b n : Nat} : ∀ {ds : List PyData}, (∀ d ∈ ds, Tam b n d) → TmAll ds ∧ PyData.bulkAll ds ≤ (b + 1) * ds.length ∧ PyData.depthAll ds ≤ n
  | [], _ => ⟨by simp only [TmAll], by simp only [PyData.bulkAll]; exact Nat.zero_le _, by simp only [PyData.depthAll]; exact Nat.zero_le _⟩
  | d :: ds, h => by
    obtain ⟨h1, h2, h3⟩ := tam_all (ds := ds) fun x hx => h x (List.mem_cons_of_mem _ hx)
    have t := h d List.mem_cons_self
    refine ⟨by simp only [TmAll]; exact ⟨t.tm, h1⟩, ?_, ?_⟩
    · simp only [PyData.bulkAll, List.length_cons]
      have := t.bk
      rw [Nat.mul_add, Nat.mul_one]
      omega
    · simp only [PyData.depthAll]
      have := t.dp
      omega
theorem tam_lst {b n l : Nat} {ds : List PyData} (h : ∀ d ∈ ds, Tam b n d) (hl : ds.length ≤ l) : Tam ((b + 1) * l) (n + 1) (.list ds) := by
  obtain ⟨h1, h2, h3⟩ := tam_all h
  have := Nat.mul_le_mul_left (b + 1) hl
  exact ⟨by simp only [Tm]; exact h1, by simp only [PyData.bulk]; omega, by simp only [PyData.depth]; omega⟩
theorem tam_tup {b n l : Nat} {ds : List PyData} (h : ∀ d ∈ ds, Tam b n d) (hl : ds.length ≤ l) : Tam ((b + 1) * l) (n + 1) (.tuple ds) := by
  obtain ⟨h1, h2, h3⟩ := tam_all h
  have := Nat.mul_le_mul_left (b + 1) hl
  exact ⟨by simp only [Tm]; exact h1, by simp only [PyData.bulk]; omega, by simp only [PyData.depth]; omega⟩
theorem tam_tI {xs : List Int} {l : Nat} (h : BitsL 1900 xs) (hl : xs.length ≤ l) : Tam l 1 (tI xs) := by
  have := tam_tup (b := 0) (n := 0) (l := l) (ds := xs.map PyData.int) (fun d hd => by
    obtain ⟨x, hx, rfl⟩ := mem_mapI hd
    exact tam_int (h x hx)) (by simpa using hl)
  exact this.mono (by omega) (Nat.le_refl _)
/-! alike -/
theorem lay_ints (xs : List Int) : PyData.canLayAll0 (xs.map .int) = true := by
  induction xs with
  | nil => simp [PyData.canLayAll0]
  | cons x xs ih => simp [PyData.canLayAll0, PyData.canLay0, ih]
theorem depth_ints (xs : List Int) : PyData.depthAll (xs.map .int) = 0 := by
  induction xs with
  | nil => simp [PyData.depthAll]
  | cons x xs ih => simp [PyData.depthAll, PyData.depth, ih]
theorem shaped_tI (xs : List Int) : SeqAt.shaped (tI xs) = true := by
  unfold SeqAt.shaped
  simp [PyData.canLay0, lay_ints, PyData.depth, depth_ints]
theorem shaped_lI (xs : List Int) : SeqAt.shaped (lI xs) = true := by
  unfold SeqAt.shaped
  simp [PyData.canLay0, lay_ints, PyData.depth, depth_ints]
theorem shaped_non : SeqAt.shaped .none = true := by
  unfold SeqAt.shaped
  simp [PyData.canLay0, PyData.depth]
theorem eqvAll_ints : ∀ (xs ys : List Int), PyData.eqvAll (xs.map .int) (ys.map .int) = (xs == ys)
  | [], [] => by simp [PyData.eqvAll]
  | [], _ :: _ => by simp [PyData.eqvAll]
  | _ :: _, [] => by simp [PyData.eqvAll]
  | x :: xs, y :: ys => by
    have ih := eqvAll_ints xs ys
    simp only [List.map_cons, PyData.eqvAll, PyData.eqv, ih]
    rfl
theorem eqv_tI (xs ys : List Int) : PyData.eqv (tI xs) (tI ys) = (xs == ys) := by simp only [PyData.eqv, eqvAll_ints]
theorem eqv_lI (xs ys : List Int) : PyData.eqv (lI xs) (lI ys) = (xs == ys) := by simp only [PyData.eqv, eqvAll_ints]
/-! each with its number, from a number on -/
def numFrom (k : Nat) : List PyData → List PyData
  | [] => []
  | x :: xs => .tuple [.int (k : Int), x] :: numFrom (k + 1) xs
theorem numFrom_get : ∀ (k : Nat) (ds : List PyData) (i : Nat), (numFrom k ds)[i]? = ds[i]?.map fun x => PyData.tuple [.int ((k + i : Nat) : Int), x]
  | k, [], i => by simp [numFrom]
  | k, x :: xs, 0 => by simp [numFrom]
  | k, x :: xs, i + 1 => by
    have ih := numFrom_get (k + 1) xs i
    simp only [numFrom, List.getElem?_cons_succ, ih]
    rw [show k + 1 + i = k + (i + 1) by omega]
theorem numbered_eq (ds : List PyData) : numbered ds = numFrom 0 ds := by
  apply List.ext_getElem?
  intro i
  rw [numFrom_get, Nat.zero_add]
  cases h : ds[i]? with
  | none =>
    have : ds.length ≤ i := List.getElem?_eq_none_iff.mp h
    rw [List.getElem?_eq_none (by rw [numbered_len]; exact this)]
    rfl
  | some x => exact numbered_get h
/-- what a comprehension over numbered whole numbers keeps: the places of those that are not 0 -/
def keepNZ : PyData → Bool
  | .tuple [_, .int x] => !(x == 0)
  | _ => false
def valK : PyData → PyData
  | .tuple [k, _] => k
  | _ => .none
def nzFrom (k : Nat) : List Int → List Int
  | [] => []
  | x :: xs => if x == 0 then nzFrom (k + 1) xs else (k : Int) :: nzFrom (k + 1) xs
theorem kept_nz : ∀ (k : Nat) (xs : List Int), kept keepNZ valK (numFrom k (xs.map .int)) = (nzFrom k xs).map .int
  | k, [] => rfl
  | k, x :: xs => by
    have ih := kept_nz (k + 1) xs
    unfold kept at ih ⊢
    show ((PyData.tuple [.int (k : Int), .int x] :: numFrom (k + 1) (xs.map .int)).filter keepNZ).map valK = _
    unfold nzFrom
    cases hx : x == 0 with
    | true =>
      rw [List.filter_cons_of_neg (by show ¬ (!(x == 0)) = true; rw [hx]; exact Bool.false_ne_true), ih, if_pos rfl]
    | false =>
      rw [List.filter_cons_of_pos (by show (!(x == 0)) = true; rw [hx]; rfl), if_neg Bool.false_ne_true, List.map_cons, ih, List.map_cons]
      rfl
theorem lead_nil : lead [] = none := rfl
theorem lead_cons (x : Int) (xs : List Int) : lead (x :: xs) = if x == 0 then (lead xs).map (· + 1) else some 0 := by
  unfold lead
  rw [List.findIdx?_cons]
  cases x == 0 <;> rfl
theorem nz_lead : ∀ (k : Nat) (xs : List Int), match lead xs with
    | none => nzFrom k xs = []
    | some p => ∃ tl, nzFrom k xs = ((k + p : Nat) : Int) :: tl
  | k, [] => rfl
  | k, x :: xs => by
    have ih := nz_lead (k + 1) xs
    rw [lead_cons]
    unfold nzFrom
    cases hx : x == 0 with
    | true =>
      rw [if_pos rfl, if_pos rfl]
      cases hl : lead xs with
      | none =>
        rw [hl] at ih
        exact ih
      | some p =>
        rw [hl] at ih
        obtain ⟨tl, e⟩ := ih
        exact ⟨tl, by rw [e, show k + 1 + p = k + (p + 1) by omega]⟩
    | false => exact ⟨_, rfl⟩
theorem lead_get {xs : List Int} {p : Nat} (h : lead xs = some p) : ∃ x, xs[p]? = some x ∧ x ≠ 0 := by
  unfold lead at h
  rw [List.findIdx?_eq_some_iff_getElem] at h
  obtain ⟨h1, h2, _⟩ := h
  exact ⟨xs[p], by simp, by simpa using h2⟩
end Zj
/-! Reading and writing the law's state. -/
namespace Zj
open PySem PySem.Spec PyProof.Rows L2
variable [Nm]
def PInt (d : PyData) : Prop := ∃ i : Int, d = .int i
def PCells (d : PyData) : Prop := ∃ xs : List Int, d = lI xs ∧ 1 ≤ xs.length ∧ xs.length ≤ 100 ∧ BitsL 2000000 xs
def PSpot (n : Nat) (d : PyData) : Prop := ∃ i : Int, d = .int i ∧ 0 ≤ i ∧ i + n ≤ 1000000000000
section
variable {X : Cx} {a : Addr} {ρ : Rho} {n m : Nat} {N : Nat → Rho → Prop} {R : Nat → PyData → Prop} {e : Expr} {P : PyData → Prop} {y : Str} {i j : Nat} {pm kp pos : Pos}
theorem m_get {key : Str} (hu : X.A.units + 64 < cLine) (hi : ρ[i]? = some (some .hnd))
    (hk : ∀ (left seed : Int) (pc : Addr) (spot : Int) (cells : List Int) (H : Hp), SqL X.K H pc (cells.map V.int) → 1 ≤ cells.length → cells.length ≤ 100 → (∀ c ∈ cells, Bits 2000000 c) → 0 ≤ seed → seed < 2147483647 → 0 ≤ spot → spot + n ≤ 1000000000000 →
      ∃ v d, valV (sts left seed pc spot) (Sum.inr key) = some v ∧ Dp X.K H v d ∧ P d)
    (hN : X.N[i]? = some y := by rfl) (hv : Vis X.env.scope y := by first | exact Or.inl rfl | exact Or.inr (Or.inl rfl) | exact Or.inr (Or.inr rfl)) (hd : (y == ("__debug__" : Str)) = false := by decide) (hcd : (y == ("__classdict__" : Str)) = false := by decide) :
    EvM X a (.Subscript (.Name y pm) (.Constant (.str key) j kp) pos) ρ n n P := fun T σ H S ms Q q => by
  obtain ⟨v, h1, h2⟩ := S.sl i _ hi
  have h2 : v = .ref a := h2
  subst h2
  have ms0 := ms
  obtain ⟨left, seed, pc, spot, cells, g1, g2, g3, g4, g5, g6, g7, g8, g9⟩ := ms
  obtain ⟨v, d, k1, k2, k3⟩ := hk left seed pc spot cells _ g2 g3 g4 g5 g6 g7 g8 g9
  exact toE (pe_dget (Nat.lt_of_le_of_lt (Nat.add_le_add_left (by decide) _) hu) (pe_var hN hv hd hcd) pe_str (fun _ _ => rfl)) ⟨_, h1, a, v, rfl, by rw [← k1]; exact DGet.k (k := Sum.inr key) (off_some g1).1, q v d H Kp.refl ms0 k2 k3⟩
theorem m_left (hu : X.A.units + 64 < cLine) (hi : ρ[i]? = some (some .hnd)) (hN : X.N[i]? = some y := by rfl) (hv : Vis X.env.scope y := by first | exact Or.inl rfl | exact Or.inr (Or.inl rfl) | exact Or.inr (Or.inr rfl)) (hd : (y == ("__debug__" : Str)) = false := by decide) (hcd : (y == ("__classdict__" : Str)) = false := by decide) :
    EvM X a (.Subscript (.Name y pm) (.Constant (.str "left") j kp) pos) ρ n n PInt :=
  m_get hu hi (fun left seed pc spot cells H _ _ _ _ _ _ _ _ => ⟨.int left, .int left, rfl, .int _, left, rfl⟩) hN hv hd hcd
theorem m_seed (hu : X.A.units + 64 < cLine) (hi : ρ[i]? = some (some .hnd)) (hN : X.N[i]? = some y := by rfl) (hv : Vis X.env.scope y := by first | exact Or.inl rfl | exact Or.inr (Or.inl rfl) | exact Or.inr (Or.inr rfl)) (hd : (y == ("__debug__" : Str)) = false := by decide) (hcd : (y == ("__classdict__" : Str)) = false := by decide) :
    EvM X a (.Subscript (.Name y pm) (.Constant (.str "seed") j kp) pos) ρ n n PInt :=
  m_get hu hi (fun left seed pc spot cells H _ _ _ _ _ _ _ _ => ⟨.int seed, .int seed, rfl, .int _, seed, rfl⟩) hN hv hd hcd
theorem m_cells (hu : X.A.units + 64 < cLine) (hi : ρ[i]? = some (some .hnd)) (hN : X.N[i]? = some y := by rfl) (hv : Vis X.env.scope y := by first | exact Or.inl rfl | exact Or.inr (Or.inl rfl) | exact Or.inr (Or.inr rfl)) (hd : (y == ("__debug__" : Str)) = false := by decide) (hcd : (y == ("__classdict__" : Str)) = false := by decide) :
    EvM X a (.Subscript (.Name y pm) (.Constant (.str "cells") j kp) pos) ρ n n PCells :=
  m_get hu hi (fun left seed pc spot cells H g2 g3 g4 g5 _ _ _ _ => ⟨.ref pc, lI cells, rfl, .lst g2 (dps_ints cells), cells, rfl, g3, g4, g5⟩) hN hv hd hcd
theorem m_spot (hu : X.A.units + 64 < cLine) (hi : ρ[i]? = some (some .hnd)) (hN : X.N[i]? = some y := by rfl) (hv : Vis X.env.scope y := by first | exact Or.inl rfl | exact Or.inr (Or.inl rfl) | exact Or.inr (Or.inr rfl)) (hd : (y == ("__debug__" : Str)) = false := by decide) (hcd : (y == ("__classdict__" : Str)) = false := by decide) :
    EvM X a (.Subscript (.Name y pm) (.Constant (.str "spot") j kp) pos) ρ n n (PSpot n) :=
  m_get hu hi (fun left seed pc spot cells H _ _ _ _ _ _ g8 g9 => ⟨.int spot, .int spot, rfl, .int _, spot, rfl, g8, g9⟩) hN hv hd hcd
theorem qs_put {key : Str} {k : Nat} {sp : Pos} (hu : X.A.units + 64 < cLine) (hi : ρ[i]? = some (some .hnd)) (h : EvM X a e ρ n m P)
    (hk : ∀ d, P d → ∃ z : Int, d = .int z ∧ ∀ (left seed : Int) (pc : Addr) (spot : Int), 0 ≤ spot → spot + m ≤ 1000000000000 → ∃ left' spot', putK (sts left seed pc spot) (Sum.inr key) (.int z) = sts left' seed pc spot' ∧ 0 ≤ spot' ∧ spot' + k ≤ 1000000000000)
    (hn : N k ρ) (hs : swapsWith e (some (.Subscript (.Name y pm) (.Constant (.str key) j kp) sp)) pos.line X.env = pure false := by rfl)
    (hN : X.N[i]? = some y := by rfl) (hv : Vis X.env.scope y := by first | exact Or.inl rfl | exact Or.inr (Or.inl rfl) | exact Or.inr (Or.inr rfl)) (hd : (y == ("__debug__" : Str)) = false := by decide) (hcd : (y == ("__classdict__" : Str)) = false := by decide) :
    RunMS X a (.Assign [.Subscript (.Name y pm) (.Constant (.str key) j kp) sp] e pos) ρ n N R := fun T σ H D S ms kn kr => by
  obtain ⟨v, h1, h2⟩ := S.sl i _ hi
  have h2 : v = .ref a := h2
  subst h2
  refine toS (ps_dput (Nat.lt_of_le_of_lt (Nat.add_le_add_left (by decide) _) hu) (pe_var hN hv hd hcd) pe_str je hs) (h T σ H S ms _ fun v d H1 s1 ms1 p1 hp => ?_)
  obtain ⟨z, rfl, hz⟩ := hk d hp
  obtain rfl := dp_int p1
  have S1 := S.kpo s1 ms
  have ms1' := ms1
  obtain ⟨left, seed, pc, spot, cells, g1, g2, g3, g4, g5, g6, g7, g8, g9⟩ := ms1
  obtain ⟨e1, e2⟩ := off_some g1
  obtain ⟨left', spot', w1, w2, w3⟩ := hz left seed pc spot g8 g9
  have kp : Kp a H1 (upd H1 a (.dK (sts left' seed pc spot'))) := .put e1
  refine ⟨_, h1, a, upd H1 a (.dK (putK (sts left seed pc spot) (Sum.inr key) (.int z))), rfl, DPut.k (k := Sum.inr key) e1 (by show 4 < sizeLine; decide), ?_⟩
  rw [w1]
  refine kn σ _ ρ k (s1.trans kp) (S1.kpo kp ms1') ⟨left', seed, pc, spot', cells, ?_, kp_l (kp_off kp e2) ⟨_, g1⟩ _ _ g2, g3, g4, g5, g6, g7, w2, w3⟩ hn
  rw [off_no e2, upd_same]
theorem qs_putLeft {sp : Pos} (hu : X.A.units + 64 < cLine) (hi : ρ[i]? = some (some .hnd)) (h : EvM X a e ρ n m PInt) (hn : N m ρ)
    (hs : swapsWith e (some (.Subscript (.Name y pm) (.Constant (.str "left") j kp) sp)) pos.line X.env = pure false := by rfl)
    (hN : X.N[i]? = some y := by rfl) (hv : Vis X.env.scope y := by first | exact Or.inl rfl | exact Or.inr (Or.inl rfl) | exact Or.inr (Or.inr rfl)) (hd : (y == ("__debug__" : Str)) = false := by decide) (hcd : (y == ("__classdict__" : Str)) = false := by decide) :
    RunMS X a (.Assign [.Subscript (.Name y pm) (.Constant (.str "left") j kp) sp] e pos) ρ n N R :=
  qs_put hu hi h (fun d hp => by
    obtain ⟨z, rfl⟩ := hp
    exact ⟨z, rfl, fun left seed pc spot h1 h2 => ⟨z, spot, rfl, h1, h2⟩⟩) hn hs hN hv hd hcd
theorem qs_putSpot {k : Nat} {sp : Pos} (hu : X.A.units + 64 < cLine) (hi : ρ[i]? = some (some .hnd)) (h : EvM X a e ρ n m (PSpot k)) (hn : N k ρ)
    (hs : swapsWith e (some (.Subscript (.Name y pm) (.Constant (.str "spot") j kp) sp)) pos.line X.env = pure false := by rfl)
    (hN : X.N[i]? = some y := by rfl) (hv : Vis X.env.scope y := by first | exact Or.inl rfl | exact Or.inr (Or.inl rfl) | exact Or.inr (Or.inr rfl)) (hd : (y == ("__debug__" : Str)) = false := by decide) (hcd : (y == ("__classdict__" : Str)) = false := by decide) :
    RunMS X a (.Assign [.Subscript (.Name y pm) (.Constant (.str "spot") j kp) sp] e pos) ρ n N R :=
  qs_put hu hi h (fun d hp => by
    obtain ⟨z, rfl, h1, h2⟩ := hp
    exact ⟨z, rfl, fun left seed pc spot _ _ => ⟨left, z, rfl, h1, h2⟩⟩) hn hs hN hv hd hcd
theorem dps_rep {K : PySem.W.Frag} {H : Hp} {vs : List V} {ds : List PyData} (h : DpAll K H vs ds) : ∀ n : Nat, DpAll K H (List.replicate n vs).flatten (List.replicate n ds).flatten
  | 0 => .nil
  | n + 1 => by
    rw [List.replicate_succ, List.replicate_succ, List.flatten_cons, List.flatten_cons]
    exact dps_append h (dps_rep h n)
theorem e_rep {X : Cx} {a : Addr} {ρ : Rho} {es : List Expr} {e : Expr} {ds : List PyData} {k : Int} {pos pos' : Pos} (h : EvA X a es ρ ds) (h2 : EvE X a e ρ (.int k)) (h0 : 0 ≤ k) (hk : k ≤ 1000) (hl : ds.length ≤ 50) : EvE X a (.BinOp (.List es pos') .Mult e pos) ρ (.list (List.replicate k.toNat ds).flatten) := fun T σ H S Q q => by
  refine toE (pe_op op_rep (pe_lst ja) je) (h T σ H S _ fun vs H1 s1 p1 => ⟨by rw [dps_len p1]; exact szl (by omega), fun p hp => ?_⟩)
  have S1 := (S.same s1).same (same_new (o := .lst vs) hp)
  refine h2 T σ _ S1 _ fun v2 H2 s2 p2 => ?_
  obtain rfl := dp_int p2
  have lz : vs.length * k.toNat ≤ 50 * 1000 := by
    rw [dps_len p1]
    exact Nat.mul_le_mul hl (by omega)
  refine ⟨p, k, vs, rfl, rfl, s2.ob _ _ upd_same (by intro ps z; cases z), by omega, by omega, szl (by omega), fun r hr => ?_⟩
  have s3 := (s1.trans (same_new (o := .lst vs) hp)).trans s2
  exact q _ _ (s3.trans (same_new hr)) (dpo_newL (S.same s3).dm hr (dps_rep (dpso ((same_new (o := .lst vs) hp).trans s2) p1) _))
end
end Zj
/-! Planes and rows, as numbers. -/
namespace Zj
open PySem PySem.Spec PyProof.Rows L2
variable [Nm]
theorem lead_scale {c : Int} (hc : c ≠ 0) : ∀ xs : List Int, lead (xs.map fun x => c * x) = lead xs
  | [] => rfl
  | x :: xs => by
    rw [List.map_cons, lead_cons, lead_cons, lead_scale hc xs]
    have : ((c * x) == 0) = (x == 0) := by
      rw [Bool.eq_iff_iff, beq_iff_eq, beq_iff_eq]
      constructor
      · intro h
        rcases Int.mul_eq_zero.mp h with h | h
        · exact absurd h hc
        · exact h
      · intro h
        rw [h, Int.mul_zero]
    rw [this]
theorem gcdL_scale (c : Int) : ∀ xs : List Int, gcdL (xs.map fun x => c * x) = c.natAbs * gcdL xs
  | [] => by simp [gcdL_nil]
  | x :: xs => by
    rw [List.map_cons, gcdL_cons, gcdL_cons, gcdL_scale c xs, Int.natAbs_mul, Nat.gcd_mul_left]
/-- what is so many times a tuple with no common divisor -/
theorem shortL_scale {c : Int} (hc : c ≠ 0) {xs : List Int} (h : ∃ x ∈ xs, x ≠ 0) : shortL (xs.map fun x => c * x) = (shortL xs).map fun y => (if 0 < c then 1 else -1) * y := by
  obtain ⟨g0, e⟩ := shortL_mul xs h
  obtain ⟨x, hx, hx0⟩ := h
  obtain ⟨g1, e1⟩ := shortL_mul (xs.map fun x => c * x) ⟨c * x, List.mem_map.mpr ⟨x, hx, rfl⟩, fun z => by
    rcases Int.mul_eq_zero.mp z with z | z
    · exact hc z
    · exact hx0 z⟩
  apply List.ext_getElem?
  intro i
  have ei : xs[i]? = ((shortL xs).map fun y => (gcdL xs : Int) * y)[i]? := by rw [← e]
  have e1i : (xs.map fun x => c * x)[i]? = ((shortL (xs.map fun x => c * x)).map fun y => (gcdL (xs.map fun x => c * x) : Int) * y)[i]? := by rw [← e1]
  rw [List.getElem?_map] at ei e1i
  rw [List.getElem?_map] at e1i
  rw [ei, gcdL_scale] at e1i
  rw [List.getElem?_map]
  cases hs : (shortL xs)[i]? with
  | none =>
    rw [hs] at e1i
    cases ht : (shortL (xs.map fun x => c * x))[i]? with
    | none => rfl
    | some t => rw [ht] at e1i; cases e1i
  | some s =>
    rw [hs] at e1i
    cases ht : (shortL (xs.map fun x => c * x))[i]? with
    | none => rw [ht] at e1i; cases e1i
    | some t =>
      rw [ht] at e1i
      have q : c * ((gcdL xs : Int) * s) = ((c.natAbs * gcdL xs : Nat) : Int) * t := by simpa using e1i
      show some t = some ((if 0 < c then 1 else -1) * s)
      congr 1
      have gp : (gcdL xs : Int) ≠ 0 := by omega
      rw [Int.natCast_mul] at q
      by_cases hp : 0 < c
      · rw [if_pos hp, Int.one_mul]
        rw [show ((c.natAbs : Nat) : Int) = c by omega, Int.mul_assoc] at q
        exact (Int.eq_of_mul_eq_mul_left gp (Int.eq_of_mul_eq_mul_left hc q)).symm
      · rw [if_neg hp]
        rw [show ((c.natAbs : Nat) : Int) = -c by omega, Int.neg_mul, Int.neg_mul, ← Int.mul_neg, Int.mul_assoc] at q
        have q2 := Int.eq_of_mul_eq_mul_left hc q
        have := Int.eq_of_mul_eq_mul_left gp q2
        omega
theorem lead_row {row : List Int} {p : Nat} (hp : lead row.dropLast = some p) : ∃ x, row[p]? = some x ∧ x ≠ 0 := by
  obtain ⟨x, hx, hx0⟩ := lead_get hp
  refine ⟨x, ?_, hx0⟩
  rw [List.getElem?_dropLast] at hx
  split at hx
  · exact hx
  · cases hx
theorem short_at {row : List Int} {p : Nat} (hp : lead row.dropLast = some p) : ∃ y, (shortL row)[p]? = some y ∧ y ≠ 0 := by
  obtain ⟨x, hx, hx0⟩ := lead_row hp
  obtain ⟨g0, e⟩ := shortL_mul row ⟨x, List.mem_of_getElem? hx, hx0⟩
  rw [e, List.getElem?_map] at hx
  cases hy : (shortL row)[p]? with
  | none => rw [hy] at hx; cases hx
  | some y =>
    rw [hy] at hx
    refine ⟨y, rfl, fun h => ?_⟩
    subst h
    cases hx
    exact hx0 (Int.mul_zero _)
theorem planeL_some {row : List Int} {p : Nat} (hp : lead row.dropLast = some p) : ∃ y, (shortL row)[p]? = some y ∧ y ≠ 0 ∧ planeL row = some (if y < 0 then (shortL row).map (fun x => -x) else shortL row) := by
  obtain ⟨y, hy, hy0⟩ := short_at hp
  refine ⟨y, hy, hy0, ?_⟩
  unfold planeL
  rw [hp]
  show some (if (shortL row).getD p 0 < 0 then _ else _) = _
  rw [List.getD_eq_getElem?_getD, hy] <;> rfl
theorem planeL_scale {c : Int} (hc : c ≠ 0) (row : List Int) : planeL (row.map fun x => c * x) = planeL row := by
  have hl : lead (row.map fun x => c * x).dropLast = lead row.dropLast := by
    rw [← List.map_dropLast, lead_scale hc]
  cases hp : lead row.dropLast with
  | none =>
    unfold planeL
    rw [hl, hp]
  | some p =>
    obtain ⟨x, hx, hx0⟩ := lead_row hp
    obtain ⟨y, hy, hy0, e⟩ := planeL_some hp
    obtain ⟨z, hz, hz0, e2⟩ := planeL_some (hl.trans hp)
    have sc := shortL_scale hc ⟨x, List.mem_of_getElem? hx, hx0⟩
    rw [e, e2]
    rw [sc, List.getElem?_map, hy] at hz
    have hz : (if 0 < c then 1 else -1) * y = z := by simpa using hz
    rw [sc]
    congr 1
    by_cases hp : 0 < c
    · rw [if_pos hp] at hz
      have : z = y := by omega
      subst this
      rw [if_pos hp, show (fun y : Int => 1 * y) = id from funext fun y => Int.one_mul y, List.map_id]
    · rw [if_neg hp] at hz
      have : z = -y := by omega
      subst this
      rw [if_neg hp, show (fun y : Int => -1 * y) = (fun y => -y) from funext fun y => by omega, List.map_map, show ((fun x : Int => -x) ∘ fun y : Int => -y) = id from funext fun y => Int.neg_neg y, List.map_id]
      by_cases hy' : y < 0
      · rw [if_pos hy', if_neg (by omega)]
      · rw [if_neg hy', if_pos (by omega)]
/-- a row is so many times its plane -/
theorem plane_times {row pl : List Int} (h : planeL row = some pl) : ∃ c : Int, c ≠ 0 ∧ row = pl.map fun x => c * x := by
  cases hp : lead row.dropLast with
  | none =>
    unfold planeL at h
    rw [hp] at h
    cases h
  | some p =>
    obtain ⟨x, hx, hx0⟩ := lead_row hp
    obtain ⟨y, hy, hy0, e⟩ := planeL_some hp
    obtain ⟨g0, e1⟩ := shortL_mul row ⟨x, List.mem_of_getElem? hx, hx0⟩
    rw [e] at h
    cases h
    by_cases hy' : y < 0
    · rw [if_pos hy']
      refine ⟨-(gcdL row : Int), by omega, ?_⟩
      rw [List.map_map]
      conv => lhs; rw [e1]
      apply List.map_congr_left
      intro z _
      show (gcdL row : Int) * z = -(gcdL row : Int) * -z
      rw [Int.neg_mul_neg]
    · rw [if_neg hy']
      exact ⟨gcdL row, by omega, e1⟩
theorem planeL_self {row pl : List Int} (h : planeL row = some pl) : planeL pl = some pl := by
  obtain ⟨c, hc, e⟩ := plane_times h
  rw [← planeL_scale hc pl, ← e]
  exact h
theorem planeL_len {row pl : List Int} (h : planeL row = some pl) : pl.length = row.length := by
  obtain ⟨c, hc, e⟩ := plane_times h
  rw [e, List.length_map]
theorem planeL_bits {row pl : List Int} {n : Nat} (h : planeL row = some pl) (hb : BitsL n row) : BitsL n pl := by
  obtain ⟨c, hc, e⟩ := plane_times h
  intro x hx
  refine (hb (c * x) (by rw [e]; exact List.mem_map.mpr ⟨x, hx, rfl⟩)).le ?_
  rw [Int.natAbs_mul]
  exact Nat.le_mul_of_pos_left _ (by omega)
theorem dot_scale (c : Int) : ∀ xs ys : List Int, dot (xs.map fun x => c * x) ys = c * dot xs ys
  | [], _ => by simp [dot]
  | _ :: _, [] => by simp [dot]
  | x :: xs, y :: ys => by
    have ih := dot_scale c xs ys
    unfold dot at ih ⊢
    rw [List.map_cons, List.zipWith_cons_cons, List.zipWith_cons_cons, List.sum_cons, List.sum_cons, ih, Int.mul_add, Int.mul_assoc]
theorem dot_nil (ys : List Int) : dot [] ys = 0 := rfl
theorem dot_cons (x y : Int) (xs ys : List Int) : dot (x :: xs) (y :: ys) = x * y + dot xs ys := by
  unfold dot
  rw [List.zipWith_cons_cons, List.sum_cons]
theorem dot_comm (xs ys : List Int) : dot xs ys = dot ys xs := by
  unfold dot
  rw [List.zipWith_comm]
  congr 1
  congr 1
  funext a b
  exact Int.mul_comm _ _
theorem dot_zero {row pl pt : List Int} (h : planeL row = some pl) : (sgn (dot pl pt) == 0) = (dot row pt == 0) := by
  obtain ⟨c, hc, e⟩ := plane_times h
  have e2 : dot row pt = c * dot pl pt := by
    conv => lhs; rw [e]
    exact dot_scale c pl pt
  rw [Bool.eq_iff_iff, beq_iff_eq, beq_iff_eq, e2]
  unfold sgn
  constructor
  · intro h
    split at h
    · cases h
    · split at h
      · cases h
      · rw [show dot pl pt = 0 by omega, Int.mul_zero]
  · intro h
    rcases Int.mul_eq_zero.mp h with h | h
    · exact absurd h hc
    · rw [h] <;> rfl
/-- a row at a point moved on -/
theorem dot_moved (l b : Int) : ∀ (ns ws : List Int) (rs : List Int) (r : Int), ns.length = ws.length → rs.length = ns.length →
    dot (rs ++ [r]) (List.zipWith (fun n s => n * 2 + s * 1 * l) ns ws ++ [l * 2]) = 2 * dot (rs ++ [r]) (ns ++ [l]) + l * dot rs ws
  | [], [], [], r, _, _ => by
    show dot [r] [l * 2] = 2 * dot [r] [l] + l * dot [] []
    rw [dot_cons, dot_cons, dot_nil]
    show r * (l * 2) + dot [] [] = 2 * (r * l + 0) + l * dot [] []
    rw [dot_nil]
    grind
  | n :: ns, s :: ws, x :: rs, r, h1, h2 => by
    have ih := dot_moved l b ns ws rs r (by simpa using h1) (by simpa using h2)
    rw [List.zipWith_cons_cons, List.cons_append, List.cons_append, List.cons_append, dot_cons, dot_cons, dot_cons, ih]
    grind
  | [], _ :: _, _, _, h, _ => by simp at h
  | _ :: _, [], _, _, h, _ => by simp at h
  | [], [], _ :: _, _, _, h => by simp at h
  | _ :: _, _ :: _, [], _, _, h => by simp at h
theorem fracL_two {t b : Int} (hb : 0 < b) : ∃ u v g : Int, fracL t b = [u, v] ∧ 0 < g ∧ t = g * u ∧ b = g * v := by
  unfold fracL
  rw [if_pos hb]
  obtain ⟨g0, e⟩ := shortL_mul [t, b] ⟨b, by simp, by omega⟩
  have hl := shortL_len [t, b]
  match h : shortL [t, b], hl with
  | [u, v], _ =>
    rw [h] at e
    refine ⟨u, v, gcdL [t, b], rfl, by omega, ?_, ?_⟩
    · exact (List.cons.inj e).1
    · exact (List.cons.inj (List.cons.inj e).2).1
end Zj
/-! What several laws share: what defs tell, drawn numbers, the law's state, the defs of the top. -/
namespace Zj
open PySem PySem.Spec PyProof.Rows L2
variable [Nm]
instance (n : Nat) (x : Int) : Decidable (Bits n x) := inferInstanceAs (Decidable (x.natAbs < 2 ^ n))
structure Tx (mg : Str → Option Value) : Prop where
  isi : mg "isinstance" = none
  int : mg "int" = none
  bool : mg "bool" = none
  tuple : mg "tuple" = none
  len : mg "len" = none
  enum : mg "enumerate" = none
  sum : mg "sum" = none
  list : mg "list" = none
  zip : mg "zip" = none
  range : mg "range" = none
  abs : mg "abs" = none
  repr : mg "repr" = none
  max : mg "max" = none
  min : mg "min" = none
  gcd : mg "gcd" = some (.builtin "math.gcd")
def R_weighed (ds : List PyData) (d : PyData) : Prop := ∃ xs ys, ds = [tI xs, tI ys] ∧ BitsL 20000 xs ∧ BitsL 20000 ys ∧ xs.length ≤ 1000 ∧ d = .int (dot xs ys)
def R_whole (ds : List PyData) (d : PyData) : Prop := ∃ x, ds = [x] ∧ d = .bool (wholeD x)
def R_wrong (ds : List PyData) (d : PyData) : Prop := ∃ v m, ds = [v, .int m] ∧ (∀ xs, v = .tuple xs → xs.length ≤ 1000) ∧ d = wrongD v m
/-- the greatest common divisor of all -/
def R_cd (ds : List PyData) (d : PyData) : Prop := ∃ xs : List Int, (ds = [tI xs] ∨ ds = [lI xs]) ∧ d = .int (gcdL xs)
def R_short (ds : List PyData) (d : PyData) : Prop := ∃ xs : List Int, (ds = [tI xs] ∨ ds = [lI xs]) ∧ BitsL 8000 xs ∧ xs.length ≤ 1000 ∧ d = tI (shortL xs)
def R_sign (ds : List PyData) (d : PyData) : Prop := ∃ n, ds = [.int n] ∧ d = .int (sgn n)
def R_lowest (ds : List PyData) (d : PyData) : Prop := ∃ t b, ds = [.int t, .int b] ∧ b ≠ 0 ∧ Bits 8000 b ∧ d = tI (fracL t b)
def R_crow (ds : List PyData) (d : PyData) : Prop := ∃ (n : Int) (xs : List Int), ds = [.int n, tI xs] ∧ (xs.length : Int) = n + 1 ∧ xs.length ≤ 1000 ∧ d = tI xs
def R_first (ds : List PyData) (d : PyData) : Prop := ∃ xs : List Int, ds = [tI xs] ∧ d = placeD (lead xs)
def R_plane (ds : List PyData) (d : PyData) : Prop := ∃ row : List Int, ds = [tI row] ∧ 1 ≤ row.length ∧ row.length ≤ 1000 ∧ BitsL 8000 row ∧ d = planeD row
def R_cplane (ds : List PyData) (d : PyData) : Prop := ∃ (n : Int) (xs : List Int), ds = [.int n, tI xs] ∧ (xs.length : Int) = n + 1 ∧ 1 ≤ xs.length ∧ xs.length ≤ 1000 ∧ BitsL 8000 xs ∧ planeL xs = some xs ∧ d = tI xs
def R_value (ds : List PyData) (d : PyData) : Prop := ∃ (row pt : List Int) (l : Int), ds = [tI row, tI pt] ∧ pt.getLast? = some l ∧ 0 < l ∧ BitsL 8000 row ∧ BitsL 8000 pt ∧ row.length ≤ 1000 ∧ d = tI (fracL (dot row pt) l)
def R_signat (ds : List PyData) (d : PyData) : Prop := ∃ (row pt : List Int), ds = [tI row, tI pt] ∧ BitsL 8000 row ∧ BitsL 8000 pt ∧ row.length ≤ 1000 ∧ d = .int (sgn (dot row pt))
def onRow (g : List Int → Int) : PyData → PyData
  | .tuple ds => .int (g (ds.map fun d => match d with | .int x => x | _ => 0))
  | _ => .none
theorem onRow_tI (g : List Int → Int) (xs : List Int) : onRow g (tI xs) = .int (g xs) := by
  show PyData.int (g ((xs.map PyData.int).map _)) = _
  rw [List.map_map]
  congr 2
  conv => rhs; rw [← List.map_id xs]
  rfl
theorem onRows (g : List Int → Int) (rows : List (List Int)) : (rows.map tI).map (onRow g) = (rows.map g).map .int := by
  rw [List.map_map, List.map_map]
  exact List.map_congr_left fun r _ => onRow_tI g r
def R_signs (ds : List PyData) (d : PyData) : Prop := ∃ (rows : List (List Int)) (pt : List Int), ds = [.tuple (rows.map tI), tI pt] ∧ (∀ row ∈ rows, BitsL 8000 row ∧ row.length ≤ 1000) ∧ BitsL 8000 pt ∧ rows.length ≤ 1000 ∧ d = tI (rows.map fun r => sgn (dot r pt))
def R_slope (ds : List PyData) (d : PyData) : Prop := ∃ (row way : List Int), ds = [tI row, tI way] ∧ 1 ≤ row.length ∧ BitsL 8000 row ∧ BitsL 8000 way ∧ row.length ≤ 1000 ∧ d = .int (dot row.dropLast way)
def movedL (pt way : List Int) (t b l : Int) : List Int := shortL (List.zipWith (fun n s => n * b + s * t * l) pt.dropLast way ++ [l * b])
def R_moved (ds : List PyData) (d : PyData) : Prop := ∃ (pt way : List Int) (t b l : Int), ds = [tI pt, tI way, tI [t, b]] ∧ pt.getLast? = some l ∧ BitsL 1500 pt ∧ BitsL 1500 way ∧ Bits 1500 t ∧ Bits 1500 b ∧ pt.length ≤ 900 ∧ d = tI (movedL pt way t b l)
theorem zip_bits {pt way : List Int} {t b l : Int} (hb : BitsL 1500 pt) (hw : BitsL 1500 way) (ht : Bits 1500 t) (hbb : Bits 1500 b) (hl : Bits 1500 l) : BitsL 8000 (List.zipWith (fun n s => n * b + s * t * l) pt.dropLast way ++ [l * b]) := by
  intro x hx
  rcases List.mem_append.mp hx with hx | hx
  · obtain ⟨i, hi⟩ := List.getElem?_of_mem hx
    rw [List.getElem?_zipWith] at hi
    split at hi
    · rename_i n s e1 e2
      cases hi
      have q1 := hb n (List.dropLast_subset _ (List.mem_of_getElem? e1))
      have q2 := hw s (List.mem_of_getElem? e2)
      exact Bits.mono (Bits.add (m := 4500) ((Bits.mul q1 hbb).mono (by decide)) ((Bits.mul (Bits.mul q2 ht) hl).mono (by decide))) (by decide)
    · cases hi
  · rw [List.mem_singleton] at hx
    subst hx
    exact (Bits.mul hl hbb).mono (by decide)
def R_like (ds : List PyData) (d : PyData) : Prop := ∃ x, ds = [x, x] ∧ Tame x ∧ d = .bool true
def R_fraction (ds : List PyData) (d : PyData) : Prop := ∃ t b, ds = [.int t, .int b] ∧ Bits 8000 t ∧ Bits 8000 b ∧ d = tI (fracL t b)
def R_point (ds : List PyData) (d : PyData) : Prop := ∃ (ns : List Int) (b : Int), ds = [lI ns, .int b] ∧ 0 < b ∧ BitsL 7000 ns ∧ Bits 7000 b ∧ ns.length ≤ 900 ∧ d = tI (shortL (ns ++ [b]))
/-- a number from 0 to b - 1 -/
def R_draw (ds : List PyData) (Q : PyData → Prop) : Prop := ∃ b : Int, ds = [.int b] ∧ 0 < b ∧ Bits 8000 b ∧ ∀ r : Int, 0 ≤ r → r < b → Q (.int r)
theorem bits_lt {x : Int} {n : Nat} (h0 : 0 ≤ x) (h : x < 2 ^ n) : Bits n x := by
  unfold Bits
  have e : ((2 ^ n : Nat) : Int) = (2 : Int) ^ n := by norm_cast
  omega
theorem at_mod {α : Type} {xs : List α} {s : Int} (h0 : 0 ≤ s) (h1 : 1 ≤ xs.length) : ∃ x, x ∈ xs ∧ atI xs (s % (xs.length : Int)) = some x := by
  have p0 : 0 ≤ s % (xs.length : Int) := Int.emod_nonneg _ (by omega)
  have p1 : s % (xs.length : Int) < xs.length := Int.emod_lt_of_pos _ (by omega)
  obtain ⟨n, hn⟩ : ∃ n : Nat, s % (xs.length : Int) = n := ⟨(s % (xs.length : Int)).toNat, by omega⟩
  have hl : n < xs.length := by omega
  exact ⟨xs[n], List.getElem_mem hl, by rw [hn]; exact atI_nat (List.getElem?_eq_getElem hl)⟩
theorem fa2_ints {Q : Int → Prop} {xs ds : List PyData} (h : Fa2 (fun _ d => ∃ x : Int, d = .int x ∧ Q x) xs ds) : ∃ ns : List Int, ds = ns.map .int ∧ ns.length = xs.length ∧ ∀ x ∈ ns, Q x := by
  induction h with
  | nil => exact ⟨[], rfl, rfl, nofun⟩
  | cons hx _ ih =>
    obtain ⟨x, rfl, hq⟩ := hx
    obtain ⟨ns, rfl, hl, hn⟩ := ih
    refine ⟨x :: ns, rfl, by simp [hl], fun y hy => ?_⟩
    rcases List.mem_cons.mp hy with rfl | hy
    · exact hq
    · exact hn y hy
theorem bits_small {x : Int} (h0 : 0 ≤ x) (h : x < 2 ^ 60) : Bits 8000 x := (bits_lt h0 h).mono (by decide)
theorem bits_abs {x : Int} {n : Nat} (h : x.natAbs < 2 ^ n) : Bits n x := h
def SpotL (D : Nat) (pt : List Int) : Prop := ∃ l, pt.getLast? = some l ∧ 0 < l ∧ pt.length = D + 1 ∧ BitsL 10 pt
theorem last_map {α β : Type} (g : α → β) (xs : List α) : (xs.map g).getLast? = xs.getLast?.map g := by
  rw [List.getLast?_map]
theorem spot_of {ns : List Int} {b : Int} {D : Nat} (hl : ns.length = D) (hn : BitsL 10 ns) (h0 : 0 < b) (hb : Bits 10 b) : SpotL D (shortL (ns ++ [b])) := by
  obtain ⟨g0, e⟩ := shortL_mul (ns ++ [b]) ⟨b, by simp, by omega⟩
  have hlast : (ns ++ [b]).getLast? = some b := by simp
  rw [e, last_map] at hlast
  cases hz : (shortL (ns ++ [b])).getLast? with
  | none => rw [hz] at hlast; cases hlast
  | some l =>
    rw [hz] at hlast
    have hlb : (gcdL (ns ++ [b]) : Int) * l = b := by simpa using hlast
    refine ⟨l, hz, ?_, by rw [shortL_len]; simp [hl], shortL_bits fun x hx => ?_⟩
    · have gp : (0 : Int) < gcdL (ns ++ [b]) := by omega
      rcases Int.lt_or_le 0 l with h | h
      · exact h
      · have := Int.mul_le_mul_of_nonneg_left h (Int.le_of_lt gp)
        omega
    · rcases List.mem_append.mp hx with hx | hx
      · exact hn x hx
      · rw [List.mem_singleton] at hx
        subst hx
        exact hb
theorem upto_len (n : Nat) : (upTo n).length = n := by simp [upTo]
def R_spot (ds : List PyData) (Q : PyData → Prop) : Prop := ∃ D : Nat, ds = [.int (D : Int)] ∧ D ≤ 4 ∧ ∀ pt, SpotL D pt → Q (tI pt)
theorem dot_bits {m k : Nat} : ∀ (xs ys : List Int), BitsL m xs → BitsL k ys → Bits (m + k + xs.length) (dot xs ys)
  | [], _, _, _ => by
    rw [dot_nil]
    exact Nat.pow_pos (by decide)
  | _ :: _, [], _, _ => by
    show Bits _ 0
    exact Nat.pow_pos (by decide)
  | x :: xs, y :: ys, h1, h2 => by
    rw [dot_cons]
    have ih := dot_bits xs ys (fun z hz => h1 z (List.mem_cons_of_mem _ hz)) fun z hz => h2 z (List.mem_cons_of_mem _ hz)
    have q := Bits.mul (h1 x List.mem_cons_self) (h2 y List.mem_cons_self)
    exact (Bits.add (q.mono (Nat.le_add_right _ xs.length)) ih).mono (by rw [List.length_cons]; omega)
theorem bits2 {m : Nat} {t b : Int} (h1 : Bits m t) (h2 : Bits m b) : BitsL m [t, b] := fun x hx => by
  rcases List.mem_cons.mp hx with rfl | hx
  · exact h1
  · rw [List.mem_singleton] at hx
    subst hx
    exact h2
theorem fracL_bits {m : Nat} {t b : Int} (h1 : Bits m t) (h2 : Bits m b) : BitsL m (fracL t b) := by
  have q := shortL_bits (bits2 h1 h2)
  unfold fracL
  split
  · exact q
  · intro x hx
    obtain ⟨y, hy, rfl⟩ := List.mem_map.mp hx
    exact (q y hy).neg
theorem fracL_len {t b : Int} : (fracL t b).length = 2 := by
  unfold fracL
  split
  · rw [shortL_len] <;> rfl
  · rw [List.length_map, shortL_len] <;> rfl
theorem planeD_some {row pl : List Int} (h : planeL row = some pl) : planeD row = tI pl := by
  unfold planeD
  rw [h]
theorem planeD_none {row : List Int} (h : planeL row = none) : planeD row = .none := by
  unfold planeD
  rw [h]
theorem tame_plane {row : List Int} (hb : BitsL 100 row) (hl : row.length ≤ 5) : Tame (planeD row) := by
  cases h : planeL row with
  | none =>
    rw [planeD_none h]
    exact tam_non.tame (by decide) (by decide)
  | some pl =>
    rw [planeD_some h]
    exact (tam_tI (l := 5) ((planeL_bits h hb).mono (by decide)) (by rw [planeL_len h]; exact hl)).tame (by decide) (by decide)
theorem last_two {α : Type} {xs : List α} {l : α} (h : xs.getLast? = some l) : xs = xs.dropLast ++ [l] := by
  cases xs with
  | nil => cases h
  | cons x xs =>
    rw [List.getLast?_eq_some_getLast (List.cons_ne_nil x xs)] at h
    cases h
    exact (List.dropLast_concat_getLast (List.cons_ne_nil x xs)).symm
theorem short_last {q : List Int} {z : Int} (hq : q.getLast? = some z) (hz : 0 < z) : ∃ g l' : Int, 0 < g ∧ (shortL q).getLast? = some l' ∧ z = g * l' ∧ 0 < l' ∧ ∀ row, dot row q = g * dot row (shortL q) := by
  obtain ⟨g0, e⟩ := shortL_mul q ⟨z, List.mem_of_getLast? hq, by omega⟩
  have hq2 := hq
  rw [e, List.getLast?_map] at hq2
  cases hs : (shortL q).getLast? with
  | none => rw [hs] at hq2; cases hq2
  | some l' =>
    rw [hs] at hq2
    have hz2 : (gcdL q : Int) * l' = z := by simpa using hq2
    have gp : (0 : Int) < gcdL q := by omega
    refine ⟨gcdL q, l', gp, rfl, hz2.symm, ?_, fun row => ?_⟩
    · rcases Int.lt_or_le 0 l' with h | h
      · exact h
      · have := Int.mul_le_mul_of_nonneg_left h (Int.le_of_lt gp)
        omega
    · rw [dot_comm row (shortL q), ← dot_scale, ← e, dot_comm]
theorem sm_putD {H1 H' : Hp} {D : Addr} {kvs kvs' : List (Key × V)} (s : Sm H1 H') (h1 : H1 D = none) (h3 : H' D = some (.dK kvs)) : Sm H1 (upd H' D (.dK kvs')) := by
  have kp : Kp D H' (upd H' D (.dK kvs')) := .put h3
  exact ⟨fun b o e n => by
    rw [upd_ne (fun z => by rw [z, h1] at e; cases e)]
    exact s.ob b o e n, fun P t => kp.tb P (s.tb P t), fun b hb => kp.dm b (s.dm b hb)⟩
theorem js_cons {X : Cx} {a : Addr} {st : Stmt} {sts : List Stmt} {ρ : Rho} {N : Rho → Prop} {T : Addr → Prop} {σ : L2.St} {H : Hp} {D} (h : RunS X a st ρ N (fun _ => False)) (S : SD X.K a T H σ ρ) (k : ∀ σ' H' ρ', Sm H H' → SD X.K a T H' σ' ρ' → N ρ' → JSs X sts D σ' H') : JSs X (st :: sts) D σ H :=
  toSs (pss_cons js jss) (h T σ H { D with nx := fun σ' H' => JSs X sts D σ' H' } S k fun _ _ _ _ _ f => f.elim)
theorem ev {X : Cx} {a : Addr} {e : Expr} {ρ : Rho} {d : PyData} {T : Addr → Prop} {σ : L2.St} {H : Hp} {Q : VK} (h : EvE X a e ρ d) (S : SD X.K a T H σ ρ) (q : ∀ v H2, Sm H H2 → Dp X.K (off T H2) v d → Q v H2) : JE X e σ H Q := h T σ H S Q q
/-- the law's state is made -/
def spB (K : PySem.W.Frag) : Sp := fun vs H Q _ => ∃ T xs, ∃ k : Nat, Din T H ∧ DpAll K (off T H) vs [lI xs, .int (k : Int)] ∧ k ≤ 3 ∧ xs.length ≤ 63 ∧ BitsL 1100000 xs ∧ ∀ p H', H p = none → Sm H H' → MS K (off T H') p 900000000000 → Q (.ref p) H'
def keepBig : PyData → Bool
  | .int x => decide ((10 ^ Int.toNat 18 : Int) ≤ x)
  | _ => false
def valSame : PyData → PyData := fun d => d
theorem kept_big : ∀ xs : List Int, ∃ ys : List Int, kept keepBig valSame (xs.map .int) = ys.map .int
  | [] => ⟨[], rfl⟩
  | x :: xs => by
    obtain ⟨ys, h⟩ := kept_big xs
    unfold kept at h ⊢
    rw [List.map_cons]
    cases hk : keepBig (.int x) with
    | true =>
      refine ⟨x :: ys, ?_⟩
      rw [List.filter_cons_of_pos hk, List.map_cons, h, List.map_cons] <;> rfl
    | false =>
      refine ⟨ys, ?_⟩
      rw [List.filter_cons_of_neg (by rw [hk]; exact Bool.false_ne_true), h]
theorem dps_ints_inv {K : PySem.W.Frag} {H : Hp} : ∀ {ns : List Int} {vs : List V}, DpAll K H vs (ns.map PyData.int) → vs = ns.map V.int
  | [], _, h => by cases h; rfl
  | n :: ns, _, h => by
    cases h with
    | cons h1 h2 => rw [dp_int h1, dps_ints_inv h2] <;> rfl
theorem cut_cells (xs : List Int) (k : Nat) : ∃ ys : List Int, cutD (xs.map .int) (some (k : Int)) none ++ cutD (xs.map .int) none (some (k : Int)) = ys.map .int ∧ ys.length = xs.length ∧ ∀ y ∈ ys, y ∈ xs := by
  refine ⟨xs.drop (min k xs.length) ++ xs.take (min k xs.length), ?_, ?_, fun y hy => ?_⟩
  · unfold cutD
    rw [HT.sIx_nat, HT.sIx_nat, HT.sIx_none, HT.sIx_none, List.length_map, List.map_append, List.map_drop, List.map_take, List.drop_zero, Nat.sub_zero]
    congr 1
    rw [List.take_of_length_le (by simp)]
  · simp
    omega
  · rcases List.mem_append.mp hy with hy | hy
    · exact List.mem_of_mem_drop hy
    · exact List.mem_of_mem_take hy
theorem bitsOf {xs : List Int} {n : Nat} (h : ∀ x ∈ xs, x.natAbs < 2 ^ n) : BitsL n xs := h
theorem small {xs : List Int} (h : xs.all (fun x => decide (x.natAbs < 2 ^ 10)) = true) : BitsL 8000 xs := fun x hx => Bits.mono (m := 10) (of_decide_eq_true (List.all_eq_true.mp h x hx)) (by decide)
theorem small19 {xs : List Int} (h : xs.all (fun x => decide (x.natAbs < 2 ^ 10)) = true) : BitsL 1900 xs := fun x hx => Bits.mono (m := 10) (of_decide_eq_true (List.all_eq_true.mp h x hx)) (by decide)
theorem tm_I {xs : List Int} (h : xs.all (fun x => decide (x.natAbs < 2 ^ 10)) = true) (hl : xs.length ≤ 10) : Tam 10 1 (tI xs) := tam_tI (small19 h) hl
def unh : Option DV → Option DV
  | some .hnd => none
  | x => x
theorem SD_unh {K : PySem.W.Frag} {a b : Addr} {T : Addr → Prop} {H : Hp} {σ : L2.St} {ρ : Rho} (h : SD K a T H σ ρ) : SD K b T H σ (ρ.map unh) := ⟨by rw [List.length_map]; exact h.len, h.dm, fun i x e => by
  rw [List.getElem?_map] at e
  cases hρ : ρ[i]? with
  | none => rw [hρ] at e; cases e
  | some o =>
    rw [hρ] at e
    have e : unh o = some x := by simpa using e
    cases o with
    | none => cases e
    | some z =>
      cases z with
      | hnd => cases e
      | adr p =>
        cases e
        exact h.sl i _ hρ
      | val R =>
        cases e
        exact h.sl i _ hρ
      | dat d =>
        cases e
        exact h.sl i _ hρ⟩
section
variable {X : Cx} {a : Addr} {ρ : Rho} {c e1 e2 : Expr} {body : List Stmt} {pos p pos' : Pos} {n : Nat} {N : Nat → Rho → Prop} {R : Nat → PyData → Prop} {N' : Rho → Prop} {R' : PyData → Prop} {d : PyData}
theorem q_run {X : Cx} {a : Addr} {sts : List Stmt} {ρ : Rho} {n : Nat} {N : Nat → Rho → Prop} {R : Nat → PyData → Prop} {N' : Rho → Prop} {R' : PyData → Prop} (h : Run X a sts ρ N' R') (hn : ∀ ρ', N' ρ' → N n ρ') (hr : ∀ d, R' d → R n d) : RunM X a sts ρ n N R := fun T σ H D S ms kn kr =>
  h T σ H D S (fun σ' H' ρ' s S' e => kn σ' H' ρ' n (.of s) S' (ms.same (off_same s)) (hn _ e)) fun v H' d s p e => kr v H' d n (.of s) (ms.same (off_same s)) p (hr d e)
theorem r_skip (hc : EvT X a c ρ false) (h : N' ρ) : RunS X a (.If c body [] pos) ρ N' R' := rs_if (b := false) hc nofun fun _ => r_nil h
theorem q_skip (hc : EvT X a c ρ false) (h : N n ρ) : RunMS X a (.If c body [] pos) ρ n N R := q_pure (N' := fun ρ' => ρ' = ρ) (R' := fun _ => False) (r_skip hc rfl) (fun ρ' e => by rw [e]; exact h) nofun
theorem t_notlike (C : CalG X.prog X.w X.K X.mg X.base 1 "_law_like" ["told", "due"] (spR X.K R_like)) (hgd : X.A.guards = some []) (hr : Room 1 X.A) (ha : EvA X a [e1, e2] ρ [d, d]) (ht : Tame d) (hg : Gl X "_law_like" := by rfl)
    (he : starEach [e1, e2] X.env = (false, eval e1 X.env) :: starEach [e2] X.env := by exact star_of rfl) (hpl : (backTo pos' (starEach [e2] X.env)).any (·.1) = false := by exact star_no rfl)
    (hit : ∀ whole, isTrue (.Call (.Name "_law_like" p) [e1, e2] [] pos') X.env whole = (do let v ← whole; standAt pos'; holding [v] (truthy v)) := by intro _; rfl) :
    EvT X a (.UnaryOp .Not (.Call (.Name "_law_like" p) [e1, e2] [] pos') pos) ρ false :=
  t_is (t_not (t_val (e_callG C hgd hr ha ⟨d, rfl, ht, rfl⟩ hg (by decide) he hpl) hit)) rfl
end
section
variable {X : Cx} {x : Str} {p pos : Pos} {k : Nat} {sp : Sp}
theorem pe_call0G (C : CalG X.prog X.w X.K X.mg X.base k x [] sp) (hgd : X.A.guards = some []) (hr : Room k X.A) (hg : Gl X x := by rfl) (hdb : (x == ("__debug__" : Str)) = false := by decide)
    (hall : (backToKw pos (keywordEach [] X.env)).all (·.1.isSome) = true := by rfl) (hks : (backToKw pos (keywordEach [] X.env)).filterMap (·.1) = [] := by rfl)
    (hpl : ((backTo pos (starEach [] X.env)).any (·.1) || (backToKw pos (keywordEach [] X.env)).any (·.1.isNone)) = false := by rfl) :
    PE X (.Call (.Name x p) [] [] pos) (fun σ H Q => sp [] H Q E0) := by
  obtain ⟨f, fd, F, hm, hk, hb⟩ := C.ex
  refine ⟨fun pins s σ H Q I h => ?_⟩
  refine wpAny_Call_Name_kw (ld_glob I hg hm ?_ hdb)
  refine PySem.W.callWith_KW0 (h₀ := X.base) I.ok.mod.kin hk hall (thn (pk_nil.run pos pins s σ H (fun vs H1 => vs = [] ∧ H1 = H) I ⟨rfl, rfl⟩) fun us s1 hv => ?_) hpl
  obtain ⟨vs, H1, I1, r1, rfl, rfl⟩ := hv
  cases r1
  refine ⟨I1.kIn, ?_⟩
  rw [hks]
  have hbd := hb s1 [] I1.kIn rfl
  refine wpAny_call (codeAny_mono (F.run X.A X.stack s1 H1 ⟨[], []⟩ [] [] Q E0 hgd hr I1.env0 hbd .nil h) fun r s' hq => ?_)
  cases r with
  | error e => exact hq.elim
  | ok fl =>
    cases fl with
    | ret u => exact I1.after hq
    | next => exact hq.elim
    | brk => exact hq.elim
    | cont => exact hq.elim
theorem e_call0 {a : Addr} {ρ : Rho} {d : PyData} {R : List PyData → PyData → Prop} (C : CalG X.prog X.w X.K X.mg X.base k x [] (spR X.K R)) (hgd : X.A.guards = some []) (hr : Room k X.A) (hR : R [] d) (hg : Gl X x := by rfl) (hdb : (x == ("__debug__" : Str)) = false := by decide)
    (hall : (backToKw pos (keywordEach [] X.env)).all (·.1.isSome) = true := by rfl) (hks : (backToKw pos (keywordEach [] X.env)).filterMap (·.1) = [] := by rfl)
    (hpl : ((backTo pos (starEach [] X.env)).any (·.1) || (backToKw pos (keywordEach [] X.env)).any (·.1.isNone)) = false := by rfl) : EvE X a (.Call (.Name x p) [] [] pos) ρ d := fun T σ H S Q q =>
  toE (pe_call0G C hgd hr hg hdb hall hks hpl) ⟨T, [], d, S.dm, .nil, hR, fun v H2 s2 p2 => q v H2 s2 p2⟩
/-- m = _law_begun(..), and what follows -/
theorem r_begun {a : Addr} {ρ : Rho} {N : Rho → Prop} {R : PyData → Prop} {i : Nat} {y : Str} {pos' ps : Pos} {e : Expr} {es : List Expr} {xs : List Int} {kk : Nat} {sts : List Stmt} (G : Good X) (C : CalG X.prog X.w X.K X.mg X.base k x ["script", "k"] (spB X.K)) (hgd : X.A.guards = some []) (hr : Room k X.A)
    (ha : EvA X a (e :: es) ρ [lI xs, .int (kk : Int)]) (hk : kk ≤ 3) (hl : xs.length ≤ 63) (hb : BitsL 1100000 xs)
    (hrest : ∀ q, RunM X q sts ((ρ.map unh).set i (some .hnd)) 900000000000 (fun _ ρ' => N (ρ'.map unh)) (fun _ d => R d))
    (hi : X.N[i]? = some y := by rfl) (hx : Loc X.env.scope y := by first | exact Or.inl rfl | exact Or.inr rfl)
    (hs : swapsWith (.Call (.Name x p) (e :: es) [] pos) (some (.Name y pos')) ps.line X.env = pure false := by rfl) (hf : X.fn y = true ∨ X.env.scope.names.lookup y = some .local := by first | exact .inl rfl | exact .inr rfl)
    (hg : Gl X x := by rfl) (hdb : (x == ("__debug__" : Str)) = false := by decide) (he : starEach (e :: es) X.env = (false, eval e X.env) :: starEach es X.env := by exact star_of rfl) (hpl : (backTo pos (starEach es X.env)).any (·.1) = false := by exact star_no rfl) :
    Run X a (.Assign [.Name y pos'] (.Call (.Name x p) (e :: es) [] pos) ps :: sts) ρ N R := fun T σ H D S kn kr => by
  refine toSs (pss_cons js jss) (toS (ps_set G.nd hi hx (pe_callG C hgd hr ja hg hdb he hpl) hs hf) (ha T σ H S _ fun vs H1 s1 p1 => ⟨T, xs, kk, S.dm.same s1, p1, hk, hl, hb, fun q H2 hq s2 ms => ?_⟩))
  have S2 : SD X.K q T H2 (σ.set i (some (.ref q))) ((ρ.map unh).set i (some .hnd)) := (SD_unh ((S.same s1).same s2)).put (x := .hnd) rfl
  have key : ∀ {H'}, Kp q H2 H' → Sm H H' := fun {H'} kp => s1.trans ⟨fun b o h1 n => kp.ka.1 b o (fun z => by
      rw [z, hq] at h1
      cases h1) (s2.ob b o h1 n) n, fun P t => kp.tb P (s2.tb P t), fun b h => kp.dm b (s2.dm b h)⟩
  exact hrest q T _ H2 D S2 ms (fun σ' H' ρ' m kp S' _ hN => kn σ' H' _ (key kp) (SD_unh S') hN) fun v H' d m kp _ pd hR => kr v H' d (key kp) pd hR
end
/-- a def of the top, where the name finds it -/
structure Df (K : PySem.W.Frag) (x : Str) (st : Stmt) : Prop where
  ex : ∃ f fd, PySem.W.nsIn K mainGlobals x = some (some (.ref f)) ∧ Fun K x x st f fd
theorem df_mk {K : PySem.W.Frag} {x : Str} {st : Stmt} {f : Addr} {oc : Value} {od an : Option Addr} {osl : Array (Option Value)} {kV doc pm cdv ct : Value} (a : PySem.W.nsIn K mainGlobals x = some (some (.ref f)))
    (l : K.lookup f = some ⟨oc, od, .func (PySem.W.fnOf x x (defArgs st) (defBody st) (defScope st) .none kV doc pm an cdv ct), osl⟩)
    (c : PySem.W.codeIn K cdv x = true) (k : PySem.W.keepIn K (.ref f) = true) : Df K x st := ⟨_, _, a, fun_mk l c k⟩
def Tk (st : Stmt) (x : Str) (ps : List Str) : Prop := ∀ (kV doc pm : Value) (an : Option Addr) (cdv ct : Value) (us : List Value), us.length = ps.length → bindArgs (PySem.W.fnOf x x (defArgs st) (defBody st) (defScope st) .none kV doc pm an cdv ct) ⟨us, []⟩ = pure (ps.zip us)
theorem tk0 {st : Stmt} {x : Str} (e : ∀ (kV doc pm : Value) (an : Option Addr) (cdv ct : Value), bindArgs (PySem.W.fnOf x x (defArgs st) (defBody st) (defScope st) .none kV doc pm an cdv ct) ⟨[], []⟩ = pure []) : Tk st x [] := fun kV doc pm an cdv ct us hl => by
  match us, hl with
  | [], _ => exact e kV doc pm an cdv ct
theorem tk1 {st : Stmt} {x a : Str} (e : ∀ (kV doc pm : Value) (an : Option Addr) (cdv ct u : Value), bindArgs (PySem.W.fnOf x x (defArgs st) (defBody st) (defScope st) .none kV doc pm an cdv ct) ⟨[u], []⟩ = pure [(a, u)]) : Tk st x [a] := fun kV doc pm an cdv ct us hl => by
  match us, hl with
  | [u], _ => exact e kV doc pm an cdv ct u
theorem tk2 {st : Stmt} {x a b : Str} (e : ∀ (kV doc pm : Value) (an : Option Addr) (cdv ct u v : Value), bindArgs (PySem.W.fnOf x x (defArgs st) (defBody st) (defScope st) .none kV doc pm an cdv ct) ⟨[u, v], []⟩ = pure [(a, u), (b, v)]) : Tk st x [a, b] := fun kV doc pm an cdv ct us hl => by
  match us, hl with
  | [u, v], _ => exact e kV doc pm an cdv ct u v
theorem tk3 {st : Stmt} {x a b c : Str} (e : ∀ (kV doc pm : Value) (an : Option Addr) (cdv ct u v z : Value), bindArgs (PySem.W.fnOf x x (defArgs st) (defBody st) (defScope st) .none kV doc pm an cdv ct) ⟨[u, v, z], []⟩ = pure [(a, u), (b, v), (c, z)]) : Tk st x [a, b, c] := fun kV doc pm an cdv ct us hl => by
  match us, hl with
  | [u, v, z], _ => exact e kV doc pm an cdv ct u v z
section
variable {P : Program} {w : World} {K : PySem.W.Frag} {h base : Heap} {mg : Str → Option Value} {k : Nat} {x : Str} {st : Stmt} {ps : List Str} {sp : Sp}
theorem cal_mk (X : K.In h) (G : h.Ns mainGlobals mg) (d : Df K x st) (b : Tk st x ps) (ok : ∀ f fd, Fun K x x st f fd → FnOk P w K mg base CX0 k f fd ps sp) : Cal P w K mg base k x ps sp := by
  obtain ⟨f, fd, a, F⟩ := d.ex
  exact ⟨f, fd, ok f fd F, PySem.W.mg_of X G a, F.kp, F.binds b⟩
theorem calG_mk (X : K.In h) (G : h.Ns mainGlobals mg) (d : Df K x st) (b : Tk st x ps) (ok : ∀ f fd, Fun K x x st f fd → FnG P w K mg base CX0 k f fd ps sp) : CalG P w K mg base k x ps sp := by
  obtain ⟨f, fd, a, F⟩ := d.ex
  exact ⟨f, fd, ok f fd F, PySem.W.mg_of X G a, F.kp, F.binds b⟩
theorem calK_mk (X : K.In h) (G : h.Ns mainGlobals mg) (d : Df K x st) (ok : ∀ f fd, Fun K x x st f fd → FnOk P w K mg base CX0 k f fd ps sp) : CalK P w K mg base k x st ps sp := by
  obtain ⟨f, fd, a, F⟩ := d.ex
  exact ⟨f, fd, F, ok f fd F, PySem.W.mg_of X G a⟩
end
end Zj
/-! The text of the program and of the law, by places. -/
namespace K4
open PySem PySem.Spec PyProof.Rows L2 Zj
def top (i : Nat) : Stmt := PySem.Challenge.pw_onesolid_k04_whole_flats.main.body.getD i (.Pass ⟨0, 0, 0, 0⟩)
abbrev st_is_whole : Stmt := top 8
abbrev n_is_whole : List Str := ["value"]
theorem sc_is_whole : FnScope n_is_whole ["value"] (defScope st_is_whole) := ⟨rfl, rfl, rfl, by decide +kernel, rfl, by decide +kernel, by decide +kernel⟩
abbrev st_wrong_place : Stmt := top 9
abbrev n_wrong_place : List Str := ["value", "many", "place", "number"]
theorem sc_wrong_place : FnScope n_wrong_place ["value", "many"] (defScope st_wrong_place) := ⟨rfl, rfl, rfl, by decide +kernel, rfl, by decide +kernel, by decide +kernel⟩
abbrev st_common_divisor : Stmt := top 10
abbrev n_common_divisor : List Str := ["numbers", "divisor", "number"]
theorem sc_common_divisor : FnScope n_common_divisor ["numbers"] (defScope st_common_divisor) := ⟨rfl, rfl, rfl, by decide +kernel, rfl, by decide +kernel, by decide +kernel⟩
abbrev st_common_multiple : Stmt := top 11
abbrev n_common_multiple : List Str := ["numbers", "multiple", "number"]
theorem sc_common_multiple : FnScope n_common_multiple ["numbers"] (defScope st_common_multiple) := ⟨rfl, rfl, rfl, by decide +kernel, rfl, by decide +kernel, by decide +kernel⟩
abbrev st_shortened : Stmt := top 12
abbrev n_shortened : List Str := ["numbers", "divisor", "number"]
theorem sc_shortened : FnScope n_shortened ["numbers"] (defScope st_shortened) := ⟨rfl, rfl, rfl, by decide +kernel, rfl, by decide +kernel, by decide +kernel⟩
abbrev st_sign_of : Stmt := top 13
abbrev n_sign_of : List Str := ["number"]
theorem sc_sign_of : FnScope n_sign_of ["number"] (defScope st_sign_of) := ⟨rfl, rfl, rfl, by decide +kernel, rfl, by decide +kernel, by decide +kernel⟩
abbrev st_lowest : Stmt := top 14
abbrev n_lowest : List Str := ["top", "bottom", "divisor"]
theorem sc_lowest : FnScope n_lowest ["top", "bottom"] (defScope st_lowest) := ⟨rfl, rfl, rfl, by decide +kernel, rfl, by decide +kernel, by decide +kernel⟩
abbrev st_check_point : Stmt := top 16
abbrev n_check_point : List Str := ["dimension", "value", "place"]
theorem sc_check_point : FnScope n_check_point ["dimension", "value"] (defScope st_check_point) := ⟨rfl, rfl, rfl, by decide +kernel, rfl, by decide +kernel, by decide +kernel⟩
abbrev st_point_of : Stmt := top 17
abbrev n_point_of : List Str := ["coordinates", "weight", "fraction", "top", "bottom"]
theorem sc_point_of : FnScope n_point_of ["coordinates"] (defScope st_point_of) := ⟨rfl, rfl, rfl, by decide +kernel, rfl, by decide +kernel, by decide +kernel⟩
abbrev st_check_direction : Stmt := top 18
abbrev n_check_direction : List Str := ["dimension", "value", "place"]
theorem sc_check_direction : FnScope n_check_direction ["dimension", "value"] (defScope st_check_direction) := ⟨rfl, rfl, rfl, by decide +kernel, rfl, by decide +kernel, by decide +kernel⟩
abbrev st_direction_of : Stmt := top 19
abbrev n_direction_of : List Str := ["numbers"]
theorem sc_direction_of : FnScope n_direction_of ["numbers"] (defScope st_direction_of) := ⟨rfl, rfl, rfl, by decide +kernel, rfl, by decide +kernel, by decide +kernel⟩
abbrev st_first_place : Stmt := top 21
abbrev n_first_place : List Str := ["numbers", "place", "number"]
theorem sc_first_place : FnScope n_first_place ["numbers"] (defScope st_first_place) := ⟨rfl, rfl, rfl, by decide +kernel, rfl, by decide +kernel, by decide +kernel⟩
abbrev st_plane_of : Stmt := top 22
abbrev n_plane_of : List Str := ["row", "place", "plane", "number"]
theorem sc_plane_of : FnScope n_plane_of ["row"] (defScope st_plane_of) := ⟨rfl, rfl, rfl, by decide +kernel, rfl, by decide +kernel, by decide +kernel⟩
abbrev st_weighed : Stmt := top 23
abbrev n_weighed : List Str := ["row", "point", "number", "part"]
theorem sc_weighed : FnScope n_weighed ["row", "point"] (defScope st_weighed) := ⟨rfl, rfl, rfl, by decide +kernel, rfl, by decide +kernel, by decide +kernel⟩
abbrev st_sign_at : Stmt := top 24
abbrev n_sign_at : List Str := ["row", "point"]
theorem sc_sign_at : FnScope n_sign_at ["row", "point"] (defScope st_sign_at) := ⟨rfl, rfl, rfl, by decide +kernel, rfl, by decide +kernel, by decide +kernel⟩
abbrev st_leading_place : Stmt := top 26
abbrev n_leading_place : List Str := ["plane"]
theorem sc_leading_place : FnScope n_leading_place ["plane"] (defScope st_leading_place) := ⟨rfl, rfl, rfl, by decide +kernel, rfl, by decide +kernel, by decide +kernel⟩
abbrev st__cleared : Stmt := top 27
abbrev n__cleared : List Str := ["row", "plane", "place", "number", "part"]
theorem sc__cleared : FnScope n__cleared ["row", "plane"] (defScope st__cleared) := ⟨rfl, rfl, rfl, by decide +kernel, rfl, by decide +kernel, by decide +kernel⟩
abbrev st_cleared_by_all : Stmt := top 28
abbrev n_cleared_by_all : List Str := ["row", "planes", "left", "plane"]
theorem sc_cleared_by_all : FnScope n_cleared_by_all ["row", "planes"] (defScope st_cleared_by_all) := ⟨rfl, rfl, rfl, by decide +kernel, rfl, by decide +kernel, by decide +kernel⟩
abbrev st_flat_of : Stmt := top 29
abbrev n_flat_of : List Str := ["dimension", "rows", "reduced", "row", "left", "fresh", "others", "plane"]
theorem sc_flat_of : FnScope n_flat_of ["dimension", "rows"] (defScope st_flat_of) := ⟨rfl, rfl, rfl, by decide +kernel, rfl, by decide +kernel, by decide +kernel⟩
abbrev st_check_flat : Stmt := top 30
abbrev n_check_flat : List Str := ["dimension", "value", "number", "thing"]
theorem sc_check_flat : FnScope n_check_flat ["dimension", "value"] (defScope st_check_flat) := ⟨rfl, rfl, rfl, by decide +kernel, rfl, by decide +kernel, by decide +kernel⟩
abbrev st_flat_dimension : Stmt := top 31
abbrev n_flat_dimension : List Str := ["dimension", "flat"]
theorem sc_flat_dimension : FnScope n_flat_dimension ["dimension", "flat"] (defScope st_flat_dimension) := ⟨rfl, rfl, rfl, by decide +kernel, rfl, by decide +kernel, by decide +kernel⟩
abbrev st_on_flat : Stmt := top 32
abbrev n_on_flat : List Str := ["flat", "point", "row"]
theorem sc_on_flat : FnScope n_on_flat ["flat", "point"] (defScope st_on_flat) := ⟨rfl, rfl, rfl, by decide +kernel, rfl, by decide +kernel, by decide +kernel⟩
abbrev st_flat_in : Stmt := top 33
abbrev n_flat_in : List Str := ["dimension", "flat", "other"]
theorem sc_flat_in : FnScope n_flat_in ["dimension", "flat", "other"] (defScope st_flat_in) := ⟨rfl, rfl, rfl, by decide +kernel, rfl, by decide +kernel, by decide +kernel⟩
abbrev st_flat_meet : Stmt := top 34
abbrev n_flat_meet : List Str := ["dimension", "flat", "other"]
theorem sc_flat_meet : FnScope n_flat_meet ["dimension", "flat", "other"] (defScope st_flat_meet) := ⟨rfl, rfl, rfl, by decide +kernel, rfl, by decide +kernel, by decide +kernel⟩
abbrev st_flat_point : Stmt := top 35
abbrev n_flat_point : List Str := ["dimension", "flat", "coordinates", "row", "place"]
theorem sc_flat_point : FnScope n_flat_point ["dimension", "flat"] (defScope st_flat_point) := ⟨rfl, rfl, rfl, by decide +kernel, rfl, by decide +kernel, by decide +kernel⟩
abbrev st_flat_directions : Stmt := top 36
abbrev n_flat_directions : List Str := ["dimension", "flat", "row", "leading", "place", "scale", "directions", "free", "steps"]
theorem sc_flat_directions : FnScope n_flat_directions ["dimension", "flat"] (defScope st_flat_directions) := ⟨rfl, rfl, rfl, by decide +kernel, rfl, by decide +kernel, by decide +kernel⟩
abbrev st__law_begun : Stmt := top 38
abbrev n__law_begun : List Str := ["script", "k", "cells", "cell", "great", "seed"]
theorem sc__law_begun : FnScope n__law_begun ["script", "k"] (defScope st__law_begun) := ⟨rfl, rfl, rfl, by decide +kernel, rfl, by decide +kernel, by decide +kernel⟩
abbrev st__law_draw : Stmt := top 39
abbrev n__law_draw : List Str := ["m", "bound", "found", "spot", "cells", "extra", "cell", "blend"]
theorem sc__law_draw : FnScope n__law_draw ["m", "bound"] (defScope st__law_draw) := ⟨rfl, rfl, rfl, by decide +kernel, rfl, by decide +kernel, by decide +kernel⟩
abbrev st__law_of : Stmt := top 40
abbrev n__law_of : List Str := ["m", "some"]
theorem sc__law_of : FnScope n__law_of ["m", "some"] (defScope st__law_of) := ⟨rfl, rfl, rfl, by decide +kernel, rfl, by decide +kernel, by decide +kernel⟩
abbrev st__law_like : Stmt := top 41
abbrev n__law_like : List Str := ["told", "due"]
theorem sc__law_like : FnScope n__law_like ["told", "due"] (defScope st__law_like) := ⟨rfl, rfl, rfl, by decide +kernel, rfl, by decide +kernel, by decide +kernel⟩
abbrev st__law_common : Stmt := top 42
abbrev n__law_common : List Str := ["numbers", "found", "number", "remnant"]
theorem sc__law_common : FnScope n__law_common ["numbers"] (defScope st__law_common) := ⟨rfl, rfl, rfl, by decide +kernel, rfl, by decide +kernel, by decide +kernel⟩
abbrev st__law_lowered : Stmt := top 43
abbrev n__law_lowered : List Str := ["numbers", "whole", "number"]
theorem sc__law_lowered : FnScope n__law_lowered ["numbers"] (defScope st__law_lowered) := ⟨rfl, rfl, rfl, by decide +kernel, rfl, by decide +kernel, by decide +kernel⟩
abbrev st__law_point : Stmt := top 44
abbrev n__law_point : List Str := ["numbers", "bottom", "sign", "number"]
theorem sc__law_point : FnScope n__law_point ["numbers", "bottom"] (defScope st__law_point) := ⟨rfl, rfl, rfl, by decide +kernel, rfl, by decide +kernel, by decide +kernel⟩
abbrev st__law_total : Stmt := top 45
abbrev n__law_total : List Str := ["row", "point_so", "one", "other_so"]
theorem sc__law_total : FnScope n__law_total ["row", "point_so"] (defScope st__law_total) := ⟨rfl, rfl, rfl, by decide +kernel, rfl, by decide +kernel, by decide +kernel⟩
abbrev st__law_along : Stmt := top 46
abbrev n__law_along : List Str := ["point_so", "way", "top", "bottom", "a", "b"]
theorem sc__law_along : FnScope n__law_along ["point_so", "way", "top", "bottom"] (defScope st__law_along) := ⟨rfl, rfl, rfl, by decide +kernel, rfl, by decide +kernel, by decide +kernel⟩
abbrev st__law_reduced : Stmt := top 47
abbrev n__law_reduced : List Str := ["rows_so", "width", "found", "left", "place", "heads", "head", "remnant", "row", "number", "a", "b"]
theorem sc__law_reduced : FnScope n__law_reduced ["rows_so", "width"] (defScope st__law_reduced) := ⟨rfl, rfl, rfl, by decide +kernel, rfl, by decide +kernel, by decide +kernel⟩
abbrev st__law_cleared : Stmt := top 48
abbrev n__law_cleared : List Str := ["row", "head", "place", "a", "b"]
theorem sc__law_cleared : FnScope n__law_cleared ["row", "head", "place"] (defScope st__law_cleared) := ⟨rfl, rfl, rfl, by decide +kernel, rfl, by decide +kernel, by decide +kernel⟩
abbrev st__law_flat : Stmt := top 49
abbrev n__law_flat : List Str := ["dimension_so", "rows_so", "found", "row", "number"]
theorem sc__law_flat : FnScope n__law_flat ["dimension_so", "rows_so"] (defScope st__law_flat) := ⟨rfl, rfl, rfl, by decide +kernel, rfl, by decide +kernel, by decide +kernel⟩
abbrev st__law_rows : Stmt := top 50
abbrev n__law_rows : List Str := ["m", "dimension_so", "count", "found", "k", "row", "way", "spot", "a", "b"]
theorem sc__law_rows : FnScope n__law_rows ["m", "dimension_so", "count"] (defScope st__law_rows) := ⟨rfl, rfl, rfl, by decide +kernel, rfl, by decide +kernel, by decide +kernel⟩
abbrev st__law_heard : Stmt := top 51
abbrev n__law_heard : List Str := ["dimension_so", "value_so", "caught"]
theorem sc__law_heard : FnScope n__law_heard ["dimension_so", "value_so"] (defScope st__law_heard) := ⟨rfl, rfl, rfl, by decide +kernel, rfl, by decide +kernel, by decide +kernel⟩
abbrev st__law_fault : Stmt := top 52
abbrev n__law_fault : List Str := ["dimension_so", "value_so", "k", "row", "number"]
theorem sc__law_fault : FnScope n__law_fault ["dimension_so", "value_so"] (defScope st__law_fault) := ⟨rfl, rfl, rfl, by decide +kernel, rfl, by decide +kernel, by decide +kernel⟩
abbrev st__law_leads : Stmt := top 53
abbrev n__law_leads : List Str := ["flat_so", "row", "k", "number"]
theorem sc__law_leads : FnScope n__law_leads ["flat_so"] (defScope st__law_leads) := ⟨rfl, rfl, rfl, by decide +kernel, rfl, by decide +kernel, by decide +kernel⟩
abbrev st__law_inside_right : Stmt := top 54
abbrev n__law_inside_right : List Str := ["m", "dimension_so", "flat_so", "leads", "point_so", "ways", "k", "free", "way", "turn", "spot", "other_so", "due", "row", "j", "a", "b"]
theorem sc__law_inside_right : FnScope n__law_inside_right ["m", "dimension_so", "flat_so"] (defScope st__law_inside_right) := ⟨rfl, rfl, rfl, by decide +kernel, rfl, by decide +kernel, by decide +kernel⟩
abbrev st__law_bent : Stmt := top 55
abbrev n__law_bent : List Str := ["m", "dimension_so", "flat_so", "way", "at", "row", "spot", "fresh", "number"]
theorem sc__law_bent : FnScope n__law_bent ["m", "dimension_so", "flat_so"] (defScope st__law_bent) := ⟨rfl, rfl, rfl, by decide +kernel, rfl, by decide +kernel, by decide +kernel⟩
abbrev st__law_hand_right : Stmt := top 56
abbrev n__law_hand_right : List Str := ["told", "due"]
theorem sc__law_hand_right : FnScope n__law_hand_right [] (defScope st__law_hand_right) := ⟨rfl, rfl, rfl, by decide +kernel, rfl, by decide +kernel, by decide +kernel⟩
abbrev st_law : Stmt := top 57
abbrev n_law : List Str := ["script", "k", "m", "dimension_so", "rows_so", "due", "more", "flat_so", "other_so", "whole", "value_so"]
theorem sc_law : FnScope n_law ["script"] (defScope st_law) := ⟨rfl, rfl, rfl, by decide +kernel, rfl, by decide +kernel, by decide +kernel⟩
end K4
/-! Defs of the program and of the law that several laws share. -/
namespace K4
open PySem PySem.Spec PyProof.Rows L2 Zj
variable [Nm]
section
variable {P : Program} {w : World} {K : PySem.W.Frag} {mg : Str → Option Value} {base : Heap} {f : Addr} {fd : FuncData}
theorem ok_whole (F : Fun K "is_whole" "is_whole" st_is_whole f fd) (T : Tx mg) : FnOk P w K mg base CX0 1 f fd ["value"] (spR K R_whole) := by
  refine fnR F sc_is_whole (fun ds d h => by obtain ⟨x, rfl, _⟩ := h; rfl) fun cdv A outer s H E G hr ds d h => ?_
  obtain ⟨x, rfl, rfl⟩ := h
  rw [whole_is]
  exact r_one (rs_ret (e_and2 (e_isInt (e_var (i := 0) rfl) T.isi T.int) (e_not (e_isBool (e_var (i := 0) rfl) T.isi T.bool))) rfl)
theorem ok_wrong (F : Fun K "wrong_place" "wrong_place" st_wrong_place f fd) (T : Tx mg) (C1 : Cal P w K mg base 1 "is_whole" ["value"] (spR K R_whole)) : FnOk P w K mg base CX0 2 f fd ["value", "many"] (spR K R_wrong) := by
  refine fnR F sc_wrong_place (fun ds d h => by obtain ⟨v, m, rfl, _⟩ := h; rfl) fun cdv A outer s H E G hr ds d h => ?_
  obtain ⟨v, m, rfl, hz, rfl⟩ := h
  by_cases hv : ∃ xs, v = .tuple xs ∧ (xs.length : Int) = m
  · obtain ⟨xs, rfl, rfl⟩ := hv
    have hz := hz xs rfl
    have e0 : wrongD (.tuple xs) xs.length = placeD (badAt xs) := by
      show (if (xs.length : Int) = xs.length then placeD (badAt xs) else _) = _
      rw [if_pos rfl]
    rw [e0]
    refine r_cons (rs_if (b := false) (t_or2 (b := false) (t_is (t_not (t_val (e_isTup (e_var (i := 0) rfl) T.isi T.tuple))) rfl) (fun _ => t_is (t_cmp od_neI (e_callB ca_lenT (a_cons (e_var (i := 0) rfl) a_nil) T.len (by decide +kernel)) (e_var (i := 1) rfl) (nomark _)) (by simp)) nofun) nofun fun _ => r_nil ?_)
    refine r_cons (rs_for G (src_ET (a_cons (e_var (i := 0) rfl) a_nil) T.enum) (pg_tup rfl (pgs_cons (pg_name (i := 2) sc_wrong_place.nd rfl (Or.inl rfl)) (pgs_cons (pg_name (i := 3) sc_wrong_place.nd rfl (Or.inl rfl)) pgs_nil))) (tg_pair (vs := [2, 3]) (by decide) (by decide))
      (fun n ρ' => (∃ x y, ρ' = [some (.dat (.tuple xs)), some (.dat (.int xs.length)), x, y]) ∧ ∀ i y, i < n → xs[i]? = some y → (!wholeD y) = false) ⟨⟨_, _, rfl⟩, fun i y hi => by omega⟩ (fun n d ρ1 hd hJ => ?_) fun ρ' hJ => ?_)
    · obtain ⟨x, hx, rfl⟩ := getN hd
      obtain ⟨⟨_, _, rfl⟩, hb⟩ := hJ
      refine ⟨_, rfl, r_one (rs_if (t_not (t_val (e_call C1 (hr.mono (by decide)) (a_cons (e_var (i := 3) rfl) a_nil) ⟨x, rfl, rfl⟩))) (fun hw => r_one (rs_ret (e_var (i := 2) rfl) ?_)) fun hw => r_nil ⟨⟨_, _, rfl⟩, fun i y hi hy => ?_⟩)⟩
      · rw [show badAt xs = some n from find_hit hx hw hb] <;> rfl
      · by_cases hin : i = n
        · subst hin
          rw [hx] at hy
          cases hy
          exact hw
        · exact hb i y (by omega) hy
    · obtain ⟨⟨_, _, rfl⟩, hb⟩ := hJ
      rw [numbered_len] at hb
      refine r_one (rs_ret e_non ?_)
      rw [show badAt xs = none from find_miss hb] <;> rfl
  · have e0 : wrongD v m = .int (-1) := by
      cases v with
      | tuple xs =>
        show (if (xs.length : Int) = m then placeD (badAt xs) else .int (-1)) = _
        rw [if_neg (fun z => hv ⟨xs, rfl, z⟩)]
      | _ => rfl
    rw [e0]
    refine r_cons (rs_if (b := true) (t_or2 (t_not (t_val (e_isTup (e_var (i := 0) rfl) T.isi T.tuple))) (fun hb => ?_) fun _ => rfl) (fun _ => r_one (rs_ret (e_neg e_int) rfl)) nofun)
    cases v with
    | tuple xs => exact t_is (t_cmp od_neI (e_callB ca_lenT (a_cons (e_var (i := 0) rfl) a_nil) T.len (by decide +kernel)) (e_var (i := 1) rfl) (nomark _)) (by
        have hne : ¬ (xs.length : Int) = m := fun z => hv ⟨xs, rfl, z⟩
        simp [hne])
    | _ => cases hb
theorem ok_cd (F : Fun K "common_divisor" "common_divisor" st_common_divisor f fd) (T : Tx mg) : FnOk P w K mg base CX0 1 f fd ["numbers"] (spR K R_cd) := by
  refine fnR F sc_common_divisor (fun ds d h => by obtain ⟨x, h, _⟩ := h; rcases h with rfl | rfl <;> rfl) fun cdv A outer s H E G hr ds d h => ?_
  obtain ⟨xs, h, rfl⟩ := h
  have main : ∀ v : PyData, (∀ tg p (ρ : Rho), ρ[0]? = some (some (.dat v)) → Src (cxOf CX0 P w K mg base n_common_divisor "common_divisor" (defScope st_common_divisor) f cdv A outer s H E).nox 0 tg (.Name "numbers" p) ρ (xs.map .int)) →
      Run (cxOf CX0 P w K mg base n_common_divisor "common_divisor" (defScope st_common_divisor) f cdv A outer s H E).nox 0 (defBody st_common_divisor) [some (.dat v), none, none] (fun _ => PyData.int (gcdL xs) = .none) (fun d' => d' = .int (gcdL xs)) := fun v hs => by
    refine r_cons (rs_set (i := 1) G e_int ?_)
    refine r_cons (rs_for G (hs _ _ _ rfl) (pg_name (i := 2) sc_common_divisor.nd rfl (Or.inl rfl)) (tg_name (vs := [2]) (by decide)) (fun n ρ' => ∃ y, ρ' = [some (.dat v), some (.dat (.int (gcdL (xs.take n)))), y]) ⟨_, rfl⟩ (fun n d ρ1 hd hJ => ?_) fun ρ' hJ => ?_)
    · obtain ⟨x, hx, rfl⟩ := getI hd
      obtain ⟨_, rfl⟩ := hJ
      refine ⟨_, rfl, r_one (rs_set (i := 1) G (e_callM ca_gcd (a_cons (e_var (i := 1) rfl) (a_cons (e_var (i := 2) rfl) a_nil)) T.gcd) ⟨some (.dat (.int x)), ?_⟩)⟩
      rw [gcdL_take hx] <;> rfl
    · obtain ⟨_, rfl⟩ := hJ
      rw [List.length_map, List.take_length]
      exact r_one (rs_ret (e_var (i := 1) rfl) rfl)
  rcases h with rfl | rfl
  · exact main _ fun _ _ ρ hρ => src_T (e_var (i := 0) hρ)
  · exact main _ fun _ _ ρ hρ => src_L (e_var (i := 0) hρ)
theorem ok_short (F : Fun K "shortened" "shortened" st_shortened f fd) (T : Tx mg) (C1 : Cal P w K mg base 1 "common_divisor" ["numbers"] (spR K R_cd)) : FnOk P w K mg base CX0 2 f fd ["numbers"] (spR K R_short) := by
  refine fnR F sc_shortened (fun ds d h => by obtain ⟨x, h, _⟩ := h; rcases h with rfl | rfl <;> rfl) fun cdv A outer s H E G hr ds d h => ?_
  obtain ⟨xs, h, hb, hl, rfl⟩ := h
  have main : ∀ v : PyData, (v = tI xs ∨ v = lI xs) → (∀ tg p (ρ : Rho), ρ[0]? = some (some (.dat v)) → Src (cxOf CX0 P w K mg base n_shortened "shortened" (defScope st_shortened) f cdv A outer s H E).nox 0 tg (.Name "numbers" p) ρ (xs.map .int)) →
      CaD (cxOf CX0 P w K mg base n_shortened "shortened" (defScope st_shortened) f cdv A outer s H E).nox (.type "tuple") [v] (tI xs) →
      Run (cxOf CX0 P w K mg base n_shortened "shortened" (defScope st_shortened) f cdv A outer s H E).nox 0 (defBody st_shortened) [some (.dat v), none, none] (fun _ => tI (shortL xs) = .none) (fun d' => d' = tI (shortL xs)) := fun v hv hs hc => by
    refine r_cons (rs_set (i := 1) G (e_call C1 (hr.mono (by decide)) (a_cons (e_var (i := 0) rfl) a_nil) ⟨xs, by rcases hv with rfl | rfl <;> simp, rfl⟩) ?_)
    refine r_cons (rs_if (t_cmp od_lt (e_var (i := 1) rfl) e_int (nomark _)) (fun h2 => r_one (rs_ret (e_callT hc (a_cons (e_var (i := 0) rfl) a_nil) T.tuple (by decide +kernel)) ?_)) fun h2 => r_nil ?_)
    · have h2 := of_decide_eq_true h2
      unfold shortL
      rw [if_pos (by omega)]
    · have h2 := of_decide_eq_false h2
      have g0 : (gcdL xs : Int) ≠ 0 := by omega
      have gb : (gcdL xs : Int).natAbs.log2 < 9000 := Nat.lt_of_lt_of_le ((gcdL_bits hb).log (by decide)) (by decide)
      refine r_one (rs_ret (e_callT ca_tupL (a_cons (e_lc0 (own := [("number", 2)]) (f := fName 2) (val := onInt fun x => x.fdiv (gcdL xs : Int)) G (hs _ _ _ rfl) (by simp; omega) (blkOk_by (N := n_shortened) (sc := defScope st_shortened) (by decide +kernel))
        (fun _ _ _ _ _ => pg_name (i := 2) sc_shortened.nd rfl (Or.inl rfl)) (tg_name (by decide)) fun d hd => ?_) a_nil) T.tuple (by decide +kernel)) ?_)
      · obtain ⟨x, hx, rfl⟩ := mem_mapI hd
        exact ⟨_, rfl, fun s H C cl fp => e_bin (od_fdiv g0 gb) (e_var (i := 2) rfl) (e_var (i := 1) rfl)⟩
      · rw [mapI]
        unfold shortL
        rw [if_neg (by omega)]
  rcases h with rfl | rfl
  · exact main _ (.inl rfl) (fun _ _ ρ hρ => src_T (e_var (i := 0) hρ)) ca_tupT
  · exact main _ (.inr rfl) (fun _ _ ρ hρ => src_L (e_var (i := 0) hρ)) ca_tupL
theorem ok_sign (F : Fun K "sign_of" "sign_of" st_sign_of f fd) : FnOk P w K mg base CX0 1 f fd ["number"] (spR K R_sign) := by
  refine fnR F sc_sign_of (fun ds d h => by obtain ⟨x, rfl, _⟩ := h; rfl) fun cdv A outer s H E G hr ds d h => ?_
  obtain ⟨n, rfl, rfl⟩ := h
  refine r_cons (rs_if (t_cmp od_gt (e_var (i := 0) rfl) e_int (nomark _)) (fun h => r_one (rs_ret e_int ?_)) fun h => r_nil (r_cons (rs_if (t_cmp od_lt (e_var (i := 0) rfl) e_int (nomark _)) (fun h' => r_one (rs_ret (e_neg e_int) ?_)) fun h' => r_nil (r_one (rs_ret e_int ?_)))))
  · unfold sgn
    rw [if_pos (of_decide_eq_true h)]
  · unfold sgn
    rw [if_neg (of_decide_eq_false h), if_pos (of_decide_eq_true h')]
  · unfold sgn
    rw [if_neg (of_decide_eq_false h), if_neg (of_decide_eq_false h')]
theorem ok_first (F : Fun K "first_place" "first_place" st_first_place f fd) (T : Tx mg) : FnOk P w K mg base CX0 1 f fd ["numbers"] (spR K R_first) := by
  refine fnR F sc_first_place (fun ds d h => by obtain ⟨x, rfl, _⟩ := h; rfl) fun cdv A outer s H E G hr ds d h => ?_
  obtain ⟨xs, rfl, rfl⟩ := h
  refine r_cons (rs_for G (src_ET (a_cons (e_var (i := 0) rfl) a_nil) T.enum) (pg_tup rfl (pgs_cons (pg_name (i := 1) sc_first_place.nd rfl (Or.inl rfl)) (pgs_cons (pg_name (i := 2) sc_first_place.nd rfl (Or.inl rfl)) pgs_nil))) (tg_pair (vs := [1, 2]) (by decide) (by decide))
    (fun n ρ' => (∃ x y, ρ' = [some (.dat (tI xs)), x, y]) ∧ ∀ i y, i < n → xs[i]? = some y → (!(y == 0)) = false) ⟨⟨_, _, rfl⟩, fun i y hi => by omega⟩ (fun n d ρ1 hd hJ => ?_) fun ρ' hJ => ?_)
  · obtain ⟨x', hx', rfl⟩ := getN hd
    obtain ⟨x, hx, rfl⟩ := getI hx'
    obtain ⟨⟨_, _, rfl⟩, hb⟩ := hJ
    refine ⟨_, rfl, r_one (rs_if (t_cmp od_neI (e_var (i := 2) rfl) e_int (nomark _)) (fun hw => r_one (rs_ret (e_var (i := 1) rfl) ?_)) fun hw => r_nil ⟨⟨_, _, rfl⟩, fun i y hi hy => ?_⟩)⟩
    · rw [show lead xs = some n from find_hit hx hw hb] <;> rfl
    · by_cases hin : i = n
      · subst hin
        rw [hx] at hy
        cases hy
        exact hw
      · exact hb i y (by omega) hy
  · obtain ⟨⟨_, _, rfl⟩, hb⟩ := hJ
    rw [numbered_len, List.length_map] at hb
    refine r_one (rs_ret e_non ?_)
    rw [show lead xs = none from find_miss hb] <;> rfl
theorem ok_plane (F : Fun K "plane_of" "plane_of" st_plane_of f fd) (T : Tx mg) (C1 : Cal P w K mg base 1 "first_place" ["numbers"] (spR K R_first)) (C2 : Cal P w K mg base 2 "shortened" ["numbers"] (spR K R_short)) : FnOk P w K mg base CX0 3 f fd ["row"] (spR K R_plane) := by
  refine fnR F sc_plane_of (fun ds d h => by obtain ⟨x, rfl, _⟩ := h; rfl) fun cdv A outer s H E G hr ds d h => ?_
  obtain ⟨row, rfl, h1, hl, hb, rfl⟩ := h
  have h1' : 1 ≤ (row.map PyData.int).length := by simpa using h1
  refine r_cons (rs_set (i := 1) G (e_call C1 (hr.mono (by decide)) (a_cons (e_slT (e_var (i := 0) rfl) o_non (o_int (e_neg e_int)) (cut_part _ h1')) a_nil) ⟨row.dropLast, by rw [cutD_init _ h1', initI], rfl⟩) ?_)
  refine r_cons (rs_if (t_cmp od_isN (e_var (i := 1) rfl) e_non (nomark _)) (fun hn => r_one (rs_ret e_non ?_)) fun hn => r_nil ?_)
  · cases hp : lead row.dropLast with
    | none =>
      unfold planeD planeL
      rw [hp]
    | some p => rw [hp] at hn; cases hn
  · cases hp : lead row.dropLast with
    | none => rw [hp] at hn; cases hn
    | some p =>
      obtain ⟨x, hx, hx0⟩ := lead_get hp
      have hpl : p < row.length := by
        have := (List.getElem?_eq_some_iff.mp hx).1
        rw [List.length_dropLast] at this
        omega
      have hps : p < (shortL row).length := by rw [shortL_len]; exact hpl
      have e0 : planeD row = tI (if (shortL row).getD p 0 < 0 then (shortL row).map (fun x => -x) else shortL row) := by
        unfold planeD planeL
        rw [hp]
      rw [e0]
      refine r_cons (rs_set (i := 2) G (e_call C2 (hr.mono (by decide)) (a_cons (e_var (i := 0) rfl) a_nil) ⟨row, .inl rfl, hb, hl, rfl⟩) ?_)
      have hat : atI ((shortL row).map PyData.int) (p : Int) = some (.int ((shortL row).getD p 0)) := atI_nat (by
        rw [List.getElem?_map, List.getElem?_eq_getElem hps, List.getD_eq_getElem?_getD, List.getElem?_eq_getElem hps] <;> rfl)
      refine r_cons (rs_if (t_cmp od_lt (e_ixT (e_var (i := 2) rfl) (e_var (i := 1) rfl) hat) e_int (nomark _)) (fun hlt => r_one (rs_ret (e_callT ca_tupL (a_cons (e_lc0 (own := [("number", 3)]) (f := fName 3) (val := onInt fun x => -x) G (src_T (e_var (i := 2) rfl)) (by simp [shortL_len]; omega) (blkOk_by (N := n_plane_of) (sc := defScope st_plane_of) (by decide +kernel))
        (fun _ _ _ _ _ => pg_name (i := 3) sc_plane_of.nd rfl (Or.inl rfl)) (tg_name (by decide)) fun d hd => ?_) a_nil) T.tuple (by decide +kernel)) ?_)) fun hlt => r_nil (r_one (rs_ret (e_var (i := 2) rfl) ?_)))
      · obtain ⟨x, hx, rfl⟩ := mem_mapI hd
        exact ⟨_, rfl, fun s H C cl fp => e_neg (e_var (i := 3) rfl)⟩
      · rw [mapI, if_pos (of_decide_eq_true hlt)]
      · rw [if_neg (of_decide_eq_false hlt)]
theorem ok_weighed (F : Fun K "weighed" "weighed" st_weighed f fd) (T : Tx mg) : FnOk P w K mg base CX0 1 f fd ["row", "point"] (spR K R_weighed) := by
  refine fnR F sc_weighed (fun ds d h => by obtain ⟨xs, ys, rfl, _⟩ := h; rfl) fun cdv A outer s H E G hr ds d h => ?_
  obtain ⟨xs, ys, rfl, hx, hy, hl, rfl⟩ := h
  refine r_one (rs_ret (d := .int (dot xs ys)) (e_callB (ca_sum rfl (ns := List.zipWith (· * ·) xs ys)) (a_cons (e_is (e_lc0 (own := [("number", 2), ("part", 3)]) (f := fPair 2 3) (val := onPair (· * ·)) G
    (src_ZT (a_cons (e_var (i := 0) rfl) (a_cons (e_var (i := 1) rfl) a_nil)) T.zip) (by simp; omega) (blkOk_by (N := n_weighed) (sc := defScope st_weighed) (by decide +kernel))
    (fun _ _ _ _ _ => pg_tup rfl (pgs_cons (pg_name (i := 2) sc_weighed.nd rfl (Or.inl rfl)) (pgs_cons (pg_name (i := 3) sc_weighed.nd rfl (Or.inl rfl)) pgs_nil))) (tg_pair (by decide) (by decide)) (fun d hd => ?_)) (by rw [zipI_map])) a_nil) T.sum (by decide +kernel)) rfl)
  obtain ⟨x, h1, y, h2, rfl⟩ := mem_zipI hd
  exact ⟨_, rfl, fun s H C cl fp => e_bin (od_mul (mul_ok (hx x h1) (hy y h2) (by decide))) (e_var (i := 2) rfl) (e_var (i := 3) rfl)⟩
theorem ok_signat (F : Fun K "sign_at" "sign_at" st_sign_at f fd) (C1 : Cal P w K mg base 1 "sign_of" ["number"] (spR K R_sign)) (C2 : Cal P w K mg base 1 "weighed" ["row", "point"] (spR K R_weighed)) : FnOk P w K mg base CX0 2 f fd ["row", "point"] (spR K R_signat) := by
  refine fnR F sc_sign_at (fun ds d h => by obtain ⟨_, x, rfl, _⟩ := h; rfl) fun cdv A outer s H E G hr ds d h => ?_
  obtain ⟨row, pt, rfl, hb, hb2, hz, rfl⟩ := h
  exact r_one (rs_ret (e_call C1 (hr.mono (by decide)) (a_cons (e_call C2 (hr.mono (by decide)) (a_cons (e_var (i := 0) rfl) (a_cons (e_var (i := 1) rfl) a_nil)) ⟨row, pt, rfl, hb.mono (by decide), hb2.mono (by decide), hz, rfl⟩) a_nil) ⟨_, rfl, rfl⟩) rfl)
theorem ok_begun (F : Fun K "_law_begun" "_law_begun" st__law_begun f fd) (T : Tx mg) : FnG P w K mg base CX0 1 f fd ["script", "k"] (spB K) := by
  refine fnG F sc__law_begun (fun vs H Q E h => by
    obtain ⟨T, xs, k, _, h1, _⟩ := h
    exact dps_len h1) fun cdv _ A outer s H vs Q E hgd hr h => ?_
  obtain ⟨T', xs, k, dm, hd, hk, hl, hb, hq⟩ := h
  have G : Good (cxOf CX0 P w K mg base n__law_begun "_law_begun" (defScope st__law_begun) f cdv A outer s H E).nox := ⟨sc__law_begun.nd, rfl, PassesOwn.never, hr.units⟩
  obtain ⟨cells, hc, hcl, hcm⟩ := cut_cells xs k
  obtain ⟨great, hg⟩ := kept_big cells
  have hcb : BitsL 1100000 cells := fun y hy => hb y (hcm y hy)
  have S0 := SD.start (N := n__law_begun) (a := 0) dm hd
  refine js_cons (N := fun ρ' => ρ' = [some (.dat (lI xs)), some (.dat (.int (k : Int))), some (.dat (lI cells)), none, none, none]) (rs_set (i := 2) (d := lI cells) G (e_is (e_bin (od_catL ?_) (e_slL (e_var (i := 0) rfl) (o_int (e_var (i := 1) rfl)) o_non) (e_slL (e_var (i := 0) rfl) o_non (o_int (e_var (i := 1) rfl)))) (by rw [hc])) rfl) S0 fun σ1 H1 ρ1 s1 S1 e1 => ?_
  · have := congrArg List.length hc
    rw [List.length_append, List.length_map] at this
    omega
  subst e1
  refine js_cons (N := fun ρ' => ρ' = [some (.dat (lI xs)), some (.dat (.int (k : Int))), some (.dat (lI cells)), none, some (.dat (lI great)), none]) (rs_lc (i := 4) (own := [("cell", 3)]) (f := fName 3) (keep := keepBig) (val := valSame) G (src_L (e_var (i := 2) rfl)) (by simp; omega) (blkOk_by (N := n__law_begun) (sc := defScope st__law_begun) (by decide +kernel))
    (fun _ _ _ _ _ => pg_name (i := 3) sc__law_begun.nd rfl (Or.inl rfl)) (tg_name (by decide)) (fun d hd => ?_) (by rw [hg] <;> rfl)) S1 fun σ2 H2 ρ2 s2 S2 e2 => ?_
  · obtain ⟨x, hx, rfl⟩ := mem_mapI hd
    exact ⟨_, rfl, fun s H C cl fp => t_cmp od_ge (e_var (i := 3) rfl) (e_bin (od_pow ⟨by decide, by decide, by decide⟩) e_int e_int) (nomark _), fun _ s H C cl fp => e_var (i := 3) rfl⟩
  subst e2
  refine js_cons (N := fun ρ' => ρ' = [some (.dat (lI xs)), some (.dat (.int (k : Int))), some (.dat (lI cells)), none, some (.dat (lI great)), some (.dat (.int (86 + (k : Int))))]) (rs_set (i := 5) G (e_bin od_add e_int (e_var (i := 1) rfl)) rfl) S2 fun σ3 H3 ρ3 s3 S3 e3 => ?_
  subst e3
  refine js_cons (N := fun ρ' => ∃ (y : Option DV) (sd : Int), 0 ≤ sd ∧ sd < 2147483647 ∧ ρ' = [some (.dat (lI xs)), some (.dat (.int (k : Int))), some (.dat (lI cells)), y, some (.dat (lI great)), some (.dat (.int sd))]) (rs_for G (src_L (e_var (i := 2) rfl)) (pg_name (i := 3) sc__law_begun.nd rfl (Or.inl rfl)) (tg_name (vs := [3]) (by decide))
    (fun _ ρ' => ∃ (y : Option DV) (sd : Int), 0 ≤ sd ∧ sd < 2147483647 ∧ ρ' = [some (.dat (lI xs)), some (.dat (.int (k : Int))), some (.dat (lI cells)), y, some (.dat (lI great)), some (.dat (.int sd))]) ⟨_, _, by omega, by omega, rfl⟩ (fun i d ρ1 hd hJ => ?_) fun ρ' hJ => hJ) S3 fun σ4 H4 ρ4 s4 S4 e4 => ?_
  · obtain ⟨c, hc, rfl⟩ := getI hd
    obtain ⟨y, sd, d0, d1, rfl⟩ := hJ
    have b7 : Bits 17 48271 := show (48271 : Nat) < 2 ^ 17 by decide
    have bs : Bits 31 sd := bits_lt d0 (by omega)
    exact ⟨_, rfl, r_one (rs_set (i := 5) G (e_bin (od_mod (by decide)) (e_callT ca_int (a_cons (e_bin od_add (e_bin (od_mul (mul_ok bs b7 (by decide))) (e_var (i := 5) rfl) e_int) (e_var (i := 3) rfl)) a_nil) T.int (by decide +kernel)) e_int) ⟨_, _, Int.emod_nonneg _ (by decide), Int.emod_lt_of_pos _ (by decide), rfl⟩)⟩
  obtain ⟨y, sd, d0, d1, rfl⟩ := e4
  have hleft : ∃ left : Int, ∀ p1 p2 p3 p4 p5 p6 p7 p8, EvE (cxOf CX0 P w K mg base n__law_begun "_law_begun" (defScope st__law_begun) f cdv A outer s H E).nox 0
      (.IfExp (.Compare (.Name "great" p1) [.NotEq] [.List [] p2] p3) (.Subscript (.Name "great" p4) (.Constant (.int 0) 0 p5) p6) (.Constant (.int 0) 0 p8) p7)
      [some (.dat (lI xs)), some (.dat (.int (k : Int))), some (.dat (lI cells)), y, some (.dat (lI great)), some (.dat (.int sd))] (.int left) := by
    cases great with
    | nil => exact ⟨0, fun _ _ _ _ _ _ _ _ => e_ifF (t_is (t_cmp (od_neD G.un (shaped_lI []) (shaped_lI [])) (e_var (i := 4) rfl) (e_lst a_nil) (nomark _)) rfl) e_int⟩
    | cons g gs => exact ⟨g, fun _ _ _ _ _ _ _ _ => e_ifT (t_is (t_cmp (od_neD G.un (shaped_lI (g :: gs)) (shaped_lI [])) (e_var (i := 4) rfl) (e_lst a_nil) (nomark _)) (by rw [eqv_lI] <;> rfl)) (e_ixL (e_var (i := 4) rfl) e_int (ati_of (j := 0) rfl rfl))⟩
  obtain ⟨left, hleft⟩ := hleft
  have b53 : Bits 10 53 := show (53 : Nat) < 2 ^ 10 by decide
  have bk : Bits 10 (k : Int) := bits_lt (by omega) (by omega)
  refine toSs (pss_one js) (toS (ps_ret (pe_disp (pps_cons je je (pps_cons je je (pps_cons je je (pps_cons je je pps_nil)))) rfl rfl (by exact fun z => by cases z) (by decide))) ?_)
  intro p hp
  have S5 := S4.same (same_new (o := .dK []) hp)
  refine e_str T' σ4 _ S5 _ fun v1 H5 s5 p5 => ?_
  refine hleft _ _ _ _ _ _ _ _ T' σ4 _ (S5.same s5) _ fun v2 H6 s6 p6 => ?_
  have t6 := s5.trans s6
  refine e_str T' σ4 _ (S5.same t6) _ fun v3 H7 s7 p7 => ?_
  have t7 := t6.trans s7
  refine ev (e_var (i := 5) rfl) (S5.same t7) fun v4 H8 s8 p8 => ?_
  have t8 := t7.trans s8
  refine e_str T' σ4 _ (S5.same t8) _ fun v5 H9 s9 p9 => ?_
  have t9 := t8.trans s9
  refine e_is (d' := lI (cells ++ [53 * (k : Int) + 11])) (e_bin (od_catL (by simp; omega)) (e_var (i := 2) rfl) (e_lst (a_cons (e_bin od_add (e_bin (od_mul (mul_ok b53 bk (by decide))) e_int (e_var (i := 1) rfl)) e_int) a_nil))) (by
    show PyData.list _ = PyData.list (List.map _ _)
    rw [List.map_append]
    rfl) T' σ4 _ (S5.same t9) _ fun v6 H10 s10 p10 => ?_
  have t10 := t9.trans s10
  refine e_str T' σ4 _ (S5.same t10) _ fun v7 H11 s11 p11 => ?_
  have t11 := t10.trans s11
  refine e_int T' σ4 _ (S5.same t11) _ fun v8 H12 s12 p12 => ?_
  have t12 := t11.trans s12
  obtain rfl := dp_str p5
  obtain rfl := dp_int p6
  obtain rfl := dp_str p7
  obtain rfl := dp_int p8
  obtain rfl := dp_str p9
  obtain rfl := dp_str p11
  obtain rfl := dp_int p12
  obtain ⟨pc, xs', rfl, g1, g2⟩ := dp_lst p10
  obtain rfl := dps_ints_inv g2
  have at12 : H12 p = some (.dK []) := t12.ob _ _ upd_same (by intro ps z; cases z)
  have hTp : ¬ T' p := fun z => (S4.dm.dn p z) hp
  have kp : Kp p H12 (upd H12 p (.dK (sts left sd pc 0))) := .put at12
  have s04 : Sm H H4 := ((s1.trans s2).trans s3).trans s4
  have hp0 : H p = none := by
    cases hh : H p with
    | none => rfl
    | some o => exact (s04.dm p (by rw [hh]; exact fun z => by cases z) hp).elim
  refine ⟨at12, sts left sd pc 0, rfl, by show 4 ≤ 15; decide, ?_⟩
  refine hq p _ hp0 (sm_putD ((s04.trans (same_new (o := .dK []) hp)).trans t12) hp0 at12) ⟨left, sd, pc, 0, cells ++ [53 * (k : Int) + 11], ?_, ?_, by simp, by simp; omega, fun c hc => ?_, d0, d1, Int.le_refl _, by decide⟩
  · rw [off_no hTp, upd_same]
    rfl
  · exact kp_l (kp_off kp hTp) ⟨_, by rw [off_no hTp]; exact at12⟩ _ _ (same_l (off_same (s11.trans s12)) _ _ g1)
  · rcases List.mem_append.mp hc with hc | hc
    · exact (hcb c hc).mono (by decide)
    · rw [List.mem_singleton] at hc
      subst hc
      exact (bits_lt (n := 60) (by omega) (by omega)).mono (by decide)
theorem ok_draw (F : Fun K "_law_draw" "_law_draw" st__law_draw f fd) (T : Tx mg) : FnG P w K mg base CX0 1 f fd ["m", "bound"] (spM K 1 R_draw) := by
  refine fnM F sc__law_draw (fun ds Pd h => by obtain ⟨b, rfl, _⟩ := h; rfl) fun cdv A outer s H E G hr hgd a n ds Pd h => ?_
  obtain ⟨b, rfl, hb, hbb, hP⟩ := h
  have hb9 : b.natAbs.log2 < 9000 := Nat.lt_of_lt_of_le (hbb.log (by decide)) (by decide)
  refine q_cons (qs_if (PB := fun _ => True) (m := n + 1) (mt_cmp (P1 := PInt) (P2 := fun _ d => d = .int 0) (m := n + 1) (m_left (i := 0) G.un rfl) (fun _ _ => m_pure e_int rfl (Nat.le_refl _)) (fun d1 d2 h1 h2 => by
    obtain ⟨i, rfl⟩ := h1
    subst h2
    exact ⟨_, od_gt, trivial⟩) (nomark _)) (fun _ => ?_) fun _ => q_nil ?_)
  · refine q_cons (qs_set (i := 2) (m := n + 1) G (P := fun d => ∃ r : Int, d = .int r ∧ 0 ≤ r ∧ r < b) (m_bin (P1 := PInt) (P2 := fun _ d => d = .int b) (m := n + 1)
      (m_callT (PA := fun ds => ∃ d ds', ds = d :: ds' ∧ PInt d ∧ ds' = []) (fun ds h => by
        obtain ⟨d, _, rfl, ⟨i, rfl⟩, rfl⟩ := h
        exact ⟨_, ca_int, i, rfl⟩) (ma_cons (m_left (i := 0) G.un rfl) fun _ _ => ma_nil (Nat.le_refl _)) T.int (by decide +kernel))
      (fun _ _ => m_pure (e_var (i := 1) rfl) rfl (Nat.le_refl _)) (fun d1 d2 h1 h2 => by
        obtain ⟨i, rfl⟩ := h1
        subst h2
        exact ⟨_, od_mod hb, _, rfl, Int.emod_nonneg _ (by omega), Int.emod_lt_of_pos _ hb⟩)) fun d hd => ?_)
    obtain ⟨r, rfl, r0, r1⟩ := hd
    refine q_cons (qs_putLeft (i := 0) (m := n + 1) G.un rfl (m_bin (P1 := PInt) (P2 := fun _ d => d = .int b) (m := n + 1) (m_left (i := 0) G.un rfl) (fun _ _ => m_pure (e_var (i := 1) rfl) rfl (Nat.le_refl _)) (fun d1 d2 h1 h2 => by
        obtain ⟨i, rfl⟩ := h1
        subst h2
        exact ⟨_, od_fdiv (by omega) hb9, _, rfl⟩)) ?_)
    exact q_one (qs_ret (m := n + 1) (P := fun d => d = .int r) (m_pure (e_var (i := 2) rfl) rfl (Nat.le_refl _)) fun d hd => by
      subst hd
      exact ⟨by omega, hP r r0 r1⟩)
  · refine q_cons (qs_set (i := 3) (m := n + 1) G (m_spot (i := 0) G.un rfl) fun d hd => ?_)
    obtain ⟨sp, rfl, s0, s1⟩ := hd
    have sb : Bits 41 sp := bits_lt s0 (by omega)
    refine q_cons (qs_putSpot (i := 0) (m := n + 1) (k := n) G.un rfl (m_pure (e_bin od_add (e_var (i := 3) rfl) e_int) ⟨_, rfl, by omega, by omega⟩ (Nat.le_refl _)) ?_)
    have b4 : Bits 16 40503 := show (40503 : Nat) < 2 ^ 16 by decide
    refine q_cons (qs_par (i := 4) (j := 5) (m := n) (PA := fun ds => ∃ d ds', ds = d :: ds' ∧ PCells d ∧ ∃ d2 ds2, ds' = d2 :: ds2 ∧ PInt d2 ∧ ds2 = []) G (ma_cons (m_cells (i := 0) G.un rfl) fun _ _ => ma_cons (m_bin (P1 := PInt) (P2 := fun _ => PInt) (m := n) (m_seed (i := 0) G.un rfl)
      (fun _ _ => m_pure (e_bin (od_mul (mul_ok (Bits.mul b4 sb) sb (by decide))) (e_bin (od_mul (mul_ok b4 sb (by decide))) e_int (e_var (i := 3) rfl)) (e_var (i := 3) rfl)) ⟨_, rfl⟩ (Nat.le_refl _)) (fun d1 d2 h1 h2 => by
        obtain ⟨i, rfl⟩ := h1
        obtain ⟨j, rfl⟩ := h2
        exact ⟨_, od_add, _, rfl⟩)) fun _ _ => ma_nil (Nat.le_refl _)) fun ds hds => ?_)
    obtain ⟨_, _, rfl, ⟨cells, rfl, c1, c2, c3⟩, _, _, rfl, ⟨extra, rfl⟩, rfl⟩ := hds
    refine ⟨_, _, rfl, ?_⟩
    have c1' : 1 ≤ (cells.map PyData.int).length := by simpa using c1
    obtain ⟨cd, hc, hat⟩ := at_mod (xs := cells.map PyData.int) s0 c1'
    obtain ⟨cell, hcell, rfl⟩ := List.mem_map.mp hc
    refine q_cons (qs_set (i := 6) (m := n) (P := fun d => d = .int cell) G (m_pure (e_ixL (e_var (i := 4) rfl) (e_bin (od_mod (by omega)) (e_callT ca_int (a_cons (e_var (i := 3) rfl) a_nil) T.int (by decide +kernel)) (e_callB ca_lenL (a_cons (e_var (i := 4) rfl) a_nil) T.len (by decide +kernel))) hat) rfl (Nat.le_refl _)) fun d hd => ?_)
    subst hd
    have cb : Bits 2000000 cell := c3 cell hcell
    have b2 : Bits 2 2 := show (2 : Nat) < 2 ^ 2 by decide
    have q3 : Bits 44 (2 * sp + 3) := bits_lt (by omega) (by omega)
    refine q_cons (qs_set (i := 7) (m := n) (P := fun d => ∃ r : Int, d = .int r ∧ 0 ≤ r ∧ r < 2147483647) G (m_pure (e_bin (od_mod (by decide)) (e_callT ca_int (a_cons (e_bin od_add (e_bin (od_mul (mul_ok cb q3 (by decide))) (e_var (i := 6) rfl) (e_bin od_add (e_bin (od_mul (mul_ok b2 sb (by decide))) e_int (e_var (i := 3) rfl)) e_int)) (e_var (i := 5) rfl)) a_nil) T.int (by decide +kernel)) e_int) ⟨_, rfl, Int.emod_nonneg _ (by decide), Int.emod_lt_of_pos _ (by decide)⟩ (Nat.le_refl _)) fun d hd => ?_)
    obtain ⟨bl, rfl, u0, u1⟩ := hd
    have ub : Bits 31 bl := bits_lt u0 (by omega)
    have b6 : Bits 17 69621 := show (69621 : Nat) < 2 ^ 17 by decide
    refine q_cons (qs_set (i := 7) (m := n) (P := fun d => ∃ r : Int, d = .int r ∧ 0 ≤ r ∧ r < 2147483629) G (m_bin (P1 := PInt) (P2 := fun _ d => d = .int 2147483629) (m := n)
      (m_callT (PA := fun ds => ∃ d ds', ds = d :: ds' ∧ PInt d ∧ ds' = []) (fun ds h => by
        obtain ⟨d, _, rfl, ⟨i, rfl⟩, rfl⟩ := h
        exact ⟨_, ca_int, i, rfl⟩) (ma_cons (m_bin (P1 := PInt) (P2 := fun _ => PInt) (m := n)
          (m_pure (e_bin od_add (e_bin (od_mul (mul_ok ub ub (by decide))) (e_var (i := 7) rfl) (e_var (i := 7) rfl)) (e_bin (od_mul (mul_ok b6 sb (by decide))) e_int (e_var (i := 3) rfl))) ⟨_, rfl⟩ (Nat.le_refl _))
          (fun _ _ => m_seed (i := 0) G.un rfl) (fun d1 d2 h1 h2 => by
            obtain ⟨i, rfl⟩ := h1
            obtain ⟨j, rfl⟩ := h2
            exact ⟨_, od_add, _, rfl⟩)) fun _ _ => ma_nil (Nat.le_refl _)) T.int (by decide +kernel))
      (fun _ _ => m_pure e_int rfl (Nat.le_refl _)) (fun d1 d2 h1 h2 => by
        obtain ⟨i, rfl⟩ := h1
        subst h2
        exact ⟨_, od_mod (by decide), _, rfl, Int.emod_nonneg _ (by decide), Int.emod_lt_of_pos _ (by decide)⟩)) fun d hd => ?_)
    obtain ⟨b3, rfl, v0, v1⟩ := hd
    have vb : Bits 31 b3 := bits_lt v0 (by omega)
    have b7 : Bits 17 48271 := show (48271 : Nat) < 2 ^ 17 by decide
    exact q_one (qs_ret (m := n) (P := Pd) (m_pure (e_bin (od_mod hb) (e_bin (od_fdiv (by decide) (by decide)) (e_bin (od_mod (by decide)) (e_callT ca_int (a_cons (e_bin od_add (e_bin (od_mul (mul_ok vb b7 (by decide))) (e_var (i := 7) rfl) e_int) (e_var (i := 3) rfl)) a_nil) T.int (by decide +kernel)) e_int) e_int) (e_var (i := 1) rfl)) (hP _ (Int.emod_nonneg _ (by omega)) (Int.emod_lt_of_pos _ hb)) (Nat.le_refl _)) fun d hd => ⟨Nat.le_refl _, hd⟩)
theorem ok_like (F : Fun K "_law_like" "_law_like" st__law_like f fd) (T : Tx mg) : FnG P w K mg base CX0 1 f fd ["told", "due"] (spR K R_like) := by
  refine fnRG F sc__law_like (fun ds d h => by obtain ⟨x, rfl, _⟩ := h; rfl) fun cdv A outer s H E G hr hgd ds d h => ?_
  obtain ⟨x, rfl, ht, rfl⟩ := h
  exact r_one (rs_ret (e_cmp od_eqS (e_callB (ca_repr hgd G.un ht) (a_cons (e_var (i := 0) rfl) a_nil) T.repr (by decide +kernel)) (e_callB (ca_repr hgd G.un ht) (a_cons (e_var (i := 1) rfl) a_nil) T.repr (by decide +kernel)) (nomark _)) (by rw [beq_self_eq_true]))
theorem ok_common (F : Fun K "_law_common" "_law_common" st__law_common f fd) (T : Tx mg) : FnOk P w K mg base CX0 1 f fd ["numbers"] (spR K R_cd) := by
  refine fnR F sc__law_common (fun ds d h => by obtain ⟨x, h, _⟩ := h; rcases h with rfl | rfl <;> rfl) fun cdv A outer s H E G hr ds d h => ?_
  obtain ⟨xs, h, rfl⟩ := h
  have main : ∀ v : PyData, (∀ tg p (ρ : Rho), ρ[0]? = some (some (.dat v)) → Src (cxOf CX0 P w K mg base n__law_common "_law_common" (defScope st__law_common) f cdv A outer s H E).nox 0 tg (.Name "numbers" p) ρ (xs.map .int)) →
      Run (cxOf CX0 P w K mg base n__law_common "_law_common" (defScope st__law_common) f cdv A outer s H E).nox 0 (defBody st__law_common) [some (.dat v), none, none, none] (fun _ => PyData.int (gcdL xs) = .none) (fun d' => d' = .int (gcdL xs)) := fun v hs => by
    refine r_cons (rs_set (i := 1) G e_int ?_)
    refine r_cons (rs_for G (hs _ _ _ rfl) (pg_name (i := 2) sc__law_common.nd rfl (Or.inl rfl)) (tg_name (vs := [2]) (by decide)) (fun n ρ' => ∃ y z, ρ' = [some (.dat v), some (.dat (.int (gcdL (xs.take n)))), y, z]) ⟨_, _, rfl⟩ (fun n d ρ1 hd hJ => ?_) fun ρ' hJ => ?_)
    · obtain ⟨x, hx, rfl⟩ := getI hd
      obtain ⟨_, _, rfl⟩ := hJ
      refine ⟨_, rfl, r_cons (rs_set (i := 3) G (e_callB ca_abs (a_cons (e_var (i := 2) rfl) a_nil) T.abs (by decide +kernel)) ?_)⟩
      refine r_one (rs_while G (fun m ρ' => ∃ a b : Nat, b = m ∧ Nat.gcd a b = gcdL (xs.take (n + 1)) ∧ ρ' = [some (.dat v), some (.dat (.int (a : Int))), some (.dat (.int x)), some (.dat (.int (b : Int)))]) x.natAbs ⟨gcdL (xs.take n), x.natAbs, rfl, (gcdL_take hx).symm, ?_⟩ fun m ρ' hW => ?_)
      · have : (if x < 0 then -x else x) = (x.natAbs : Int) := by
          split <;> omega
        rw [this] <;> rfl
      · obtain ⟨a, b, rfl, hg, rfl⟩ := hW
        refine ⟨_, t_cmp od_neI (e_var (i := 3) rfl) e_int (nomark _), fun hne => ?_, fun he => ?_⟩
        · have hb0 : 0 < b := by
            rcases Nat.eq_zero_or_pos b with h | h
            · subst h; cases hne
            · exact h
          refine r_one (rs_par (i := 1) (j := 3) G (a_cons (e_var (i := 3) rfl) (a_cons (e_bin (od_mod (by omega)) (e_callT ca_int (a_cons (e_var (i := 1) rfl) a_nil) T.int (by decide +kernel)) (e_var (i := 3) rfl)) a_nil)) ⟨a % b, Nat.mod_lt _ hb0, b, a % b, rfl, ?_, ?_⟩)
          · rw [Nat.gcd_comm b, ← Nat.gcd_rec, Nat.gcd_comm, hg]
          · rw [show ((a : Int) % (b : Int)) = ((a % b : Nat) : Int) by omega] <;> rfl
        · have hb0 : b = 0 := by
            have he' : (!((b : Int) == 0)) = false := he
            rw [Bool.not_eq_false', beq_iff_eq] at he'
            omega
          subst hb0
          rw [Nat.gcd_zero_right] at hg
          exact ⟨_, _, by rw [hg]⟩
    · obtain ⟨_, _, rfl⟩ := hJ
      rw [List.length_map, List.take_length]
      exact r_one (rs_ret (e_var (i := 1) rfl) rfl)
  rcases h with rfl | rfl
  · exact main _ fun _ _ ρ hρ => src_T (e_var (i := 0) hρ)
  · exact main _ fun _ _ ρ hρ => src_L (e_var (i := 0) hρ)
theorem ok_lowered (F : Fun K "_law_lowered" "_law_lowered" st__law_lowered f fd) (T : Tx mg) (C1 : Cal P w K mg base 1 "_law_common" ["numbers"] (spR K R_cd)) : FnOk P w K mg base CX0 2 f fd ["numbers"] (spR K R_short) := by
  refine fnR F sc__law_lowered (fun ds d h => by obtain ⟨x, h, _⟩ := h; rcases h with rfl | rfl <;> rfl) fun cdv A outer s H E G hr ds d h => ?_
  obtain ⟨xs, h, hb, hl, rfl⟩ := h
  have main : ∀ v : PyData, (v = tI xs ∨ v = lI xs) → (∀ tg p (ρ : Rho), ρ[0]? = some (some (.dat v)) → Src (cxOf CX0 P w K mg base n__law_lowered "_law_lowered" (defScope st__law_lowered) f cdv A outer s H E).nox 0 tg (.Name "numbers" p) ρ (xs.map .int)) →
      CaD (cxOf CX0 P w K mg base n__law_lowered "_law_lowered" (defScope st__law_lowered) f cdv A outer s H E).nox (.type "tuple") [v] (tI xs) →
      Run (cxOf CX0 P w K mg base n__law_lowered "_law_lowered" (defScope st__law_lowered) f cdv A outer s H E).nox 0 (defBody st__law_lowered) [some (.dat v), none, none] (fun _ => tI (shortL xs) = .none) (fun d' => d' = tI (shortL xs)) := fun v hv hs hc => by
    refine r_cons (rs_set (i := 1) G (e_call C1 (hr.mono (by decide)) (a_cons (e_var (i := 0) rfl) a_nil) ⟨xs, by rcases hv with rfl | rfl <;> simp, rfl⟩) ?_)
    refine r_one (rs_ret (e_if (d := tI (shortL xs)) (t_cmp od_gt (e_var (i := 1) rfl) e_int (nomark _)) (fun h2 => ?_) (fun h2 => ?_)) rfl)
    · have h2 := of_decide_eq_true h2
      have g0 : (gcdL xs : Int) ≠ 0 := by omega
      have gb : (gcdL xs : Int).natAbs.log2 < 9000 := Nat.lt_of_lt_of_le ((gcdL_bits hb).log (by decide)) (by decide)
      refine e_is (e_callT ca_tupL (a_cons (e_lc0 (own := [("number", 2)]) (f := fName 2) (val := onInt fun x => x.fdiv (gcdL xs : Int)) G (hs _ _ _ rfl) (by simp; omega) (blkOk_by (N := n__law_lowered) (sc := defScope st__law_lowered) (by decide +kernel))
        (fun _ _ _ _ _ => pg_name (i := 2) sc__law_lowered.nd rfl (Or.inl rfl)) (tg_name (by decide)) fun d hd => ?_) a_nil) T.tuple (by decide +kernel)) ?_
      · obtain ⟨x, hx, rfl⟩ := mem_mapI hd
        exact ⟨_, rfl, fun s H C cl fp => e_bin (od_fdiv g0 gb) (e_var (i := 2) rfl) (e_var (i := 1) rfl)⟩
      · rw [mapI]
        unfold shortL
        rw [if_neg (by omega)]
    · have h2 := of_decide_eq_false h2
      refine e_is (e_callT hc (a_cons (e_var (i := 0) rfl) a_nil) T.tuple (by decide +kernel)) ?_
      unfold shortL
      rw [if_pos (by omega)]
  rcases h with rfl | rfl
  · exact main _ (.inl rfl) (fun _ _ ρ hρ => src_T (e_var (i := 0) hρ)) ca_tupT
  · exact main _ (.inr rfl) (fun _ _ ρ hρ => src_L (e_var (i := 0) hρ)) ca_tupL
end
end K4
/-! Rows of whole numbers: sums of them, reduced rows, and that there is but one such lot of reduced rows. -/
namespace Zj
open PySem PySem.Spec
variable [Nm]
/-- a row's number at a place -/
def cf (r : List Int) (j : Nat) : Int := r.getD j 0
theorem cf_get {r : List Int} {j : Nat} {x : Int} (h : r[j]? = some x) : cf r j = x := by
  unfold cf
  rw [List.getD_eq_getElem?_getD, h] <;> rfl
theorem cf_out {r : List Int} {j : Nat} (h : r.length ≤ j) : cf r j = 0 := by
  unfold cf
  rw [List.getD_eq_getElem?_getD, List.getElem?_eq_none h] <;> rfl
theorem cf_map {g : Int → Int} (h0 : g 0 = 0) (r : List Int) (j : Nat) : cf (r.map g) j = g (cf r j) := by
  unfold cf
  rw [List.getD_eq_getElem?_getD, List.getElem?_map, List.getD_eq_getElem?_getD]
  cases r[j]? with
  | none => exact h0.symm
  | some x => rfl
theorem cf_ext {r s : List Int} (hl : r.length = s.length) (h : ∀ j, cf r j = cf s j) : r = s := by
  apply List.ext_getElem hl
  intro j h1 h2
  have := h j
  rw [cf_get (List.getElem?_eq_getElem h1), cf_get (List.getElem?_eq_getElem h2)] at this
  exact this
/-- sums of rows, each so many times -/
inductive IC (S : List (List Int)) : (Nat → Int) → Prop where
  | zero : IC S fun _ => 0
  | add {v : Nat → Int} {s : List Int} (c : Int) (h : s ∈ S) (t : IC S v) : IC S fun j => c * cf s j + v j
theorem IC.is {S : List (List Int)} {v u : Nat → Int} (h : IC S v) (e : ∀ j, v j = u j) : IC S u := by
  have : v = u := funext e
  rw [← this]
  exact h
theorem IC.one {S : List (List Int)} {s : List Int} (h : s ∈ S) : IC S (cf s) := (IC.add 1 h .zero).is fun j => by grind
theorem IC.plus {S : List (List Int)} {v u : Nat → Int} (h : IC S v) (g : IC S u) : IC S fun j => v j + u j := by
  induction h with
  | zero => exact g.is fun j => by grind
  | add c hs _ ih => exact (IC.add c hs ih).is fun j => by grind
theorem IC.times {S : List (List Int)} {v : Nat → Int} (k : Int) (h : IC S v) : IC S fun j => k * v j := by
  induction h with
  | zero => exact IC.zero.is fun j => by grind
  | add c hs _ ih => exact (IC.add (k * c) hs ih).is fun j => by grind
theorem IC.mono {S T : List (List Int)} {v : Nat → Int} (h : IC S v) (l : ∀ s ∈ S, s ∈ T) : IC T v := by
  induction h with
  | zero => exact .zero
  | add c hs _ ih => exact .add c (l _ hs) ih
/-- what some number of times is a sum of rows -/
def SpR (S : List (List Int)) (v : Nat → Int) : Prop := ∃ n : Int, n ≠ 0 ∧ IC S fun j => n * v j
theorem SpR.is {S : List (List Int)} {v u : Nat → Int} (h : SpR S v) (e : ∀ j, v j = u j) : SpR S u := by
  have : v = u := funext e
  rw [← this]
  exact h
theorem SpR.of {S : List (List Int)} {v : Nat → Int} (h : IC S v) : SpR S v := ⟨1, by decide, h.is fun j => by grind⟩
theorem SpR.one {S : List (List Int)} {s : List Int} (h : s ∈ S) : SpR S (cf s) := .of (.one h)
theorem SpR.zero {S : List (List Int)} : SpR S fun _ => 0 := .of .zero
theorem SpR.plus {S : List (List Int)} {v u : Nat → Int} (h : SpR S v) (g : SpR S u) : SpR S fun j => v j + u j := by
  obtain ⟨n, hn, h⟩ := h
  obtain ⟨m, hm, g⟩ := g
  exact ⟨n * m, Int.mul_ne_zero hn hm, ((h.times m).plus (g.times n)).is fun j => by grind⟩
theorem SpR.times {S : List (List Int)} {v : Nat → Int} (k : Int) (h : SpR S v) : SpR S fun j => k * v j := by
  obtain ⟨n, hn, h⟩ := h
  exact ⟨n, hn, (h.times k).is fun j => by grind⟩
theorem SpR.part {S : List (List Int)} {v : Nat → Int} {k : Int} (hk : k ≠ 0) (h : SpR S fun j => k * v j) : SpR S v := by
  obtain ⟨n, hn, h⟩ := h
  exact ⟨n * k, Int.mul_ne_zero hn hk, h.is fun j => by grind⟩
theorem SpR.trans {S T : List (List Int)} {v : Nat → Int} (h : SpR S v) (l : ∀ s ∈ S, SpR T (cf s)) : SpR T v := by
  obtain ⟨n, hn, h⟩ := h
  refine SpR.part hn ?_
  generalize (fun j => n * v j) = u at h
  induction h with
  | zero => exact .zero
  | add c hs _ ih => exact ((l _ hs).times c).plus ih
theorem SpR.mono {S T : List (List Int)} {v : Nat → Int} (h : SpR S v) (l : ∀ s ∈ S, s ∈ T) : SpR T v := h.trans fun s hs => .one (l s hs)
/-- two lots of rows with the same sums -/
def Eqv (S T : List (List Int)) : Prop := (∀ s ∈ S, SpR T (cf s)) ∧ ∀ t ∈ T, SpR S (cf t)
theorem Eqv.refl (S : List (List Int)) : Eqv S S := ⟨fun _ h => .one h, fun _ h => .one h⟩
theorem Eqv.symm {S T : List (List Int)} (h : Eqv S T) : Eqv T S := ⟨h.2, h.1⟩
theorem Eqv.trans {S T U : List (List Int)} (h : Eqv S T) (g : Eqv T U) : Eqv S U := ⟨fun s hs => (h.1 s hs).trans g.1, fun u hu => (g.2 u hu).trans h.2⟩
/-! ### reduced rows, each with its leading place -/
def rowsOf (Q : List (Nat × List Int)) : List (List Int) := Q.map (·.2)
/-- one reduced row -/
structure Rr (w : Nat) (p : Nat) (r : List Int) : Prop where
  len : r.length = w
  pos : 0 < cf r p
  low : ∀ j, j < p → cf r j = 0
  one : gcdL r = 1
structure Red (w : Nat) (Q : List (Nat × List Int)) : Prop where
  row : ∀ q ∈ Q, Rr w q.1 q.2
  asc : Q.Pairwise fun a b => a.1 < b.1
  off : ∀ q ∈ Q, ∀ t ∈ Q, q.1 ≠ t.1 → cf q.2 t.1 = 0
def lin (Q : List (Nat × List Int)) (a : Nat → Int) (j : Nat) : Int := (Q.map fun q => a q.1 * cf q.2 j).sum
theorem lin_cons (q : Nat × List Int) (Q : List (Nat × List Int)) (a : Nat → Int) (j : Nat) : lin (q :: Q) a j = a q.1 * cf q.2 j + lin Q a j := by
  unfold lin
  rw [List.map_cons, List.sum_cons]
theorem lin_nil (a : Nat → Int) (j : Nat) : lin [] a j = 0 := rfl
theorem lin_same {Q : List (Nat × List Int)} {a b : Nat → Int} (h : ∀ q ∈ Q, a q.1 = b q.1) (j : Nat) : lin Q a j = lin Q b j := by
  induction Q with
  | nil => rfl
  | cons q Q ih =>
    rw [lin_cons, lin_cons, h q List.mem_cons_self, ih fun t ht => h t (List.mem_cons_of_mem _ ht)]
theorem lin_zero {Q : List (Nat × List Int)} {a : Nat → Int} {j : Nat} (h : ∀ q ∈ Q, a q.1 * cf q.2 j = 0) : lin Q a j = 0 := by
  induction Q with
  | nil => rfl
  | cons q Q ih =>
    rw [lin_cons, h q List.mem_cons_self, ih fun t ht => h t (List.mem_cons_of_mem _ ht)] <;> rfl
/-- all but one are 0 -/
theorem lin_one {Q : List (Nat × List Int)} (asc : Q.Pairwise fun a b => a.1 < b.1) {a : Nat → Int} {j : Nat} {q : Nat × List Int} (hq : q ∈ Q) (h : ∀ t ∈ Q, t.1 ≠ q.1 → a t.1 * cf t.2 j = 0) : lin Q a j = a q.1 * cf q.2 j := by
  induction Q with
  | nil => cases hq
  | cons t Q ih =>
    rw [lin_cons]
    obtain ⟨h1, h2⟩ := List.pairwise_cons.mp asc
    rcases List.mem_cons.mp hq with rfl | hq
    · rw [lin_zero fun u hu => h u (List.mem_cons_of_mem _ hu) (by have := h1 u hu; omega), Int.add_zero]
    · have := h1 q hq
      rw [h t List.mem_cons_self (by omega), ih h2 hq fun u hu => h u (List.mem_cons_of_mem _ hu), Int.zero_add]
theorem lin_add {Q : List (Nat × List Int)} (asc : Q.Pairwise fun a b => a.1 < b.1) {a : Nat → Int} {q : Nat × List Int} (hq : q ∈ Q) (c : Int) (j : Nat) : lin Q (fun p => if p = q.1 then a p + c else a p) j = c * cf q.2 j + lin Q a j := by
  induction Q with
  | nil => cases hq
  | cons t Q ih =>
    rw [lin_cons, lin_cons]
    obtain ⟨h1, h2⟩ := List.pairwise_cons.mp asc
    rcases List.mem_cons.mp hq with rfl | hq
    · rw [if_pos rfl, lin_same (Q := Q) (b := a) fun u hu => if_neg (by have := h1 u hu; omega)]
      grind
    · have := h1 q hq
      rw [if_neg (by omega), ih h2 hq]
      grind
theorem ic_lin {w : Nat} {Q : List (Nat × List Int)} (R : Red w Q) {v : Nat → Int} (h : IC (rowsOf Q) v) : ∃ a : Nat → Int, ∀ j, v j = lin Q a j := by
  induction h with
  | zero => exact ⟨fun _ => 0, fun j => (lin_zero fun q _ => Int.zero_mul _).symm⟩
  | @add u s c hs _ ih =>
    obtain ⟨a, ha⟩ := ih
    obtain ⟨q, hq, rfl⟩ := List.mem_map.mp hs
    exact ⟨fun p => if p = q.1 then a p + c else a p, fun j => by
      show c * cf q.2 j + u j = _
      rw [lin_add R.asc hq c j, ha j]⟩
theorem Red.same {w : Nat} {Q : List (Nat × List Int)} (R : Red w Q) {q t : Nat × List Int} (hq : q ∈ Q) (ht : t ∈ Q) (e : q.1 = t.1) : q = t := by
  have := R.asc
  clear R
  induction Q with
  | nil => cases hq
  | cons u Q ih =>
    obtain ⟨h1, h2⟩ := List.pairwise_cons.mp this
    rcases List.mem_cons.mp hq with y | y <;> rcases List.mem_cons.mp ht with z | z
    · rw [y, z]
    · have := h1 t z
      rw [y] at e
      omega
    · have := h1 q y
      rw [z] at e
      omega
    · exact ih y z h2
/-- what a sum is at a leading place -/
theorem lin_at {w : Nat} {Q : List (Nat × List Int)} (R : Red w Q) {a : Nat → Int} {q : Nat × List Int} (hq : q ∈ Q) : lin Q a q.1 = a q.1 * cf q.2 q.1 :=
  lin_one R.asc hq fun t ht hne => by rw [R.off t ht q hq hne, Int.mul_zero]
/-- the leading place of what reduced rows sum up to is one of theirs -/
theorem Red.lead {w : Nat} {Q : List (Nat × List Int)} (R : Red w Q) {v : Nat → Int} {l : Nat} (h : SpR (rowsOf Q) v) (low : ∀ j, j < l → v j = 0) (hl : v l ≠ 0) : ∃ r, (l, r) ∈ Q := by
  obtain ⟨n, hn, h⟩ := h
  obtain ⟨a, ha⟩ := ic_lin R h
  refine Classical.byContradiction fun no => ?_
  have z : lin Q a l = 0 := lin_zero fun q hq => by
    rcases Nat.lt_trichotomy q.1 l with h1 | h1 | h1
    · have := ha q.1
      rw [lin_at R hq, low q.1 h1, Int.mul_zero] at this
      have hp := (R.row q hq).pos
      rcases Int.mul_eq_zero.mp this.symm with z | z
      · rw [z, Int.zero_mul]
      · omega
    · exact (no ⟨q.2, by rw [← h1]; exact hq⟩).elim
    · rw [(R.row q hq).low l h1, Int.mul_zero]
  have := ha l
  rw [z] at this
  exact Int.mul_ne_zero hn hl this
theorem prim_eq {w p : Nat} {r s : List Int} (hr : Rr w p r) (hs : Rr w p s) {n m : Int} (hn : n ≠ 0) (h : ∀ j, n * cf r j = m * cf s j) : r = s := by
  have e : r.map (fun x => n * x) = s.map fun x => m * x := cf_ext (by rw [List.length_map, List.length_map, hr.len, hs.len]) fun j => by
    rw [cf_map (Int.mul_zero _), cf_map (Int.mul_zero _)]
    exact h j
  have g := congrArg gcdL e
  rw [gcdL_scale, gcdL_scale, hr.one, hs.one, Nat.mul_one, Nat.mul_one] at g
  have hp := h p
  have h1 := hr.pos
  have h2 := hs.pos
  have nm : n = m := by
    rcases Int.natAbs_eq_natAbs_iff.mp g with z | z
    · exact z
    · exfalso
      rw [z] at hp
      have : m * (cf s p + cf r p) = 0 := by grind
      rcases Int.mul_eq_zero.mp this with y | y
      · omega
      · omega
  subst nm
  exact cf_ext (by rw [hr.len, hs.len]) fun j => Int.eq_of_mul_eq_mul_left hn (h j)
theorem asc_same {Q T : List (Nat × List Int)} (h : Q.Pairwise fun a b => a.1 < b.1) (g : T.Pairwise fun a b => a.1 < b.1) (e : ∀ q, q ∈ Q ↔ q ∈ T) : Q = T := by
  induction Q generalizing T with
  | nil =>
    cases T with
    | nil => rfl
    | cons t T => exact absurd ((e t).mpr List.mem_cons_self) (by simp)
  | cons q Q ih =>
    cases T with
    | nil => exact absurd ((e q).mp List.mem_cons_self) (by simp)
    | cons t T =>
      obtain ⟨h1, h2⟩ := List.pairwise_cons.mp h
      obtain ⟨g1, g2⟩ := List.pairwise_cons.mp g
      have qt : q = t := by
        rcases List.mem_cons.mp ((e q).mp List.mem_cons_self) with z | z
        · exact z
        · rcases List.mem_cons.mp ((e t).mpr List.mem_cons_self) with y | y
          · exact y.symm
          · have := g1 q z
            have := h1 t y
            omega
      subst qt
      congr 1
      refine ih h2 g2 fun u => ⟨fun hu => ?_, fun hu => ?_⟩
      · rcases List.mem_cons.mp ((e u).mp (List.mem_cons_of_mem _ hu)) with z | z
        · have := h1 u hu
          rw [z] at this
          omega
        · exact z
      · rcases List.mem_cons.mp ((e u).mpr (List.mem_cons_of_mem _ hu)) with z | z
        · have := g1 u hu
          rw [z] at this
          omega
        · exact z
/-- there is but one lot of reduced rows -/
theorem red_unique {w : Nat} {Q T : List (Nat × List Int)} (R : Red w Q) (U : Red w T) (E : Eqv (rowsOf Q) (rowsOf T)) : Q = T := by
  have half : ∀ {Q T : List (Nat × List Int)}, Red w Q → Red w T → Eqv (rowsOf Q) (rowsOf T) → ∀ q, q ∈ Q → q ∈ T := fun {Q T} R U E q hq => by
    have rq := R.row q hq
    obtain ⟨s, hs⟩ := U.lead (E.1 q.2 (List.mem_map.mpr ⟨q, hq, rfl⟩)) rq.low (by have := rq.pos; omega)
    obtain ⟨n, hn, h⟩ := E.1 q.2 (List.mem_map.mpr ⟨q, hq, rfl⟩)
    obtain ⟨a, ha⟩ := ic_lin U h
    have e : ∀ j, n * cf q.2 j = a q.1 * cf s j := fun j => by
      rw [ha j, lin_one U.asc hs fun t ht hne => ?_]
      have ut := U.row t ht
      obtain ⟨u, hu⟩ := R.lead (E.2 t.2 (List.mem_map.mpr ⟨t, ht, rfl⟩)) ut.low (by have := ut.pos; omega)
      have z : cf q.2 t.1 = 0 := R.off q hq (t.1, u) hu fun y => hne (show t.1 = q.1 from y.symm)
      have := ha t.1
      rw [z, Int.mul_zero, lin_at U ht] at this
      have tp := ut.pos
      rcases Int.mul_eq_zero.mp this.symm with y | y
      · rw [y, Int.zero_mul]
      · omega
    have : q.2 = s := prim_eq rq (U.row (q.1, s) hs) hn e
    rw [← this] at hs
    exact hs
  exact asc_same R.asc U.asc fun q => ⟨half R U E q, half U R E.symm q⟩
end Zj
/-! How rows are reduced: one row more, all rows place by place. -/
namespace Zj
open PySem PySem.Spec
variable [Nm]
/-- a row, cleared by another one at a place -/
def clrR (p : Nat) (row plane : List Int) : List Int := List.zipWith (fun a b => cf plane p * a - cf row p * b) row plane
theorem clr_len {w p : Nat} {r s : List Int} (h : r.length = w) (g : s.length = w) : (clrR p r s).length = w := by
  unfold clrR
  rw [List.length_zipWith, h, g, Nat.min_self]
theorem cf_clr {p : Nat} {r s : List Int} (h : r.length = s.length) (j : Nat) : cf (clrR p r s) j = cf s p * cf r j - cf r p * cf s j := by
  by_cases hj : j < r.length
  · have h1 : r[j]? = some r[j] := List.getElem?_eq_getElem hj
    have h2 : s[j]? = some (s[j]'(by omega)) := List.getElem?_eq_getElem (by omega)
    rw [cf_get h1, cf_get h2]
    refine cf_get ?_
    unfold clrR
    rw [List.getElem?_zipWith, h1, h2]
  · rw [cf_out (show (clrR p r s).length ≤ j by rw [clr_len rfl h.symm]; omega), cf_out (show r.length ≤ j by omega), cf_out (show s.length ≤ j by omega)]
    simp
/-! ### what is cleared is of the same sums -/
def clrAll (row : List Int) (Q : List (Nat × List Int)) : List Int := Q.foldl (fun left q => clrR q.1 left q.2) row
theorem clrAll_ok {w : Nat} {Q : List (Nat × List Int)} (R : Red w Q) : ∀ (T : List (Nat × List Int)) (row : List Int), (∀ t ∈ T, t ∈ Q) → row.length = w →
    (clrAll row T).length = w ∧ (∃ k : Int, 0 < k ∧ ∃ u, IC (rowsOf Q) u ∧ ∀ j, cf (clrAll row T) j = k * cf row j + u j) ∧ ∀ q ∈ Q, (cf row q.1 = 0 ∨ q ∈ T) → cf (clrAll row T) q.1 = 0
  | [], row, _, hl => ⟨hl, ⟨1, by decide, _, .zero, fun j => by show cf row j = _; grind⟩, fun q _ h => h.elim id nofun⟩
  | t :: T, row, hT, hl => by
    have ht := hT t List.mem_cons_self
    have rt := R.row t ht
    have e := cf_clr (p := t.1) (r := row) (s := t.2) (by rw [hl, rt.len])
    obtain ⟨h1, ⟨k, hk, u, hu, h2⟩, h3⟩ := clrAll_ok R T (clrR t.1 row t.2) (fun x hx => hT x (List.mem_cons_of_mem _ hx)) (clr_len hl rt.len)
    refine ⟨h1, ⟨k * cf t.2 t.1, Int.mul_pos hk rt.pos, fun j => (k * -cf row t.1) * cf t.2 j + u j, .add _ (List.mem_map.mpr ⟨t, ht, rfl⟩) hu, fun j => ?_⟩, fun q hq h => ?_⟩
    · show cf (clrAll (clrR t.1 row t.2) T) j = _
      rw [h2 j, e j]
      grind
    · refine h3 q hq ?_
      by_cases hqt : q.1 = t.1
      · left
        rw [e, hqt]
        grind
      · rcases h with h | h
        · left
          rw [e, h, R.off t ht q hq (Ne.symm hqt)]
          grind
        · rcases List.mem_cons.mp h with h | h
          · exact (hqt (by rw [h])).elim
          · exact .inr h
/-! ### a plane, as a reduced row -/
theorem cf_dropLast {r : List Int} {j : Nat} (h : j + 1 < r.length) : cf r.dropLast j = cf r j := by
  unfold cf
  rw [List.getD_eq_getElem?_getD, List.getD_eq_getElem?_getD, List.getElem?_dropLast, if_pos (by omega)]
theorem lead_low : ∀ {xs : List Int} {p : Nat}, lead xs = some p → (∀ j, j < p → cf xs j = 0) ∧ cf xs p ≠ 0 ∧ p < xs.length
  | [], p, h => by cases h
  | x :: xs, p, h => by
    rw [lead_cons] at h
    by_cases hx : x = 0
    · subst hx
      rw [if_pos (by decide)] at h
      obtain ⟨q, hq, rfl⟩ := Option.map_eq_some_iff.mp h
      obtain ⟨h1, h2, h3⟩ := lead_low hq
      refine ⟨fun j hj => ?_, h2, by rw [List.length_cons]; omega⟩
      cases j with
      | zero => rfl
      | succ j => exact h1 j (by omega)
    · rw [if_neg (by simpa using hx)] at h
      cases h
      exact ⟨fun j hj => by omega, hx, by rw [List.length_cons]; omega⟩
theorem lead_of : ∀ {xs : List Int} {p : Nat}, (∀ j, j < p → cf xs j = 0) → cf xs p ≠ 0 → lead xs = some p
  | [], p, _, h => (h rfl).elim
  | x :: xs, p, h1, h2 => by
    rw [lead_cons]
    cases p with
    | zero =>
      have h2 : x ≠ 0 := h2
      rw [if_neg (by simpa using h2)]
    | succ p =>
      have : x = 0 := h1 0 (by omega)
      rw [if_pos (by rw [this] <;> rfl), lead_of (xs := xs) (p := p) (fun j hj => h1 (j + 1) (by omega)) h2] <;> rfl
theorem lead_no : ∀ {xs : List Int}, lead xs = none → ∀ j, cf xs j = 0
  | [], _, j => rfl
  | x :: xs, h, j => by
    rw [lead_cons] at h
    by_cases hx : x = 0
    · subst hx
      rw [if_pos (by decide)] at h
      have h' := Option.map_eq_none_iff.mp h
      cases j with
      | zero => rfl
      | succ j => exact lead_no h' j
    · rw [if_neg (by simpa using hx)] at h
      cases h
theorem cf_mem {r : List Int} {j : Nat} (h : cf r j ≠ 0) : ∃ x ∈ r, x ≠ 0 := by
  by_cases hj : j < r.length
  · exact ⟨r[j], List.getElem_mem hj, by rw [cf_get (List.getElem?_eq_getElem hj)] at h; exact h⟩
  · exact (h (cf_out (by omega))).elim
theorem short_prim {r : List Int} (h : ∃ x ∈ r, x ≠ 0) : gcdL (shortL r) = 1 ∧ ∃ g : Int, 0 < g ∧ ∀ j, cf r j = g * cf (shortL r) j := by
  obtain ⟨g0, e⟩ := shortL_mul r h
  have := congrArg gcdL e
  rw [gcdL_scale, Int.natAbs_natCast] at this
  refine ⟨Nat.eq_of_mul_eq_mul_left g0 (by rw [Nat.mul_one]; exact this.symm), (gcdL r : Int), by omega, fun j => ?_⟩
  have e2 := congrArg (fun l => cf l j) e
  rw [cf_map (Int.mul_zero _)] at e2
  exact e2
/-- shortened, and its sign put right: a reduced row -/
theorem rr_of {w p : Nat} {r s : List Int} (hl : r.length = w) (hs : s.length = w) (low : ∀ j, j < p → cf r j = 0) {g : Int} (hg : g ≠ 0) (e : ∀ j, cf r j = g * cf s j) (hp : 0 < cf s p) (h1 : gcdL s = 1) : Rr w p s :=
  ⟨hs, hp, fun j hj => by
    have := e j
    rw [low j hj] at this
    rcases Int.mul_eq_zero.mp this.symm with z | z
    · exact (hg z).elim
    · exact z, h1⟩
theorem gcdL_neg (r : List Int) : gcdL (r.map fun x => -x) = gcdL r := by
  have := gcdL_scale (-1) r
  rw [show (fun x : Int => -1 * x) = fun x => -x from funext fun x => by omega] at this
  rw [this]
  simp
theorem plane_rr {w p : Nat} {r pl : List Int} (hl : r.length = w) (hp : lead r.dropLast = some p) (h : planeL r = some pl) : Rr w p pl ∧ p + 1 < w ∧ ∃ g : Int, g ≠ 0 ∧ ∀ j, cf r j = g * cf pl j := by
  obtain ⟨y, hy, hy0, e⟩ := planeL_some hp
  obtain ⟨l1, l2, l3⟩ := lead_low hp
  rw [List.length_dropLast] at l3
  have hlow : ∀ j, j < p → cf r j = 0 := fun j hj => by rw [← cf_dropLast (by omega)]; exact l1 j hj
  have hne : cf r p ≠ 0 := by rw [← cf_dropLast (by omega)]; exact l2
  obtain ⟨s1, g, hg, hs⟩ := short_prim (cf_mem hne)
  rw [h] at e
  have e := Option.some.inj e
  by_cases hy1 : y < 0
  · rw [if_pos hy1] at e
    have hn : ∀ j, cf pl j = -cf (shortL r) j := fun j => by rw [e, cf_map (g := fun x => -x) rfl]
    refine ⟨rr_of hl (by rw [e, List.length_map, shortL_len, hl]) hlow (g := -g) (by omega) (fun j => by rw [hs j, hn j]; grind) (by rw [hn, cf_get hy]; omega) (by rw [e, gcdL_neg, s1]), by omega, -g, by omega, fun j => by rw [hs j, hn j]; grind⟩
  · rw [if_neg hy1] at e
    refine ⟨rr_of hl (by rw [e, shortL_len, hl]) hlow (g := g) (by omega) (fun j => by rw [hs j, e]) (by rw [e, cf_get hy]; omega) (by rw [e, s1]), by omega, g, by omega, fun j => by rw [hs j, e]⟩
end Zj
/-! The two ways to reduced rows: one row after another, one place after another. -/
namespace Zj
open PySem PySem.Spec
variable [Nm]
theorem SpR.sub {S : List (List Int)} {v u : Nat → Int} (h : SpR S v) (g : SpR S u) : SpR S fun j => v j - u j := (h.plus (g.times (-1))).is fun j => by grind
theorem mem_rows {Q : List (Nat × List Int)} {q : Nat × List Int} (h : q ∈ Q) : q.2 ∈ rowsOf Q := List.mem_map.mpr ⟨q, h, rfl⟩
/-! ### one row more -/
section
variable {w p : Nat} {Q T : List (Nat × List Int)} {row pl : List Int}
theorem fresh_ok (R : Red w Q) (hl : row.length = w) (hp : lead (clrAll row Q).dropLast = some p) (h : planeL (clrAll row Q) = some pl) :
    Rr w p pl ∧ p + 1 < w ∧ (∀ q ∈ Q, q.1 ≠ p ∧ cf pl q.1 = 0) ∧ ∃ g : Int, g ≠ 0 ∧ ∃ k : Int, 0 < k ∧ ∃ u, IC (rowsOf Q) u ∧ ∀ j, g * cf pl j = k * cf row j + u j := by
  obtain ⟨h1, ⟨k, hk, u, hu, h2⟩, h3⟩ := clrAll_ok R Q row (fun t ht => ht) hl
  obtain ⟨r1, r2, g, hg, r3⟩ := plane_rr h1 hp h
  refine ⟨r1, r2, fun q hq => ?_, g, hg, k, hk, u, hu, fun j => by rw [← r3 j, h2 j]⟩
  have z : cf pl q.1 = 0 := by
    have := r3 q.1
    rw [h3 q hq (.inr hq)] at this
    rcases Int.mul_eq_zero.mp this.symm with y | y
    · exact (hg y).elim
    · exact y
  exact ⟨fun e => by have := r1.pos; rw [← e, z] at this; omega, z⟩
theorem other_ok (R : Red w Q) (hlt : ∀ q ∈ Q, q.1 + 1 < w) (hr : Rr w p pl) (hz : ∀ q ∈ Q, q.1 ≠ p ∧ cf pl q.1 = 0) {q : Nat × List Int} (hq : q ∈ Q) :
    ∃ s, planeL (clrR p q.2 pl) = some s ∧ lead (clrR p q.2 pl).dropLast = some q.1 ∧ Rr w q.1 s ∧ ∃ g : Int, g ≠ 0 ∧ ∀ j, g * cf s j = cf pl p * cf q.2 j - cf q.2 p * cf pl j := by
  have rq := R.row q hq
  have e := cf_clr (p := p) (r := q.2) (s := pl) (by rw [rq.len, hr.len])
  have ln := clr_len (p := p) rq.len hr.len
  obtain ⟨z1, z2⟩ := hz q hq
  have lw := hlt q hq
  have hlow : ∀ j, j < q.1 → cf (clrR p q.2 pl) j = 0 := fun j hj => by
    rw [e, rq.low j hj]
    rcases Nat.lt_or_gt_of_ne z1 with y | y
    · rw [hr.low j (by omega)]
      grind
    · rw [rq.low p y]
      grind
  have hp : 0 < cf (clrR p q.2 pl) q.1 := by
    rw [e, z2]
    have := Int.mul_pos hr.pos rq.pos
    omega
  have hld : lead (clrR p q.2 pl).dropLast = some q.1 := lead_of (fun j hj => by rw [cf_dropLast (by omega)]; exact hlow j hj) (by rw [cf_dropLast (by omega)]; omega)
  obtain ⟨y, hy, hy0, ep⟩ := planeL_some hld
  obtain ⟨r1, r2, g, hg, r3⟩ := plane_rr ln hld ep
  exact ⟨_, ep, hld, r1, g, hg, fun j => by rw [← r3 j, e j]⟩
theorem red_step (R : Red w Q) (hlt : ∀ q ∈ Q, q.1 + 1 < w) (hl : row.length = w) (hp : lead (clrAll row Q).dropLast = some p) (h : planeL (clrAll row Q) = some pl)
    (hT : ∀ x, x ∈ T ↔ x = (p, pl) ∨ ∃ q ∈ Q, ∃ s, planeL (clrR p q.2 pl) = some s ∧ x = (q.1, s)) (asc : T.Pairwise fun a b => a.1 < b.1) :
    Red w T ∧ (∀ q ∈ T, q.1 + 1 < w) ∧ Eqv (rowsOf T) (row :: rowsOf Q) := by
  obtain ⟨hr, pw, hz, g, hg, k, hk, u, hu, he⟩ := fresh_ok R hl hp h
  have each : ∀ x ∈ T, x = (p, pl) ∨ ∃ q ∈ Q, x.1 = q.1 ∧ Rr w q.1 x.2 ∧ ∃ g : Int, g ≠ 0 ∧ ∀ j, g * cf x.2 j = cf pl p * cf q.2 j - cf q.2 p * cf pl j := fun x hx => by
    rcases (hT x).mp hx with rfl | ⟨q, hq, s, hs, rfl⟩
    · exact .inl rfl
    · obtain ⟨s', e1, _, e2, e3⟩ := other_ok R hlt hr hz hq
      rw [hs] at e1
      cases e1
      exact .inr ⟨q, hq, rfl, e2, e3⟩
  have hpT : (p, pl) ∈ T := (hT _).mpr (.inl rfl)
  have row1 : ∀ x ∈ T, Rr w x.1 x.2 := fun x hx => by
    rcases each x hx with rfl | ⟨q, hq, e1, e2, _⟩
    · exact hr
    · rw [e1]
      exact e2
  refine ⟨⟨row1, asc, fun x hx y hy hne => ?_⟩, fun x hx => ?_, fun s hs => ?_, fun s hs => ?_⟩
  · rcases each x hx with rfl | ⟨q, hq, e1, e2, c, hc, e3⟩ <;> rcases each y hy with rfl | ⟨t, ht, f1, f2, d, hd, f3⟩
    · exact (hne rfl).elim
    · rw [f1]
      exact (hz t ht).2
    · have := e3 p
      have z : cf pl p * cf q.2 p - cf q.2 p * cf pl p = 0 := by grind
      rw [z] at this
      rcases Int.mul_eq_zero.mp this with y | y
      · exact (hc y).elim
      · exact y
    · have := e3 y.1
      rw [f1, (hz t ht).2, R.off q hq t ht (fun z => hne (by rw [e1, f1, z]))] at this
      have z : cf pl p * 0 - cf q.2 p * 0 = 0 := by grind
      rw [z] at this
      rw [f1]
      rcases Int.mul_eq_zero.mp this with y | y
      · exact (hc y).elim
      · exact y
  · rcases each x hx with rfl | ⟨q, hq, e1, _⟩
    · exact pw
    · rw [e1]
      exact hlt q hq
  · obtain ⟨x, hx, rfl⟩ := List.mem_map.mp hs
    have spl : SpR (row :: rowsOf Q) (cf pl) := SpR.part hg (((SpR.one (s := row) List.mem_cons_self).times k |>.plus (SpR.of (hu.mono fun s hs => List.mem_cons_of_mem _ hs))).is fun j => (he j).symm)
    rcases each x hx with rfl | ⟨q, hq, _, _, c, hc, e3⟩
    · exact spl
    · exact SpR.part hc ((((SpR.one (s := q.2) (List.mem_cons_of_mem _ (mem_rows hq))).times (cf pl p)).sub (spl.times (cf q.2 p))).is fun j => (e3 j).symm)
  · have spl : SpR (rowsOf T) (cf pl) := .one (mem_rows hpT)
    have sq : ∀ q ∈ Q, SpR (rowsOf T) (cf q.2) := fun q hq => by
      obtain ⟨s, e1, _, _, c, hc, e3⟩ := other_ok R hlt hr hz hq
      have hs : (q.1, s) ∈ T := (hT _).mpr (.inr ⟨q, hq, s, e1, rfl⟩)
      exact SpR.part (k := cf pl p) (by have := hr.pos; omega) ((((SpR.one (mem_rows hs)).times c).plus (spl.times (cf q.2 p))).is fun j => by
        have := e3 j
        show c * cf s j + cf q.2 p * cf pl j = _
        grind)
    rcases List.mem_cons.mp hs with rfl | hs
    · have su : SpR (rowsOf T) u := (SpR.of hu).trans fun t ht => by
        obtain ⟨q, hq, rfl⟩ := List.mem_map.mp ht
        exact sq q hq
      exact SpR.part (k := k) (by omega) (((spl.times g).sub su).is fun j => by
        have := he j
        grind)
    · obtain ⟨q, hq, rfl⟩ := List.mem_map.mp hs
      exact sq q hq
/-- nothing is left of it -/
theorem red_same (R : Red w Q) (hl : row.length = w) (h : ∀ j, cf (clrAll row Q) j = 0) : Eqv (rowsOf Q) (row :: rowsOf Q) := by
  obtain ⟨_, ⟨k, hk, u, hu, h2⟩, _⟩ := clrAll_ok R Q row (fun t ht => ht) hl
  refine ⟨fun s hs => .one (List.mem_cons_of_mem _ hs), fun s hs => ?_⟩
  rcases List.mem_cons.mp hs with rfl | hs
  · exact SpR.part (k := k) (by omega) (((SpR.of hu).times (-1)).is fun j => by
      have := h2 j
      rw [h j] at this
      show -1 * u j = _
      omega)
  · exact .one hs
/-- but its last number is -/
theorem red_none (R : Red w Q) (hl : row.length = w) (hw : 1 ≤ w) (h : lead (clrAll row Q).dropLast = none) (hd : cf (clrAll row Q) (w - 1) ≠ 0) {U : List (Nat × List Int)} (RU : Red w U) (hU : ∀ s ∈ row :: rowsOf Q, SpR (rowsOf U) (cf s)) : ∃ r, (w - 1, r) ∈ U := by
  obtain ⟨h1, ⟨k, hk, u, hu, h2⟩, _⟩ := clrAll_ok R Q row (fun t ht => ht) hl
  refine RU.lead (v := cf (clrAll row Q)) (SpR.trans (S := row :: rowsOf Q) ((((SpR.one (s := row) List.mem_cons_self).times k).plus (SpR.of (hu.mono fun s hs => List.mem_cons_of_mem _ hs))).is fun j => (h2 j).symm) hU) (fun j hj => ?_) hd
  rw [← cf_dropLast (by omega)]
  exact lead_no h j
end
/-! ### one place after another -/
structure LI (w p : Nat) (rows : List (List Int)) (found : List (Nat × List Int)) (left : List (List Int)) : Prop where
  red : Red w found
  lt : ∀ q ∈ found, q.1 < p
  len : ∀ r ∈ left, r.length = w
  low : ∀ r ∈ left, ∀ j, j < p → cf r j = 0
  eqv : Eqv (rowsOf found ++ left) rows
section
variable {w p : Nat} {rows : List (List Int)} {found : List (Nat × List Int)} {left : List (List Int)} {hd h : List Int}
theorem li_start (hl : ∀ r ∈ rows, r.length = w) : LI w 0 rows [] rows := ⟨⟨nofun, .nil, nofun⟩, nofun, hl, fun _ _ j hj => by omega, .refl _⟩
theorem li_skip (L : LI w p rows found left) (hz : ∀ r ∈ left, cf r p = 0) : LI w (p + 1) rows found left := ⟨L.red, fun q hq => by have := L.lt q hq; omega, L.len, fun r hr j hj => by
  by_cases e : j = p
  · rw [e]
    exact hz r hr
  · exact L.low r hr j (by omega), L.eqv⟩
/-- the head: shortened, its sign put right -/
def headL (p : Nat) (h : List Int) : List Int := if 0 < cf (shortL h) p then shortL h else (shortL h).map fun x => -x
theorem head_ok (hl : h.length = w) (low : ∀ j, j < p → cf h j = 0) (hp : cf h p ≠ 0) : Rr w p (headL p h) ∧ ∃ g : Int, g ≠ 0 ∧ ∀ j, cf h j = g * cf (headL p h) j := by
  obtain ⟨s1, g, hg, hs⟩ := short_prim (cf_mem hp)
  have h0 : cf (shortL h) p ≠ 0 := fun z => hp (by rw [hs p, z, Int.mul_zero])
  unfold headL
  by_cases y : 0 < cf (shortL h) p
  · rw [if_pos y]
    exact ⟨rr_of hl (by rw [shortL_len, hl]) low (g := g) (by omega) hs y s1, g, by omega, hs⟩
  · rw [if_neg y]
    have hn : ∀ j, cf ((shortL h).map fun x => -x) j = -cf (shortL h) j := fun j => cf_map (g := fun x => -x) rfl _ _
    exact ⟨rr_of hl (by rw [List.length_map, shortL_len, hl]) low (g := -g) (by omega) (fun j => by rw [hs j, hn j]; grind) (by rw [hn]; omega) (by rw [gcdL_neg, s1]), -g, by omega, fun j => by rw [hs j, hn j]; grind⟩
theorem li_step (L : LI w p rows found left) (hm : h ∈ left) (hp : cf h p ≠ 0) {left' : List (List Int)} (hl : ∀ r, r ∈ left' ↔ ∃ t ∈ left, t ≠ h ∧ r = clrR p t (headL p h)) :
    LI w (p + 1) rows (found.map (fun q => (q.1, shortL (clrR p q.2 (headL p h)))) ++ [(p, headL p h)]) left' := by
  obtain ⟨hr, g, hg, he⟩ := head_ok (L.len h hm) (L.low h hm) hp
  have R := L.red
  generalize headL p h = d at *
  have other : ∀ q ∈ found, Rr w q.1 (shortL (clrR p q.2 d)) ∧ ∃ c : Int, c ≠ 0 ∧ ∀ j, c * cf (shortL (clrR p q.2 d)) j = cf d p * cf q.2 j - cf q.2 p * cf d j := fun q hq => by
    have rq := R.row q hq
    have lt := L.lt q hq
    have e := cf_clr (p := p) (r := q.2) (s := d) (by rw [rq.len, hr.len])
    have ln := clr_len (p := p) rq.len hr.len
    have hpos : 0 < cf (clrR p q.2 d) q.1 := by
      rw [e, hr.low q.1 lt]
      have := Int.mul_pos hr.pos rq.pos
      omega
    obtain ⟨s1, c, hc, hs⟩ := short_prim (cf_mem (show cf (clrR p q.2 d) q.1 ≠ 0 by omega))
    refine ⟨rr_of ln (by rw [shortL_len, ln]) (fun j hj => by rw [e, rq.low j hj, hr.low j (by omega)]; grind) (g := c) (by omega) hs ?_ s1, c, by omega, fun j => by rw [← hs j, e j]⟩
    have := hs q.1
    rw [this] at hpos
    exact Int.pos_of_mul_pos_right hpos (by omega)
  have each : ∀ x ∈ found.map (fun q => (q.1, shortL (clrR p q.2 d))) ++ [(p, d)], x = (p, d) ∨ ∃ q ∈ found, x = (q.1, shortL (clrR p q.2 d)) := fun x hx => by
    rcases List.mem_append.mp hx with y | y
    · obtain ⟨q, hq, rfl⟩ := List.mem_map.mp y
      exact .inr ⟨q, hq, rfl⟩
    · exact .inl (List.mem_singleton.mp y)
  have hdm : (p, d) ∈ found.map (fun q => (q.1, shortL (clrR p q.2 d))) ++ [(p, d)] := List.mem_append.mpr (.inr (List.mem_singleton.mpr rfl))
  refine ⟨⟨fun x hx => ?_, ?_, fun x hx y hy hne => ?_⟩, fun x hx => ?_, fun r hr' => ?_, fun r hr' j hj => ?_, Eqv.trans ⟨fun s hs => ?_, fun s hs => ?_⟩ L.eqv⟩
  · rcases each x hx with rfl | ⟨q, hq, rfl⟩
    · exact hr
    · exact (other q hq).1
  · rw [List.pairwise_append]
    refine ⟨?_, List.pairwise_singleton _ _, fun x hx y hy => ?_⟩
    · rw [List.pairwise_map]
      exact R.asc.imp fun {a b} z => z
    · obtain ⟨q, hq, rfl⟩ := List.mem_map.mp hx
      rw [List.mem_singleton] at hy
      rw [hy]
      exact L.lt q hq
  · rcases each x hx with rfl | ⟨q, hq, rfl⟩ <;> rcases each y hy with rfl | ⟨t, ht, rfl⟩
    · exact (hne rfl).elim
    · exact hr.low t.1 (L.lt t ht)
    · obtain ⟨_, c, hc, e3⟩ := other q hq
      have := e3 p
      have z : cf d p * cf q.2 p - cf q.2 p * cf d p = 0 := by grind
      rw [z] at this
      rcases Int.mul_eq_zero.mp this with y | y
      · exact (hc y).elim
      · exact y
    · obtain ⟨_, c, hc, e3⟩ := other q hq
      have := e3 t.1
      rw [hr.low t.1 (L.lt t ht), R.off q hq t ht hne] at this
      have z : cf d p * 0 - cf q.2 p * 0 = 0 := by grind
      rw [z] at this
      rcases Int.mul_eq_zero.mp this with y | y
      · exact (hc y).elim
      · exact y
  · rcases each x hx with rfl | ⟨q, hq, rfl⟩
    · show p < p + 1
      omega
    · have := L.lt q hq
      show q.1 < p + 1
      omega
  · obtain ⟨t, ht, _, rfl⟩ := (hl r).mp hr'
    exact clr_len (L.len t ht) hr.len
  · obtain ⟨t, ht, _, rfl⟩ := (hl r).mp hr'
    rw [cf_clr (by rw [L.len t ht, hr.len])]
    by_cases e : j = p
    · rw [e]
      grind
    · rw [L.low t ht j (by omega), hr.low j (by omega)]
      grind
  · have sd : SpR (rowsOf found ++ left) (cf d) := SpR.part hg ((SpR.one (s := h) (List.mem_append.mpr (.inr hm))).is he)
    rcases List.mem_append.mp hs with y | y
    · obtain ⟨x, hx, rfl⟩ := List.mem_map.mp y
      rcases each x hx with rfl | ⟨q, hq, rfl⟩
      · exact sd
      · obtain ⟨_, c, hc, e3⟩ := other q hq
        exact SpR.part hc ((((SpR.one (s := q.2) (List.mem_append.mpr (.inl (mem_rows hq)))).times (cf d p)).sub (sd.times (cf q.2 p))).is fun j => (e3 j).symm)
    · obtain ⟨t, ht, _, rfl⟩ := (hl s).mp y
      exact (((SpR.one (s := t) (List.mem_append.mpr (.inr ht))).times (cf d p)).sub (sd.times (cf t p))).is fun j => (cf_clr (by rw [L.len t ht, hr.len]) j).symm
  · have sd : SpR (rowsOf (found.map (fun q => (q.1, shortL (clrR p q.2 d))) ++ [(p, d)]) ++ left') (cf d) := .one (List.mem_append.mpr (.inl (mem_rows hdm)))
    have hpd : cf d p ≠ 0 := by have := hr.pos; omega
    rcases List.mem_append.mp hs with y | y
    · obtain ⟨q, hq, rfl⟩ := List.mem_map.mp y
      obtain ⟨_, c, hc, e3⟩ := other q hq
      refine SpR.part hpd ((((SpR.one (s := shortL (clrR p q.2 d)) (List.mem_append.mpr (.inl (mem_rows (q := (q.1, shortL (clrR p q.2 d))) (List.mem_append.mpr (.inl (List.mem_map.mpr ⟨q, hq, rfl⟩))))))).times c).plus (sd.times (cf q.2 p))).is fun j => ?_)
      have := e3 j
      show c * cf (shortL (clrR p q.2 d)) j + cf q.2 p * cf d j = _
      grind
    · by_cases e : s = h
      · rw [e]
        exact (sd.times g).is fun j => (he j).symm
      · refine SpR.part hpd (((SpR.one (s := clrR p s d) (List.mem_append.mpr (.inr ((hl _).mpr ⟨s, y, e, rfl⟩)))).plus (sd.times (cf s p))).is fun j => ?_)
        have := cf_clr (p := p) (r := s) (s := d) (by rw [L.len s y, hr.len]) j
        show cf (clrR p s d) j + cf s p * cf d j = _
        grind
theorem li_end (L : LI w w rows found left) : Eqv (rowsOf found) rows := Eqv.trans ⟨fun s hs => .one (List.mem_append.mpr (.inl hs)), fun s hs => by
  rcases List.mem_append.mp hs with y | y
  · exact .one y
  · refine SpR.zero.is fun j => ?_
    by_cases hj : j < w
    · exact (L.low s y j hj).symm
    · exact (cf_out (by rw [L.len s y]; omega)).symm⟩ L.eqv
end
end Zj
/-! The reduced rows of any rows, place by place; how long their numbers become. -/
namespace Zj
open PySem PySem.Spec
variable [Nm]
def stepL (p : Nat) (fl : List (Nat × List Int) × List (List Int)) : List (Nat × List Int) × List (List Int) := match fl.2.filter fun r => !(cf r p == 0) with
  | [] => fl
  | h :: _ => (fl.1.map (fun q => (q.1, shortL (clrR p q.2 (headL p h)))) ++ [(p, headL p h)], (fl.2.filter fun r => !(r == h)).map fun t => clrR p t (headL p h))
def redTo (rows : List (List Int)) : Nat → List (Nat × List Int) × List (List Int)
  | 0 => ([], rows)
  | p + 1 => stepL p (redTo rows p)
def redL (w : Nat) (rows : List (List Int)) : List (Nat × List Int) := (redTo rows w).1
theorem stepL_no {p : Nat} {fl : List (Nat × List Int) × List (List Int)} (h : ∀ r ∈ fl.2, cf r p = 0) : stepL p fl = fl := by
  have e : (fl.2.filter fun r => !(cf r p == 0)) = [] := List.filter_eq_nil_iff.mpr fun r hr => by rw [h r hr]; simp
  unfold stepL
  rw [e]
theorem stepL_some {p : Nat} {fl : List (Nat × List Int) × List (List Int)} {h : List Int} {t : List (List Int)} (e : (fl.2.filter fun r => !(cf r p == 0)) = h :: t) :
    stepL p fl = (fl.1.map (fun q => (q.1, shortL (clrR p q.2 (headL p h)))) ++ [(p, headL p h)], (fl.2.filter fun r => !(r == h)).map fun t => clrR p t (headL p h)) ∧ h ∈ fl.2 ∧ cf h p ≠ 0 := by
  have hm : h ∈ fl.2.filter fun r => !(cf r p == 0) := by rw [e]; exact List.mem_cons_self
  obtain ⟨h1, h2⟩ := List.mem_filter.mp hm
  refine ⟨?_, h1, fun z => by rw [z] at h2; simp at h2⟩
  unfold stepL
  rw [e]
theorem redTo_ok {w : Nat} {rows : List (List Int)} (hl : ∀ r ∈ rows, r.length = w) : ∀ p, LI w p rows (redTo rows p).1 (redTo rows p).2
  | 0 => li_start hl
  | p + 1 => by
    have L := redTo_ok hl p
    show LI w (p + 1) rows (stepL p (redTo rows p)).1 (stepL p (redTo rows p)).2
    cases e : (redTo rows p).2.filter fun r => !(cf r p == 0) with
    | nil =>
      have hz : ∀ r ∈ (redTo rows p).2, cf r p = 0 := fun r hr => by
        have := List.filter_eq_nil_iff.mp e r hr
        simpa using this
      rw [stepL_no hz]
      exact li_skip L hz
    | cons h t =>
      obtain ⟨e1, e2, e3⟩ := stepL_some e
      rw [e1]
      refine li_step L e2 e3 fun r => ⟨fun hr => ?_, fun ⟨t, ht, hne, hr⟩ => ?_⟩
      · obtain ⟨t, ht, rfl⟩ := List.mem_map.mp hr
        obtain ⟨g1, g2⟩ := List.mem_filter.mp ht
        exact ⟨t, g1, by simpa using g2, rfl⟩
      · rw [hr]
        exact List.mem_map.mpr ⟨t, List.mem_filter.mpr ⟨ht, by simpa using hne⟩, rfl⟩
theorem redL_ok {w : Nat} {rows : List (List Int)} (hl : ∀ r ∈ rows, r.length = w) : Red w (redL w rows) ∧ Eqv (rowsOf (redL w rows)) rows := ⟨(redTo_ok hl w).red, li_end (redTo_ok hl w)⟩
/-- any other way to reduced rows comes to the same ones -/
theorem redL_is {w : Nat} {rows : List (List Int)} {Q : List (Nat × List Int)} (hl : ∀ r ∈ rows, r.length = w) (R : Red w Q) (E : Eqv (rowsOf Q) rows) : Q = redL w rows := red_unique R (redL_ok hl).1 (E.trans (redL_ok hl).2.symm)
theorem redL_lt {w : Nat} {rows : List (List Int)} (hl : ∀ r ∈ rows, r.length = w) : ∀ q ∈ redL w rows, q.1 < w := (redTo_ok hl w).lt
/-! ### lengths -/
theorem clr_bits {p m n : Nat} {r s : List Int} (hr : BitsL m r) (hs : BitsL n s) : BitsL (m + n + 1) (clrR p r s) := fun x hx => by
  have cr : Bits m (cf r p) := by
    by_cases h : p < r.length
    · rw [cf_get (List.getElem?_eq_getElem h)]
      exact hr _ (List.getElem_mem h)
    · rw [cf_out (by omega)]
      exact Nat.two_pow_pos _
  have cs : Bits n (cf s p) := by
    by_cases h : p < s.length
    · rw [cf_get (List.getElem?_eq_getElem h)]
      exact hs _ (List.getElem_mem h)
    · rw [cf_out (by omega)]
      exact Nat.two_pow_pos _
  unfold clrR at hx
  obtain ⟨j, hj, rfl⟩ := List.mem_iff_getElem.mp hx
  rw [List.getElem_zipWith]
  rw [List.length_zipWith] at hj
  have h1 := hr _ (List.getElem_mem (l := r) (n := j) (by omega))
  have h2 := hs _ (List.getElem_mem (l := s) (n := j) (by omega))
  exact (Bits.sub ((Bits.mul cs h1).mono (by omega)) ((Bits.mul cr h2).mono (by omega))).mono (Nat.le_refl (m + n + 1))
theorem head_bits {p n : Nat} {h : List Int} (hb : BitsL n h) : BitsL n (headL p h) := by
  unfold headL
  split
  · exact shortL_bits hb
  · intro x hx
    obtain ⟨y, hy, rfl⟩ := List.mem_map.mp hx
    exact (shortL_bits hb y hy).neg
def lbits (n : Nat) : Nat → Nat
  | 0 => n
  | p + 1 => 2 * lbits n p + 1
def fbits (n : Nat) : Nat → Nat
  | 0 => 0
  | p + 1 => fbits n p + lbits n p + 1
theorem redTo_bits {n : Nat} {rows : List (List Int)} (hb : ∀ r ∈ rows, BitsL n r) : ∀ p, (∀ q ∈ (redTo rows p).1, BitsL (fbits n p) q.2) ∧ ∀ r ∈ (redTo rows p).2, BitsL (lbits n p) r
  | 0 => ⟨nofun, hb⟩
  | p + 1 => by
    obtain ⟨h1, h2⟩ := redTo_bits hb p
    show (∀ q ∈ (stepL p (redTo rows p)).1, BitsL (fbits n (p + 1)) q.2) ∧ ∀ r ∈ (stepL p (redTo rows p)).2, BitsL (lbits n (p + 1)) r
    cases e : (redTo rows p).2.filter fun r => !(cf r p == 0) with
    | nil =>
      have hz : ∀ r ∈ (redTo rows p).2, cf r p = 0 := fun r hr => by
        have := List.filter_eq_nil_iff.mp e r hr
        simpa using this
      rw [stepL_no hz]
      exact ⟨fun q hq => (h1 q hq).mono (by show fbits n p ≤ fbits n p + lbits n p + 1; omega), fun r hr => (h2 r hr).mono (by show lbits n p ≤ 2 * lbits n p + 1; omega)⟩
    | cons h t =>
      obtain ⟨e1, e2, e3⟩ := stepL_some e
      have hd : BitsL (lbits n p) (headL p h) := head_bits (h2 h e2)
      rw [e1]
      refine ⟨fun q hq => ?_, fun r hr => ?_⟩
      · rcases List.mem_append.mp hq with hq | hq
        · obtain ⟨u, hu, rfl⟩ := List.mem_map.mp hq
          exact shortL_bits (clr_bits (h1 u hu) hd)
        · rw [List.mem_singleton] at hq
          subst hq
          exact hd.mono (by show lbits n p ≤ fbits n p + lbits n p + 1; omega)
      · obtain ⟨t, ht, rfl⟩ := List.mem_map.mp hr
        exact (clr_bits (h2 t (List.mem_filter.mp ht).1) hd).mono (by show lbits n p + lbits n p + 1 ≤ 2 * lbits n p + 1; omega)
/-! ### the flat, as data -/
def isNo (D : Nat) (Q : List (Nat × List Int)) : Bool := Q.any fun q => q.1 == D
def flatPD (D : Nat) (rows : List (List Int)) : PyData := if isNo D (redL (D + 1) rows) = true then .none else .tuple ((rowsOf (redL (D + 1) rows)).map fun r => tI r)
end Zj
/-! A list that grows: it stands out of sight while it does. -/
namespace Zj
open PySem PySem.Spec PyProof.Rows L2
variable [Nm]
theorem op_mulIB {X : Cx} : OpR X (binaryOp .Mult) (fun x y H Q => ∃ (i : Int) (b : Bool), x = .int i ∧ y = .bl b ∧ Q (.int (i * if b = true then 1 else 0)) H) := fun pins s σ H x y v u Q I rx ry h => by
  obtain ⟨i, b, rfl, rfl, q⟩ := h
  obtain ⟨t, rfl⟩ := rx
  cases ry
  exact PySem.IntBool.mul_int_bool ⟨.int _, H, I.tok _, ⟨_, rfl⟩, q⟩
theorem od_mulIB {X : Cx} {i : Int} {b : Bool} : OpD X (binaryOp .Mult) (.int i) (.bool b) (.int (i * if b = true then 1 else 0)) :=
  ⟨_, op_mulIB, fun T v1 v2 H dm p1 p2 Q q => ⟨i, b, dp_int p1, dp_bool p2, q _ H (Sm.refl H) (.int _)⟩⟩
section
variable {K : PySem.W.Frag} {H H' H0 : Hp} {T : Addr → Prop} {p : Addr} {acc acc' : List V}
theorem sm_putL (s : Sm H0 H) (h0 : H0 p = none) (h1 : H p = some (.lst acc)) : Sm H0 (upd H p (.lst acc')) := by
  refine ⟨fun b o e n => ?_, fun P t => ?_, fun b hb => ?_⟩
  · rw [upd_ne (fun z => by rw [z, h0] at e; cases e)]
    exact s.ob b o e n
  · obtain ⟨ps, g1, g2, g3⟩ := s.tb P t
    refine ⟨ps, by rw [upd_ne (fun z => by rw [z, h1] at g1; cases g1)]; exact g1, g2, fun pos cv hc => ?_⟩
    obtain ⟨c, e1, e2⟩ := g3 pos cv hc
    exact ⟨c, e1, by rw [upd_ne (fun z => by rw [z, h1] at e2; unfold LamX.CodeO at e2; cases e2)]; exact e2⟩
  · rw [upd_ne (fun z => hb (by rw [z]; exact h0))]
    exact s.dm b hb
theorem Din.putL (d : Din T H) (h1 : H p = some (.lst acc)) : Din T (upd H p (.lst acc')) := ⟨fun b hb => by
  by_cases e : b = p
  · rw [e, upd_same]
    exact fun z => by cases z
  · rw [upd_ne e]
    exact d.dn b hb, fun P hP => by
    obtain ⟨ps, g1, g2, g3⟩ := d.tb P hP
    refine ⟨ps, by rw [upd_ne (fun z => by rw [z, h1] at g1; cases g1)]; exact g1, g2, fun pos cv hc => ?_⟩
    obtain ⟨c, e1, e2⟩ := g3 pos cv hc
    exact ⟨c, e1, by rw [upd_ne (fun z => by rw [z, h1] at e2; unfold LamX.CodeO at e2; cases e2)]; exact e2⟩⟩
/-- all but what stands at p -/
def hole (p : Addr) (H : Hp) : Hp := fun b => if b = p then none else H b
theorem hole_ne {b : Addr} (h : b ≠ p) : hole p H b = H b := if_neg h
theorem hole_at : hole p H p = none := if_pos rfl
theorem sm_hole1 : Sm (hole p H) H := .of fun b o e => by
  by_cases hb : b = p
  · rw [hb, hole_at] at e
    cases e
  · rw [hole_ne hb] at e
    exact e
theorem sm_hole2 (s : Sm H0 H) (h0 : H0 p = none) (h1 : H p = some (.lst acc)) : Sm H0 (hole p H) := by
  refine ⟨fun b o e n => ?_, fun P t => ?_, fun b hb => ?_⟩
  · rw [hole_ne (fun z => by rw [z, h0] at e; cases e)]
    exact s.ob b o e n
  · obtain ⟨ps, g1, g2, g3⟩ := s.tb P t
    refine ⟨ps, by rw [hole_ne (fun z => by rw [z, h1] at g1; cases g1)]; exact g1, g2, fun pos cv hc => ?_⟩
    obtain ⟨c, e1, e2⟩ := g3 pos cv hc
    exact ⟨c, e1, by rw [hole_ne (fun z => by rw [z, h1] at e2; unfold LamX.CodeO at e2; cases e2)]; exact e2⟩
  · rw [hole_ne (fun z => hb (by rw [z]; exact h0))]
    exact s.dm b hb
/-- out of sight: T, and p -/
abbrev Also (T : Addr → Prop) (p : Addr) : Addr → Prop := fun b => T b ∨ b = p
end
section
variable {X : Cx} {a : Addr} {ρ : Rho} {e l r : Expr} {es : List Expr} {ds fs : List PyData} {d : PyData} {pos pos' p1 p2 : Pos} {i : Nat} {x : Str} {st : Stmt} {sts : List Stmt} {N : Rho → Prop} {R : PyData → Prop} {NL : Rho → List PyData → Prop}
/-- it makes a list of its own -/
def EvF (X : Cx) (a : Addr) (e : Expr) (ρ : Rho) (ds : List PyData) : Prop := ∀ T σ H, SD X.K a T H σ ρ → ∀ Q : VK, (∀ p acc H1, Sm H H1 → H1 p = none → DpAll X.K (off T H1) acc ds → Q (.ref p) (upd H1 p (.lst acc))) → JE X e σ H Q
theorem f_lst (h : EvA X a es ρ ds) (hl : ds.length ≤ 100000 := by first | (simp; done) | decide) : EvF X a (.List es pos) ρ ds := fun T σ H S Q q =>
  toE (pe_lst ja) (h T σ H S _ fun vs H1 s1 q1 => ⟨by rw [dps_len q1]; exact szl hl, fun p hp => q p vs H1 s1 hp q1⟩)
theorem f_cat (h1 : EvE X a l ρ (.list ds)) (h2 : EvE X a r ρ (.list fs)) (hl : ds.length + fs.length ≤ 100000) : EvF X a (.BinOp l .Add r pos) ρ (ds ++ fs) := fun T σ H S Q q =>
  toE (pe_op op_catX je je) (h1 T σ H S _ fun v1 H1 s1 q1 => h2 T σ H1 (S.same s1) _ fun v2 H2 s2 q2 => by
    obtain ⟨pa, xs, rfl, g1, g2⟩ := dpo_lst (dpo s2 q1)
    obtain ⟨pb, ys, rfl, g3, g4⟩ := dpo_lst q2
    exact ⟨pa, pb, xs, ys, rfl, rfl, g1, g3, by rw [dps_len g2, dps_len g4]; exact szl hl, fun p hp => q p _ H2 (s1.trans s2) hp (dps_append g2 g4)⟩)
/-- slot i holds the list that grows -/
abbrev ρp (ρ : Rho) (i : Nat) (p : Addr) : Rho := ρ.set i (some (.adr p))
structure Own (X : Cx) (a : Addr) (i : Nat) (T : Addr → Prop) (p : Addr) (H0 H : Hp) (σ : L2.St) (ρ : Rho) (ds : List PyData) : Prop where
  n0 : H0 p = none
  nT : ¬ T p
  sm : Sm H0 H
  sd : SD X.K a (Also T p) H σ (ρp ρ i p)
  lt : i < ρ.length
  at' : ∃ acc, H p = some (.lst acc) ∧ DpAll X.K (off (Also T p) H) acc ds
def RunL (X : Cx) (a : Addr) (i : Nat) (sts : List Stmt) (ρ : Rho) (ds : List PyData) (N : Rho → Prop) (R : PyData → Prop) : Prop := ∀ T p H0 σ H D, Own X a i T p H0 H σ ρ ds → (∀ σ' H' ρ', Sm H0 H' → SD X.K a T H' σ' ρ' → N ρ' → D.nx σ' H') → (∀ v H' d, Sm H0 H' → Dp X.K (off T H') v d → R d → D.rt v H') → JSs X sts D σ H
def RunLB (X : Cx) (a : Addr) (i : Nat) (sts : List Stmt) (ρ : Rho) (ds : List PyData) (NL : Rho → List PyData → Prop) (R : PyData → Prop) : Prop := ∀ T p H0 σ H D, Own X a i T p H0 H σ ρ ds → (∀ σ' H' ρ' ds', Own X a i T p H0 H' σ' ρ' ds' → NL ρ' ds' → D.nx σ' H') → (∀ v H' d, Sm H0 H' → Dp X.K (off T H') v d → R d → D.rt v H') → JSs X sts D σ H
def RunLS (X : Cx) (a : Addr) (i : Nat) (st : Stmt) (ρ : Rho) (ds : List PyData) (NL : Rho → List PyData → Prop) (R : PyData → Prop) : Prop := ∀ T p H0 σ H D, Own X a i T p H0 H σ ρ ds → (∀ σ' H' ρ' ds', Own X a i T p H0 H' σ' ρ' ds' → NL ρ' ds' → D.nx σ' H') → (∀ v H' d, Sm H0 H' → Dp X.K (off T H') v d → R d → D.rt v H') → JS X st D σ H
theorem l_cons (h : RunLS X a i st ρ ds (fun ρ' ds' => RunL X a i sts ρ' ds' N R) R) : RunL X a i (st :: sts) ρ ds N R := fun T p H0 σ H D O kn kr =>
  toSs (pss_cons js jss) (h T p H0 σ H { D with nx := fun σ' H' => JSs X sts D σ' H' } O (fun σ' H' ρ' ds' O' hN => hN T p H0 σ' H' D O' kn kr) kr)
theorem lb_cons (h : RunLS X a i st ρ ds (fun ρ' ds' => RunLB X a i sts ρ' ds' NL R) R) : RunLB X a i (st :: sts) ρ ds NL R := fun T p H0 σ H D O kn kr =>
  toSs (pss_cons js jss) (h T p H0 σ H { D with nx := fun σ' H' => JSs X sts D σ' H' } O (fun σ' H' ρ' ds' O' hN => hN T p H0 σ' H' D O' kn kr) kr)
theorem lb_nil (h : NL ρ ds) : RunLB X a i [] ρ ds NL R := fun T p H0 σ H D O kn kr => toSs pss_nil (kn σ H ρ ds O h)
theorem lb_one (h : RunLS X a i st ρ ds NL R) : RunLB X a i [st] ρ ds NL R := fun T p H0 σ H D O kn kr => toSs (pss_one js) (h T p H0 σ H D O kn kr)
theorem ρp_self {ρ : Rho} {y : Option DV} {p : Addr} : (ρp ρ i p).set i y = ρ.set i y := List.set_set ..
theorem Own.free {T : Addr → Prop} {p : Addr} {H0 H : Hp} {σ : L2.St} (O : Own X a i T p H0 H σ ρ ds) : SD X.K a T H σ (ρ.set i (some (.dat (.list ds)))) := by
  obtain ⟨acc, h1, h2⟩ := O.at'
  refine ⟨by rw [O.sd.len]; simp, ⟨fun b hb => O.sd.dm.dn b (.inl hb), O.sd.dm.tb⟩, fun j y e => ?_⟩
  by_cases hj : i = j
  · subst hj
    rw [List.getElem?_set_self O.lt] at e
    cases e
    obtain ⟨v, g1, g2⟩ := O.sd.sl i (.adr p) (by rw [List.getElem?_set_self O.lt])
    have g2 : v = .ref p := g2
    subst g2
    exact ⟨_, g1, .lst (.of (by rw [off_no O.nT]; exact h1)) (dps_same off_less h2)⟩
  · rw [List.getElem?_set_ne hj] at e
    obtain ⟨v, g1, g2⟩ := O.sd.sl j y (by rw [List.getElem?_set_ne hj]; exact e)
    refine ⟨v, g1, ?_⟩
    cases y with
    | dat d => exact dp_same off_less g2
    | hnd => exact g2
    | adr _ => exact g2
    | val R => exact VR.same (R := R) off_less g2
theorem l_free (h : Run X a sts (ρ.set i (some (.dat (.list ds)))) N R) : RunL X a i sts ρ ds N R := fun T p H0 σ H D O kn kr =>
  h T σ H D O.free (fun σ' H' ρ' s S' hN => kn σ' H' ρ' (O.sm.trans s) S' hN) fun v H' d s q hR => kr v H' d (O.sm.trans s) q hR
theorem r_new {y : Str} (G : Good X) (h : EvF X a e ρ ds) (hlt : i < ρ.length) (hn : RunL X a i sts ρ ds N R) (hi : X.N[i]? = some y := by rfl) (hx : Loc X.env.scope y := by first | exact Or.inl rfl | exact Or.inr rfl)
    (hs : swapsWith e (some (.Name y pos')) pos.line X.env = pure false := by rfl) (hf : X.fn y = true ∨ X.env.scope.names.lookup y = some .local := by first | exact .inl rfl | exact .inr rfl) : Run X a (.Assign [.Name y pos'] e pos :: sts) ρ N R := fun T σ H D S kn kr =>
  toSs (pss_cons js jss) (toS (ps_set G.nd hi hx je hs hf) (h T σ H S _ fun p acc H1 s1 hp q1 => by
    have S1 := S.same s1
    have n0 : H p = none := by
      cases q : H p with
      | none => rfl
      | some o => exact (s1.dm p (by rw [q]; exact fun z => by cases z) hp).elim
    have e0 : off (Also T p) (upd H1 p (.lst acc)) = off T H1 := off_more hp
    refine hn T p H _ _ D ⟨n0, fun z => S1.dm.dn p z hp, s1.trans (same_new hp), (S1.more hp).put (x := .adr p) rfl, hlt, acc, upd_same, by rw [e0]; exact q1⟩ kn kr))
/-- what leaves the list alone -/
theorem ls_of (h : ∀ p, RunS X a st (ρp ρ i p) (fun ρ1 => ∃ ρ', ρ1 = ρp ρ' i p ∧ i < ρ'.length ∧ NL ρ' ds) R) : RunLS X a i st ρ ds NL R := fun T p H0 σ H D O kn kr => by
  obtain ⟨acc, h1, h2⟩ := O.at'
  refine h p (Also T p) σ H D O.sd (fun σ' H' ρ1 s S' hN => ?_) fun v H' d s q hR => kr v H' d (O.sm.trans s) (dp_same off_less q) hR
  obtain ⟨ρ', rfl, hl, hN⟩ := hN
  exact kn σ' H' ρ' ds ⟨O.n0, O.nT, O.sm.trans s, S', hl, acc, s.ob _ _ h1 (by intro ps z; cases z), dpso s h2⟩ hN
theorem ls_append {y : Str} (h : ∀ p, EvE X a e (ρp ρ i p) d) (hn : NL ρ (ds ++ [d])) (hz : ds.length < 100000) (hi : X.N[i]? = some y := by rfl) (hv : Vis X.env.scope y := by first | exact Or.inl rfl | exact Or.inr (Or.inl rfl) | exact Or.inr (Or.inr rfl)) (hd : (y == ("__debug__" : Str)) = false := by decide) (hcd : (y == ("__classdict__" : Str)) = false := by decide)
    (hbase : attributeBase (.Name y p1) "append" X.env (eval (.Name y p1) X.env) = eval (.Name y p1) X.env := by rfl)
    (hfew : ((backTo pos (starEach [e] X.env)).all (fun x => !x.1) && (backToKw pos (keywordEach [] X.env)).all (fun x => x.1.isSome) && decide ([e].length + ([] : List Keyword).length + (if ([] : List Keyword).isEmpty then 0 else 1) < 30)) = true := by rfl)
    (hline : (p2.endLine == pos.line) = true := by rfl) (hst : starEach [e] X.env = (false, eval e X.env) :: starEach [] X.env := by exact star_of rfl) (hsw : swapsWith (.Call (.Attribute (.Name y p1) "append" p2) [e] [] pos) none pos'.line X.env = pure false := by rfl) :
    RunLS X a i (.Expr (.Call (.Attribute (.Name y p1) "append" p2) [e] [] pos) pos') ρ ds NL R := fun T p H0 σ H D O kn kr => by
  obtain ⟨acc, h1, h2⟩ := O.at'
  obtain ⟨v, g1, g2⟩ := O.sd.sl i (.adr p) (by rw [List.getElem?_set_self O.lt])
  have g2 : v = .ref p := g2
  subst g2
  refine toS (ps_expr (pe_bm PySem.F.plainAttrs_list PySem.F.slot_list_append PySem.F.type_list_append mt_append (pe_var hi hv hd hcd) (pa_cons je pa_nil hst) hbase hfew hline hst rfl) hsw) ⟨.ref p, g1, ?_, ?_⟩
  · exact .inl ⟨rfl, acc, .of h1⟩
  refine h p (Also T p) σ H O.sd _ fun y' H2 s2 q2 => ?_
  have a2 : H2 p = some (.lst acc) := s2.ob _ _ h1 (by intro ps z; cases z)
  refine ⟨p, acc, y', rfl, rfl, a2, Nat.lt_of_lt_of_le (by rw [dps_len h2]; exact hz) (szl (n := 100000) (Nat.le_refl _)), ?_⟩
  have S2 := O.sd.same s2
  have eo : off (Also T p) (upd H2 p (.lst (acc ++ [y']))) = off (Also T p) H2 := off_put (.inr rfl)
  refine kn σ _ ρ (ds ++ [d]) ⟨O.n0, O.nT, sm_putL (O.sm.trans s2) O.n0 a2, ⟨S2.len, S2.dm.putL a2, fun j z e => ?_⟩, O.lt, acc ++ [y'], upd_same, by rw [eo]; exact dps_snoc (dpso s2 h2) q2⟩ hn
  rw [eo]
  exact S2.sl j z e
theorem ls_if {c : Expr} {b : Bool} {body orelse : List Stmt} (hc : ∀ p, EvT X a c (ρp ρ i p) b) (h1 : b = true → RunLB X a i body ρ ds NL R) (h2 : b = false → RunLB X a i orelse ρ ds NL R) : RunLS X a i (.If c body orelse pos) ρ ds NL R := fun T p H0 σ H D O kn kr => by
  obtain ⟨acc, g1, g2⟩ := O.at'
  refine toS (ps_if jt jss jss) (hc p (Also T p) σ H O.sd _ fun H1 s1 => ?_)
  have O1 : Own X a i T p H0 H1 σ ρ ds := ⟨O.n0, O.nT, O.sm.trans s1, O.sd.same s1, O.lt, acc, s1.ob _ _ g1 (by intro ps z; cases z), dpso s1 g2⟩
  cases b with
  | true => exact iteT (h1 rfl T p H0 σ H1 D O1 kn kr)
  | false => exact iteF (h2 rfl T p H0 σ H1 D O1 kn kr)
theorem ls_for {tg it : Expr} {items : List PyData} {g : TG} {vs : List Nat} {f : PyData → Rho → Option Rho} {body : List Stmt} (G : Good X) (hs : ∀ p, Src X a tg it (ρp ρ i p) items) (hg : PG X tg g) (ht : TgSem X.K a g vs f) (J : Nat → Rho → List PyData → Prop) (h0 : J 0 ρ ds)
    (hb : ∀ n d ρ1 ds1, items[n]? = some d → J n ρ1 ds1 → i < ρ1.length → ∃ ρ2, (∀ p, f d (ρp ρ1 i p) = some (ρp ρ2 i p)) ∧ i < ρ2.length ∧ RunLB X a i body ρ2 ds1 (fun ρ' ds' => J (n + 1) ρ' ds') R) (hd : ∀ ρ' ds', J items.length ρ' ds' → NL ρ' ds')
    (hf : ∀ x, foldedSetIterable it X.env x = pure x := by intro _; rfl) : RunLS X a i (.For tg it body [] pos) ρ ds NL R := fun T p H0 σ H D O kn kr => by
  obtain ⟨acc0, a1, a2⟩ := O.at'
  obtain ⟨wi, hw, hq⟩ := hs p
  refine toS (ps_for G.ow G.calm hw hg jss hf) (hq (Also T p) σ H O.sd _ fun Ji H1 Gd Y s1 w hG hY => ?_)
  have O1 : Own X a i T p H0 H1 σ ρ ds := ⟨O.n0, O.nT, O.sm.trans s1, O.sd.same s1, O.lt, acc0, s1.ob _ _ a1 (by intro ps z; cases z), dpso s1 a2⟩
  have sees : ∀ {H'}, (∀ b o, b ≠ p → H1 b = some o → (∀ ps, o ≠ .tbl ps) → H' b = some o) → Din (Also T p) H' → Sees (Also T p) H1 (Also T p) H' := fun {H'} k dm => ⟨dm, fun b o e n => by
    obtain ⟨e1, e2⟩ := off_some e
    rw [off_no e2]
    exact k b o (fun z => e2 (.inr z)) e1 n⟩
  refine for_it w (fun n σ' H' => (∀ b o, b ≠ p → H1 b = some o → (∀ ps, o ≠ .tbl ps) → H' b = some o) ∧ ∃ ρ' ds', Own X a i T p H0 H' σ' ρ' ds' ∧ J n ρ' ds') ⟨fun b o _ e _ => e, ρ, ds, O1, h0⟩
    (fun n σ' H' _ hp => hG _ H' (by obtain ⟨k, _, _, O', _⟩ := hp; exact sees k O'.sd.dm)) (fun n x σ' H' H'' hi hp y => ?_) fun σ' H' hp => ?_
  · obtain ⟨k, ρ1, ds1, O', hj⟩ := hp
    obtain ⟨s3, d, hdi, pd⟩ := hY _ n H' x H'' hi (sees k O'.sd.dm) y
    obtain ⟨ρ2, e2, hl2, hrun⟩ := hb n d ρ1 ds1 hdi hj O'.lt
    obtain ⟨acc, b1, b2⟩ := O'.at'
    have c1 : H'' p = some (.lst acc) := s3.ob _ _ b1 (by intro ps z; cases z)
    refine ht (Also T p) σ' H'' x d _ _ (O'.sd.same s3) pd (e2 p) _ fun σ2 S2 _ => ?_
    refine hrun T p (hole p H'') σ2 H'' _ ⟨hole_at, O.nT, sm_hole1, S2, hl2, acc, c1, dpso s3 b2⟩ (fun σ3 H3 ρ3 ds3 O3 j3 => ?_) fun v H3 d' s4 q4 hR => kr v H3 d' ((sm_hole2 (O'.sm.trans s3) O.n0 c1).trans s4) q4 hR
    refine ⟨fun b o hb e n => O3.sm.ob b o (by rw [hole_ne hb]; exact s3.ob b o (k b o hb e n) n) n, ρ3, ds3, ⟨O.n0, O.nT, (sm_hole2 (O'.sm.trans s3) O.n0 c1).trans O3.sm, O3.sd, O3.lt, O3.at'⟩, j3⟩
  · obtain ⟨k, ρ1, ds1, O', hj⟩ := hp
    exact kn σ' H' ρ1 ds1 O' (hd ρ1 ds1 hj)
end
end Zj
namespace Zj
open PySem PySem.Spec PyProof.Rows L2
variable [Nm]
/-- the name that a lambda of the def x bears -/
def lq (x : Str) : Str := (envOfC x { kind := .function, names := [], isGenerator := false, isCoroutine := false } 0 0 .none).qual ++ "<lambda>"
/-- the table of a def with lambdas -/
structure Lmb (base : Heap) (mg : Str → Option Value) (fd : FuncData) (x : Str) : Prop where
  ex : ∃ c P, fd.code = .ref c ∧ LamX.TabB base mg c P ∧ P ∈ Nm.tabs ∧ Nm.nm P = lq x
section
variable {X : Cx} {a : Addr} {ρ : Rho} {scope : Scope} {o : Out} {f : Str} {ps : List Str} {R : List PyData → Out → Prop} {ds : List PyData} {e : Expr} {es : List Expr} {p pos : Pos} {kk : Nat} {kws : List Keyword} {ks : List Str} {st : Stmt}
theorem lam_call (C : CalX X.prog X.w X.K X.mg X.base kk f ps (spX X.K X.mg R)) (hR : R ds o) (ha : ∀ A outer s H E f' c', EvA (lamX X A outer s H E scope f' c') a (e :: es) ρ ds) (hg : ∀ A outer s H E f' c', Gl (lamX X A outer s H E scope f' c') f := by intros; rfl) (hdb : (f == ("__debug__" : Str)) = false := by decide)
    (he : ∀ env : Env, starEach (e :: es) env = (false, eval e env) :: starEach es env := by exact fun _ => star_of rfl) (hpl : ∀ env : Env, (backTo pos (starEach es env)).any (·.1) = false := by exact fun _ => star_no rfl) : LamO X a ρ scope (.Call (.Name f p) (e :: es) [] pos) kk o := fun A outer s H E f' c' hgd hr => by
  cases o with
  | ok d => exact e_callX (X := lamX X A outer s H E scope f' c') C hr (ha A outer s H E f' c') hR (hg A outer s H E f' c') hdb (he _) (hpl _)
  | ex x => exact x_call (X := lamX X A outer s H E scope f' c') C hr (ha A outer s H E f' c') hR (hg A outer s H E f' c') hdb (he _) (hpl _)
theorem lam_callK (fl : Bool) (hne : ps ≠ []) (C : CalXK X.prog X.w X.K X.mg X.base kk f st ps (spX X.K X.mg R)) (hR : R (turn2 fl ds) o) (ha : ∀ A outer s H E f' c', EvK (lamX X A outer s H E scope f' c') a kws ρ ds)
    (hb : ∀ (kV doc pm : Value) (an : Option Addr) (cdv ct : Value) (ws : List Value), ws.length = ps.length → bindArgs (PySem.W.fnOf f f (defArgs st) (defBody st) (defScope st) .none kV doc pm an cdv ct) ⟨[], ks.zip ws⟩ = pure (ps.zip (turn2 fl ws)))
    (hg : ∀ A outer s H E f' c', Gl (lamX X A outer s H E scope f' c') f := by intros; rfl) (hall : ∀ env : Env, (backToKw pos (keywordEach kws env)).all (·.1.isSome) = true := by intros; rfl) (hks : ∀ env : Env, (backToKw pos (keywordEach kws env)).filterMap (·.1) = ks := by intros; rfl)
    (hdb : (f == ("__debug__" : Str)) = false := by decide) (hpl : ∀ env : Env, ((backTo pos (starEach [] env)).any (·.1) || (backToKw pos (keywordEach kws env)).any (·.1.isNone)) = false := by intros; rfl) :
    LamO X a ρ scope (.Call (.Name f p) [] kws pos) kk o := fun A outer s H E f' c' hgd hr => by
  cases o with
  | ok d => exact e_callXK (X := lamX X A outer s H E scope f' c') fl hne C hr (ha A outer s H E f' c') hR hb (hg A outer s H E f' c') (hall _) (hks _) hdb (hpl _)
  | ex x => exact x_callK (X := lamX X A outer s H E scope f' c') fl hne C hr (ha A outer s H E f' c') hR hb (hg A outer s H E f' c') (hall _) (hks _) hdb (hpl _)
theorem src_ZL {e2 : Expr} {elts : List Expr} {kc : Nat} {tpos : Pos} {ds2 : List PyData} (h : EvA X a [e, e2] ρ [.list ds, .list ds2]) (hm : X.mg "zip" = none) (hg : Gl X "zip" := by rfl)
    (hs : starEach [e, e2] X.env = (false, eval e X.env) :: starEach [e2] X.env := by exact star_of rfl) (hpl : (backTo pos (starEach [e2] X.env)).any (·.1) = false := by exact star_no rfl) :
    Src X a (.Tuple elts kc tpos) (.Call (.Name "zip" p) [e, e2] [] pos) ρ (List.zipWith (fun x y => PyData.tuple [x, y]) ds ds2) := ⟨_, RZ.pi_zipA hg hm ja hs hpl, fun T σ H S Rr kr => h T σ H S _ fun vs H1 s1 p1 => by
  obtain ⟨v, v2, rfl, q, q2⟩ := dps2 p1
  obtain ⟨pa, xs, rfl, g1, g2⟩ := dp_lst q
  obtain ⟨pb, ys, rfl, g3, g4⟩ := dp_lst q2
  have hl := dps_len g2
  have hl2 := dps_len g4
  refine ⟨pa, pb, xs, ys, rfl, .inl ⟨same_l off_in _ _ g1, same_l off_in _ _ g3, kr _ H1 _ _ s1 (walk_zip (xs := xs) (ys := ys) (by rw [List.length_zipWith, hl, hl2])) (fun T' H' s => ⟨same_l off_in _ _ (same_l s.2 _ _ g1), same_l off_in _ _ (same_l s.2 _ _ g3)⟩) fun T' i H' x H'' hin s y => ?_⟩⟩
  obtain ⟨T0, y1, y2, rfl, hT, rfl, e1, e2⟩ := y
  have e1 : xs[i]? = some y1 := e1
  have e2 : ys[i]? = some y2 := e2
  obtain ⟨d, hd⟩ : ∃ d, ds[i]? = some d := by
    have := (List.getElem?_eq_some_iff.mp e1).1
    exact ⟨ds[i]'(by omega), by simp⟩
  obtain ⟨d2, hd2⟩ : ∃ d, ds2[i]? = some d := by
    have := (List.getElem?_eq_some_iff.mp e2).1
    exact ⟨ds2[i]'(by omega), by simp⟩
  obtain ⟨v, hv, pv⟩ := dps_get g2 hd
  rw [e1] at hv
  cases hv
  obtain ⟨v2, hv2, pv2⟩ := dps_get g4 hd2
  rw [e2] at hv2
  cases hv2
  exact ⟨same_new hT, _, by rw [List.getElem?_zipWith, hd, hd2], dpo_pair s.1 hT (dp_same s.2 pv) (dp_same s.2 pv2)⟩⟩
theorem od_catA {es fs : List PyData} (hl : es.length + fs.length ≤ 100000) : OpD X (binaryOp .Add) (.tuple es) (.tuple fs) (.tuple (es ++ fs)) :=
  ⟨_, op_catA, fun T v1 v2 H dm q1 q2 Q q => by
    obtain ⟨pa, xs, rfl, g1, g2⟩ := dpo_tup q1
    obtain ⟨pb, ys, rfl, g3, g4⟩ := dpo_tup q2
    have l1 := dps_len g2
    have l2 := dps_len g4
    refine ⟨pa, pb, xs, ys, rfl, rfl, g1, g3, by rw [l1, l2]; exact szl hl, fun z => ?_, fun z1 z2 => ?_, fun z1 z2 r hr => q _ _ (same_new hr) (dpo_newT dm hr (dps_append g2 g4))⟩
    · rw [z] at l1
      rw [List.eq_nil_of_length_eq_zero l1.symm] at q
      exact q _ H (Sm.refl H) q2
    · rw [z2] at l2
      rw [List.eq_nil_of_length_eq_zero l2.symm, List.append_nil] at q
      exact q _ H (Sm.refl H) q1⟩
theorem e_slA {eo : Expr} {lo hi : Option Expr} {xl xh : Option Int} {pp : Pos} (h1 : EvE X a eo ρ (.tuple ds)) (h2 : EvO X a lo ρ xl) (h3 : EvO X a hi ρ xh) : EvE X a (.Subscript eo (.Slice lo hi none pp) pos) ρ (.tuple (cutD ds xl xh)) := fun T σ H S Q q => by
  obtain ⟨tl, g2, k2⟩ := h2
  obtain ⟨th, g3, k3⟩ := h3
  refine toE (pe_slice sl_tupA je g2 g3) (h1 T σ H S _ fun v1 H1 s1 q1 => k2 T σ H1 (S.same s1) _ fun H2 s2 => k3 T σ H2 (S.same (s1.trans s2)) _ fun H3 s3 => ?_)
  have q3 := dpo (s2.trans s3) q1
  obtain ⟨pa, xs, rfl, g4, g5⟩ := dpo_tup q3
  have hl := dps_len g5
  refine ⟨pa, xs, rfl, g4, fun z => ?_, fun _ p' hp => q _ _ (((s1.trans s2).trans s3).trans (same_new hp)) (dpo_newT (S.dm.same ((s1.trans s2).trans s3)) hp (cut_dps g5 xl xh))⟩
  have e : cutD ds xl xh = ds := by
    unfold cutD
    rw [← hl, z.1, z.2, List.drop_zero, Nat.sub_zero, hl, List.take_length]
  rw [e] at q
  exact q _ _ ((s1.trans s2).trans s3) q3
end
end Zj
namespace Zj
open PySem PySem.Spec PyProof.Rows L2
variable [Nm]
section
variable {X : Cx} {a : Addr} {ρ : Rho} {m i : Nat} {b : Int} {e : Expr} {p pm pos : Pos} {y : Str}
/-- a number from 0 to b - 1 is drawn -/
theorem m_draw (C : CalG X.prog X.w X.K X.mg X.base 1 "_law_draw" ["m", "bound"] (spM X.K 1 R_draw)) (hgd : X.A.guards = some []) (hr : Room 1 X.A) (hi : ρ[i]? = some (some .hnd)) (he : EvE X a e ρ (.int b)) (h0 : 0 < b) (hb : b < 2 ^ 60)
    (hN : X.N[i]? = some y := by rfl) (hv : Vis X.env.scope y := by first | exact Or.inl rfl | exact Or.inr (Or.inl rfl) | exact Or.inr (Or.inr rfl)) (hd : (y == ("__debug__" : Str)) = false := by decide) (hcd : (y == ("__classdict__" : Str)) = false := by decide)
    (hs : starEach [.Name y pm, e] X.env = (false, eval (.Name y pm) X.env) :: starEach [e] X.env := by exact star_of rfl) (hs2 : starEach [e] X.env = (false, eval e X.env) :: starEach [] X.env := by exact star_of rfl) (hg : Gl X "_law_draw" := by rfl) (hpl : (backTo pos (starEach [e] X.env)).any (·.1) = false := by exact star_no rfl) :
    EvM X a (.Call (.Name "_law_draw" p) [.Name y pm, e] [] pos) ρ (m + 1) m (fun d => ∃ r : Int, d = .int r ∧ 0 ≤ r ∧ r < b) :=
  m_call C hgd hr hi (a_cons he a_nil hs2) ⟨b, rfl, h0, bits_small (by omega) hb, fun r r0 r1 => ⟨r, rfl, r0, r1⟩⟩ (Nat.le_refl _) hN hv hd hcd hs hg (by decide) hpl
end
end Zj
/-! Written data. -/
namespace Zj
open PySem PySem.Spec PyProof.Rows L2
mutual
/-- whether an expression of constants is the data -/
def isC : Expr → PyData → Bool
  | .Constant (.int i) _ _, .int j => decide (i = j)
  | .Constant (.bool b) _ _, .bool c => b == c
  | .Constant (.str s) _ _, .str t => decide (s = t)
  | .Constant .none _ _, .none => true
  | .UnaryOp .USub (.Constant (.int i) _ _) _, .int j => decide (-i = j)
  | .Tuple es _ _, .tuple ds => decide (ds.length ≤ 100000) && isCs es ds
  | .List es _, .list ds => decide (ds.length ≤ 100000) && isCs es ds
  | _, _ => false
def isCs : List Expr → List PyData → Bool
  | [], [] => true
  | e :: es, d :: ds => notStar e && (isC e d && isCs es ds)
  | _, _ => false
end
variable [Nm]
mutual
theorem e_const {X : Cx} {a : Addr} {ρ : Rho} (e : Expr) (d : PyData) (h : isC e d = true) : EvE X a e ρ d := by
  unfold isC at h
  split at h
  · obtain rfl := of_decide_eq_true h
    exact e_int
  · obtain rfl := eq_of_beq h
    exact e_bl
  · obtain rfl := of_decide_eq_true h
    exact e_str
  · exact e_non
  · obtain rfl := of_decide_eq_true h
    exact e_neg e_int
  · rw [Bool.and_eq_true] at h
    exact e_tup (a_const _ _ h.2) (of_decide_eq_true h.1)
  · rw [Bool.and_eq_true] at h
    exact e_lst (a_const _ _ h.2) (of_decide_eq_true h.1)
  · cases h
termination_by sizeOf e
theorem a_const {X : Cx} {a : Addr} {ρ : Rho} (es : List Expr) (ds : List PyData) (h : isCs es ds = true) : EvA X a es ρ ds := by
  unfold isCs at h
  split at h
  · exact a_nil
  · rw [Bool.and_eq_true, Bool.and_eq_true] at h
    exact a_cons (e_const _ _ h.2.1) (a_const _ _ h.2.2) (star_of h.1)
  · cases h
termination_by sizeOf es
end
theorem e_c {X : Cx} {a : Addr} {ρ : Rho} {e : Expr} {d : PyData} (h : isC e d = true) : EvE X a e ρ d := e_const e d h
theorem a_c {X : Cx} {a : Addr} {ρ : Rho} {es : List Expr} {ds : List PyData} (h : isCs es ds = true) : EvA X a es ρ ds := a_const es ds h
end Zj
namespace Zj
open PySem PySem.Spec PyProof.Rows L2
variable [Nm]
section
variable {X : Cx} {a : Addr} {ρ : Rho} {n m k lv : Nat} {e f : Expr} {es rest : List Expr} {pos p : Pos} {PB : Bool → Prop} {P : PyData → Prop} {x : Str} {ps : List Str}
theorem mt_andT (h : EvT X a e ρ true) (h2 : EvMT X a (.BoolOp .And (f :: rest) pos) ρ n k PB) : EvMT X a (.BoolOp .And (e :: f :: rest) pos) ρ n k PB := fun T σ H S ms Q q =>
  toT (PW.pt (pw_and jt pw_self)) (h T σ H S _ fun H1 s1 => iteT (h2 T σ H1 (S.same s1) (ms.same (off_same s1)) _ fun b H2 s2 ms2 hb => q b H2 ((Kp.of s1).trans s2) ms2 hb))
theorem mt_and1 (h : EvMT X a e ρ n m PB) : EvMT X a (.BoolOp .And [e] pos) ρ n m PB := fun T σ H S ms Q q => toT (PW.pt (pw_and1 jt)) (h T σ H S ms Q q)
/-- a def that keeps all and asks for texts, of what was drawn -/
theorem m_callRG {R : List PyData → PyData → Prop} {PA : List PyData → Prop} (C : CalG X.prog X.w X.K X.mg X.base lv x ps (spR X.K R)) (hgd : X.A.guards = some []) (hr : Room lv X.A) (ha : EvMA X a (e :: es) ρ n m PA) (hR : ∀ ds, PA ds → ∃ d, R ds d ∧ P d)
    (hg : Gl X x := by rfl) (hdb : (x == ("__debug__" : Str)) = false := by decide) (he : starEach (e :: es) X.env = (false, eval e X.env) :: starEach es X.env := by exact star_of rfl) (hpl : (backTo pos (starEach es X.env)).any (·.1) = false := by exact star_no rfl) :
    EvM X a (.Call (.Name x p) (e :: es) [] pos) ρ n m P := fun T σ H S ms Q q =>
  toE (pe_callG C hgd hr ja hg hdb he hpl) (ha T σ H S ms _ fun vs ds H1 s1 ms1 p1 hp => by
    obtain ⟨d, h1, h2⟩ := hR ds hp
    exact ⟨T, ds, d, (S.kpo s1 ms).dm, p1, h1, fun v H2 s2 p2 => q v d H2 (s1.trans (.of s2)) (ms1.same (off_same s2)) p2 h2⟩)
end
end Zj
/-! The law's own call, at the top, where tables of code objects are filled. -/
namespace Zj
open PySem PySem.Spec PyProof.Rows L2
section
variable {P : Program} {w : World} {K : PySem.W.Frag} {mg mb : Str → Option Value} {k : Nat} {fa a : Addr} {fd : FuncData} {x : Str} {sp : Sp} {s1 : Shared} {vs : List Value} {ns : List Int} {cs : List (Addr × Addr)}
theorem tab_empty {H : Hp} {Pt : Addr} {q : Str} (h : H Pt = some (.tbl #[])) : LamX.TabS H Pt q := ⟨#[], h, trivial, fun pos cv hc => by cases hc⟩
/-- from an abstract heap that tracks the script or nothing, and the tables -/
theorem law_coreT (KX : K.In s1.heap) (hns : s1.heap.Ns mainGlobals mg) (hb : s1.heap.Ns builtinsNs mb) (hbb : ∀ x : Str, x ≠ "__name__" → mb x = bootBuiltins x) (hlim : s1.heap.NoLimit) (hg : s1.gens = #[])
    (hT : ∀ p ∈ cs, s1.heap.get? p.2 = some { cls := .none, data := .fields #[] }) (nT : ∀ p ∈ cs, K.lookup p.2 = none) (hC : ∀ p ∈ cs, PySem.W.CodeHd s1.heap p.1 p.2)
    (hbm : ∃ (bm : Addr) (ob : Obj), mg "__builtins__" = some (.ref bm) ∧ bm ≠ builtinsNs ∧ s1.heap.get? bm = some ob ∧ ob.cls = .type "module" ∧ ob.dict = some builtinsNs ∧ ob.data = .plain)
    (ha : s1.heap.get? a = some { cls := .type "list", data := .seq vs.toArray }) (hr : Room k callerA)
    (F : ∀ base : Heap, K.In base → base.Ns mainGlobals mg → (∀ p ∈ cs, LamX.TabB base mg p.1 p.2) → FnG P w K mg base CX0 k fa fd [x] sp) (hbind : ∀ (s : Shared) (u : Value), BindsTo s fd ⟨[u], []⟩ [(x, u)])
    {H : Hp} (hH : ∀ p ∈ cs, H p.2 = some (.tbl #[])) (hO : ∀ b, H b = none ∨ (∃ p ∈ cs, p.2 = b) ∨ ∃ o xs, H b = some (.frz o (.lst xs))) (hok : HOk P w H s1.heap) (hA : ∀ b, H b ≠ none → b = a ∨ ∃ p ∈ cs, p.2 = b) (hK : H a ≠ none → K.lookup a = none)
    (hsp : sp [.ref a] H (fun v _ => v = .bl true) fun _ _ _ => False) :
    codeAny (model P w) callerA (.call (.ref fa) ⟨[.ref a], []⟩) (fun r s' => r = .ok (.ret (.bool true)) ∧ OldK s1.heap s'.heap ∧ s'.os = s1.os ∧ AllBare s'.gens) s1 := by
  have only : ∀ {b : Addr} {o : Obj}, s1.heap.get? b = some o → (∀ vs n, o.data ≠ .seq vs n) → o.data ≠ .fields #[] → H b = none := fun {b o} e d1 d2 => by
    cases q : H b with
    | none => rfl
    | some u =>
      rcases hA b (by rw [q]; exact fun z => by cases z) with e' | ⟨p, hp, e'⟩
      · rw [e', ha] at e
        cases e
        exact (d1 _ _ rfl).elim
      · rw [← e', hT p hp] at e
        cases e
        exact (d2 rfl).elim
  have ns' : ∀ {b : Addr} {m : Str → Option Value}, s1.heap.Ns b m → (hidT s1.heap H).Ns b m := fun {b m} ⟨o, es, ep, e, d, r⟩ =>
    ⟨o, es, ep, hidT_get e (only e (fun vs n z => by rw [d] at z; cases z) fun z => by rw [d] at z; cases z), d, r⟩
  have kin : K.In (hidT s1.heap H) := fun b o e => by
    refine hidT_get (KX b o e) ?_
    cases q : H b with
    | none => rfl
    | some u =>
      rcases hA b (by rw [q]; exact fun z => by cases z) with e' | ⟨p, hp, e'⟩
      · subst e'
        rw [hK (by rw [q]; exact fun z => by cases z)] at e
        cases e
      · rw [← e', nT p hp] at e
        cases e
  have tb : ∀ p ∈ cs, LamX.TabB (hidT s1.heap H) mg p.1 p.2 := fun p hp => by
    have tp := hT p hp
    have gl : mainGlobals ≠ p.2 := fun z => by
      obtain ⟨o, es, ep, e, d, _⟩ := hns
      rw [z, tp] at e
      cases e
      cases d
    refine ⟨?_, ?_, gl⟩
    · obtain ⟨o, us, file, tf, flags, tg, inF, text, tt, c1, c2, c3, c4, c5⟩ := hC p hp
      refine ⟨o, us, file, tf, flags, tg, inF, text, tt, hidT_get c1 (only c1 (fun vs n z => by rw [c3] at z; cases z) fun z => ?_), c2, c3, c4, c5⟩
      rw [c3] at z
      cases z
      simp at c4
    · obtain ⟨bm, ob, b1, b2, b3, b4, b5, b6⟩ := hbm
      refine ⟨bm, ob, b1, b2, fun z => ?_, fun z => ?_, hidT_get b3 (only b3 (fun vs n z => by rw [b6] at z; cases z) fun z => by rw [b6] at z; cases z), b4, b5, b6⟩
      · obtain ⟨o, es, ep, e, d, _⟩ := hns
        rw [z, e] at b3
        cases b3
        rw [d] at b6
        cases b6
      · rw [z, tp] at b3
        cases b3
        cases b6
  obtain ⟨mc, lim1, lim2⟩ := hlim
  have md : L2.Mod K mg (hidT s1.heap H) := ⟨kin, ns' hns, ⟨mb, ns' hb, hbb⟩, ⟨mc, ns' lim1, lim2⟩⟩
  have e0 : Env0 P w K mg (hidT s1.heap H) callerA [] s1 H := {
    frames := rfl
    mod := md
    bs := fun b o e => of_hidT e
    bsz := Nat.le_of_eq (hidT_size _ _)
    funs := trivial
    frf := fun b z => by cases z
    hok := hok
    bare := .of_eq hg }
  have run := (F _ kin (ns' hns) tb).run callerA [] s1 H ⟨[.ref a], []⟩ [.ref a] [.ref a] _ _ rfl hr e0 (hbind s1 (.ref a)) (.cons rfl .nil) hsp
  refine codeAny_mono run fun r s' h => ?_
  match r, h with
  | .error e, h => exact h.elim
  | .ok .next, h => exact h.elim
  | .ok .brk, h => exact h.elim
  | .ok .cont, h => exact h.elim
  | .ok (.ret u), h =>
    obtain ⟨v, H', os, bare, un, hok', r', q⟩ := h
    cases q
    cases r'
    have stay : ∀ b o, (¬ ∃ p ∈ cs, p.2 = b) → s1.heap.get? b = some o → s'.heap.get? b = some o := fun b o nb e => by
      rcases hO b with z | z | ⟨ob, xs, z⟩
      · exact un.keep b o e z (fun y => by cases y) (fun y => by cases y)
      · exact absurd z nb
      · have g1 := (hok b _ z).1
        have g2 := (hok' b _ (un.frzs b ob _ z)).1
        rw [e] at g1
        cases g1
        exact g2
    have grew : ∀ p ∈ cs, ∃ more : Array Value, s'.heap.get? p.2 = some { cls := .none, data := .fields more } := fun p hp => by
      obtain ⟨more, z⟩ := un.tbls p.2 #[] (hH p hp)
      exact ⟨_, hok' p.2 _ z⟩
    refine ⟨rfl, ⟨fun b o e => ?_, fun b o e => ?_⟩, os, bare⟩
    · by_cases hb' : ∃ p ∈ cs, p.2 = b
      · obtain ⟨p, hp, ep⟩ := hb'
        obtain ⟨more, hm⟩ := grew p hp
        subst ep
        rw [hT p hp] at e
        cases e
        exact .inr (.inl ⟨((hC p hp).tab (hT p hp)).isCodeTable, rfl, #[], more, rfl, by rw [Array.empty_append]; exact hm⟩)
      · exact .inl (stay b o hb' e)
    · by_cases hb' : ∃ p ∈ cs, p.2 = b
      · obtain ⟨p, hp, ep⟩ := hb'
        obtain ⟨more, hm⟩ := grew p hp
        subst ep
        exact ⟨_, hm⟩
      · exact ⟨o, stay b o hb' e⟩
/-- what is known of the law's promise at the head's heap h -/
structure LawG (P : Program) (w : World) (K : PySem.W.Frag) (k n : Nat) (x : Str) (mg : Str → Option Value) (fa : Addr) (h : Heap) (fd : FuncData) (cs : List (Addr × Addr)) (sp : Sp) : Prop where
  hT : ∀ p ∈ cs, h.get? p.2 = some { cls := .none, data := .fields #[] }
  nT : ∀ p ∈ cs, K.lookup p.2 = none
  hC : ∀ p ∈ cs, PySem.W.CodeHd h p.1 p.2
  hb : ∀ (s : Shared) (u : Value), BindsTo s fd ⟨[u], []⟩ [(x, u)]
  hsp : ∀ (H : Hp) (a : Addr) (ns : List Int), ns.length ≤ n → (∀ z ∈ ns, Builtin.Int.intBits z ≤ 1048576) → (∀ p ∈ cs, H p.2 = some (.tbl #[])) → SqL K H a (ns.map V.int) → sp [.ref a] H (fun v _ => v = .bl true) fun _ _ _ => False
  hF : ∀ base : Heap, K.In base → base.Ns mainGlobals mg → (∀ p ∈ cs, LamX.TabB base mg p.1 p.2) → FnG P w K mg base CX0 k fa fd [x] sp
theorem law_endT {n : Nat} (L : LawG P w K k n x mg fa s1.heap fd cs sp) (KX : K.In s1.heap) (hns : s1.heap.Ns mainGlobals mg) (hb : s1.heap.Ns builtinsNs mb) (hbb : ∀ x : Str, x ≠ "__name__" → mb x = bootBuiltins x) (hlim : s1.heap.NoLimit) (hg : s1.gens = #[])
    (hbm : ∃ (bm : Addr) (ob : Obj), mg "__builtins__" = some (.ref bm) ∧ bm ≠ builtinsNs ∧ s1.heap.get? bm = some ob ∧ ob.cls = .type "module" ∧ ob.dict = some builtinsNs ∧ ob.data = .plain)
    (ha : s1.heap.get? a = some { cls := .type "list", data := .seq vs.toArray }) (hi : IntsAre vs ns) (hl : ns.length ≤ n) (hl2 : n ≤ sizeLine) (hbits : ∀ z ∈ ns, Builtin.Int.intBits z ≤ 1048576) (hr : Room k callerA) :
    codeAny (model P w) callerA (.call (.ref fa) ⟨[.ref a], []⟩) (fun r s' => r = .ok (.ret (.bool true)) ∧ OldK s1.heap s'.heap ∧ s'.os = s1.os ∧ AllBare s'.gens) s1 := by
  have rv := vals_ints hi
  have hl3 := Nat.le_trans hl hl2
  have aT : ¬ ∃ p ∈ cs, p.2 = a := fun ⟨p, hp, e⟩ => by
    have q := L.hT p hp
    rw [e, ha] at q
    cases q
  -- the tables, and the script where the written part has it not
  let H0 : Hp := fun b => open Classical in if ∃ p ∈ cs, p.2 = b then some (.tbl #[]) else if b = a ∧ K.lookup a = none then some (.frz { cls := .type "list", data := .seq vs.toArray } (.lst (ns.map V.int))) else none
  have t0 : ∀ p ∈ cs, H0 p.2 = some (.tbl #[]) := fun p hp => if_pos ⟨p, hp, rfl⟩
  have o0 : ∀ {b : Addr}, (¬ ∃ p ∈ cs, p.2 = b) → ¬ (b = a ∧ K.lookup a = none) → H0 b = none := fun h1 h2 => (if_neg h1).trans (if_neg h2)
  have a0 : K.lookup a = none → H0 a = some (.frz { cls := .type "list", data := .seq vs.toArray } (.lst (ns.map V.int))) := fun h => (if_neg aT).trans (if_pos ⟨rfl, h⟩)
  have hS : SqL K H0 a (ns.map V.int) := by
    cases hk : K.lookup a with
    | some o =>
      have e := KX a o hk
      rw [ha] at e
      cases e
      exact .inr ⟨_, vs.toArray, _, hk, rfl, rfl, rfl, by rw [List.size_toArray, hi.length]; exact hl3, by simpa using rv⟩
    | none => exact .inl (.inr ⟨_, a0 hk⟩)
  refine law_coreT (H := H0) KX hns hb hbb hlim hg L.hT L.nT L.hC hbm ha hr L.hF L.hb t0 (fun b => ?_) (fun b u z => ?_) (fun b z => ?_) (fun z => ?_) (L.hsp H0 a ns hl hbits t0 hS)
  · by_cases h1 : ∃ p ∈ cs, p.2 = b
    · exact .inr (.inl h1)
    · by_cases h2 : b = a ∧ K.lookup a = none
      · rw [h2.1]
        exact .inr (.inr ⟨_, _, a0 h2.2⟩)
      · exact .inl (o0 h1 h2)
  · by_cases h1 : ∃ p ∈ cs, p.2 = b
    · obtain ⟨p, hp, e⟩ := h1
      subst e
      rw [t0 p hp] at z
      cases z
      exact L.hT p hp
    · by_cases h2 : b = a ∧ K.lookup a = none
      · obtain ⟨rfl, h2⟩ := h2
        rw [a0 h2] at z
        cases z
        exact ⟨ha, by rw [List.length_map]; exact hl3, vs, _, rv, ha⟩
      · rw [o0 h1 h2] at z
        cases z
  · by_cases h1 : ∃ p ∈ cs, p.2 = b
    · exact .inr h1
    · by_cases h2 : b = a ∧ K.lookup a = none
      · exact .inl h2.1
      · exact absurd (o0 h1 h2) z
  · by_cases h2 : K.lookup a = none
    · exact h2
    · exact absurd (o0 aT fun y => h2 y.2) z
end
end Zj
namespace Zj
open PySem PySem.Spec PyProof.Rows L2
theorem walk_GT {l : PySem.W.OpenLaw} {n k : Nat} {q : Program} {loose : List Str} {XP : (Str → Option Value) → Heap → Prop} {YP : World → Heap → Prop} {d : DefRec} {K : Params → PySem.W.Frag} {x : Str}
    (hn : l.most = some n) (hn2 : n ≤ sizeLine) (hdf : d.params.defaults = []) (hr : Room k callerA) (hY : ∀ (w : World) (h : Heap), YP w h → (K w.params).In h)
    (F : ∀ (w : World) (mg : Str → Option Value) (fa : Addr) (h : Heap), YP w h → (K w.params).In h → h.Ns mainGlobals mg → mg d.name = some (.ref fa) → ∃ (fd : FuncData) (cs : List (Addr × Addr)) (sp : Sp), LawG l.prog w (K w.params) k n x mg fa h fd cs sp) :
    PySem.W.WalkO q loose XP YP l.row.toRowW d [] (fun f vs => PySem.call f vs) :=
  Att.attach_callB hn hdf fun w s0 s1 mg mb fa o pm cd doc a vs ns G Y ho hd hcd hmg hobj hints hlen hbits hg => by
    obtain ⟨fd, cs, sp, L⟩ := F w mg fa _ Y (hY w _ Y) G.T.g hmg
    exact law_endT L (hY w _ Y) G.T.g G.T.b G.T.builtins G.T.nolimit hg G.T.bmain hobj hints hlen hn2 hbits hr
end Zj
namespace Zj
open PySem PySem.Spec PyProof.Rows L2
/-- a def of the top with lambdas: its code object is at c -/
structure DfC (K : PySem.W.Frag) (x : Str) (st : Stmt) (c : Addr) : Prop where
  ex : ∃ f fd, PySem.W.nsIn K mainGlobals x = some (some (.ref f)) ∧ Fun K x x st f fd ∧ fd.code = .ref c
theorem dfC_mk {K : PySem.W.Frag} {x : Str} {st : Stmt} {f c : Addr} {oc : Value} {od an : Option Addr} {osl : Array (Option Value)} {kV doc pm ct : Value} (a : PySem.W.nsIn K mainGlobals x = some (some (.ref f)))
    (l : K.lookup f = some ⟨oc, od, .func (PySem.W.fnOf x x (defArgs st) (defBody st) (defScope st) .none kV doc pm an (.ref c) ct), osl⟩)
    (hc : PySem.W.codeIn K (.ref c) x = true) (k : PySem.W.keepIn K (.ref f) = true) : DfC K x st c := ⟨_, _, a, fun_mk l hc k, rfl⟩
/-- an own class of exceptions with one field -/
structure Cd1 (K : PySem.W.Frag) (x qi : Str) (st : Stmt) (f : Str) (C : Addr) : Prop where
  a : PySem.W.nsIn K mainGlobals x = some (some (.ref C))
  o : OexC K C
  ini : ∃ fI fd, PySem.W.findIn K (.ref C) "__init__" = some (some (.ref fI)) ∧ PySem.W.typeIn K (.ref fI) = some (.type "function") ∧ Fun K "__init__" qi st fI fd
  nf : PySem.W.findIn K (.ref C) f = some none
  xf : XfC K C
theorem cd1_mk {K : PySem.W.Frag} {x qi : Str} {st : Stmt} {f : Str} {C fI N : Addr} {nm q : Str} {bs bm : List Value} {sn : List Str} {sub : List Value} {ab : Bool} {col : Option Bool} {dd od an : Option Addr} {m0 m1 m2 m3 m5 : Option Value} {oc kV doc pm cdv ct : Value} {osl : Array (Option Value)}
    (a : PySem.W.nsIn K mainGlobals x = some (some (.ref C))) (l : K.lookup C = some (excClassObj nm q C N bs bm true sn sub ab col dd m0 m1 m2 m3 m5 "ValueError.__new__")) (hbm : PySem.HandSPX.refsVE bm = true)
    (sa : PySem.W.findIn K (.ref C) "__setattr__" = some (some (.builtin "object.__setattr__"))) (eC : PySem.W.subIn K (.ref C) (.type "BaseException") = some true) (tC : PySem.W.typeIn K (.ref C) = some (.type "type")) (kC : PySem.W.keepIn K (.ref C) = true)
    (i : PySem.W.findIn K (.ref C) "__init__" = some (some (.ref fI))) (ti : PySem.W.typeIn K (.ref fI) = some (.type "function")) (li : K.lookup fI = some ⟨oc, od, .func (PySem.W.fnOf "__init__" qi (defArgs st) (defBody st) (defScope st) .none kV doc pm an cdv ct), osl⟩)
    (ci : PySem.W.codeIn K cdv qi = true) (ki : PySem.W.keepIn K (.ref fI) = true) (nf : PySem.W.findIn K (.ref C) f = some none) (ga : PySem.W.findIn K (.ref C) "__getattribute__" = some (some (.builtin "BaseException.__getattribute__"))) (gg : PySem.W.findIn K (.ref C) "__getattr__" = some none) (hd : PySem.W.hasDictIn K C = true) :
    Cd1 K x qi st f C := ⟨a, ⟨⟨nm, q, N, bs, bm, sn, sub, ab, col, dd, m0, m1, m2, m3, m5, l, hbm⟩, sa, eC, tC, kC⟩, ⟨_, _, i, ti, fun_mk li ci ki⟩, nf, ⟨ga, gg, eC, hd⟩⟩
section
variable {P : Program} {w : World} {K : PySem.W.Frag} {h base : Heap} {mg : Str → Option Value} {k : Nat} {x y qi f f2 : Str} {st st2 : Stmt} {ps : List Str} {sp : Sp} {c C D : Addr}
theorem calGC_mk (X : K.In h) (G : h.Ns mainGlobals mg) (d : DfC K x st c) (b : Tk st x ps) (ok : ∀ f fd, Fun K x x st f fd → fd.code = .ref c → FnG P w K mg base CX0 k f fd ps sp) : CalG P w K mg base k x ps sp := by
  obtain ⟨fa, fd, a, F, hc⟩ := d.ex
  exact ⟨fa, fd, ok fa fd F hc, PySem.W.mg_of X G a, F.kp, F.binds b⟩
theorem calX_mk (X : K.In h) (G : h.Ns mainGlobals mg) (d : Df K x st) (b : Tk st x ps) (ok : ∀ f fd, Fun K x x st f fd → FnOk P w K mg base (L2.CX P w) k f fd ps sp) : CalX P w K mg base k x ps sp := by
  obtain ⟨fa, fd, a, F⟩ := d.ex
  exact ⟨fa, fd, ok fa fd F, PySem.W.mg_of X G a, F.kp, F.binds b⟩
theorem calXK_mk (X : K.In h) (G : h.Ns mainGlobals mg) (d : Df K x st) (ok : ∀ f fd, Fun K x x st f fd → FnOk P w K mg base (L2.CX P w) k f fd ps sp) : CalXK P w K mg base k x st ps sp := by
  obtain ⟨fa, fd, a, F⟩ := d.ex
  exact ⟨fa, fd, F, ok fa fd F, PySem.W.mg_of X G a⟩
theorem xcF_mk (X : K.In h) (G : h.Ns mainGlobals mg) (d : Cd1 K x qi st f C) : XcF K mg x [f] := ⟨C, PySem.W.mg_of X G d.a, d.xf, fun g hg => by rw [List.mem_singleton] at hg; rw [hg]; exact d.nf⟩
theorem exm_mk {b : Bool} (X : K.In h) (G : h.Ns mainGlobals mg) (dx : PySem.W.nsIn K mainGlobals x = some (some (.ref C))) (d : Cd1 K y qi st f D) (s : PySem.W.subIn K (.ref C) (.ref D) = some b) : Exm K mg x y b :=
  ⟨C, D, PySem.W.mg_of X G dx, PySem.W.mg_of X G d.a, PySem.W.exm_ref d.o.exC d.xf.hdC d.o.tyC s⟩
theorem clsI_mk {p1 p2 p3 p4 : Pos} (X : K.In h) (G : h.Ns mainGlobals mg) (d : Cd1 K x qi st f C) (S : FnScope ["self", f] ["self", f] (defScope st)) (hb : defBody st = [.Assign [.Attribute (.Name "self" p1) f p2] (.Name f p3) p4])
    (h1 : Vis (defScope st) "self") (h2 : Vis (defScope st) f) (hd : (f == ("__debug__" : Str)) = false) (hcd : (f == ("__classdict__" : Str)) = false) (hs : ∀ env : Env, swapsWith (.Name f p3) (some (.Attribute (.Name "self" p1) f p2)) p4.line env = pure false)
    (bd : ∀ (kV doc pm : Value) (an : Option Addr) (cdv ct u v : Value), bindArgs (PySem.W.fnOf "__init__" qi (defArgs st) (defBody st) (defScope st) .none kV doc pm an cdv ct) ⟨[u, v], []⟩ = pure [(("self" : Str), u), (f, v)]) [Nm] : ClsI P w K mg base 1 x [f] := by
  obtain ⟨fI, fd, i, ti, F⟩ := d.ini
  refine ⟨C, fI, fd, PySem.W.mg_of X G d.a, d.o, i, ti, fun g hg => by rw [List.mem_singleton] at hg; rw [hg]; exact d.nf, init1 F S hb h1 h2 hd hcd hs, F.binds fun kV doc pm an cdv ct us hl => ?_⟩
  match us, hl with
  | [u, v], _ => exact bd kV doc pm an cdv ct u v
end
end Zj
/-! sorted with a key of one's own. -/
namespace Zj
open PySem PySem.Spec PyProof.Rows L2
variable [Nm]
/-! ### the sort itself, the keys known -/
section
variable {prog : Program} {w : World} {A : Around} {E : Value → Shared → Prop} {s : Shared} {a kS : Addr} {vs : List Value} {kz : List Int} {keys : Array Value} {e e1 : Nat} {P : PySem.Fin → Shared → Prop}
theorem key_tail {st : SortSt} (ok : s.heap.get? kS = some (seqObj "list" keys e)) (oa : s.heap.get? a = some (seqObj "list" #[] e1)) (hka : kS ≠ a) (hk : IntsAre keys.toList kz) (hlen : kz.length = vs.length) (h64 : vs.length < 64)
    (hp : (arrOf st).Perm (keys.zip vs.toArray)) (hs : SortedTo (arrOf st) (arrOf st).size) (hfl : failedOf st = none)
    (h : ∀ h' out c, h'.get? a = some (seqObj "list" out c) → (∀ b o, b ≠ a → b ≠ kS → s.heap.get? b = some o → h'.get? b = some o) → KskOut false kz vs out.toList → P (.done (.ret .none)) { s with heap := h' }) :
    wpAny (model prog w) A (ksk_tail a false e1 (.ref kS) st) P E s := by
  have hsz : keys.size = vs.length := by
    have h1 := hk.length
    rw [Array.length_toList] at h1
    omega
  have hout : ((arrOf st).map (·.2)).size = vs.length := by rw [Array.size_map, hp.size_eq, Array.size_zip, hsz, List.size_toArray, Nat.min_self]
  have s1 := Heap.SameBut.update s.heap kS (Obj.mapSeq fun _ => (#[] : Array Value))
  have na1 : (s.heap.update kS (Obj.mapSeq fun _ => (#[] : Array Value))).get? a = some (seqObj "list" #[] e1) := (s1.2 a hka.symm).trans oa
  have s2 := Heap.SameBut.update (s.heap.update kS (Obj.mapSeq fun _ => (#[] : Array Value))) a (Obj.mapSeq fun _ => (arrOf st).map (·.2))
  obtain ⟨c2, hc2⟩ : ∃ c2, ((s.heap.update kS (Obj.mapSeq fun _ => (#[] : Array Value))).update a (Obj.mapSeq fun _ => (arrOf st).map (·.2))).get? a = some (seqObj "list" ((arrOf st).map (·.2)) c2) :=
    ⟨_, get?_update_seq na1 fun _ => (arrOf st).map (·.2)⟩
  unfold ksk_tail
  try dsimp only
  refine wpAny_bind (listUpdate_at ok rfl ?_ (by rw [hsz, sizeLine_eq]; omega) (Nat.zero_le _))
  refine wpAny_bind (wpAny_letGo ?_)
  refine wpAny_bind (seqEpoch_at na1 rfl ?_)
  refine wpAny_bind (listUpdate_at na1 rfl ?_ (Nat.zero_le _) (Nat.le_trans (Nat.le_of_eq hout) (by rw [sizeLine_eq]; omega)))
  rw [hfl]
  simp only [bne_self_eq_false, Bool.false_eq_true, if_false]
  exact wpAny_pure (h _ _ c2 hc2 (fun b o h1 h2 g => (s2.2 b h1).trans ((s1.2 b h2).trans g)) (ksk_out (b := false) hk hp hs))
theorem key_end (ok : s.heap.get? kS = some (seqObj "list" keys e)) (oa : s.heap.get? a = some (seqObj "list" #[] e1)) (hka : kS ≠ a) (hk : IntsAre keys.toList kz) (hlen : kz.length = vs.length) (h64 : vs.length < 64)
    (h : ∀ h' out c, h'.get? a = some (seqObj "list" out c) → (∀ b o, b ≠ a → b ≠ kS → s.heap.get? b = some o → h'.get? b = some o) → KskOut false kz vs out.toList → P (.done (.ret .none)) { s with heap := h' }) :
    wpAny (model prog w) A (ksk_end a false vs.toArray e1 (.ref kS) keys) P E s := by
  have hsz : keys.size = vs.length := by
    have h1 := hk.length
    rw [Array.length_toList] at h1
    omega
  have hzs : (keys.zip vs.toArray).size = vs.length := by rw [Array.size_zip, hsz, List.size_toArray, Nat.min_self]
  unfold ksk_end
  try dsimp only
  rw [if_neg Bool.false_ne_true, if_neg Bool.false_ne_true]
  by_cases h2 : vs.toArray.size < 2
  · rw [if_pos h2, if_pos h2]
    refine wpAny_bind (wpAny_pure ?_)
    rw [StateT.run_pure]
    refine wpAny_bind (wpAny_pure ?_)
    try dsimp only
    refine key_tail (st := SortSt.mk' general' (keys.zip vs.toArray) #[] 7 none) ok oa hka hk hlen h64 (Array.Perm.refl _) ?_ rfl h
    intro i j hij hj
    have hj2 : j < (keys.zip vs.toArray).size := hj
    rw [hzs] at hj2
    rw [List.size_toArray] at h2
    have : i = j := by omega
    subst this
    exact Int.le_refl _
  · rw [if_neg h2, if_neg h2]
    rw [List.size_toArray] at h2
    rw [ksk_kind hk (by rw [hsz]; omega)]
    refine wpAny_bind (wpAny_pure ?_)
    refine wpAny_bind (wpAny_mono (wpS_sortRuns (a₀ := keys.zip vs.toArray) (st := SortSt.mk' oneType' (keys.zip vs.toArray) #[] 7 none)
      (Q := fun _ st' => (arrOf st').Perm (keys.zip vs.toArray) ∧ failedOf st' = none ∧ SortedTo (arrOf st') (keys.zip vs.toArray).size)
      (ksk_intKeys hk) ⟨Array.Perm.refl _, rfl, rfl, rfl⟩ (by rw [hzs]; omega) (by rw [hzs]; exact h64) fun st' a1 a2 a3 => ⟨a1, a2, a3⟩) ?_ fun _ _ e => e)
    rintro ⟨⟨⟩, st'⟩ s' ⟨rfl, hp, hf, hs⟩
    try dsimp only
    exact key_tail ok oa hka hk hlen h64 hp (by rw [hp.size_eq]; exact hs) hf h
end
/-! ### the keys, asked of the function -/
section
variable {X : Cx} {pins : List (Addr × Obj)} {σ : L2.St} {H : Hp} {s : Shared} {T : Addr → Prop} {k : Nat} {fa : Addr} {fd : FuncData} {n : Str} {R : List PyData → PyData → Prop}
theorem key_call {E : Value → Shared → Prop} {x : V} {v : Value} {d : PyData} {kk : Int} (F : FnOk X.prog X.w X.K X.mg X.base CX0 k fa fd [n] (spR X.K R)) (hb : L2.Binds X.K fd [n] []) (hr : Room (k + 2) X.A) (I : Inv X pins σ H s) (r : RelV x v) (dm : Din T H) (hd : Dp X.K (off T H) x d) (hR : R [d] (.int kk)) :
    wpAny (model X.prog X.w) X.A.in1.in1 (PySem.call (.ref fa) [v]) (fun u s2 => ∃ H2, Inv X pins σ H2 s2 ∧ Sm H H2 ∧ ∃ t, u = .int kk t) E s := by
  refine wpAny_call (codeAny_mono (F.run X.A.in1.in1 X.stack s H ⟨[v], []⟩ [v] [x] (fun y H2 => Sm H H2 ∧ y = .int kk) E0 hr.in1.in1 I.env0.in1.in1 (hb s [v] I.kIn rfl) (.cons r .nil) ⟨T, [d], .int kk, dm, .cons hd .nil, hR, fun v' H' s' p' => ⟨s', dp_int p'⟩⟩) fun res s2 hq => ?_)
  match res, hq with
  | .error er, hq => exact (show False from hq).elim
  | .ok .next, hq => exact False.elim hq
  | .ok .brk, hq => exact False.elim hq
  | .ok .cont, hq => exact False.elim hq
  | .ok (.ret u), hq =>
    obtain ⟨y, H2, J2, ry, sm, rfl⟩ := I.after hq
    exact ⟨H2, J2, sm, ry⟩
end
end Zj
/-! sorted with a key of one's own: the call. -/
namespace Zj
open PySem PySem.Spec PyProof.Rows L2
variable [Nm]
section
variable {X : Cx} {pins : List (Addr × Obj)} {σ : L2.St} {H : Hp} {s : Shared} {T : Addr → Prop} {k : Nat} {fa a kS : Addr} {fd : FuncData} {n : Str} {R : List PyData → PyData → Prop}
/-- an object of ours that was not tracked, written and tracked from now on -/
theorem inv_track {h' : Heap} {ys : List V} (I : Inv X pins σ H s) (f : FpOk X pins H a) (kp : ∀ b o, b ≠ a → s.heap.get? b = some o → h'.get? b = some o) (new : ObjOk X.prog X.w (upd H a (.lst ys)) h' a (.lst ys)) : Inv X pins σ (upd H a (.lst ys)) { s with heap := h' } := by
  obtain ⟨f0, f1, f2, f3, f4, f5⟩ := f
  have na : ∀ {b u}, H b = some u → b ≠ a := fun {b u} e z => by rw [z, f0] at e; cases e
  refine I.step (g' := s.gens) (d' := s.drawn) (t' := s.toks) (ch := [a]) (fun b hb => ?_) (fun b o _ _ hc e _ => kp b o (fun z => hc (by simp [z])) e) (fun b o _ _ hc e _ => ⟨o.slots, kp b o (fun z => hc (by simp [z])) e⟩) (fun b o hc e z => by rw [upd_ne (fun y => hc (by simp [y]))]; exact z)
    (fun b o hc e => ⟨o, kp b o (fun z => hc (by simp [z])) e⟩) (fun b xs e => by rw [upd_ne (na e)]; exact e) (fun b o u e => by rw [upd_ne (na e)]; exact e) (fun b ps e => ⟨#[], by rw [upd_ne (na e), e]; simp⟩) (fun m hm => ?_) (fun b u e => ?_) I.bare
  · have e : b = a := by simpa using hb
    subst e
    exact ⟨f3, f1, f4, f5⟩
  · obtain ⟨o, es, ep, ho, r⟩ := hm
    exact ⟨o, es, ep, kp _ o (Ne.symm f1) ho, r⟩
  · by_cases hb : b = a
    · rw [hb, upd_same] at e
      cases e
      rw [hb]
      exact new
    · rw [upd_ne hb] at e
      refine (I.hok b u e).stay (fun c v hc q => kp c v ?_ q) (fun c q => by rw [upd_ne (na q)]; exact q) fun c xs q => by rw [upd_ne (na q)]; exact q
      rcases hc with z | z
      · rw [z]; exact hb
      · exact na z
theorem fp_pin {b : Addr} {o : Obj} {pl : List (Addr × Obj)} {H1 H2 : Hp} (f : FpOk X pins H1 b) (I : Inv X (pins ++ pl) σ H2 s) (hm : (b, o) ∈ pl) : s.heap.get? b = some o ∧ FpOk X pins H2 b := by
  obtain ⟨p1, p2, _⟩ := I.pin (b, o) (List.mem_append_right _ (List.mem_append_right _ hm))
  exact ⟨p1, p2, f.2⟩
def KJ (X : Cx) (pins : List (Addr × Obj)) (σ : L2.St) (H : Hp) (a kS : Addr) (e1 : Nat) (kz : List Int) (i : Nat) (s' : Shared) : Prop :=
  ∃ (kA : Array Value) (e : Nat) (H' : Hp), Inv X pins σ H' s' ∧ Sm H H' ∧ s'.heap.get? kS = some (seqObj "list" kA e) ∧ s'.heap.get? a = some (seqObj "list" #[] e1) ∧ FpOk X pins H' a ∧ FpOk X pins H' kS ∧ IntsAre kA.toList (kz.take i)
theorem key_rest {e1 : Nat} {xs : List V} {vs : List Value} {ds : List PyData} {kz : List Int} {P : PySem.Fin → Shared → Prop} {E : Value → Shared → Prop} (F : FnOk X.prog X.w X.K X.mg X.base CX0 k fa fd [n] (spR X.K R)) (hb : L2.Binds X.K fd [n] []) (hr : Room (k + 2) X.A)
    (I : Inv X pins σ H s) (ok : s.heap.get? kS = some (seqObj "list" #[] 0)) (oa : s.heap.get? a = some (seqObj "list" #[] e1)) (hka : kS ≠ a) (fA : FpOk X pins H a) (fK : FpOk X pins H kS) (rv : Vals xs vs) (dm : Din T H) (hd : DpAll X.K (off T H) xs ds)
    (hlen : kz.length = vs.length) (h64 : vs.length < 64) (hR : ∀ (i : Nat) d kk, ds[i]? = some d → kz[i]? = some kk → R [d] (.int kk))
    (h : ∀ s', KJ X pins σ H a kS e1 kz vs.length s' → ∀ kA e, s'.heap.get? kS = some (seqObj "list" kA e) → IntsAre kA.toList kz → wpAny (model X.prog X.w) X.A.in1.in1 (ksk_end a false vs.toArray e1 (.ref kS) kA) P E s') :
    wpAny (model X.prog X.w) X.A.in1.in1 (ksk_rest a (.ref fa) false vs.toArray e1 (.ref kS)) P E s := by
  unfold ksk_rest
  refine wpAny_bind (wpAny_rule ?_)
  rw [List.forIn_toArray]
  refine wpAny_bind (ksk_fold (KJ X pins σ H a kS e1 kz) vs 0 s ⟨#[], 0, H, I, Sm.refl H, ok, oa, fA, fK, by simpa using IntsAre.nil⟩ ?step ?done)
  case step =>
    rintro j x s' hx ⟨kA, e, H', I', sm, g1, g2, f1, f2, hk⟩
    simp only [Nat.zero_add] at hk ⊢
    have hj : j < vs.length := (List.getElem?_eq_some_iff.mp hx).1
    obtain ⟨kk, hkj⟩ : ∃ kk, kz[j]? = some kk := ⟨_, List.getElem?_eq_getElem (by omega)⟩
    have hz : kA.size ≤ vs.length := by
      have h1 := hk.length
      rw [Array.length_toList, List.length_take] at h1
      omega
    have hxl : xs.length = vs.length := rv.length
    obtain ⟨y, hy⟩ : ∃ y, xs[j]? = some y := ⟨_, List.getElem?_eq_getElem (by omega)⟩
    obtain ⟨x', hx', ry⟩ := Vals.get rv hy
    rw [hx] at hx'
    cases hx'
    obtain ⟨d, hdj⟩ : ∃ d, ds[j]? = some d := ⟨_, List.getElem?_eq_getElem (by rw [← dps_len hd]; omega)⟩
    obtain ⟨y2, hy2, hyd⟩ := dps_get hd hdj
    rw [hy] at hy2
    cases hy2
    have J := I'.pinned (fp := [a, kS]) (fun b hb => by
      rcases List.mem_cons.mp hb with rfl | hb
      · exact f1
      · rw [List.mem_singleton.mp hb]
        exact f2) (fun b hb => by
      rcases List.mem_cons.mp hb with rfl | hb
      · exact ⟨_, g2, fun v z => by cases z⟩
      · rw [List.mem_singleton.mp hb]
        exact ⟨_, g1, fun v z => by cases z⟩)
    refine wpAny_bind (wpAny_attempt (wpAny_mono (key_call (E := fun _ _ => False) F hb hr J ry (dm.same sm) (dp_same (off_same sm) hyd) (hR j d kk hdj hkj)) (fun v s'' he => ?_) fun _ _ hF => hF.elim))
    obtain ⟨H2, J2, sm2, t2, rfl⟩ := he
    obtain ⟨p1, q1⟩ := fp_pin f1 J2 (mem_pinsAt (fp := [a, kS]) (by simp) g2)
    obtain ⟨p2, q2⟩ := fp_pin f2 J2 (mem_pinsAt (fp := [a, kS]) (by simp) g1)
    have I2 := J2.unpinned
    try dsimp only
    have s1 := Heap.SameBut.update s''.heap kS (Obj.mapSeq (·.push (.int kk t2)))
    obtain ⟨c2, hc2⟩ : ∃ c2, (s''.heap.update kS (Obj.mapSeq (·.push (.int kk t2)))).get? kS = some (seqObj "list" (kA.push (.int kk t2)) c2) := ⟨_, get?_update_seq p2 (·.push (.int kk t2))⟩
    have ek : kz.take (j + 1) = kz.take j ++ [kk] := by rw [List.take_add_one, hkj]; simp
    have ea : (kA.push (Value.int kk t2)).toList = kA.toList ++ [Value.int kk t2] := by simp
    refine wpAny_bind (listUpdate_at p2 rfl ?_ (by rw [sizeLine_eq]; omega) (Nat.le_trans (Nat.le_of_eq (Array.size_push ..)) (by rw [sizeLine_eq]; omega)))
    obtain ⟨z0, z1, z2, z3, z4, z5⟩ := q2
    refine wpAny_pure ⟨rfl, kA.push (.int kk t2), c2, H2, I2.turned (t' := s''.toks) (it := kS) (fun b o hb e => (s1.2 b hb).trans e) z0 z1 z3 z4 z5, sm.trans sm2, hc2, (s1.2 a hka.symm).trans p1, q1, ⟨z0, z1, z2, z3, z4, z5⟩, by rw [ea, ek]; exact ksk_snoc hk⟩
  case done =>
    rintro s' hJ
    rw [Nat.zero_add] at hJ
    obtain ⟨kA, e, H', I', sm, g1, g2, f1, f2, hk⟩ := id hJ
    have hk' : IntsAre kA.toList kz := by
      have e3 : kz.take vs.length = kz := List.take_of_length_le (by omega)
      rw [e3] at hk
      exact hk
    try dsimp only
    refine wpAny_bind (listItems_at g1 rfl ?_)
    exact h s' hJ kA e g1 hk'
end
end Zj
/-! sorted(xs, key=f): what comes of it. -/
namespace Zj
open PySem PySem.Spec PyProof.Rows L2
variable [Nm]
theorem perm_lift {α β : Type} {f : α → β} {ps q : List β} (h : ps.Perm q) : ∀ {L : List α}, q = L.map f → ∃ L' : List α, L'.Perm L ∧ ps = L'.map f := by
  induction h with
  | nil =>
    intro L e
    cases L with
    | nil => exact ⟨[], .nil, rfl⟩
    | cons a L => cases e
  | cons x _ ih =>
    intro L e
    cases L with
    | nil => cases e
    | cons a L =>
      rw [List.map_cons] at e
      obtain ⟨e1, e2⟩ := List.cons.inj e
      obtain ⟨L', h1, h2⟩ := ih e2
      exact ⟨a :: L', h1.cons a, by rw [List.map_cons, ← h2, e1]⟩
  | swap x y l =>
    intro L e
    match L, e with
    | a :: b :: L, e =>
      rw [List.map_cons, List.map_cons] at e
      obtain ⟨e1, e2⟩ := List.cons.inj e
      obtain ⟨e2, e3⟩ := List.cons.inj e2
      exact ⟨b :: a :: L, .swap .., by rw [List.map_cons, List.map_cons, ← e1, ← e2, ← e3]⟩
  | trans _ _ ih1 ih2 =>
    intro L e
    obtain ⟨L1, h1, h2⟩ := ih2 e
    obtain ⟨L2, h3, h4⟩ := ih1 h2
    exact ⟨L2, h3.trans h1, h4⟩
/-- key, value, its picture, its data -/
abbrev Q4 := Int × Value × V × PyData
def q4s : List Int → List Value → List V → List PyData → List Q4
  | k :: ks, v :: vs, x :: xs, d :: ds => (k, v, x, d) :: q4s ks vs xs ds
  | _, _, _, _ => []
theorem q4_all {K : PySem.W.Frag} {H : Hp} : ∀ {kz : List Int} {vs : List Value} {xs : List V} {ds : List PyData}, Vals xs vs → DpAll K H xs ds → kz.length = vs.length →
    (q4s kz vs xs ds).map (fun p => (p.1, p.2.1)) = kz.zip vs ∧ (q4s kz vs xs ds).map (fun p => (p.1, p.2.2.2)) = kz.zip ds ∧ ∀ p ∈ q4s kz vs xs ds, RelV p.2.2.1 p.2.1 ∧ Dp K H p.2.2.1 p.2.2.2
  | [], [], _, _, .nil, .nil, _ => ⟨rfl, rfl, nofun⟩
  | k :: ks, v :: vs, x :: xs, d :: ds, .cons r rs, .cons h hs, e => by
    obtain ⟨h1, h2, h3⟩ := q4_all rs hs (by simpa using e)
    refine ⟨congrArg (List.cons (k, v)) h1, congrArg (List.cons (k, d)) h2, fun p hp => ?_⟩
    rcases List.mem_cons.mp hp with rfl | hp
    · exact ⟨r, h⟩
    · exact h3 p hp
theorem q4_rel {K : PySem.W.Frag} {H : Hp} : ∀ {L : List Q4}, (∀ p ∈ L, RelV p.2.2.1 p.2.1 ∧ Dp K H p.2.2.1 p.2.2.2) → Vals (L.map fun p => p.2.2.1) (L.map fun p => p.2.1) ∧ DpAll K H (L.map fun p => p.2.2.1) (L.map fun p => p.2.2.2)
  | [], _ => ⟨.nil, .nil⟩
  | p :: L, h => by
    obtain ⟨h1, h2⟩ := q4_rel (L := L) fun q hq => h q (List.mem_cons_of_mem _ hq)
    obtain ⟨g1, g2⟩ := h p List.mem_cons_self
    exact ⟨.cons g1 h1, .cons g2 h2⟩
theorem key_out {K : PySem.W.Frag} {H : Hp} {kz : List Int} {vs out : List Value} {xs : List V} {ds : List PyData} (rv : Vals xs vs) (hd : DpAll K H xs ds) (hlen : kz.length = vs.length) (h : KskOut false kz vs out) :
    ∃ (ys : List V) (qs : List (Int × PyData)), Vals ys out ∧ DpAll K H ys (qs.map (·.2)) ∧ qs.Perm (kz.zip ds) ∧ qs.Pairwise fun p q => p.1 ≤ q.1 := by
  obtain ⟨ps, p1, rfl, p2⟩ := h
  obtain ⟨e1, e2, e3⟩ := q4_all (kz := kz) rv hd hlen
  rw [← e1] at p1
  obtain ⟨L, l1, rfl⟩ := perm_lift p1 rfl
  obtain ⟨r1, r2⟩ := q4_rel (L := L) fun p hp => e3 p (l1.mem_iff.mp hp)
  refine ⟨L.map fun p => p.2.2.1, L.map fun p => (p.1, p.2.2.2), ?_, ?_, ?_, ?_⟩
  · rw [List.map_map]
    exact r1
  · rw [List.map_map]
    exact r2
  · rw [← e2]
    exact l1.map _
  · rw [List.pairwise_map] at p2 ⊢
    exact p2.imp fun {a b} h => by simpa using h
section
variable {X : Cx} {pins : List (Addr × Obj)} {σ : L2.St} {H : Hp} {s : Shared} {T : Addr → Prop} {k : Nat} {fa a kS : Addr} {fd : FuncData} {n : Str} {R : List PyData → PyData → Prop}
/-- the same, where another object of ours has changed too -/
theorem inv_track2 {h' : Heap} {ys : List V} (I : Inv X pins σ H s) (f : FpOk X pins H a) (g : FpOk X pins H kS) (kp : ∀ b o, b ≠ a → b ≠ kS → s.heap.get? b = some o → h'.get? b = some o) (new : ObjOk X.prog X.w (upd H a (.lst ys)) h' a (.lst ys)) : Inv X pins σ (upd H a (.lst ys)) { s with heap := h' } := by
  obtain ⟨f0, f1, f2, f3, f4, f5⟩ := f
  obtain ⟨g0, g1, g2, g3, g4, g5⟩ := g
  have na : ∀ {b u}, H b = some u → b ≠ a := fun {b u} e z => by rw [z, f0] at e; cases e
  have nk : ∀ {b u}, H b = some u → b ≠ kS := fun {b u} e z => by rw [z, g0] at e; cases e
  have kq : ∀ b o, b ∉ [a, kS] → s.heap.get? b = some o → h'.get? b = some o := fun b o hc e => kp b o (fun z => hc (by simp [z])) (fun z => hc (by simp [z])) e
  refine I.step (g' := s.gens) (d' := s.drawn) (t' := s.toks) (ch := [a, kS]) (fun b hb => ?_) (fun b o _ _ hc e _ => kq b o hc e) (fun b o _ _ hc e _ => ⟨o.slots, kq b o hc e⟩) (fun b o hc e z => by rw [upd_ne (fun y => hc (by simp [y]))]; exact z)
    (fun b o hc e => ⟨o, kq b o hc e⟩) (fun b xs e => by rw [upd_ne (na e)]; exact e) (fun b o u e => by rw [upd_ne (na e)]; exact e) (fun b ps e => ⟨#[], by rw [upd_ne (na e), e]; simp⟩) (fun m hm => ?_) (fun b u e => ?_) I.bare
  · rcases List.mem_cons.mp hb with rfl | hb
    · exact ⟨f3, f1, f4, f5⟩
    · have e : b = kS := by simpa using hb
      subst e
      exact ⟨g3, g1, g4, g5⟩
  · obtain ⟨o, es, ep, ho, r⟩ := hm
    exact ⟨o, es, ep, kp _ o (Ne.symm f1) (Ne.symm g1) ho, r⟩
  · by_cases hb : b = a
    · rw [hb, upd_same] at e
      cases e
      rw [hb]
      exact new
    · rw [upd_ne hb] at e
      refine (I.hok b u e).stay (fun c v hc q => kp c v ?_ ?_ q) (fun c q => by rw [upd_ne (na q)]; exact q) fun c xs q => by rw [upd_ne (na q)]; exact q
      · rcases hc with z | z
        · rw [z]; exact hb
        · exact na z
      · rcases hc with z | z
        · rw [z]; exact nk e
        · exact nk z
theorem key_sort {xs : List V} {vs : List Value} {ds : List PyData} {kz : List Int} {n0 : Nat} {P : PySem.Fin → Shared → Prop} {E : Value → Shared → Prop} (F : FnOk X.prog X.w X.K X.mg X.base CX0 k fa fd [n] (spR X.K R)) (hb : L2.Binds X.K fd [n] []) (hr : Room (k + 2) X.A)
    (I : Inv X pins σ H s) (oa : s.heap.get? a = some (seqObj "list" vs.toArray n0)) (fA : FpOk X pins H a) (rv : Vals xs vs) (dm : Din T H) (hd : DpAll X.K (off T H) xs ds)
    (hlen : kz.length = vs.length) (h64 : vs.length < 64) (hR : ∀ (i : Nat) d kk, ds[i]? = some d → kz[i]? = some kk → R [d] (.int kk))
    (h : ∀ (s' : Shared) (H' : Hp) (ys : List V) (qs : List (Int × PyData)), Inv X pins σ (upd H' a (.lst ys)) s' → Sm H H' → H' a = none → DpAll X.K (off T H') ys (qs.map (·.2)) → qs.Perm (kz.zip ds) → (qs.Pairwise fun p q => p.1 ≤ q.1) → P (.done (.ret .none)) s') :
    wpAny (model X.prog X.w) X.A.in1.in1 (ksk_tree a (.ref fa) false) P E s := by
  have ha : a < s.heap.objs.size := Heap.lt_size oa
  have s1 := Heap.SameBut.update s.heap a (Obj.mapSeq fun _ => (#[] : Array Value))
  obtain ⟨e1, ho1⟩ : ∃ e1, (s.heap.update a (Obj.mapSeq fun _ => (#[] : Array Value))).get? a = some (seqObj "list" #[] e1) := ⟨_, get?_update_seq oa fun _ => #[]⟩
  obtain ⟨f0, f1, f2, f3, f4, f5⟩ := id fA
  have I1 : Inv X pins σ H { s with heap := s.heap.update a (Obj.mapSeq fun _ => (#[] : Array Value)) } := I.turned (t' := s.toks) (it := a) (fun b o hb e => (s1.2 b hb).trans e) f0 f1 f3 f4 f5
  have hkS : ((s.heap.update a (Obj.mapSeq fun _ => (#[] : Array Value))).push (seqObj "tuple" vs.toArray 0)).objs.size = s.heap.objs.size + 1 := by rw [size_push', Heap.size_update]
  have fK : FpOk X pins H ((s.heap.update a (Obj.mapSeq fun _ => (#[] : Array Value))).push (seqObj "tuple" vs.toArray 0)).objs.size := I.fpOk (by rw [hkS]; omega) (I.hok.fresh (by rw [hkS]; omega))
  unfold ksk_tree
  refine wpAny_bind (listItems_at oa rfl ?_)
  refine wpAny_bind (listUpdate_at oa rfl ?_ (by rw [List.size_toArray, sizeLine_eq]; omega) (Nat.zero_le _))
  refine wpAny_bind (seqEpoch_at ho1 rfl ?_)
  refine wpAny_bind (wpAny_newTuple ?_ (by show vs.length ≤ _; rw [sizeLine_eq]; omega))
  refine wpAny_bind (wpAny_newList ?_ (Nat.zero_le _))
  refine wpAny_holding ?_
  have up : ∀ b o, (s.heap.update a (Obj.mapSeq fun _ => (#[] : Array Value))).get? b = some o → (((s.heap.update a (Obj.mapSeq fun _ => (#[] : Array Value))).push (seqObj "tuple" vs.toArray 0)).push (seqObj "list" #[] 0)).get? b = some o := fun b o e => Heap.get?_push_of_some _ (Heap.get?_push_of_some _ e)
  have I2 : Inv X pins σ H { s with heap := ((s.heap.update a (Obj.mapSeq fun _ => (#[] : Array Value))).push (seqObj "tuple" vs.toArray 0)).push (seqObj "list" #[] 0) } := I1.kept (t' := s.toks) up
  refine key_rest (s := { s with heap := ((s.heap.update a (Obj.mapSeq fun _ => (#[] : Array Value))).push (seqObj "tuple" vs.toArray 0)).push (seqObj "list" #[] 0) }) (kS := ((s.heap.update a (Obj.mapSeq fun _ => (#[] : Array Value))).push (seqObj "tuple" vs.toArray 0)).objs.size)
    F hb hr I2 (Heap.get?_push_size _ rfl) (up a _ ho1) (by rw [hkS]; exact Nat.ne_of_gt (Nat.lt_succ_of_lt ha)) fA fK rv dm hd hlen h64 hR fun s' hJ kA e g1 hk => ?_
  obtain ⟨kA', e', H', I', sm, g1', g2, q1, q2, _⟩ := hJ
  refine key_end g1 g2 (by rw [hkS]; exact Nat.ne_of_gt (Nat.lt_succ_of_lt ha)) hk hlen h64 fun h' out c hc kp ho => ?_
  obtain ⟨ys, qs, r1, r2, r3, r4⟩ := key_out rv (dps_same (off_same sm) hd) hlen ho
  have hl : ys.length ≤ sizeLine := by
    have e1 := dps_len r2
    have e2 := r3.length_eq
    have e3 := dps_len hd
    have e4 : xs.length = vs.length := rv.length
    rw [List.length_map] at e1
    rw [List.length_zip, hlen, ← e3, e4, Nat.min_self] at e2
    rw [sizeLine_eq]
    omega
  exact h _ H' ys qs (inv_track2 I' q1 q2 kp ⟨hl, out.toList, c, r1, by rw [hc, Array.toArray_toList]⟩) sm q1.1 r2 r3 r4
theorem key_sorted {l : Addr} {xs : List V} {ds : List PyData} {kz : List Int} {Q : VK} (F : FnOk X.prog X.w X.K X.mg X.base CX0 k fa fd [n] (spR X.K R)) (hb : L2.Binds X.K fd [n] []) (hr : Room (k + 2) X.A)
    (I : Inv X pins σ H s) (hs : SqL X.K H l xs) (dm : Din T H) (hd : DpAll X.K (off T H) xs ds) (hlen : kz.length = ds.length) (h64 : ds.length < 64) (hR : ∀ (i : Nat) d kk, ds[i]? = some d → kz[i]? = some kk → R [d] (.int kk))
    (h : ∀ (H' : Hp) (p : Addr) (ys : List V) (qs : List (Int × PyData)), Sm H H' → H' p = none → DpAll X.K (off T H') ys (qs.map (·.2)) → qs.Perm (kz.zip ds) → (qs.Pairwise fun p q => p.1 ≤ q.1) → Q (.ref p) (upd H' p (.lst ys))) :
    wpAny (model X.prog X.w) X.A (PySem.call (.builtin "sorted") [.ref l] [("key", .ref fa)]) (EP X pins σ Q) X.xe s := by
  obtain ⟨vs, rv, hl, hz⟩ := I.list hs
  have hvl : vs.length = ds.length := by rw [← dps_len hd, rv.length]
  refine call_function_entry_kw kind_sorted plain_sorted entry_sorted (ksk_s1 _ _) ?_
  unfold Builtin.«sorted»
  refine wpAny_bind (m := checkCount "sorted" 1 1 _) (wpAny_pure ?_)
  refine wpAny_bind (collect_list hl.isList ?_ (by rw [sizeLine_eq]; omega))
  refine wpAny_bind (wpAny_newList ?_ (by rw [sizeLine_eq]; omega))
  have hsz : ((s.heap.push (seqObj "list" #[] 0)).update s.heap.objs.size (Obj.mapSeq (· ++ vs.toArray))).objs.size = s.heap.objs.size + 1 := by
    rw [Heap.size_update, size_push']
  have hoL : (((s.heap.push (seqObj "list" #[] 0)).update s.heap.objs.size (Obj.mapSeq (· ++ vs.toArray))).push (seqObj "list" vs.toArray 0)).get? (s.heap.objs.size + 1) = some (seqObj "list" vs.toArray 0) := by
    rw [← hsz]; exact Heap.get?_push_size _ rfl
  have keep : ∀ b o, s.heap.get? b = some o → (((s.heap.push (seqObj "list" #[] 0)).update s.heap.objs.size (Obj.mapSeq (· ++ vs.toArray))).push (seqObj "list" vs.toArray 0)).get? b = some o := fun b o q => by
    have hlt : b < s.heap.objs.size := Heap.lt_size q
    rw [Heap.get?_push_ne _ _ _ (by rw [hsz]; exact Nat.ne_of_lt (Nat.lt_succ_of_lt hlt)), Heap.get?_update_ne _ _ _ _ (Nat.ne_of_lt hlt), Heap.get?_push_ne _ _ _ (Nat.ne_of_lt hlt)]
    exact q
  show wpAny _ _ _ _ _ { s with heap := ((s.heap.push (seqObj "list" #[] 0)).update s.heap.objs.size (Obj.mapSeq (· ++ vs.toArray))).push (seqObj "list" vs.toArray 0) }
  rw [hsz]
  have I1 : Inv X pins σ H { s with heap := ((s.heap.push (seqObj "list" #[] 0)).update s.heap.objs.size (Obj.mapSeq (· ++ vs.toArray))).push (seqObj "list" vs.toArray 0) } := I.kept (t' := s.toks) keep
  have fA : FpOk X pins H (s.heap.objs.size + 1) := I.fpOk (Nat.le_succ _) (I.hok.fresh (Nat.le_succ _))
  refine wpAny_bind (wpAny_holding (wpAny_call_entry_kw slot_list_sort ⟨_, hoL, rfl⟩ entry_list_sort ?body (ksk_l1 _ _)))
  case body =>
    show wpAny (model X.prog X.w) X.A.in1.in1 (Builtin.«list.sort» ⟨[.ref (s.heap.objs.size + 1)], [(Str.ofString "key", .ref fa)]⟩) _ _ _
    rw [ksk_t1]
    refine key_sort F hb hr I1 hoL fA rv dm hd (by rw [hvl]; exact hlen) (by omega) hR fun s' H' ys qs I' sm hn r2 r3 r4 => ⟨_, rfl, ?_⟩
    exact wpAny_pure ⟨_, rfl, .ref _, _, I', rfl, h H' _ ys qs sm hn r2 r3 r4⟩
end
section
variable {X : Cx} {a : Addr} {ρ : Rho} {e : Expr} {ds ds' : List PyData} {kz : List Int} {k : Nat} {fn n : Str} {R : List PyData → PyData → Prop} {p p2 p3 pos : Pos}
theorem e_sortedK (C : Cal X.prog X.w X.K X.mg X.base k fn [n] (spR X.K R)) (hr : Room (k + 2) X.A) (he : EvE X a e ρ (.list ds)) (hlen : kz.length = ds.length) (h64 : ds.length < 64) (hR : ∀ (i : Nat) d kk, ds[i]? = some d → kz[i]? = some kk → R [d] (.int kk))
    (hS : ∀ qs : List (Int × PyData), qs.Perm (kz.zip ds) → (qs.Pairwise fun p q => p.1 ≤ q.1) → qs.map (·.2) = ds') (hm : X.mg "sorted" = none) (hg : Gl X "sorted" := by rfl) (hgf : Gl X fn := by rfl) (hdf : (fn == ("__debug__" : Str)) = false := by decide)
    (h1 : starEach [e] X.env = (false, eval e X.env) :: starEach [] X.env := by exact star_of rfl) (h2 : backTo pos (starEach [e] X.env) = (false, eval e X.env) :: backTo pos (starEach [] X.env) := by rfl) (h3 : (backTo pos (starEach [e] X.env)).any (·.1) = false := by rfl) :
    EvE X a (.Call (.Name "sorted" p) [e] [⟨some "key", .Name fn p2, p3⟩] pos) ρ (.list ds') := fun T σ H S Q q => by
  obtain ⟨fa, fd, F, hmf, hk, hb⟩ := C.ex
  refine toE (pe_callBK (id := "sorted") (ks := ["key"]) (r := fun vs zs H Q => ∃ (l : Addr) (xs : List V), vs = [.ref l] ∧ zs = [.ref fa] ∧ SqL X.K H l xs ∧ Din T H ∧ DpAll X.K (off T H) xs ds ∧ ∀ (H' : Hp) (p : Addr) (ys : List V) (qs : List (Int × PyData)), Sm H H' → H' p = none → DpAll X.K (off T H') ys (qs.map (·.2)) → qs.Perm (kz.zip ds) → (qs.Pairwise fun p q => p.1 ≤ q.1) → Q (.ref p) (upd H' p (.lst ys)))
    (fun pins s σ H vs zs us ws Q I r rz h => ?_) hg hm (by decide +kernel) (pa_cons je pa_nil h1) (pk_cons (nm := some "key") (kpos := p3) (pe_glob (v := .ref fa) hgf hmf rfl hdf) pk_nil) (by decide) (by decide) h2 h3) ?_
  · obtain ⟨l, xs, rfl, rfl, g1, g2, g3, g4⟩ := h
    obtain rfl := Vals.ref1 r
    obtain rfl := Vals.ref1 rz
    exact key_sorted F hb hr I g1 g2 g3 hlen h64 hR g4
  · refine he T σ H S _ fun v H1 s1 p1 => ?_
    obtain ⟨pa, xs, rfl, g1, g2⟩ := dpo_lst p1
    refine ⟨pa, xs, rfl, rfl, g1, S.dm.same s1, g2, fun H' p' ys qs sm hn r1 r2 r3 => ?_⟩
    have dm' := (S.dm.same s1).same sm
    refine q _ _ ((s1.trans sm).trans (same_new hn)) ?_
    rw [← hS qs r2 r3]
    refine .lst (.of ?_) (dps_same (off_same (same_new hn)) r1)
    rw [off_new dm' hn, upd_same]
end
end Zj
/-! One row after another comes to the same reduced rows. -/
namespace Zj
open PySem PySem.Spec
variable [Nm]
theorem lead_rr {w p : Nat} {s : List Int} (h : Rr w p s) (hp : p + 1 < w) : lead s.dropLast = some p :=
  lead_of (fun j hj => by rw [cf_dropLast (by rw [h.len]; omega)]; exact h.low j hj) (by rw [cf_dropLast (by rw [h.len]; omega)]; have := h.pos; omega)
theorem asc_len {m : Nat} : ∀ {Q : List (Nat × List Int)} {k : Nat}, (Q.Pairwise fun a b => a.1 < b.1) → (∀ q ∈ Q, k ≤ q.1 ∧ q.1 < m) → k ≤ m → Q.length + k ≤ m
  | [], k, _, _, hk => by simpa using hk
  | q :: Q, k, h, hq, hk => by
    obtain ⟨h1, h2⟩ := List.pairwise_cons.mp h
    obtain ⟨g1, g2⟩ := hq q List.mem_cons_self
    have := asc_len (k := q.1 + 1) h2 (fun t ht => ⟨h1 t ht, (hq t (List.mem_cons_of_mem _ ht)).2⟩) (by omega)
    rw [List.length_cons]
    omega
theorem red_len {w : Nat} {Q : List (Nat × List Int)} (R : Red w Q) (h : ∀ q ∈ Q, q.1 + 1 < w) : Q.length ≤ w - 1 := by
  have := asc_len (k := 0) (m := w - 1) R.asc (fun q hq => ⟨Nat.zero_le _, by have := h q hq; omega⟩) (Nat.zero_le _)
  omega
theorem Eqv.cons {S T : List (List Int)} (row : List Int) (h : Eqv S T) : Eqv (row :: S) (T ++ [row]) := ⟨fun s hs => by
  rcases List.mem_cons.mp hs with rfl | hs
  · exact .one (List.mem_append.mpr (.inr (List.mem_singleton.mpr rfl)))
  · exact (h.1 s hs).mono fun t ht => List.mem_append.mpr (.inl ht), fun t ht => by
  rcases List.mem_append.mp ht with ht | ht
  · exact (h.2 t ht).mono fun s hs => List.mem_cons_of_mem _ hs
  · rw [List.mem_singleton] at ht
    rw [ht]
    exact .one List.mem_cons_self⟩
section
variable {w i p : Nat} {rows : List (List Int)} {row pl : List Int}
theorem take_more (h : rows[i]? = some row) : rows.take (i + 1) = rows.take i ++ [row] := by rw [List.take_add_one, h] <;> rfl
theorem len_take (hl : ∀ r ∈ rows, r.length = w) (n : Nat) : ∀ r ∈ rows.take n, r.length = w := fun r hr => hl r (List.mem_of_mem_take hr)
/-- a row that brings nothing -/
theorem step_same (hl : ∀ r ∈ rows, r.length = w) (h : rows[i]? = some row) (hz : ∀ j, cf (clrAll row (redL w (rows.take i))) j = 0) : redL w (rows.take (i + 1)) = redL w (rows.take i) := by
  obtain ⟨R, E⟩ := redL_ok (len_take hl i)
  refine (redL_is (len_take hl (i + 1)) R ?_).symm
  rw [take_more h]
  exact (red_same R (hl row (List.mem_of_getElem? h)) hz).trans (E.cons row)
/-- a row that no point keeps -/
theorem step_none (hl : ∀ r ∈ rows, r.length = w) (hw : 1 ≤ w) (h : rows[i]? = some row) (hn : lead (clrAll row (redL w (rows.take i))).dropLast = none) (hd : cf (clrAll row (redL w (rows.take i))) (w - 1) ≠ 0) : isNo (w - 1) (redL w rows) = true := by
  obtain ⟨R, E⟩ := redL_ok (len_take hl i)
  obtain ⟨RU, EU⟩ := redL_ok hl
  obtain ⟨r, hr⟩ := red_none R (hl row (List.mem_of_getElem? h)) hw hn hd RU fun s hs => by
    rcases List.mem_cons.mp hs with rfl | hs
    · exact EU.2 _ (List.mem_of_getElem? h)
    · exact ((E.1 s hs).mono fun t ht => List.mem_of_mem_take ht).trans EU.2
  unfold isNo
  exact List.any_eq_true.mpr ⟨_, hr, by simp⟩
/-- a row that brings a plane -/
theorem step_plane (hl : ∀ r ∈ rows, r.length = w) (hlt : ∀ q ∈ redL w (rows.take i), q.1 + 1 < w) (h : rows[i]? = some row) (hp : lead (clrAll row (redL w (rows.take i))).dropLast = some p) (hpl : planeL (clrAll row (redL w (rows.take i))) = some pl) :
    Rr w p pl ∧ p + 1 < w ∧ ∃ s : Nat × List Int → List Int, (∀ q ∈ redL w (rows.take i), planeL (clrR p q.2 pl) = some (s q) ∧ Rr w q.1 (s q)) ∧
      ∀ M : List (Nat × List Int), M.Perm ((redL w (rows.take i)).map (fun q => (q.1, s q)) ++ [(p, pl)]) → (M.Pairwise fun a b => a.1 ≤ b.1) → M = redL w (rows.take (i + 1)) ∧ ∀ q ∈ redL w (rows.take (i + 1)), q.1 + 1 < w := by
  obtain ⟨R, E⟩ := redL_ok (len_take hl i)
  have hrow := hl row (List.mem_of_getElem? h)
  obtain ⟨hr, pw, hz, _⟩ := fresh_ok R hrow hp hpl
  have each : ∀ q ∈ redL w (rows.take i), ∃ s, planeL (clrR p q.2 pl) = some s ∧ Rr w q.1 s := fun q hq => by
    obtain ⟨s, e1, _, e2, _⟩ := other_ok R hlt hr hz hq
    exact ⟨s, e1, e2⟩
  obtain ⟨s, hs⟩ : ∃ s : Nat × List Int → List Int, ∀ q ∈ redL w (rows.take i), planeL (clrR p q.2 pl) = some (s q) ∧ Rr w q.1 (s q) := ⟨fun q => (planeL (clrR p q.2 pl)).getD [], fun q hq => by
    obtain ⟨s, e1, e2⟩ := each q hq
    show planeL (clrR p q.2 pl) = some ((planeL (clrR p q.2 pl)).getD []) ∧ Rr w q.1 ((planeL (clrR p q.2 pl)).getD [])
    rw [e1]
    exact ⟨rfl, e2⟩⟩
  refine ⟨hr, pw, s, hs, fun M hM asc => ?_⟩
  · have nd : (((redL w (rows.take i)).map (fun q => (q.1, s q)) ++ [(p, pl)] : List (Nat × List Int))).Pairwise fun a b => a.1 ≠ b.1 := by
      rw [List.pairwise_append]
      refine ⟨?_, List.pairwise_singleton _ _, fun x hx y hy => ?_⟩
      · rw [List.pairwise_map]
        exact R.asc.imp fun {a b} z => by show a.1 ≠ b.1; omega
      · obtain ⟨q, hq, rfl⟩ := List.mem_map.mp hx
        rw [List.mem_singleton] at hy
        rw [hy]
        exact (hz q hq).1
    have ndM : M.Pairwise fun a b => a.1 ≠ b.1 := (hM.pairwise_iff fun {a b} z => Ne.symm z).mpr nd
    have lt : M.Pairwise fun a b => a.1 < b.1 := (asc.and ndM).imp fun {a b} z => Nat.lt_of_le_of_ne z.1 z.2
    obtain ⟨RM, ltM, EM⟩ := red_step (T := M) R hlt hrow hp hpl (fun x => by
      rw [hM.mem_iff]
      constructor
      · intro hx
        rcases List.mem_append.mp hx with hx | hx
        · obtain ⟨q, hq, rfl⟩ := List.mem_map.mp hx
          exact .inr ⟨q, hq, s q, (hs q hq).1, rfl⟩
        · exact .inl (List.mem_singleton.mp hx)
      · rintro (rfl | ⟨q, hq, u, e1, rfl⟩)
        · exact List.mem_append.mpr (.inr (List.mem_singleton.mpr rfl))
        · rw [(hs q hq).1] at e1
          cases e1
          exact List.mem_append.mpr (.inl (List.mem_map.mpr ⟨q, hq, rfl⟩))) lt
    have e : M = redL w (rows.take (i + 1)) := redL_is (len_take hl (i + 1)) RM (by
      rw [take_more h]
      exact EM.trans (E.cons row))
    exact ⟨e, by rw [← e]; exact ltM⟩
theorem clrAll_bits {n b : Nat} : ∀ {Q : List (Nat × List Int)} {row : List Int}, BitsL n row → (∀ q ∈ Q, BitsL b q.2) → BitsL (n + Q.length * (b + 1)) (clrAll row Q)
  | [], row, h, _ => h.mono (by simp)
  | q :: Q, row, h, hq => by
    have := clrAll_bits (Q := Q) (row := clrR q.1 row q.2) (clr_bits h (hq q List.mem_cons_self)) fun t ht => hq t (List.mem_cons_of_mem _ ht)
    refine BitsL.mono (n := n + (q :: Q).length * (b + 1)) (m := n + b + 1 + Q.length * (b + 1)) this ?_
    rw [List.length_cons, Nat.add_mul]
    omega
theorem flatPD_some {D : Nat} {rows : List (List Int)} (h : ∀ q ∈ redL (D + 1) rows, q.1 + 1 < D + 1) : flatPD D rows = .tuple ((rowsOf (redL (D + 1) rows)).map fun r => tI r) := by
  unfold flatPD
  rw [if_neg]
  unfold isNo
  intro z
  obtain ⟨q, hq, e⟩ := List.any_eq_true.mp z
  have := h q hq
  have e : q.1 = D := by simpa using e
  omega
end
end Zj
/-! Flats: reduced rows. -/
namespace K4
open PySem PySem.Spec PyProof.Rows L2 Zj
variable [Nm]
section
variable {P : Program} {w : World} {K : PySem.W.Frag} {mg : Str → Option Value} {base : Heap} {f : Addr} {fd : FuncData}
def R_lp (ds : List PyData) (d : PyData) : Prop := ∃ xs : List Int, ds = [tI xs] ∧ 1 ≤ xs.length ∧ d = placeD (lead xs.dropLast)
theorem ok_lp (F : Fun K "leading_place" "leading_place" st_leading_place f fd) (CF : Cal P w K mg base 1 "first_place" ["numbers"] (spR K R_first)) : FnOk P w K mg base CX0 2 f fd ["plane"] (spR K R_lp) := by
  refine fnR F sc_leading_place (fun ds d h => by obtain ⟨_, rfl, _⟩ := h; rfl) fun cdv A outer s H E G hr ds d h => ?_
  obtain ⟨xs, rfl, h1, rfl⟩ := h
  have h1' : 1 ≤ (xs.map PyData.int).length := by simpa using h1
  exact r_one (rs_ret (e_call CF (hr.mono (by decide)) (a_cons (e_is (e_slT (e_var (i := 0) rfl) o_non (o_int (e_neg e_int)) (cut_part _ h1')) (by rw [cutD_init _ h1', initI])) a_nil) ⟨_, rfl, rfl⟩) rfl)
def R_clr (ds : List PyData) (d : PyData) : Prop := ∃ (r s : List Int) (p : Nat), ds = [tI r, tI s] ∧ lead s.dropLast = some p ∧ r.length = s.length ∧ s.length ≤ 1000 ∧ BitsL 20000 r ∧ BitsL 20000 s ∧ d = tI (clrR p r s)
theorem lead_ge {s : List Int} {p : Nat} (h : lead s.dropLast = some p) : p + 1 < s.length ∧ 1 ≤ s.length := by
  have := (lead_low h).2.2
  rw [List.length_dropLast] at this
  omega
theorem at_cf {s : List Int} {p : Nat} (h : p < s.length) : atI (s.map PyData.int) (p : Int) = some (.int (cf s p)) := atI_nat (by rw [List.getElem?_map, List.getElem?_eq_getElem h, cf_get (List.getElem?_eq_getElem h)] <;> rfl)
theorem cf_bits {s : List Int} {p n : Nat} (h : BitsL n s) (hp : p < s.length) : Bits n (cf s p) := by
  rw [cf_get (List.getElem?_eq_getElem hp)]
  exact h _ (List.getElem_mem hp)
theorem ok_clr (F : Fun K "_cleared" "_cleared" st__cleared f fd) (T : Tx mg) (CL : Cal P w K mg base 2 "leading_place" ["plane"] (spR K R_lp)) : FnOk P w K mg base CX0 3 f fd ["row", "plane"] (spR K R_clr) := by
  refine fnR F sc__cleared (fun ds d h => by obtain ⟨_, _, _, rfl, _⟩ := h; rfl) fun cdv A outer s H E G hr ds d h => ?_
  obtain ⟨r, t, p, rfl, hp, hl, hz, b1, b2, rfl⟩ := h
  obtain ⟨g1, g2⟩ := lead_ge hp
  refine r_cons (rs_set (i := 2) (d := .int (p : Int)) G (e_is (e_call CL (hr.mono (by decide)) (a_cons (e_var (i := 1) rfl) a_nil) ⟨t, rfl, g2, rfl⟩) (by rw [hp] <;> rfl)) ?_)
  refine r_one (rs_ret (e_is (e_callT ca_tupL (a_cons (e_lc0 (own := [("number", 3), ("part", 4)]) (f := fPair 3 4) (val := onPair fun x y => cf t p * x - cf r p * y) (items := List.zipWith (fun x y => PyData.tuple [x, y]) (r.map .int) (t.map .int)) G
    (src_ZT (a_cons (e_var (i := 0) rfl) (a_cons (e_var (i := 1) rfl) a_nil)) T.zip) (by simp; omega) (blkOk_by (N := n__cleared) (sc := defScope st__cleared) (by decide +kernel))
    (fun _ _ _ _ _ => pg_tup rfl (pgs_cons (pg_name (i := 3) sc__cleared.nd rfl (Or.inl rfl)) (pgs_cons (pg_name (i := 4) sc__cleared.nd rfl (Or.inl rfl)) pgs_nil))) (tg_pair (by decide) (by decide)) fun d hd => ?_) a_nil) T.tuple (by decide +kernel)) ?_) rfl)
  · obtain ⟨x, h1, y, h2, rfl⟩ := mem_zipI hd
    exact ⟨_, rfl, fun s H C cl fp => e_bin od_sub (e_bin (od_mul (mul_ok (cf_bits b2 (by omega)) (b1 x h1) (by decide))) (e_ixT (e_var (i := 1) rfl) (e_var (i := 2) rfl) (at_cf (by omega))) (e_var (i := 3) rfl))
      (e_bin (od_mul (mul_ok (cf_bits b1 (by omega)) (b2 y h2) (by decide))) (e_ixT (e_var (i := 0) rfl) (e_var (i := 2) rfl) (at_cf (by omega))) (e_var (i := 4) rfl))⟩
  · rw [zipI_map] <;> rfl
/-- rows, as data -/
def rsD (l : List (List Int)) : List PyData := l.map fun r => tI r
def R_ca (ds : List PyData) (d : PyData) : Prop := ∃ (m n b : Nat) (row : List Int) (Q : List (Nat × List Int)), ds = [tI row, .list (rsD (rowsOf Q))] ∧ Red m Q ∧ (∀ q ∈ Q, q.1 + 1 < m) ∧ row.length = m ∧ m ≤ 10 ∧ BitsL n row ∧ (∀ q ∈ Q, BitsL b q.2) ∧ n + Q.length * (b + 1) + b ≤ 20000 ∧ d = tI (clrAll row Q)
theorem clrAll_take {Q : List (Nat × List Int)} {row : List Int} {i : Nat} {q : Nat × List Int} (h : Q[i]? = some q) : clrAll row (Q.take (i + 1)) = clrR q.1 (clrAll row (Q.take i)) q.2 := by
  unfold clrAll
  rw [List.take_add_one, h, List.foldl_append] <;> rfl
theorem ok_ca (F : Fun K "cleared_by_all" "cleared_by_all" st_cleared_by_all f fd) (C : Cal P w K mg base 3 "_cleared" ["row", "plane"] (spR K R_clr)) : FnOk P w K mg base CX0 4 f fd ["row", "planes"] (spR K R_ca) := by
  refine fnR F sc_cleared_by_all (fun ds d h => by obtain ⟨_, _, _, _, _, rfl, _⟩ := h; rfl) fun cdv A outer s H E G hr ds d h => ?_
  obtain ⟨m, n, b, row, Q, rfl, R, lt, hl, hm, b1, b2, hbd, rfl⟩ := h
  have ln : Q.length ≤ 9 := by have := red_len R lt; omega
  refine r_cons (rs_set (i := 2) G (e_var (i := 0) rfl) ?_)
  refine r_cons (rs_for G (src_L (e_var (i := 1) rfl)) (pg_name (i := 3) sc_cleared_by_all.nd rfl (Or.inl rfl)) (tg_name (vs := [3]) (by decide)) (fun i ρ' => ∃ y, ρ' = [some (.dat (tI row)), some (.dat (.list (rsD (rowsOf Q)))), some (.dat (tI (clrAll row (Q.take i)))), y]) ⟨none, rfl⟩ (fun i d ρ1 hd hJ => ?_) fun ρ' hJ => ?_)
  · obtain ⟨y, rfl⟩ := hJ
    obtain ⟨q, hq, rfl⟩ : ∃ q, Q[i]? = some q ∧ d = tI q.2 := by
      unfold rsD rowsOf at hd
      rw [List.map_map, List.getElem?_map] at hd
      obtain ⟨q, h1, h2⟩ := Option.map_eq_some_iff.mp hd
      exact ⟨q, h1, h2.symm⟩
    have hi : i < Q.length := (List.getElem?_eq_some_iff.mp hq).1
    have mem := List.mem_of_getElem? hq
    have rq := R.row q mem
    have R' : ∀ t ∈ Q.take i, t ∈ Q := fun t ht => List.mem_of_mem_take ht
    have cl := (clrAll_ok R (Q.take i) row R' hl).1
    have cb : BitsL 20000 (clrAll row (Q.take i)) := (clrAll_bits (Q := Q.take i) b1 fun t ht => b2 t (R' t ht)).mono (by
      rw [List.length_take, Nat.min_eq_left (by omega)]
      have : i * (b + 1) ≤ Q.length * (b + 1) := Nat.mul_le_mul (by omega) (Nat.le_refl _)
      omega)
    refine ⟨_, rfl, r_one (rs_set (i := 2) G (e_call C (hr.mono (by decide)) (a_cons (e_var (i := 2) rfl) (a_cons (e_var (i := 3) rfl) a_nil)) ⟨_, q.2, q.1, rfl, lead_rr rq (lt q mem), by rw [cl, rq.len], by rw [rq.len]; omega, cb, (b2 q mem).mono (by omega), rfl⟩) ⟨some (.dat (tI q.2)), ?_⟩)⟩
    rw [clrAll_take hq] <;> rfl
  · obtain ⟨y, rfl⟩ := hJ
    rw [show (rsD (rowsOf Q)).length = Q.length from by unfold rsD rowsOf; simp, List.take_length]
    exact r_one (rs_ret (e_var (i := 2) rfl) rfl)
end
end K4
/-! The flat of rows. -/
namespace K4
open PySem PySem.Spec PyProof.Rows L2 Zj
variable [Nm]
/-- the numbers stay short while rows are put in one after another -/
def Bd (m : Nat) (rows : List (List Int)) : Prop := ∀ (i : Nat) (row : List Int), rows[i]? = some row → (∀ q ∈ redL m (rows.take i), q.1 + 1 < m) → ∃ n b, BitsL n row ∧ (∀ q ∈ redL m (rows.take i), BitsL b q.2) ∧ n + (redL m (rows.take i)).length * (b + 1) + b + 1 ≤ 8000
def R_flat (ds : List PyData) (d : PyData) : Prop := ∃ (D : Nat) (rows : List (List Int)), ds = [.int (D : Int), .tuple (rsD rows)] ∧ 1 ≤ D ∧ D ≤ 4 ∧ rows.length ≤ 50 ∧ (∀ r ∈ rows, r.length = D + 1) ∧ Bd (D + 1) rows ∧ d = flatPD D rows
def unI : PyData → List Int
  | .tuple ds => ds.filterMap fun d => match d with
    | .int x => some x
    | _ => none
  | _ => []
theorem unI_tI (xs : List Int) : unI (tI xs) = xs := by
  show (xs.map PyData.int).filterMap _ = xs
  rw [List.filterMap_map]
  induction xs with
  | nil => rfl
  | cons x xs ih =>
    rw [List.filterMap_cons]
    exact congrArg (List.cons x) ih
def vOth (p : Nat) (pl : List Int) (d : PyData) : PyData := planeD (clrR p (unI d) pl)
theorem planeD_eq {row pl : List Int} (h : planeL row = some pl) : planeD row = tI pl := by
  unfold planeD
  rw [h]
theorem planeD_no {row : List Int} (h : lead row.dropLast = none) : planeD row = .none := by
  unfold planeD planeL
  rw [h]
theorem rsD_len (l : List (List Int)) : (rsD l).length = l.length := by unfold rsD; simp
theorem rsD_get {l : List (List Int)} {i : Nat} {d : PyData} (h : (rsD l)[i]? = some d) : ∃ r, l[i]? = some r ∧ d = tI r := by
  unfold rsD at h
  rw [List.getElem?_map] at h
  obtain ⟨r, h1, h2⟩ := Option.map_eq_some_iff.mp h
  exact ⟨r, h1, h2.symm⟩
section
variable {P : Program} {w : World} {K : PySem.W.Frag} {mg : Str → Option Value} {base : Heap} {f : Addr} {fd : FuncData}
theorem ok_flat (F : Fun K "flat_of" "flat_of" st_flat_of f fd) (T : Tx mg) (hsort : mg "sorted" = none) (CA : Cal P w K mg base 4 "cleared_by_all" ["row", "planes"] (spR K R_ca)) (CP : Cal P w K mg base 3 "plane_of" ["row"] (spR K R_plane)) (CC : Cal P w K mg base 3 "_cleared" ["row", "plane"] (spR K R_clr))
    (CL : Cal P w K mg base 2 "leading_place" ["plane"] (spR K R_lp)) : FnOk P w K mg base CX0 5 f fd ["dimension", "rows"] (spR K R_flat) := by
  refine fnR F sc_flat_of (fun ds d h => by obtain ⟨_, _, rfl, _⟩ := h; rfl) fun cdv A outer s H E G hr ds d h => ?_
  obtain ⟨D, rows, rfl, hD, hD4, hn, hl, hbd, rfl⟩ := h
  refine r_cons (rs_set (i := 2) (d := .list []) G (e_lst a_nil) ?_)
  refine r_cons (rs_for G (src_T (e_var (i := 1) rfl)) (pg_name (i := 3) sc_flat_of.nd rfl (Or.inl rfl)) (tg_name (vs := [3]) (by decide)) (fun i ρ' => (∀ q ∈ redL (D + 1) (rows.take i), q.1 + 1 < D + 1) ∧ ∃ y3 y4 y5 y6 y7, ρ' = [some (.dat (.int (D : Int))), some (.dat (.tuple (rsD rows))), some (.dat (.list (rsD (rowsOf (redL (D + 1) (rows.take i)))))), y3, y4, y5, y6, y7])
    ⟨fun q hq => ?h0, none, none, none, none, none, ?h1⟩ (fun i d ρ1 hd hJ => ?_) fun ρ' hJ => ?_)
  case h0 =>
    exfalso
    obtain ⟨R, E⟩ := redL_ok (w := D + 1) (rows := rows.take 0) (fun r hr => by simp at hr)
    obtain ⟨n, hn, h⟩ := E.1 q.2 (mem_rows hq)
    rw [List.take_zero] at h
    have : ∀ {v : Nat → Int}, IC [] v → ∀ j, v j = 0 := fun {v} h => by
      induction h with
      | zero => exact fun _ => rfl
      | add c hs _ _ => cases hs
    have z := this h q.1
    have p := (R.row q hq).pos
    rcases Int.mul_eq_zero.mp z with y | y
    · exact hn y
    · omega
  case h1 =>
    have e : redL (D + 1) (rows.take 0) = [] := by
      refine (redL_is (w := D + 1) (Q := []) (fun r hr => by simp at hr) ⟨nofun, .nil, nofun⟩ ?_).symm
      rw [List.take_zero]
      exact .refl _
    rw [e] <;> rfl
  · obtain ⟨lt, y3, y4, y5, y6, y7, rfl⟩ := hJ
    obtain ⟨row, hrow, rfl⟩ := rsD_get hd
    have hrl := hl row (List.mem_of_getElem? hrow)
    obtain ⟨n, b, b1, b2, b3⟩ := hbd i row hrow lt
    obtain ⟨R, _⟩ := redL_ok (len_take hl i)
    have cl := (clrAll_ok R (redL (D + 1) (rows.take i)) row (fun t ht => ht) hrl).1
    have cb := clrAll_bits b1 b2
    have lnQ := red_len R lt
    refine ⟨_, rfl, r_cons (rs_set (i := 4) G (e_call CA (hr.mono (by decide)) (a_cons (e_var (i := 3) rfl) (a_cons (e_var (i := 2) rfl) a_nil)) ⟨D + 1, n, b, row, redL (D + 1) (rows.take i), rfl, R, lt, hrl, by omega, b1, b2, by omega, rfl⟩) ?_)⟩
    refine r_cons (rs_set (i := 5) G (e_call CP (hr.mono (by decide)) (a_cons (e_var (i := 4) rfl) a_nil) ⟨_, rfl, by rw [cl]; omega, by rw [cl]; omega, cb.mono (by omega), rfl⟩) ?_)
    cases hp : lead (clrAll row (redL (D + 1) (rows.take i))).dropLast with
    | some p =>
      obtain ⟨y, _, _, hpl⟩ := planeL_some hp
      generalize hpe : (if y < 0 then (shortL (clrAll row (redL (D + 1) (rows.take i)))).map (fun x => -x) else shortL (clrAll row (redL (D + 1) (rows.take i)))) = pl at hpl
      obtain ⟨hr', pw, sf, hsf, step⟩ := step_plane hl lt hrow hp hpl
      rw [planeD_eq hpl]
      have pb : BitsL (n + (redL (D + 1) (rows.take i)).length * (b + 1)) pl := planeL_bits hpl cb
      have lpl := lead_rr hr' pw
      have each : ∀ d ∈ rsD (rowsOf (redL (D + 1) (rows.take i))), ∃ q ∈ redL (D + 1) (rows.take i), d = tI q.2 := fun d hd => by
        unfold rsD rowsOf at hd
        rw [List.map_map] at hd
        obtain ⟨q, hq, rfl⟩ := List.mem_map.mp hd
        exact ⟨q, hq, rfl⟩
      have eo : (rsD (rowsOf (redL (D + 1) (rows.take i)))).map (vOth p pl) = (redL (D + 1) (rows.take i)).map fun q => tI (sf q) := by
        unfold rsD rowsOf
        rw [List.map_map, List.map_map]
        refine List.map_congr_left fun q hq => ?_
        show vOth p pl (tI q.2) = tI (sf q)
        unfold vOth
        rw [unI_tI, planeD_eq (hsf q hq).1]
      refine r_one (rs_if (b := true) (t_is (t_cmp od_notN (e_var (i := 5) rfl) e_non (nomark _)) rfl) (fun _ => ?_) nofun)
      refine r_cons (rs_lc0 (i := 6) (own := [("plane", 7)]) (f := fName 7) (val := vOth p pl) G (src_L (e_var (i := 2) rfl)) (by rw [rsD_len]; unfold rowsOf; rw [List.length_map]; omega) (blkOk_by (N := n_flat_of) (sc := defScope st_flat_of) (by decide +kernel))
        (fun _ _ _ _ _ => pg_name (i := 7) sc_flat_of.nd rfl (Or.inl rfl)) (tg_name (by decide)) (fun d hd => ?_) ?_)
      · obtain ⟨q, hq, rfl⟩ := each d hd
        have rq := R.row q hq
        have cq := clr_bits (p := p) (b2 q hq) pb
        have clq : (clrR p q.2 pl).length = D + 1 := clr_len rq.len hr'.len
        exact ⟨_, rfl, fun s H C cl fp => e_is (e_call CP (hr.mono (by decide)) (a_cons (e_call CC (hr.mono (by decide)) (a_cons (e_var (i := 7) rfl) (a_cons (e_var (i := 5) rfl) a_nil)) ⟨q.2, pl, p, rfl, lpl, by rw [rq.len, hr'.len], by rw [hr'.len]; omega, (b2 q hq).mono (by omega), pb.mono (by omega), rfl⟩) a_nil)
          ⟨clrR p q.2 pl, rfl, by rw [clq]; omega, by rw [clq]; omega, cq.mono (by omega), rfl⟩) (by unfold vOth; rw [unI_tI])⟩
      · rw [eo]
        have mz : (((redL (D + 1) (rows.take i)).map fun q => (q.1 : Int)) ++ [(p : Int)]).zip (((redL (D + 1) (rows.take i)).map fun q => tI (sf q)) ++ [tI pl]) = (((redL (D + 1) (rows.take i)).map fun q => (q.1, sf q)) ++ [(p, pl)]).map fun x => ((x.1 : Int), tI x.2) := by
          rw [List.zip_append (by simp), List.map_append, List.map_map]
          congr 1
          generalize redL (D + 1) (rows.take i) = L
          induction L with
          | nil => rfl
          | cons q L ih =>
            rw [List.map_cons, List.map_cons, List.map_cons, List.zip_cons_cons, ih] <;> rfl
        have fin : ∀ qs : List (Int × PyData), qs.Perm ((((redL (D + 1) (rows.take i)).map fun q => (q.1 : Int)) ++ [(p : Int)]).zip (((redL (D + 1) (rows.take i)).map fun q => tI (sf q)) ++ [tI pl])) → (qs.Pairwise fun p q => p.1 ≤ q.1) →
            qs.map (·.2) = rsD (rowsOf (redL (D + 1) (rows.take (i + 1)))) ∧ ∀ q ∈ redL (D + 1) (rows.take (i + 1)), q.1 + 1 < D + 1 := fun qs h1 h2 => by
          rw [mz] at h1
          obtain ⟨M, m1, rfl⟩ := perm_lift h1 rfl
          rw [List.pairwise_map] at h2
          obtain ⟨e1, e2⟩ := step M m1 (h2.imp fun {a b} z => by
            have z : (a.1 : Int) ≤ (b.1 : Int) := z
            omega)
          refine ⟨?_, e2⟩
          rw [List.map_map, e1]
          unfold rsD rowsOf
          rw [List.map_map] <;> rfl
        have lt2 := (fin _ (List.mergeSort_perm _ fun p q => decide (p.1 ≤ q.1)) (by
          have := List.pairwise_mergeSort (le := fun (p q : Int × PyData) => decide (p.1 ≤ q.1)) (fun a b c h1 h2 => by simp at *; omega) (fun a b => by simp; omega) ((((redL (D + 1) (rows.take i)).map fun q => (q.1 : Int)) ++ [(p : Int)]).zip (((redL (D + 1) (rows.take i)).map fun q => tI (sf q)) ++ [tI pl]))
          exact this.imp fun {a b} h => by simpa using h)).2
        refine r_one (rs_set (i := 2) (d := .list (rsD (rowsOf (redL (D + 1) (rows.take (i + 1)))))) G (e_sortedK (kz := ((redL (D + 1) (rows.take i)).map fun q => (q.1 : Int)) ++ [(p : Int)]) CL (hr.mono (by decide)) (e_bin (od_catL (fs := [tI pl]) (by simp; omega)) (e_var (i := 6) rfl) (e_lst (a_cons (e_var (i := 5) rfl) a_nil))) (by simp) (by simp; omega) (fun j d kk h1 h2 => ?_) (fun qs h1 h2 => (fin qs h1 h2).1) hsort) ⟨lt2, _, _, _, _, _, rfl⟩)
        by_cases hj : j < (redL (D + 1) (rows.take i)).length
        · rw [List.getElem?_append_left (by simpa using hj), List.getElem?_map, List.getElem?_eq_getElem hj] at h1
          rw [List.getElem?_append_left (by simpa using hj), List.getElem?_map, List.getElem?_eq_getElem hj] at h2
          cases h1
          cases h2
          have hq := List.getElem_mem hj
          have rs := (hsf _ hq).2
          exact ⟨_, rfl, by rw [rs.len]; omega, by rw [lead_rr rs (lt _ hq)] <;> rfl⟩
        · rw [List.getElem?_append_right (by simpa using hj)] at h1 h2
          rw [List.length_map] at h1 h2
          have e0 : j - (redL (D + 1) (rows.take i)).length = 0 := by
            refine Classical.byContradiction fun z => ?_
            rw [List.getElem?_eq_none (by simp; omega)] at h1
            cases h1
          rw [e0] at h1 h2
          cases h1
          cases h2
          exact ⟨_, rfl, by rw [hr'.len]; omega, by rw [lpl] <;> rfl⟩
    | none =>
      rw [planeD_no hp]
      refine r_one (rs_if (b := false) (t_is (t_cmp od_notN (e_var (i := 5) rfl) e_non (nomark _)) rfl) nofun fun _ => ?_)
      refine r_one (rs_if (t_cmp od_neI (e_ixT (e_var (i := 4) rfl) (e_var (i := 0) rfl) (at_cf (by rw [cl]; omega))) e_int (nomark _)) (fun h1 => r_one (rs_ret e_non ?_)) fun h1 => r_nil ?_)
      · have h1 : cf (clrAll row (redL (D + 1) (rows.take i))) (D + 1 - 1) ≠ 0 := by simpa using h1
        have this : isNo D (redL (D + 1) rows) = true := step_none hl (by omega) hrow hp h1
        unfold flatPD
        rw [if_pos this]
      · have h1 : cf (clrAll row (redL (D + 1) (rows.take i))) D = 0 := by simpa using h1
        have hz : ∀ j, cf (clrAll row (redL (D + 1) (rows.take i))) j = 0 := fun j => by
          by_cases hj : j < D
          · rw [← cf_dropLast (by rw [cl]; omega)]
            exact lead_no hp j
          · by_cases hj2 : j = D
            · rw [hj2]
              exact h1
            · exact cf_out (by rw [cl]; omega)
        rw [step_same hl hrow hz]
        exact ⟨lt, _, _, _, _, _, rfl⟩
  · obtain ⟨lt, y3, y4, y5, y6, y7, rfl⟩ := hJ
    rw [rsD_len, List.take_length] at lt ⊢
    rw [flatPD_some lt]
    exact r_one (rs_ret (e_callT ca_tupL (a_cons (e_var (i := 2) rfl) a_nil) T.tuple (by decide +kernel)) rfl)
end
end K4
/-! Loops that may raise; all of a list; one element of a list of one's own, set. -/
namespace Zj
open PySem PySem.Spec PyProof.Rows L2
variable [Nm]
section
variable {X : Cx} {a : Addr} {ρ : Rho} {N : Rho → Prop} {RD : PyData → Prop} {RX : Exc → Rho → Prop} {tg it : Expr} {items : List PyData} {pos : Pos} {body : List Stmt} {g : TG} {vs : List Nat} {f : PyData → Rho → Option Rho}
theorem xs_for (G : Good X) (hs : Src X a tg it ρ items) (hg : PG X tg g) (ht : TgSem X.K a g vs f) (J : Nat → Rho → Prop) (h0 : J 0 ρ)
    (hb : ∀ n d ρ1, items[n]? = some d → J n ρ1 → ∃ ρ2, f d ρ1 = some ρ2 ∧ RunX X a body ρ2 (J (n + 1)) RD RX) (hd : ∀ ρ', J items.length ρ' → N ρ')
    (hf : ∀ x, foldedSetIterable it X.env x = pure x := by intro _; rfl) : RunXS X a (.For tg it body [] pos) ρ N RD RX := fun W tk T σ H D S kn kr kx => by
  obtain ⟨wi, hw, hq⟩ := hs
  refine toS (ps_for G.ow G.calm hw hg jss hf) (hq T σ H S _ fun Ji H1 Gd Y s1 w hG hY => ?_)
  refine for_it w (fun n σ' H' => Sm H1 H' ∧ ∃ ρ', SD X.K a T H' σ' ρ' ∧ J n ρ') ⟨Sm.refl H1, ρ, S.same s1, h0⟩ (fun i σ' H' _ hp => hG T H' (.same (S.same s1).dm hp.1)) (fun i x σ' H' H'' hi hp y => ?_) fun σ' H' hp => ?_
  · obtain ⟨s2, ρ', S', hj⟩ := hp
    obtain ⟨s3, d, hdi, pd⟩ := hY T i H' x H'' hi (.same (S.same s1).dm s2) y
    obtain ⟨ρ2, e2, hrun⟩ := hb i d ρ' hdi hj
    refine ht T σ' H'' x d ρ' ρ2 (S'.same s3) pd e2 _ fun σ2 S2 _ => ?_
    exact hrun W tk T σ2 H'' _ S2 (fun σ3 H3 ρ3 s4 S3 n3 => ⟨(s2.trans s3).trans s4, ρ3, S3, n3⟩) (fun v H3 d s4 p r => kr v H3 d (((s1.trans s2).trans s3).trans s4) p r) fun σ3 cls d H3 x ρ3 s4 S3 p r => kx σ3 cls d H3 x ρ3 (((s1.trans s2).trans s3).trans s4) S3 p r
  · obtain ⟨s2, ρ', S', hj⟩ := hp
    exact kn σ' H' ρ' (s1.trans s2) S' (hd ρ' hj)
end
section
variable {X : Cx} {a : Addr} {ρ : Rho} {e ix : Expr} {ds : List PyData} {d : PyData} {pos p1 p2 : Pos} {i j : Nat} {NL : Rho → List PyData → Prop} {R : PyData → Prop}
theorem dps_set {K : PySem.W.Frag} {H : Hp} : ∀ {ds : List PyData} {vs : List V} (j : Nat) {v : V} {d : PyData}, DpAll K H vs ds → Dp K H v d → DpAll K H (vs.set j v) (ds.set j d)
  | [], _, j, _, _, .nil, _ => by simpa using DpAll.nil
  | _ :: _, _, 0, _, _, .cons _ t, h => .cons h t
  | _ :: _, _, j + 1, _, _, .cons g t, h => .cons g (dps_set j t h)
theorem ls_put {y : Str} (he : ∀ p, EvE X a e (ρp ρ i p) d) (hx : ∀ p, EvE X a ix (ρp ρ i p) (.int (j : Int))) (hj : j < ds.length) (hn : NL ρ (ds.set j d)) (hi : X.N[i]? = some y := by rfl) (hv : Vis X.env.scope y := by first | exact Or.inl rfl | exact Or.inr (Or.inl rfl) | exact Or.inr (Or.inr rfl)) (hd : (y == ("__debug__" : Str)) = false := by decide) (hcd : (y == ("__classdict__" : Str)) = false := by decide)
    (hs : swapsWithSole [.Subscript (.Name y p1) ix p2] e pos.line X.env = pure false := by rfl) (hw : swappedStores [.Subscript (.Name y p1) ix p2] e X.env = pure none := by rfl) (h1 : (assignEach [.Subscript (.Name y p1) ix p2] X.env).map (·.2) = [assign (.Subscript (.Name y p1) ix p2) X.env] := by rfl)
    (ha : ∀ v, assign (.Subscript (.Name y p1) ix p2) X.env v = (do
      let ov ← holding [v] (eval (.Name y p1) X.env)
      let iv ← holding [v, ov] (eval ix X.env)
      standAt p2
      holding [v, ov, iv] (setItem ov iv v)
      release [v, ov, iv] []) := by intro _; rfl) :
    RunLS X a i (.Assign [.Subscript (.Name y p1) ix p2] e pos) ρ ds NL R := fun T p H0 σ H D O kn kr => by
  obtain ⟨acc, g1, g2⟩ := O.at'
  refine toS (ps_asg je (pg_sub (pe_var hi hv hd hcd) je set_list ha) hs hw h1) (he p (Also T p) σ H O.sd _ fun v H1 s1 q1 => ?_)
  have S1 := O.sd.same s1
  obtain ⟨u, w1, w2⟩ := S1.sl i (.adr p) (by rw [List.getElem?_set_self O.lt])
  have w2 : u = .ref p := w2
  subst w2
  refine ⟨.ref p, w1, hx p (Also T p) σ H1 S1 _ fun z H2 s2 q2 => ?_⟩
  obtain rfl := dp_int q2
  have s12 := s1.trans s2
  have c2 : H2 p = some (.lst acc) := s12.ob _ _ g1 (by intro ps z; cases z)
  have hl : acc.length = ds.length := dps_len g2
  have S2 := S1.same s2
  have eo : off (Also T p) (upd H2 p (.lst (acc.set j v))) = off (Also T p) H2 := off_put (.inr rfl)
  refine ⟨p, acc, (j : Int), j, rfl, rfl, c2, by unfold ixN; rw [if_pos (by omega), if_pos (by rw [hl]; omega)]; simp, ?_⟩
  refine kn σ _ ρ (ds.set j d) ⟨O.n0, O.nT, sm_putL (O.sm.trans s12) O.n0 c2, ⟨S2.len, S2.dm.putL c2, fun k y e => ?_⟩, O.lt, acc.set j v, upd_same, by rw [eo]; exact dps_set j (dpso s12 g2) (dpo s2 q1)⟩ hn
  rw [eo]
  exact S2.sl k y e
end
end Zj
/-! Whether a flat value is among those of a list, of a tuple. -/
namespace Zj
open PySem PySem.Spec PyProof.Rows L2
variable [Nm]
def flD : PyData → Bool
  | .none => true
  | .bool _ => true
  | .int _ => true
  | .str _ => true
  | _ => false
def eqD : PyData → PyData → Bool
  | .none, .none => true
  | .bool a, .bool b => a == b
  | .bool a, .int b => (if a then 1 else 0) == b
  | .int a, .bool b => a == (if b then 1 else 0)
  | .int a, .int b => a == b
  | .str a, .str b => a == b
  | _, _ => false
def amD (d : PyData) (ds : List PyData) : Bool := ds.any fun y => eqD y d
section
variable {K : PySem.W.Frag} {H : Hp}
theorem dp_flat {v : V} {d : PyData} (h : Dp K H v d) (f : flD d = true) : flatV v = true := by
  cases h with
  | lst _ _ => cases f
  | tup _ _ => cases f
  | _ => rfl
theorem dp_eq {v u : V} {d e : PyData} (h : Dp K H v d) (f : flD d = true) (g : Dp K H u e) (f2 : flD e = true) : eqV v u = eqD d e := by
  cases h with
  | lst _ _ => cases f
  | tup _ _ => cases f
  | _ =>
    cases g with
    | lst _ _ => cases f2
    | tup _ _ => cases f2
    | _ => rfl
theorem dps_flat : ∀ {ds : List PyData} {vs : List V}, DpAll K H vs ds → ds.all flD = true → vs.all flatV = true
  | [], _, .nil, _ => rfl
  | d :: ds, _, .cons h t, f => by
    rw [List.all_cons, Bool.and_eq_true] at f
    rw [List.all_cons, dp_flat h f.1, dps_flat t f.2] <;> rfl
theorem dps_am {u : V} {e : PyData} (g : Dp K H u e) (f2 : flD e = true) : ∀ {ds : List PyData} {vs : List V}, DpAll K H vs ds → ds.all flD = true → inV u vs = amD e ds
  | [], _, .nil, _ => rfl
  | d :: ds, _, .cons (v := v) (vs := vs) h t, f => by
    rw [List.all_cons, Bool.and_eq_true] at f
    show (eqV v u || inV u vs) = (eqD d e || amD e ds)
    rw [dp_eq h f.1 g f2, dps_am g f2 t f.2]
end
section
variable {X : Cx} {d : PyData} {ds : List PyData}
theorem od_inD (f : flD d = true) (fs : ds.all flD = true) : OpD X (compareOp .In) d (.list ds) (.bool (amD d ds)) ∧ OpD X (compareOp .In) d (.tuple ds) (.bool (amD d ds)) :=
  ⟨⟨_, op_in_seq, fun T v1 v2 H dm p1 p2 Q q => by
    obtain ⟨pa, xs, rfl, g1, g2⟩ := dpo_lst p2
    refine ⟨pa, xs, rfl, .inl g1, dp_flat p1 f, dps_flat g2 fs, ?_⟩
    rw [if_neg Bool.false_ne_true, dps_am p1 f g2 fs]
    exact q _ H (Sm.refl H) (.bl _)⟩, ⟨_, op_in_seq, fun T v1 v2 H dm p1 p2 Q q => by
    obtain ⟨pa, xs, rfl, g1, g2⟩ := dpo_tup p2
    refine ⟨pa, xs, rfl, .inr g1, dp_flat p1 f, dps_flat g2 fs, ?_⟩
    rw [if_neg Bool.false_ne_true, dps_am p1 f g2 fs]
    exact q _ H (Sm.refl H) (.bl _)⟩⟩
theorem od_notInD (f : flD d = true) (fs : ds.all flD = true) : OpD X (compareOp .NotIn) d (.list ds) (.bool (!amD d ds)) ∧ OpD X (compareOp .NotIn) d (.tuple ds) (.bool (!amD d ds)) :=
  ⟨⟨_, op_notIn_seq, fun T v1 v2 H dm p1 p2 Q q => by
    obtain ⟨pa, xs, rfl, g1, g2⟩ := dpo_lst p2
    refine ⟨pa, xs, rfl, .inl g1, dp_flat p1 f, dps_flat g2 fs, ?_⟩
    rw [if_pos rfl, dps_am p1 f g2 fs]
    exact q _ H (Sm.refl H) (.bl _)⟩, ⟨_, op_notIn_seq, fun T v1 v2 H dm p1 p2 Q q => by
    obtain ⟨pa, xs, rfl, g1, g2⟩ := dpo_tup p2
    refine ⟨pa, xs, rfl, .inr g1, dp_flat p1 f, dps_flat g2 fs, ?_⟩
    rw [if_pos rfl, dps_am p1 f g2 fs]
    exact q _ H (Sm.refl H) (.bl _)⟩⟩
end
end Zj
/-! Flats judged, met, asked of points. -/
namespace K4
open PySem PySem.Spec PyProof.Rows L2 Zj
variable [Nm]
theorem lay_rs : ∀ l : List (List Int), PyData.canLayAll0 (rsD l) = true
  | [] => by simp [rsD, PyData.canLayAll0]
  | r :: l => by
    have h1 := lay_ints r
    have h2 := lay_rs l
    unfold rsD at h2 ⊢
    simp only [List.map_cons, PyData.canLayAll0, PyData.canLay0, h1, h2, Bool.and_true, Bool.true_and]
theorem depth_rs : ∀ l : List (List Int), PyData.depthAll (rsD l) ≤ 1
  | [] => by simp [rsD, PyData.depthAll]
  | r :: l => by
    have h1 := depth_ints r
    have h2 := depth_rs l
    unfold rsD at h2 ⊢
    simp only [List.map_cons, PyData.depthAll, PyData.depth, h1]
    omega
theorem shaped_rs (l : List (List Int)) : SeqAt.shaped (.tuple (rsD l)) = true := by
  have h1 := lay_rs l
  have h2 := depth_rs l
  unfold SeqAt.shaped
  simp only [PyData.canLay0, PyData.depth, h1]
  simp
  omega
theorem eqvAll_rs : ∀ a b : List (List Int), PyData.eqvAll (rsD a) (rsD b) = (a == b)
  | [], [] => by simp [rsD, PyData.eqvAll]
  | [], _ :: _ => by simp [rsD, PyData.eqvAll]
  | _ :: _, [] => by simp [rsD, PyData.eqvAll]
  | x :: a, y :: b => by
    have := eqvAll_rs a b
    unfold rsD at this ⊢
    rw [List.map_cons, List.map_cons]
    simp only [PyData.eqvAll, eqv_tI, this]
    rfl
theorem eqv_rs (a b : List (List Int)) : PyData.eqv (.tuple (rsD a)) (.tuple (rsD b)) = (a == b) := by simp only [PyData.eqv, eqvAll_rs]
theorem flatPD_shape (D : Nat) (rows : List (List Int)) : flatPD D rows = .none ∨ ∃ l, flatPD D rows = .tuple (rsD l) := by
  unfold flatPD
  split
  · exact .inl rfl
  · exact .inr ⟨_, rfl⟩
theorem flatPD_shaped (D : Nat) (rows : List (List Int)) : SeqAt.shaped (flatPD D rows) = true := by
  rcases flatPD_shape D rows with h | ⟨l, h⟩ <;> rw [h]
  · exact shaped_non
  · exact shaped_rs l
section
variable {P : Program} {w : World} {K : PySem.W.Frag} {mg : Str → Option Value} {base : Heap} {f : Addr} {fd : FuncData}
def R_meet (ds : List PyData) (d : PyData) : Prop := ∃ (D : Nat) (a b : List (List Int)), ds = [.int (D : Int), .tuple (rsD a), .tuple (rsD b)] ∧ 1 ≤ D ∧ D ≤ 4 ∧ (a ++ b).length ≤ 50 ∧ (∀ r ∈ a ++ b, r.length = D + 1) ∧ Bd (D + 1) (a ++ b) ∧ d = flatPD D (a ++ b)
theorem rsD_app (a b : List (List Int)) : rsD a ++ rsD b = rsD (a ++ b) := by unfold rsD; rw [List.map_append]
theorem ok_meet (F : Fun K "flat_meet" "flat_meet" st_flat_meet f fd) (C : Cal P w K mg base 5 "flat_of" ["dimension", "rows"] (spR K R_flat)) : FnOk P w K mg base CX0 6 f fd ["dimension", "flat", "other"] (spR K R_meet) := by
  refine fnR F sc_flat_meet (fun ds d h => by obtain ⟨_, _, _, rfl, _⟩ := h; rfl) fun cdv A outer s H E G hr ds d h => ?_
  obtain ⟨D, a, b, rfl, h1, h2, h3, h4, h5, rfl⟩ := h
  exact r_one (rs_ret (e_call C (hr.mono (by decide)) (a_cons (e_var (i := 0) rfl) (a_cons (e_is (e_bin (od_catA (by rw [rsD_len, rsD_len, ← List.length_append]; omega)) (e_var (i := 1) rfl) (e_var (i := 2) rfl)) (by rw [rsD_app])) a_nil)) ⟨D, a ++ b, rfl, h1, h2, h3, h4, h5, rfl⟩) rfl)
def R_in (ds : List PyData) (d : PyData) : Prop := ∃ (D : Nat) (a b : List (List Int)), ds = [.int (D : Int), .tuple (rsD a), .tuple (rsD b)] ∧ 1 ≤ D ∧ D ≤ 4 ∧ (a ++ b).length ≤ 50 ∧ (∀ r ∈ a ++ b, r.length = D + 1) ∧ Bd (D + 1) (a ++ b) ∧ d = .bool (PyData.eqv (flatPD D (a ++ b)) (.tuple (rsD a)))
theorem ok_in (F : Fun K "flat_in" "flat_in" st_flat_in f fd) (C : Cal P w K mg base 6 "flat_meet" ["dimension", "flat", "other"] (spR K R_meet)) : FnOk P w K mg base CX0 7 f fd ["dimension", "flat", "other"] (spR K R_in) := by
  refine fnR F sc_flat_in (fun ds d h => by obtain ⟨_, _, _, rfl, _⟩ := h; rfl) fun cdv A outer s H E G hr ds d h => ?_
  obtain ⟨D, a, b, rfl, h1, h2, h3, h4, h5, rfl⟩ := h
  exact r_one (rs_ret (e_cmp (od_eqD G.un (flatPD_shaped _ _) (shaped_rs a)) (e_call C (hr.mono (by decide)) (a_cons (e_var (i := 0) rfl) (a_cons (e_var (i := 1) rfl) (a_cons (e_var (i := 2) rfl) a_nil))) ⟨D, a, b, rfl, h1, h2, h3, h4, h5, rfl⟩) (e_var (i := 1) rfl) (nomark _)) rfl)
def R_fdim (ds : List PyData) (d : PyData) : Prop := ∃ (D : Nat) (a : List (List Int)), ds = [.int (D : Int), .tuple (rsD a)] ∧ d = .int ((D : Int) - (a.length : Int))
theorem ok_fdim (F : Fun K "flat_dimension" "flat_dimension" st_flat_dimension f fd) (T : Tx mg) : FnOk P w K mg base CX0 1 f fd ["dimension", "flat"] (spR K R_fdim) := by
  refine fnR F sc_flat_dimension (fun ds d h => by obtain ⟨_, _, rfl, _⟩ := h; rfl) fun cdv A outer s H E G hr ds d h => ?_
  obtain ⟨D, a, rfl, rfl⟩ := h
  refine r_one (rs_ret (e_bin od_sub (e_var (i := 0) rfl) (e_callB ca_lenT (a_cons (e_var (i := 1) rfl) a_nil) T.len (by decide +kernel))) ?_)
  rw [rsD_len]
def R_on (ds : List PyData) (d : PyData) : Prop := ∃ (rows : List (List Int)) (pt : List Int), ds = [.tuple (rsD rows), tI pt] ∧ rows.length ≤ 50 ∧ (∀ r ∈ rows, r.length ≤ 1000 ∧ BitsL 8000 r) ∧ BitsL 8000 pt ∧ d = .bool (rows.all fun r => sgn (dot r pt) == 0)
def vOn (pt : List Int) (d : PyData) : PyData := .bool (sgn (dot (unI d) pt) == 0)
theorem ok_on (F : Fun K "on_flat" "on_flat" st_on_flat f fd) (hall : mg "all" = none) (C : Cal P w K mg base 2 "sign_at" ["row", "point"] (spR K R_signat)) : FnOk P w K mg base CX0 3 f fd ["flat", "point"] (spR K R_on) := by
  refine fnR F sc_on_flat (fun ds d h => by obtain ⟨_, _, rfl, _⟩ := h; rfl) fun cdv A outer s H E G hr ds d h => ?_
  obtain ⟨rows, pt, rfl, hz, hb, hp, rfl⟩ := h
  have e : (rsD rows).map (vOn pt) = (rows.map fun r => sgn (dot r pt) == 0).map .bool := by
    unfold rsD
    rw [List.map_map, List.map_map]
    refine List.map_congr_left fun r hr => ?_
    show vOn pt (tI r) = _
    unfold vOn
    rw [unI_tI] <;> rfl
  refine r_one (rs_ret (e_is (e_callB (ca_all G.calm) (a_cons (e_is (e_lc0 (own := [("row", 2)]) (f := fName 2) (val := vOn pt) G (src_T (e_var (i := 0) rfl)) (by rw [rsD_len]; omega) (blkOk_by (N := n_on_flat) (sc := defScope st_on_flat) (by decide +kernel))
    (fun _ _ _ _ _ => pg_name (i := 2) sc_on_flat.nd rfl (Or.inl rfl)) (tg_name (by decide)) fun d hd => ?_) (by rw [e])) a_nil) hall (by decide +kernel)) ?_) rfl)
  · unfold rsD at hd
    obtain ⟨r, hr', rfl⟩ := List.mem_map.mp hd
    obtain ⟨g1, g2⟩ := hb r hr'
    exact ⟨_, rfl, fun s H C' cl fp => e_is (e_cmp od_eqI (e_call C (hr.mono (by decide)) (a_cons (e_var (i := 2) rfl) (a_cons (e_var (i := 1) rfl) a_nil)) ⟨r, pt, rfl, g2, hp, g1, rfl⟩) e_int (nomark _)) (by unfold vOn; rw [unI_tI])⟩
  · rw [List.all_map] <;> rfl
end
end K4
/-! Values judged as flats. -/
namespace K4
open PySem PySem.Spec PyProof.Rows L2 Zj
variable [Nm]
def badR (D : Nat) (x : PyData) : Bool := !isN (wrongD x ((D : Int) + 1))
def nrO (p : Int) : Out := .ex ⟨"NotRow", [("place", .int p)]⟩
/-- rows of whole numbers, read back -/
def rowsD (xs : List PyData) : List (List Int) := xs.map unI
def chO (D : Nat) (v : PyData) : Out := match v with
  | .tuple xs => match xs.findIdx? (badR D) with
    | some n => nrO n
    | none => if PyData.eqv (flatPD D (rowsD xs)) v = true then .ok v else nrO (-2)
  | _ => nrO (-1)
theorem chO_bad {D : Nat} {xs : List PyData} {n : Nat} (h : xs.findIdx? (badR D) = some n) : chO D (.tuple xs) = nrO n := by
  show (match xs.findIdx? (badR D) with
     | some n => nrO n
     | none => if PyData.eqv (flatPD D (rowsD xs)) (.tuple xs) = true then .ok (.tuple xs) else nrO (-2)) = nrO n
  rw [h]
theorem chO_good {D : Nat} {xs : List PyData} (h : xs.findIdx? (badR D) = none) : chO D (.tuple xs) = if PyData.eqv (flatPD D (rowsD xs)) (.tuple xs) = true then .ok (.tuple xs) else nrO (-2) := by
  show (match xs.findIdx? (badR D) with
     | some n => nrO n
     | none => if PyData.eqv (flatPD D (rowsD xs)) (.tuple xs) = true then .ok (.tuple xs) else nrO (-2)) = _
  rw [h]
theorem all_whole : ∀ ds : List PyData, (∀ d ∈ ds, wholeD d = true) → ∃ xs : List Int, ds = xs.map .int
  | [], _ => ⟨[], rfl⟩
  | d :: ds, h => by
    obtain ⟨xs, rfl⟩ := all_whole ds fun x hx => h x (List.mem_cons_of_mem _ hx)
    have h0 := h d List.mem_cons_self
    cases d with
    | int x => exact ⟨x :: xs, rfl⟩
    | _ => cases h0
theorem good_row {D : Nat} {x : PyData} (h : badR D x = false) : ∃ r : List Int, x = tI r ∧ r.length = D + 1 := by
  unfold badR at h
  cases x with
  | tuple ds =>
    by_cases hl : (ds.length : Int) = (D : Int) + 1
    · rw [show wrongD (.tuple ds) ((D : Int) + 1) = placeD (badAt ds) from if_pos hl] at h
      cases hb : badAt ds with
      | some n => rw [hb] at h; cases h
      | none =>
        unfold badAt at hb
        rw [List.findIdx?_eq_none_iff] at hb
        obtain ⟨xs, rfl⟩ := all_whole ds fun d hd => by simpa using hb d hd
        exact ⟨xs, rfl, by simpa using (show (xs.length : Int) = (D : Int) + 1 by simpa using hl) |> fun z => by omega⟩
    · rw [show wrongD (.tuple ds) ((D : Int) + 1) = .int (-1) from if_neg hl] at h
      cases h
  | _ => cases h
theorem good_rows {D : Nat} : ∀ {xs : List PyData}, xs.findIdx? (badR D) = none → xs = rsD (rowsD xs) ∧ ∀ r ∈ rowsD xs, r.length = D + 1 := fun {xs} h => by
  rw [List.findIdx?_eq_none_iff] at h
  induction xs with
  | nil => exact ⟨rfl, nofun⟩
  | cons x xs ih =>
    obtain ⟨h1, h2⟩ := ih fun y hy => h y (List.mem_cons_of_mem _ hy)
    obtain ⟨r, rfl, hr⟩ := good_row (h x List.mem_cons_self)
    have e : unI (tI r) = r := unI_tI r
    refine ⟨?_, fun y hy => ?_⟩
    · show tI r :: xs = tI (unI (tI r)) :: rsD (rowsD xs)
      rw [e, ← h1]
    · rcases List.mem_cons.mp hy with rfl | hy
      · rw [e]
        exact hr
      · exact h2 y hy
def R_chf (ds : List PyData) (o : Out) : Prop := ∃ (D : Nat) (v : PyData), ds = [.int (D : Int), v] ∧ 1 ≤ D ∧ D ≤ 4 ∧ (∀ xs, v = .tuple xs → xs.length ≤ 50 ∧ (∀ x ∈ xs, ∀ ys, x = .tuple ys → ys.length ≤ 1000) ∧ (xs.findIdx? (badR D) = none → Bd (D + 1) (rowsD xs))) ∧ o = chO D v
theorem isN_iff {d : PyData} (h : isN d = true) : d = .none := by cases d <;> first | rfl | cases h
section
variable {P : Program} {w : World} {K : PySem.W.Frag} {mg : Str → Option Value} {base : Heap} {f : Addr} {fd : FuncData}
theorem ok_chf (F : Fun K "check_flat" "check_flat" st_check_flat f fd) (T : Tx mg) (CN : ClsI P w K mg base 1 "NotRow" ["place"]) (CW : Cal P w K mg base 2 "wrong_place" ["value", "many"] (spR K R_wrong)) (CF : Cal P w K mg base 5 "flat_of" ["dimension", "rows"] (spR K R_flat)) :
    FnOk P w K mg base (L2.CX P w) 6 f fd ["dimension", "value"] (spX K mg R_chf) := by
  refine fnX F sc_check_flat (fun ds o h => by obtain ⟨_, _, rfl, _⟩ := h; rfl) fun cdv A outer s H E G hr ds o h => ?_
  obtain ⟨D, v, rfl, hD, hD4, hv, rfl⟩ := h
  by_cases hvt : tupD v = true
  · obtain ⟨xs, rfl⟩ : ∃ xs, v = .tuple xs := by
      cases v with
      | tuple xs => exact ⟨xs, rfl⟩
      | _ => cases hvt
    obtain ⟨hz, hx, hbd⟩ := hv xs rfl
    refine x_cons (xs_if (b := false) (t_is (t_not (t_val (e_isTup (e_var (i := 1) rfl) T.isi T.tuple))) rfl) nofun fun _ => x_nil ?_)
    refine x_cons (xs_for G (src_ET (a_cons (e_var (i := 1) rfl) a_nil) T.enum) (pg_tup rfl (pgs_cons (pg_name (i := 2) sc_check_flat.nd rfl (Or.inl rfl)) (pgs_cons (pg_name (i := 3) sc_check_flat.nd rfl (Or.inl rfl)) pgs_nil))) (tg_pair (vs := [2, 3]) (by decide) (by decide))
      (fun n ρ' => (∃ x y, ρ' = [some (.dat (.int (D : Int))), some (.dat (.tuple xs)), x, y]) ∧ ∀ i y, i < n → xs[i]? = some y → badR D y = false) ⟨⟨_, _, rfl⟩, fun i y hi => by omega⟩ (fun n d ρ1 hd hJ => ?_) fun ρ' hJ => ?_)
    · obtain ⟨x, hxn, rfl⟩ := getN hd
      obtain ⟨⟨_, _, rfl⟩, hb⟩ := hJ
      refine ⟨_, rfl, x_one (xs_if (b := badR D x) (t_cmp od_notN (e_call CW (hr.mono (by decide)) (a_cons (e_var (i := 3) rfl) (a_cons (e_bin od_add (e_var (i := 0) rfl) e_int) a_nil)) ⟨x, (D : Int) + 1, rfl, hx x (List.mem_of_getElem? hxn), rfl⟩) e_non (nomark _)) (fun h1 => x_one (xs_raise G (mk_init CN (hr.mono (by decide)) (a_cons (e_var (i := 2) rfl) a_nil) rfl (by simp)) ?_)) fun h1 => x_nil ⟨⟨_, _, rfl⟩, fun i y hi hy => ?_⟩)⟩
      · rw [chO_bad (find_hit hxn h1 hb)] <;> rfl
      · by_cases hin : i = n
        · subst hin
          rw [hxn] at hy
          cases hy
          exact h1
        · exact hb i y (by omega) hy
    · obtain ⟨⟨_, _, rfl⟩, hb⟩ := hJ
      rw [numbered_len] at hb
      have hn : xs.findIdx? (badR D) = none := find_miss hb
      obtain ⟨e1, e2⟩ := good_rows hn
      have hlr : (rowsD xs).length ≤ 50 := by unfold rowsD; rw [List.length_map]; exact hz
      rw [chO_good hn]
      have sh : SeqAt.shaped (.tuple xs) = true := by rw [e1]; exact shaped_rs _
      refine x_cons (xs_if (b := !PyData.eqv (flatPD D (rowsD xs)) (.tuple xs)) (t_cmp (od_neD G.un (flatPD_shaped _ _) sh) (e_call CF (hr.mono (by decide)) (a_cons (e_var (i := 0) rfl) (a_cons (e_var (i := 1) rfl) a_nil)) ⟨D, rowsD xs, by rw [← e1], hD, hD4, hlr, e2, hbd hn, rfl⟩) (e_var (i := 1) rfl) (nomark _))
        (fun h1 => x_one (xs_raise G (mk_init CN (hr.mono (by decide)) (a_cons (e_neg e_int) a_nil) rfl (by simp)) ?_)) fun h1 => x_nil (x_one (xs_of (rs_ret (e_var (i := 1) rfl) ?_))))
      · have h1 : PyData.eqv (flatPD D (rowsD xs)) (.tuple xs) = false := by simpa using h1
        rw [h1, if_neg Bool.false_ne_true] <;> rfl
      · have h1 : PyData.eqv (flatPD D (rowsD xs)) (.tuple xs) = true := by simpa using h1
        rw [h1, if_pos rfl]
  · have hvf : tupD v = false := by simpa using hvt
    have eo : chO D v = nrO (-1) := by
      cases v with
      | tuple xs => cases hvf
      | _ => rfl
    rw [eo]
    exact x_cons (xs_if (b := true) (t_is (t_not (t_val (e_isTup (e_var (i := 1) rfl) T.isi T.tuple))) (by rw [hvf] <;> rfl)) (fun _ => x_one (xs_raise G (mk_init CN (hr.mono (by decide)) (a_cons (e_neg e_int) a_nil) rfl (by simp)) rfl)) nofun)
end
end K4
/-! Points of fractions, in numbers; the least common multiple. -/
namespace Zj
open PySem PySem.Spec PyProof.Rows L2
theorem lcm_bits {a b : Int} {m n : Nat} (h1 : Bits m a) (h2 : Bits n b) : Bits (m + n) ((Nat.lcm a.natAbs b.natAbs : Nat) : Int) := by
  show (((Nat.lcm a.natAbs b.natAbs : Nat) : Int)).natAbs < _
  rw [Int.natAbs_natCast]
  refine Nat.lt_of_le_of_lt (PySem.W.mc_lcm_le _ _) ?_
  have h1 : a.natAbs < 2 ^ m := h1
  have h2 : b.natAbs < 2 ^ n := h2
  rw [Nat.pow_add]
  exact Nat.mul_lt_mul'' h1 h2
theorem cr_lcm {X : Cx} : CallR X (.builtin "math.lcm") (fun vs H Q => ∃ a b : Int, vs = [.int a, .int b] ∧ Bits 6000 a ∧ Bits 6000 b ∧ Q (.int ((Nat.lcm a.natAbs b.natAbs : Nat) : Int)) H) := by
  intro pins s σ H vs us Q I r h
  obtain ⟨a, b, rfl, ha, hb, q⟩ := h
  obtain ⟨t, u, rfl⟩ := Vals.int2 r
  have la := ha.log (by decide)
  have lb := hb.log (by decide)
  have mx : ∀ x y : Nat, x.log2 < 6000 → y.log2 < 6000 → (max x y).log2 < 6000 := fun x y hx hy => by
    rcases Nat.le_total x y with h | h
    · rw [Nat.max_eq_right h]; exact hy
    · rw [Nat.max_eq_left h]; exact hx
  have e1 : Nat.lcm 1 a.natAbs = a.natAbs := PySem.W.mc_lcm_one _
  refine call_function_meets PySem.W.MGF.kind_lcm PySem.W.MGF.plain_lcm PySem.W.MGF.entry_lcm (PySem.W.MGF.args_lcm _ _) (PySem.W.mg_run_lcm a t b u ?_ ?_ ?_).meets ?_
  · have := mx 1 a.natAbs (by decide) la
    omega
  · have := mx a.natAbs b.natAbs la lb
    omega
  · rw [e1]
    have := (lcm_bits ha hb).log (by decide)
    exact Nat.lt_of_lt_of_le this (by decide)
  · rw [e1]
    exact ⟨.int _, H, I.tok _, ⟨_, rfl⟩, q⟩
theorem ca_lcm [Nm] {X : Cx} {i j : Int} (hi : Bits 6000 i) (hj : Bits 6000 j) : CaD X (.builtin "math.lcm") [.int i, .int j] (.int ((Nat.lcm i.natAbs j.natAbs : Nat) : Int)) := ⟨_, cr_lcm, fun T vs H dm p Q q => by
  obtain ⟨v, v', rfl, h, h'⟩ := dps2 p
  exact ⟨i, j, by rw [dp_int h, dp_int h'], hi, hj, q _ H (Sm.refl H) (.int _)⟩⟩
def lcmL (bs : List Int) : Nat := bs.foldl (fun m b => Nat.lcm m b.natAbs) 1
theorem lcm_fold (bs : List Int) (m : Nat) : bs.foldl (fun m b => Nat.lcm m b.natAbs) m = Nat.lcm m (lcmL bs) := by
  unfold lcmL
  induction bs generalizing m with
  | nil => simp
  | cons b bs ih =>
    rw [List.foldl_cons, List.foldl_cons, ih (Nat.lcm m b.natAbs), ih (Nat.lcm 1 b.natAbs), Nat.lcm_assoc, PySem.W.mc_lcm_one]
theorem lcmL_cons (b : Int) (bs : List Int) : lcmL (b :: bs) = Nat.lcm b.natAbs (lcmL bs) := by
  show (b :: bs).foldl _ 1 = _
  rw [List.foldl_cons, lcm_fold, PySem.W.mc_lcm_one]
theorem lcmL_take {bs : List Int} {n : Nat} {b : Int} (h : bs[n]? = some b) : lcmL (bs.take (n + 1)) = Nat.lcm (lcmL (bs.take n)) b.natAbs := by
  unfold lcmL
  rw [List.take_add_one, h, List.foldl_append]
  rfl
theorem lcmL_dvd {bs : List Int} {b : Int} (h : b ∈ bs) : b.natAbs ∣ lcmL bs := by
  induction bs with
  | nil => cases h
  | cons c bs ih =>
    rw [lcmL_cons]
    rcases List.mem_cons.mp h with rfl | h
    · exact Nat.dvd_lcm_left _ _
    · exact Nat.dvd_trans (ih h) (Nat.dvd_lcm_right _ _)
theorem lcmL_least {bs : List Int} {n : Nat} (h : ∀ b ∈ bs, b.natAbs ∣ n) : lcmL bs ∣ n := by
  induction bs with
  | nil => exact Nat.one_dvd n
  | cons c bs ih =>
    rw [lcmL_cons]
    exact Nat.lcm_dvd (h c List.mem_cons_self) (ih fun b hb => h b (List.mem_cons_of_mem _ hb))
theorem lcmL_pos {bs : List Int} (h : ∀ b ∈ bs, 0 < b) : 0 < lcmL bs := by
  induction bs with
  | nil => exact Nat.one_pos
  | cons c bs ih =>
    rw [lcmL_cons]
    have := h c List.mem_cons_self
    exact Nat.lcm_pos (by omega) (ih fun b hb => h b (List.mem_cons_of_mem _ hb))
theorem lcmL_bits {m : Nat} : ∀ {bs : List Int}, BitsL m bs → Bits (1 + m * bs.length) (lcmL bs : Int)
  | [], _ => by
    show (1 : Nat) < 2 ^ 1
    decide
  | b :: bs, h => by
    rw [lcmL_cons]
    have h1 := lcm_bits (b := (lcmL bs : Int)) (h b List.mem_cons_self) (lcmL_bits fun x hx => h x (List.mem_cons_of_mem _ hx))
    rw [Int.natAbs_natCast] at h1
    exact h1.mono (by rw [List.length_cons, Nat.mul_succ]; omega)
/-- a fraction in lowest terms -/
def Fr (p : Int × Int) : Prop := 0 < p.2 ∧ Nat.gcd p.1.natAbs p.2.natAbs = 1
/-- the point with fractions as coordinates -/
def ptC (cs : List (Int × Int)) : List Int := cs.map (fun p => p.1 * Int.fdiv (lcmL (cs.map Prod.snd)) p.2) ++ [(lcmL (cs.map Prod.snd) : Int)]
theorem fdiv_mul {b k : Int} (hb : 0 < b) : Int.fdiv (b * k) b = k := by
  rw [Int.fdiv_eq_ediv_of_nonneg _ (by omega), Int.mul_ediv_cancel_left _ (by omega)]
theorem quot_of {cs : List (Int × Int)} (h : ∀ p ∈ cs, Fr p) {p : Int × Int} (hp : p ∈ cs) : ∃ k : Nat, 0 < k ∧ (lcmL (cs.map Prod.snd) : Int) = p.2 * k ∧ Int.fdiv (lcmL (cs.map Prod.snd)) p.2 = k := by
  have hb := (h p hp).1
  obtain ⟨k, hk⟩ := lcmL_dvd (List.mem_map.mpr ⟨p, hp, rfl⟩ : p.2 ∈ cs.map Prod.snd)
  have hw : 0 < lcmL (cs.map Prod.snd) := lcmL_pos fun b hb => by
    obtain ⟨q, hq, rfl⟩ := List.mem_map.mp hb
    exact (h q hq).1
  have e : (lcmL (cs.map Prod.snd) : Int) = p.2 * k := by
    rw [hk, Int.natCast_mul, show ((p.2.natAbs : Nat) : Int) = p.2 by omega]
  refine ⟨k, ?_, e, by rw [e, fdiv_mul hb]⟩
  rcases Nat.eq_zero_or_pos k with h0 | h0
  · rw [h0, Nat.mul_zero] at hk
    omega
  · exact h0
theorem ptC_gcd {cs : List (Int × Int)} (h : ∀ p ∈ cs, Fr p) : gcdL (ptC cs) = 1 := by
  have hw : 0 < lcmL (cs.map Prod.snd) := lcmL_pos fun b hb => by
    obtain ⟨q, hq, rfl⟩ := List.mem_map.mp hb
    exact (h q hq).1
  have gW : gcdL (ptC cs) ∣ lcmL (cs.map Prod.snd) := by
    have := gcdL_dvd (xs := ptC cs) (x := (lcmL (cs.map Prod.snd) : Int)) (by unfold ptC; simp)
    exact Int.natCast_dvd_natCast.mp this
  obtain ⟨v, hv⟩ := gW
  have hv0 : 0 < v := by
    rcases Nat.eq_zero_or_pos v with h0 | h0
    · rw [h0, Nat.mul_zero] at hv
      omega
    · exact h0
  have g0 : 0 < gcdL (ptC cs) := by
    rcases Nat.eq_zero_or_pos (gcdL (ptC cs)) with h0 | h0
    · rw [h0, Nat.zero_mul] at hv
      omega
    · exact h0
  have key : lcmL (cs.map Prod.snd) ∣ v := lcmL_least fun b hb => by
    obtain ⟨p, hp, rfl⟩ := List.mem_map.mp hb
    obtain ⟨k, hk0, e1, e2⟩ := quot_of h hp
    have d1 : (gcdL (ptC cs) : Int) ∣ p.1 * Int.fdiv (lcmL (cs.map Prod.snd)) p.2 := gcdL_dvd (by unfold ptC; exact List.mem_append_left _ (List.mem_map.mpr ⟨p, hp, rfl⟩))
    rw [e2] at d1
    have d1' : gcdL (ptC cs) ∣ p.1.natAbs * k := by
      have := Int.natAbs_dvd_natAbs.mpr d1
      rwa [Int.natAbs_natCast, Int.natAbs_mul, Int.natAbs_natCast] at this
    have d2' : gcdL (ptC cs) ∣ p.2.natAbs * k := by
      have e3 : lcmL (cs.map Prod.snd) = p.2.natAbs * k := by
        have := congrArg Int.natAbs e1
        rwa [Int.natAbs_natCast, Int.natAbs_mul, Int.natAbs_natCast] at this
      rw [← e3]
      exact ⟨v, hv⟩
    have d3 : gcdL (ptC cs) ∣ k := by
      have := Nat.dvd_gcd d1' d2'
      rwa [Nat.gcd_mul_right, (h p hp).2, Nat.one_mul] at this
    obtain ⟨k', hk'⟩ := d3
    refine ⟨k', ?_⟩
    have e3 : lcmL (cs.map Prod.snd) = p.2.natAbs * k := by
      have := congrArg Int.natAbs e1
      rwa [Int.natAbs_natCast, Int.natAbs_mul, Int.natAbs_natCast] at this
    rw [hv, hk', Nat.mul_left_comm] at e3
    exact Nat.eq_of_mul_eq_mul_left g0 e3
  have l1 := Nat.le_of_dvd hv0 key
  rw [hv] at l1
  have : gcdL (ptC cs) ≤ 1 := by
    rcases Nat.lt_or_ge 1 (gcdL (ptC cs)) with h2 | h2
    · have := Nat.mul_le_mul_right v h2
      omega
    · exact h2
  omega
theorem short_one {xs : List Int} (h : gcdL xs = 1) : shortL xs = xs := by
  unfold shortL
  rw [h]
  rfl
variable [Nm]
/-- so many times a tuple with no common divisor -/
theorem short_times {xs : List Int} (h : gcdL xs = 1) {c : Int} (hc : 0 < c) : shortL (xs.map fun x => c * x) = xs := by
  have hx : ∃ x ∈ xs, x ≠ 0 := by
    by_cases hh : ∃ x ∈ xs, x ≠ 0
    · exact hh
    · exfalso
      have e : shortL xs = xs := short_one h
      have z : ∀ x ∈ xs, x = 0 := fun x hx => by
        by_cases q : x = 0
        · exact q
        · exact absurd ⟨x, hx, q⟩ hh
      have g : ∀ ys : List Int, (∀ y ∈ ys, y = 0) → gcdL ys = 0 := fun ys => by
        induction ys with
        | nil => exact fun _ => rfl
        | cons y ys ih =>
          intro hy
          rw [gcdL_cons, hy y List.mem_cons_self, ih fun u hu => hy u (List.mem_cons_of_mem _ hu)] <;> rfl
      rw [g xs z] at h
      cases h
  rw [shortL_scale (by omega) hx, if_pos hc, short_one h, show (fun y : Int => 1 * y) = id from funext fun y => Int.one_mul y, List.map_id]
/-- two tuples with no common divisor, one so many times the other one -/
theorem short_same {xs ys : List Int} (h1 : gcdL xs = 1) (h2 : gcdL ys = 1) {c d : Int} (hc : 0 < c) (hd : 0 < d) (e : xs.map (fun x => c * x) = ys.map fun y => d * y) : xs = ys := by
  have := congrArg shortL e
  rwa [short_times h1 hc, short_times h2 hd] at this
end Zj
/-! Fractions, points, the point of a flat. -/
namespace K4
open PySem PySem.Spec PyProof.Rows L2 Zj
variable [Nm]
def nnO (v : PyData) : Out := .ex ⟨"NotNumber", [("value", v)]⟩
def lowO (t b : Int) : Out := if b = 0 then nnO (.int 0) else .ok (tI (fracL t b))
theorem lowO_ok {t b : Int} (h : b ≠ 0) : lowO t b = .ok (tI (fracL t b)) := if_neg h
def R_low (ds : List PyData) (o : Out) : Prop := ∃ t b, ds = [.int t, .int b] ∧ Bits 8000 b ∧ o = lowO t b
section
variable {P : Program} {w : World} {K : PySem.W.Frag} {mg : Str → Option Value} {base : Heap} {f : Addr} {fd : FuncData}
def R_cm (ds : List PyData) (d : PyData) : Prop := ∃ xs : List Int, ds = [lI xs] ∧ BitsL 700 xs ∧ xs.length ≤ 5 ∧ d = .int (lcmL xs)
theorem ok_cm (F : Fun K "common_multiple" "common_multiple" st_common_multiple f fd) (T : Tx mg) (hl : mg "lcm" = some (.builtin "math.lcm")) : FnOk P w K mg base CX0 1 f fd ["numbers"] (spR K R_cm) := by
  refine fnR F sc_common_multiple (fun ds d h => by obtain ⟨x, rfl, _⟩ := h; rfl) fun cdv A outer s H E G hr ds d h => ?_
  obtain ⟨xs, rfl, hb, hz, rfl⟩ := h
  refine r_cons (rs_set (i := 1) G e_int ?_)
  refine r_cons (rs_for G (src_L (e_var (i := 0) rfl)) (pg_name (i := 2) sc_common_multiple.nd rfl (Or.inl rfl)) (tg_name (vs := [2]) (by decide)) (fun n ρ' => ∃ y, ρ' = [some (.dat (lI xs)), some (.dat (.int (lcmL (xs.take n)))), y]) ⟨_, rfl⟩ (fun n d ρ1 hd hJ => ?_) fun ρ' hJ => ?_)
  · obtain ⟨x, hx, rfl⟩ := getI hd
    obtain ⟨_, rfl⟩ := hJ
    have hb1 : Bits 6000 (lcmL (xs.take n) : Int) := (lcmL_bits (m := 700) fun y hy => hb y (List.mem_of_mem_take hy)).mono (by
      have : (xs.take n).length ≤ xs.length := by simp; omega
      omega)
    refine ⟨_, rfl, r_one (rs_set (i := 1) G (e_callM (ca_lcm hb1 ((hb x (List.mem_of_getElem? hx)).mono (by decide))) (a_cons (e_var (i := 1) rfl) (a_cons (e_var (i := 2) rfl) a_nil)) hl) ⟨some (.dat (.int x)), ?_⟩)⟩
    rw [lcmL_take hx, Int.natAbs_natCast] <;> rfl
  · obtain ⟨_, rfl⟩ := hJ
    rw [List.length_map, List.take_length]
    exact r_one (rs_ret (e_var (i := 1) rfl) rfl)
/-- a fraction, as data -/
def fr (p : Int × Int) : PyData := tI [p.1, p.2]
def onFr (g : Int → Int → Int) : PyData → PyData
  | .tuple [.int x, .int y] => .int (g x y)
  | _ => .none
theorem onFrs (g : Int → Int → Int) (cs : List (Int × Int)) : (cs.map fr).map (onFr g) = (cs.map fun p => g p.1 p.2).map .int := by
  rw [List.map_map, List.map_map]
  rfl
def Cs (cs : List (Int × Int)) : Prop := (∀ p ∈ cs, Fr p ∧ Bits 160 p.1 ∧ Bits 160 p.2) ∧ cs.length ≤ 4
theorem cs_bits {cs : List (Int × Int)} (h : Cs cs) : Bits 650 (lcmL (cs.map Prod.snd) : Int) ∧ BitsL 820 (ptC cs) := by
  have hw : Bits 650 (lcmL (cs.map Prod.snd) : Int) := (lcmL_bits (m := 160) fun b hb => by
    obtain ⟨p, hp, rfl⟩ := List.mem_map.mp hb
    exact (h.1 p hp).2.2).mono (by rw [List.length_map]; have := h.2; omega)
  refine ⟨hw, fun x hx => ?_⟩
  rcases List.mem_append.mp hx with hx | hx
  · obtain ⟨p, hp, rfl⟩ := List.mem_map.mp hx
    obtain ⟨k, hk0, e1, e2⟩ := quot_of (fun q hq => (h.1 q hq).1) hp
    rw [e2]
    have hk : Bits 650 (k : Int) := hw.le (by
      rw [e1, Int.natAbs_mul]
      have := (h.1 p hp).1.1
      exact Nat.le_mul_of_pos_left _ (by omega))
    exact (Bits.mul (h.1 p hp).2.1 hk).mono (by decide)
  · rw [List.mem_singleton] at hx
    subst hx
    exact hw.mono (by decide)
def R_ptof (ds : List PyData) (d : PyData) : Prop := ∃ cs, ds = [.tuple (cs.map fr)] ∧ Cs cs ∧ 1 ≤ cs.length ∧ d = tI (ptC cs)
theorem ok_ptof (F : Fun K "point_of" "point_of" st_point_of f fd) (T : Tx mg) (C1 : Cal P w K mg base 1 "common_multiple" ["numbers"] (spR K R_cm)) : FnOk P w K mg base CX0 2 f fd ["coordinates"] (spR K R_ptof) := by
  refine fnR F sc_point_of (fun ds d h => by obtain ⟨x, rfl, _⟩ := h; rfl) fun cdv A outer s H E G hr ds d h => ?_
  obtain ⟨cs, rfl, hc, h1, rfl⟩ := h
  have hz := hc.2
  refine r_cons (rs_set (i := 1) G (e_call C1 (hr.mono (by decide)) (a_cons (e_is (d' := lI (cs.map Prod.snd)) (e_lc0 (own := [("fraction", 2)]) (f := fName 2) (val := onFr fun _ y => y) G (src_T (e_var (i := 0) rfl)) (by simp; omega) (blkOk_by (N := n_point_of) (sc := defScope st_point_of) (by decide +kernel))
      (fun _ _ _ _ _ => pg_name (i := 2) sc_point_of.nd rfl (Or.inl rfl)) (tg_name (by decide)) fun d hd => ?_) (by rw [onFrs] <;> rfl)) a_nil) ⟨_, rfl, fun b hb => ?_, by rw [List.length_map]; omega, rfl⟩) ?_)
  · obtain ⟨p, hp, rfl⟩ := List.mem_map.mp hd
    exact ⟨_, rfl, fun s H C cl fp => e_ixT (ds := [.int p.1, .int p.2]) (e_var (i := 2) rfl) e_int (ati_of (j := 1) rfl rfl)⟩
  · obtain ⟨p, hp, rfl⟩ := List.mem_map.mp hb
    exact (hc.1 p hp).2.2.mono (by decide)
  · have hw := (cs_bits hc).1
    refine r_one (rs_ret (e_is (e_bin (od_catA (es := (cs.map fun p => p.1 * Int.fdiv (lcmL (cs.map Prod.snd)) p.2).map .int) (fs := [.int (lcmL (cs.map Prod.snd))]) (by simp; omega)) (e_is (e_callT ca_tupL (a_cons (e_lc0 (own := [("top", 3), ("bottom", 4)]) (f := fPair 3 4) (val := onFr fun x y => x * Int.fdiv (lcmL (cs.map Prod.snd)) y) G (src_T (e_var (i := 0) rfl)) (by simp; omega) (blkOk_by (N := n_point_of) (sc := defScope st_point_of) (by decide +kernel))
      (fun _ _ _ _ _ => pg_tup rfl (pgs_cons (pg_name (i := 3) sc_point_of.nd rfl (Or.inl rfl)) (pgs_cons (pg_name (i := 4) sc_point_of.nd rfl (Or.inl rfl)) pgs_nil))) (tg_pair (by decide) (by decide)) fun d hd => ?_) a_nil) T.tuple (by decide +kernel)) (by rw [onFrs])) (e_tup (a_cons (e_var (i := 1) rfl) a_nil))) ?_) rfl)
    · obtain ⟨p, hp, rfl⟩ := List.mem_map.mp hd
      obtain ⟨k, hk0, e1, e2⟩ := quot_of (fun q hq => (hc.1 q hq).1) hp
      have hp2 := (hc.1 p hp).1.1
      have hq : Bits 650 (Int.fdiv (lcmL (cs.map Prod.snd)) p.2) := by
        rw [e2]
        exact hw.le (by rw [e1, Int.natAbs_mul]; exact Nat.le_mul_of_pos_left _ (by omega))
      exact ⟨_, rfl, fun s H C cl fp => e_bin (od_mul (mul_ok (hc.1 p hp).2.1 hq (by decide))) (e_var (i := 3) rfl) (e_bin (od_fdiv (by omega) (Nat.lt_of_lt_of_le ((hc.1 p hp).2.2.log (by decide)) (by decide))) (e_var (i := 1) rfl) (e_var (i := 4) rfl))⟩
    · show PyData.tuple _ = PyData.tuple (List.map _ _)
      unfold ptC
      rw [List.map_append]
      rfl
theorem ok_low (F : Fun K "lowest" "lowest" st_lowest f fd) (T : Tx mg) (CN : ClsI P w K mg base 1 "NotNumber" ["value"]) : FnOk P w K mg base (L2.CX P w) 3 f fd ["top", "bottom"] (spX K mg R_low) := by
  refine fnX F sc_lowest (fun ds o h => by obtain ⟨_, _, rfl, _⟩ := h; rfl) fun cdv A outer s H E G hr ds o h => ?_
  obtain ⟨t, b, rfl, hbb, rfl⟩ := h
  refine x_cons (xs_if (t_cmp od_eqI (e_var (i := 1) rfl) e_int (nomark _)) (fun h0 => x_one (xs_raise G (mk_init CN (hr.mono (by decide)) (a_cons (e_var (i := 1) rfl) a_nil) rfl (by simp)) ?_)) fun h0 => x_nil ?_)
  · have h0 : b = 0 := by simpa using h0
    rw [h0]
    exact if_pos rfl
  · have hb : b ≠ 0 := by simpa using h0
    rw [lowO_ok hb]
    have gp : 0 < Nat.gcd t.natAbs b.natAbs := Nat.gcd_pos_of_pos_right _ (by omega)
    have gl : Nat.gcd t.natAbs b.natAbs ≤ b.natAbs := Nat.gcd_le_right _ (by omega)
    have bits : ∀ z : Int, z.natAbs = Nat.gcd t.natAbs b.natAbs → z ≠ 0 ∧ z.natAbs.log2 < 9000 := fun z hz => ⟨by omega, Nat.lt_of_lt_of_le ((hbb.le (x := z) (by omega)).log (by decide)) (by decide)⟩
    refine x_of (r_cons (rs_set (i := 2) G (e_callM ca_gcd (a_cons (e_var (i := 0) rfl) (a_cons (e_var (i := 1) rfl) a_nil)) T.gcd) ?_))
    have fin : ∀ z : Int, z = (if b < 0 then -((Nat.gcd t.natAbs b.natAbs : Nat) : Int) else ((Nat.gcd t.natAbs b.natAbs : Nat) : Int)) →
        Run (cxOf (L2.CX P w) P w K mg base n_lowest "lowest" (defScope st_lowest) f cdv A outer s H E) 0 ((defBody st_lowest).drop 3) [some (.dat (.int t)), some (.dat (.int b)), some (.dat (.int z))] (fun _ => (Out.ok (tI (fracL t b))) = .ok .none) (fun d' => Out.ok (tI (fracL t b)) = .ok d') := fun z hz => by
      obtain ⟨z0, zb⟩ := bits z (by rw [hz]; split <;> simp)
      refine r_one (rs_ret (e_tup (a_cons (e_bin (od_fdiv z0 zb) (e_var (i := 0) rfl) (e_var (i := 2) rfl)) (a_cons (e_bin (od_fdiv z0 zb) (e_var (i := 1) rfl) (e_var (i := 2) rfl)) a_nil))) ?_)
      rw [← frac_lowest hb, ← hz] <;> rfl
    refine r_cons (rs_if (t_cmp od_lt (e_var (i := 1) rfl) e_int (nomark _)) (fun h => r_one (rs_set (i := 2) G (e_neg (e_var (i := 2) rfl)) ?_)) fun h => r_nil ?_)
    · exact fin _ (by rw [if_pos (of_decide_eq_true h)])
    · exact fin _ (by rw [if_neg (of_decide_eq_false h)])
end
end K4
/-! The point of a flat. -/
namespace K4
open PySem PySem.Spec PyProof.Rows L2 Zj
variable [Nm]
/-- a list of one's own, repeated -/
theorem f_rep {X : Cx} {a : Addr} {ρ : Rho} {es : List Expr} {e : Expr} {ds : List PyData} {k : Int} {pos pos' : Pos} (h : EvA X a es ρ ds) (h2 : EvE X a e ρ (.int k)) (h0 : 0 ≤ k) (hk : k ≤ 1000) (hl : ds.length ≤ 50) : EvF X a (.BinOp (.List es pos') .Mult e pos) ρ (List.replicate k.toNat ds).flatten := fun T σ H S Q q => by
  refine toE (pe_op op_rep (pe_lst ja) je) (h T σ H S _ fun vs H1 s1 p1 => ⟨by rw [dps_len p1]; exact szl (by omega), fun p hp => ?_⟩)
  have S1 := (S.same s1).same (same_new (o := .lst vs) hp)
  refine h2 T σ _ S1 _ fun v2 H2 s2 p2 => ?_
  obtain rfl := dp_int p2
  have lz : vs.length * k.toNat ≤ 50 * 1000 := by
    rw [dps_len p1]
    exact Nat.mul_le_mul hl (by omega)
  refine ⟨p, k, vs, rfl, rfl, s2.ob _ _ upd_same (by intro ps z; cases z), by omega, by omega, szl (by omega), fun r hr => ?_⟩
  have s3 := (s1.trans (same_new (o := .lst vs) hp)).trans s2
  exact q r _ H2 s3 hr (dps_rep (dpso ((same_new (o := .lst vs) hp).trans s2) p1) _)
theorem rep_one {α : Type} (x : α) : ∀ n : Nat, (List.replicate n [x]).flatten = List.replicate n x
  | 0 => rfl
  | n + 1 => by rw [List.replicate_succ, List.flatten_cons, rep_one x n] <;> rfl
/-- a fraction in lowest terms -/
def fp (t b : Int) : Int × Int := ((fracL t b).getD 0 0, (fracL t b).getD 1 1)
theorem fp_ok {t b : Int} {n : Nat} (hb : 0 < b) (h1 : Bits n t) (h2 : Bits n b) : fracL t b = [(fp t b).1, (fp t b).2] ∧ Fr (fp t b) ∧ Bits n (fp t b).1 ∧ Bits n (fp t b).2 ∧ ∃ g : Int, 0 < g ∧ t = g * (fp t b).1 ∧ b = g * (fp t b).2 := by
  have hs : fracL t b = shortL [t, b] := by unfold fracL; rw [if_pos hb]
  obtain ⟨u, v, g, e, g0, e1, e2⟩ := fracL_two (t := t) hb
  have f1 : (fp t b).1 = u := by unfold fp; rw [e] <;> rfl
  have f2 : (fp t b).2 = v := by unfold fp; rw [e] <;> rfl
  rw [f1, f2]
  have bb : BitsL n (shortL [t, b]) := shortL_bits (bits2 h1 h2)
  rw [← hs, e] at bb
  have v0 : 0 < v := by
    rcases Int.lt_or_le 0 v with z | z
    · exact z
    · have := Int.mul_le_mul_of_nonneg_left z (Int.le_of_lt g0)
      omega
  have s1 := (short_prim (r := [t, b]) ⟨b, by simp, by omega⟩).1
  rw [← hs, e, gcdL_cons, gcdL_cons, gcdL_nil, Nat.gcd_zero_right] at s1
  refine ⟨e, ?_, bb u (by simp), bb v (by simp), g, g0, e1, e2⟩
  show 0 < (fp t b).2 ∧ Nat.gcd (fp t b).1.natAbs (fp t b).2.natAbs = 1
  rw [f1, f2]
  exact ⟨v0, s1⟩
/-- the coordinates that some reduced rows give -/
def co (D : Nat) (T : List (Nat × List Int)) (j : Nat) : Int × Int := match T.find? fun q => q.1 == j with
  | some q => fp (-(cf q.2 D)) (cf q.2 q.1)
  | none => (0, 1)
def crd (D : Nat) (T : List (Nat × List Int)) : List (Int × Int) := (List.range D).map (co D T)
theorem crd_len (D : Nat) (T : List (Nat × List Int)) : (crd D T).length = D := by unfold crd; simp
theorem co_more {D : Nat} {T : List (Nat × List Int)} {q : Nat × List Int} (hn : ∀ t ∈ T, t.1 ≠ q.1) (j : Nat) : co D (T ++ [q]) j = if j = q.1 then fp (-(cf q.2 D)) (cf q.2 q.1) else co D T j := by
  unfold co
  rw [List.find?_append]
  by_cases h : j = q.1
  · have e : (T.find? fun t => t.1 == j) = none := List.find?_eq_none.mpr fun t ht => by
      have := hn t ht
      simp
      omega
    rw [e, if_pos h]
    simp [h]
  · rw [if_neg h]
    cases e : T.find? fun t => t.1 == j with
    | some t => rfl
    | none =>
      have : (q.1 == j) = false := by simp; omega
      simp [this]
theorem crd_get {D : Nat} {T : List (Nat × List Int)} {j : Nat} (h : j < (crd D T).length) : (crd D T)[j] = co D T j := by
  have e : (crd D T)[j]? = some (co D T j) := by
    have hj : j < D := by rw [crd_len] at h; exact h
    unfold crd
    rw [List.getElem?_map, List.getElem?_range hj] <;> rfl
  rw [List.getElem?_eq_getElem h] at e
  exact Option.some.inj e
theorem crd_more {D : Nat} {T : List (Nat × List Int)} {q : Nat × List Int} (hn : ∀ t ∈ T, t.1 ≠ q.1) : crd D (T ++ [q]) = (crd D T).set q.1 (fp (-(cf q.2 D)) (cf q.2 q.1)) := by
  apply List.ext_getElem (by rw [List.length_set, crd_len, crd_len])
  intro j h1 h2
  rw [List.getElem_set, crd_get, co_more hn]
  by_cases h : j = q.1
  · rw [if_pos h, if_pos h.symm]
  · rw [if_neg h, if_neg (Ne.symm h), crd_get]
def R_fpt (ds : List PyData) (d : PyData) : Prop := ∃ (D : Nat) (Q : List (Nat × List Int)), ds = [.int (D : Int), .tuple (rsD (rowsOf Q))] ∧ 1 ≤ D ∧ D ≤ 4 ∧ Red (D + 1) Q ∧ (∀ q ∈ Q, q.1 + 1 < D + 1) ∧ (∀ q ∈ Q, BitsL 150 q.2) ∧ d = tI (ptC (crd D Q))
theorem crd_cs {D : Nat} {Q : List (Nat × List Int)} (hD : D ≤ 4) (R : Red (D + 1) Q) (hb : ∀ q ∈ Q, BitsL 150 q.2) : Cs (crd D Q) := by
  refine ⟨fun p hp => ?_, by rw [crd_len]; exact hD⟩
  unfold crd at hp
  obtain ⟨j, _, rfl⟩ := List.mem_map.mp hp
  unfold co
  cases e : Q.find? fun q => q.1 == j with
  | some q =>
    have hq := List.mem_of_find?_eq_some e
    have rq := R.row q hq
    have hp : q.1 < q.2.length := by
      refine Classical.byContradiction fun z => ?_
      have := rq.pos
      rw [cf_out (by omega)] at this
      omega
    obtain ⟨_, h1, h2, h3, _⟩ := fp_ok rq.pos (cf_bits (p := D) (hb q hq) (by rw [rq.len]; omega)).neg (cf_bits (hb q hq) hp)
    exact ⟨h1, h2.mono (by decide), h3.mono (by decide)⟩
  | none => exact (show Fr ((0 : Int), (1 : Int)) ∧ Bits 160 0 ∧ Bits 160 1 from ⟨⟨by decide, by decide⟩, Nat.two_pow_pos _, show (1 : Nat) < 2 ^ 160 by decide⟩)
section
variable {P : Program} {w : World} {K : PySem.W.Frag} {mg : Str → Option Value} {base : Heap} {f : Addr} {fd : FuncData}
theorem ok_fpt (F : Fun K "flat_point" "flat_point" st_flat_point f fd) (T : Tx mg) (CL : Cal P w K mg base 2 "leading_place" ["plane"] (spR K R_lp)) (CO : CalX P w K mg base 3 "lowest" ["top", "bottom"] (spX K mg R_low)) (CP : Cal P w K mg base 2 "point_of" ["coordinates"] (spR K R_ptof)) : FnOk P w K mg base CX0 4 f fd ["dimension", "flat"] (spR K R_fpt) := by
  refine fnR F sc_flat_point (fun ds d h => by obtain ⟨_, _, rfl, _⟩ := h; rfl) fun cdv A outer s H E G hr ds d h => ?_
  obtain ⟨D, Q, rfl, hD, hD4, R, lt, hb, rfl⟩ := h
  have e0 : (List.replicate ((D : Int)).toNat [PyData.tuple [.int 0, .int 1]]).flatten = (crd D []).map fr := by
    rw [rep_one]
    unfold crd
    rw [List.map_map]
    apply List.ext_getElem (by simp)
    intro j h1 h2
    simp [co, fr]
  refine r_new (i := 2) (ds := (crd D []).map fr) G (by rw [← e0]; exact f_rep (a_cons (e_tup (a_cons e_int (a_cons e_int a_nil))) a_nil) (e_var (i := 0) rfl) (by omega) (by omega) (by decide)) (show (2 : Nat) < 5 by decide) ?_
  refine l_cons (ls_for (i := 2) G (fun p => src_T (e_var (i := 1) rfl)) (pg_name (i := 3) sc_flat_point.nd rfl (Or.inl rfl)) (tg_name (vs := [3]) (by decide))
    (fun i ρ' ds' => ds' = (crd D (Q.take i)).map fr ∧ ∃ y2 y3 y4, ρ' = [some (.dat (.int (D : Int))), some (.dat (.tuple (rsD (rowsOf Q)))), y2, y3, y4]) ⟨rfl, _, _, _, rfl⟩ (fun i d ρ1 ds1 hd hJ hlt => ?_) fun ρ' ds' hJ => ?_)
  · obtain ⟨rfl, y2, y3, y4, rfl⟩ := hJ
    obtain ⟨r, hr1, rfl⟩ := rsD_get hd
    unfold rowsOf at hr1
    rw [List.getElem?_map] at hr1
    obtain ⟨q, hq, rfl⟩ := Option.map_eq_some_iff.mp hr1
    have mem := List.mem_of_getElem? hq
    have rq := R.row q mem
    have lq := lt q mem
    have hne : cf q.2 q.1 ≠ 0 := by have := rq.pos; omega
    obtain ⟨f1, _, _, _, _⟩ := fp_ok (n := 150) rq.pos (cf_bits (p := D) (hb q mem) (by rw [rq.len]; omega)).neg (cf_bits (hb q mem) (by rw [rq.len]; omega))
    have last : q.2.getLast? = some (cf q.2 D) := by
      rw [List.getLast?_eq_getElem?, rq.len, show D + 1 - 1 = D from rfl, List.getElem?_eq_getElem (by rw [rq.len]; omega), cf_get (List.getElem?_eq_getElem (by rw [rq.len]; omega))]
    refine ⟨[some (.dat (.int (D : Int))), some (.dat (.tuple (rsD (rowsOf Q)))), y2, some (.dat (tI q.2)), y4], fun p => rfl, show (2 : Nat) < 5 by decide, ?_⟩
    refine lb_cons (ls_of fun p => rs_set (i := 4) (d := .int (q.1 : Int)) G (e_is (e_call CL (hr.mono (by decide)) (a_cons (e_var (i := 3) rfl) a_nil) ⟨q.2, rfl, by rw [rq.len]; omega, rfl⟩) (by rw [lead_rr rq lq] <;> rfl)) ⟨[some (.dat (.int (D : Int))), some (.dat (.tuple (rsD (rowsOf Q)))), y2, some (.dat (tI q.2)), some (.dat (.int (q.1 : Int)))], rfl, show (2 : Nat) < 5 by decide, ?_⟩)
    refine lb_one (ls_put (j := q.1) (d := fr (fp (-(cf q.2 D)) (cf q.2 q.1))) (fun p => e_is (e_callX CO (hr.mono (by decide)) (a_cons (e_neg (e_ixT (e_var (i := 3) rfl) (e_neg e_int) (ati_last (lastI last)))) (a_cons (e_ixT (e_var (i := 3) rfl) (e_var (i := 4) rfl) (at_cf (by rw [rq.len]; omega))) a_nil)) ⟨_, _, rfl, (cf_bits (hb q mem) (by rw [rq.len]; omega)).mono (by decide), (lowO_ok hne).symm⟩) (by rw [f1] <;> rfl)) (fun p => e_var (i := 4) rfl) (by rw [List.length_map, crd_len]; omega) ?_)
    refine ⟨?_, _, _, _, rfl⟩
    rw [List.take_add_one, hq, ← List.map_set]
    exact congrArg (List.map fr) (crd_more (q := q) fun t ht => by
      intro e
      have ht' := List.mem_of_mem_take ht
      have := R.same ht' mem e
      obtain ⟨m, hm, e2⟩ := List.mem_iff_getElem.mp ht
      rw [List.length_take] at hm
      rw [List.getElem_take] at e2
      have lt2 := List.pairwise_iff_getElem.mp R.asc m i (by omega) (List.getElem?_eq_some_iff.mp hq).1 (by omega)
      rw [e2, (List.getElem?_eq_some_iff.mp hq).2] at lt2
      omega).symm
  · obtain ⟨rfl, y2, y3, y4, rfl⟩ := hJ
    rw [rsD_len, show (rowsOf Q).length = Q.length from by unfold rowsOf; simp, List.take_length]
    refine l_free (r_one (rs_ret (e_call CP (hr.mono (by decide)) (a_cons (e_callT ca_tupL (a_cons (e_var (i := 2) rfl) a_nil) T.tuple (by decide +kernel)) a_nil) ⟨crd D Q, rfl, crd_cs hD4 R hb, by rw [crd_len]; exact hD, rfl⟩) rfl))
end
end K4
/-! A block in two parts; a list of one's own within the turns of another one. -/
namespace Zj
open PySem PySem.Spec PyProof.Rows L2
variable [Nm]
def goOn (b : List Stmt) (env : Env) (f : Flow) : Sem Flow := match f with
  | .next => execs b env
  | f => pure f
theorem execs_append (a b : List Stmt) (env : Env) : execs (a ++ b) env = execs a env >>= goOn b env := by
  induction a with
  | nil =>
    rw [execs_nil, pure_bind] <;> rfl
  | cons st rest ih =>
    rw [List.cons_append, execs_cons, execs_cons, bind_assoc]
    congr 1
    funext f
    cases f with
    | next => exact ih
    | ret v => rw [pure_bind] <;> rfl
    | brk => rw [pure_bind] <;> rfl
    | cont => rw [pure_bind] <;> rfl
section
variable {X : Cx} {a : Addr} {sts st2 : List Stmt} {σ : L2.St} {H : Hp} {D : Ends}
theorem jss_append (h : JSs X sts { D with nx := fun σ' H' => JSs X st2 D σ' H' } σ H) : JSs X (sts ++ st2) D σ H := fun pins s I => by
  rw [execs_append]
  refine wpAny_bind (wpAny_mono (h pins s I) (fun f s1 q => ?_) fun _ _ e => e)
  cases f with
  | next =>
    obtain ⟨σ', H', I', q⟩ := q
    exact q pins s1 I'
  | ret v => exact wpAny_pure q
  | brk => exact wpAny_pure q
  | cont => exact wpAny_pure q
end
section
variable {X : Cx} {a : Addr} {ρ : Rho} {ds : List PyData} {i : Nat} {sts st2 : List Stmt} {NL : Rho → List PyData → Prop} {R : PyData → Prop}
/-- a part of the block that leaves the list alone -/
theorem lb_part (h : ∀ p, Run X a sts (ρp ρ i p) (fun ρ1 => ∃ ρ', ρ1 = ρp ρ' i p ∧ i < ρ'.length ∧ RunLB X a i st2 ρ' ds NL R) R) : RunLB X a i (sts ++ st2) ρ ds NL R := fun T p H0 σ H D O kn kr => by
  obtain ⟨acc, h1, h2⟩ := O.at'
  refine jss_append (h p (Also T p) σ H _ O.sd (fun σ' H' ρ1 s S' hN => ?_) fun v H' d s q hR => kr v H' d (O.sm.trans s) (dp_same off_less q) hR)
  obtain ⟨ρ', rfl, hl, hN⟩ := hN
  exact hN T p H0 σ' H' D ⟨O.n0, O.nT, O.sm.trans s, S', hl, acc, s.ob _ _ h1 (by intro ps z; cases z), dpso s h2⟩ kn kr
end
end Zj
/-! The law's own way to reduced rows. -/
namespace K4
open PySem PySem.Spec PyProof.Rows L2 Zj
variable [Nm]
section
variable {P : Program} {w : World} {K : PySem.W.Frag} {mg : Str → Option Value} {base : Heap} {f : Addr} {fd : FuncData}
def R_lclr (ds : List PyData) (d : PyData) : Prop := ∃ (r s : List Int) (p n b : Nat), ds = [tI r, tI s, .int (p : Int)] ∧ p < s.length ∧ r.length = s.length ∧ s.length ≤ 1000 ∧ BitsL n r ∧ BitsL b s ∧ n + b + 1 ≤ 8000 ∧ d = tI (shortL (clrR p r s))
theorem ok_lclr (F : Fun K "_law_cleared" "_law_cleared" st__law_cleared f fd) (T : Tx mg) (C : Cal P w K mg base 2 "_law_lowered" ["numbers"] (spR K R_short)) : FnOk P w K mg base CX0 3 f fd ["row", "head", "place"] (spR K R_lclr) := by
  refine fnR F sc__law_cleared (fun ds d h => by obtain ⟨_, _, _, _, _, rfl, _⟩ := h; rfl) fun cdv A outer s H E G hr ds d h => ?_
  obtain ⟨r, t, p, n, b, rfl, hp, hl, hz, b1, b2, hb, rfl⟩ := h
  refine r_one (rs_ret (e_call C (hr.mono (by decide)) (a_cons (e_is (d' := lI (clrR p r t)) (e_lc0 (own := [("a", 3), ("b", 4)]) (f := fPair 3 4) (val := onPair fun x y => cf t p * x - cf r p * y) (items := List.zipWith (fun x y => PyData.tuple [x, y]) (r.map .int) (t.map .int)) G
    (src_ZT (a_cons (e_var (i := 0) rfl) (a_cons (e_var (i := 1) rfl) a_nil)) T.zip) (by simp; omega) (blkOk_by (N := n__law_cleared) (sc := defScope st__law_cleared) (by decide +kernel))
    (fun _ _ _ _ _ => pg_tup rfl (pgs_cons (pg_name (i := 3) sc__law_cleared.nd rfl (Or.inl rfl)) (pgs_cons (pg_name (i := 4) sc__law_cleared.nd rfl (Or.inl rfl)) pgs_nil))) (tg_pair (by decide) (by decide)) fun d hd => ?_) ?_) a_nil) ⟨clrR p r t, .inr rfl, (clr_bits b1 b2).mono hb, by rw [clr_len hl rfl]; omega, rfl⟩) rfl)
  · obtain ⟨x, h1, y, h2, rfl⟩ := mem_zipI hd
    exact ⟨_, rfl, fun s H C cl fp => e_bin od_sub (e_bin (od_mul (mul_ok (cf_bits b2 (by omega)) (b1 x h1) (by omega))) (e_ixT (e_var (i := 1) rfl) (e_var (i := 2) rfl) (at_cf (by omega))) (e_var (i := 3) rfl))
      (e_bin (od_mul (mul_ok (cf_bits b1 (by omega)) (b2 y h2) (by omega))) (e_ixT (e_var (i := 0) rfl) (e_var (i := 2) rfl) (at_cf (by omega))) (e_var (i := 4) rfl))⟩
  · rw [zipI_map] <;> rfl
theorem shaped_ls (l : List (List Int)) : SeqAt.shaped (.list (rsD l)) = true := by
  have h1 := lay_rs l
  have h2 := depth_rs l
  unfold SeqAt.shaped
  simp only [PyData.canLay0, PyData.depth, h1]
  simp
  omega
theorem eqv_lrs (a b : List (List Int)) : PyData.eqv (.list (rsD a)) (.list (rsD b)) = (a == b) := by simp only [PyData.eqv, eqvAll_rs]
theorem rsD_mem {l : List (List Int)} {d : PyData} (h : d ∈ rsD l) : ∃ r ∈ l, d = tI r := by
  unfold rsD at h
  obtain ⟨r, hr, rfl⟩ := List.mem_map.mp h
  exact ⟨r, hr, rfl⟩
def vR (g : List Int → List Int) (d : PyData) : PyData := tI (g (unI d))
def kR (k : List Int → Bool) (d : PyData) : Bool := k (unI d)
theorem vR_tI (g : List Int → List Int) (r : List Int) : vR g (tI r) = tI (g r) := by unfold vR; rw [unI_tI]
theorem kR_tI (k : List Int → Bool) (r : List Int) : kR k (tI r) = k r := by unfold kR; rw [unI_tI]
theorem map_rs (g : List Int → List Int) (l : List (List Int)) : (rsD l).map (vR g) = rsD (l.map g) := by
  unfold rsD
  rw [List.map_map, List.map_map]
  exact List.map_congr_left fun r hr => vR_tI g r
theorem kept_rs (k : List Int → Bool) (g : List Int → List Int) (l : List (List Int)) : kept (kR k) (vR g) (rsD l) = rsD ((l.filter k).map g) := by
  rw [← map_rs]
  unfold kept
  congr 1
  unfold rsD
  rw [List.filter_map]
  congr 1
  exact List.filter_congr fun r _ => kR_tI k r
theorem good_blk {X : Cx} (G : Zj.Good X) {s : Shared} {H : Hp} {scope : Scope} {cenv : Env} {fp : List Addr} : Zj.Good (X.blk s H scope cenv fp) := ⟨G.nd, G.calm, PassesOwn.never, G.un⟩
def R_lred (ds : List PyData) (d : PyData) : Prop := ∃ (m n : Nat) (rows : List (List Int)), ds = [.tuple (rsD rows), .int (m : Int)] ∧ m ≤ 5 ∧ rows.length ≤ 50 ∧ (∀ r ∈ rows, r.length = m ∧ BitsL n r) ∧ fbits n m ≤ 8000 ∧ d = .tuple (rsD (rowsOf (redL m rows)))
theorem lbits_mono {n : Nat} : ∀ {p q : Nat}, p ≤ q → lbits n p ≤ lbits n q ∧ fbits n p ≤ fbits n q := fun {p q} h => by
  induction h with
  | refl => exact ⟨Nat.le_refl _, Nat.le_refl _⟩
  | step _ ih => exact ⟨by show _ ≤ 2 * lbits n _ + 1; omega, by show _ ≤ fbits n _ + lbits n _ + 1; omega⟩
theorem left_len {rows : List (List Int)} : ∀ p, (redTo rows p).2.length ≤ rows.length
  | 0 => Nat.le_refl _
  | p + 1 => by
    have ih := left_len (rows := rows) p
    show (stepL p (redTo rows p)).2.length ≤ _
    unfold stepL
    split
    · exact ih
    · rw [List.length_map]
      exact Nat.le_trans (List.length_filter_le _ _) ih
theorem found_len {rows : List (List Int)} : ∀ p, (redTo rows p).1.length ≤ p
  | 0 => Nat.le_refl _
  | p + 1 => by
    have ih := found_len (rows := rows) p
    show (stepL p (redTo rows p)).1.length ≤ _
    unfold stepL
    split
    · omega
    · rw [List.length_append, List.length_map]
      show _ + 1 ≤ p + 1
      omega
theorem ok_lred (F : Fun K "_law_reduced" "_law_reduced" st__law_reduced f fd) (T : Tx mg) (C : Cal P w K mg base 2 "_law_lowered" ["numbers"] (spR K R_short)) (CC : Cal P w K mg base 3 "_law_cleared" ["row", "head", "place"] (spR K R_lclr)) : FnOk P w K mg base CX0 4 f fd ["rows_so", "width"] (spR K R_lred) := by
  refine fnR F sc__law_reduced (fun ds d h => by obtain ⟨_, _, _, rfl, _⟩ := h; rfl) fun cdv A outer s H E G hr ds d h => ?_
  obtain ⟨m, n, rows, rfl, hm, hz, hrows, hbd, rfl⟩ := h
  have hl : ∀ r ∈ rows, r.length = m := fun r hr => (hrows r hr).1
  have e0 : (rsD rows).map (vR fun r => r) = rsD rows := by rw [map_rs, List.map_id']
  refine r_cons (rs_par (i := 2) (j := 3) G (a_cons (e_lst a_nil) (a_cons (e_is (e_lc0 (own := [("row", 8)]) (f := fName 8) (val := vR fun r => r) G (src_T (e_var (i := 0) rfl)) (by rw [rsD_len]; omega) (blkOk_by (N := n__law_reduced) (sc := defScope st__law_reduced) (by decide +kernel))
    (fun _ _ _ _ _ => pg_name (i := 8) sc__law_reduced.nd rfl (Or.inl rfl)) (tg_name (by decide)) fun d hd => ?_) (by rw [e0])) a_nil)) ?_)
  · obtain ⟨r, hr', rfl⟩ := rsD_mem hd
    exact ⟨_, rfl, fun s H C cl fp => e_is (e_callT ca_tupT (a_cons (e_var (i := 8) rfl) a_nil) T.tuple (by decide +kernel)) (by rw [vR_tI])⟩
  refine r_cons (rs_for G (src_R (n := (m : Int)) (a_cons (e_var (i := 1) rfl) a_nil) (by omega) (by omega) T.range) (pg_name (i := 4) sc__law_reduced.nd rfl (Or.inr rfl)) (tg_name (vs := [4]) (by decide))
    (fun p ρ' => ∃ y4 y5 y6 y7 y8 y9 y10 y11, ρ' = [some (.dat (.tuple (rsD rows))), some (.dat (.int (m : Int))), some (.dat (.list (rsD (rowsOf (redTo rows p).1)))), some (.dat (.list (rsD (redTo rows p).2))), y4, y5, y6, y7, y8, y9, y10, y11]) ⟨_, _, _, _, _, _, _, _, rfl⟩ (fun p d ρ1 hd hJ => ?_) fun ρ' hJ => ?_)
  · obtain ⟨y4, y5, y6, y7, y8, y9, y10, y11, rfl⟩ := hJ
    have hp : p < m ∧ d = .int (p : Int) := by
      unfold Zj.upTo at hd
      rw [List.getElem?_map] at hd
      by_cases hlt : p < ((m : Int)).toNat
      · rw [List.getElem?_range hlt] at hd
        cases hd
        exact ⟨by omega, rfl⟩
      · rw [List.getElem?_eq_none (by simpa using hlt)] at hd
        cases hd
    obtain ⟨hp, rfl⟩ := hp
    have L := redTo_ok hl p
    obtain ⟨b1, b2⟩ := redTo_bits (fun r hr => (hrows r hr).2) p
    have lm := lbits_mono (n := n) (p := p + 1) (q := m) (by omega)
    have l1 : lbits n (p + 1) = 2 * lbits n p + 1 := rfl
    have l2 : fbits n (p + 1) = fbits n p + lbits n p + 1 := rfl
    have zl := left_len (rows := rows) p
    have zf := found_len (rows := rows) p
    refine ⟨_, rfl, r_cons (rs_set (i := 5) (d := .list (rsD ((redTo rows p).2.filter fun r => !(cf r p == 0)))) G (e_is (e_lc (own := [("row", 8)]) (f := fName 8) (keep := kR fun r => !(cf r p == 0)) (val := vR fun r => r) G (src_L (e_var (i := 3) rfl)) (by rw [rsD_len]; omega) (blkOk_by (N := n__law_reduced) (sc := defScope st__law_reduced) (by decide +kernel))
      (fun _ _ _ _ _ => pg_name (i := 8) sc__law_reduced.nd rfl (Or.inl rfl)) (tg_name (by decide)) (fun d hd => ?_)) (by rw [kept_rs, List.map_id'])) ?_)⟩
    · obtain ⟨r, hr', rfl⟩ := rsD_mem hd
      have rl := L.len r hr'
      exact ⟨_, rfl, fun s H C cl fp => t_is (t_cmp od_neI (e_ixT (e_var (i := 8) rfl) (e_var (i := 4) rfl) (at_cf (by omega))) e_int (nomark _)) (by rw [kR_tI]), fun _ s H C cl fp => e_is (e_var (i := 8) rfl) (by rw [vR_tI])⟩
    cases hh : (redTo rows p).2.filter fun r => !(cf r p == 0) with
    | nil =>
      have hzero : ∀ r ∈ (redTo rows p).2, cf r p = 0 := fun r hr => by
        have := List.filter_eq_nil_iff.mp hh r hr
        simpa using this
      refine r_one (rs_if (b := false) (t_is (t_cmp (od_neD (d1 := .list (rsD [])) (d2 := .list (rsD [])) G.un (shaped_ls []) (shaped_ls [])) (e_var (i := 5) rfl) (e_lst a_nil) (nomark _)) (by rw [eqv_lrs] <;> rfl)) nofun fun _ => r_nil ?_)
      have e : redTo rows (p + 1) = redTo rows p := stepL_no hzero
      rw [e]
      exact ⟨_, _, _, _, _, _, _, _, rfl⟩
    | cons h t =>
      obtain ⟨es, hmem, hne⟩ := stepL_some hh
      have hlh := L.len h hmem
      have hhb := b2 h hmem
      obtain ⟨hd1, _⟩ := head_ok hlh (L.low h hmem) hne
      have hdb : BitsL (lbits n p) (headL p h) := head_bits hhb
      refine r_one (rs_if (b := true) (t_is (t_cmp (od_neD (d1 := .list (rsD (h :: t))) (d2 := .list (rsD [])) G.un (shaped_ls _) (shaped_ls [])) (e_var (i := 5) rfl) (e_lst a_nil) (nomark _)) (by rw [eqv_lrs] <;> rfl)) (fun _ => ?_) nofun)
      have hat : atI (rsD (h :: t)) 0 = some (tI h) := ati_of (j := 0) rfl rfl
      refine r_cons (rs_set (i := 6) (d := tI (shortL h)) G (e_call C (hr.mono (by decide)) (a_cons (e_ixL (e_var (i := 5) rfl) e_int hat) a_nil) ⟨h, .inl rfl, hhb.mono (by omega), by omega, rfl⟩) ?_)
      have hsl : p < (shortL h).length := by rw [shortL_len]; omega
      refine r_cons (rs_set (i := 6) (d := tI (headL p h)) G (e_if (d := tI (headL p h)) (t_cmp od_gt (e_ixT (e_var (i := 6) rfl) (e_var (i := 4) rfl) (at_cf hsl)) e_int (nomark _)) (fun hg => e_is (e_var (i := 6) rfl) ?_) fun hg => e_is (e_callT ca_tupL (a_cons (e_lc0 (own := [("number", 9)]) (f := fName 9) (val := onInt fun x => -x) G (src_T (e_var (i := 6) rfl)) (by simp [shortL_len]; omega) (blkOk_by (N := n__law_reduced) (sc := defScope st__law_reduced) (by decide +kernel))
        (fun _ _ _ _ _ => pg_name (i := 9) sc__law_reduced.nd rfl (Or.inl rfl)) (tg_name (by decide)) fun d hd => ?_) a_nil) T.tuple (by decide +kernel)) ?_) ?_)
      · unfold headL
        rw [if_pos (of_decide_eq_true hg)]
      · obtain ⟨x, hx, rfl⟩ := mem_mapI hd
        exact ⟨_, rfl, fun s H C cl fp => e_neg (e_var (i := 9) rfl)⟩
      · unfold headL
        rw [mapI, if_neg (of_decide_eq_false hg)]
      refine r_cons (rs_lc (i := 7) (own := [("row", 8)]) (f := fName 8) (keep := kR fun r => !(r == h)) (val := vR fun r => r) G (src_L (e_var (i := 3) rfl)) (by rw [rsD_len]; omega) (blkOk_by (N := n__law_reduced) (sc := defScope st__law_reduced) (by decide +kernel))
        (fun _ _ _ _ _ => pg_name (i := 8) sc__law_reduced.nd rfl (Or.inl rfl)) (tg_name (by decide)) (fun d hd => ?_) ?_)
      · obtain ⟨r, hr', rfl⟩ := rsD_mem hd
        exact ⟨_, rfl, fun s H C cl fp => t_is (t_cmp (od_neD G.un (shaped_tI r) (shaped_tI h)) (e_var (i := 8) rfl) (e_ixL (e_var (i := 5) rfl) e_int hat) (nomark _)) (by rw [eqv_tI, kR_tI]), fun _ s H C cl fp => e_is (e_var (i := 8) rfl) (by rw [vR_tI])⟩
      rw [kept_rs, List.map_id']
      have zr : ((redTo rows p).2.filter fun r => !(r == h)).length ≤ 50 := Nat.le_trans (List.length_filter_le _ _) (by omega)
      have ld := hd1.len
      refine r_cons (rs_lc0 (i := 3) (own := [("row", 8)]) (f := fName 8) (val := vR fun t => clrR p t (headL p h)) G (src_L (e_var (i := 7) rfl)) (by rw [rsD_len]; omega) (blkOk_by (N := n__law_reduced) (sc := defScope st__law_reduced) (by decide +kernel))
        (fun _ _ _ _ _ => pg_name (i := 8) sc__law_reduced.nd rfl (Or.inr rfl)) (tg_name (by decide)) (fun d hd => ?_) ?_)
      · obtain ⟨r, hr', rfl⟩ := rsD_mem hd
        have hr2 := (List.mem_filter.mp hr').1
        have rl := L.len r hr2
        have rb := b2 r hr2
        refine ⟨_, rfl, fun s H C cl fp => e_is (e_callT ca_tupL (a_cons (e_lc0 (own := [("a", 10), ("b", 11)]) (f := fPair 10 11) (val := onPair fun x y => cf (headL p h) p * x - cf r p * y) (items := List.zipWith (fun x y => PyData.tuple [x, y]) (r.map .int) ((headL p h).map .int)) (good_blk G)
          (src_ZT (a_cons (e_var (i := 8) rfl) (a_cons (e_var (i := 6) rfl) a_nil)) T.zip) (by simp; omega) (blkOk_by (by rfl))
          (fun _ _ _ _ _ => pg_tup rfl (pgs_cons (pg_name (i := 10) sc__law_reduced.nd rfl (Or.inl rfl)) (pgs_cons (pg_name (i := 11) sc__law_reduced.nd rfl (Or.inl rfl)) pgs_nil))) (tg_pair (by decide) (by decide)) fun d hd => ?_) a_nil) T.tuple (by decide +kernel)) ?_⟩
        · obtain ⟨x, h1, y, h2, rfl⟩ := mem_zipI hd
          exact ⟨_, rfl, fun s H C cl fp => e_bin od_sub (e_bin (od_mul (mul_ok (cf_bits hdb (by omega)) (rb x h1) (by omega))) (e_ixT (e_var (i := 6) rfl) (e_var (i := 4) rfl) (at_cf (by omega))) (e_var (i := 10) rfl))
            (e_bin (od_mul (mul_ok (cf_bits rb (by omega)) (hdb y h2) (by omega))) (e_ixT (e_var (i := 8) rfl) (e_var (i := 4) rfl) (at_cf (by omega))) (e_var (i := 11) rfl))⟩
        · rw [zipI_map, vR_tI] <;> rfl
      rw [map_rs]
      refine r_one (rs_set (i := 2) (d := .list (rsD (rowsOf (redTo rows p).1 |>.map fun t => shortL (clrR p t (headL p h))) ++ [tI (headL p h)])) G (e_bin (od_catL (fs := [tI (headL p h)]) (by rw [rsD_len, List.length_map]; unfold rowsOf; simp; omega)) (e_is (e_lc0 (own := [("row", 8)]) (f := fName 8) (val := vR fun t => shortL (clrR p t (headL p h))) G (src_L (e_var (i := 2) rfl)) (by rw [rsD_len]; unfold rowsOf; rw [List.length_map]; omega) (blkOk_by (N := n__law_reduced) (sc := defScope st__law_reduced) (by decide +kernel))
        (fun _ _ _ _ _ => pg_name (i := 8) sc__law_reduced.nd rfl (Or.inl rfl)) (tg_name (by decide)) fun d hd => ?_) (by rw [map_rs])) (e_lst (a_cons (e_var (i := 6) rfl) a_nil))) ?_)
      · obtain ⟨r, hr', rfl⟩ := rsD_mem hd
        unfold rowsOf at hr'
        obtain ⟨q, hq, rfl⟩ := List.mem_map.mp hr'
        have ql := (L.red.row q hq).len
        exact ⟨_, rfl, fun s H C cl fp => e_is (e_call CC (hr.mono (by decide)) (a_cons (e_var (i := 8) rfl) (a_cons (e_var (i := 6) rfl) (a_cons (e_var (i := 4) rfl) a_nil))) ⟨q.2, headL p h, p, fbits n p, lbits n p, rfl, by omega, by omega, by omega, b1 q hq, hdb, by omega, rfl⟩) (by rw [vR_tI])⟩
      · have e1 : redTo rows (p + 1) = _ := es
        have e2 : rsD (rowsOf (redTo rows p).1 |>.map fun t => shortL (clrR p t (headL p h))) ++ [tI (headL p h)] = rsD (rowsOf (redTo rows (p + 1)).1) := by
          rw [e1]
          unfold rsD rowsOf
          rw [List.map_append, List.map_append, List.map_map, List.map_map, List.map_map, List.map_map] <;> rfl
        have e3 : ((redTo rows p).2.filter fun r => !(r == h)).map (fun t => clrR p t (headL p h)) = (redTo rows (p + 1)).2 := by rw [e1]
        rw [e2, e3]
        exact ⟨_, _, _, _, _, _, _, _, rfl⟩
  · obtain ⟨y4, y5, y6, y7, y8, y9, y10, y11, rfl⟩ := hJ
    rw [upto_len]
    exact r_one (rs_ret (e_callT ca_tupL (a_cons (e_var (i := 2) rfl) a_nil) T.tuple (by decide +kernel)) rfl)
end
end K4
/-! The law's own flat. -/
namespace K4
open PySem PySem.Spec PyProof.Rows L2 Zj
variable [Nm]
def zeroR (r : List Int) : Bool := (r.dropLast.filter fun x => !(x == 0)) == []
theorem zero_iff {D : Nat} {p : Nat} {r : List Int} (h : Rr (D + 1) p r) (hp : p < D + 1) : zeroR r = (p == D) := by
  unfold zeroR
  by_cases e : p = D
  · have : r.dropLast.filter (fun x => !(x == 0)) = [] := List.filter_eq_nil_iff.mpr fun x hx => by
      obtain ⟨j, hj, rfl⟩ := List.mem_iff_getElem.mp hx
      rw [List.length_dropLast, h.len] at hj
      have z := h.low j (by omega)
      rw [cf_get (List.getElem?_eq_getElem (by rw [h.len]; omega))] at z
      rw [List.getElem_dropLast, z]
      simp
    rw [this, e]
    simp
  · have hne : cf r p ≠ 0 := by have := h.pos; omega
    have hm : (r.dropLast[p]'(by rw [List.length_dropLast, h.len]; omega)) ∈ r.dropLast.filter fun x => !(x == 0) := List.mem_filter.mpr ⟨List.getElem_mem _, by
      rw [List.getElem_dropLast]
      rw [cf_get (List.getElem?_eq_getElem (by rw [h.len]; omega))] at hne
      simpa using hne⟩
    have : (r.dropLast.filter fun x => !(x == 0)) ≠ [] := fun z => by rw [z] at hm; cases hm
    rw [show ((r.dropLast.filter fun x => !(x == 0)) == []) = false from by simpa using this]
    simp [e]
theorem zeros_no {D : Nat} {rows : List (List Int)} (hl : ∀ r ∈ rows, r.length = D + 1) : (!(((rowsOf (redL (D + 1) rows)).filter zeroR) == [])) = isNo D (redL (D + 1) rows) := by
  have R := (redL_ok hl).1
  have lt := redL_lt hl
  unfold isNo rowsOf
  generalize redL (D + 1) rows = Q at *
  rw [List.filter_map]
  have e : Q.filter (zeroR ∘ fun q => q.2) = Q.filter fun q => q.1 == D := List.filter_congr fun q hq => zero_iff (R.row q hq) (lt q hq)
  rw [e]
  cases h : Q.any fun q => q.1 == D with
  | true =>
    obtain ⟨q, hq, hd⟩ := List.any_eq_true.mp h
    have : q ∈ Q.filter fun q => q.1 == D := List.mem_filter.mpr ⟨hq, hd⟩
    cases h2 : Q.filter fun q => q.1 == D with
    | nil => rw [h2] at this; cases this
    | cons => rfl
  | false =>
    rw [List.any_eq_false] at h
    rw [List.filter_eq_nil_iff.mpr fun q hq => by simpa using h q hq] <;> rfl
section
variable {P : Program} {w : World} {K : PySem.W.Frag} {mg : Str → Option Value} {base : Heap} {f : Addr} {fd : FuncData}
def R_lflat (ds : List PyData) (d : PyData) : Prop := ∃ (D n : Nat) (rows : List (List Int)), ds = [.int (D : Int), .tuple (rsD rows)] ∧ D ≤ 4 ∧ rows.length ≤ 50 ∧ (∀ r ∈ rows, r.length = D + 1 ∧ BitsL n r) ∧ fbits n (D + 1) ≤ 8000 ∧ d = flatPD D rows
def keepNZ1 : PyData → Bool
  | .int x => !(x == 0)
  | _ => false
theorem kept_nz1 (xs : List Int) : kept keepNZ1 (onInt fun x => x) (xs.map .int) = (xs.filter fun x => !(x == 0)).map .int := by
  unfold kept
  rw [List.filter_map, List.map_map]
  rfl
theorem ok_lflat (F : Fun K "_law_flat" "_law_flat" st__law_flat f fd) (T : Tx mg) (C : Cal P w K mg base 4 "_law_reduced" ["rows_so", "width"] (spR K R_lred)) : FnOk P w K mg base CX0 5 f fd ["dimension_so", "rows_so"] (spR K R_lflat) := by
  refine fnR F sc__law_flat (fun ds d h => by obtain ⟨_, _, _, rfl, _⟩ := h; rfl) fun cdv A outer s H E G hr ds d h => ?_
  obtain ⟨D, n, rows, rfl, hD, hz, hrows, hbd, rfl⟩ := h
  have hl : ∀ r ∈ rows, r.length = D + 1 := fun r hr => (hrows r hr).1
  have R := (redL_ok hl).1
  have zf : (redL (D + 1) rows).length ≤ D + 1 := found_len (D + 1)
  refine r_cons (rs_set (i := 2) (d := .tuple (rsD (rowsOf (redL (D + 1) rows)))) G (e_call C (hr.mono (by decide)) (a_cons (e_var (i := 1) rfl) (a_cons (e_bin od_add (e_var (i := 0) rfl) e_int) a_nil)) ⟨D + 1, n, rows, rfl, by omega, hz, hrows, hbd, rfl⟩) ?_)
  refine r_cons (rs_if (b := isNo D (redL (D + 1) rows)) (t_is (t_cmp (od_neD (d1 := .list (rsD ((rowsOf (redL (D + 1) rows)).filter zeroR))) (d2 := .list (rsD [])) G.un (shaped_ls _) (shaped_ls [])) (e_is (e_lc (own := [("row", 3)]) (f := fName 3) (keep := kR zeroR) (val := vR fun r => r) G (src_T (e_var (i := 2) rfl)) (by rw [rsD_len]; unfold rowsOf; rw [List.length_map]; omega) (blkOk_by (N := n__law_flat) (sc := defScope st__law_flat) (by decide +kernel))
    (fun _ _ _ _ _ => pg_name (i := 3) sc__law_flat.nd rfl (Or.inl rfl)) (tg_name (by decide)) (fun d hd => ?_)) (by rw [kept_rs, List.map_id'])) (e_lst a_nil) (nomark _)) (by rw [eqv_lrs]; exact zeros_no hl)) (fun h1 => r_one (rs_ret e_non ?_)) fun h1 => r_nil (r_one (rs_ret (e_var (i := 2) rfl) ?_)))
  · obtain ⟨r, hr', rfl⟩ := rsD_mem hd
    unfold rowsOf at hr'
    obtain ⟨q, hq, rfl⟩ := List.mem_map.mp hr'
    have ql := (R.row q hq).len
    have h1' : 1 ≤ (q.2.map PyData.int).length := by rw [List.length_map]; omega
    refine ⟨_, rfl, fun s H C cl fp => t_is (t_cmp (od_eqD (d1 := lI (q.2.dropLast.filter fun x => !(x == 0))) (d2 := lI []) (good_blk G).un (shaped_lI _) (shaped_lI [])) (e_is (e_lc (own := [("number", 4)]) (f := fName 4) (keep := keepNZ1) (val := onInt fun x => x) (good_blk G) (src_T (e_is (e_slT (e_var (i := 3) rfl) o_non (o_int (e_neg e_int)) (cut_part _ h1')) (by rw [cutD_init _ h1', initI]))) (by simp; omega) (blkOk_by (by rfl))
      (fun _ _ _ _ _ => pg_name (i := 4) sc__law_flat.nd rfl (Or.inl rfl)) (tg_name (by decide)) (fun d hd => ?_)) (by rw [kept_nz1])) (e_lst a_nil) (nomark _)) (by rw [eqv_lI, kR_tI] <;> rfl), fun _ s H C cl fp => e_is (e_var (i := 3) rfl) (by rw [vR_tI])⟩
    obtain ⟨x, hx, rfl⟩ := mem_mapI hd
    exact ⟨_, rfl, fun s H C cl fp => t_cmp od_neI (e_var (i := 4) rfl) e_int (nomark _), fun _ s H C cl fp => e_var (i := 4) rfl⟩
  · unfold flatPD
    rw [if_pos h1]
  · unfold flatPD
    rw [if_neg (by rw [h1]; exact Bool.false_ne_true)] <;> rfl
end
end K4
/-! try: return [e], except C as n: return n.f. -/
namespace Zj
open PySem PySem.Spec PyProof.Rows L2
variable [Nm]
section
variable {Z : Cx} {a : Addr} {ρ : Rho} {n x1 f1 : Str} {i : Nat} {e : Expr} {p3 p4 p5 q1 q2 r2 r3 r5 : Pos} {o : Out} {N : Rho → Prop} {R : PyData → Prop}
/-- the suite: n.f -/
def tFld (K : PySem.W.Frag) (mg : Str → Option Value) (i : Nat) (f : Str) (a : Addr) (cls : Value) (d : Option Addr) : TS := fun D σ H => σ[i]? = some (some (.ref a)) ∧ ∃ (T : Addr → Prop) (x : Exc) (y : PyData), (f, y) ∈ x.fs ∧ ExD K mg (off T H) x cls d ∧
  (∃ C, XfC K C ∧ PySem.W.findIn K (.ref C) f = some none ∧ cls = .ref C) ∧ ∀ v, Dp K (off T H) v y → D.rt v H
theorem ps_fld {a : Addr} {oe : Obj} {cls : Value} {d : Option Addr} {pn : List (Addr × Obj)} {f : Str} (hz : Zc cls d oe) (hf : ∃ vs, oe.data = .fields vs) (hi : Z.N[i]? = some n) (hv : Vis Z.env.scope n) (hd : (n == ("__debug__" : Str)) = false) (hcd : (n == ("__classdict__" : Str)) = false)
    (hb : attributeBase (.Name n r2) f (Z.suite a ((a, oe) :: pn)).env (eval (.Name n r2) (Z.suite a ((a, oe) :: pn)).env) = eval (.Name n r2) (Z.suite a ((a, oe) :: pn)).env) :
    PSs (Z.suite a ((a, oe) :: pn)) [.Return (some (.Attribute (.Name n r2) f r3)) r5] (tFld Z.K Z.mg i f a cls d) := by
  refine ⟨fun pins s σ H D I h => ?_⟩
  obtain ⟨hσ, T, x, y, hx, he, ⟨C, hX, hno, hC⟩, q⟩ := h
  obtain ⟨C', _, hc', hall⟩ := he
  obtain ⟨dd, fs, v, rfl, hdd, hl, hp⟩ := hall _ hx
  refine (pss_one (ps_ret (pe_xf hX hno hz hf (pe_var hi hv hd hcd) hb))).run pins s σ H D I ?_
  exact ⟨.ref a, hσ, rfl, hC, dd, fs, v, rfl, (off_some hdd).1, hl, q v hp⟩
def tBody (Z : Cx) (e : Expr) (p3 p4 : Pos) (W : WX) : TS := fun D σ H => ∀ (pn : List (Addr × Obj)) (xe : Value → Shared → Prop), Takes (Z.tr pn xe) W → JSs (Z.tr pn xe) [.Return (some (.List [e] p3)) p4] D σ H
theorem rs_tryf (G : Good Z) (hst : Z.stack = Z.env :: Z.outer) (hfr : Z.env.frame = some Z.env.locals) (hi : Z.N[i]? = some n) (hln : Z.env.kindOf n = some .local) (hv : Vis Z.env.scope n) (hd : (n == ("__debug__" : Str)) = false) (hcd : (n == ("__classdict__" : Str)) = false) (g1 : Gl Z x1) (d1 : (x1 == ("__debug__" : Str)) = false)
    (C1 : XcF Z.K Z.mg x1 [f1]) (m11 : Exm Z.K Z.mg x1 x1 true) (hlt : i < ρ.length) (he : ∀ (pn : List (Addr × Obj)) (xe : Value → Shared → Prop), match o with
      | .ok d => EvE (Z.tr pn xe) a e ρ d
      | .ex x => EvX (Z.tr pn xe) a e ρ x)
    (hse : ∀ (pn : List (Addr × Obj)) (xe : Value → Shared → Prop), starEach [e] (Z.tr pn xe).env = (false, eval e (Z.tr pn xe).env) :: starEach [] (Z.tr pn xe).env)
    (ho : (∃ d, o = .ok d ∧ R (.list [d])) ∨ ∃ y, o = .ex ⟨x1, [(f1, y)]⟩ ∧ R y) :
    RunS Z a (.Try [.Return (some (.List [e] p3)) p4] [.ExceptHandler (some (.Name x1 q1)) (some n) [.Return (some (.Attribute (.Name n r2) f1 r3)) r5] q2] [] [] p5) ρ N R := fun T σ H D S kn kr => by
  obtain ⟨A1, hm1, XA, noA⟩ := C1.ex
  refine toS (ps_tries (tb := tBody Z e p3 p4) (Wout := fun _ _ _ _ => False) hst hfr G.nd takes0 (fun W pn xe tk _ => ⟨fun pins s σ H D I h => h pn xe tk pins s I⟩) (.named hi hln ⟨g1, d1, .inl hm1⟩ (fun a oe cls d pn hz hf => ps_fld hz hf hi hv hd hcd rfl) .nil)) ?_
  intro pn xe tk
  have he := he pn xe
  refine toSs (pss_one (ps_ret (pe_lst (pa_cons je pa_nil (hse pn xe))))) ?_
  rcases ho with ⟨d, rfl, hR⟩ | ⟨y, rfl, hR⟩
  · refine he T σ H S _ fun v H2 s p => ⟨szl (by simp), fun pa hpa => ?_⟩
    exact kr _ _ (.list [d]) (s.trans (same_new hpa)) (dpo_newL (S.dm.same s) hpa (.cons p .nil)) hR
  · refine he _ tk T σ H S (fun cls d H2 s p => ?_) _
    have p0 := p
    obtain ⟨C, hc, rfl, _⟩ := p0
    have eC := hm1.symm.trans hc
    cases eC
    refine ⟨true, m11.at hm1 hm1, fun _ a0 na => ?_, fun z => nomatch z⟩
    have hl : i < σ.length := by rw [S.len]; exact hlt
    exact ⟨by rw [List.getElem?_set_self hl], T, _, y, List.mem_singleton.mpr rfl, p, ⟨A1, XA, noA _ (List.mem_singleton.mpr rfl), rfl⟩, fun v p3 => kr v H2 y s p3 hR⟩
end
end Zj
/-! What the program and the law tell of a value that may be a flat. -/
namespace K4
open PySem PySem.Spec PyProof.Rows L2 Zj
variable [Nm]
def hvO : Out → PyData
  | .ok d => .list [d]
  | .ex ⟨_, [(_, y)]⟩ => y
  | _ => .none
/-- what is asked of a value that is judged -/
structure Jv (D : Nat) (v : PyData) : Prop where
  len : ∀ xs, v = .tuple xs → xs.length ≤ 50 ∧ ∀ x ∈ xs, ∀ ys, x = .tuple ys → ys.length ≤ 1000
  bd : ∀ xs, v = .tuple xs → xs.findIdx? (badR D) = none → Bd (D + 1) (rowsD xs) ∧ ∃ n, (∀ r ∈ rowsD xs, BitsL n r) ∧ fbits n (D + 1) ≤ 8000
section
variable {P : Program} {w : World} {K : PySem.W.Frag} {mg : Str → Option Value} {base : Heap} {f : Addr} {fd : FuncData}
def R_hv (ds : List PyData) (d : PyData) : Prop := ∃ (D : Nat) (v : PyData), ds = [.int (D : Int), v] ∧ 1 ≤ D ∧ D ≤ 4 ∧ Jv D v ∧ d = hvO (chO D v)
theorem chO_cases (D : Nat) (v : PyData) : chO D v = .ok v ∨ ∃ p : Int, chO D v = nrO p := by
  unfold chO
  split
  · split
    · exact .inr ⟨_, rfl⟩
    · split
      · exact .inl rfl
      · exact .inr ⟨_, rfl⟩
  · exact .inr ⟨_, rfl⟩
theorem ok_heard (F : Fun K "_law_heard" "_law_heard" st__law_heard f fd) (c1 : XcF K mg "NotRow" ["place"]) (m11 : Exm K mg "NotRow" "NotRow" true) (C : CalX P w K mg base 6 "check_flat" ["dimension", "value"] (spX K mg R_chf)) : FnOk P w K mg base CX0 7 f fd ["dimension_so", "value_so"] (spR K R_hv) := by
  refine fnR F sc__law_heard (fun ds d h => by obtain ⟨_, _, rfl, _⟩ := h; rfl) fun cdv A outer s H E G hr ds d h => ?_
  obtain ⟨D, v, rfl, hD, hD4, hv, rfl⟩ := h
  have hR : R_chf [.int (D : Int), v] (chO D v) := ⟨D, v, rfl, hD, hD4, fun xs e => ⟨(hv.len xs e).1, (hv.len xs e).2, fun h => (hv.bd xs e h).1⟩, rfl⟩
  refine r_one (rs_tryf (i := 2) (o := chO D v) G rfl rfl rfl rfl (.inl rfl) (by decide) (by decide) rfl (by decide) c1 m11 (show (2 : Nat) < 3 by decide) (fun pn xe => ?_) (fun pn xe => star_of rfl) ?_)
  · rcases chO_cases D v with h | ⟨p, h⟩
    · rw [h] at hR ⊢
      exact e_callX C (hr.mono (by decide)) (a_cons (e_var (i := 0) rfl) (a_cons (e_var (i := 1) rfl) a_nil)) hR
    · rw [h] at hR ⊢
      exact x_call C (hr.mono (by decide)) (a_cons (e_var (i := 0) rfl) (a_cons (e_var (i := 1) rfl) a_nil)) hR
  · rcases chO_cases D v with h | ⟨p, h⟩
    · exact .inl ⟨v, h, by rw [h] <;> rfl⟩
    · exact .inr ⟨.int p, h, by rw [h] <;> rfl⟩
def oneD (_ : PyData) : PyData := .int 1
def notW (d : PyData) : Bool := !wholeD d
theorem ok_fault (F : Fun K "_law_fault" "_law_fault" st__law_fault f fd) (T : Tx mg) (C : Cal P w K mg base 5 "_law_flat" ["dimension_so", "rows_so"] (spR K R_lflat)) : FnOk P w K mg base CX0 6 f fd ["dimension_so", "value_so"] (spR K R_hv) := by
  refine fnR F sc__law_fault (fun ds d h => by obtain ⟨_, _, rfl, _⟩ := h; rfl) fun cdv A outer s H E G hr ds d h => ?_
  obtain ⟨D, v, rfl, hD, hD4, hv, rfl⟩ := h
  by_cases hvt : tupD v = true
  · obtain ⟨xs, rfl⟩ : ∃ xs, v = .tuple xs := by
      cases v with
      | tuple xs => exact ⟨xs, rfl⟩
      | _ => cases hvt
    obtain ⟨hz, hx⟩ := hv.len xs rfl
    refine r_cons (rs_if (b := false) (t_is (t_not (t_val (e_isTup (e_var (i := 1) rfl) T.isi T.tuple))) rfl) nofun fun _ => r_nil ?_)
    refine r_cons (rs_for G (src_ET (a_cons (e_var (i := 1) rfl) a_nil) T.enum) (pg_tup rfl (pgs_cons (pg_name (i := 2) sc__law_fault.nd rfl (Or.inl rfl)) (pgs_cons (pg_name (i := 3) sc__law_fault.nd rfl (Or.inl rfl)) pgs_nil))) (tg_pair (vs := [2, 3]) (by decide) (by decide))
      (fun n ρ' => (∃ x y z, ρ' = [some (.dat (.int (D : Int))), some (.dat (.tuple xs)), x, y, z]) ∧ ∀ i y, i < n → xs[i]? = some y → badR D y = false) ⟨⟨_, _, _, rfl⟩, fun i y hi => by omega⟩ (fun n d ρ1 hd hJ => ?_) fun ρ' hJ => ?_)
    · obtain ⟨x, hxn, rfl⟩ := getN hd
      obtain ⟨⟨_, _, z, rfl⟩, hb⟩ := hJ
      refine ⟨_, rfl, ?_⟩
      have out : badR D x = true → hvO (chO D (.tuple xs)) = .int (n : Int) := fun h1 => by rw [chO_bad (find_hit hxn h1 hb)] <;> rfl
      by_cases hg : ∃ ys, x = .tuple ys ∧ (ys.length : Int) = (D : Int) + 1
      · obtain ⟨ys, rfl, hl⟩ := hg
        have hy := hx _ (List.mem_of_getElem? hxn) ys rfl
        have hbad : badR D (.tuple ys) = !isN (placeD (badAt ys)) := by
          unfold badR
          rw [show wrongD (.tuple ys) ((D : Int) + 1) = placeD (badAt ys) from if_pos hl]
        refine r_cons (rs_if (b := false) (t_or2 (b := false) (t_is (t_not (t_val (e_isTup (e_var (i := 3) rfl) T.isi T.tuple))) rfl) (fun _ => t_is (t_cmp od_neI (e_callB ca_lenT (a_cons (e_var (i := 3) rfl) a_nil) T.len (by decide +kernel)) (e_bin od_add (e_var (i := 0) rfl) e_int) (nomark _)) (by simp [hl])) nofun) nofun fun _ => r_nil ?_)
        have ek : kept notW oneD ys = (ys.filter notW).map oneD := rfl
        have el : ∃ l : List Int, (ys.filter notW).map oneD = l.map .int ∧ (l == []) = (ys.filter notW).isEmpty := ⟨(ys.filter notW).map fun _ => 1, by rw [List.map_map] <;> rfl, by cases ys.filter notW <;> rfl⟩
        obtain ⟨l, e1, e2⟩ := el
        have e3 : badR D (.tuple ys) = !(ys.filter notW).isEmpty := by
          rw [hbad]
          unfold badAt
          cases h : ys.findIdx? fun x => !wholeD x with
          | none =>
            rw [List.findIdx?_eq_none_iff] at h
            rw [List.filter_eq_nil_iff.mpr fun y hy => by rw [show notW y = !wholeD y from rfl, h y hy]; simp] <;> rfl
          | some j =>
            obtain ⟨hj, hj2, _⟩ := List.findIdx?_eq_some_iff_getElem.mp h
            have : ys[j] ∈ ys.filter notW := List.mem_filter.mpr ⟨List.getElem_mem hj, hj2⟩
            cases h2 : ys.filter notW with
            | nil => rw [h2] at this; cases this
            | cons => rfl
        refine r_one (rs_if (b := badR D (.tuple ys)) (t_is (t_cmp (od_neD (d1 := lI l) (d2 := lI []) G.un (shaped_lI l) (shaped_lI [])) (e_is (e_lc (own := [("number", 4)]) (f := fName 4) (keep := notW) (val := oneD) G (src_T (e_var (i := 3) rfl)) (by omega) (blkOk_by (N := n__law_fault) (sc := defScope st__law_fault) (by decide +kernel))
          (fun _ _ _ _ _ => pg_name (i := 4) sc__law_fault.nd rfl (Or.inl rfl)) (tg_name (by decide)) (fun d hd => ?_)) (by rw [ek, e1])) (e_lst a_nil) (nomark _)) (by rw [eqv_lI, e2, e3])) (fun h1 => r_one (rs_ret (e_var (i := 2) rfl) (out h1).symm)) fun h1 => r_nil ⟨⟨_, _, _, rfl⟩, fun i y hi hy => ?_⟩)
        · refine ⟨_, rfl, fun s H C cl fp => ?_, fun _ s H C cl fp => e_int⟩
          exact t_or2 (b := !Zj.intD d) (t_not (t_val (e_isInt (e_var (i := 4) rfl) T.isi T.int))) (fun h => t_is (t_val (e_isBool (e_var (i := 4) rfl) T.isi T.bool)) (by
            unfold notW
            rw [whole_is, show Zj.intD d = true from by simpa using h, Bool.true_and, Bool.not_not])) (fun h => by
            unfold notW
            rw [whole_is, show Zj.intD d = false from by simpa using h] <;> rfl)
        · by_cases hin : i = n
          · subst hin
            rw [hxn] at hy
            cases hy
            exact h1
          · exact hb i y (by omega) hy
      · have hbad : badR D x = true := by
          refine Classical.byContradiction fun z => ?_
          obtain ⟨r, rfl, hr⟩ := good_row (D := D) (x := x) (by simpa using z)
          exact hg ⟨_, rfl, by simp [hr]⟩
        refine r_cons (rs_if (b := true) (t_or2 (t_not (t_val (e_isTup (e_var (i := 3) rfl) T.isi T.tuple))) (fun h => ?_) fun _ => rfl) (fun _ => r_one (rs_ret (e_var (i := 2) rfl) (out hbad).symm)) nofun)
        cases x with
        | tuple ys => exact t_is (t_cmp od_neI (e_callB ca_lenT (a_cons (e_var (i := 3) rfl) a_nil) T.len (by decide +kernel)) (e_bin od_add (e_var (i := 0) rfl) e_int) (nomark _)) (by
            have hne : ¬ (ys.length : Int) = (D : Int) + 1 := fun z => hg ⟨ys, rfl, z⟩
            simp [hne])
        | _ => cases h
    · obtain ⟨⟨_, _, _, rfl⟩, hb⟩ := hJ
      rw [numbered_len] at hb
      have hn : xs.findIdx? (badR D) = none := find_miss hb
      obtain ⟨e1, e2⟩ := good_rows hn
      obtain ⟨_, n, hbit, hbd⟩ := hv.bd xs rfl hn
      have hlr : (rowsD xs).length ≤ 50 := by unfold rowsD; rw [List.length_map]; exact hz
      have sh : SeqAt.shaped (.tuple xs) = true := by rw [e1]; exact shaped_rs _
      rw [chO_good hn]
      refine r_one (rs_ret (e_if (b := PyData.eqv (flatPD D (rowsD xs)) (.tuple xs)) (t_cmp (od_eqD G.un (flatPD_shaped _ _) sh) (e_call C (hr.mono (by decide)) (a_cons (e_var (i := 0) rfl) (a_cons (e_var (i := 1) rfl) a_nil)) ⟨D, n, rowsD xs, by rw [← e1], hD4, hlr, fun r hr => ⟨e2 r hr, hbit r hr⟩, hbd, rfl⟩) (e_var (i := 1) rfl) (nomark _))
        (fun h1 => e_is (e_lst (a_cons (e_var (i := 1) rfl) a_nil)) ?_) fun h1 => e_is (e_neg e_int) ?_) rfl)
      · rw [h1, if_pos rfl] <;> rfl
      · rw [h1, if_neg Bool.false_ne_true] <;> rfl
  · have hvf : tupD v = false := by simpa using hvt
    have eo : chO D v = nrO (-1) := by
      cases v with
      | tuple xs => cases hvf
      | _ => rfl
    rw [eo]
    exact r_cons (rs_if (b := true) (t_is (t_not (t_val (e_isTup (e_var (i := 1) rfl) T.isi T.tuple))) (by rw [hvf] <;> rfl)) (fun _ => r_one (rs_ret (e_neg e_int) rfl)) nofun)
end
end K4
/-! zip of a tuple with a list. -/
namespace Zj
open PySem PySem.Spec PyProof.Rows L2
section
variable {prog : Program} {w : World} {A : Around} {E : Value → Shared → Prop} {s : Shared}
/-- what stands in the heap while such a zip is on its way -/
structure Zm (h : Heap) (z u o j k a b : Addr) (p q : Nat) (xs ys : Array Value) (c d : Value) : Prop where
  z : IsZip h z u o .none
  u : IsPair h u (.ref j) (.ref k)
  o : IsPair h o c d
  j : h.IsTupleIter j a p
  k : h.IsListIter k b q
  a : h.IsTuple a xs
  b : h.IsList b ys
variable {z u o j k a b : Addr} {p q : Nat} {xs ys : Array Value} {c d x y : Value}
abbrev Old (z o j k : Addr) (h h' : Heap) : Prop := ∀ r t, r ≠ z → r ≠ o → r ≠ j → r ≠ k → h.get? r = some t → h'.get? r = some t
theorem zm_item {Q : Value → Shared → Prop} (D : ZipApart z u o j k a b) (Z : Zm s.heap z u o j k a b p q xs ys c d) (ex : xs[p]? = some x) (ey : ys[q]? = some y)
    (fin : ∀ h', IsZip h' z u o (rawInt s.heap.objs.size) → IsPair h' o x y → h'.IsTupleIter j a (p + 1) → h'.IsListIter k b (q + 1) → IsPair h' s.heap.objs.size x y → h'.objs.size = s.heap.objs.size + 1 → Old z o j k s.heap h' → Q (.ref s.heap.objs.size) { s with heap := h' }) :
    wpAny (model prog w) A (Builtin.«zip.__next__» ⟨[.ref z], []⟩) (fun f s' => ∃ v, f = .done (.ret v) ∧ Q v s') E s := by
  obtain ⟨gz, gu, go, gj, gk, ga, gb⟩ := Z
  show wpAny _ _ (field (.ref z) 2 >>= fun _ => _) _ _ _
  refine wpAny_bind (wpAny_field gz rfl (x := .bool false) rfl ?_)
  show wpAny _ _ (field (.ref z) 3 >>= fun _ => _) _ _ _
  refine wpAny_bind (wpAny_field gz rfl (x := .ref u) rfl ?_)
  refine wpAny_bind (wpAny_seqItems gu rfl ?_)
  show wpAny _ _ (Builtin.SmallTypes.ownedTupleIsFree (.ref z) >>= fun _ => _) _ _ _
  apply wpAny_bind
  unfold Builtin.SmallTypes.ownedTupleIsFree
  refine wpAny_bind (wpAny_field gz rfl (x := .none) rfl (wpAny_pure ?_))
  simp only [if_true]
  refine wpAny_bind (wpAny_rule (wpAny_bind (wpAny_field gz rfl (x := .ref o) rfl (wpAny_bind (wpAny_setField_rec gz (by simp) fun g1 z1 s1 => ?_)))))
  replace z1 : IsZip g1 z u o .ellipsis := z1
  have e1 := s1.extBut
  refine wpAny_bind ?_
  simp only [List.zipIdx_cons, List.zipIdx_nil, List.forIn_cons, List.forIn_nil]
  -- the one, out of the tuple
  refine wpAny_bind (wpAny_bind (wpAny_onRaise ?_))
  show wpAny _ _ (Builtin.SmallTypes.nextOf (.ref j) >>= fun _ => _) _ _ _
  refine wpAny_bind (RZ.nextOf_tuple_item (gj.extBut e1 D.i1z) (ga.extBut e1 D.l1z) ex fun g2 j2 s2 => wpAny_pure ?_)
  have e2 := s2.extBut
  have o2 : IsPair g2 o c d := e2 _ _ D.TOi1 (e1 _ _ D.TOz go)
  refine wpAny_bind (wpAny_seqItems o2 rfl (wpAny_bind (wpAny_updateSeq_pair o2 fun g3 o3 s3 => wpAny_bind (wpAny_letGo (wpAny_pure ?_)))))
  replace o3 : IsPair g3 o x d := o3
  have e3 := s3.extBut
  -- the other one, out of the list
  refine wpAny_bind (wpAny_bind (wpAny_onRaise ?_))
  show wpAny _ _ (Builtin.SmallTypes.nextOf (.ref k) >>= fun _ => _) _ _ _
  refine wpAny_bind (wpAny_nextOf_list_item (((gk.extBut e1 D.i2z).extBut e2 D.i12.symm).extBut e3 D.TOi2.symm) (((gb.extBut e1 D.l2z).extBut e2 D.l2i1).extBut e3 D.l2TO) ey fun g4 k4 s4 => wpAny_pure ?_)
  have e4 := s4.extBut
  have o4 : IsPair g4 o x d := e4 _ _ D.TOi2 o3
  refine wpAny_bind (wpAny_seqItems o4 rfl (wpAny_bind (wpAny_updateSeq_pair o4 fun g5 o5 s5 => wpAny_bind (wpAny_letGo (wpAny_pure (wpAny_pure ?_))))))
  replace o5 : IsPair g5 o x y := o5
  have e5 := s5.extBut
  refine wpAny_bind (wpAny_seqItems o5 rfl (wpAny_bind (wpAny_newTuple ?_)))
  have n5 : g5.objs.size = s.heap.objs.size := (((s5.1.trans s4.1).trans s3.1).trans s2.1).trans s1.1
  have z5 : IsZip g5 z u o .ellipsis := e5 _ _ D.TOz.symm (e4 _ _ D.i2z.symm (e3 _ _ D.TOz.symm (e2 _ _ D.i1z.symm z1)))
  have old5 : Old z o j k s.heap g5 := fun r t r1 r2 r3 r4 e => e5 _ _ r2 (e4 _ _ r4 (e3 _ _ r2 (e2 _ _ r3 (e1 _ _ r1 e))))
  have j5 : g5.IsTupleIter j a (p + 1) := ((j2.extBut e3 D.TOi1.symm).extBut e4 D.i12).extBut e5 D.TOi1.symm
  have k5 : g5.IsListIter k b (q + 1) := k4.extBut e5 D.TOi2.symm
  have lz : z < g5.objs.size := Heap.lt_size z5
  -- the pair is handed out
  show wpAny _ _ (Builtin.SmallTypes.ownedTupleHandOut (.ref z) (.ref g5.objs.size) >>= fun _ => _) _ _ _
  refine wpAny_bind ?_
  unfold Builtin.SmallTypes.ownedTupleHandOut
  have z6 : IsZip (g5.push { cls := .type "tuple", data := .seq #[x, y] }) z u o .ellipsis := Heap.get?_push_of_some _ z5
  refine wpAny_bind (wpAny_setField_rec z6 (by simp) fun g7 z7 s7 => ?_)
  replace z7 : IsZip g7 z u o (rawInt g5.objs.size) := z7
  refine wpAny_setField_rec z7 (by simp) fun g8 z8 s8 => ?_
  replace z8 : IsZip g8 z u o (rawInt g5.objs.size) := z8
  have up : ∀ r t, r ≠ z → g5.get? r = some t → g8.get? r = some t := fun r t r1 e => s8.extBut _ _ r1 (s7.extBut _ _ r1 (Heap.get?_push_of_some _ e))
  have t8 : IsPair g8 g5.objs.size x y := s8.extBut _ _ (Nat.ne_of_gt lz) (s7.extBut _ _ (Nat.ne_of_gt lz) (Heap.get?_push_size _ rfl))
  have n8 : g8.objs.size = g5.objs.size + 1 := by rw [s8.1, s7.1, Heap.size_push]
  rw [n5] at z8 t8 n8
  refine wpAny_pure ⟨_, rfl, ?_⟩
  show Q (.ref g5.objs.size) _
  rw [n5]
  exact fin g8 z8 (up _ _ D.TOz o5) (j5.at fun t e => up _ t D.i1z e) (k5.at fun t e => up _ t D.i2z e) t8 n8 fun r t r1 r2 r3 r4 e => up r t r1 (old5 r t r1 r2 r3 r4 e)
theorem zm_end {Q : Fin → Shared → Prop} (hh : A.handled = none) (D : ZipApart z u o j k a b) (Z : Zm s.heap z u o j k a b p q xs ys c d) (en : xs[p]? = none ∨ ys[q]? = none)
    (fin : ∀ h' e, Old z o j k s.heap h' → (∃ t, h'.get? e = some t ∧ t.cls = .type "StopIteration") → E (.ref e) { s with heap := h' }) :
    wpAny (model prog w) A (Builtin.«zip.__next__» ⟨[.ref z], []⟩) Q E s := by
  obtain ⟨gz, gu, go, gj, gk, ga, gb⟩ := Z
  show wpAny _ _ (field (.ref z) 2 >>= fun _ => _) _ _ _
  refine wpAny_bind (wpAny_field gz rfl (x := .bool false) rfl ?_)
  show wpAny _ _ (field (.ref z) 3 >>= fun _ => _) _ _ _
  refine wpAny_bind (wpAny_field gz rfl (x := .ref u) rfl ?_)
  refine wpAny_bind (wpAny_seqItems gu rfl ?_)
  show wpAny _ _ (Builtin.SmallTypes.ownedTupleIsFree (.ref z) >>= fun _ => _) _ _ _
  apply wpAny_bind
  unfold Builtin.SmallTypes.ownedTupleIsFree
  refine wpAny_bind (wpAny_field gz rfl (x := .none) rfl (wpAny_pure ?_))
  simp only [if_true]
  refine wpAny_bind (wpAny_rule (wpAny_bind (wpAny_field gz rfl (x := .ref o) rfl (wpAny_bind (wpAny_setField_rec gz (by simp) fun g1 z1 s1 => ?_)))))
  replace z1 : IsZip g1 z u o .ellipsis := z1
  have e1 := s1.extBut
  refine wpAny_bind ?_
  simp only [List.zipIdx_cons, List.zipIdx_nil, List.forIn_cons, List.forIn_nil]
  refine wpAny_bind (wpAny_bind (wpAny_onRaise ?_))
  show wpAny _ _ (Builtin.SmallTypes.nextOf (.ref j) >>= fun _ => _) _ _ _
  cases ex : xs[p]? with
  | none =>
    refine wpAny_bind (RZ.nextOf_tuple_end hh (gj.extBut e1 D.i1z) (ga.extBut e1 D.l1z) ex fun g2 e e2 he => ?_)
    obtain ⟨t, ht, hc⟩ := he
    have z2 : IsZip g2 z u o .ellipsis := e2 _ _ D.i1z.symm z1
    have ne : e ≠ z := fun x => by subst x; rw [z2] at ht; cases ht; simp at hc
    exact wpAny_setField_rec z2 (by simp) fun g3 _ s3 => fin g3 e (fun r t r1 _ r3 _ x => s3.extBut _ _ r1 (e2 _ _ r3 (e1 _ _ r1 x))) ⟨t, s3.extBut _ _ ne ht, hc⟩
  | some x =>
    have ey : ys[q]? = none := by
      rcases en with f | f
      · rw [ex] at f
        cases f
      · exact f
    refine wpAny_bind (RZ.nextOf_tuple_item (gj.extBut e1 D.i1z) (ga.extBut e1 D.l1z) ex fun g2 j2 s2 => wpAny_pure ?_)
    have e2 := s2.extBut
    have o2 : IsPair g2 o c d := e2 _ _ D.TOi1 (e1 _ _ D.TOz go)
    refine wpAny_bind (wpAny_seqItems o2 rfl (wpAny_bind (wpAny_updateSeq_pair o2 fun g3 o3 s3 => wpAny_bind (wpAny_letGo (wpAny_pure ?_)))))
    have e3 := s3.extBut
    refine wpAny_bind (wpAny_bind (wpAny_onRaise ?_))
    show wpAny _ _ (Builtin.SmallTypes.nextOf (.ref k) >>= fun _ => _) _ _ _
    refine wpAny_bind (wpAny_nextOf_list_end hh (((gk.extBut e1 D.i2z).extBut e2 D.i12.symm).extBut e3 D.TOi2.symm) (((gb.extBut e1 D.l2z).extBut e2 D.l2i1).extBut e3 D.l2TO) ey fun g4 e e4 he => ?_)
    obtain ⟨t, ht, hc⟩ := he
    have z4 : IsZip g4 z u o .ellipsis := e4 _ _ D.i2z.symm (e3 _ _ D.TOz.symm (e2 _ _ D.i1z.symm z1))
    have ne : e ≠ z := fun x => by subst x; rw [z4] at ht; cases ht; simp at hc
    exact wpAny_setField_rec z4 (by simp) fun g5 _ s5 => fin g5 e (fun r t r1 r2 r3 r4 x => s5.extBut _ _ r1 (e4 _ _ r4 (e3 _ _ r2 (e2 _ _ r3 (e1 _ _ r1 x))))) ⟨t, s5.extBut _ _ ne ht, hc⟩
theorem zm_nextI {Q : Option Value → Shared → Prop} (D : ZipApart z u o j k a b) (Z : Zm s.heap z u o j k a b p q xs ys c d) (ex : xs[p]? = some x) (ey : ys[q]? = some y)
    (fin : ∀ h', IsZip h' z u o (rawInt s.heap.objs.size) → IsPair h' o x y → h'.IsTupleIter j a (p + 1) → h'.IsListIter k b (q + 1) → IsPair h' s.heap.objs.size x y → h'.objs.size = s.heap.objs.size + 1 → Old z o j k s.heap h' → Q (some (.ref s.heap.objs.size)) { s with heap := h' }) :
    wpAny (model prog w) A (pyNext (.ref z)) Q E s := by
  have ty : s.TypeIs (.ref z) "zip" := ⟨_, Z.z, rfl⟩
  unfold pyNext
  exact wpAny_bind (wpAny_attempt (wpAny_callSpecial?_slot (name := Str.ofString "__next__") ty F.slot_zip_next (wpAny_call_entry F.slot_zip_next ty F.entry_zip_next (zm_item D Z ex ey fun h' b1 b2 b3 b4 b5 b6 b7 => wpAny_pure (fin h' b1 b2 b3 b4 b5 b6 b7)) (F.args_zip_next_1 _))))
theorem zm_nextE {Q : Option Value → Shared → Prop} (hh : A.handled = none) (D : ZipApart z u o j k a b) (Z : Zm s.heap z u o j k a b p q xs ys c d) (en : xs[p]? = none ∨ ys[q]? = none)
    (fin : ∀ h', Old z o j k s.heap h' → Q none { s with heap := h' }) : wpAny (model prog w) A (pyNext (.ref z)) Q E s := by
  have ty : s.TypeIs (.ref z) "zip" := ⟨_, Z.z, rfl⟩
  unfold pyNext
  refine wpAny_bind (wpAny_attempt (wpAny_callSpecial?_slot (name := Str.ofString "__next__") ty F.slot_zip_next (wpAny_call_entry F.slot_zip_next ty F.entry_zip_next (zm_end hh D Z en fun h' e hk he => ?_) (F.args_zip_next_1 _))))
  obtain ⟨t, ht, hc⟩ := he
  exact wpAny_bind (wpAny_isInstance (T := "StopIteration") (b := true) ⟨t, ht, hc⟩ isSubtype_stop (wpAny_pure (fin _ hk)))
end
abbrev zmA (h : Heap) (a : Addr) : Heap := h.push { cls := .type "tuple_iterator", data := .fields #[.ref a, .int 0 0] }
abbrev zmB (h : Heap) (a b : Addr) : Heap := (zmA h a).push { cls := .type "list_iterator", data := .fields #[.ref b, .int 0 0] }
abbrev zmC (h : Heap) (a b : Addr) : Heap := (zmB h a b).push { cls := .type "tuple", data := .seq #[.ref h.objs.size, .ref (zmA h a).objs.size] }
abbrev zmD (h : Heap) (a b : Addr) : Heap := (zmC h a b).push { cls := .type "tuple", data := .seq #[.none, .none] }
abbrev zmE (h : Heap) (a b : Addr) : Heap := (zmD h a b).push { cls := .type "zip", data := .fields #[.none, .bool false, .bool false, .ref (zmB h a b).objs.size, .ref (zmC h a b).objs.size] }
theorem zm_new (a b : Addr) (xs ys : Array Value) : Meets (Builtin.«zip.__new__» ⟨[.type "zip", .ref a, .ref b], []⟩) (fun _ R s => s.heap.IsTuple a xs ∧ s.heap.IsList b ys ∧ R (.ok (.ret (.ref (zmD s.heap a b).objs.size))) { s with heap := zmE s.heap a b }) :=
  .of_wp fun prog w A R s h => by
    obtain ⟨hp, g, d, tk, os⟩ := s
    obtain ⟨ha, hb, h⟩ := h
    have hsub := sub_zip
    have qa : Heap.IsTuple (Shared.heap ⟨hp, g, d, tk, os⟩) a xs := ha
    have qb : Heap.IsList (Shared.heap ⟨zmA hp a, g, d, tk, os⟩) b ys := Heap.IsList.push hb _
    wp_walk using wpAny_pyIter_tuple qa, wpAny_pyIter_list qb
    exact ⟨_, rfl, h⟩
section
variable {prog : Program} {w : World} {A : Around} {E : Value → Shared → Prop} {s : Shared}
theorem zm_call {a b : Addr} {xs ys : Array Value} {Q : Value → Shared → Prop} (ha : s.heap.IsTuple a xs) (hb : s.heap.IsList b ys)
    (fin : ∀ h' n, n = s.heap.objs.size → Zm h' (n + 4) (n + 2) (n + 3) n (n + 1) a b 0 0 xs ys .none .none → (∀ r t, s.heap.get? r = some t → h'.get? r = some t) → Q (.ref (n + 4)) { s with heap := h' }) :
    wpAny (model prog w) A (call (.type "zip") [.ref a, .ref b]) Q E s := by
  refine callType_new F.called_zip (by decide) (F.typeCall_zip_2 _ _) (F.newCall_zip_2 _ _) (fun obj => F.args_object_init_3 obj _ _) F.entry_zip_new (zm_new a b xs ys) ⟨ha, hb, ?_⟩
  obtain ⟨n, hn⟩ : ∃ n, n = s.heap.objs.size := ⟨_, rfl⟩
  have sA : (zmA s.heap a).objs.size = n + 1 := by rw [hn]; exact Heap.size_push ..
  have sB : (zmB s.heap a b).objs.size = n + 2 := by rw [Heap.size_push, sA]
  have sC : (zmC s.heap a b).objs.size = n + 3 := by rw [Heap.size_push, sB]
  have sD : (zmD s.heap a b).objs.size = n + 4 := by rw [Heap.size_push, sC]
  have up : ∀ {h : Heap} {r : Addr} {t t' : Obj}, h.get? r = some t → (h.push t').get? r = some t := fun e => Heap.get?_push_of_some _ e
  have qE : (zmE s.heap a b).get? (zmD s.heap a b).objs.size = some _ := Heap.get?_push_size _ rfl
  have qD : (zmE s.heap a b).get? (zmC s.heap a b).objs.size = some _ := up (Heap.get?_push_size _ rfl)
  have qC : (zmE s.heap a b).get? (zmB s.heap a b).objs.size = some _ := up (up (Heap.get?_push_size _ rfl))
  have qB : (zmE s.heap a b).get? (zmA s.heap a).objs.size = some _ := up (up (up (Heap.get?_push_size _ rfl)))
  have qA : (zmE s.heap a b).get? s.heap.objs.size = some _ := up (up (up (up (Heap.get?_push_size _ rfl))))
  have old : ∀ r t, s.heap.get? r = some t → (zmE s.heap a b).get? r = some t := fun r t e => up (up (up (up (up e))))
  rw [sB, sC, sD] at qE
  rw [← hn, sA, sB] at qC
  rw [sC] at qD
  rw [sA] at qB
  rw [← hn] at qA
  have done := fin (zmE s.heap a b) n hn ⟨qE, qC, qD, ⟨_, qA, rfl, rfl⟩, ⟨_, qB, rfl, rfl⟩, ha.at fun t e => old _ t e, hb.at fun t e => old _ t e⟩ old
  show _ ∧ _
  rw [sD]
  exact ⟨⟨_, qE, rfl⟩, done⟩
end
end Zj
/-! zip of a tuple with a list, turn by turn. -/
namespace Zj
open PySem PySem.Spec PyProof.Rows L2
variable [Nm]
def ItzM (K : PySem.W.Frag) (a b : Addr) : It where
  go i H := ∃ (l m : List V) (x y : V), SqT K H a l ∧ SqL K H b m ∧ l[i]? = some x ∧ m[i]? = some y
  yld i H v H' := ∃ r x y, v = .ref r ∧ H r = none ∧ H' = upd H r (.tup [x, y]) ∧ (∀ l, SqT K H a l → l[i]? = some x) ∧ ∀ m, SqL K H b m → m[i]? = some y
  stop i H := ∃ l m : List V, SqT K H a l ∧ SqL K H b m ∧ (l.length ≤ i ∨ m.length ≤ i)
/-- where such a zip stands: what it keeps, at turn i -/
def ZmS (z u o j k a b : Addr) (i : Nat) (h : Heap) : Prop := IsZip h z u o .none ∧ IsPair h u (.ref j) (.ref k) ∧ (∃ c d, IsPair h o c d) ∧ h.IsTupleIter j a i ∧ h.IsListIter k b i
theorem five {z u o j k c : Addr} (h : c ∈ [z, u, o, j, k]) : c = z ∨ c = u ∨ c = o ∨ c = j ∨ c = k := by simpa using h
theorem turn_zm {P : Program} {w : World} {K : PySem.W.Frag} {elts : List Expr} {n : Nat} {tpos : Pos} {z u o j k a b : Addr} (D : ZipApart z u o j k a b) : Turn P w K (.Tuple elts n tpos) (ItzM K a b) [z, u, o, j, k] z (ZmS z u o j k a b) where
  mem := List.mem_cons_self
  obj := fun i h st c hc => by
    obtain ⟨gz, gu, ⟨_, _, go⟩, ⟨t1, f1, _, d1⟩, ⟨t2, f2, _, d2⟩⟩ := st
    rcases five hc with rfl | rfl | rfl | rfl | rfl
    · exact ⟨_, gz, fun v q => nomatch q⟩
    · exact ⟨_, gu, fun v q => nomatch q⟩
    · exact ⟨_, go, fun v q => nomatch q⟩
    · exact ⟨t1, f1, fun v q => by rw [d1] at q; cases q⟩
    · exact ⟨t2, f2, fun v q => by rw [d2] at q; cases q⟩
  keep := fun i h h' st up => by
    obtain ⟨gz, gu, ⟨_, _, go⟩, gj, gk⟩ := st
    exact ⟨up z (by simp) _ gz, up u (by simp) _ gu, ⟨_, _, up o (by simp) _ go⟩, gj.at fun t q => up j (by simp) t q, gk.at fun t q => up k (by simp) t q⟩
  item := by
    intro X eP ew eK hc i pins s σ H E I hf st hg
    subst eP ew eK
    obtain ⟨gz, gu, ⟨_, _, go⟩, gj, gk⟩ := st
    obtain ⟨l, m, x, y, ql, qm, hx, hy⟩ := hg
    obtain ⟨ts, rl, pa, _⟩ := I.tuple ql
    obtain ⟨us, rm, pb, _⟩ := I.list qm
    obtain ⟨v1, h1, r1⟩ := rl.get hx
    obtain ⟨v2, h2, r2⟩ := rm.get hy
    have lz : z < s.heap.objs.size := Heap.lt_size gz
    refine zm_nextI D ⟨gz, gu, go, gj, gk, pa, pb.isList⟩ (x := v1) (y := v2) (by simpa using h1) (by simpa using h2) fun h' z1 o1 j1 k1 t1 _ old => ?_
    refine ⟨_, rfl, wpAny_letOwnedTupleGo_zip (s := { s with heap := h' }) z1 fun h'' z2 sb => ?_⟩
    have t2 : h''.get? s.heap.objs.size = some { cls := .type "tuple", data := .seq #[v1, v2] } := (sb.2 _ (Nat.ne_of_gt lz)).trans t1
    have fresh : ObjOk X.prog X.w (upd H s.heap.objs.size (.tup [x, y])) h'' s.heap.objs.size (.tup [x, y]) := ⟨by show 2 ≤ sizeLine; decide, [v1, v2], .cons r1 (.cons r2 .nil), ⟨_, t2, rfl, _, rfl⟩⟩
    have I' : Inv X pins σ (upd H s.heap.objs.size (.tup [x, y])) { s with heap := h'' } := I.turnedNew (t' := s.toks) (ch := [z, u, o, j, k])
      (fun c t no q => (sb.2 c (fun e => no (by simp [e]))).trans (old c t (fun e => no (by simp [e])) (fun e => no (by simp [e])) (fun e => no (by simp [e])) (fun e => no (by simp [e])) q)) hf (Nat.le_refl _) fresh
    refine ⟨.ref s.heap.objs.size, _, I', rfl, ⟨_, x, y, rfl, I.hok.fresh (Nat.le_refl _), rfl, fun l' hl => by rw [I.tuple_inj hl ql]; exact hx, fun m' hm => by rw [I.list_inj hm qm]; exact hy⟩, ⟨z2, ?_, ⟨v1, v2, ?_⟩, ?_, ?_⟩, fun c hcm => ?_⟩
    · exact (sb.2 _ D.TIz).trans (old _ _ D.TIz D.TITO D.TIi1 D.TIi2 gu)
    · exact (sb.2 _ D.TOz).trans o1
    · exact j1.at fun t q => (sb.2 _ D.i1z).trans q
    · exact k1.at fun t q => (sb.2 _ D.i2z).trans q
    · have lt : c < s.heap.objs.size := by
        obtain ⟨_, f1, _⟩ := gj
        obtain ⟨_, f2, _⟩ := gk
        rcases five hcm with rfl | rfl | rfl | rfl | rfl
        · exact lz
        · exact Heap.lt_size gu
        · exact Heap.lt_size go
        · exact Heap.lt_size f1
        · exact Heap.lt_size f2
      rw [upd_ne (Nat.ne_of_lt lt)]
      exact (hf c hcm).1
  done := by
    intro X eP ew eK hc i pins s σ H E I hf st hg
    subst eP ew eK
    obtain ⟨gz, gu, ⟨_, _, go⟩, gj, gk⟩ := st
    obtain ⟨l, m, ql, qm, en⟩ := hg
    obtain ⟨ts, rl, pa, _⟩ := I.tuple ql
    obtain ⟨us, rm, pb, _⟩ := I.list qm
    have n1 := rl.length
    have n2 := rm.length
    have en' : ts.toArray[i]? = none ∨ us.toArray[i]? = none := en.imp (fun q => by simp; omega) fun q => by simp; omega
    exact zm_nextE (I.ok.hd hc) D ⟨gz, gu, go, gj, gk, pa, pb.isList⟩ en' fun h' old => ⟨rfl, I.turnedL (t' := s.toks) (ch := [z, u, o, j, k])
      (fun c t no q => old c t (fun e => no (by simp [e])) (fun e => no (by simp [e])) (fun e => no (by simp [e])) (fun e => no (by simp [e])) q) hf⟩
  self := fun A i s Q E st h => wpAny_pyIter_zip st.1 h
def iZm (K : PySem.W.Frag) (ta : TA) : TI := fun σ H R => ta σ H fun vs H1 => ∃ a b l m, vs = [.ref a, .ref b] ∧ SqT K H1 a l ∧ SqL K H1 b m ∧ R (ItzM K a b) H1
theorem pi_zm {X : Cx} {e f : Expr} {ta : TA} {p pos tpos : Pos} {elts : List Expr} {n : Nat} (hg : Gl X "zip") (hm : X.mg "zip" = none) (ha : PA X [e, f] ta) (hs : starEach [e, f] X.env = (false, eval e X.env) :: starEach [f] X.env) (hpl : (backTo pos (starEach [f] X.env)).any (·.1) = false) :
    PI X (.Tuple elts n tpos) (.Call (.Name "zip" p) [e, f] [] pos) (iZm X.K ta) := by
  refine ⟨fun pins s σ H R I h => Call_ (ld_blt I hg hm PyProof.Rows.boot_zip (PyProof.Rows.callWith_type1 (thn (ha.run pos pins s σ H _ I h) fun us s1 got => ?_) hs hpl))⟩
  obtain ⟨vs, H1, I1, r1, a, b, l, m, rfl, ql, qm, q⟩ := got
  cases r1 with
  | cons r r1 =>
    cases r1 with
    | cons r' r1 =>
      cases r1
      cases r
      cases r'
      obtain ⟨ts, rl, pa, _⟩ := I1.tuple ql
      obtain ⟨us, rm, pb, _⟩ := I1.list qm
      obtain ⟨t, ht, _⟩ := id pa
      refine zm_call pa pb.isList fun h' n hn Z up => wpAny_pyIter_zip Z.z ?_
      have al : a < n := hn ▸ Heap.lt_size ht
      have bl : b < n := hn ▸ pb.lt
      refine ⟨n + 4, [n + 4, n + 2, n + 3, n, n + 1], _, _, H1, rfl, I1.kept (t' := s1.toks) up, turn_zm (PySem.W.ktu_apart n a b al bl), ⟨Z.z, Z.u, ⟨_, _, Z.o⟩, Z.j, Z.k⟩, fun c hc => ?_, q⟩
      have hle : s1.heap.objs.size ≤ c := by
        rw [← hn]
        rcases five hc with rfl | rfl | rfl | rfl | rfl <;> first | exact Nat.le_refl _ | exact Nat.le_add_right _ _
      exact I1.fpOk hle (I1.hok.fresh hle)
theorem walk_zm {K : PySem.W.Frag} {a b : Addr} {xs ys : List V} {n : Nat} (hn : n = min xs.length ys.length) : Walk (ItzM K a b) n (fun H => SqT K H a xs ∧ SqL K H b ys) (YPair (fun i => xs[i]?) (fun i => ys[i]?)) := by
  subst hn
  refine ⟨fun i H hi q => ?_, fun H q => ⟨xs, ys, q.1, q.2, by omega⟩, fun i H v H' _ q y => ?_⟩
  · exact ⟨xs, ys, xs[i]'(by omega), ys[i]'(by omega), q.1, q.2, by simp, by simp⟩
  · obtain ⟨r, x, y, h1, h2, h3, h4, h5⟩ := y
    exact ⟨r, x, y, h1, h2, h3, h4 xs q.1, h5 ys q.2⟩
section
variable {X : Cx} {a : Addr} {ρ : Rho} {e f : Expr} {ds es : List PyData} {p pos tpos : Pos} {elts : List Expr} {n : Nat}
theorem src_ZM (h : EvA X a [e, f] ρ [.tuple ds, .list es]) (hm : X.mg "zip" = none) (hg : Gl X "zip" := by rfl) (hs : starEach [e, f] X.env = (false, eval e X.env) :: starEach [f] X.env := by exact star_of rfl) (hpl : (backTo pos (starEach [f] X.env)).any (·.1) = false := by exact star_no rfl) :
    Src X a (.Tuple elts n tpos) (.Call (.Name "zip" p) [e, f] [] pos) ρ (List.zipWith (fun x y => PyData.tuple [x, y]) ds es) := ⟨_, pi_zm hg hm ja hs hpl, fun T σ H S R k => h T σ H S _ fun vs H1 s1 p1 => by
  obtain ⟨v, u, rfl, q1, q2⟩ := dps2 p1
  obtain ⟨pa, xs, rfl, g1, g2⟩ := dp_tup q1
  obtain ⟨pb, ys, rfl, g3, g4⟩ := dp_lst q2
  have l1 := dps_len g2
  have l2 := dps_len g4
  refine ⟨pa, pb, xs, ys, rfl, same_t off_in _ _ g1, same_l off_in _ _ g3, k _ H1 _ _ s1 (walk_zm (xs := xs) (ys := ys) (by rw [List.length_zipWith, l1, l2])) (fun T' H' s => ⟨same_t off_in _ _ (same_t s.2 _ _ g1), same_l off_in _ _ (same_l s.2 _ _ g3)⟩) fun T' i H' x H'' hin s y => ?_⟩
  obtain ⟨r, x1, x2, rfl, hr, rfl, e1, e2⟩ := y
  have e1 : xs[i]? = some x1 := e1
  have e2 : ys[i]? = some x2 := e2
  have i1 := (List.getElem?_eq_some_iff.mp e1).1
  have i2 := (List.getElem?_eq_some_iff.mp e2).1
  have d1 : ds[i]? = some (ds[i]'(by omega)) := by simp
  have d2 : es[i]? = some (es[i]'(by omega)) := by simp
  obtain ⟨_, f1, w1⟩ := dps_get g2 d1
  obtain ⟨_, f2, w2⟩ := dps_get g4 d2
  rw [e1] at f1
  cases f1
  rw [e2] at f2
  cases f2
  exact ⟨same_new hr, _, by rw [List.getElem?_zipWith, d1, d2], dpo_pair s.1 hr (dp_same s.2 w1) (dp_same s.2 w2)⟩⟩
end
end Zj
/-! A tuple so many times; a list made, then one thing of it set. -/
namespace Zj
open PySem PySem.Spec PyProof.Rows L2
theorem tuple_mul1 (l : Addr) (items : Array Value) (n : Nat) (dd : Option Addr) (sl : Array (Option Value)) (x : Int) (u : Tok) (c0 : (decide (x < -(2 ^ 63)) || decide (x ≥ 2 ^ 63)) = false) (c1 : (items.isEmpty || x == 1) = true) :
    Meets (Builtin.«tuple.__mul__» ⟨[.ref l, .int x u], []⟩) (fun _ R s => s.heap.get? l = some { cls := .type "tuple", dict := dd, data := .seq items n, slots := sl } ∧
      R (.ok (.ret (Value.ref l))) s) :=
  .of_wp fun prog w A R s h => by
    obtain ⟨hp, g, d, tk, os⟩ := s
    obtain ⟨hl, h⟩ := h
    have f1 := AutoSeq1.idx_int
    wp_walk using wpAny_loadPart' hl
    refine wpAny_ite_false (decide_eq_false (by rw [c0]; exact Bool.false_ne_true)) ?_
    wp_walk using wpAny_loadPart' hl
    exact ⟨_, rfl, h⟩
theorem op_repT1 {X : Cx} : OpR X (binaryOp .Mult) (fun x y H Q => ∃ l xs, x = .ref l ∧ y = .int 1 ∧ SqT X.K H l xs ∧ Q (.ref l) H) := by
  intro pins s σ H x y v u Q I rx ry h
  obtain ⟨l, xs, rfl, rfl, hT, q⟩ := h
  cases rx
  obtain ⟨t, rfl⟩ := ry
  obtain ⟨its, r, ⟨⟨cls, dd, data, sl⟩, ho, hc, n, hd⟩, hs⟩ := I.tuple hT
  simp only at hc hd
  subst hc hd
  have c0 : (decide ((1 : Int) < -(2 ^ 63)) || decide ((1 : Int) ≥ 2 ^ 63)) = false := by decide
  have c1 : (its.toArray.isEmpty || (1 : Int) == 1) = true := Bool.or_true _
  refine wpAny_binaryOp_repeat_ref (T := "tuple") (U := "int") (by decide) ⟨_, ho, rfl⟩ (fun s' => typeIs_int s' 1 t) noFill_tuple_mul F.fills_int_mul F.slot_int_rmul repeat_tuple F.slot_int_index.lookup
    (call_meets F.slot_int_rmul (typeIs_int s 1 t) F.entry_int_rmul (F.args_int_rmul_2 _ _) (int_rmul_tuple 1 t l its.toArray n dd sl)
      ⟨ho, rfl, ⟨_, ho, rfl⟩, call_meets F.slot_tuple_mul ⟨_, ho, rfl⟩ F.entry_tuple_mul (F.args_tuple_mul_2 _ _) (tuple_mul1 l its.toArray n dd sl 1 t c0 c1) ⟨ho, ?_⟩⟩)
  exact ⟨.ref l, H, I, rfl, q⟩
variable [Nm]
theorem od_repT {X : Cx} {ds : List PyData} {k : Int} (hne : ds ≠ []) (h0 : 1 ≤ k) (hk : k ≤ 1000) (hl : ds.length ≤ 1000) : OpD X (binaryOp .Mult) (.tuple ds) (.int k) (.tuple (List.replicate k.toNat ds).flatten) := by
  by_cases h1 : k = 1
  · subst h1
    refine ⟨_, op_repT1, fun T v1 v2 H dm p1 p2 Q q => ?_⟩
    obtain rfl := dp_int p2
    have p0 := p1
    obtain ⟨p, xs, rfl, g1, g2⟩ := dpo_tup p1
    exact ⟨p, xs, rfl, rfl, g1, q _ H (Sm.refl H) (by
      have e : (List.replicate (Int.toNat 1) ds).flatten = ds := by
        show ([ds] : List (List PyData)).flatten = ds
        simp
      rw [e]
      exact p0)⟩
  · refine ⟨_, op_repT, fun T v1 v2 H dm p1 p2 Q q => ?_⟩
    obtain rfl := dp_int p2
    obtain ⟨p, xs, rfl, g1, g2⟩ := dpo_tup p1
    have hx := dps_len g2
    exact ⟨p, k, xs, rfl, rfl, g1, (fun z => hne (List.eq_nil_of_length_eq_zero (by rw [← hx, z] <;> rfl))), by omega, hk, by omega, fun r hr => q _ _ (same_new hr) (dpo_newT dm hr (dps_rep g2 _))⟩
section
variable {X : Cx} {a : Addr} {ρ : Rho} {n m k c : Nat} {N : Nat → Rho → Prop} {R : Nat → PyData → Prop} {tg it elt cnd : Expr} {pos : Pos} {g : TG} {f : PyData → Rho → Option Rho} {scope : Scope} {own : List (Str × Nat)} {T : Addr → Prop} {p : Addr} {H : Hp} {σ : L2.St} {i : Nat} {ds : List PyData} {acc : List V}
/-- a list of its own is data from here on -/
theorem sd_free (nT : ¬ T p) (sd : SD X.K a (And1 T p) H σ (ρ.set i (some (.adr p)))) (lt : i < ρ.length) (h1 : H p = some (.lst acc)) (h2 : DpAll X.K (off (And1 T p) H) acc ds) : SD X.K a T H σ (ρ.set i (some (.dat (.list ds)))) := by
  refine ⟨by rw [sd.len]; simp, ⟨fun b hb => sd.dm.dn b (.inl hb), sd.dm.tb⟩, fun j y e => ?_⟩
  by_cases hj : i = j
  · subst hj
    rw [List.getElem?_set_self lt] at e
    cases e
    obtain ⟨v, g1, g2⟩ := sd.sl i (.adr p) (by rw [List.getElem?_set_self lt])
    have g2 : v = .ref p := g2
    subst g2
    exact ⟨_, g1, .lst (.of (by rw [off_no nT]; exact h1)) (dps_same off_less h2)⟩
  · rw [List.getElem?_set_ne hj] at e
    obtain ⟨v, g1, g2⟩ := sd.sl j y (by rw [List.getElem?_set_ne hj]; exact e)
    refine ⟨v, g1, ?_⟩
    cases y with
    | dat d => exact dp_same off_less g2
    | hnd => exact g2
    | adr _ => exact g2
    | val R => exact VR.same (R := R) off_less g2
/-- y = [.. two things, drawn ..]; y[1] = y[0] if .. else y[1] -/
theorem q_two {y : Str} {py spos spos2 pos2 p1 p2 p3 p4 p5 p6 p7 p8 p9 : Pos} {j1 j2 j3 : Nat} {i0 i1 : PyData} {V : PyData → PyData → Prop} {sts : List Stmt} (G : Good X) (hs : Src X a tg it ρ [i0, i1]) (hn : m + c * 2 ≤ n) (ok : BlkOk X.N X.env.scope scope own)
    (hg : ∀ (s : Shared) (H : Hp) (C : Addr) (cl : List (Str × Addr)) (fp : List Addr), PG (X.blk s H scope (compEnvC scope cl C X.env) fp) tg g) (ht : TgSem X.K a g (own.map (·.2)) f)
    (hb : ∀ d, d ∈ [i0, i1] → ∃ ρ2, f d (wipeR ρ (own.map (·.2))) = some ρ2 ∧ ∀ m, EvMb X scope a elt ρ2 (m + c) m (V d)) (lt : i < ρ.length) (hc : ∀ D, EvMT X a cnd (ρ.set i (some (.adr D))) m k (fun _ => True))
    (hP : ∀ d0 d1 d2, V i0 d0 → V i1 d1 → (d2 = d0 ∨ d2 = d1) → RunM X a sts (ρ.set i (some (.dat (.list [d0, d2])))) k N R)
    (hy : X.N[i]? = some y := by rfl) (hyl : X.env.scope.names.lookup y = some .local := by rfl) (hv : Vis X.env.scope y := by first | exact Or.inl rfl | exact Or.inr (Or.inl rfl) | exact Or.inr (Or.inr rfl)) (hd : (y == ("__debug__" : Str)) = false := by decide) (hcd : (y == ("__classdict__" : Str)) = false := by decide)
    (hsw : swapsWith (.ListComp elt [⟨tg, it, [], 0⟩] scope pos) (some (.Name y py)) spos.line X.env = pure true := by exact sw_true rfl rfl rfl (by decide +kernel))
    (hs2 : swapsWithSole [.Subscript (.Name y p1) (.Constant (.int 1) j1 p2) p3] (.IfExp cnd (.Subscript (.Name y p4) (.Constant (.int 0) j2 p5) p6) (.Subscript (.Name y p7) (.Constant (.int 1) j3 p8) p9) pos2) spos2.line X.env = pure false := by rfl)
    (hf : ∀ x, foldedSetIterable it X.env x = pure x := by intro _; rfl) :
    RunM X a (.Assign [.Name y py] (.ListComp elt [⟨tg, it, [], 0⟩] scope pos) spos :: .Assign [.Subscript (.Name y p1) (.Constant (.int 1) j1 p2) p3] (.IfExp cnd (.Subscript (.Name y p4) (.Constant (.int 0) j2 p5) p6) (.Subscript (.Name y p7) (.Constant (.int 1) j3 p8) p9) pos2) spos2 :: sts) ρ n N R := fun T σ H D S ms kn kr => by
  obtain ⟨wi, hw, hq⟩ := hs
  refine toSs (pss_cons js jss) (toS (ps_setLc (own := own) (te := JEb X scope elt) (tt := tYes) G.calm G.nd hy hyl hsw hw ok hg (fun s H0 C cl fp => pts_nil) (fun s H0 C cl fp => ⟨fun pins s' σ' H' Q' I h => h s H0 C cl fp pins s' I⟩) hf) ?_)
  refine lcM_own (f := f) (V := V) (keep := yes) (ce := c) S ms hn (by simp) (hq _ σ H (S.hide ms)) ht (fun d hd => ?_) fun Dd acc ds H2 n0 nD Da s2 S2 ms2 h5 h6 h7 => ?_
  · obtain ⟨ρ2, e, k2⟩ := hb d hd
    exact ⟨ρ2, e, fun m => ⟨fun T σ H S ms Q q => q H Kp.refl ms, fun hk T σ H S ms Q q s H0 C cl fp => k2 m s H0 C cl fp T σ H S ms Q q⟩⟩
  rw [List.filter_eq_self.mpr (show ∀ z ∈ [i0, i1], yes z = true from fun _ _ => rfl)] at h7
  obtain ⟨d0, d1, rfl, hV0, hV1⟩ : ∃ d0 d1, ds = [d0, d1] ∧ V i0 d0 ∧ V i1 d1 := by
    cases h7 with
    | cons q0 r =>
      cases r with
      | cons q1 r =>
        cases r
        exact ⟨_, _, rfl, q0, q1⟩
  obtain ⟨v0, v1, rfl⟩ : ∃ v0 v1, acc = [v0, v1] := by
    match acc, dps_len h6 with
    | [v0, v1], _ => exact ⟨v0, v1, rfl⟩
  have S3 : SD X.K a (And1 T Dd) H2 (σ.set i (some (.ref Dd))) (ρ.set i (some (.adr Dd))) := S2.put (x := .adr Dd) rfl
  refine toSs (pss_cons js jss) (toS (ps_asg je (pg_sub (pe_var hy hv hd hcd) pe_int set_list) hs2) ?_)
  refine toE (pe_ifExp jt je je) (hc Dd (And1 T Dd) _ H2 S3 ms2 _ fun b H3 s3 ms3 _ => ?_)
  have a3 : H3 Dd = some (.lst [v0, v1]) := s3.ka.1 _ _ Da h5 (by intro ps z; cases z)
  have S4 := S3.kpo s3 ms2
  have p3 := dps_kpo h6 s3 ms2
  obtain ⟨v, g1, g2⟩ := S4.sl i (.adr Dd) (by rw [List.getElem?_set_self lt])
  have g2 : v = .ref Dd := g2
  subst g2
  have fin : ∀ v2 d2, (d2 = d0 ∨ d2 = d1) → Dp X.K (off (And1 T Dd) H3) v2 d2 → JSs X sts D (σ.set i (some (.ref Dd))) (upd H3 Dd (.lst [v0, v2])) := fun v2 d2 hd2 q2 => by
    have s5 : Kp a H (upd H3 Dd (.lst [v0, v2])) := (s2.trans s3).putL n0 a3 Da
    have eo : off (And1 T Dd) (upd H3 Dd (.lst [v0, v2])) = off (And1 T Dd) H3 := off_put (.inr rfl)
    have S5 : SD X.K a (And1 T Dd) (upd H3 Dd (.lst [v0, v2])) (σ.set i (some (.ref Dd))) (ρ.set i (some (.adr Dd))) := ⟨S4.len, S4.dm.putL a3, fun j z e => by rw [eo]; exact S4.sl j z e⟩
    have p5 : DpAll X.K (off (And1 T Dd) (upd H3 Dd (.lst [v0, v2]))) [v0, v2] [d0, d2] := by
      rw [eo]
      cases p3 with
      | cons q0 _ => exact .cons q0 (.cons q2 .nil)
    have m5 : MS X.K (off T (upd H3 Dd (.lst [v0, v2]))) a k := by
      rw [← eo] at ms3
      exact ms3.same off_less
    exact hP d0 d1 d2 hV0 hV1 hd2 T _ _ D (sd_free nD S5 lt upd_same p5) m5 (fun σ' H' ρ' m' s S' ms' hN => kn σ' H' ρ' m' (s5.trans s) S' ms' hN) fun v H' d m' s ms' q r => kr v H' d m' (s5.trans s) ms' q r
  cases p3 with
  | cons q0 r =>
    cases r with
    | cons q1 r =>
      cases b with
      | true =>
        refine iteT (toE (pe_ix ix_list (pe_var hy hv hd hcd) pe_int (by exact fun _ _ => rfl)) ⟨_, g1, Dd, [v0, v1], 0, v0, rfl, rfl, .of a3, rfl, ?_⟩)
        exact ⟨_, g1, Dd, [v0, v1], 1, 1, rfl, rfl, a3, rfl, fin v0 d0 (.inl rfl) q0⟩
      | false =>
        refine iteF (toE (pe_ix ix_list (pe_var hy hv hd hcd) pe_int (by exact fun _ _ => rfl)) ⟨_, g1, Dd, [v0, v1], 1, v1, rfl, rfl, .of a3, rfl, ?_⟩)
        exact ⟨_, g1, Dd, [v0, v1], 1, 1, rfl, rfl, a3, rfl, fin v1 d1 (.inr rfl) q1⟩
end
section
variable {X : Cx} {a : Addr} {ρ : Rho} {e : Expr} {ds : List PyData} {p pos : Pos}
theorem src_EL {elts : List Expr} {kk : Nat} {tpos : Pos} (h : EvA X a [e] ρ [.list ds]) (hm : X.mg "enumerate" = none) (hg : Gl X "enumerate" := by rfl) (hs : starEach [e] X.env = [(false, eval e X.env)] := by exact star_of rfl) :
    Src X a (.Tuple elts kk tpos) (.Call (.Name "enumerate" p) [e] [] pos) ρ (numbered ds) := ⟨_, pi_enum hg hm ja hs, fun T σ H S R k => h T σ H S _ fun vs H1 s1 p1 => by
  obtain ⟨v, rfl, q⟩ := dps1 p1
  obtain ⟨pa, xs, rfl, g1, g2⟩ := dp_lst q
  have hl := dps_len g2
  refine ⟨pa, xs, rfl, same_l off_in _ _ g1, k _ H1 _ _ s1 (by rw [show (numbered ds).length = xs.length by simp [numbered, hl]]; exact walk_enum) (fun T' H' s => same_l off_in _ _ (same_l s.2 _ _ g1)) fun T' i H' x H'' hin s y => ?_⟩
  obtain ⟨T0, y1, y2, rfl, hT, rfl, e1, e2⟩ := y
  have e2 : xs[i]? = some y2 := e2
  cases e1
  obtain ⟨d, hd⟩ : ∃ d, ds[i]? = some d := by
    have := (List.getElem?_eq_some_iff.mp e2).1
    exact ⟨ds[i]'(by omega), by simp⟩
  obtain ⟨v, hv, pv⟩ := dps_get g2 hd
  rw [e2] at hv
  cases hv
  exact ⟨same_new hT, _, numbered_get hd, dpo_pair s.1 hT (.int _) (dp_same s.2 pv)⟩⟩
end
end Zj
/-! Points and directions judged; directions of numbers; the law's own points. -/
namespace K4
open PySem PySem.Spec PyProof.Rows L2 Zj
variable [Nm]
section
variable {P : Program} {w : World} {K : PySem.W.Frag} {mg : Str → Option Value} {base : Heap} {f : Addr} {fd : FuncData}
theorem wrong_good {xs : List Int} {m : Int} (h : (xs.length : Int) = m) : wrongD (tI xs) m = .none := by
  rw [show wrongD (tI xs) m = placeD (badAt (xs.map .int)) from if_pos (by simpa using h), badAt_ints]
  rfl
/-- a point that is one -/
def R_cpt (ds : List PyData) (d : PyData) : Prop := ∃ (D : Nat) (xs : List Int) (l : Int), ds = [.int (D : Int), tI xs] ∧ xs.length = D + 1 ∧ xs.length ≤ 1000 ∧ xs.getLast? = some l ∧ 0 < l ∧ gcdL xs = 1 ∧ d = tI xs
theorem ok_cpt (F : Fun K "check_point" "check_point" st_check_point f fd) (C2 : Cal P w K mg base 2 "wrong_place" ["value", "many"] (spR K R_wrong)) (C1 : Cal P w K mg base 1 "common_divisor" ["numbers"] (spR K R_cd)) :
    FnOk P w K mg base CX0 3 f fd ["dimension", "value"] (spR K R_cpt) := by
  refine fnR F sc_check_point (fun ds d h => by obtain ⟨_, _, _, rfl, _⟩ := h; rfl) fun cdv A outer s H E G hr ds d h => ?_
  obtain ⟨D, xs, l, rfl, hl, hz, hlast, l0, h1, rfl⟩ := h
  have hat : atI (xs.map PyData.int) (D : Int) = some (.int l) := atI_nat (by
    rw [List.getLast?_eq_getElem?] at hlast
    rw [List.getElem?_map, show D = xs.length - 1 by omega, hlast] <;> rfl)
  refine r_cons (rs_set (i := 2) (d := .none) G (e_call C2 (hr.mono (by decide)) (a_cons (e_var (i := 1) rfl) (a_cons (e_bin od_add (e_var (i := 0) rfl) e_int) a_nil)) ⟨tI xs, (D : Int) + 1, rfl, fun ys e => by cases e; simpa using hz, (wrong_good (by omega)).symm⟩) ?_)
  refine r_cons (rs_if (b := false) (t_is (t_cmp od_notN (e_var (i := 2) rfl) e_non (nomark _)) rfl) nofun fun _ => r_nil ?_)
  refine r_cons (rs_if (b := false) (t_is (t_cmp od_lt (e_ixT (e_var (i := 1) rfl) (e_var (i := 0) rfl) hat) e_int (nomark _)) (decide_eq_false (by omega))) nofun fun _ => r_nil ?_)
  exact r_cons (rs_if (b := false) (t_is (t_cmp od_gt (e_call C1 (hr.mono (by decide)) (a_cons (e_var (i := 1) rfl) a_nil) ⟨xs, .inl rfl, rfl⟩) e_int (nomark _)) (by rw [h1] <;> rfl)) nofun fun _ => r_nil (r_one (rs_ret (e_var (i := 1) rfl) rfl)))
/-- a direction that is one -/
def R_cdi (ds : List PyData) (d : PyData) : Prop := ∃ (D : Nat) (xs : List Int), ds = [.int (D : Int), tI xs] ∧ xs.length = D ∧ xs.length ≤ 1000 ∧ gcdL xs = 1 ∧ d = tI xs
theorem ok_cdi (F : Fun K "check_direction" "check_direction" st_check_direction f fd) (C2 : Cal P w K mg base 2 "wrong_place" ["value", "many"] (spR K R_wrong)) (C1 : Cal P w K mg base 1 "common_divisor" ["numbers"] (spR K R_cd)) :
    FnOk P w K mg base CX0 3 f fd ["dimension", "value"] (spR K R_cdi) := by
  refine fnR F sc_check_direction (fun ds d h => by obtain ⟨_, _, rfl, _⟩ := h; rfl) fun cdv A outer s H E G hr ds d h => ?_
  obtain ⟨D, xs, rfl, hl, hz, h1, rfl⟩ := h
  refine r_cons (rs_set (i := 2) (d := .none) G (e_call C2 (hr.mono (by decide)) (a_cons (e_var (i := 1) rfl) (a_cons (e_var (i := 0) rfl) a_nil)) ⟨tI xs, (D : Int), rfl, fun ys e => by cases e; simpa using hz, (wrong_good (by omega)).symm⟩) ?_)
  refine r_cons (rs_if (b := false) (t_is (t_cmp od_notN (e_var (i := 2) rfl) e_non (nomark _)) rfl) nofun fun _ => r_nil ?_)
  exact r_cons (rs_if (b := false) (t_is (t_cmp od_neI (e_call C1 (hr.mono (by decide)) (a_cons (e_var (i := 1) rfl) a_nil) ⟨xs, .inl rfl, rfl⟩) e_int (nomark _)) (by rw [h1] <;> rfl)) nofun fun _ => r_nil (r_one (rs_ret (e_var (i := 1) rfl) rfl)))
def R_dir (ds : List PyData) (d : PyData) : Prop := ∃ xs : List Int, ds = [tI xs] ∧ BitsL 8000 xs ∧ xs.length ≤ 1000 ∧ gcdL xs ≠ 0 ∧ d = tI (shortL xs)
theorem ok_dir (F : Fun K "direction_of" "direction_of" st_direction_of f fd) (C1 : Cal P w K mg base 1 "common_divisor" ["numbers"] (spR K R_cd)) (C2 : Cal P w K mg base 2 "shortened" ["numbers"] (spR K R_short)) : FnOk P w K mg base CX0 3 f fd ["numbers"] (spR K R_dir) := by
  refine fnR F sc_direction_of (fun ds d h => by obtain ⟨_, rfl, _⟩ := h; rfl) fun cdv A outer s H E G hr ds d h => ?_
  obtain ⟨xs, rfl, hb, hz, h0, rfl⟩ := h
  exact r_cons (rs_if (b := false) (t_is (t_cmp od_eqI (e_call C1 (hr.mono (by decide)) (a_cons (e_var (i := 0) rfl) a_nil) ⟨xs, .inl rfl, rfl⟩) e_int (nomark _)) (by simpa using h0)) nofun fun _ => r_nil (r_one (rs_ret (e_call C2 (hr.mono (by decide)) (a_cons (e_var (i := 0) rfl) a_nil) ⟨xs, .inl rfl, hb, hz, rfl⟩) rfl)))
theorem ok_point (F : Fun K "_law_point" "_law_point" st__law_point f fd) (T : Tx mg) (C1 : Cal P w K mg base 2 "_law_lowered" ["numbers"] (spR K R_short)) : FnOk P w K mg base CX0 3 f fd ["numbers", "bottom"] (spR K R_point) := by
  refine fnR F sc__law_point (fun ds d h => by obtain ⟨x, _, rfl, _⟩ := h; rfl) fun cdv A outer s H E G hr ds d h => ?_
  obtain ⟨ns, b, rfl, h0, hb, hb2, hz, rfl⟩ := h
  have b1 : Bits 10 1 := show (1 : Nat) < 2 ^ 10 by decide
  refine r_cons (rs_set (i := 2) G (e_ifT (t_is (t_cmp od_gt (e_var (i := 1) rfl) e_int (nomark _)) (decide_eq_true h0)) e_int) ?_)
  refine r_one (rs_ret (e_call C1 (hr.mono (by decide)) (a_cons (e_is (d' := lI (ns ++ [b])) (e_bin (od_catL (by simp; omega)) (e_lc0 (own := [("number", 3)]) (f := fName 3) (val := onInt fun x => 1 * x) G (src_L (e_var (i := 0) rfl)) (by simp; omega) (blkOk_by (N := n__law_point) (sc := defScope st__law_point) (by decide +kernel))
        (fun _ _ _ _ _ => pg_name (i := 3) sc__law_point.nd rfl (Or.inl rfl)) (tg_name (by decide)) fun d hd => ?_) (e_lst (a_cons (e_bin (od_mul (mul_ok b1 hb2 (by decide))) (e_var (i := 2) rfl) (e_var (i := 1) rfl)) a_nil))) ?_) a_nil) ⟨_, .inr rfl, fun x hx => ?_, by simp; omega, rfl⟩) rfl)
  · obtain ⟨x, hx, rfl⟩ := mem_mapI hd
    exact ⟨_, rfl, fun s H C cl fp => e_bin (od_mul (mul_ok b1 (hb x hx) (by decide))) (e_var (i := 2) rfl) (e_var (i := 3) rfl)⟩
  · rw [mapI, show (fun x : Int => 1 * x) = id from funext fun x => Int.one_mul x, List.map_id, Int.one_mul]
    show PyData.list _ = PyData.list (List.map _ _)
    rw [List.map_append]
    rfl
  · rcases List.mem_append.mp hx with hx | hx
    · exact (hb x hx).mono (by decide)
    · rw [List.mem_singleton] at hx
      subst hx
      exact hb2.mono (by decide)
theorem ok_total (F : Fun K "_law_total" "_law_total" st__law_total f fd) (T : Tx mg) : FnOk P w K mg base CX0 1 f fd ["row", "point_so"] (spR K R_weighed) := by
  refine fnR F sc__law_total (fun ds d h => by obtain ⟨xs, ys, rfl, _⟩ := h; rfl) fun cdv A outer s H E G hr ds d h => ?_
  obtain ⟨xs, ys, rfl, hx, hy, hl, rfl⟩ := h
  refine r_one (rs_ret (d := .int (dot xs ys)) (e_callB (ca_sum rfl (ns := List.zipWith (· * ·) xs ys)) (a_cons (e_is (e_lc0 (own := [("one", 2), ("other_so", 3)]) (f := fPair 2 3) (val := onPair (· * ·)) G
    (src_ZT (a_cons (e_var (i := 0) rfl) (a_cons (e_var (i := 1) rfl) a_nil)) T.zip) (by simp; omega) (blkOk_by (N := n__law_total) (sc := defScope st__law_total) (by decide +kernel))
    (fun _ _ _ _ _ => pg_tup rfl (pgs_cons (pg_name (i := 2) sc__law_total.nd rfl (Or.inl rfl)) (pgs_cons (pg_name (i := 3) sc__law_total.nd rfl (Or.inl rfl)) pgs_nil))) (tg_pair (by decide) (by decide)) (fun d hd => ?_)) (by rw [zipI_map])) a_nil) T.sum (by decide +kernel)) rfl)
  obtain ⟨x, h1, y, h2, rfl⟩ := mem_zipI hd
  exact ⟨_, rfl, fun s H C cl fp => e_bin (od_mul (mul_ok (hx x h1) (hy y h2) (by decide))) (e_var (i := 2) rfl) (e_var (i := 3) rfl)⟩
theorem last_one {p : List Int} {l : Int} (h : p.getLast? = some l) : 1 ≤ (p.map PyData.int).length := by
  cases p with
  | nil => cases h
  | cons => simp
theorem zip_bits {m n k : Nat} {u v c e : Int} {p way : List Int} (hp : BitsL m p) (hw : BitsL n way) (hc : Bits k c) (he : Bits (k + m) e) : BitsL (k + m + n + 1) (List.zipWith (fun x s => x * c + s * e) p way) := fun x hx => by
  obtain ⟨i, hi⟩ := List.getElem?_of_mem hx
  rw [List.getElem?_zipWith] at hi
  split at hi
  · rename_i y s e1 e2
    cases hi
    exact Bits.add (m := k + m + n) ((Bits.mul (hp y (List.mem_of_getElem? e1)) hc).mono (by omega)) ((Bits.mul (hw s (List.mem_of_getElem? e2)) he).mono (by omega))
  · cases hi
def R_along (ds : List PyData) (d : PyData) : Prop := ∃ (p way : List Int) (t b l : Int), ds = [tI p, tI way, .int t, .int b] ∧ p.getLast? = some l ∧ 0 < l ∧ 0 < b ∧ BitsL 5000 p ∧ BitsL 1000 way ∧ Bits 10 t ∧ Bits 10 b ∧ p.length ≤ 900 ∧ d = tI (movedL p way t b l)
theorem ok_along (F : Fun K "_law_along" "_law_along" st__law_along f fd) (T : Tx mg) (C1 : Cal P w K mg base 3 "_law_point" ["numbers", "bottom"] (spR K R_point)) : FnOk P w K mg base CX0 4 f fd ["point_so", "way", "top", "bottom"] (spR K R_along) := by
  refine fnR F sc__law_along (fun ds d h => by obtain ⟨x, _, _, _, _, rfl, _⟩ := h; rfl) fun cdv A outer s H E G hr ds d h => ?_
  obtain ⟨p, way, t, b, l, rfl, hl, l0, b0, hb, hw, ht, hbb, hz, rfl⟩ := h
  have p1 := last_one hl
  have hlb : Bits 5000 l := hb l (List.mem_of_getLast? hl)
  have ez : List.zipWith (fun a s => b * a + t * l * s) p.dropLast way = List.zipWith (fun n s => n * b + s * t * l) p.dropLast way := by
    congr 1
    funext n s
    rw [Int.mul_comm b n, Int.mul_comm (t * l) s, Int.mul_assoc s t l]
  refine r_one (rs_ret (e_call C1 (hr.mono (by decide)) (a_cons (e_is (d' := lI (List.zipWith (fun n s => n * b + s * t * l) p.dropLast way)) (e_lc0 (own := [("a", 4), ("b", 5)]) (f := fPair 4 5) (val := onPair fun a s => b * a + t * l * s) (items := List.zipWith (fun x y => PyData.tuple [x, y]) (p.dropLast.map .int) (way.map .int)) G
    (src_ZT (a_cons (e_is (e_slT (e_var (i := 0) rfl) o_non (o_int (e_neg e_int)) (cut_part _ p1)) (by rw [cutD_init _ p1, initI])) (a_cons (e_var (i := 1) rfl) a_nil)) T.zip) (by simp; omega) (blkOk_by (N := n__law_along) (sc := defScope st__law_along) (by decide +kernel))
    (fun _ _ _ _ _ => pg_tup rfl (pgs_cons (pg_name (i := 4) sc__law_along.nd rfl (Or.inl rfl)) (pgs_cons (pg_name (i := 5) sc__law_along.nd rfl (Or.inl rfl)) pgs_nil))) (tg_pair (by decide) (by decide)) fun d hd => ?_) ?_) (a_cons (e_bin (od_mul (mul_ok hbb hlb (by decide))) (e_var (i := 3) rfl) (e_ixT (e_var (i := 0) rfl) (e_neg e_int) (ati_last (lastI hl)))) a_nil)) ⟨_, _, rfl, Int.mul_pos b0 l0, ?_, (Bits.mul hbb hlb).mono (by decide), ?_, ?_⟩) rfl)
  · obtain ⟨x, g1, y, g2, rfl⟩ := mem_zipI hd
    have hx := hb x (List.dropLast_subset _ g1)
    have hy := hw y g2
    exact ⟨_, rfl, fun s H C cl fp => e_bin od_add (e_bin (od_mul (mul_ok hbb hx (by decide))) (e_var (i := 3) rfl) (e_var (i := 4) rfl)) (e_bin (od_mul (mul_ok (Bits.mul ht hlb) hy (by decide))) (e_bin (od_mul (mul_ok ht hlb (by decide))) (e_var (i := 2) rfl) (e_ixT (e_var (i := 0) rfl) (e_neg e_int) (ati_last (lastI hl)))) (e_var (i := 5) rfl))⟩
  · rw [zipI_map, ez]
  · have ze : (fun n s => n * b + s * t * l) = fun n s => n * b + s * (t * l) := by
      funext n s
      rw [Int.mul_assoc]
    rw [ze]
    exact (zip_bits (u := 0) (v := 0) (m := 5000) (n := 1000) (k := 10) (fun x hx => hb x (List.dropLast_subset _ hx)) hw hbb (Bits.mul ht hlb)).mono (by decide)
  · simp
    omega
  · unfold movedL
    rw [Int.mul_comm b l]
theorem ok_of (F : Fun K "_law_of" "_law_of" st__law_of f fd) (T : Tx mg) (C1 : CalG P w K mg base 1 "_law_draw" ["m", "bound"] (spM K 1 R_draw)) : FnG P w K mg base CX0 2 f fd ["m", "some"] (spM K 1 fun ds Q => ∃ es, ds = [.list es] ∧ 1 ≤ es.length ∧ es.length ≤ 1000 ∧ ∀ d ∈ es, Q d) := by
  refine fnM F sc__law_of (fun ds Pd h => by obtain ⟨b, rfl, _⟩ := h; rfl) fun cdv A outer s H E G hr hgd a n ds Pd h => ?_
  obtain ⟨es, rfl, h1, h2, hP⟩ := h
  refine q_one (qs_ret (m := n) (P := Pd) (m_ixL (e_var (i := 1) rfl) (m_draw (i := 0) (b := es.length) C1 hgd (hr.mono (by decide)) rfl (e_callB ca_lenL (a_cons (e_var (i := 1) rfl) a_nil) T.len (by decide +kernel)) (by omega) (by omega)) fun d hd => ?_) fun d hd => ⟨Nat.le_refl _, hd⟩)
  obtain ⟨r, rfl, r0, r1⟩ := hd
  obtain ⟨j, rfl⟩ : ∃ j : Nat, r = j := ⟨r.toNat, by omega⟩
  have hj : j < es.length := by omega
  exact ⟨_, es[j], rfl, atI_nat (List.getElem?_eq_getElem hj), hP _ (List.getElem_mem hj)⟩
end
end K4
/-! The directions of a flat. -/
namespace K4
open PySem PySem.Spec PyProof.Rows L2 Zj
variable [Nm]
/-- the leading places -/
def ldI (Q : List (Nat × List Int)) : List Int := Q.map fun q => (q.1 : Int)
/-- a multiple of all leading numbers -/
def scN (Q : List (Nat × List Int)) : Int := (lcmL (Q.map fun q => cf q.2 q.1) : Int)
/-- step f at place j, as far as the rows T tell -/
def stp (T : List (Nat × List Int)) (sc : Int) (f j : Nat) : Int := match T.find? fun q => q.1 == j with
  | some q => -(cf q.2 f) * Int.fdiv sc (cf q.2 q.1)
  | none => if j = f then sc else 0
def stpL (D : Nat) (T : List (Nat × List Int)) (sc : Int) (f : Nat) : List Int := (List.range D).map (stp T sc f)
theorem stp_len (D : Nat) (T : List (Nat × List Int)) (sc : Int) (f : Nat) : (stpL D T sc f).length = D := by unfold stpL; simp
theorem stp_more {T : List (Nat × List Int)} {q : Nat × List Int} {sc : Int} {f : Nat} (hn : ∀ t ∈ T, t.1 ≠ q.1) (j : Nat) : stp (T ++ [q]) sc f j = if j = q.1 then -(cf q.2 f) * Int.fdiv sc (cf q.2 q.1) else stp T sc f j := by
  unfold stp
  rw [List.find?_append]
  by_cases h : j = q.1
  · have e : (T.find? fun t => t.1 == j) = none := List.find?_eq_none.mpr fun t ht => by
      have := hn t ht
      simp
      omega
    rw [e, if_pos h]
    simp [h]
  · rw [if_neg h]
    cases e : T.find? fun t => t.1 == j with
    | some t => rfl
    | none =>
      have : (q.1 == j) = false := by simp; omega
      simp [this]
theorem stp_get {D : Nat} {T : List (Nat × List Int)} {sc : Int} {f j : Nat} (h : j < (stpL D T sc f).length) : (stpL D T sc f)[j] = stp T sc f j := by
  have hj : j < D := by rw [stp_len] at h; exact h
  have e : (stpL D T sc f)[j]? = some (stp T sc f j) := by
    unfold stpL
    rw [List.getElem?_map, List.getElem?_range hj] <;> rfl
  rw [List.getElem?_eq_getElem h] at e
  exact Option.some.inj e
theorem stpL_more {D : Nat} {T : List (Nat × List Int)} {q : Nat × List Int} {sc : Int} {f : Nat} (hn : ∀ t ∈ T, t.1 ≠ q.1) : stpL D (T ++ [q]) sc f = (stpL D T sc f).set q.1 (-(cf q.2 f) * Int.fdiv sc (cf q.2 q.1)) := by
  apply List.ext_getElem (by rw [List.length_set, stp_len, stp_len])
  intro j h1 h2
  rw [List.getElem_set, stp_get, stp_more hn]
  by_cases h : j = q.1
  · rw [if_pos h, if_pos h.symm]
  · rw [if_neg h, if_neg (Ne.symm h), stp_get]
theorem stpL_start {D f : Nat} {sc : Int} : stpL D [] sc f = (List.replicate D (0 : Int)).set f sc := by
  apply List.ext_getElem (by rw [List.length_set, stp_len, List.length_replicate])
  intro j h1 h2
  rw [List.getElem_set, stp_get, List.getElem_replicate]
  unfold stp
  by_cases h : j = f
  · rw [if_pos h.symm]
    simp [h]
  · rw [if_neg (Ne.symm h)]
    simp [h]
/-- the free places -/
def isFree (Q : List (Nat × List Int)) (f : Nat) : Bool := !(Q.any fun q => q.1 == f)
def frees (D : Nat) (Q : List (Nat × List Int)) : List Nat := (List.range D).filter (isFree Q)
def wayN (D : Nat) (Q : List (Nat × List Int)) (f : Nat) : List Int := shortL (stpL D Q (scN Q) f)
def waysN (D : Nat) (Q : List (Nat × List Int)) : List (List Int) := (frees D Q).map (wayN D Q)
theorem scN_pos {D : Nat} {Q : List (Nat × List Int)} (R : Red (D + 1) Q) : 0 < scN Q := by
  have := lcmL_pos (bs := Q.map fun q => cf q.2 q.1) fun b hb => by
    obtain ⟨q, hq, rfl⟩ := List.mem_map.mp hb
    exact (R.row q hq).pos
  unfold scN
  omega
theorem q_len {D : Nat} {Q : List (Nat × List Int)} (R : Red (D + 1) Q) (lt : ∀ q ∈ Q, q.1 + 1 < D + 1) : Q.length ≤ D := by
  have := red_len R lt
  omega
theorem scN_bits {D : Nat} {Q : List (Nat × List Int)} (hD : D ≤ 4) (R : Red (D + 1) Q) (lt : ∀ q ∈ Q, q.1 + 1 < D + 1) (hb : ∀ q ∈ Q, BitsL 150 q.2) : Bits 620 (scN Q) := by
  have := q_len R lt
  exact (lcmL_bits (m := 150) fun b hb' => by
    obtain ⟨q, hq, rfl⟩ := List.mem_map.mp hb'
    exact cf_bits (hb q hq) (by rw [(R.row q hq).len]; have := lt q hq; omega)).mono (by rw [List.length_map]; omega)
theorem stp_bits {D : Nat} {Q : List (Nat × List Int)} {f : Nat} (hD : D ≤ 4) (R : Red (D + 1) Q) (lt : ∀ q ∈ Q, q.1 + 1 < D + 1) (hb : ∀ q ∈ Q, BitsL 150 q.2) (hf : f < D) : BitsL 800 (stpL D Q (scN Q) f) := fun x hx => by
  unfold stpL at hx
  obtain ⟨j, _, rfl⟩ := List.mem_map.mp hx
  have sb := scN_bits hD R lt hb
  unfold stp
  cases e : Q.find? fun q => q.1 == j with
  | some q =>
    have hq := List.mem_of_find?_eq_some e
    have rq := R.row q hq
    have h1 : Bits 150 (cf q.2 f) := cf_bits (hb q hq) (by rw [rq.len]; omega)
    have h2 : Bits 620 (Int.fdiv (scN Q) (cf q.2 q.1)) := by
      obtain ⟨k, hk⟩ := lcmL_dvd (List.mem_map.mpr ⟨q, hq, rfl⟩ : cf q.2 q.1 ∈ Q.map fun q => cf q.2 q.1)
      have pq := rq.pos
      have e2 : scN Q = cf q.2 q.1 * (k : Int) := by
        unfold scN
        rw [hk, Int.natCast_mul, Int.natAbs_of_nonneg (Int.le_of_lt pq)]
      rw [e2, fdiv_mul pq]
      exact sb.le (by rw [e2, Int.natAbs_mul]; exact Nat.le_mul_of_pos_left _ (by omega))
    exact (Bits.mul h1.neg h2).mono (by decide)
  | none =>
    show Bits 800 (if j = f then scN Q else 0)
    split
    · exact sb.mono (by decide)
    · exact Nat.two_pow_pos _
/-- a free place keeps the multiple -/
theorem stp_free {Q : List (Nat × List Int)} {f : Nat} {sc : Int} (hf : isFree Q f = true) (j : Nat) (hj : isFree Q j = true) : stp Q sc f j = if j = f then sc else 0 := by
  unfold stp
  unfold isFree at hj
  have e : (Q.find? fun q => q.1 == j) = none := List.find?_eq_none.mpr fun t ht => by
    have : (Q.any fun q => q.1 == j) = false := by simpa using hj
    rw [List.any_eq_false] at this
    exact this t ht
  rw [e]
theorem stp_lead {w : Nat} {Q : List (Nat × List Int)} {f : Nat} {sc : Int} (R : Red w Q) {q : Nat × List Int} (hq : q ∈ Q) : stp Q sc f q.1 = -(cf q.2 f) * Int.fdiv sc (cf q.2 q.1) := by
  unfold stp
  cases e : Q.find? fun t => t.1 == q.1 with
  | some t =>
    have ht := List.mem_of_find?_eq_some e
    have := List.find?_some e
    rw [R.same ht hq (by simpa using this)]
  | none =>
    have := List.find?_eq_none.mp e q hq
    simp at this
theorem stp_ne {D : Nat} {Q : List (Nat × List Int)} {f : Nat} (R : Red (D + 1) Q) (hf : f ∈ frees D Q) : ∃ x ∈ stpL D Q (scN Q) f, x ≠ 0 := by
  obtain ⟨h1, h2⟩ := List.mem_filter.mp hf
  refine ⟨stp Q (scN Q) f f, List.mem_map.mpr ⟨f, h1, rfl⟩, ?_⟩
  rw [stp_free h2 f h2, if_pos rfl]
  have := scN_pos R
  omega
theorem frees_lt {D : Nat} {Q : List (Nat × List Int)} {f : Nat} (hf : f ∈ frees D Q) : f < D := List.mem_range.mp (List.mem_filter.mp hf).1
theorem frees_take {D : Nat} {Q : List (Nat × List Int)} {n : Nat} : ((List.range (n + 1)).filter (isFree Q)) = if isFree Q n then (List.range n).filter (isFree Q) ++ [n] else (List.range n).filter (isFree Q) := by
  rw [List.range_succ, List.filter_append]
  cases h : isFree Q n with
  | true => rw [if_pos rfl, List.filter_cons_of_pos h, List.filter_nil]
  | false => rw [if_neg Bool.false_ne_true, List.filter_cons_of_neg (by rw [h]; exact Bool.false_ne_true), List.filter_nil, List.append_nil]
def vLd (d : PyData) : PyData := placeD (lead (unI d).dropLast)
def vAt : PyData → PyData
  | .tuple [r, .int p] => .int (cf (unI r) p.toNat)
  | _ => .none
theorem zipQ (Q : List (Nat × List Int)) : List.zipWith (fun x y => PyData.tuple [x, y]) (rsD (rowsOf Q)) ((ldI Q).map .int) = Q.map fun q => .tuple [tI q.2, .int (q.1 : Int)] := by
  unfold rsD rowsOf ldI
  induction Q with
  | nil => rfl
  | cons q Q ih =>
    simp only [List.map_cons, List.zipWith_cons_cons]
    exact congrArg _ ih
theorem vAt_is (r : List Int) (p : Nat) : vAt (.tuple [tI r, .int (p : Int)]) = .int (cf r p) := by
  show PyData.int (cf (unI (tI r)) ((p : Int)).toNat) = _
  rw [unI_tI, Int.toNat_natCast]
theorem am_free (Q : List (Nat × List Int)) (f : Nat) : (!amD (.int (f : Int)) ((ldI Q).map .int)) = isFree Q f := by
  unfold amD isFree ldI
  rw [List.any_map, List.any_map]
  congr 1
  congr 1
  funext q
  show (((q.1 : Int)) == (f : Int)) = (q.1 == f)
  by_cases h : q.1 = f
  · simp [h]
  · have : ¬ (q.1 : Int) = (f : Int) := by omega
    exact (beq_eq_false_iff_ne.mpr this).trans (beq_eq_false_iff_ne.mpr h).symm
theorem flats_ints (xs : List Int) : (xs.map PyData.int).all flD = true := by
  rw [List.all_map]
  exact List.all_eq_true.mpr fun x _ => rfl
def R_fdir (ds : List PyData) (d : PyData) : Prop := ∃ (D : Nat) (Q : List (Nat × List Int)), ds = [.int (D : Int), .tuple (rsD (rowsOf Q))] ∧ 1 ≤ D ∧ D ≤ 4 ∧ Red (D + 1) Q ∧ (∀ q ∈ Q, q.1 + 1 < D + 1) ∧ (∀ q ∈ Q, BitsL 150 q.2) ∧ d = .tuple (rsD (waysN D Q))
section
variable {X : Cx} {a : Addr} {ρ : Rho} {ds : List PyData} {i : Nat} {s1 s2 s3 : Stmt} {st2 : List Stmt} {NL : Rho → List PyData → Prop} {R : PyData → Prop}
theorem lb_part3 (h : ∀ p, Run X a [s1, s2, s3] (ρp ρ i p) (fun ρ1 => ∃ ρ', ρ1 = ρp ρ' i p ∧ i < ρ'.length ∧ RunLB X a i st2 ρ' ds NL R) R) : RunLB X a i (s1 :: s2 :: s3 :: st2) ρ ds NL R := lb_part h
end
section
variable {P : Program} {w : World} {K : PySem.W.Frag} {mg : Str → Option Value} {base : Heap} {f : Addr} {fd : FuncData}
theorem ok_fdir (F : Fun K "flat_directions" "flat_directions" st_flat_directions f fd) (T : Tx mg) (CL : Cal P w K mg base 2 "leading_place" ["plane"] (spR K R_lp)) (CM : Cal P w K mg base 1 "common_multiple" ["numbers"] (spR K R_cm)) (CD : Cal P w K mg base 3 "direction_of" ["numbers"] (spR K R_dir)) : FnOk P w K mg base CX0 4 f fd ["dimension", "flat"] (spR K R_fdir) := by
  refine fnR F sc_flat_directions (fun ds d h => by obtain ⟨_, _, rfl, _⟩ := h; rfl) fun cdv A outer s H E G hr ds d h => ?_
  obtain ⟨D, Q, rfl, hD, hD4, R, lt, hb, rfl⟩ := h
  have ql := q_len R lt
  have rl : (rowsOf Q).length = Q.length := by unfold rowsOf; simp
  refine r_cons (rs_lc0 (i := 3) (own := [("row", 2)]) (f := fName 2) (val := vLd) G (src_T (e_var (i := 1) rfl)) (by rw [rsD_len]; omega) (blkOk_by (N := n_flat_directions) (sc := defScope st_flat_directions) (by decide +kernel))
    (fun _ _ _ _ _ => pg_name (i := 2) sc_flat_directions.nd rfl (Or.inl rfl)) (tg_name (by decide)) (fun d hd => ?_) ?_)
  · obtain ⟨r, hr', rfl⟩ := rsD_mem hd
    unfold rowsOf at hr'
    obtain ⟨q, hq, rfl⟩ := List.mem_map.mp hr'
    have rq := R.row q hq
    exact ⟨_, rfl, fun s H C cl fp => e_is (e_call CL (hr.mono (by decide)) (a_cons (e_var (i := 2) rfl) a_nil) ⟨q.2, rfl, by rw [rq.len]; omega, rfl⟩) (by unfold vLd; rw [unI_tI])⟩
  have eld : (rsD (rowsOf Q)).map vLd = (ldI Q).map .int := by
    unfold rsD rowsOf ldI
    rw [List.map_map, List.map_map, List.map_map]
    refine List.map_congr_left fun q hq => ?_
    show vLd (tI q.2) = .int (q.1 : Int)
    unfold vLd
    rw [unI_tI, lead_rr (R.row q hq) (lt q hq)] <;> rfl
  rw [eld]
  refine r_cons (rs_set (i := 5) (d := .int (scN Q)) G (e_call CM (hr.mono (by decide)) (a_cons (e_is (d' := lI (Q.map fun q => cf q.2 q.1)) (e_lc0 (own := [("row", 2), ("place", 4)]) (f := fPair 2 4) (val := vAt) (items := Q.map fun q => .tuple [tI q.2, .int (q.1 : Int)]) G
    (by rw [← zipQ]; exact src_ZM (a_cons (e_var (i := 1) rfl) (a_cons (e_var (i := 3) rfl) a_nil)) T.zip) (by simp; omega) (blkOk_by (N := n_flat_directions) (sc := defScope st_flat_directions) (by decide +kernel))
    (fun _ _ _ _ _ => pg_tup rfl (pgs_cons (pg_name (i := 2) sc_flat_directions.nd rfl (Or.inl rfl)) (pgs_cons (pg_name (i := 4) sc_flat_directions.nd rfl (Or.inl rfl)) pgs_nil))) (tg_pair (by decide) (by decide)) fun d hd => ?_) ?_) a_nil) ⟨_, rfl, fun b hb' => ?_, by rw [List.length_map]; omega, rfl⟩) ?_)
  · obtain ⟨q, hq, rfl⟩ := List.mem_map.mp hd
    have rq := R.row q hq
    exact ⟨_, rfl, fun s H C cl fp => e_is (e_ixT (e_var (i := 2) rfl) (e_var (i := 4) rfl) (at_cf (by rw [rq.len]; have := lt q hq; omega))) (vAt_is _ _).symm⟩
  · rw [List.map_map]
    show PyData.list _ = PyData.list (List.map _ (List.map _ _))
    rw [List.map_map]
    refine congrArg PyData.list (List.map_congr_left fun q hq => ?_)
    exact vAt_is _ _
  · obtain ⟨q, hq, rfl⟩ := List.mem_map.mp hb'
    exact (cf_bits (hb q hq) (by rw [(R.row q hq).len]; have := lt q hq; omega)).mono (by decide)
  have sb := scN_bits hD4 R lt hb
  refine r_new (i := 6) (ds := []) G (f_lst a_nil) (show (6 : Nat) < 9 by decide) ?_
  refine l_cons (ls_for (i := 6) G (fun p => src_R (n := (D : Int)) (a_cons (e_var (i := 0) rfl) a_nil) (by omega) (by omega) T.range) (pg_name (i := 7) sc_flat_directions.nd rfl (Or.inl rfl)) (tg_name (vs := [7]) (by decide))
    (fun n ρ' ds' => ds' = rsD (((List.range n).filter (isFree Q)).map (wayN D Q)) ∧ ∃ y2 y4 y6 y7 y8, ρ' = [some (.dat (.int (D : Int))), some (.dat (.tuple (rsD (rowsOf Q)))), y2, some (.dat (lI (ldI Q))), y4, some (.dat (.int (scN Q))), y6, y7, y8]) ⟨rfl, _, _, _, _, _, rfl⟩ (fun n d ρ1 ds1 hd hJ hlt => ?_) fun ρ' ds' hJ => ?_)
  · obtain ⟨rfl, y2, y4, y6, y7, y8, rfl⟩ := hJ
    have hn : n < D ∧ d = .int (n : Int) := by
      unfold Zj.upTo at hd
      rw [List.getElem?_map] at hd
      by_cases hlt : n < ((D : Int)).toNat
      · rw [List.getElem?_range hlt] at hd
        cases hd
        exact ⟨by omega, rfl⟩
      · rw [List.getElem?_eq_none (by simpa using hlt)] at hd
        cases hd
    obtain ⟨hn, rfl⟩ := hn
    refine ⟨[some (.dat (.int (D : Int))), some (.dat (.tuple (rsD (rowsOf Q)))), y2, some (.dat (lI (ldI Q))), y4, some (.dat (.int (scN Q))), y6, some (.dat (.int (n : Int))), y8], fun p => rfl, show (6 : Nat) < 9 by decide, ?_⟩
    refine lb_one (ls_if (b := isFree Q n) (fun p => t_is (t_cmp (od_notInD rfl (flats_ints (ldI Q))).1 (e_var (i := 7) rfl) (e_var (i := 3) rfl) (by rfl)) (am_free Q n)) (fun hf => ?_) fun hf => lb_nil ?_)
    · refine lb_part3 fun p => ?_
      have e0 : (List.replicate ((D : Int)).toNat [PyData.int 0]).flatten = (List.replicate D (0 : Int)).map .int := by
        rw [rep_one, Int.toNat_natCast, List.map_replicate]
      refine r_new (i := 8) (ds := (List.replicate D (0 : Int)).map .int) G (by rw [← e0]; exact f_rep (a_cons e_int a_nil) (e_var (i := 0) rfl) (by omega) (by omega) (by decide)) (show (8 : Nat) < 9 by decide) ?_
      refine l_cons (ls_put (j := n) (d := .int (scN Q)) (fun p => e_var (i := 5) rfl) (fun p => e_var (i := 7) rfl) (by simpa using hn) ?_)
      rw [← List.map_set, ← stpL_start]
      refine l_cons (ls_for (i := 8) (items := Q.map fun q => .tuple [tI q.2, .int (q.1 : Int)]) G (fun p => by
          rw [← zipQ]
          exact src_ZM (a_cons (e_var (i := 1) rfl) (a_cons (e_var (i := 3) rfl) a_nil)) T.zip) (pg_tup rfl (pgs_cons (pg_name (i := 2) sc_flat_directions.nd rfl (Or.inl rfl)) (pgs_cons (pg_name (i := 4) sc_flat_directions.nd rfl (Or.inl rfl)) pgs_nil))) (tg_pair (vs := [2, 4]) (by decide) (by decide))
        (fun k ρ' ds' => ds' = (stpL D (Q.take k) (scN Q) n).map .int ∧ ∃ z2 z4 z8, ρ' = [some (.dat (.int (D : Int))), some (.dat (.tuple (rsD (rowsOf Q)))), z2, some (.dat (lI (ldI Q))), z4, some (.dat (.int (scN Q))), some (.adr p), some (.dat (.int (n : Int))), z8]) ⟨rfl, _, _, _, rfl⟩ (fun k d ρ1 ds1 hd hJ hlt => ?_) fun ρ' ds' hJ => ?_)
      · obtain ⟨rfl, z2, z4, z8, rfl⟩ := hJ
        rw [List.getElem?_map] at hd
        obtain ⟨q, hq, rfl⟩ := Option.map_eq_some_iff.mp hd
        have mem := List.mem_of_getElem? hq
        have rq := R.row q mem
        have lq := lt q mem
        have pq := rq.pos
        have bq : Bits 150 (cf q.2 q.1) := cf_bits (hb q mem) (by rw [rq.len]; omega)
        have bn : Bits 150 (cf q.2 n) := cf_bits (hb q mem) (by rw [rq.len]; omega)
        have bf : Bits 620 (Int.fdiv (scN Q) (cf q.2 q.1)) := by
          obtain ⟨k, hk⟩ := lcmL_dvd (List.mem_map.mpr ⟨q, mem, rfl⟩ : cf q.2 q.1 ∈ Q.map fun q => cf q.2 q.1)
          have e2 : scN Q = cf q.2 q.1 * (k : Int) := by
            unfold scN
            rw [hk, Int.natCast_mul, Int.natAbs_of_nonneg (Int.le_of_lt pq)]
          rw [e2, fdiv_mul pq]
          exact sb.le (by rw [e2, Int.natAbs_mul]; exact Nat.le_mul_of_pos_left _ (by omega))
        refine ⟨[some (.dat (.int (D : Int))), some (.dat (.tuple (rsD (rowsOf Q)))), some (.dat (tI q.2)), some (.dat (lI (ldI Q))), some (.dat (.int (q.1 : Int))), some (.dat (.int (scN Q))), some (.adr p), some (.dat (.int (n : Int))), z8], fun p => rfl, show (8 : Nat) < 9 by decide, ?_⟩
        refine lb_one (ls_put (j := q.1) (d := .int (-(cf q.2 n) * Int.fdiv (scN Q) (cf q.2 q.1))) (fun p => e_bin (od_mul (mul_ok bn.neg bf (by decide))) (e_neg (e_ixT (e_var (i := 2) rfl) (e_var (i := 7) rfl) (at_cf (by rw [rq.len]; omega)))) (e_bin (od_fdiv (by omega) (Nat.lt_of_lt_of_le (bq.log (by decide)) (by decide))) (e_var (i := 5) rfl) (e_ixT (e_var (i := 2) rfl) (e_var (i := 4) rfl) (at_cf (by rw [rq.len]; omega))))) (fun p => e_var (i := 4) rfl) (by rw [List.length_map, stp_len]; omega) ?_)
        refine ⟨?_, _, _, _, rfl⟩
        rw [List.take_add_one, hq, ← List.map_set]
        exact congrArg (List.map PyData.int) (stpL_more (q := q) fun t ht => by
          intro e
          have ht' := List.mem_of_mem_take ht
          obtain ⟨m, hm, e2⟩ := List.mem_iff_getElem.mp ht
          rw [List.length_take] at hm
          rw [List.getElem_take] at e2
          have lt2 := List.pairwise_iff_getElem.mp R.asc m k (by omega) (List.getElem?_eq_some_iff.mp hq).1 (by omega)
          rw [e2, (List.getElem?_eq_some_iff.mp hq).2] at lt2
          omega).symm
      · obtain ⟨rfl, z2, z4, z8, rfl⟩ := hJ
        rw [List.length_map, List.take_length]
        refine l_free (r_nil ⟨[some (.dat (.int (D : Int))), some (.dat (.tuple (rsD (rowsOf Q)))), z2, some (.dat (lI (ldI Q))), z4, some (.dat (.int (scN Q))), y6, some (.dat (.int (n : Int))), some (.dat (lI (stpL D Q (scN Q) n)))], rfl, show (6 : Nat) < 9 by decide, ?_⟩)
        have hfr : n ∈ frees D Q := List.mem_filter.mpr ⟨List.mem_range.mpr hn, hf⟩
        have lw : (rsD (((List.range n).filter (isFree Q)).map (wayN D Q))).length ≤ n := by
          rw [rsD_len, List.length_map]
          exact Nat.le_trans (List.length_filter_le _ _) (by simp)
        refine lb_one (ls_append (d := tI (wayN D Q n)) (fun p => e_call CD (hr.mono (by decide)) (a_cons (e_callT ca_tupL (a_cons (e_var (i := 8) rfl) a_nil) T.tuple (by decide +kernel)) a_nil) ⟨stpL D Q (scN Q) n, rfl, (stp_bits hD4 R lt hb hn).mono (by decide), by rw [stp_len]; omega, fun z => ?_, rfl⟩) ⟨?_, _, _, _, _, _, rfl⟩ (by omega))
        · obtain ⟨x, hx, hx0⟩ := stp_ne R hfr
          exact hx0 (gcdL_zero z x hx)
        · rw [frees_take (D := D), if_pos hf, List.map_append]
          unfold rsD
          rw [List.map_append] <;> rfl
    · refine ⟨?_, _, _, _, _, _, rfl⟩
      rw [frees_take (D := D), if_neg (by rw [hf]; exact Bool.false_ne_true)]
  · obtain ⟨rfl, y2, y4, y6, y7, y8, rfl⟩ := hJ
    rw [upto_len, Int.toNat_natCast]
    exact l_free (r_one (rs_ret (e_callT ca_tupL (a_cons (e_var (i := 6) rfl) a_nil) T.tuple (by decide +kernel)) rfl))
end
end K4
/-! t[::-1], t a tuple. -/
namespace Zj
open PySem PySem.Spec PyProof.Rows L2 HT
section
variable {prog : Program} {w : World} {A : Around} {E : Value → Shared → Prop} {s : Shared}
theorem back_of (n : Nat) : Builtin.Slice.sliceAdjust none none (-1) (n : Int) = ((n : Int) - 1, -1) := rfl
theorem back_many (n : Nat) : Builtin.Slice.slicePlaces ((n : Int) - 1) (-1) (-1) = n := by
  unfold Builtin.Slice.slicePlaces
  rw [if_neg (show ¬ ((-1 : Int) > 0) by decide), show (- -1 : Int) = 1 from rfl, Int.ediv_one]
  split <;> omega
theorem fm_congr {α β : Type} {f g : α → Option β} : ∀ {l : List α}, (∀ x ∈ l, f x = g x) → l.filterMap f = l.filterMap g
  | [], _ => rfl
  | x :: l, h => by
    rw [List.filterMap_cons, List.filterMap_cons, h x List.mem_cons_self, fm_congr fun y hy => h y (List.mem_cons_of_mem _ hy)]
theorem back_pick (xs : Array Value) : ((List.range xs.size).filterMap fun (k : Nat) => xs[((xs.size : Int) - 1 + (k : Int) * -1).toNat]?).toArray = xs.toList.reverse.toArray := by
  have e : (List.range xs.size).filterMap (fun (k : Nat) => xs[((xs.size : Int) - 1 + (k : Int) * -1).toNat]?) = ((List.range xs.size).map fun k => xs.size - 1 - k).filterMap (xs[·]?) := by
    rw [List.filterMap_map]
    apply fm_congr
    intro k hk
    have := List.mem_range.mp hk
    show xs[((xs.size : Int) - 1 + (k : Int) * -1).toNat]? = xs[xs.size - 1 - k]?
    rw [show ((xs.size : Int) - 1 + (k : Int) * -1).toNat = xs.size - 1 - k by omega]
  rw [e, PySem.W.krv_range, List.filterMap_reverse, PySem.W.krv_all]
theorem get_back {t sl : Addr} {xs : Array Value} {vl vu vs : Value} {Q : Value → Shared → Prop} (ht : IsTup s.heap t xs) (hs : s.heap.IsSliceOf sl vl vu vs) (pl : IsPart vl none) (pu : IsPart vu none) (ps : IsPart vs (some (-1))) (hz : xs.size ≤ sizeLine)
    (fin : Q (.ref s.heap.objs.size) { s with heap := s.heap.push { cls := .type "tuple", data := .seq xs.toList.reverse.toArray } }) : wpAny (model prog w) A (getItem (.ref t) (.ref sl)) Q E s := by
  have zo : sizeOk (.seq xs.toList.reverse.toArray) := by
    show xs.toList.reverse.toArray.size ≤ sizeLine
    rw [List.size_toArray, List.length_reverse]
    exact hz
  obtain ⟨so, gs, gc, gd⟩ := id hs
  have ty : s.TypeIs (.ref sl) "slice" := ⟨so, gs, gc⟩
  unfold getItem
  try with_reducible apply wpAny_holding
  first | apply wpAny_bind (wpAny_pure _) | skip
  refine wpAny_bind (wpAny_sequenceKey ht.typeIs (by decide) (wpAny_bind (wpAny_callSpecial?_slot (name := Str.ofString "__getitem__") ht.typeIs PyProof.Rows.slot_tuple_getitem (wpAny_call_entry PyProof.Rows.slot_tuple_getitem ht.typeIs entry_tuple_getitem ?_ (args_tuple_getitem _ _)))))
  show wpAny _ _ (Builtin.Tuple.tupleItemsOf (.ref t) >>= fun _ => _) _ _ s
  refine wpAny_bind (tupleItemsOf_ ht (wpAny_bind (wpAny_typeOf ty ?_)))
  rw [if_pos (by decide)]
  apply wpAny_bind
  unfold Builtin.Slice.sliceApplied Builtin.Slice.sliceFields
  refine wpAny_bind (wpAny_bind (wpAny_field gs gd (x := vl) rfl (wpAny_bind (wpAny_field gs gd (x := vu) rfl (wpAny_bind (wpAny_field gs gd (x := vs) rfl (wpAny_pure ?_)))))))
  refine wpAny_bind (slicePart_ ps ?_)
  show wpAny _ _ (if ((-1 : Int) == 0) = true then _ else _) _ _ s
  rw [if_neg (show ¬ ((-1 : Int) == 0) = true by decide)]
  refine wpAny_bind (slicePart_ pl (wpAny_bind (slicePart_ pu (wpAny_bind (wpAny_pure ?_)))))
  show wpAny _ _ (match Builtin.Slice.sliceAdjust none none (-1) (xs.size : Int) with | (lo, hi) => pure (lo, (-1 : Int), Builtin.Slice.slicePlaces lo hi (-1))) _ _ s
  rw [back_of]
  show wpAny _ _ (pure ((xs.size : Int) - 1, (-1 : Int), Builtin.Slice.slicePlaces ((xs.size : Int) - 1) (-1) (-1))) _ _ s
  rw [back_many]
  apply wpAny_pure
  have no : ¬ ((((xs.size : Int) - 1 == 0) && ((-1 : Int) == 1) && (xs.size == xs.size)) = true) := by simp
  show wpAny _ _ (if (((xs.size : Int) - 1 == 0) && ((-1 : Int) == 1) && (xs.size == xs.size)) = true then _ else _) _ _ s
  rw [if_neg no, back_pick]
  first
    | exact wpAny_bind (m := Builtin.Tuple.tupleExact _) (wpAny_newObj_type (wpAny_pure ⟨_, rfl, wpAny_pure fin⟩) zo)
    | exact wpAny_bind (m := Builtin.Tuple.tupleExact _) (wpAny_newObj_type (wpAny_bind (wpAny_pure (wpAny_pure ⟨_, rfl, wpAny_pure fin⟩))) zo)
    | exact wpAny_bind (wpAny_bind (m := Builtin.Tuple.tupleExact _) (wpAny_newObj_type (wpAny_pure (wpAny_pure ⟨_, rfl, wpAny_pure fin⟩)) zo))
end
def tBack (K : PySem.W.Frag) (te : TE) : TE := fun σ H Q => te σ H fun x H1 => ∃ a xs, x = .ref a ∧ SqT K H1 a xs ∧ ∀ p, H1 p = none → Q (.ref p) (upd H1 p (.tup xs.reverse))
theorem pe_back {X : Cx} {e : Expr} {te : TE} {k : Nat} {p1 p2 p3 pos : Pos} (he : PE X e te) : PE X (.Subscript e (.Slice none none (some (.UnaryOp .USub (.Constant (.int 1) k p1) p2)) p3) pos) (tBack X.K te) := by
  refine ⟨fun pins s σ H Q I h => Subscript_ (thn (he.run pins s σ H _ I h) fun v s1 got => ?_)⟩
  obtain ⟨x, H1, I1, r1, a, xs, rfl, hx, q⟩ := got
  cases r1
  have part : PO X (some (.UnaryOp .USub (.Constant (.int 1) k p1) p2)) (tPart (tUn (rU fun i => .int (-i)) (tC (.int 1)))) := po_some (pe_un un_neg pe_int)
  refine wpAny_Slice (thn (po_none.run pins s1 σ H1 (fun o H2 => o = none ∧ H2 = H1) I1 ⟨rfl, rfl⟩) fun vl s2 g2 => ?_)
  obtain ⟨l, H2, I2, pl, rfl, rfl⟩ := g2
  refine thn (po_none.run pins s2 σ H2 (fun o H3 => o = none ∧ H3 = H2) I2 ⟨rfl, rfl⟩) fun vu s3 g3 => ?_
  obtain ⟨u, H3, I3, pu, rfl, rfl⟩ := g3
  refine thn (part.run pins s3 σ H3 (fun o H4 => o = some (-1) ∧ H4 = H3) I3 ⟨1, rfl, -1, rfl, rfl, rfl⟩) fun vs s4 g4 => ?_
  obtain ⟨o, H4, I4, ps, rfl, rfl⟩ := g4
  have I5 : Inv X pins σ H4 { s4 with heap := s4.heap.push { cls := .type "slice", data := .fields #[vl, vu, vs] } } := I4.kept (t' := s4.toks) fun b ob q => Heap.get?_push_of_some _ q
  obtain ⟨ts, r, ht, hz⟩ := I5.tuple hx
  have hl := r.length
  show wpAny (model X.prog X.w) X.A (subscriptTail e (.Slice none none (some (.UnaryOp .USub (.Constant (.int 1) k p1) p2)) p3) (.ref a) (.ref s4.heap.objs.size)) (EP X pins σ Q) X.xe { s4 with heap := s4.heap.push { cls := .type "slice", data := .fields #[vl, vu, vs] } }
  refine tail_any (ops := [.ref a, .ref s4.heap.objs.size]) ht.typeIs PyProof.Rows.slot_tuple_getitem.lookup (get_back ht (Heap.IsSliceOf.new _ vl vu vs) pl pu ps (by rw [List.size_toArray, ← hl]; exact hz) ?_) (by with_unfolding_all rfl)
  refine ⟨.ref _, _, I5.laid (t' := s4.toks) (o := .tup xs.reverse) (fun b ob q => Heap.get?_push_of_some _ q) (Nat.le_refl _) ?_, rfl, q _ (I5.hok.fresh (Nat.le_refl _))⟩
  exact ⟨by rw [List.length_reverse]; exact hz, _, r.reverse, ⟨_, Heap.get?_push_size _ rfl, rfl, _, rfl⟩⟩
section
variable [Nm] {X : Cx} {a : Addr} {ρ : Rho} {e : Expr} {ds : List PyData} {k : Nat} {p1 p2 p3 pos : Pos}
theorem dps_rev {K : PySem.W.Frag} {H : Hp} : ∀ {vs : List V} {ds : List PyData}, DpAll K H vs ds → DpAll K H vs.reverse ds.reverse
  | _, _, .nil => .nil
  | _, _, .cons h t => by
    rw [List.reverse_cons, List.reverse_cons]
    exact dps_snoc (dps_rev t) h
theorem e_back (h : EvE X a e ρ (.tuple ds)) : EvE X a (.Subscript e (.Slice none none (some (.UnaryOp .USub (.Constant (.int 1) k p1) p2)) p3) pos) ρ (.tuple ds.reverse) := fun T σ H S Q q =>
  toE (pe_back je) (h T σ H S _ fun v H1 s1 q1 => by
    obtain ⟨pa, xs, rfl, g1, g2⟩ := dpo_tup q1
    exact ⟨pa, xs, rfl, g1, fun p hp => q _ _ (s1.trans (same_new hp)) (dpo_newT (S.dm.same s1) hp (dps_rev g2))⟩)
end
end Zj
/-! zip of a list with a tuple. -/
namespace Zj
open PySem PySem.Spec PyProof.Rows L2
section
variable {prog : Program} {w : World} {A : Around} {E : Value → Shared → Prop} {s : Shared}
/-- what stands in the heap while such a zip is on its way -/
structure Zt (h : Heap) (z u o j k a b : Addr) (p q : Nat) (xs ys : Array Value) (c d : Value) : Prop where
  z : IsZip h z u o .none
  u : IsPair h u (.ref j) (.ref k)
  o : IsPair h o c d
  j : h.IsListIter j a p
  k : h.IsTupleIter k b q
  a : h.IsList a xs
  b : h.IsTuple b ys
variable {z u o j k a b : Addr} {p q : Nat} {xs ys : Array Value} {c d x y : Value}
theorem zt_item {Q : Value → Shared → Prop} (D : ZipApart z u o j k a b) (Z : Zt s.heap z u o j k a b p q xs ys c d) (ex : xs[p]? = some x) (ey : ys[q]? = some y)
    (fin : ∀ h', IsZip h' z u o (rawInt s.heap.objs.size) → IsPair h' o x y → h'.IsListIter j a (p + 1) → h'.IsTupleIter k b (q + 1) → IsPair h' s.heap.objs.size x y → h'.objs.size = s.heap.objs.size + 1 → Old z o j k s.heap h' → Q (.ref s.heap.objs.size) { s with heap := h' }) :
    wpAny (model prog w) A (Builtin.«zip.__next__» ⟨[.ref z], []⟩) (fun f s' => ∃ v, f = .done (.ret v) ∧ Q v s') E s := by
  obtain ⟨gz, gu, go, gj, gk, ga, gb⟩ := Z
  show wpAny _ _ (field (.ref z) 2 >>= fun _ => _) _ _ _
  refine wpAny_bind (wpAny_field gz rfl (x := .bool false) rfl ?_)
  show wpAny _ _ (field (.ref z) 3 >>= fun _ => _) _ _ _
  refine wpAny_bind (wpAny_field gz rfl (x := .ref u) rfl ?_)
  refine wpAny_bind (wpAny_seqItems gu rfl ?_)
  show wpAny _ _ (Builtin.SmallTypes.ownedTupleIsFree (.ref z) >>= fun _ => _) _ _ _
  apply wpAny_bind
  unfold Builtin.SmallTypes.ownedTupleIsFree
  refine wpAny_bind (wpAny_field gz rfl (x := .none) rfl (wpAny_pure ?_))
  simp only [if_true]
  refine wpAny_bind (wpAny_rule (wpAny_bind (wpAny_field gz rfl (x := .ref o) rfl (wpAny_bind (wpAny_setField_rec gz (by simp) fun g1 z1 s1 => ?_)))))
  replace z1 : IsZip g1 z u o .ellipsis := z1
  have e1 := s1.extBut
  refine wpAny_bind ?_
  simp only [List.zipIdx_cons, List.zipIdx_nil, List.forIn_cons, List.forIn_nil]
  -- the one, out of the list
  refine wpAny_bind (wpAny_bind (wpAny_onRaise ?_))
  show wpAny _ _ (Builtin.SmallTypes.nextOf (.ref j) >>= fun _ => _) _ _ _
  refine wpAny_bind (wpAny_nextOf_list_item (gj.extBut e1 D.i1z) (ga.extBut e1 D.l1z) ex fun g2 j2 s2 => wpAny_pure ?_)
  have e2 := s2.extBut
  have o2 : IsPair g2 o c d := e2 _ _ D.TOi1 (e1 _ _ D.TOz go)
  refine wpAny_bind (wpAny_seqItems o2 rfl (wpAny_bind (wpAny_updateSeq_pair o2 fun g3 o3 s3 => wpAny_bind (wpAny_letGo (wpAny_pure ?_)))))
  replace o3 : IsPair g3 o x d := o3
  have e3 := s3.extBut
  -- the other one, out of the tuple
  refine wpAny_bind (wpAny_bind (wpAny_onRaise ?_))
  show wpAny _ _ (Builtin.SmallTypes.nextOf (.ref k) >>= fun _ => _) _ _ _
  refine wpAny_bind (RZ.nextOf_tuple_item (((gk.extBut e1 D.i2z).extBut e2 D.i12.symm).extBut e3 D.TOi2.symm) (((gb.extBut e1 D.l2z).extBut e2 D.l2i1).extBut e3 D.l2TO) ey fun g4 k4 s4 => wpAny_pure ?_)
  have e4 := s4.extBut
  have o4 : IsPair g4 o x d := e4 _ _ D.TOi2 o3
  refine wpAny_bind (wpAny_seqItems o4 rfl (wpAny_bind (wpAny_updateSeq_pair o4 fun g5 o5 s5 => wpAny_bind (wpAny_letGo (wpAny_pure (wpAny_pure ?_))))))
  replace o5 : IsPair g5 o x y := o5
  have e5 := s5.extBut
  refine wpAny_bind (wpAny_seqItems o5 rfl (wpAny_bind (wpAny_newTuple ?_)))
  have n5 : g5.objs.size = s.heap.objs.size := (((s5.1.trans s4.1).trans s3.1).trans s2.1).trans s1.1
  have z5 : IsZip g5 z u o .ellipsis := e5 _ _ D.TOz.symm (e4 _ _ D.i2z.symm (e3 _ _ D.TOz.symm (e2 _ _ D.i1z.symm z1)))
  have old5 : Old z o j k s.heap g5 := fun r t r1 r2 r3 r4 e => e5 _ _ r2 (e4 _ _ r4 (e3 _ _ r2 (e2 _ _ r3 (e1 _ _ r1 e))))
  have j5 : g5.IsListIter j a (p + 1) := ((j2.extBut e3 D.TOi1.symm).extBut e4 D.i12).extBut e5 D.TOi1.symm
  have k5 : g5.IsTupleIter k b (q + 1) := k4.extBut e5 D.TOi2.symm
  have lz : z < g5.objs.size := Heap.lt_size z5
  -- the pair is handed out
  show wpAny _ _ (Builtin.SmallTypes.ownedTupleHandOut (.ref z) (.ref g5.objs.size) >>= fun _ => _) _ _ _
  refine wpAny_bind ?_
  unfold Builtin.SmallTypes.ownedTupleHandOut
  have z6 : IsZip (g5.push { cls := .type "tuple", data := .seq #[x, y] }) z u o .ellipsis := Heap.get?_push_of_some _ z5
  refine wpAny_bind (wpAny_setField_rec z6 (by simp) fun g7 z7 s7 => ?_)
  replace z7 : IsZip g7 z u o (rawInt g5.objs.size) := z7
  refine wpAny_setField_rec z7 (by simp) fun g8 z8 s8 => ?_
  replace z8 : IsZip g8 z u o (rawInt g5.objs.size) := z8
  have up : ∀ r t, r ≠ z → g5.get? r = some t → g8.get? r = some t := fun r t r1 e => s8.extBut _ _ r1 (s7.extBut _ _ r1 (Heap.get?_push_of_some _ e))
  have t8 : IsPair g8 g5.objs.size x y := s8.extBut _ _ (Nat.ne_of_gt lz) (s7.extBut _ _ (Nat.ne_of_gt lz) (Heap.get?_push_size _ rfl))
  have n8 : g8.objs.size = g5.objs.size + 1 := by rw [s8.1, s7.1, Heap.size_push]
  rw [n5] at z8 t8 n8
  refine wpAny_pure ⟨_, rfl, ?_⟩
  show Q (.ref g5.objs.size) _
  rw [n5]
  exact fin g8 z8 (up _ _ D.TOz o5) (j5.at fun t e => up _ t D.i1z e) (k5.at fun t e => up _ t D.i2z e) t8 n8 fun r t r1 r2 r3 r4 e => up r t r1 (old5 r t r1 r2 r3 r4 e)
theorem zt_end {Q : Fin → Shared → Prop} (hh : A.handled = none) (D : ZipApart z u o j k a b) (Z : Zt s.heap z u o j k a b p q xs ys c d) (en : xs[p]? = none ∨ ys[q]? = none)
    (fin : ∀ h' e, Old z o j k s.heap h' → (∃ t, h'.get? e = some t ∧ t.cls = .type "StopIteration") → E (.ref e) { s with heap := h' }) :
    wpAny (model prog w) A (Builtin.«zip.__next__» ⟨[.ref z], []⟩) Q E s := by
  obtain ⟨gz, gu, go, gj, gk, ga, gb⟩ := Z
  show wpAny _ _ (field (.ref z) 2 >>= fun _ => _) _ _ _
  refine wpAny_bind (wpAny_field gz rfl (x := .bool false) rfl ?_)
  show wpAny _ _ (field (.ref z) 3 >>= fun _ => _) _ _ _
  refine wpAny_bind (wpAny_field gz rfl (x := .ref u) rfl ?_)
  refine wpAny_bind (wpAny_seqItems gu rfl ?_)
  show wpAny _ _ (Builtin.SmallTypes.ownedTupleIsFree (.ref z) >>= fun _ => _) _ _ _
  apply wpAny_bind
  unfold Builtin.SmallTypes.ownedTupleIsFree
  refine wpAny_bind (wpAny_field gz rfl (x := .none) rfl (wpAny_pure ?_))
  simp only [if_true]
  refine wpAny_bind (wpAny_rule (wpAny_bind (wpAny_field gz rfl (x := .ref o) rfl (wpAny_bind (wpAny_setField_rec gz (by simp) fun g1 z1 s1 => ?_)))))
  replace z1 : IsZip g1 z u o .ellipsis := z1
  have e1 := s1.extBut
  refine wpAny_bind ?_
  simp only [List.zipIdx_cons, List.zipIdx_nil, List.forIn_cons, List.forIn_nil]
  refine wpAny_bind (wpAny_bind (wpAny_onRaise ?_))
  show wpAny _ _ (Builtin.SmallTypes.nextOf (.ref j) >>= fun _ => _) _ _ _
  cases ex : xs[p]? with
  | none =>
    refine wpAny_bind (wpAny_nextOf_list_end hh (gj.extBut e1 D.i1z) (ga.extBut e1 D.l1z) ex fun g2 e e2 he => ?_)
    obtain ⟨t, ht, hc⟩ := he
    have z2 : IsZip g2 z u o .ellipsis := e2 _ _ D.i1z.symm z1
    have ne : e ≠ z := fun x => by subst x; rw [z2] at ht; cases ht; simp at hc
    exact wpAny_setField_rec z2 (by simp) fun g3 _ s3 => fin g3 e (fun r t r1 _ r3 _ x => s3.extBut _ _ r1 (e2 _ _ r3 (e1 _ _ r1 x))) ⟨t, s3.extBut _ _ ne ht, hc⟩
  | some x =>
    have ey : ys[q]? = none := by
      rcases en with f | f
      · rw [ex] at f
        cases f
      · exact f
    refine wpAny_bind (wpAny_nextOf_list_item (gj.extBut e1 D.i1z) (ga.extBut e1 D.l1z) ex fun g2 j2 s2 => wpAny_pure ?_)
    have e2 := s2.extBut
    have o2 : IsPair g2 o c d := e2 _ _ D.TOi1 (e1 _ _ D.TOz go)
    refine wpAny_bind (wpAny_seqItems o2 rfl (wpAny_bind (wpAny_updateSeq_pair o2 fun g3 o3 s3 => wpAny_bind (wpAny_letGo (wpAny_pure ?_)))))
    have e3 := s3.extBut
    refine wpAny_bind (wpAny_bind (wpAny_onRaise ?_))
    show wpAny _ _ (Builtin.SmallTypes.nextOf (.ref k) >>= fun _ => _) _ _ _
    refine wpAny_bind (RZ.nextOf_tuple_end hh (((gk.extBut e1 D.i2z).extBut e2 D.i12.symm).extBut e3 D.TOi2.symm) (((gb.extBut e1 D.l2z).extBut e2 D.l2i1).extBut e3 D.l2TO) ey fun g4 e e4 he => ?_)
    obtain ⟨t, ht, hc⟩ := he
    have z4 : IsZip g4 z u o .ellipsis := e4 _ _ D.i2z.symm (e3 _ _ D.TOz.symm (e2 _ _ D.i1z.symm z1))
    have ne : e ≠ z := fun x => by subst x; rw [z4] at ht; cases ht; simp at hc
    exact wpAny_setField_rec z4 (by simp) fun g5 _ s5 => fin g5 e (fun r t r1 r2 r3 r4 x => s5.extBut _ _ r1 (e4 _ _ r4 (e3 _ _ r2 (e2 _ _ r3 (e1 _ _ r1 x))))) ⟨t, s5.extBut _ _ ne ht, hc⟩
theorem zt_nextI {Q : Option Value → Shared → Prop} (D : ZipApart z u o j k a b) (Z : Zt s.heap z u o j k a b p q xs ys c d) (ex : xs[p]? = some x) (ey : ys[q]? = some y)
    (fin : ∀ h', IsZip h' z u o (rawInt s.heap.objs.size) → IsPair h' o x y → h'.IsListIter j a (p + 1) → h'.IsTupleIter k b (q + 1) → IsPair h' s.heap.objs.size x y → h'.objs.size = s.heap.objs.size + 1 → Old z o j k s.heap h' → Q (some (.ref s.heap.objs.size)) { s with heap := h' }) :
    wpAny (model prog w) A (pyNext (.ref z)) Q E s := by
  have ty : s.TypeIs (.ref z) "zip" := ⟨_, Z.z, rfl⟩
  unfold pyNext
  exact wpAny_bind (wpAny_attempt (wpAny_callSpecial?_slot (name := Str.ofString "__next__") ty F.slot_zip_next (wpAny_call_entry F.slot_zip_next ty F.entry_zip_next (zt_item D Z ex ey fun h' b1 b2 b3 b4 b5 b6 b7 => wpAny_pure (fin h' b1 b2 b3 b4 b5 b6 b7)) (F.args_zip_next_1 _))))
theorem zt_nextE {Q : Option Value → Shared → Prop} (hh : A.handled = none) (D : ZipApart z u o j k a b) (Z : Zt s.heap z u o j k a b p q xs ys c d) (en : xs[p]? = none ∨ ys[q]? = none)
    (fin : ∀ h', Old z o j k s.heap h' → Q none { s with heap := h' }) : wpAny (model prog w) A (pyNext (.ref z)) Q E s := by
  have ty : s.TypeIs (.ref z) "zip" := ⟨_, Z.z, rfl⟩
  unfold pyNext
  refine wpAny_bind (wpAny_attempt (wpAny_callSpecial?_slot (name := Str.ofString "__next__") ty F.slot_zip_next (wpAny_call_entry F.slot_zip_next ty F.entry_zip_next (zt_end hh D Z en fun h' e hk he => ?_) (F.args_zip_next_1 _))))
  obtain ⟨t, ht, hc⟩ := he
  exact wpAny_bind (wpAny_isInstance (T := "StopIteration") (b := true) ⟨t, ht, hc⟩ isSubtype_stop (wpAny_pure (fin _ hk)))
end
abbrev ztA (h : Heap) (a : Addr) : Heap := h.push { cls := .type "list_iterator", data := .fields #[.ref a, .int 0 0] }
abbrev ztB (h : Heap) (a b : Addr) : Heap := (ztA h a).push { cls := .type "tuple_iterator", data := .fields #[.ref b, .int 0 0] }
abbrev ztC (h : Heap) (a b : Addr) : Heap := (ztB h a b).push { cls := .type "tuple", data := .seq #[.ref h.objs.size, .ref (ztA h a).objs.size] }
abbrev ztD (h : Heap) (a b : Addr) : Heap := (ztC h a b).push { cls := .type "tuple", data := .seq #[.none, .none] }
abbrev ztE (h : Heap) (a b : Addr) : Heap := (ztD h a b).push { cls := .type "zip", data := .fields #[.none, .bool false, .bool false, .ref (ztB h a b).objs.size, .ref (ztC h a b).objs.size] }
theorem zt_new (a b : Addr) (xs ys : Array Value) : Meets (Builtin.«zip.__new__» ⟨[.type "zip", .ref a, .ref b], []⟩) (fun _ R s => s.heap.IsList a xs ∧ s.heap.IsTuple b ys ∧ R (.ok (.ret (.ref (ztD s.heap a b).objs.size))) { s with heap := ztE s.heap a b }) :=
  .of_wp fun prog w A R s h => by
    obtain ⟨hp, g, d, tk, os⟩ := s
    obtain ⟨ha, hb, h⟩ := h
    have hsub := sub_zip
    have qa : Heap.IsList (Shared.heap ⟨hp, g, d, tk, os⟩) a xs := ha
    have qb : Heap.IsTuple (Shared.heap ⟨ztA hp a, g, d, tk, os⟩) b ys := Heap.IsTuple.push hb _
    wp_walk using wpAny_pyIter_list qa, wpAny_pyIter_tuple qb
    exact ⟨_, rfl, h⟩
section
variable {prog : Program} {w : World} {A : Around} {E : Value → Shared → Prop} {s : Shared}
theorem zt_call {a b : Addr} {xs ys : Array Value} {Q : Value → Shared → Prop} (ha : s.heap.IsList a xs) (hb : s.heap.IsTuple b ys)
    (fin : ∀ h' n, n = s.heap.objs.size → Zt h' (n + 4) (n + 2) (n + 3) n (n + 1) a b 0 0 xs ys .none .none → (∀ r t, s.heap.get? r = some t → h'.get? r = some t) → Q (.ref (n + 4)) { s with heap := h' }) :
    wpAny (model prog w) A (call (.type "zip") [.ref a, .ref b]) Q E s := by
  refine callType_new F.called_zip (by decide) (F.typeCall_zip_2 _ _) (F.newCall_zip_2 _ _) (fun obj => F.args_object_init_3 obj _ _) F.entry_zip_new (zt_new a b xs ys) ⟨ha, hb, ?_⟩
  obtain ⟨n, hn⟩ : ∃ n, n = s.heap.objs.size := ⟨_, rfl⟩
  have sA : (ztA s.heap a).objs.size = n + 1 := by rw [hn]; exact Heap.size_push ..
  have sB : (ztB s.heap a b).objs.size = n + 2 := by rw [Heap.size_push, sA]
  have sC : (ztC s.heap a b).objs.size = n + 3 := by rw [Heap.size_push, sB]
  have sD : (ztD s.heap a b).objs.size = n + 4 := by rw [Heap.size_push, sC]
  have up : ∀ {h : Heap} {r : Addr} {t t' : Obj}, h.get? r = some t → (h.push t').get? r = some t := fun e => Heap.get?_push_of_some _ e
  have qE : (ztE s.heap a b).get? (ztD s.heap a b).objs.size = some _ := Heap.get?_push_size _ rfl
  have qD : (ztE s.heap a b).get? (ztC s.heap a b).objs.size = some _ := up (Heap.get?_push_size _ rfl)
  have qC : (ztE s.heap a b).get? (ztB s.heap a b).objs.size = some _ := up (up (Heap.get?_push_size _ rfl))
  have qB : (ztE s.heap a b).get? (ztA s.heap a).objs.size = some _ := up (up (up (Heap.get?_push_size _ rfl)))
  have qA : (ztE s.heap a b).get? s.heap.objs.size = some _ := up (up (up (up (Heap.get?_push_size _ rfl))))
  have old : ∀ r t, s.heap.get? r = some t → (ztE s.heap a b).get? r = some t := fun r t e => up (up (up (up (up e))))
  rw [sB, sC, sD] at qE
  rw [← hn, sA, sB] at qC
  rw [sC] at qD
  rw [sA] at qB
  rw [← hn] at qA
  have done := fin (ztE s.heap a b) n hn ⟨qE, qC, qD, ⟨_, qA, rfl, rfl⟩, ⟨_, qB, rfl, rfl⟩, ha.at fun t e => old _ t e, hb.at fun t e => old _ t e⟩ old
  show _ ∧ _
  rw [sD]
  exact ⟨⟨_, qE, rfl⟩, done⟩
end
end Zj
/-! zip of a list with a tuple, turn by turn. -/
namespace Zj
open PySem PySem.Spec PyProof.Rows L2
variable [Nm]
def ItzN (K : PySem.W.Frag) (a b : Addr) : It where
  go i H := ∃ (l m : List V) (x y : V), SqL K H a l ∧ SqT K H b m ∧ l[i]? = some x ∧ m[i]? = some y
  yld i H v H' := ∃ r x y, v = .ref r ∧ H r = none ∧ H' = upd H r (.tup [x, y]) ∧ (∀ l, SqL K H a l → l[i]? = some x) ∧ ∀ m, SqT K H b m → m[i]? = some y
  stop i H := ∃ l m : List V, SqL K H a l ∧ SqT K H b m ∧ (l.length ≤ i ∨ m.length ≤ i)
/-- where such a zip stands: what it keeps, at turn i -/
def ZtS (z u o j k a b : Addr) (i : Nat) (h : Heap) : Prop := IsZip h z u o .none ∧ IsPair h u (.ref j) (.ref k) ∧ (∃ c d, IsPair h o c d) ∧ h.IsListIter j a i ∧ h.IsTupleIter k b i
theorem turn_zt {P : Program} {w : World} {K : PySem.W.Frag} {elts : List Expr} {n : Nat} {tpos : Pos} {z u o j k a b : Addr} (D : ZipApart z u o j k a b) : Turn P w K (.Tuple elts n tpos) (ItzN K a b) [z, u, o, j, k] z (ZtS z u o j k a b) where
  mem := List.mem_cons_self
  obj := fun i h st c hc => by
    obtain ⟨gz, gu, ⟨_, _, go⟩, ⟨t1, f1, _, d1⟩, ⟨t2, f2, _, d2⟩⟩ := st
    rcases five hc with rfl | rfl | rfl | rfl | rfl
    · exact ⟨_, gz, fun v q => nomatch q⟩
    · exact ⟨_, gu, fun v q => nomatch q⟩
    · exact ⟨_, go, fun v q => nomatch q⟩
    · exact ⟨t1, f1, fun v q => by rw [d1] at q; cases q⟩
    · exact ⟨t2, f2, fun v q => by rw [d2] at q; cases q⟩
  keep := fun i h h' st up => by
    obtain ⟨gz, gu, ⟨_, _, go⟩, gj, gk⟩ := st
    exact ⟨up z (by simp) _ gz, up u (by simp) _ gu, ⟨_, _, up o (by simp) _ go⟩, gj.at fun t q => up j (by simp) t q, gk.at fun t q => up k (by simp) t q⟩
  item := by
    intro X eP ew eK hc i pins s σ H E I hf st hg
    subst eP ew eK
    obtain ⟨gz, gu, ⟨_, _, go⟩, gj, gk⟩ := st
    obtain ⟨l, m, x, y, ql, qm, hx, hy⟩ := hg
    obtain ⟨ts, rl, pa, _⟩ := I.list ql
    obtain ⟨us, rm, pb, _⟩ := I.tuple qm
    obtain ⟨v1, h1, r1⟩ := rl.get hx
    obtain ⟨v2, h2, r2⟩ := rm.get hy
    have lz : z < s.heap.objs.size := Heap.lt_size gz
    refine zt_nextI D ⟨gz, gu, go, gj, gk, pa.isList, pb⟩ (x := v1) (y := v2) (by simpa using h1) (by simpa using h2) fun h' z1 o1 j1 k1 t1 _ old => ?_
    refine ⟨_, rfl, wpAny_letOwnedTupleGo_zip (s := { s with heap := h' }) z1 fun h'' z2 sb => ?_⟩
    have t2 : h''.get? s.heap.objs.size = some { cls := .type "tuple", data := .seq #[v1, v2] } := (sb.2 _ (Nat.ne_of_gt lz)).trans t1
    have fresh : ObjOk X.prog X.w (upd H s.heap.objs.size (.tup [x, y])) h'' s.heap.objs.size (.tup [x, y]) := ⟨by show 2 ≤ sizeLine; decide, [v1, v2], .cons r1 (.cons r2 .nil), ⟨_, t2, rfl, _, rfl⟩⟩
    have I' : Inv X pins σ (upd H s.heap.objs.size (.tup [x, y])) { s with heap := h'' } := I.turnedNew (t' := s.toks) (ch := [z, u, o, j, k])
      (fun c t no q => (sb.2 c (fun e => no (by simp [e]))).trans (old c t (fun e => no (by simp [e])) (fun e => no (by simp [e])) (fun e => no (by simp [e])) (fun e => no (by simp [e])) q)) hf (Nat.le_refl _) fresh
    refine ⟨.ref s.heap.objs.size, _, I', rfl, ⟨_, x, y, rfl, I.hok.fresh (Nat.le_refl _), rfl, fun l' hl => by rw [I.list_inj hl ql]; exact hx, fun m' hm => by rw [I.tuple_inj hm qm]; exact hy⟩, ⟨z2, ?_, ⟨v1, v2, ?_⟩, ?_, ?_⟩, fun c hcm => ?_⟩
    · exact (sb.2 _ D.TIz).trans (old _ _ D.TIz D.TITO D.TIi1 D.TIi2 gu)
    · exact (sb.2 _ D.TOz).trans o1
    · exact j1.at fun t q => (sb.2 _ D.i1z).trans q
    · exact k1.at fun t q => (sb.2 _ D.i2z).trans q
    · have lt : c < s.heap.objs.size := by
        obtain ⟨_, f1, _⟩ := gj
        obtain ⟨_, f2, _⟩ := gk
        rcases five hcm with rfl | rfl | rfl | rfl | rfl
        · exact lz
        · exact Heap.lt_size gu
        · exact Heap.lt_size go
        · exact Heap.lt_size f1
        · exact Heap.lt_size f2
      rw [upd_ne (Nat.ne_of_lt lt)]
      exact (hf c hcm).1
  done := by
    intro X eP ew eK hc i pins s σ H E I hf st hg
    subst eP ew eK
    obtain ⟨gz, gu, ⟨_, _, go⟩, gj, gk⟩ := st
    obtain ⟨l, m, ql, qm, en⟩ := hg
    obtain ⟨ts, rl, pa, _⟩ := I.list ql
    obtain ⟨us, rm, pb, _⟩ := I.tuple qm
    have n1 := rl.length
    have n2 := rm.length
    have en' : ts.toArray[i]? = none ∨ us.toArray[i]? = none := en.imp (fun q => by simp; omega) fun q => by simp; omega
    exact zt_nextE (I.ok.hd hc) D ⟨gz, gu, go, gj, gk, pa.isList, pb⟩ en' fun h' old => ⟨rfl, I.turnedL (t' := s.toks) (ch := [z, u, o, j, k])
      (fun c t no q => old c t (fun e => no (by simp [e])) (fun e => no (by simp [e])) (fun e => no (by simp [e])) (fun e => no (by simp [e])) q) hf⟩
  self := fun A i s Q E st h => wpAny_pyIter_zip st.1 h
def iZt (K : PySem.W.Frag) (ta : TA) : TI := fun σ H R => ta σ H fun vs H1 => ∃ a b l m, vs = [.ref a, .ref b] ∧ SqL K H1 a l ∧ SqT K H1 b m ∧ R (ItzN K a b) H1
theorem pi_zt {X : Cx} {e f : Expr} {ta : TA} {p pos tpos : Pos} {elts : List Expr} {n : Nat} (hg : Gl X "zip") (hm : X.mg "zip" = none) (ha : PA X [e, f] ta) (hs : starEach [e, f] X.env = (false, eval e X.env) :: starEach [f] X.env) (hpl : (backTo pos (starEach [f] X.env)).any (·.1) = false) :
    PI X (.Tuple elts n tpos) (.Call (.Name "zip" p) [e, f] [] pos) (iZt X.K ta) := by
  refine ⟨fun pins s σ H R I h => Call_ (ld_blt I hg hm PyProof.Rows.boot_zip (PyProof.Rows.callWith_type1 (thn (ha.run pos pins s σ H _ I h) fun us s1 got => ?_) hs hpl))⟩
  obtain ⟨vs, H1, I1, r1, a, b, l, m, rfl, ql, qm, q⟩ := got
  cases r1 with
  | cons r r1 =>
    cases r1 with
    | cons r' r1 =>
      cases r1
      cases r
      cases r'
      obtain ⟨ts, rl, pa, _⟩ := I1.list ql
      obtain ⟨us, rm, pb, _⟩ := I1.tuple qm
      obtain ⟨t, ht, _⟩ := id pb
      refine zt_call pa.isList pb fun h' n hn Z up => wpAny_pyIter_zip Z.z ?_
      have al : a < n := hn ▸ pa.lt
      have bl : b < n := hn ▸ Heap.lt_size ht
      refine ⟨n + 4, [n + 4, n + 2, n + 3, n, n + 1], _, _, H1, rfl, I1.kept (t' := s1.toks) up, turn_zt (PySem.W.ktu_apart n a b al bl), ⟨Z.z, Z.u, ⟨_, _, Z.o⟩, Z.j, Z.k⟩, fun c hc => ?_, q⟩
      have hle : s1.heap.objs.size ≤ c := by
        rw [← hn]
        rcases five hc with rfl | rfl | rfl | rfl | rfl <;> first | exact Nat.le_refl _ | exact Nat.le_add_right _ _
      exact I1.fpOk hle (I1.hok.fresh hle)
theorem walk_zt {K : PySem.W.Frag} {a b : Addr} {xs ys : List V} {n : Nat} (hn : n = min xs.length ys.length) : Walk (ItzN K a b) n (fun H => SqL K H a xs ∧ SqT K H b ys) (YPair (fun i => xs[i]?) (fun i => ys[i]?)) := by
  subst hn
  refine ⟨fun i H hi q => ?_, fun H q => ⟨xs, ys, q.1, q.2, by omega⟩, fun i H v H' _ q y => ?_⟩
  · exact ⟨xs, ys, xs[i]'(by omega), ys[i]'(by omega), q.1, q.2, by simp, by simp⟩
  · obtain ⟨r, x, y, h1, h2, h3, h4, h5⟩ := y
    exact ⟨r, x, y, h1, h2, h3, h4 xs q.1, h5 ys q.2⟩
section
variable {X : Cx} {a : Addr} {ρ : Rho} {e f : Expr} {ds es : List PyData} {p pos tpos : Pos} {elts : List Expr} {n : Nat}
theorem src_ZN (h : EvA X a [e, f] ρ [.list ds, .tuple es]) (hm : X.mg "zip" = none) (hg : Gl X "zip" := by rfl) (hs : starEach [e, f] X.env = (false, eval e X.env) :: starEach [f] X.env := by exact star_of rfl) (hpl : (backTo pos (starEach [f] X.env)).any (·.1) = false := by exact star_no rfl) :
    Src X a (.Tuple elts n tpos) (.Call (.Name "zip" p) [e, f] [] pos) ρ (List.zipWith (fun x y => PyData.tuple [x, y]) ds es) := ⟨_, pi_zt hg hm ja hs hpl, fun T σ H S R k => h T σ H S _ fun vs H1 s1 p1 => by
  obtain ⟨v, u, rfl, q1, q2⟩ := dps2 p1
  obtain ⟨pa, xs, rfl, g1, g2⟩ := dp_lst q1
  obtain ⟨pb, ys, rfl, g3, g4⟩ := dp_tup q2
  have l1 := dps_len g2
  have l2 := dps_len g4
  refine ⟨pa, pb, xs, ys, rfl, same_l off_in _ _ g1, same_t off_in _ _ g3, k _ H1 _ _ s1 (walk_zt (xs := xs) (ys := ys) (by rw [List.length_zipWith, l1, l2])) (fun T' H' s => ⟨same_l off_in _ _ (same_l s.2 _ _ g1), same_t off_in _ _ (same_t s.2 _ _ g3)⟩) fun T' i H' x H'' hin s y => ?_⟩
  obtain ⟨r, x1, x2, rfl, hr, rfl, e1, e2⟩ := y
  have e1 : xs[i]? = some x1 := e1
  have e2 : ys[i]? = some x2 := e2
  have i1 := (List.getElem?_eq_some_iff.mp e1).1
  have i2 := (List.getElem?_eq_some_iff.mp e2).1
  have d1 : ds[i]? = some (ds[i]'(by omega)) := by simp
  have d2 : es[i]? = some (es[i]'(by omega)) := by simp
  obtain ⟨_, f1, w1⟩ := dps_get g2 d1
  obtain ⟨_, f2, w2⟩ := dps_get g4 d2
  rw [e1] at f1
  cases f1
  rw [e2] at f2
  cases f2
  exact ⟨same_new hr, _, by rw [List.getElem?_zipWith, d1, d2], dpo_pair s.1 hr (dp_same s.2 w1) (dp_same s.2 w2)⟩⟩
end
end Zj
/-! Own classes of exceptions without fields; defs of four arguments. -/
namespace Zj
open PySem PySem.Spec PyProof.Rows L2
/-- an own class of exceptions that keeps nothing -/
structure Cd0 (K : PySem.W.Frag) (x : Str) (C : Addr) : Prop where
  a : PySem.W.nsIn K mainGlobals x = some (some (.ref C))
  e : PySem.W.excIn K C [.type "ValueError", .type "Exception", .type "BaseException", .type "object"] "ValueError.__new__" = true
  k : PySem.W.keepIn K (.ref C) = true
  s : PySem.W.subIn K (.ref C) (.type "BaseException") = some true
  t : PySem.W.typeIn K (.ref C) = some (.type "type")
  hd : PySem.W.hasDictIn K C = true
section
variable {K : PySem.W.Frag} {h : Heap} {mg : Str → Option Value} {x y : Str} {C D : Addr}
theorem clsP_mk (X : K.In h) (G : h.Ns mainGlobals mg) (d : Cd0 K x C) : ClsP K mg x := ⟨C, "ValueError", "ValueError.__new__", "ValueError.__init__", _, PySem.W.mg_of X G d.a, PySem.F.excBase_ValueError, d.e, d.k, d.s, d.t⟩
theorem exm0_mk {b : Bool} (X : K.In h) (G : h.Ns mainGlobals mg) (dx : PySem.W.nsIn K mainGlobals x = some (some (.ref C))) (d : Cd0 K y D) (s : PySem.W.subIn K (.ref C) (.ref D) = some b) : Exm K mg x y b :=
  ⟨C, D, PySem.W.mg_of X G dx, PySem.W.mg_of X G d.a, PySem.W.exm_ref d.s d.hd d.t s⟩
end
theorem tk4 {st : Stmt} {x a b c d : Str} (e : ∀ (kV doc pm : Value) (an : Option Addr) (cdv ct u v z z' : Value), bindArgs (PySem.W.fnOf x x (defArgs st) (defBody st) (defScope st) .none kV doc pm an cdv ct) ⟨[u, v, z, z'], []⟩ = pure [(a, u), (b, v), (c, z), (d, z')]) : Tk st x [a, b, c, d] := fun kV doc pm an cdv ct us hl => by
  match us, hl with
  | [u, v, z, z'], _ => exact e kV doc pm an cdv ct u v z z'
end Zj
/-! An own class of exceptions called with names: the object is made, then its __init__ hears the names. -/
namespace Zj
open PySem PySem.Spec PySem.HandSPX
section
variable {p : Program} {wd : World} {ar : Around} {er : Value → Shared → Prop} {hp : Heap} {gs : Array GenState} {dr : Drawn} {tk : Nat} {os : OsState}
variable {n1 n2 : Str} {cl ns fI : Addr} {b1 b2 : List Value} {hd : Bool} {sl : List Str} {sb : List Value} {ab : Bool} {co : Option Bool} {dd : Option Addr} {m0 m1 m2 m3 m5 : Option Value} {us : List Value} {kw : List (Str × Value)}
def VEs : List Value := [.type "ValueError", .type "Exception", .type "BaseException", .type "object"]
theorem kw_check {Q : Unit → Shared → Prop} (hv : ∀ T : String, b2.contains (.type T) = VEs.contains (.type T)) (at_ : hp.get? cl = some (excClassObj n1 n2 cl ns b1 b2 hd sl sb ab co dd m0 m1 m2 m3 m5 "ValueError.__new__")) (q : Q () ⟨hp, gs, dr, tk, os⟩) :
    wpAny (model p wd) ar (checkBuiltinCall "ValueError.__new__" ⟨.ref cl :: us, kw⟩) Q er ⟨hp, gs, dr, tk, os⟩ := by
  have Z := PySem.F.excBase_ValueError
  have z1 : (Value.ref cl :: b2).contains (.type "ValueError") = true := by rw [List.contains_cons, hv, show VEs.contains (.type "ValueError") = true from by decide +kernel, Bool.or_true]
  have z2 := Z.noStar
  simp only [checkBuiltinCall, Z.newKind, Z.newSplit, Z.newRow]
  repeat' (first | refine wpAny_loadPart_at at_ ?_ | (refine wpAny_isSubtype_exc at_ ?_; rw [z1]) | refine wpAny_staticBase_exc at_ ?_ | refine wpAny_madeBy_exc at_ ?_ | simp only [bne_self_eq_false, Bool.false_eq_true, if_false] | wp_step)
  exact q
theorem kw_new {R : Result → Shared → Prop} (hv : ∀ T : String, b2.contains (.type T) = VEs.contains (.type T)) (at_ : hp.get? cl = some (excClassObj n1 n2 cl ns b1 b2 hd sl sb ab co dd m0 m1 m2 m3 m5 "ValueError.__new__")) (hz : us.length ≤ sizeLine)
    (q : R (.ok (.ret (.ref (hp.objs.size + 1)))) ⟨(hp.push (PySem.W.kdv_tup us)).push (excO cl hp.objs.size), gs, dr, tk, os⟩) : codeAny (model p wd) ar (.builtin "ValueError.__new__" ⟨.ref cl :: us, kw⟩) R ⟨hp, gs, dr, tk, os⟩ := by
  have Z := PySem.F.excBase_ValueError
  have z0 := Z.ends
  have z1 : (Value.ref cl :: b2).contains (.type "ValueError") = true := by rw [List.contains_cons, hv, show VEs.contains (.type "ValueError") = true from by decide +kernel, Bool.or_true]
  have z2 : (Value.ref cl :: b2).contains (.type "AttributeError") = false := by rw [List.contains_cons, hv, show VEs.contains (.type "AttributeError") = false from by decide +kernel] <;> rfl
  have z3 : (Value.ref cl :: b2).contains (.type "NameError") = false := by rw [List.contains_cons, hv, show VEs.contains (.type "NameError") = false from by decide +kernel] <;> rfl
  refine codeAny_builtinAt Z.entry ?_
  unfold Builtin.«BaseException.__new__»
  refine PySem.wpAt_bind (show PySem.wpAt _ _ _ (stack >>= _) _ _ _ from PySem.wpAt_bind (PySem.wpAt_stack fun top below => PySem.wpAt_of_wpAny ?_))
  wp_walk
  refine PySem.wpAt_of_wpAny (by
    rw [Z.owner]
    repeat' (first | with_reducible refine wpAny_madeHere_exc Z.canon at_ ?_ | with_reducible refine wpAny_loadPart_at at_ ?_ | (with_reducible refine wpAny_isSubtype_exc at_ ?_; first | rw [z1] | rw [z2] | rw [z3]) | wp_step)
    show R (.ok (.ret (.ref (hp.push (PySem.W.kdv_tup us)).objs.size))) _
    rw [Heap.size_push]
    exact q)
theorem kw_type {Q : PySem.Fin → Shared → Prop} (hv : ∀ T : String, b2.contains (.type T) = VEs.contains (.type T)) (at_ : hp.get? cl = some (excClassObj n1 n2 cl ns b1 b2 hd sl sb ab co dd m0 m1 m2 m3 m5 "ValueError.__new__")) (hz : us.length ≤ sizeLine)
    (l1 : PySem.W.Looks (model p wd) hp (typeLookup (.ref cl) "__init__") (some (.ref fI))) (l2 : ∀ u, PySem.W.Looks (model p wd) hp (bindSpecial (.ref fI) u) (.ref fI, [u]))
    (q : codeAny (model p wd) ar (.call (.ref fI) ⟨.ref (hp.objs.size + 1) :: us, kw⟩) (fun r s' => match r with | .ok (.ret v) => v = .none ∧ Q (.done (.ret (.ref (hp.objs.size + 1)))) s' | .ok _ => False | .error e => er e s')
      ⟨(hp.push (PySem.W.kdv_tup us)).push (excO cl hp.objs.size), gs, dr, tk, os⟩) : wpAny (model p wd) ar (Builtin.«type.__call__» ⟨.ref cl :: us, kw⟩) Q er ⟨hp, gs, dr, tk, os⟩ := by
  repeat' (first | with_reducible refine wpAny_loadPart_at at_ ?_ | with_reducible refine wpAny_madeBy_exc at_ ?_ | wp_step)
  refine codeAny_call_builtin_code (Code.quiet_builtin _ PySem.F.excBase_ValueError.quiet) (kw_check hv at_ (kw_new hv at_ hz (show wpAny _ _ _ _ _ _ from ?_)))
  have up : ∀ b o, hp.get? b = some o → ((hp.push (PySem.W.kdv_tup us)).push (excO cl hp.objs.size)).get? b = some o := fun b o e => Heap.get?_push_of_some _ (Heap.get?_push_of_some _ e)
  have at1 := up _ _ at_
  have at2 : ((hp.push (PySem.W.kdv_tup us)).push (excO cl hp.objs.size)).get? (hp.objs.size + 1) = some (excO cl hp.objs.size) := by heap_get
  have z4 : (Value.ref cl :: b2).contains (.ref cl) = true := by simp
  unfold isInstance
  repeat' (first | with_reducible refine wpAny_loadPart_at at2 ?_ | (with_reducible refine wpAny_isSubtype_exc at1 ?_; rw [z4]) | wp_step)
  refine (show wpAny _ _ (typeLookup (.ref cl) _) _ _ _ from (l1.keeps up).at (wpAny_holding (wpAny_bind (((l2 (.ref (hp.objs.size + 1))).keeps up).at (wpAny_bind (wpAny_call (codeAny_mono q fun r s' y => ?_)))))))
  match r, y with
  | .error e, y => exact y
  | .ok .next, y => exact y.elim
  | .ok .brk, y => exact y.elim
  | .ok .cont, y => exact y.elim
  | .ok (.ret v), y =>
    obtain ⟨rfl, y⟩ := y
    first
      | exact wpAny_pure (wpAny_pure y)
      | (wp_walk; exact y)
theorem kw_own {R : Result → Shared → Prop} (hv : ∀ T : String, b2.contains (.type T) = VEs.contains (.type T)) (at_ : hp.get? cl = some (excClassObj n1 n2 cl ns b1 b2 hd sl sb ab co dd m0 m1 m2 m3 m5 "ValueError.__new__")) (hz : us.length ≤ sizeLine)
    (l1 : PySem.W.Looks (model p wd) hp (typeLookup (.ref cl) "__init__") (some (.ref fI))) (l2 : ∀ u, PySem.W.Looks (model p wd) hp (bindSpecial (.ref fI) u) (.ref fI, [u]))
    (q : codeAny (model p wd) (ar.under (.builtin "type.__call__" ⟨.ref cl :: us, kw⟩)) (.call (.ref fI) ⟨.ref (hp.objs.size + 1) :: us, kw⟩) (PySem.W.InitBack (hp.objs.size + 1) R) ⟨(hp.push (PySem.W.kdv_tup us)).push (excO cl hp.objs.size), gs, dr, tk, os⟩) :
    codeAny (model p wd) ar (.call (.ref cl) ⟨us, kw⟩) R ⟨hp, gs, dr, tk, os⟩ := by
  have z5 := tc_lookup
  have z6 := tc_bind (.ref cl)
  have z7 : (⟨hp, gs, dr, tk, os⟩ : Shared).TypeIs (.ref cl) "type" := ⟨_, at_, rfl⟩
  refine codeAny_of_tree (show wpAny _ _ (callAny (.ref cl) _) _ _ _ from ?_)
  repeat' (any_goals (first | assumption | with_reducible refine wpAny_loadPart_at at_ ?_ | wp_step))
  refine ⟨rfl, codeAny_call_builtin_at (Code.quiet_builtin _ (by decide +kernel)) entry_typeCall (wpAny_check_type_call_sub at_ (kw_type hv at_ hz l1 l2 (codeAny_mono q fun r s' y => ?_)))⟩
  match r, y with
  | .error e, y => exact y
  | .ok .next, y => exact y
  | .ok .brk, y => exact y
  | .ok .cont, y => exact y
  | .ok (.ret v), y => exact y
end
end Zj
/-! Exceptions as values: made, kept in tuples and lists, asked of their class, their fields read. -/
namespace Zj
open PySem PySem.Spec PyProof.Rows L2
variable [Nm]
/-! ### what is known of a value -/
theorem dp_per {K : PySem.W.Frag} {H H' : Hp} {d : PyData} {v : V} (s : ∀ b o, H b = some o → Kd o → H' b = some o) (h : Dp K H v d) : Dp K H' v d := by
  refine dp_map (fun b xs h => ?_) (fun b xs h => ?_) d v h
  · rcases h with (h | ⟨o, h⟩) | h
    · exact .inl (.inl (s _ _ h ⟨fun _ z => (nomatch z), fun _ z => (nomatch z)⟩))
    · exact .inl (.inr ⟨o, s _ _ h ⟨fun _ z => (nomatch z), fun _ z => (nomatch z)⟩⟩)
    · exact .inr h
  · rcases h with (h | ⟨o, h⟩) | h
    · exact .inl (.inl (s _ _ h ⟨fun _ z => (nomatch z), fun _ z => (nomatch z)⟩))
    · exact .inl (.inr ⟨o, s _ _ h ⟨fun _ z => (nomatch z), fun _ z => (nomatch z)⟩⟩)
    · exact .inr h
def datV (K : PySem.W.Frag) (d : PyData) : VR := ⟨fun H v => Dp K H v d, fun s h => dp_per s h⟩
theorem kd_ext {φ : Heap → Prop} : Kd (.ext φ) := ⟨fun _ z => (nomatch z), fun _ z => (nomatch z)⟩
theorem kd_exo {e C : Addr} {d : Option Addr} : Kd (exo e C d) := kd_ext
theorem kd_exd {e : Addr} {fs : List (Str × V)} : Kd (exd e fs) := kd_ext
/-- at e: an exception of the class at C -/
def ErrAt (H : Hp) (e C : Addr) : Prop := H e = some (exo e C none) ∨ ∃ dx gs, H e = some (exo e C (some dx)) ∧ H dx = some (exd dx gs)
def errV (K : PySem.W.Frag) (C : Addr) (fs : List (Str × PyData)) : VR :=
  ⟨fun H v => ∃ e, v = .ref e ∧ ((fs = [] ∧ H e = some (exo e C none)) ∨ ∃ dx gs, H e = some (exo e C (some dx)) ∧ H dx = some (exd dx gs) ∧ ∀ p ∈ fs, ∃ u, gs.lookup p.1 = some u ∧ Dp K H u p.2), fun s h => by
    obtain ⟨e, rfl, h⟩ := h
    refine ⟨e, rfl, ?_⟩
    rcases h with ⟨h0, h1⟩ | ⟨dx, gs, h1, h2, h3⟩
    · exact .inl ⟨h0, s _ _ h1 kd_exo⟩
    · refine .inr ⟨dx, gs, s _ _ h1 kd_exo, s _ _ h2 kd_exd, fun p hp => ?_⟩
      obtain ⟨u, g1, g2⟩ := h3 p hp
      exact ⟨u, g1, dp_per s g2⟩⟩
theorem errV_at {K : PySem.W.Frag} {C : Addr} {fs : List (Str × PyData)} {T : Addr → Prop} {H : Hp} {v : V} (h : (errV K C fs).rel (off T H) v) : ∃ e, v = .ref e ∧ ErrAt H e C := by
  obtain ⟨e, rfl, h⟩ := h
  refine ⟨e, rfl, ?_⟩
  rcases h with ⟨_, h⟩ | ⟨dx, gs, h1, h2, _⟩
  · exact .inl (off_some h).1
  · exact .inr ⟨dx, gs, (off_some h1).1, (off_some h2).1⟩
def tupV (R1 R2 : VR) : VR := ⟨fun H v => ∃ p x y, v = .ref p ∧ H p = some (.tup [x, y]) ∧ R1.rel H x ∧ R2.rel H y, fun s h => by
  obtain ⟨p, x, y, rfl, h1, h2, h3⟩ := h
  exact ⟨p, x, y, rfl, s _ _ h1 ⟨fun _ z => (nomatch z), fun _ z => (nomatch z)⟩, R1.per s h2, R2.per s h3⟩⟩
/-- one each -/
inductive RelA : List VR → Hp → List V → Prop where
  | nil {H : Hp} : RelA [] H []
  | cons {H : Hp} {R : VR} {Rs : List VR} {v : V} {vs : List V} (h : R.rel H v) (t : RelA Rs H vs) : RelA (R :: Rs) H (v :: vs)
theorem RelA.per {H H' : Hp} (s : ∀ b o, H b = some o → Kd o → H' b = some o) : ∀ {Rs : List VR} {vs : List V}, RelA Rs H vs → RelA Rs H' vs
  | _, _, .nil => .nil
  | _, _, .cons h t => .cons (VR.per _ s h) (RelA.per s t)
theorem RelA.len {H : Hp} : ∀ {Rs : List VR} {vs : List V}, RelA Rs H vs → vs.length = Rs.length
  | _, _, .nil => rfl
  | _, _, .cons _ t => by rw [List.length_cons, List.length_cons, RelA.len t]
theorem RelA.get {H : Hp} : ∀ {Rs : List VR} {vs : List V} {i : Nat} {v : V}, RelA Rs H vs → vs[i]? = some v → ∃ R, Rs[i]? = some R ∧ R.rel H v
  | _, _, i, v, .nil, e => by simp at e
  | _, _, 0, v, .cons h _, e => by
    cases e
    exact ⟨_, rfl, h⟩
  | _, _, i + 1, v, .cons _ t, e => RelA.get (i := i) t e
theorem RelA.append {H : Hp} : ∀ {Rs Ss : List VR} {vs us : List V}, RelA Rs H vs → RelA Ss H us → RelA (Rs ++ Ss) H (vs ++ us)
  | _, _, _, _, .nil, h => h
  | _, _, _, _, .cons g t, h => .cons g (RelA.append t h)
def lstV (Rs : List VR) : VR := ⟨fun H v => ∃ p xs, v = .ref p ∧ H p = some (.lst xs) ∧ RelA Rs H xs, fun s h => by
  obtain ⟨p, xs, rfl, h1, h2⟩ := h
  exact ⟨p, xs, rfl, s _ _ h1 ⟨fun _ z => (nomatch z), fun _ z => (nomatch z)⟩, h2.per s⟩⟩
theorem kd_sa {H H' : Hp} (s : Sa H H') : ∀ b o, H b = some o → Kd o → H' b = some o := fun b o e k => s b o e k.1
section
variable {X : Cx} {a : Addr} {ρ : Rho} {e o : Expr} {es : List Expr} {ds : List PyData} {d : PyData} {R R1 R2 : VR} {Rs Ss : List VR} {p pos : Pos} {n : Str} {i k : Nat}
def EvV (X : Cx) (a : Addr) (e : Expr) (ρ : Rho) (R : VR) : Prop := ∀ T σ H, SD X.K a T H σ ρ → ∀ Q : VK, (∀ v H2, Sm H H2 → R.rel (off T H2) v → Q v H2) → JE X e σ H Q
def EvVA (X : Cx) (a : Addr) (es : List Expr) (ρ : Rho) (Rs : List VR) : Prop := ∀ T σ H, SD X.K a T H σ ρ → ∀ Q : List V → Hp → Prop, (∀ vs H2, Sm H H2 → RelA Rs (off T H2) vs → Q vs H2) → JA X es σ H Q
theorem v_of (h : EvE X a e ρ d) : EvV X a e ρ (datV X.K d) := h
theorem e_of (h : EvV X a e ρ (datV X.K d)) : EvE X a e ρ d := h
theorem v_var (hi : ρ[i]? = some (some (.val R))) (hN : X.N[i]? = some n := by rfl) (hv : Vis X.env.scope n := by first | exact Or.inl rfl | exact Or.inr (Or.inl rfl) | exact Or.inr (Or.inr rfl)) (hd : (n == ("__debug__" : Str)) = false := by decide) (hcd : (n == ("__classdict__" : Str)) = false := by decide) :
    EvV X a (.Name n pos) ρ R := fun T σ H S Q q => by
  obtain ⟨v, h1, h2⟩ := S.sl i _ hi
  exact toE (pe_var hN hv hd hcd) ⟨v, h1, q v H (Sm.refl H) h2⟩
theorem va_nil : EvVA X a [] ρ [] := fun T σ H S Q q => toA pa_nil (q _ H (Sm.refl H) .nil)
theorem va_cons (h : EvV X a e ρ R) (h2 : EvVA X a es ρ Rs) (hs : starEach (e :: es) X.env = (false, eval e X.env) :: starEach es X.env := by exact star_of rfl) : EvVA X a (e :: es) ρ (R :: Rs) := fun T σ H S Q q =>
  toA (pa_cons je ja hs) (h T σ H S _ fun v H1 s1 p1 => h2 T σ H1 (S.same s1) _ fun vs H2 s2 p2 => q _ H2 (s1.trans s2) (.cons (VR.same (off_same s2) p1) p2))
theorem v_tup {x1} {e2 : Expr} (h : EvVA X a [e, e2] ρ [R1, R2]) : EvV X a (.Tuple [e, e2] x1 pos) ρ (tupV R1 R2) := fun T σ H S Q q =>
  toE (pe_tup ja) (h T σ H S _ fun vs H1 s1 p1 => by
    cases p1 with
    | cons g1 t =>
      cases t with
      | cons g2 t =>
        cases t
        refine ⟨szl (n := 2) (by decide), fun p0 hp => q _ _ (s1.trans (same_new hp)) ⟨p0, _, _, rfl, ?_, VR.same (off_same (same_new hp)) g1, VR.same (off_same (same_new hp)) g2⟩⟩
        rw [off_new (S.dm.same s1) hp, upd_same])
theorem v_lst (h : EvVA X a es ρ Rs) (hl : Rs.length ≤ 100000 := by decide) : EvV X a (.List es pos) ρ (lstV Rs) := fun T σ H S Q q =>
  toE (pe_lst ja) (h T σ H S _ fun vs H1 s1 p1 => ⟨by rw [p1.len]; exact szl hl, fun p0 hp => q _ _ (s1.trans (same_new hp)) ⟨p0, vs, rfl, by rw [off_new (S.dm.same s1) hp, upd_same], p1.per (kd_sa (off_same (same_new hp)))⟩⟩)
theorem v_cat {l r : Expr} (h1 : EvV X a l ρ (lstV Rs)) (h2 : EvV X a r ρ (lstV Ss)) (hl : Rs.length + Ss.length ≤ 100000 := by decide) : EvV X a (.BinOp l .Add r pos) ρ (lstV (Rs ++ Ss)) := fun T σ H S Q q =>
  toE (pe_op op_catX je je) (h1 T σ H S _ fun v1 H1 s1 q1 => h2 T σ H1 (S.same s1) _ fun v2 H2 s2 q2 => by
    obtain ⟨pa, xs, rfl, g1, g2⟩ := VR.same (R := lstV Rs) (off_same s2) q1
    obtain ⟨pb, ys, rfl, g3, g4⟩ := q2
    refine ⟨pa, pb, xs, ys, rfl, rfl, .of (off_some g1).1, .of (off_some g3).1, by rw [g2.len, g4.len]; exact szl hl, fun p0 hp => q _ _ ((s1.trans s2).trans (same_new hp)) ⟨p0, _, rfl, ?_, (g2.append g4).per (kd_sa (off_same (same_new hp)))⟩⟩
    rw [off_new ((S.dm.same s1).same s2) hp, upd_same])
theorem v_ix {j : Nat} {p2 : Pos} (h : EvV X a o ρ (lstV Rs)) (hR : Rs[i]? = some R) : EvV X a (.Subscript o (.Constant (.int (i : Int)) j p2) pos) ρ R := fun T σ H S Q q =>
  toE (pe_ix ix_list je pe_int (by exact fun _ _ => rfl)) (h T σ H S _ fun v H1 s1 p1 => by
    obtain ⟨pa, xs, rfl, g1, g2⟩ := p1
    have hi : i < xs.length := by
      rw [g2.len]
      exact (List.getElem?_eq_some_iff.mp hR).1
    obtain ⟨R', e1, e2⟩ := g2.get (List.getElem?_eq_getElem hi)
    rw [hR] at e1
    cases e1
    exact ⟨pa, xs, i, _, rfl, rfl, .of (off_some g1).1, atI_nat (List.getElem?_eq_getElem hi), q _ H1 s1 e2⟩)
theorem v_ixT {j : Nat} {p2 : Pos} (h : EvV X a o ρ (tupV R1 R2)) : EvV X a (.Subscript o (.Constant (.int 0) j p2) pos) ρ R1 := fun T σ H S Q q =>
  toE (pe_ix ix_tup je pe_int (by exact fun _ _ => rfl)) (h T σ H S _ fun v H1 s1 p1 => by
    obtain ⟨pa, x, y, rfl, g1, g2, _⟩ := p1
    exact ⟨pa, [x, y], 0, x, rfl, rfl, .of (off_some g1).1, rfl, q _ H1 s1 g2⟩)
/-! ### the object behind it -/
theorem inst_of {pins : List (Addr × Obj)} {σ : L2.St} {H : Hp} {s : Shared} {e0 C : Addr} (I : Inv X pins σ H s) (h : ErrAt H e0 C) : ∃ ox od, PySem.W.InstAt s.heap e0 ox C od := by
  rcases h with h | ⟨dx, gs, h, h2⟩
  · obtain ⟨t1, g⟩ := exo_at I.hok h
    exact ⟨_, none, g, rfl, rfl, trivial⟩
  · obtain ⟨t1, g⟩ := exo_at I.hok h
    obtain ⟨mA, hns, _⟩ := exd_at I.hok h2
    obtain ⟨od, ho, _⟩ := lookIn_ns hns
    exact ⟨_, some od, g, rfl, rfl, ho⟩
theorem call_isV : CallR X (.builtin "isinstance") (fun xs H Q => ∃ e0 C c cv b, xs = [.ref e0, c] ∧ ErrAt H e0 C ∧ L2.ExcC X.K C ∧ ClsV c cv ∧ PySem.W.kitOne X.K (.ref C) cv = some b ∧ Q (.bl b) H) := by
  intro pins s σ H xs us Q I r h
  obtain ⟨e0, C, c, cv, b, rfl, h1, h2, h3, h4, q⟩ := h
  obtain ⟨u1, u2, rfl, r1, r2⟩ := vals2 r
  obtain rfl : u1 = Value.ref e0 := r1
  obtain rfl := h3.eq r2
  obtain ⟨ox, od, J⟩ := inst_of I h1
  have hcl : (PySem.W.clsIn X.K C).isSome = true := by
    obtain ⟨cd, hc, _⟩ := PySem.W.any_some h2.hd
    rw [hc] <;> rfl
  exact PySem.W.kia_one (PySem.W.kitx_exc hcl h2.hg h2.hk h2.hs h2.ha h2.hn h2.ht h2.hm) I.kIn J h4 (fun z => nomatch z) fun tk => ⟨.bl b, H, I.tok tk, rfl, q⟩
theorem e_isV {C : Addr} {fs : List (Str × PyData)} {ty : Str} {c : V} {cv : Value} {b : Bool} {p2 : Pos} (h : EvV X a e ρ (errV X.K C fs)) (hC : L2.ExcC X.K C) (hn : PE X (.Name ty p2) (tC c)) (hc : ClsV c cv) (hk : PySem.W.kitOne X.K (.ref C) cv = some b) (hm : X.mg "isinstance" = none) (hg : Gl X "isinstance" := by rfl)
    (hs1 : starEach (e :: [.Name ty p2]) X.env = (false, eval e X.env) :: starEach [.Name ty p2] X.env := by exact star_of rfl) (hs2 : starEach (.Name ty p2 :: []) X.env = (false, eval (.Name ty p2) X.env) :: starEach [] X.env := by exact star_of rfl)
    (hpl : (backTo pos (starEach [.Name ty p2] X.env)).any (·.1) = false := by exact star_no rfl) : EvE X a (.Call (.Name "isinstance" p) [e, .Name ty p2] [] pos) ρ (.bool b) := fun T σ H S Q q =>
  toE (pe_callB call_isV hg hm (by decide +kernel) (pa_cons je (pa_cons hn pa_nil hs2) hs1) (by decide) (by decide) hs1 hpl) (h T σ H S _ fun v H1 s1 p1 => by
    obtain ⟨e0, rfl, hE⟩ := errV_at p1
    exact ⟨e0, C, c, cv, b, rfl, hE, hC, hc, hk, q _ H1 s1 (.bl b)⟩)
/-- a field, read -/
theorem v_attr {C : Addr} {fs : List (Str × PyData)} {f : Str} (h : EvV X a o ρ (errV X.K C fs)) (hf : (f, d) ∈ fs) (Tf : XfC X.K C) (hno : PySem.W.findIn X.K (.ref C) f = some none) (hb : attributeBase o f X.env (eval o X.env) = eval o X.env := by rfl) : EvE X a (.Attribute o f pos) ρ d := fun T σ H S Q q pins s I => by
  refine attr_of hb (thn (h T σ H S (fun v H1 => ∃ e0 dx gs u, v = .ref e0 ∧ H1 e0 = some (exo e0 C (some dx)) ∧ H1 dx = some (exd dx gs) ∧ gs.lookup f = some u ∧ Q u H1) (fun v H1 s1 p1 => ?_) pins s I) fun u1 s1 hh => ?_)
  · obtain ⟨e0, rfl, h0⟩ := p1
    rcases h0 with ⟨rfl, _⟩ | ⟨dx, gs, h1, h2, h3⟩
    · cases hf
    · obtain ⟨u, g1, g2⟩ := h3 _ hf
      exact ⟨e0, dx, gs, u, rfl, (off_some h1).1, (off_some h2).1, g1, q _ H1 s1 g2⟩
  · obtain ⟨x, H1, I1, rx, e0, dx, gs, u, rfl, h1, h2, h3, q1⟩ := hh
    obtain rfl : u1 = Value.ref e0 := rx
    obtain ⟨t1, g⟩ := exo_at I1.hok h1
    obtain ⟨mA, hns, hr⟩ := exd_at I1.hok h2
    obtain ⟨od, ho, hl⟩ := lookIn_ns hns
    obtain ⟨uu, hu, ru⟩ := RelO.some_of (v := u) (o := mA f) (by rw [← h3]; exact hr f)
    have J : PySem.W.InstAt s1.heap e0 _ C (some od) := ⟨g, rfl, rfl, ho⟩
    exact HandSPX.exc_get I1.kIn J Tf.ga Tf.gg Tf.exC (PySem.W.findObj_own Tf.hdC hno rfl (by rw [hl, hu])) (handed_of ru) ⟨u, H1, I1.tok _, ru, q1⟩
end
end Zj
/-! Own exceptions made as values; walks over values; defs of one value. -/
namespace Zj
open PySem PySem.Spec PyProof.Rows L2
variable [Nm]
section
variable {X : Cx} {CX : CXT} {C fI : Addr} {k : Nat} {fd : FuncData} {ps : List Str} {sp : Sp} {pins : List (Addr × Obj)} {σ : L2.St} {H : Hp} {s : Shared} {us gs : List Value} {kw : List (Str × Value)} {vs : List V} {Q : VK}
theorem oex_do (T : OexC X.K C) (iC : PySem.W.findIn X.K (.ref C) "__init__" = some (some (.ref fI))) (tI : PySem.W.typeIn X.K (.ref fI) = some (.type "function")) (F1 : FnOk X.prog X.w X.K X.mg X.base CX k fI fd ps sp) (hr : Room (k + 1) X.A) (hx : Passes CX X (fun _ _ _ => False))
    (I : Inv X pins σ H s) (hz : us.length ≤ 1000) (hb : ∀ (s' : Shared) (u : Value), X.K.In s'.heap → BindsTo s' fd ⟨u :: us, kw⟩ (ps.zip (u :: gs))) (r : Vals vs gs) (h : ∀ b, H b = none → sp (.ref b :: vs) (upd H b (exo b C none)) (fun v H2 => v = .non ∧ Q (.ref b) H2) (fun _ _ _ => False)) :
    codeAny (model X.prog X.w) X.A (.call (.ref C) ⟨us, kw⟩) (fun r s' => match r with | .error er => X.xe er s' | .ok (.ret u) => EP X pins σ Q u s' | .ok _ => False) s := by
  obtain ⟨n1, n2, ns, b1, b2, sn, sub, ab, col, dd, m0, m1, m2, m3, m5, hC, hbm⟩ := T.cls
  obtain ⟨hp, g, dr, tk, os⟩ := s
  have fresh : H (hp.objs.size + 1) = none := I.hok.fresh (Nat.le_succ _)
  have up : ∀ b o, hp.get? b = some o → ((hp.push (PySem.W.kdv_tup us)).push (PySem.HandSPX.excO C hp.objs.size)).get? b = some o := fun b o e => Heap.get?_push_of_some _ (Heap.get?_push_of_some _ e)
  have got : ((hp.push (PySem.W.kdv_tup us)).push (PySem.HandSPX.excO C hp.objs.size)).get? (hp.objs.size + 1) = some (PySem.HandSPX.excO C hp.objs.size) := by heap_get
  have J : Inv X pins σ (upd H (hp.objs.size + 1) (exo (hp.objs.size + 1) C none)) ⟨(hp.push (PySem.W.kdv_tup us)).push (PySem.HandSPX.excO C hp.objs.size), g, dr, tk, os⟩ := I.laid (t' := tk) up (Nat.le_succ _) (exo_ok got)
  refine kw_own (fun Y => PySem.HandSPX.refsVE_contains Y b2 hbm) (I.kIn _ _ hC) (by rw [sizeLine_eq]; omega) (PySem.W.looks_findIn I.kIn iC) (fun u => PySem.W.bind_fn I.kIn u tI)
    (codeAny_mono (F1.run _ X.stack _ _ ⟨Value.ref (hp.objs.size + 1) :: us, kw⟩ (Value.ref (hp.objs.size + 1) :: gs) _ _ (fun _ _ _ => False) (hr.make C us kw) (J.env0.make C us kw) (hb _ _ J.kIn) (show Vals (V.ref (hp.objs.size + 1) :: vs) (Value.ref (hp.objs.size + 1) :: gs) from .cons rfl r) (h _ fresh)) fun r s' hq => ?_)
  match r, hq with
  | .error er, hq => exact hx pins σ _ _ er s' J hq
  | .ok .next, hq => exact False.elim hq
  | .ok .brk, hq => exact False.elim hq
  | .ok .cont, hq => exact False.elim hq
  | .ok (.ret u), hq =>
    obtain ⟨v, H2, J2, rv, rfl, q⟩ := J.after hq
    exact ⟨rv, .ref (hp.objs.size + 1), H2, J2, rfl, q⟩
end
/-- an own class that keeps its arguments, also by their names -/
structure ClsJ (P : Program) (w : World) (K : PySem.W.Frag) (mg : Str → Option Value) (base : Heap) (x : Str) (ps : List Str) (C : Addr) : Prop where
  ex : ∃ fI fd, mg x = some (.ref C) ∧ OexC K C ∧ PySem.W.findIn K (.ref C) "__init__" = some (some (.ref fI)) ∧ PySem.W.typeIn K (.ref fI) = some (.type "function") ∧ (∀ f ∈ ps, PySem.W.findIn K (.ref C) f = some none) ∧
    FnOk P w K mg base CX0 1 fI fd ("self" :: ps) (spI K ps) ∧ Binds K fd ("self" :: ps) [] ∧ ∀ (s : Shared) (u : Value) (ws : List Value), ws.length = ps.length → BindsTo s fd ⟨[u], ps.zip ws⟩ (List.zip (("self" : Str) :: ps) (u :: ws))
section
variable {X : Cx} {a : Addr} {ρ : Rho} {e : Expr} {es : List Expr} {kws : List Keyword} {ds : List PyData} {x : Str} {ps : List Str} {C : Addr} {p pos : Pos}
theorem mk_fin {T : Addr → Prop} {H1 : Hp} {Q : VK} {vs : List V} (dm : Din T H1) (hn : ∀ f ∈ ps, PySem.W.findIn X.K (.ref C) f = some none) (hO : OexC X.K C) (p1 : DpAll X.K (off T H1) vs ds) (hl : ds.length = ps.length)
    (q : ∀ v H2, Sm H1 H2 → (errV X.K C (ps.zip ds)).rel (off T H2) v → Q v H2) (b : Addr) (hb : H1 b = none) : spI X.K ps (.ref b :: vs) (upd H1 b (exo b C none)) (fun v H2 => v = .non ∧ Q (.ref b) H2) (fun _ _ _ => False) := by
  refine ⟨b, C, vs, rfl, by rw [dps_len p1, hl], hO, upd_same, hn, fun dx fs hdx hne hfs => ⟨rfl, ?_⟩⟩
  rw [upd_ne hne] at hdx
  have eq : upd (upd (upd H1 b (exo b C none)) dx (exd dx fs)) b (exo b C (some dx)) = upd (upd H1 dx (exd dx fs)) b (exo b C (some dx)) := by
    funext c
    by_cases h1 : c = b
    · rw [h1, upd_same, upd_same]
    · rw [upd_ne h1, upd_ne h1]
      by_cases h2 : c = dx
      · rw [h2, upd_same, upd_same]
      · rw [upd_ne h2, upd_ne h2, upd_ne h1]
  rw [eq]
  have hb2 : upd H1 dx (exd dx fs) b = none := by rw [upd_ne (Ne.symm hne)]; exact hb
  have s1 : Sm H1 (upd (upd H1 dx (exd dx fs)) b (exo b C (some dx))) := (same_new hdx).trans (same_new hb2)
  have dm1 := dm.same (same_new (o := exd dx fs) hdx)
  refine q _ _ s1 ⟨b, rfl, .inr ⟨dx, fs, ?_, ?_, fun pr hpr => ?_⟩⟩
  · rw [off_new dm1 hb2, upd_same]
  · rw [off_new dm1 hb2, upd_ne hne, off_new dm hdx, upd_same]
  · obtain ⟨v, g1, g2⟩ := zip_dps (f := pr.1) (d := pr.2) p1 hpr
    exact ⟨v, hfs _ g1, dp_same (off_same s1) g2⟩
theorem v_mk (Cl : ClsJ X.prog X.w X.K X.mg X.base x ps C) (hr : Room 2 X.A) (ha : EvA X a (e :: es) ρ ds) (hl : ds.length = ps.length) (hz : ds.length ≤ 1000) (hg : Gl X x := by rfl)
    (hdb : (x == ("__debug__" : Str)) = false := by decide) (he : starEach (e :: es) X.env = (false, eval e X.env) :: starEach es X.env := by exact star_of rfl) (hpl : (backTo pos (starEach es X.env)).any (·.1) = false := by exact star_no rfl) :
    EvV X a (.Call (.Name x p) (e :: es) [] pos) ρ (errV X.K C (ps.zip ds)) := fun T σ H S Q q pins s I => by
  obtain ⟨fI, fd, hm, hO, hi, ht, hn, F, hb, _⟩ := Cl.ex
  refine wpAny_Call_Name_kw (ld_glob I hg hm ?_ hdb)
  refine PySem.W.callWith_K (h₀ := X.base) I.ok.mod.kin hO.kC (thn (ja.run pos pins s σ H (fun vs H1 => vs.length = ds.length ∧ ∀ b, H1 b = none → spI X.K ps (.ref b :: vs) (upd H1 b (exo b C none)) (fun v H2 => v = .non ∧ Q (.ref b) H2) (fun _ _ _ => False)) I
    (ha T σ H S _ fun vs H1 s1 p1 => ⟨dps_len p1, fun b hb => mk_fin (S.dm.same s1) hn hO p1 hl (fun v H2 s2 h2 => q v H2 (s1.trans s2) h2) b hb⟩)) fun us s1 hv => ?_) he hpl
  obtain ⟨vs, H1, I1, r1, hlen, q1⟩ := hv
  refine ⟨I1.kIn, wpAny_call (codeAny_mono (oex_do (kw := []) hO hi ht F hr pass0 I1 (by show us.length ≤ 1000; rw [← r1.length, hlen]; exact hz) (fun s' u kin => ?_) r1 q1) fun r s' hq => ?_)⟩
  · have := hb s' (u :: us) kin (by rw [List.append_nil, List.length_cons, List.length_cons, ← r1.length, hlen, hl])
    rwa [List.append_nil] at this
  · match r, hq with
    | .error er, hq => exact hq
    | .ok .next, hq => exact hq.elim
    | .ok .brk, hq => exact hq.elim
    | .ok .cont, hq => exact hq.elim
    | .ok (.ret u), hq => exact hq
theorem v_mkK (Cl : ClsJ X.prog X.w X.K X.mg X.base x ps C) (hr : Room 2 X.A) (ha : EvK X a kws ρ ds) (hl : ds.length = ps.length) (hg : Gl X x := by rfl)
    (hall : (backToKw pos (keywordEach kws X.env)).all (·.1.isSome) = true := by rfl) (hks : (backToKw pos (keywordEach kws X.env)).filterMap (·.1) = ps := by rfl)
    (hdb : (x == ("__debug__" : Str)) = false := by decide) (hpl : ((backTo pos (starEach [] X.env)).any (·.1) || (backToKw pos (keywordEach kws X.env)).any (·.1.isNone)) = false := by rfl) :
    EvV X a (.Call (.Name x p) [] kws pos) ρ (errV X.K C (ps.zip ds)) := fun T σ H S Q q pins s I => by
  obtain ⟨fI, fd, hm, hO, hi, ht, hn, F, _, hb⟩ := Cl.ex
  refine wpAny_Call_Name_kw (ld_glob I hg hm ?_ hdb)
  refine PySem.W.callWith_KW0 (h₀ := X.base) I.ok.mod.kin hO.kC hall (thn ((ha T σ H S (fun vs H1 => vs.length = ds.length ∧ ∀ b, H1 b = none → spI X.K ps (.ref b :: vs) (upd H1 b (exo b C none)) (fun v H2 => v = .non ∧ Q (.ref b) H2) (fun _ _ _ => False))
    fun vs H1 s1 p1 => ⟨dps_len p1, fun b hb => mk_fin (S.dm.same s1) hn hO p1 hl (fun v H2 s2 h2 => q v H2 (s1.trans s2) h2) b hb⟩) pos pins s I) fun ws s2 hv => ?_) hpl
  obtain ⟨vs, H1, I1, r1, hlen, q1⟩ := hv
  refine ⟨I1.kIn, ?_⟩
  rw [hks]
  refine wpAny_call (codeAny_mono (oex_do (us := []) (kw := ps.zip ws) (gs := ws) hO hi ht F hr pass0 I1 (by simp) (fun s' u kin => hb s' u ws (by rw [← r1.length, hlen, hl])) r1 q1) fun r s' hq => ?_)
  match r, hq with
  | .error er, hq => exact hq
  | .ok .next, hq => exact hq.elim
  | .ok .brk, hq => exact hq.elim
  | .ok .cont, hq => exact hq.elim
  | .ok (.ret u), hq => exact hq
theorem v_mkP (Cl : ClsP X.K X.mg x) (hC : X.mg x = some (.ref C)) (hg : Gl X x := by rfl) (hdb : (x == ("__debug__" : Str)) = false := by decide) : EvV X a (.Call (.Name x p) [] [] pos) ρ (errV X.K C []) := fun T σ H S Q q pins s I => by
  obtain ⟨C', B, newId, initId, bmB, hm, F, hE, hk, hs, ht⟩ := Cl.ex
  rw [hC] at hm
  cases hm
  refine wpAny_Call_Name_kw (ld_glob I hg hC ?_ hdb)
  refine PySem.W.callWith_K0 I.kIn hk ?_
  obtain ⟨bm, N, nm, qn, bs, hdct, sn, sub, ab, col, dd, k0, k1, k2, k3, k5, mN, o1, o2, o3, T0⟩ := exc_obj I.kIn hE
  refine wpAny_call_exc_subT F T0 o1 o2 o3 (fun h' e' hm' => ?_) (Nat.zero_le _)
  have n1 : H e' = none := I.hok.gone hm'.new
  obtain ⟨t, ht', _, _⟩ := hm'.there
  refine ⟨.ref e', upd H e' (exo e' C none), I.laidN hm'.keeps hm'.new n1 (exo_ok ht'), rfl, q _ _ (same_new n1) ⟨e', rfl, .inl ⟨rfl, ?_⟩⟩⟩
  rw [off_new S.dm n1, upd_same]
end
/-! ### statements, walks, defs -/
section
variable {X : Cx} {a : Addr} {ρ : Rho} {e c elt it : Expr} {R R1 R2 : VR} {Rs : List VR} {p pos pos' : Pos} {N : Rho → Prop} {Rd : PyData → Prop} {i : Nat} {y : Str}
theorem rs_setV (G : Good X) (h : EvV X a e ρ R) (hn : N (ρ.set i (some (.val R)))) (hi : X.N[i]? = some y := by rfl) (hx : Loc X.env.scope y := by first | exact Or.inl rfl | exact Or.inr rfl)
    (hs : swapsWith e (some (.Name y pos')) pos.line X.env = pure false := by rfl) (hf : X.fn y = true ∨ X.env.scope.names.lookup y = some .local := by first | exact .inl rfl | exact .inr rfl) : RunS X a (.Assign [.Name y pos'] e pos) ρ N Rd := fun T σ H D S kn kr =>
  toS (ps_set G.nd hi hx je hs hf) (h T σ H S _ fun v H1 s1 p1 => kn _ H1 _ s1 ((S.same s1).put (x := .val R) p1) hn)
def spV (K : PySem.W.Frag) (Rl : VR → PyData → Prop) : Sp := fun vs H Q _ => ∃ T v R d, Din T H ∧ vs = [v] ∧ R.rel (off T H) v ∧ Rl R d ∧ ∀ v' H', Sm H H' → Dp K (off T H') v' d → Q v' H'
theorem e_callV {k : Nat} {x n : Str} {Rl : VR → PyData → Prop} {d : PyData} (Cl : CalG X.prog X.w X.K X.mg X.base k x [n] (spV X.K Rl)) (hgd : X.A.guards = some []) (hr : Room k X.A) (h : EvV X a e ρ R) (hR : Rl R d)
    (hg : Gl X x := by rfl) (hdb : (x == ("__debug__" : Str)) = false := by decide) (he : starEach [e] X.env = (false, eval e X.env) :: starEach [] X.env := by exact star_of rfl) (hpl : (backTo pos (starEach [] X.env)).any (·.1) = false := by exact star_no rfl) : EvE X a (.Call (.Name x p) [e] [] pos) ρ d := fun T σ H S Q q =>
  toE (pe_callG Cl hgd hr (pa_cons je pa_nil he) hg hdb he hpl) (h T σ H S _ fun v H1 s1 p1 => ⟨T, v, R, d, S.dm.same s1, rfl, p1, hR, fun v' H' s' p' => q v' H' (s1.trans s') p'⟩)
theorem wipe_two {σ : L2.St} {i j : Nat} {x y : Option V} : L2.wipe (((L2.wipe σ [i, j]).set i x).set j y) [i, j] = L2.wipe σ [i, j] := by
  apply List.ext_getElem?
  intro n
  rw [wipe_get, wipe_get]
  by_cases hn : n ∈ [i, j]
  · rw [if_pos hn, if_pos hn, List.length_set, List.length_set, wipe_length]
  · rw [if_neg hn, if_neg hn]
    have h1 : n ≠ i := fun z => hn (by rw [z]; simp)
    have h2 : n ≠ j := fun z => hn (by rw [z]; simp)
    rw [List.getElem?_set_ne (Ne.symm h2), List.getElem?_set_ne (Ne.symm h1), wipe_get, if_neg hn]
/-- nothing is kept of pairs of values -/
theorem e_lcV0 {i1 i2 kk : Nat} {y1 y2 : Str} {p1 p2 tpos : Pos} {scope : Scope} (G : Good X) (hs : EvV X a it ρ (lstV Rs)) (ok : BlkOk X.N X.env.scope scope [(y1, i1), (y2, i2)])
    (hg : ∀ (s : Shared) (H : Hp) (C : Addr) (cl : List (Str × Addr)) (fp : List Addr), PG (X.blk s H scope (compEnvC scope cl C X.env) fp) (.Tuple [.Name y1 p1, .Name y2 p2] kk tpos) (gTup X.K 2 (gCons (gName i1) (gCons (gName i2) gNil))))
    (hb : ∀ R ∈ Rs, ∃ R1 R2, R = tupV R1 R2 ∧ EvTb X scope a c (((wipeR ρ [i1, i2]).set i1 (some (.val R1))).set i2 (some (.val R2))) false)
    (hf : ∀ x, foldedSetIterable it X.env x = pure x := by intro _; rfl) : EvE X a (.ListComp elt [⟨.Tuple [.Name y1 p1, .Name y2 p2] kk tpos, it, [c], 0⟩] scope pos) ρ (.list []) := fun T σ H S Q q => by
  refine toE (pe_lc (own := [(y1, i1), (y2, i2)]) (te := JEb X scope elt) (tt := JTb X scope c) G.calm G.nd (pi_list je) ok hg (fun s H0 C cl fp => pts_one ⟨fun pins s' σ' H' Q' I h => h s H0 C cl fp pins s' I⟩) (fun s H0 C cl fp => ⟨fun pins s' σ' H' Q' I h => h s H0 C cl fp pins s' I⟩) hf) ?_
  refine hs T σ H S _ fun v H1 s1 g0 => ?_
  obtain ⟨pa, xs, rfl, g1, g2⟩ := g0
  have g1' := (off_some g1).1
  refine ⟨pa, rfl, ⟨xs, .of g1'⟩, ?_⟩
  intro D hD
  have S1 := S.same s1
  have nD : ¬ T D := fun z => S1.dm.dn D z hD
  have hpD : pa ≠ D := fun z => by
    rw [z, hD] at g1'
    cases g1'
  refine lc_it (walk_list (a := pa) (xs := xs)) (fun _ H' => Sm H1 H' ∧ H' D = some (.lst [])) ⟨same_new hD, upd_same⟩ (fun i H' _ p => .of (p.1.ob _ _ g1' (by intro ps z; cases z))) (fun i x H' H'' hi p y => ?_) fun H' p => ?_
  · obtain ⟨rfl, hx⟩ := y
    have g2' : RelA Rs (off (And1 T D) H'') xs := (g2.per fun b o e k => by
      obtain ⟨e1, e2⟩ := off_some e
      rw [off_no (fun z => z.elim e2 fun z => by rw [z, hD] at e1; cases e1)]
      exact p.1.ob _ _ e1 k.1)
    obtain ⟨R0, r1, r2⟩ := g2'.get hx
    obtain ⟨R1, R2, rfl, hc⟩ := hb R0 (List.mem_of_getElem? r1)
    obtain ⟨T0, x1, x2, rfl, t1, t2, t3⟩ := r2
    have S2 : SD X.K a (And1 T D) H'' (L2.wipe σ [i1, i2]) (wipeR ρ [i1, i2]) := ⟨(S1.wipe _).len, ⟨fun b hb => by
      rcases hb with hb | hb
      · exact p.1.dm b (S1.dm.dn b hb)
      · rw [hb, p.2]
        exact (fun z => nomatch z), fun P hP => p.1.tb P (S1.dm.tb P hP)⟩, fun j z e => by
      obtain ⟨v, q1, q2⟩ := (S1.wipe [i1, i2]).sl j z e
      have up : ∀ b o, off T H1 b = some o → Kd o → off (And1 T D) H'' b = some o := fun b o e k => by
        obtain ⟨e1, e2⟩ := off_some e
        rw [off_no (fun z => z.elim e2 fun z => by rw [z, hD] at e1; cases e1)]
        exact p.1.ob _ _ e1 k.1
      refine ⟨v, q1, ?_⟩
      cases z with
      | dat d => exact dp_per up q2
      | hnd => exact q2
      | adr _ => exact q2
      | val R => exact R.per up q2⟩
    refine ⟨T0, [x1, x2], rfl, .of (off_some t1).1, rfl, x1, [x2], rfl, x2, [], rfl, rfl, wipe_two, ?_⟩
    exact fun s H0 C cl fp => hc s H0 C cl fp (And1 T D) _ H'' ((S2.put (x := .val R1) t2).put (x := .val R2) t3) _ fun H3 s3 => iteF ⟨p.1.trans s3, s3.ob _ _ p.2 (by intro ps z; cases z)⟩
  · exact q _ H' (s1.trans p.1) (.lst (.of (by rw [off_no nD]; exact p.2)) .nil)
end
section
variable {P : Program} {w : World} {K : PySem.W.Frag} {mg : Str → Option Value} {base : Heap}
theorem SD.startV {a : Addr} {T : Addr → Prop} {H : Hp} {N : List Str} {v : V} {R : VR} (t : Din T H) (h : R.rel (off T H) v) : SD K a T H (L2.start N [v]) (some (.val R) :: List.replicate (N.length - 1) none) := by
  refine ⟨by unfold L2.start; simp, t, fun i x e => ?_⟩
  cases i with
  | zero =>
    cases (show some (some (DV.val R)) = some (some x) from e)
    exact ⟨v, rfl, h⟩
  | succ i =>
    have e' : (List.replicate (N.length - 1) (none : Option DV))[i]? = some (some x) := e
    rw [List.getElem?_replicate] at e'
    split at e' <;> cases e'
theorem fnV {x qual n : Str} {st : Stmt} {f : Addr} {fd : FuncData} {N : List Str} {k : Nat} {Rl : VR → PyData → Prop} (F : Fun K x qual st f fd) (S : FnScope N [n] (defScope st))
    (hb : ∀ (cdv : Value) (A : Around) (outer : List Env) (s : Shared) (H : Hp) (E : XK), Good (cxOf CX0 P w K mg base N qual (defScope st) f cdv A outer s H E).nox → Room k (cxOf CX0 P w K mg base N qual (defScope st) f cdv A outer s H E).nox.A →
      (cxOf CX0 P w K mg base N qual (defScope st) f cdv A outer s H E).nox.A.guards = some [] → ∀ R d, Rl R d →
      Run (cxOf CX0 P w K mg base N qual (defScope st) f cdv A outer s H E).nox 0 (defBody st) (some (.val R) :: List.replicate (N.length - 1) none) (fun _ => d = .none) (fun d' => d' = d)) : FnG P w K mg base CX0 (k + 1) f fd [n] (spV K Rl) :=
  fnG F S (fun vs H Q E h => by
    obtain ⟨T, v, R, d, _, rfl, _⟩ := h
    rfl) fun cdv hcv A outer s H vs Q E hgd hr h => by
    obtain ⟨T, v, R, d, dm, rfl, h1, h2, h3⟩ := h
    refine hb cdv A outer s H E ⟨S.nd, rfl, PassesOwn.never, hr.units⟩ hr hgd R d h2 T _ H _ (SD.startV dm h1) (fun σ' H' ρ' s1 S1 e => ?_) fun v H' d' s1 p e => ?_
    · exact h3 _ H' s1 (by rw [e]; exact .non)
    · subst e
      exact h3 v H' s1 p
end
end Zj
/-! Turns as many as are drawn. -/
namespace Zj
open PySem PySem.Spec PyProof.Rows L2
variable [Nm]
section
variable {X : Cx} {a : Addr} {ρ : Rho} {n n1 : Nat} {N : Nat → Rho → Prop} {R : Nat → PyData → Prop} {tg e : Expr} {pos pos' p : Pos} {body : List Stmt} {g : TG} {vs : List Nat} {f : PyData → Rho → Option Rho} {Pk : Int → Prop}
theorem qs_forR (G : Good X) (he : EvM X a e ρ n n1 (fun d => ∃ k : Int, d = .int k ∧ 0 ≤ k ∧ k < 2 ^ 60 ∧ Pk k)) (hg : PG X tg g) (ht : TgSem X.K a g vs f) (J : Int → Nat → Nat → Rho → Prop) (h0 : ∀ k, Pk k → J k 0 n1 ρ)
    (hb : ∀ k, Pk k → ∀ i m ρ1, i < k.toNat → J k i m ρ1 → ∃ ρ2, f (.int (i : Int)) ρ1 = some ρ2 ∧ RunM X a body ρ2 m (fun m' ρ' => J k (i + 1) m' ρ') R) (hd : ∀ k, Pk k → ∀ m ρ', J k k.toNat m ρ' → N m ρ') (hm : X.mg "range" = none) (hgr : Gl X "range" := by rfl)
    (hs : starEach [e] X.env = [(false, eval e X.env)] := by exact star_of rfl) (hf : ∀ x, foldedSetIterable (.Call (.Name "range" p) [e] [] pos') X.env x = pure x := by intro _; rfl) : RunMS X a (.For tg (.Call (.Name "range" p) [e] [] pos') body [] pos) ρ n N R := fun T σ H D S ms kn kr => by
  refine toS (ps_for G.ow G.calm (pi_range1 hgr hm ja hs) hg jss hf) (ma_cons (k := n1) he (fun _ _ => ma_nil (Nat.le_refl _)) hs T σ H S ms _ fun us ds H1 s1 ms1 p1 hp => ?_)
  obtain ⟨_, _, rfl, ⟨k, rfl, k0, k1, hk⟩, rfl⟩ := hp
  obtain ⟨v, rfl, q⟩ := dps1 p1
  have S1 := S.kpo s1 ms
  refine ⟨k, by rw [dp_int q], by omega, by omega, for_it walk_range (fun i σ' H' => Kp a H1 H' ∧ ∃ ρ' m, SD X.K a T H' σ' ρ' ∧ MS X.K (off T H') a m ∧ J k i m ρ') ⟨Kp.refl, ρ, n1, S1, ms1, h0 k hk⟩ (fun _ _ _ _ _ => trivial) (fun i x σ' H' H'' hi hp y => ?_) fun σ' H' hp => ?_⟩
  · obtain ⟨s2, ρ', m, S', ms', hj⟩ := hp
    obtain ⟨rfl, rfl⟩ := y
    obtain ⟨ρ2, e2, hrun⟩ := hb k hk i m ρ' hi hj
    have e : V.int ((0 : Int) + (i : Int)) = V.int (i : Int) := by rw [Int.zero_add]
    refine ht T σ' _ _ (.int (i : Int)) ρ' ρ2 S' (by show Dp X.K (off T _) (V.int ((0 : Int) + (i : Int))) _; rw [e]; exact .int _) e2 _ fun σ2 S2 _ => ?_
    exact hrun T σ2 _ _ S2 ms' (fun σ3 H3 ρ3 m3 s4 S3 ms3 n3 => ⟨s2.trans s4, ρ3, m3, S3, ms3, n3⟩) fun v H3 d m3 s4 ms4 p r => kr v H3 d m3 (s1.trans (s2.trans s4)) ms4 p r
  · obtain ⟨s2, ρ', m, S', ms', hj⟩ := hp
    exact kn σ' H' ρ' m (s1.trans s2) S' ms' (hd k hk m ρ' hj)
end
end Zj
/-! Walks over what is drawn; three names at once; a value that is data too. -/
namespace Zj
open PySem PySem.Spec PyProof.Rows L2
variable [Nm]
section
variable {X : Cx} {a : Addr} {ρ : Rho} {n m k : Nat} {tg it e e2 elt : Expr} {pos p : Pos} {PL : List PyData → Prop}
/-- a walk, some numbers being drawn for what is walked -/
def SrcM (X : Cx) (a : Addr) (tg it : Expr) (ρ : Rho) (n m : Nat) (PL : List PyData → Prop) : Prop := ∃ wi, PI X tg it wi ∧ ∀ T σ H, SD X.K a T H σ ρ → MS X.K (off T H) a n → ∀ R : It → Hp → Prop,
  (∀ items J H1 (Gd : Hp → Prop) Y, PL items → Kp a H H1 → MS X.K (off T H1) a m → Walk J items.length Gd Y → (∀ T' H', Sees (And1 T a) H1 T' H' → Gd H') →
    (∀ T' i H' x H'', i < items.length → Sees (And1 T a) H1 T' H' → Y i H' x H'' → Sm H' H'' ∧ ∃ d, items[i]? = some d ∧ Dp X.K (off T' H'') x d) → R J H1) → wi σ H R
theorem dps_hide {K : PySem.W.Frag} {T : Addr → Prop} {H : Hp} : ∀ {vs : List V} {ds : List PyData}, DpAll K (off T H) vs ds → MS K (off T H) a n → DpAll K (off (And1 T a) H) vs ds
  | _, _, .nil, _ => .nil
  | _, _, .cons h t, ms => .cons (dp_hide h ms) (dps_hide t ms)
theorem srcM_T (h : EvM X a e ρ n m fun d => ∃ ds, d = .tuple ds ∧ PL ds) : SrcM X a tg e ρ n m PL := ⟨_, pi_tup je, fun T σ H S ms R q => h T σ H S ms _ fun v d H1 s1 ms1 p1 hp => by
  obtain ⟨ds, rfl, hL⟩ := hp
  obtain ⟨pa, xs, rfl, g1, g2⟩ := dp_tup (dp_hide p1 ms1)
  have hl := dps_len g2
  refine ⟨pa, rfl, ⟨xs, same_t off_in _ _ g1⟩, q ds _ H1 (fun H => SqT X.K H pa xs) (YAt xs) hL s1 ms1 (by rw [← hl]; exact walk_tup) (fun T' H' s => same_t off_in _ _ (same_t s.2 _ _ g1)) fun T' i H' x H'' hin s y => ?_⟩
  obtain ⟨rfl, hx⟩ := y
  obtain ⟨d, hd⟩ : ∃ d, ds[i]? = some d := ⟨ds[i]'(by omega), by simp⟩
  obtain ⟨v, hv, pv⟩ := dps_get g2 hd
  rw [hx] at hv
  cases hv
  exact ⟨Sm.refl _, d, hd, dp_same s.2 pv⟩⟩
theorem srcM_ZT {elts : List Expr} {kk : Nat} {tpos : Pos} (h : EvMA X a [e, e2] ρ n m fun vs => ∃ ds es, vs = [.tuple ds, .tuple es] ∧ PL (List.zipWith (fun x y => PyData.tuple [x, y]) ds es)) (hm : X.mg "zip" = none) (hg : Gl X "zip" := by rfl)
    (hs : starEach [e, e2] X.env = (false, eval e X.env) :: starEach [e2] X.env := by exact star_of rfl) (hpl : (backTo pos (starEach [e2] X.env)).any (·.1) = false := by exact star_no rfl) :
    SrcM X a (.Tuple elts kk tpos) (.Call (.Name "zip" p) [e, e2] [] pos) ρ n m PL := ⟨_, RZ.pi_zipA hg hm ja hs hpl, fun T σ H S ms R q => h T σ H S ms _ fun vs ds0 H1 s1 ms1 p1 hp => by
  obtain ⟨ds, es, rfl, hL⟩ := hp
  obtain ⟨v, v2, rfl, q1, q2⟩ := dps2 (dps_hide p1 ms1)
  obtain ⟨pa, xs, rfl, g1, g2⟩ := dp_tup q1
  obtain ⟨pb, ys, rfl, g3, g4⟩ := dp_tup q2
  have hl := dps_len g2
  have hl2 := dps_len g4
  refine ⟨pa, pb, xs, ys, rfl, .inr ⟨same_t off_in _ _ g1, same_t off_in _ _ g3, q _ _ H1 _ _ hL s1 ms1 (walk_zipT (xs := xs) (ys := ys) (by rw [List.length_zipWith, hl, hl2])) (fun T' H' s => ⟨same_t off_in _ _ (same_t s.2 _ _ g1), same_t off_in _ _ (same_t s.2 _ _ g3)⟩) fun T' i H' x H'' hin s y => ?_⟩⟩
  obtain ⟨T0, y1, y2, rfl, hT, rfl, e1, e2⟩ := y
  have e1 : xs[i]? = some y1 := e1
  have e2 : ys[i]? = some y2 := e2
  have i1 := (List.getElem?_eq_some_iff.mp e1).1
  have i2 := (List.getElem?_eq_some_iff.mp e2).1
  have d1 : ds[i]? = some (ds[i]'(by omega)) := by simp
  have d2 : es[i]? = some (es[i]'(by omega)) := by simp
  obtain ⟨_, f1, w1⟩ := dps_get g2 d1
  obtain ⟨_, f2, w2⟩ := dps_get g4 d2
  rw [e1] at f1
  cases f1
  rw [e2] at f2
  cases f2
  exact ⟨same_new hT, _, by rw [List.getElem?_zipWith, d1, d2], dpo_pair s.1 hT (dp_same s.2 w1) (dp_same s.2 w2)⟩⟩
end
section
variable {X : Cx} {a : Addr} {ρ : Rho} {n m k : Nat} {N : Nat → Rho → Prop} {R : Nat → PyData → Prop} {tg it elt : Expr} {pos : Pos} {body : List Stmt} {g : TG} {vs : List Nat} {f : PyData → Rho → Option Rho} {scope : Scope} {own : List (Str × Nat)} {P : PyData → Prop} {PL : List PyData → Prop}
theorem qs_forM (G : Good X) (hs : SrcM X a tg it ρ n k PL) (hg : PG X tg g) (ht : TgSem X.K a g vs f) (J : List PyData → Nat → Nat → Rho → Prop) (h0 : ∀ items, PL items → J items 0 k ρ)
    (hb : ∀ items, PL items → ∀ i d m ρ1, items[i]? = some d → J items i m ρ1 → ∃ ρ2, f d ρ1 = some ρ2 ∧ RunM X a body ρ2 m (fun m' ρ' => J items (i + 1) m' ρ') R) (hd : ∀ items, PL items → ∀ m ρ', J items items.length m ρ' → N m ρ')
    (hf : ∀ x, foldedSetIterable it X.env x = pure x := by intro _; rfl) : RunMS X a (.For tg it body [] pos) ρ n N R := fun T σ H D S ms kn kr => by
  obtain ⟨wi, hw, hq⟩ := hs
  refine toS (ps_for G.ow G.calm hw hg jss hf) (hq T σ H S ms _ fun items Ji H1 Gd Y hL s1 ms1 w hG hY => ?_)
  have S1 := S.kpo s1 ms
  have sees : ∀ {H'}, Kp a H1 H' → Sees (And1 T a) H1 (And1 T a) H' := fun {H'} s => by
    refine ⟨⟨fun b hb => ?_, (S1.dm.kp s).tb⟩, kp_same1 s⟩
    rcases hb with hb | hb
    · exact (S1.dm.kp s).dn b hb
    · obtain ⟨kvs, hk⟩ := s.ka.2 ms1.vis.2
      rw [hb, hk]
      exact fun z => by cases z
  refine for_it w (fun i σ' H' => Kp a H1 H' ∧ ∃ ρ' m, SD X.K a T H' σ' ρ' ∧ MS X.K (off T H') a m ∧ J items i m ρ') ⟨Kp.refl, ρ, k, S1, ms1, h0 items hL⟩ (fun i σ' H' _ hp => hG _ H' (sees hp.1)) (fun i x σ' H' H'' hi hp y => ?_) fun σ' H' hp => ?_
  · obtain ⟨s2, ρ', m, S', ms', hj⟩ := hp
    obtain ⟨s3, d, hdi, pd⟩ := hY _ i H' x H'' hi (sees s2) y
    obtain ⟨ρ2, e2, hrun⟩ := hb items hL i d m ρ' hdi hj
    refine ht T σ' H'' x d ρ' ρ2 (S'.same s3) (dp_same off_less pd) e2 _ fun σ2 S2 _ => ?_
    have s23 : Kp a H1 H'' := s2.trans (.of s3)
    exact hrun T σ2 H'' _ S2 (ms'.same (off_same s3)) (fun σ3 H3 ρ3 m3 s4 S3 ms3 n3 => ⟨s23.trans s4, ρ3, m3, S3, ms3, n3⟩) fun v H3 d m3 s4 ms4 p r => kr v H3 d m3 (s1.trans (s23.trans s4)) ms4 p r
  · obtain ⟨s2, ρ', m, S', ms', hj⟩ := hp
    exact kn σ' H' ρ' m (s1.trans s2) S' ms' (hd items hL m ρ' hj)
/-- the list of a comprehension over what is drawn; no more is drawn in it -/
theorem qs_lcM {i : Nat} {y : Str} {py spos : Pos} {val : PyData → PyData} (G : Good X) (hs : SrcM X a tg it ρ n k PL) (hz : ∀ items, PL items → items.length < 100000) (ok : BlkOk X.N X.env.scope scope own)
    (hg : ∀ (s : Shared) (H : Hp) (C : Addr) (cl : List (Str × Addr)) (fp : List Addr), PG (X.blk s H scope (compEnvC scope cl C X.env) fp) tg g) (ht : TgSem X.K a g (own.map (·.2)) f)
    (hb : ∀ items, PL items → ∀ d, d ∈ items → ∃ ρ2, f d (wipeR ρ (own.map (·.2))) = some ρ2 ∧ EvEb X scope a elt ρ2 (val d))
    (hn : ∀ items, PL items → N k (ρ.set i (some (.dat (.list (items.map val)))))) (hy : X.N[i]? = some y := by rfl) (hyl : X.env.scope.names.lookup y = some .local := by rfl)
    (hsw : swapsWith (.ListComp elt [⟨tg, it, [], 0⟩] scope pos) (some (.Name y py)) spos.line X.env = pure true := by exact sw_true rfl rfl rfl (by decide +kernel))
    (hf : ∀ x, foldedSetIterable it X.env x = pure x := by intro _; rfl) : RunMS X a (.Assign [.Name y py] (.ListComp elt [⟨tg, it, [], 0⟩] scope pos) spos) ρ n N R := fun T σ H D S ms kn kr => by
  obtain ⟨wi, hw, hq⟩ := hs
  refine toS (ps_setLc (own := own) (te := JEb X scope elt) (tt := tYes) G.calm G.nd hy hyl hsw hw ok hg (fun s H0 C cl fp => pts_nil) (fun s H0 C cl fp => ⟨fun pins s' σ' H' Q' I h => h s H0 C cl fp pins s' I⟩) hf) ?_
  refine hq T σ H S ms _ fun items J H1 Gd Y hL s1 ms1 w hG hY => ?_
  have S1 := S.kpo s1 ms
  have hn := hn items hL
  have eq : kept yes val items = items.map val := kept_yes
  rw [← eq] at hn
  refine lc_read (T := And1 T a) (wi := fun _ H R => R J H) (f := f) (keep := yes) (val := val) (items := items) (S1.hide ms1) (hz items hL) (fun R q => q J H1 Gd Y (Sm.refl H1) w hG hY) ht (fun d hd => ?_) fun v H2 s2 p2 => kn _ H2 _ k (s1.trans (.of s2)) ((S1.same s2).put (x := .dat _) (dp_same off_less p2)) (ms1.same (off_same s2)) hn
  obtain ⟨ρ2, e, k2⟩ := hb items hL d hd
  exact ⟨ρ2, e, fun T σ H S Q q => q H (Sm.refl H), fun hk T σ H S Q q s H0 C cl fp => k2 s H0 C cl fp T σ H S Q q⟩
end
section
variable {X : Cx} {a : Addr} {ρ : Rho} {N : Rho → Prop} {R : PyData → Prop} {pos : Pos}
theorem dps3 {K : PySem.W.Frag} {H : Hp} {vs : List V} {d1 d2 d3 : PyData} (h : DpAll K H vs [d1, d2, d3]) : ∃ u v w, vs = [u, v, w] ∧ Dp K H u d1 ∧ Dp K H v d2 ∧ Dp K H w d3 := by
  cases h with
  | cons h1 h =>
    cases h with
    | cons h2 h =>
      cases h with
      | cons h3 h =>
        cases h
        exact ⟨_, _, _, rfl, h1, h2, h3⟩
theorem rs_par3 {i j l : Nat} {x y z : Str} {e1 e2 e3 : Expr} {px py pz pt : Pos} {kt k2 pt2} {d1 d2 d3 : PyData} (G : Good X) (h : EvA X a [e1, e2, e3] ρ [d1, d2, d3]) (hn : N (((ρ.set i (some (.dat d1))).set j (some (.dat d2))).set l (some (.dat d3)))) (hi : X.N[i]? = some x := by rfl) (hj : X.N[j]? = some y := by rfl) (hl : X.N[l]? = some z := by rfl)
    (hij : i ≠ j := by decide) (hil : i ≠ l := by decide) (hjl : j ≠ l := by decide) (hx : X.env.scope.names.lookup x = some .local := by rfl) (hy : X.env.scope.names.lookup y = some .local := by rfl) (hz : X.env.scope.names.lookup z = some .local := by rfl)
    (hw : swappedStores [.Tuple [.Name x px, .Name y py, .Name z pz] kt pt] (.Tuple [e1, e2, e3] k2 pt2) X.env = pure (some [x, y, z]) := by rfl)
    (hs : swapsWithSole [.Tuple [.Name x px, .Name y py, .Name z pz] kt pt] (.Tuple [e1, e2, e3] k2 pt2) pos.line X.env = pure false := by rfl) :
    RunS X a (.Assign [.Tuple [.Name x px, .Name y py, .Name z pz] kt pt] (.Tuple [e1, e2, e3] k2 pt2) pos) ρ N R := fun T σ H D S kn kr =>
  toS (ps_par3 G.calm G.nd hi hj hl hij hil hjl hx hy hz ja hw hs) (h T σ H S _ fun vs H1 s1 p1 => by
    obtain ⟨u, v, w, rfl, q1, q2, q3⟩ := dps3 p1
    exact ⟨u, v, w, rfl, kn _ H1 _ s1 ((((S.same s1).put (x := .dat d1) q1).put (x := .dat d2) q2).put (x := .dat d3) q3) hn⟩)
/-- a value of which it is known that it is data -/
theorem e_vdat {x : Str} {i : Nat} {V : VR} {d : PyData} (h : ρ[i]? = some (some (.val V))) (hV : ∀ H v, V.rel H v → Dp X.K H v d) (hN : X.N[i]? = some x := by rfl)
    (hv : Vis X.env.scope x := by first | exact Or.inl rfl | exact Or.inr (Or.inl rfl) | exact Or.inr (Or.inr rfl)) (hd : (x == ("__debug__" : Str)) = false := by decide) (hcd : (x == ("__classdict__" : Str)) = false := by decide) : EvE X a (.Name x pos) ρ d := fun T σ H S Q q => by
  obtain ⟨v, h1, h2⟩ := S.sl i _ h
  exact toE (pe_var hN hv hd hcd) ⟨v, h1, q v H (Sm.refl H) (hV _ _ h2)⟩
end
end Zj
/-! Lists of one's own that grow while numbers are drawn. -/
namespace Zj
open PySem PySem.Spec PyProof.Rows L2
variable [Nm]
section
variable {K : PySem.W.Frag} {T : Addr → Prop} {H : Hp} {p : Addr} {acc : List V} {a : Addr} {n : Nat}
/-- a tuple of whole numbers is no list -/
theorem dp_hideI {v : V} {xs : List Int} (h : Dp K (off T H) v (tI xs)) (hp : H p = some (.lst acc)) : Dp K (off (Also T p) H) v (tI xs) := by
  obtain ⟨q, vs, rfl, h1, h2⟩ := dp_tup h
  have e := dps_ints_inv h2
  subst e
  refine .tup (xs := xs.map V.int) ?_ (dps_ints xs)
  rcases h1 with (h1 | h1) | h1
  · obtain ⟨e1, e2⟩ := off_some h1
    refine .inl (.inl ?_)
    rw [off_no (fun z => z.elim e2 fun z => by rw [z, hp] at e1; cases e1)]
    exact e1
  · obtain ⟨o, h1⟩ := h1
    obtain ⟨e1, e2⟩ := off_some h1
    refine .inl (.inr ⟨o, ?_⟩)
    rw [off_no (fun z => z.elim e2 fun z => by rw [z, hp] at e1; cases e1)]
    exact e1
  · exact .inr h1
/-- no list of whole numbers: what a list of tuples holds -/
theorem ms_hideP {ds : List PyData} (ms : MS K (off T H) a n) (hp : H p = some (.lst acc)) (pa : p ≠ a) (hd : DpAll K (off T H) acc ds) (ht : ∀ d ∈ ds, ∃ es, d = .tuple es) : MS K (off (Also T p) H) a n := by
  obtain ⟨left, seed, pc, spot, cells, h1, h2, h3, h4⟩ := ms
  obtain ⟨e1, e2⟩ := off_some h1
  refine ⟨left, seed, pc, spot, cells, ?_, ?_, h3, h4⟩
  · rw [off_no (fun z => z.elim e2 fun z => pa z.symm)]
    exact e1
  · rcases h2 with (h2 | h2) | h2
    · obtain ⟨g1, g2⟩ := off_some h2
      have ne : pc ≠ p := fun z => by
        rw [z, hp] at g1
        cases g1
        cases cells with
        | nil => exact absurd h3 (by simp)
        | cons c cs =>
          cases hd with
          | cons q _ =>
            obtain ⟨es, rfl⟩ := ht _ List.mem_cons_self
            cases q
      refine .inl (.inl ?_)
      rw [off_no (fun z => z.elim g2 ne)]
      exact g1
    · obtain ⟨o, h2⟩ := h2
      obtain ⟨g1, g2⟩ := off_some h2
      refine .inl (.inr ⟨o, ?_⟩)
      rw [off_no (fun z => z.elim g2 fun z => by rw [z, hp] at g1; cases g1)]
      exact g1
    · exact .inr h2
end
/-- the list at p, known by its things -/
def ownR (K : PySem.W.Frag) (p : Addr) (ds : List PyData) : VR := ⟨fun H v => v = .ref p ∧ Dp K H v (.list ds), fun s h => ⟨h.1, dp_per s h.2⟩⟩
section
variable {X : Cx} {a : Addr} {ρ : Rho} {n : Nat} {e : Expr} {ds : List PyData} {d : PyData} {pos pos' p1 p2 : Pos} {i : Nat} {st : Stmt} {sts : List Stmt} {N : Nat → Rho → Prop} {R : Nat → PyData → Prop} {NL : Nat → Rho → List PyData → Prop}
structure OwM (X : Cx) (a : Addr) (i : Nat) (T : Addr → Prop) (p : Addr) (H0 H : Hp) (σ : L2.St) (ρ : Rho) (ds : List PyData) (n : Nat) : Prop where
  n0 : H0 p = none
  nT : ¬ T p
  pa : p ≠ a
  kp : Kp a H0 H
  sd : SD X.K a (Also T p) H σ (ρp ρ i p)
  ms : MS X.K (off (Also T p) H) a n
  lt : i < ρ.length
  at' : ∃ acc, H p = some (.lst acc) ∧ DpAll X.K (off (Also T p) H) acc ds
/-- a block behind the making of the list -/
def RunLM (X : Cx) (a : Addr) (i : Nat) (sts : List Stmt) (ρ : Rho) (ds : List PyData) (n : Nat) (N : Nat → Rho → Prop) (R : Nat → PyData → Prop) : Prop := ∀ T p H0 σ H D, OwM X a i T p H0 H σ ρ ds n →
  (∀ σ' H' ρ' m, Kp a H0 H' → SD X.K a T H' σ' ρ' → MS X.K (off T H') a m → N m ρ' → D.nx σ' H') → (∀ v H' d m, Kp a H0 H' → MS X.K (off T H') a m → Dp X.K (off T H') v d → R m d → D.rt v H') → JSs X sts D σ H
/-- a block of a turn, behind which the list still stands -/
def RunLBM (X : Cx) (a : Addr) (i : Nat) (sts : List Stmt) (ρ : Rho) (ds : List PyData) (n : Nat) (NL : Nat → Rho → List PyData → Prop) (R : Nat → PyData → Prop) : Prop := ∀ T p H0 σ H D, OwM X a i T p H0 H σ ρ ds n →
  (∀ σ' H' ρ' ds' m, OwM X a i T p H0 H' σ' ρ' ds' m → NL m ρ' ds' → D.nx σ' H') → (∀ v H' d m, Kp a H0 H' → MS X.K (off T H') a m → Dp X.K (off T H') v d → R m d → D.rt v H') → JSs X sts D σ H
theorem OwM.free {T : Addr → Prop} {p : Addr} {H0 H : Hp} {σ : L2.St} (O : OwM X a i T p H0 H σ ρ ds n) : SD X.K a T H σ (ρ.set i (some (.dat (.list ds)))) ∧ MS X.K (off T H) a n := by
  obtain ⟨acc, h1, h2⟩ := O.at'
  exact ⟨sd_free O.nT O.sd O.lt h1 h2, O.ms.same off_less⟩
theorem OwM.seen {T : Addr → Prop} {p : Addr} {H0 H : Hp} {σ : L2.St} (O : OwM X a i T p H0 H σ ρ ds n) : SD X.K a T H σ (ρ.set i (some (.val (ownR X.K p ds)))) := by
  obtain ⟨S, _⟩ := O.free
  refine ⟨by rw [S.len]; simp, S.dm, fun j y e => ?_⟩
  by_cases hj : i = j
  · subst hj
    rw [List.getElem?_set_self O.lt] at e
    cases e
    obtain ⟨v, g1, g2⟩ := O.sd.sl i (.adr p) (by rw [List.getElem?_set_self O.lt])
    have g2 : v = .ref p := g2
    subst g2
    obtain ⟨u, g3, g4⟩ := S.sl i (.dat (.list ds)) (by rw [List.getElem?_set_self O.lt])
    rw [g1] at g3
    cases g3
    exact ⟨_, g1, rfl, g4⟩
  · refine S.sl j y ?_
    rw [List.getElem?_set_ne hj] at e ⊢
    exact e
theorem lm_free (h : RunM X a sts (ρ.set i (some (.dat (.list ds)))) n N R) : RunLM X a i sts ρ ds n N R := fun T p H0 σ H D O kn kr =>
  h T σ H D O.free.1 O.free.2 (fun σ' H' ρ' m s S' ms' hN => kn σ' H' ρ' m (O.kp.trans s) S' ms' hN) fun v H' d m s ms' q hR => kr v H' d m (O.kp.trans s) ms' q hR
theorem q_new {y : Str} (G : Good X) (h : EvF X a e ρ ds) (hlt : i < ρ.length) (hn : RunLM X a i sts ρ ds n N R) (hi : X.N[i]? = some y := by rfl) (hx : Loc X.env.scope y := by first | exact Or.inl rfl | exact Or.inr rfl)
    (hs : swapsWith e (some (.Name y pos')) pos.line X.env = pure false := by rfl) (hf : X.fn y = true ∨ X.env.scope.names.lookup y = some .local := by first | exact .inl rfl | exact .inr rfl) : RunM X a (.Assign [.Name y pos'] e pos :: sts) ρ n N R := fun T σ H D S ms kn kr =>
  toSs (pss_cons js jss) (toS (ps_set G.nd hi hx je hs hf) (h T σ H S _ fun p acc H1 s1 hp q1 => by
    have S1 := S.same s1
    have ms1 := ms.same (off_same s1)
    have n0 : H p = none := by
      cases q : H p with
      | none => rfl
      | some o => exact (s1.dm p (by rw [q]; exact fun z => by cases z) hp).elim
    have e0 : off (Also T p) (upd H1 p (.lst acc)) = off T H1 := off_more hp
    have pa : p ≠ a := fun z => by
      obtain ⟨_, kvs, hk⟩ := ms1.vis
      rw [← z, hp] at hk
      cases hk
    exact hn T p H _ _ D ⟨n0, fun z => S1.dm.dn p z hp, pa, .of (s1.trans (same_new hp)), (S1.more hp).put (x := .adr p) rfl, by rw [e0]; exact ms1, hlt, acc, upd_same, by rw [e0]; exact q1⟩ kn kr))
/-- slots of which nothing is known but that they hold numbers, or the law's state -/
def Plain (ρ1 ρ2 : Rho) (i : Nat) : Prop := ρ1.length = ρ2.length ∧ ∀ j x, j ≠ i → ρ2[j]? = some (some x) → ρ1[j]? = some (some x) ∧ (x = .hnd ∨ ∃ z : Int, x = .dat (.int z))
/-- the last row of a turn: what was reckoned is put to the list -/
theorem lbm_row {y : Str} {s1 s2 s3 s4 : Stmt} (ht : ∀ d ∈ ds, ∃ es, d = .tuple es)
    (h : ∀ p, RunM X a [s1, s2, s3, s4] (ρ.set i (some (.val (ownR X.K p ds)))) n (fun m ρ1 => ∃ (xs : List Int) (ρ2 : Rho), ρ1[i]? = some (some (.val (ownR X.K p ds))) ∧ EvE X a e ρ1 (tI xs) ∧ Plain ρ1 ρ2 i ∧ NL m ρ2 (ds ++ [tI xs])) R) (hz : ds.length < 100000) (hi : X.N[i]? = some y := by rfl) (hv : Vis X.env.scope y := by first | exact Or.inl rfl | exact Or.inr (Or.inl rfl) | exact Or.inr (Or.inr rfl)) (hd : (y == ("__debug__" : Str)) = false := by decide) (hcd : (y == ("__classdict__" : Str)) = false := by decide)
    (hbase : attributeBase (.Name y p1) "append" X.env (eval (.Name y p1) X.env) = eval (.Name y p1) X.env := by rfl)
    (hfew : ((backTo pos (starEach [e] X.env)).all (fun x => !x.1) && (backToKw pos (keywordEach [] X.env)).all (fun x => x.1.isSome) && decide ([e].length + ([] : List Keyword).length + (if ([] : List Keyword).isEmpty then 0 else 1) < 30)) = true := by rfl)
    (hline : (p2.endLine == pos.line) = true := by rfl) (hst : starEach [e] X.env = (false, eval e X.env) :: starEach [] X.env := by exact star_of rfl) (hsw : swapsWith (.Call (.Attribute (.Name y p1) "append" p2) [e] [] pos) none pos'.line X.env = pure false := by rfl) :
    RunLBM X a i [s1, s2, s3, s4, .Expr (.Call (.Attribute (.Name y p1) "append" p2) [e] [] pos) pos'] ρ ds n NL R := fun T p H0 σ H D O kn kr => by
  obtain ⟨acc, a1, a2⟩ := O.at'
  refine jss_append (sts := [s1, s2, s3, s4]) (st2 := [_]) (h p T σ H { D with nx := _ } O.seen O.free.2 (fun σ1 H1 ρ1 m k1 S1 ms1 hN => ?_) fun v H' d m s ms' q hR => kr v H' d m (O.kp.trans s) ms' q hR)
  obtain ⟨xs, ρ2, hs, he, hpl, hN⟩ := hN
  obtain ⟨v, g1, rfl, g2⟩ := S1.sl i _ hs
  have b1 : H1 p = some (.lst acc) := k1.ka.1 _ _ O.pa a1 (by intro ps z; cases z)
  have b2 : DpAll X.K (off (Also T p) H1) acc ds := dps_kpo a2 k1 O.ms
  refine toSs (pss_one (ps_expr (pe_bm PySem.F.plainAttrs_list PySem.F.slot_list_append PySem.F.type_list_append mt_append (pe_var hi hv hd hcd) (pa_cons je pa_nil hst) hbase hfew hline hst rfl) hsw)) ⟨.ref p, g1, ?_, ?_⟩
  · exact .inl ⟨rfl, acc, .of b1⟩
  refine he T σ1 H1 S1 _ fun y' H2 s2 q2 => ?_
  have c1 : H2 p = some (.lst acc) := s2.ob _ _ b1 (by intro ps z; cases z)
  have S2 := S1.same s2
  refine ⟨p, acc, y', rfl, rfl, c1, Nat.lt_of_lt_of_le (by rw [dps_len b2]; exact hz) (szl (n := 100000) (Nat.le_refl _)), ?_⟩
  have eo : off (Also T p) (upd H2 p (.lst (acc ++ [y']))) = off (Also T p) H2 := off_put (.inr rfl)
  have lt1 : i < ρ1.length := (List.getElem?_eq_some_iff.mp hs).1
  have ms2 : MS X.K (off (Also T p) H2) a m := ms_hideP (ms1.same (off_same s2)) c1 O.pa (dps_same off_less (dpso s2 b2)) ht
  refine kn σ1 _ ρ2 (ds ++ [tI xs]) m ⟨O.n0, O.nT, O.pa, ((O.kp.trans k1).trans (.of s2)).putL O.n0 c1 O.pa, ⟨by rw [S2.len, hpl.1]; simp, ?_, fun j x e => ?_⟩, by rw [eo]; exact ms2, by rw [← hpl.1]; exact lt1, acc ++ [y'], upd_same, by rw [eo]; exact dps_snoc (dpso s2 b2) (dp_hideI q2 c1)⟩ hN
  · refine Din.putL ⟨fun b hb => ?_, S2.dm.tb⟩ c1
    rcases hb with hb | hb
    · exact S2.dm.dn b hb
    · rw [hb, c1]
      exact fun z => by cases z
  · rw [eo]
    by_cases hj : i = j
    · subst hj
      rw [List.getElem?_set_self (by rw [← hpl.1]; exact lt1)] at e
      cases e
      exact ⟨_, g1, rfl⟩
    · rw [List.getElem?_set_ne hj] at e
      obtain ⟨e1, e2⟩ := hpl.2 j x (Ne.symm hj) e
      obtain ⟨u, h3, h4⟩ := S2.sl j x e1
      refine ⟨u, h3, ?_⟩
      rcases e2 with rfl | ⟨z, rfl⟩
      · exact h4
      · obtain rfl := dp_int h4
        exact .int z
/-- so many turns, each of which puts something to the list -/
theorem lm_forR {tg : Expr} {g : TG} {vs : List Nat} {f : PyData → Rho → Option Rho} {body : List Stmt} {er : Expr} {p3 p4 : Pos} {k : Nat} (G : Good X) (he : ∀ p, EvE X a er (ρp ρ i p) (.int (k : Int))) (hk : k < 1000) (hg : PG X tg g) (ht : TgSem X.K a g vs f) (J : Nat → Nat → Rho → List PyData → Prop) (h0 : J 0 n ρ ds)
    (hb : ∀ j m ρ1 ds1, j < k → J j m ρ1 ds1 → i < ρ1.length → ∃ ρ2, (∀ p, f (.int (j : Int)) (ρp ρ1 i p) = some (ρp ρ2 i p)) ∧ i < ρ2.length ∧ RunLBM X a i body ρ2 ds1 m (fun m' ρ' ds' => J (j + 1) m' ρ' ds') R) (hd : ∀ m ρ' ds', J k m ρ' ds' → RunLM X a i sts ρ' ds' m N R) (hm : X.mg "range" = none) (hgr : Gl X "range" := by rfl)
    (hs : starEach [er] X.env = [(false, eval er X.env)] := by exact star_of rfl) (hf : ∀ x, foldedSetIterable (.Call (.Name "range" p3) [er] [] p4) X.env x = pure x := by intro _; rfl) : RunLM X a i (.For tg (.Call (.Name "range" p3) [er] [] p4) body [] pos :: sts) ρ ds n N R := fun T p H0 σ H D O kn kr => by
  refine toSs (pss_cons js jss) (toS (ps_for G.ow G.calm (pi_range1 hgr hm ja hs) hg jss hf) (a_cons (he p) a_nil hs (Also T p) σ H O.sd _ fun us H1 s1 q1 => ?_))
  obtain ⟨v, rfl, q⟩ := dps1 q1
  obtain ⟨acc0, a1, a2⟩ := O.at'
  have O1 : OwM X a i T p H0 H1 σ ρ ds n := ⟨O.n0, O.nT, O.pa, O.kp.trans (.of s1), O.sd.same s1, O.ms.same (off_same s1), O.lt, acc0, s1.ob _ _ a1 (by intro ps z; cases z), dpso s1 a2⟩
  refine ⟨(k : Int), by rw [dp_int q], by omega, by omega, for_it walk_range (fun j σ' H' => ∃ ρ' ds' m, OwM X a i T p H0 H' σ' ρ' ds' m ∧ J j m ρ' ds') ⟨ρ, ds, n, O1, h0⟩ (fun _ _ _ _ _ => trivial) (fun j x σ' H' H'' hj hp y => ?_) fun σ' H' hp => ?_⟩
  · obtain ⟨ρ', ds', m, O', hJ⟩ := hp
    obtain ⟨rfl, rfl⟩ := y
    obtain ⟨ρ2, e2, hl2, hrun⟩ := hb j m ρ' ds' (by simpa using hj) hJ O'.lt
    have e : V.int ((0 : Int) + (j : Int)) = V.int (j : Int) := by rw [Int.zero_add]
    refine ht (Also T p) σ' _ _ (.int (j : Int)) _ _ O'.sd (by show Dp X.K (off _ _) (V.int ((0 : Int) + (j : Int))) _; rw [e]; exact .int _) (e2 p) _ fun σ2 S2 _ => ?_
    exact hrun T p H0 σ2 _ _ ⟨O'.n0, O'.nT, O'.pa, O'.kp, S2, O'.ms, hl2, O'.at'⟩ (fun σ3 H3 ρ3 ds3 m3 O3 j3 => ⟨ρ3, ds3, m3, O3, j3⟩) fun v H3 d m3 s4 ms4 p r => kr v H3 d m3 s4 ms4 p r
  · obtain ⟨ρ', ds', m, O', hJ⟩ := hp
    exact hd m ρ' ds' (by simpa using hJ) T p H0 σ' H' D O' kn kr
/-- y = [..]; y[.. drawn ..] = .. drawn .. -/
theorem q_newput {y : Str} {ev ix : Expr} {n1 n2 : Nat} {Pv : PyData → Prop} {pa1 pa2 pb : Pos} (G : Good X) (h : EvF X a e ρ ds) (hlt : i < ρ.length) (hv0 : ∀ p, EvM X a ev (ρp ρ i p) n n1 Pv) (hx0 : ∀ p, EvM X a ix (ρp ρ i p) n1 n2 (fun z => ∃ j : Nat, z = .int (j : Int) ∧ j < ds.length))
    (hn : ∀ d j, Pv d → j < ds.length → N n2 (ρ.set i (some (.dat (.list (ds.set j d)))))) (hi : X.N[i]? = some y := by rfl) (hx : Loc X.env.scope y := by first | exact Or.inl rfl | exact Or.inr rfl) (hv : Vis X.env.scope y := by first | exact Or.inl rfl | exact Or.inr (Or.inl rfl) | exact Or.inr (Or.inr rfl)) (hd : (y == ("__debug__" : Str)) = false := by decide) (hcd : (y == ("__classdict__" : Str)) = false := by decide)
    (hs1 : swapsWith e (some (.Name y pos')) pos.line X.env = pure false := by rfl) (hf : X.fn y = true ∨ X.env.scope.names.lookup y = some .local := by first | exact .inl rfl | exact .inr rfl)
    (hs : swapsWithSole [.Subscript (.Name y pa1) ix pa2] ev pb.line X.env = pure false := by rfl) (hw : swappedStores [.Subscript (.Name y pa1) ix pa2] ev X.env = pure none := by rfl) (h1 : (assignEach [.Subscript (.Name y pa1) ix pa2] X.env).map (·.2) = [assign (.Subscript (.Name y pa1) ix pa2) X.env] := by rfl)
    (ha : ∀ v, assign (.Subscript (.Name y pa1) ix pa2) X.env v = (do
      let ov ← holding [v] (eval (.Name y pa1) X.env)
      let iv ← holding [v, ov] (eval ix X.env)
      standAt pa2
      holding [v, ov, iv] (setItem ov iv v)
      release [v, ov, iv] []) := by intro _; rfl) : RunM X a [.Assign [.Name y pos'] e pos, .Assign [.Subscript (.Name y pa1) ix pa2] ev pb] ρ n N R := fun T σ H D S ms kn kr => by
  refine toSs (pss_cons js jss) (toS (ps_set G.nd hi hx je hs1 hf) (h T σ H S _ fun p acc H1 s1 hp q1 => ?_))
  have S1 := S.same s1
  have ms1 := ms.same (off_same s1)
  have n0 : H p = none := by
    cases q : H p with
    | none => rfl
    | some o => exact (s1.dm p (by rw [q]; exact fun z => by cases z) hp).elim
  have nT : ¬ T p := fun z => S1.dm.dn p z hp
  have e0 : off (Also T p) (upd H1 p (.lst acc)) = off T H1 := off_more hp
  have pa : p ≠ a := fun z => by
    obtain ⟨_, kvs, hk⟩ := ms1.vis
    rw [← z, hp] at hk
    cases hk
  have S2 : SD X.K a (Also T p) (upd H1 p (.lst acc)) (σ.set i (some (.ref p))) (ρp ρ i p) := (S1.more hp).put (x := .adr p) rfl
  have ms2 : MS X.K (off (Also T p) (upd H1 p (.lst acc))) a n := by rw [e0]; exact ms1
  have q2 : DpAll X.K (off (Also T p) (upd H1 p (.lst acc))) acc ds := by rw [e0]; exact q1
  refine toSs (pss_one js) (toS (ps_asg je (pg_sub (pe_var hi hv hd hcd) je set_list ha) hs hw h1) (hv0 p (Also T p) _ _ S2 ms2 _ fun v d H2 k2 m2 p2 hPv => ?_))
  have S3 := S2.kpo k2 ms2
  obtain ⟨u, w1, w2⟩ := S3.sl i (.adr p) (by rw [List.getElem?_set_self hlt])
  have w2 : u = .ref p := w2
  subst w2
  refine ⟨.ref p, w1, hx0 p (Also T p) _ H2 S3 m2 _ fun z dz H3 k3 m3 pz hz => ?_⟩
  obtain ⟨j, rfl, hj⟩ := hz
  obtain rfl := dp_int pz
  have c3 : H3 p = some (.lst acc) := (k2.trans k3).ka.1 _ _ pa upd_same (by intro ps z; cases z)
  have q3 : DpAll X.K (off (Also T p) H3) acc ds := dps_kpo (dps_kpo q2 k2 ms2) k3 m2
  have hl : acc.length = ds.length := dps_len q3
  have S4 := S3.kpo k3 m2
  have p4 := dp_kpo p2 k3 m2
  have eo : off (Also T p) (upd H3 p (.lst (acc.set j v))) = off (Also T p) H3 := off_put (.inr rfl)
  refine ⟨p, acc, (j : Int), j, rfl, rfl, c3, by unfold ixN; rw [if_pos (by omega), if_pos (by rw [hl]; omega)]; simp, ?_⟩
  have S5 : SD X.K a (Also T p) (upd H3 p (.lst (acc.set j v))) (σ.set i (some (.ref p))) (ρp ρ i p) := ⟨S4.len, S4.dm.putL c3, fun k y e => by rw [eo]; exact S4.sl k y e⟩
  have q5 : DpAll X.K (off (Also T p) (upd H3 p (.lst (acc.set j v)))) (acc.set j v) (ds.set j d) := by
    rw [eo]
    exact dps_set j q3 p4
  have m5 : MS X.K (off T (upd H3 p (.lst (acc.set j v)))) a n2 := by
    rw [← eo] at m3
    exact m3.same off_less
  exact kn _ _ _ n2 ((((Kp.of s1).trans (.of (same_new hp))).trans (k2.trans k3)).putL n0 c3 pa) (sd_free nT S5 hlt upd_same q5) m5 (hn d j hPv hj)
end
end Zj
/-! The law's leading places, its drawn rows. -/
namespace K4
open PySem PySem.Spec PyProof.Rows L2 Zj
variable [Nm]
def kNZ : PyData → Bool
  | .tuple [_, .int x] => !(x == 0)
  | _ => false
def vFst : PyData → PyData
  | .tuple [d, _] => d
  | _ => .none
def vLds (d : PyData) : PyData := placeD (lead (unI d))
theorem heads_at {r : List Int} {p : Nat} {D : Nat} (h : Rr (D + 1) p r) (hp : p < D + 1) : atI (kept kNZ vFst (numbered (r.map .int))) 0 = some (.int (p : Int)) := by
  have hl : p < r.length := by rw [h.len]; exact hp
  have hg : (numbered (r.map PyData.int))[p]? = some (.tuple [.int (p : Int), .int (cf r p)]) := numbered_get (by rw [List.getElem?_map, List.getElem?_eq_getElem hl, cf_get (List.getElem?_eq_getElem hl)] <;> rfl)
  have hf : ((numbered (r.map PyData.int)).filter kNZ).head? = some (.tuple [.int (p : Int), .int (cf r p)]) := by
    rw [List.head?_filter, List.find?_eq_some_iff_getElem]
    obtain ⟨hlt, e⟩ := List.getElem?_eq_some_iff.mp hg
    refine ⟨?_, p, hlt, e, fun j hj => ?_⟩
    · show (!(cf r p == 0)) = true
      have := h.pos
      simp
      omega
    · have hj' : j < r.length := by omega
      have e2 : (numbered (r.map PyData.int))[j]? = some (.tuple [.int (j : Int), .int (cf r j)]) := numbered_get (by rw [List.getElem?_map, List.getElem?_eq_getElem hj', cf_get (List.getElem?_eq_getElem hj')] <;> rfl)
      obtain ⟨_, e3⟩ := List.getElem?_eq_some_iff.mp e2
      rw [e3]
      show (!(!(cf r j == 0))) = true
      rw [h.low j hj] <;> rfl
  unfold kept
  refine ati_of (j := 0) rfl ?_
  rw [← List.head?_eq_getElem?, List.head?_map, hf] <;> rfl
section
variable {P : Program} {w : World} {K : PySem.W.Frag} {mg : Str → Option Value} {base : Heap} {f : Addr} {fd : FuncData}
def R_leads (ds : List PyData) (d : PyData) : Prop := ∃ (D : Nat) (Q : List (Nat × List Int)), ds = [.tuple (rsD (rowsOf Q))] ∧ D ≤ 4 ∧ Red (D + 1) Q ∧ (∀ q ∈ Q, q.1 + 1 < D + 1) ∧ d = lI (ldI Q)
theorem ok_leads (F : Fun K "_law_leads" "_law_leads" st__law_leads f fd) (T : Tx mg) : FnOk P w K mg base CX0 1 f fd ["flat_so"] (spR K R_leads) := by
  refine fnR F sc__law_leads (fun ds d h => by obtain ⟨_, _, rfl, _⟩ := h; rfl) fun cdv A outer s H E G hr ds d h => ?_
  obtain ⟨D, Q, rfl, hD4, R, lt, rfl⟩ := h
  have ql := q_len R lt
  refine r_one (rs_ret (e_is (e_lc0 (own := [("row", 1)]) (f := fName 1) (val := vLd) G (src_T (e_var (i := 0) rfl)) (by rw [rsD_len]; unfold rowsOf; rw [List.length_map]; omega) (blkOk_by (N := n__law_leads) (sc := defScope st__law_leads) (by decide +kernel))
    (fun _ _ _ _ _ => pg_name (i := 1) sc__law_leads.nd rfl (Or.inl rfl)) (tg_name (by decide)) (fun d hd => ?_)) ?_) rfl)
  · obtain ⟨r, hr', rfl⟩ := rsD_mem hd
    unfold rowsOf at hr'
    obtain ⟨q, hq, rfl⟩ := List.mem_map.mp hr'
    have rq := R.row q hq
    have lq := lt q hq
    have e : vLd (tI q.2) = .int (q.1 : Int) := by
      unfold vLd
      rw [unI_tI, lead_rr rq lq] <;> rfl
    refine ⟨_, rfl, fun s H C cl fp => e_is (e_ixL (e_lc (own := [("k", 2), ("number", 3)]) (f := fPair 2 3) (keep := kNZ) (val := vFst) (items := numbered (q.2.map .int)) (good_blk G) (src_ET (a_cons (e_var (i := 1) rfl) a_nil) T.enum) (by rw [numbered_len]; simp [rq.len]; omega) (blkOk_by (by rfl))
      (fun _ _ _ _ _ => pg_tup rfl (pgs_cons (pg_name (i := 2) sc__law_leads.nd rfl (Or.inl rfl)) (pgs_cons (pg_name (i := 3) sc__law_leads.nd rfl (Or.inl rfl)) pgs_nil))) (tg_pair (by decide) (by decide)) (fun d hd => ?_)) e_int (heads_at rq (by omega))) e.symm⟩
    obtain ⟨n, x, hx, rfl⟩ := mem_numbered hd
    obtain ⟨z, hz, rfl⟩ := getI hx
    exact ⟨_, rfl, fun s H C cl fp => t_cmp od_neI (e_var (i := 3) rfl) e_int (nomark _), fun _ s H C cl fp => e_var (i := 2) rfl⟩
  · unfold rsD rowsOf ldI
    rw [List.map_map, List.map_map]
    show PyData.list _ = PyData.list (List.map _ (List.map _ _))
    rw [List.map_map]
    refine congrArg PyData.list (List.map_congr_left fun q hq => ?_)
    show vLd (tI q.2) = .int (q.1 : Int)
    unfold vLd
    rw [unI_tI, lead_rr (R.row q hq) (lt q hq)] <;> rfl
/-- no number of the rows is greater -/
def Sm9 (D b : Nat) (rows : List (List Int)) : Prop := ∀ r ∈ rows, r.length = D + 1 ∧ ∀ x ∈ r, x.natAbs ≤ b
theorem Sm9.mono {D b c : Nat} {rows : List (List Int)} (h : Sm9 D b rows) (hb : b ≤ c) : Sm9 D c rows := fun r hr => ⟨(h r hr).1, fun x hx => Nat.le_trans ((h r hr).2 x hx) hb⟩
def R_lrows (ds : List PyData) (Q : PyData → Prop) : Prop := ∃ D c : Nat, ds = [.int (D : Int), .int (c : Int)] ∧ 1 ≤ D ∧ D ≤ 4 ∧ c ≤ 5 ∧ ∀ rows : List (List Int), rows.length = c → Sm9 D (2 * 3 ^ (c - 1)) rows → Q (.tuple (rsD rows))
theorem ma_weak {X : Cx} {a : Addr} {ρ : Rho} {es : List Expr} {n m : Nat} {P Q : List PyData → Prop} (h : EvMA X a es ρ n m P) (hq : ∀ ds, P ds → Q ds) : EvMA X a es ρ n m Q := fun T σ H S ms R r => h T σ H S ms R fun vs ds H2 k m2 p hp => r vs ds H2 k m2 p (hq ds hp)
theorem q_by {X : Cx} {a : Addr} {sts : List Stmt} {ρ : Rho} {n : Nat} {N : Nat → Rho → Prop} {R : Nat → PyData → Prop} (M : Nat → Rho → Prop) (h : RunM X a sts ρ n M R) (hi : ∀ m ρ', M m ρ' → N m ρ') : RunM X a sts ρ n N R := fun T σ H D S ms kn kr =>
  h T σ H D S ms (fun σ' H' ρ' m k S' ms' hN => kn σ' H' ρ' m k S' ms' (hi m ρ' hN)) kr
theorem flat_rep (D : Nat) : (List.replicate ((D : Int) + 1).toNat [PyData.int 0]).flatten = (List.replicate (D + 1) (0 : Int)).map .int := by
  rw [rep_one, show ((D : Int) + 1).toNat = D + 1 by omega, List.map_replicate]
theorem ok_lrows (F : Fun K "_law_rows" "_law_rows" st__law_rows f fd) (T : Tx mg) (C1 : CalG P w K mg base 1 "_law_draw" ["m", "bound"] (spM K 1 R_draw)) (C2 : CalG P w K mg base 2 "_law_of" ["m", "some"] (spM K 1 fun ds Q => ∃ es, ds = [.list es] ∧ 1 ≤ es.length ∧ es.length ≤ 1000 ∧ ∀ d ∈ es, Q d)) : FnG P w K mg base CX0 3 f fd ["m", "dimension_so", "count"] (spM K 45 R_lrows) := by
  refine fnM F sc__law_rows (fun ds Pd h => by obtain ⟨_, _, rfl, _⟩ := h; rfl) fun cdv A outer s H E G hr hgd a n ds Pd h => ?_
  obtain ⟨D, c, rfl, hD, hD4, hc, hP⟩ := h
  refine q_new (i := 3) (ds := rsD []) G (f_lst a_nil) (show (3 : Nat) < 10 by decide) ?_
  refine lm_forR (k := c) G (fun p => e_var (i := 2) rfl) (by omega) (pg_name (i := 4) sc__law_rows.nd rfl (Or.inl rfl)) (tg_name (vs := [4]) (by decide))
    (fun j m ρ' ds' => n + 9 * (5 - j) ≤ m ∧ (∃ rows, ds' = rsD rows ∧ rows.length = j ∧ Sm9 D (2 * 3 ^ (j - 1)) rows) ∧ ∃ y3 y4 y5 y6 y7 y8 y9, ρ' = [some .hnd, some (.dat (.int (D : Int))), some (.dat (.int (c : Int))), y3, y4, y5, y6, y7, y8, y9])
    ⟨by omega, ⟨[], rfl, rfl, nofun⟩, _, _, _, _, _, _, _, rfl⟩ (fun j m ρ1 ds1 hj hJ hlt => ?_) (fun m ρ' ds' hJ => ?_) T.range
  · obtain ⟨hm, ⟨rows, rfl, hl, hS⟩, y3, y4, y5, y6, y7, y8, y9, rfl⟩ := hJ
    refine ⟨[some .hnd, some (.dat (.int (D : Int))), some (.dat (.int (c : Int))), y3, some (.dat (.int (j : Int))), y5, y6, y7, y8, y9], fun p => rfl, show (3 : Nat) < 10 by decide, ?_⟩
    obtain ⟨q, rfl⟩ : ∃ q, m = q + 9 := ⟨m - 9, by omega⟩
    have hq : n + 9 * (5 - (j + 1)) ≤ q := by omega
    refine lbm_row (i := 3) (fun d hd => by obtain ⟨r, _, rfl⟩ := rsD_mem hd; exact ⟨_, rfl⟩) (fun p => ?_) (by rw [rsD_len]; omega)
    refine q_by (fun m ρ1 => q ≤ m ∧ ∃ (xs : List Int) (y6 y7 y8 y9 : Option DV), ρ1 = [some .hnd, some (.dat (.int (D : Int))), some (.dat (.int (c : Int))), some (.val (ownR K p (rsD rows))), some (.dat (.int (j : Int))), some (.dat (lI xs)), y6, y7, y8, y9] ∧ xs.length = D + 1 ∧ ∀ x ∈ xs, x.natAbs ≤ 2 * 3 ^ j) ?_ fun m ρ1 hM => ?_
    · refine q_cons (qs_lc0 (k := q + 4) (c := 1) (i := 5) (own := [("spot", 7)]) (f := fName 7) (V := fun _ d => ∃ x : Int, d = .int x ∧ x.natAbs ≤ 2) (items := Zj.upTo ((D : Int) + 1).toNat) G (src_R (a_cons (e_bin od_add (e_var (i := 1) rfl) e_int) a_nil) (by omega) (by omega) T.range)
        (by rw [upto_len]; omega) (by rw [upto_len]; omega) (blkOk_by (N := n__law_rows) (sc := defScope st__law_rows) (by decide +kernel)) (fun _ _ _ _ _ => pg_name (i := 7) sc__law_rows.nd rfl (Or.inl rfl)) (tg_name (by decide)) (fun d hd => ⟨_, rfl, fun m s H C cl fp => ?_⟩) fun ds hds => ?_)
      · refine m_bin (P1 := fun d => ∃ r : Int, d = .int r ∧ 0 ≤ r ∧ r < 5) (P2 := fun _ d => d = .int 2) (m := m) (m_draw (i := 0) C1 hgd (hr.mono (by decide)) rfl e_int (by decide) (by decide)) (fun _ _ => m_pure e_int rfl (Nat.le_refl _)) (fun d1 d2 h1 h2 => ?_)
        obtain ⟨r, rfl, r0, r1⟩ := h1
        subst h2
        exact ⟨_, od_sub, _, rfl, by omega⟩
      obtain ⟨ns, rfl, hnl, hn⟩ := fa2_ints hds
      rw [upto_len] at hnl
      have hnl : ns.length = D + 1 := by omega
      have pow1 : 1 ≤ 3 ^ j := Nat.one_le_pow _ _ (by decide)
      have hn2 : ∀ x ∈ ns, x.natAbs ≤ 2 * 3 ^ j := fun x hx => by have := hn x hx; omega
      refine q_cons (qs_set (i := 6) (m := q + 3) (P := fun d => ∃ r : Int, d = .int r ∧ 0 ≤ r ∧ r < 5) G (m_draw (i := 0) C1 hgd (hr.mono (by decide)) rfl e_int (by decide) (by decide)) fun d hd => ?_)
      obtain ⟨way, rfl, _, _⟩ := hd
      by_cases h0 : way = 0 ∧ rows ≠ []
      · obtain ⟨rfl, hne⟩ := h0
        have hrl : 1 ≤ rows.length := by
          cases rows with
          | nil => exact absurd rfl hne
          | cons => simp
        obtain ⟨j', rfl⟩ : ∃ j', j = j' + 1 := ⟨j - 1, by omega⟩
        have neb : (!(rows == [])) = true := by simpa using hne
        refine q_cons (qs_if (PB := (· = true)) (mt_pure (t_and2 (b := true) (t_is (t_cmp od_eqI (e_var (i := 6) rfl) e_int (nomark _)) rfl) (fun _ => t_is (t_cmp (od_neD (d1 := .list (rsD rows)) (d2 := .list (rsD [])) G.un (shaped_ls _) (shaped_ls [])) (e_vdat (i := 3) rfl fun H v h => h.2) (e_lst a_nil) (nomark _)) (by rw [eqv_lrs]; exact neb)) nofun) rfl (Nat.le_refl _)) (fun _ => ?_) nofun)
        refine q_one (qs_lcM (k := q + 1) (i := 5) (own := [("a", 8), ("b", 9)]) (f := fPair 8 9) (val := onPair fun x y => x - 2 * y) (PL := fun items => ∃ xs ys : List Int, items = List.zipWith (fun x y => PyData.tuple [x, y]) (xs.map .int) (ys.map .int) ∧ xs ∈ rows ∧ ys ∈ rows) G
          (srcM_ZT (ma_weak (ma_cons (m := q + 2) (P := fun d => ∃ r ∈ rows, d = tI r) (m_call (i := 0) (ds := [.list (rsD rows)]) C2 hgd (hr.mono (by decide)) rfl (a_cons (e_vdat (i := 3) rfl fun H v h => h.2) a_nil) ⟨_, rfl, by rw [rsD_len]; omega, by rw [rsD_len]; omega, fun d hd => rsD_mem hd⟩ (Nat.le_refl _))
            fun _ _ => ma_cons (m := q + 1) (P := fun d => ∃ r ∈ rows, d = tI r) (m_call (i := 0) (ds := [.list (rsD rows)]) C2 hgd (hr.mono (by decide)) rfl (a_cons (e_vdat (i := 3) rfl fun H v h => h.2) a_nil) ⟨_, rfl, by rw [rsD_len]; omega, by rw [rsD_len]; omega, fun d hd => rsD_mem hd⟩ (Nat.le_refl _)) fun _ _ => ma_nil (Nat.le_refl _)) fun ds hds => ?_) T.zip)
          (fun items hL => ?_) (blkOk_by (N := n__law_rows) (sc := defScope st__law_rows) (by decide +kernel))
          (fun _ _ _ _ _ => pg_tup rfl (pgs_cons (pg_name (i := 8) sc__law_rows.nd rfl (Or.inl rfl)) (pgs_cons (pg_name (i := 9) sc__law_rows.nd rfl (Or.inl rfl)) pgs_nil))) (tg_pair (by decide) (by decide)) (fun items hL d hd => ?_) fun items hL => ?_)
        · obtain ⟨_, _, rfl, ⟨r, hr1, rfl⟩, _, _, rfl, ⟨r2, hr2, rfl⟩, rfl⟩ := hds
          exact ⟨_, _, rfl, r, r2, rfl, hr1, hr2⟩
        · obtain ⟨xs, ys, rfl, h1, h2⟩ := hL
          have := (hS xs h1).1
          simp
          omega
        · obtain ⟨xs, ys, rfl, h1, h2⟩ := hL
          obtain ⟨x, g1, y, g2, rfl⟩ := mem_zipI hd
          have bx := (hS xs h1).2 x g1
          have b2 : Bits 100 (2 : Int) := show (2 : Nat) < 2 ^ 100 by decide
          have by' := (hS ys h2).2 y g2
          have pw : 2 * 3 ^ (j' + 1 - 1) < 2 ^ 100 := by
            have : 3 ^ (j' + 1 - 1) ≤ 3 ^ 5 := Nat.pow_le_pow_right (by decide) (by omega)
            have e5 : (3 : Nat) ^ 5 = 243 := rfl
            have : (500 : Nat) < 2 ^ 100 := by decide
            omega
          exact ⟨_, rfl, fun s H C cl fp => e_bin od_sub (e_var (i := 8) rfl) (e_bin (od_mul (mul_ok b2 (show Bits 100 y from by unfold Bits; omega) (by decide))) e_int (e_var (i := 9) rfl))⟩
        · obtain ⟨xs, ys, rfl, h1, h2⟩ := hL
          rw [zipI_map]
          obtain ⟨l1, b1⟩ := hS xs h1
          obtain ⟨l2, b2⟩ := hS ys h2
          refine q_one (q_skip (t_is (t_cmp od_eqI (e_var (i := 6) rfl) e_int (nomark _)) rfl) ⟨by omega, _, _, _, _, _, rfl, by rw [List.length_zipWith, l1, l2]; omega, fun z hz => ?_⟩)
          obtain ⟨i, hi⟩ := List.getElem?_of_mem hz
          rw [List.getElem?_zipWith] at hi
          split at hi
          · rename_i x y e1 e2
            cases hi
            have q1 := b1 x (List.mem_of_getElem? e1)
            have q2 := b2 y (List.mem_of_getElem? e2)
            have e3 : 3 ^ (j' + 1) = 3 * 3 ^ (j' + 1 - 1) := by rw [Nat.add_sub_cancel, Nat.pow_succ, Nat.mul_comm]
            rw [e3]
            omega
          · cases hi
      · refine q_cons (q_skip (t_and2 (b := way == 0) (t_cmp od_eqI (e_var (i := 6) rfl) e_int (nomark _)) (fun hw => t_is (t_cmp (od_neD (d1 := .list (rsD rows)) (d2 := .list (rsD [])) G.un (shaped_ls _) (shaped_ls [])) (e_vdat (i := 3) rfl fun H v h => h.2) (e_lst a_nil) (nomark _)) (by
          rw [eqv_lrs]
          have : rows = [] := Classical.byContradiction fun z => h0 ⟨by simpa using hw, z⟩
          rw [this] <;> rfl)) fun _ => rfl) ?_)
        by_cases h1 : way = 1
        · subst h1
          refine q_one (qs_if (PB := (· = true)) (mt_pure (t_is (t_cmp od_eqI (e_var (i := 6) rfl) e_int (nomark _)) rfl) rfl (Nat.le_refl _)) (fun _ => ?_) nofun)
          refine q_newput (i := 5) (n1 := q + 1) (n2 := q) (ds := (List.replicate (D + 1) (0 : Int)).map .int) (Pv := fun d => ∃ x : Int, d = .int x ∧ x.natAbs ≤ 2) G (by rw [← flat_rep]; exact f_rep (a_cons e_int a_nil) (e_bin od_add (e_var (i := 1) rfl) e_int) (by omega) (by omega) (by decide)) (show (5 : Nat) < 10 by decide) (fun p => ?_) (fun p => ?_) fun d i hd hi => ?_
          · refine m_bin (P1 := fun d => ∃ x : Int, d = .int x ∧ 0 ≤ x ∧ x ≤ 1) (P2 := fun _ d => ∃ x : Int, d = .int x ∧ 0 ≤ x ∧ x ≤ 1) (m := q + 2) (m_bin (P1 := fun d => ∃ r : Int, d = .int r ∧ 0 ≤ r ∧ r < 4) (P2 := fun _ d => d = .int 3) (m := q + 2) (m_draw (i := 0) C1 hgd (hr.mono (by decide)) rfl e_int (by decide) (by decide)) (fun _ _ => m_pure e_int rfl (Nat.le_refl _)) fun d1 d2 h1 h2 => ?_) (fun _ _ => ?_) fun d1 d2 h1 h2 => ?_
            · obtain ⟨r, rfl, r0, r1⟩ := h1
              subst h2
              refine ⟨_, od_fdiv (by decide) (by decide +kernel), _, rfl, ?_⟩
              rw [Int.fdiv_eq_ediv_of_nonneg _ (by decide)]
              omega
            · refine m_callT (id := "int") (PA := fun ds => ∃ b, ds = [.bool b]) (fun ds hds => ?_) (ma_weak (ma_cons (m := q + 1) (P := fun d => ∃ b, d = .bool b) (m_cmp (P1 := fun d => ∃ r : Int, d = .int r ∧ 0 ≤ r ∧ r < 4) (P2 := fun _ d => d = .int 0) (m := q + 1) (m_draw (i := 0) C1 hgd (hr.mono (by decide)) rfl e_int (by decide) (by decide)) (fun _ _ => m_pure e_int rfl (Nat.le_refl _)) (fun d1 d2 h1 h2 => ?_) (nomark _)) fun _ _ => ma_nil (Nat.le_refl _)) fun ds hds => ?_) T.int (by decide +kernel)
              · obtain ⟨b, rfl⟩ := hds
                refine ⟨_, ca_intB, _, rfl, ?_⟩
                cases b <;> simp
              · obtain ⟨r, rfl, _, _⟩ := h1
                subst h2
                exact ⟨_, od_eqI, _, rfl⟩
              · obtain ⟨_, _, rfl, ⟨b, rfl⟩, rfl⟩ := hds
                exact ⟨b, rfl⟩
            · obtain ⟨x, rfl, x0, x1⟩ := h1
              obtain ⟨y, rfl, y0, y1⟩ := h2
              exact ⟨_, od_add, _, rfl, by omega⟩
          · refine m_weak (m_draw (i := 0) (b := (D : Int) + 1) C1 hgd (hr.mono (by decide)) rfl (e_bin od_add (e_var (i := 1) rfl) e_int) (by omega) (by omega)) (Nat.le_refl _) (Nat.le_refl _) fun d hd => ?_
            obtain ⟨r, rfl, r0, r1⟩ := hd
            exact ⟨r.toNat, by rw [Int.toNat_of_nonneg r0], by simp; omega⟩
          · obtain ⟨x, rfl, hx⟩ := hd
            refine ⟨by omega, (List.replicate (D + 1) (0 : Int)).set i x, some (.dat (.int 1)), y7, y8, y9, ?_, by simp, fun z hz => ?_⟩
            · rw [← List.map_set] <;> rfl
            · rcases List.mem_or_eq_of_mem_set hz with hz | rfl
              · rw [List.eq_of_mem_replicate hz]
                exact Nat.zero_le _
              · omega
        · exact q_one (q_skip (t_is (t_cmp od_eqI (e_var (i := 6) rfl) e_int (nomark _)) (by simpa using h1)) ⟨by omega, _, _, _, _, _, rfl, hnl, hn2⟩)
    · obtain ⟨hqm, xs, z6, z7, z8, z9, rfl, hxl, hxb⟩ := hM
      refine ⟨xs, [some .hnd, some (.dat (.int (D : Int))), some (.dat (.int (c : Int))), none, none, none, none, none, none, none], rfl, e_callT ca_tupL (a_cons (e_var (i := 5) rfl) a_nil) T.tuple (by decide +kernel), ⟨rfl, fun k x hk e => ?_⟩, by omega, ⟨rows ++ [xs], by rw [← rsD_app] <;> rfl, by rw [List.length_append, hl] <;> rfl, ?_⟩, _, _, _, _, _, _, _, rfl⟩
      · match k, e with
        | 0, e => cases e; exact ⟨rfl, .inl rfl⟩
        | 1, e => cases e; exact ⟨rfl, .inr ⟨_, rfl⟩⟩
        | 2, e => cases e; exact ⟨rfl, .inr ⟨_, rfl⟩⟩
        | 3, e => exact absurd rfl hk
        | 4, e => cases e
        | 5, e => cases e
        | 6, e => cases e
        | 7, e => cases e
        | 8, e => cases e
        | 9, e => cases e
        | k + 10, e => cases e
      · intro r hr
        rcases List.mem_append.mp hr with hr | hr
        · refine hS.mono ?_ r hr
          exact Nat.mul_le_mul_left _ (Nat.pow_le_pow_right (by decide) (by omega))
        · rw [List.mem_singleton] at hr
          subst hr
          exact ⟨hxl, by rw [Nat.add_sub_cancel]; exact hxb⟩
  · obtain ⟨hm, ⟨rows, rfl, hl, hS⟩, y3, y4, y5, y6, y7, y8, y9, rfl⟩ := hJ
    exact lm_free (q_one (qs_ret (m_pure (e_callT ca_tupL (a_cons (e_var (i := 3) rfl) a_nil) T.tuple (by decide +kernel)) (hP rows hl hS) (Nat.le_refl _)) fun d hd => ⟨by omega, hd⟩))
end
end K4
/-! What point and directions of a flat are to its rows. -/
namespace K4
open PySem PySem.Spec PyProof.Rows L2 Zj
variable [Nm]
/-! ### sums over places -/
def sm (f : Nat → Int) : Nat → Int
  | 0 => 0
  | n + 1 => sm f n + f n
theorem sm_zero {f : Nat → Int} : ∀ {n : Nat}, (∀ j, j < n → f j = 0) → sm f n = 0
  | 0, _ => rfl
  | n + 1, h => by
    show sm f n + f n = 0
    rw [sm_zero fun j hj => h j (by omega), h n (by omega)] <;> rfl
theorem sm_one {f : Nat → Int} {i : Nat} : ∀ {n : Nat}, i < n → (∀ j, j < n → j ≠ i → f j = 0) → sm f n = f i
  | n + 1, hi, h => by
    show sm f n + f n = f i
    by_cases e : i = n
    · subst e
      rw [sm_zero fun j hj => h j (by omega) (by omega), Int.zero_add]
    · rw [sm_one (by omega) fun j hj hne => h j (by omega) hne, h n (by omega) (Ne.symm e), Int.add_zero]
theorem sm_two {f : Nat → Int} {i l : Nat} : ∀ {n : Nat}, i < n → l < n → i ≠ l → (∀ j, j < n → j ≠ i → j ≠ l → f j = 0) → sm f n = f i + f l
  | n + 1, hi, hl, ne, h => by
    show sm f n + f n = f i + f l
    by_cases e : i = n
    · subst e
      rw [sm_one (i := l) (by omega) fun j hj hne => h j (by omega) (by omega) hne, Int.add_comm]
    · by_cases e2 : l = n
      · subst e2
        rw [sm_one (i := i) (by omega) fun j hj hne => h j (by omega) hne (by omega)]
      · rw [sm_two (by omega) (by omega) ne fun j hj h1 h2 => h j (by omega) h1 h2, h n (by omega) (Ne.symm e) (Ne.symm e2), Int.add_zero]
theorem sm_front (f : Nat → Int) : ∀ n, sm f (n + 1) = f 0 + sm (fun j => f (j + 1)) n
  | 0 => by
    show sm f 0 + f 0 = f 0 + 0
    show (0 : Int) + f 0 = f 0 + 0
    omega
  | n + 1 => by
    show sm f (n + 1) + f (n + 1) = f 0 + (sm (fun j => f (j + 1)) n + f (n + 1))
    rw [sm_front f n, Int.add_assoc]
theorem sm_same {f g : Nat → Int} : ∀ {n : Nat}, (∀ j, j < n → f j = g j) → sm f n = sm g n
  | 0, _ => rfl
  | n + 1, h => by
    show sm f n + f n = sm g n + g n
    rw [sm_same fun j hj => h j (by omega), h n (by omega)]
theorem cf_cons0 (x : Int) (xs : List Int) : cf (x :: xs) 0 = x := rfl
theorem cf_consS (x : Int) (xs : List Int) (j : Nat) : cf (x :: xs) (j + 1) = cf xs j := rfl
theorem dot_sm : ∀ {n : Nat} {xs ys : List Int}, xs.length = n → ys.length = n → dot xs ys = sm (fun j => cf xs j * cf ys j) n
  | 0, [], [], _, _ => rfl
  | n + 1, x :: xs, y :: ys, h1, h2 => by
    rw [dot_cons, sm_front, dot_sm (n := n) (by simpa using h1) (by simpa using h2)]
    rfl
/-! ### the point -/
theorem ptc_len (cs : List (Int × Int)) : (ptC cs).length = cs.length + 1 := by unfold ptC; simp
theorem ptc_last (cs : List (Int × Int)) : (ptC cs).getLast? = some (lcmL (cs.map Prod.snd) : Int) := by unfold ptC; simp
theorem ptc_cf {cs : List (Int × Int)} {j : Nat} {p : Int × Int} (h : cs[j]? = some p) : cf (ptC cs) j = p.1 * Int.fdiv (lcmL (cs.map Prod.snd)) p.2 := by
  refine cf_get ?_
  unfold ptC
  rw [List.getElem?_append_left (by simpa using (List.getElem?_eq_some_iff.mp h).1), List.getElem?_map, h] <;> rfl
theorem ptc_end {cs : List (Int × Int)} : cf (ptC cs) cs.length = (lcmL (cs.map Prod.snd) : Int) := by
  refine cf_get ?_
  unfold ptC
  rw [List.getElem?_append_right (by simp)]
  simp
theorem crd_at {D : Nat} {Q : List (Nat × List Int)} {j : Nat} (hj : j < D) : (crd D Q)[j]? = some (co D Q j) := by
  unfold crd
  rw [List.getElem?_map, List.getElem?_range hj] <;> rfl
theorem co_lead {D : Nat} {w : Nat} {Q : List (Nat × List Int)} (R : Red w Q) {q : Nat × List Int} (hq : q ∈ Q) : co D Q q.1 = fp (-(cf q.2 D)) (cf q.2 q.1) := by
  unfold co
  cases e : Q.find? fun t => t.1 == q.1 with
  | some t =>
    have ht := List.mem_of_find?_eq_some e
    have := List.find?_some e
    rw [R.same ht hq (by simpa using this)]
  | none =>
    have := List.find?_eq_none.mp e q hq
    simp at this
theorem co_free {D : Nat} {Q : List (Nat × List Int)} {j : Nat} (hj : isFree Q j = true) : co D Q j = (0, 1) := by
  unfold co
  unfold isFree at hj
  have e : (Q.find? fun q => q.1 == j) = none := List.find?_eq_none.mpr fun t ht => by
    have : (Q.any fun q => q.1 == j) = false := by simpa using hj
    rw [List.any_eq_false] at this
    exact this t ht
  rw [e]
theorem free_or {Q : List (Nat × List Int)} (j : Nat) : isFree Q j = true ∨ ∃ q ∈ Q, q.1 = j := by
  by_cases h : isFree Q j = true
  · exact .inl h
  · refine .inr ?_
    unfold isFree at h
    have : (Q.any fun q => q.1 == j) = true := by simpa using h
    obtain ⟨q, hq, e⟩ := List.any_eq_true.mp this
    exact ⟨q, hq, by simpa using e⟩
theorem free_not {Q : List (Nat × List Int)} {q : Nat × List Int} (hq : q ∈ Q) {f : Nat} (hf : isFree Q f = true) : q.1 ≠ f := fun e => by
  unfold isFree at hf
  have : (Q.any fun q => q.1 == f) = true := List.any_eq_true.mpr ⟨q, hq, by simpa using e⟩
  rw [this] at hf
  cases hf
theorem pt_zero {D : Nat} {Q : List (Nat × List Int)} (hD : D ≤ 4) (R : Red (D + 1) Q) (lt : ∀ q ∈ Q, q.1 + 1 < D + 1) (hb : ∀ q ∈ Q, BitsL 150 q.2) {q : Nat × List Int} (hq : q ∈ Q) : dot q.2 (ptC (crd D Q)) = 0 := by
  have rq := R.row q hq
  have lq := lt q hq
  have C := crd_cs hD R hb
  have cl : (crd D Q).length = D := crd_len D Q
  rw [dot_sm (n := D + 1) rq.len (by rw [ptc_len, cl])]
  rw [sm_two (i := q.1) (l := D) (by omega) (by omega) (by omega) fun j hj h1 h2 => ?_]
  · have e1 := ptc_cf (crd_at (D := D) (Q := Q) (j := q.1) (by omega))
    have e2 : cf (ptC (crd D Q)) D = (lcmL ((crd D Q).map Prod.snd) : Int) := by
      have := ptc_end (cs := crd D Q)
      rw [cl] at this
      exact this
    have hm : co D Q q.1 ∈ crd D Q := List.mem_of_getElem? (crd_at (by omega))
    obtain ⟨k, k0, e3, e4⟩ := quot_of (fun p hp => (C.1 p hp).1) hm
    rw [e1, e2, e4, e3]
    rw [co_lead R hq]
    obtain ⟨_, _, _, _, g, g0, f1, f2⟩ := fp_ok (t := -(cf q.2 D)) (b := cf q.2 q.1) (n := 150) rq.pos (cf_bits (p := D) (hb q hq) (by rw [rq.len]; omega)).neg (cf_bits (hb q hq) (by rw [rq.len]; omega))
    generalize (fp (-(cf q.2 D)) (cf q.2 q.1)).1 = u at *
    generalize (fp (-(cf q.2 D)) (cf q.2 q.1)).2 = v at *
    have f3 : cf q.2 D = -(g * u) := by omega
    rw [f2, f3]
    grind
  · have hj : j < D := by omega
    rcases free_or (Q := Q) j with hf | ⟨t, ht, rfl⟩
    · rw [ptc_cf (crd_at hj), co_free hf, Int.zero_mul, Int.mul_zero]
    · rw [R.off q hq t ht (Ne.symm h1), Int.zero_mul]
theorem pt_free {D : Nat} {Q : List (Nat × List Int)} {j : Nat} (hj : j < D) (hf : isFree Q j = true) : cf (ptC (crd D Q)) j = 0 := by
  rw [ptc_cf (crd_at hj), co_free hf, Int.zero_mul]
theorem pt_good {D : Nat} {Q : List (Nat × List Int)} (hD : D ≤ 4) (R : Red (D + 1) Q) (hb : ∀ q ∈ Q, BitsL 150 q.2) : ∃ l : Int, (ptC (crd D Q)).getLast? = some l ∧ 0 < l ∧ gcdL (ptC (crd D Q)) = 1 ∧ BitsL 820 (ptC (crd D Q)) := by
  have C := crd_cs hD R hb
  refine ⟨_, ptc_last _, ?_, ptC_gcd fun p hp => (C.1 p hp).1, (cs_bits C).2⟩
  have := lcmL_pos (bs := (crd D Q).map Prod.snd) fun b hb' => by
    obtain ⟨p, hp, rfl⟩ := List.mem_map.mp hb'
    exact (C.1 p hp).1.1
  omega
/-! ### the directions -/
theorem stp_cf {D : Nat} {T : List (Nat × List Int)} {sc : Int} {f j : Nat} (hj : j < D) : cf (stpL D T sc f) j = stp T sc f j := cf_get (by
  unfold stpL
  rw [List.getElem?_map, List.getElem?_range hj] <;> rfl)
structure WayOk (D : Nat) (Q : List (Nat × List Int)) (f : Nat) (way : List Int) : Prop where
  len : way.length = D
  one : gcdL way = 1
  pos : 0 < cf way f
  nil : ∀ j, j < D → isFree Q j = true → j ≠ f → cf way j = 0
  bits : BitsL 800 way
  off : ∀ q ∈ Q, dot q.2.dropLast way = 0
theorem cf_init {r : List Int} {D j : Nat} (hl : r.length = D + 1) (hj : j < D) : cf r.dropLast j = cf r j := by
  rw [cf_get (r := r.dropLast) (j := j) (x := r[j]'(by omega)), cf_get (List.getElem?_eq_getElem (by omega))]
  rw [List.getElem?_eq_getElem (by rw [List.length_dropLast]; omega), List.getElem_dropLast]
theorem way_ok {D : Nat} {Q : List (Nat × List Int)} (hD : D ≤ 4) (R : Red (D + 1) Q) (lt : ∀ q ∈ Q, q.1 + 1 < D + 1) (hb : ∀ q ∈ Q, BitsL 150 q.2) {f : Nat} (hf : f ∈ frees D Q) : WayOk D Q f (wayN D Q f) := by
  have fD := frees_lt hf
  have ff : isFree Q f = true := (List.mem_filter.mp hf).2
  obtain ⟨h1, g, g0, hg⟩ := short_prim (stp_ne R hf)
  have sp := scN_pos R
  have len : (wayN D Q f).length = D := by
    unfold wayN
    rw [shortL_len, stp_len]
  have cut : ∀ {j}, g * cf (wayN D Q f) j = cf (stpL D Q (scN Q) f) j := fun {j} => (hg j).symm
  refine ⟨len, h1, ?_, fun j hj hfj hne => ?_, shortL_bits (stp_bits hD R lt hb fD), fun q hq => ?_⟩
  · have e := cut (j := f)
    rw [stp_cf fD, stp_free ff f ff, if_pos rfl] at e
    rcases Int.lt_or_le 0 (cf (wayN D Q f) f) with z | z
    · exact z
    · have := Int.mul_le_mul_of_nonneg_left z (Int.le_of_lt g0)
      omega
  · have e := cut (j := j)
    rw [stp_cf hj, stp_free ff j hfj, if_neg hne] at e
    rcases Int.mul_eq_zero.mp e with z | z
    · omega
    · exact z
  · have rq := R.row q hq
    have lq := lt q hq
    have dl : q.2.dropLast.length = D := by rw [List.length_dropLast, rq.len] <;> rfl
    have key : g * dot q.2.dropLast (wayN D Q f) = 0 := by
      rw [dot_comm, ← dot_scale, dot_comm]
      have e : (wayN D Q f).map (fun x => g * x) = stpL D Q (scN Q) f := cf_ext (by rw [List.length_map, len, stp_len]) fun j => by
        rw [cf_map (Int.mul_zero _)]
        exact cut
      rw [e, dot_sm (n := D) dl (stp_len _ _ _ _), sm_two (i := q.1) (l := f) (by omega) fD (free_not hq ff) fun j hj h1 h2 => ?_]
      · rw [stp_cf (by omega), stp_cf fD, stp_lead R hq, stp_free ff f ff, if_pos rfl, cf_init rq.len (by omega), cf_init rq.len fD]
        obtain ⟨k, hk⟩ := lcmL_dvd (List.mem_map.mpr ⟨q, hq, rfl⟩ : cf q.2 q.1 ∈ Q.map fun q => cf q.2 q.1)
        have pq := rq.pos
        have e2 : scN Q = cf q.2 q.1 * (k : Int) := by
          unfold scN
          rw [hk, Int.natCast_mul, Int.natAbs_of_nonneg (Int.le_of_lt pq)]
        rw [e2, fdiv_mul pq]
        grind
      · rw [stp_cf hj, cf_init rq.len hj]
        rcases free_or (Q := Q) j with hfj | ⟨t, ht, rfl⟩
        · rw [stp_free ff j hfj, if_neg h2, Int.mul_zero]
        · rw [R.off q hq t ht (Ne.symm h1), Int.zero_mul]
    rcases Int.mul_eq_zero.mp key with z | z
    · omega
    · exact z
/-! ### how many -/
theorem split_len {α : Type} (p : α → Bool) : ∀ l : List α, (l.filter p).length + (l.filter fun x => !p x).length = l.length
  | [] => rfl
  | x :: l => by
    have := split_len p l
    cases h : p x with
    | true => rw [List.filter_cons_of_pos h, List.filter_cons_of_neg (by rw [h] <;> simp), List.length_cons, List.length_cons]; omega
    | false => rw [List.filter_cons_of_neg (by rw [h] <;> simp), List.filter_cons_of_pos (by rw [h] <;> rfl), List.length_cons, List.length_cons]; omega
theorem frees_len {D : Nat} {Q : List (Nat × List Int)} (R : Red (D + 1) Q) (lt : ∀ q ∈ Q, q.1 + 1 < D + 1) : (frees D Q).length + Q.length = D := by
  have e : ((List.range D).filter fun f => !(isFree Q f)).map (fun j => (j, ([] : List Int))) = Q.map fun q => (q.1, ([] : List Int)) := by
    refine asc_same ?_ ?_ fun q => ?_
    · rw [List.pairwise_map]
      exact (List.pairwise_lt_range (n := D)).filter _
    · rw [List.pairwise_map]
      exact R.asc
    · constructor
      · intro h
        obtain ⟨j, hj, rfl⟩ := List.mem_map.mp h
        obtain ⟨h1, h2⟩ := List.mem_filter.mp hj
        rcases free_or (Q := Q) j with hf | ⟨t, ht, rfl⟩
        · rw [hf] at h2
          cases h2
        · exact List.mem_map.mpr ⟨t, ht, rfl⟩
      · intro h
        obtain ⟨t, ht, rfl⟩ := List.mem_map.mp h
        refine List.mem_map.mpr ⟨t.1, List.mem_filter.mpr ⟨List.mem_range.mpr (by have := lt t ht; omega), ?_⟩, rfl⟩
        have : isFree Q t.1 = false := by
          unfold isFree
          rw [List.any_eq_true.mpr ⟨t, ht, by simp⟩] <;> rfl
        rw [this] <;> rfl
  have l := congrArg List.length e
  rw [List.length_map, List.length_map] at l
  have t := split_len (isFree Q) (List.range D)
  rw [List.length_range] at t
  unfold frees
  omega
theorem ways_len {D : Nat} {Q : List (Nat × List Int)} (R : Red (D + 1) Q) (lt : ∀ q ∈ Q, q.1 + 1 < D + 1) : ((waysN D Q).length : Int) = (D : Int) - (Q.length : Int) := by
  have := frees_len R lt
  unfold waysN
  rw [List.length_map]
  omega
/-! ### a point moved on -/
theorem dot_on (t b l : Int) : ∀ (ns ws rs : List Int) (r : Int), ns.length = ws.length → rs.length = ns.length →
    dot (rs ++ [r]) (List.zipWith (fun n s => n * b + s * t * l) ns ws ++ [l * b]) = b * dot (rs ++ [r]) (ns ++ [l]) + t * l * dot rs ws
  | [], [], [], r, _, _ => by
    show dot [r] [l * b] = b * dot [r] [l] + t * l * dot [] []
    rw [dot_cons, dot_cons, dot_nil]
    grind
  | n :: ns, s :: ws, x :: rs, r, h1, h2 => by
    have ih := dot_on t b l ns ws rs r (by simpa using h1) (by simpa using h2)
    rw [List.zipWith_cons_cons, List.cons_append, List.cons_append, List.cons_append, dot_cons, dot_cons, dot_cons, ih]
    grind
  | [], _ :: _, _, _, h, _ => by simp at h
  | _ :: _, [], _, _, h, _ => by simp at h
  | [], [], _ :: _, _, _, h => by simp at h
  | _ :: _, _ :: _, [], _, _, h => by simp at h
/-- a spot on a flat -/
structure Spt (D B : Nat) (Q : List (Nat × List Int)) (p : List Int) : Prop where
  len : p.length = D + 1
  low : ∃ l : Int, p.getLast? = some l ∧ 0 < l
  bits : BitsL B p
  on : ∀ q ∈ Q, dot q.2 p = 0
theorem spt_on {D B : Nat} {Q : List (Nat × List Int)} {p way : List Int} {t b l : Int} (R : Red (D + 1) Q) (h : Spt D B Q p) (hl : p.getLast? = some l) (hw : way.length = D) (hb : BitsL 800 way) (ho : ∀ q ∈ Q, dot q.2.dropLast way = 0) (h0 : 0 < b) (ht : Bits 10 t) (hbb : Bits 10 b) :
    Spt D (B + 811) Q (movedL p way t b l) := by
  have lp := last_two hl
  have l0 : 0 < l := by
    obtain ⟨l', e, h'⟩ := h.low
    rw [hl] at e
    cases e
    exact h'
  have dl : p.dropLast.length = D := by rw [List.length_dropLast, h.len] <;> rfl
  have hlb : Bits B l := h.bits l (List.mem_of_getLast? hl)
  have lst : (List.zipWith (fun n s => n * b + s * t * l) p.dropLast way ++ [l * b]).getLast? = some (l * b) := by simp
  obtain ⟨g, l', g0, e1, e2, e3, e4⟩ := short_last lst (Int.mul_pos l0 h0)
  refine ⟨?_, ⟨l', e1, e3⟩, ?_, fun q hq => ?_⟩
  · unfold movedL
    rw [shortL_len, List.length_append, List.length_zipWith, dl, hw]
    simp
  · refine shortL_bits fun x hx => ?_
    rcases List.mem_append.mp hx with hx | hx
    · have ze : (fun n s => n * b + s * t * l) = fun n s => n * b + s * (t * l) := by
        funext n s
        rw [Int.mul_assoc]
      rw [ze] at hx
      exact ((zip_bits (u := 0) (v := 0) (m := B) (n := 800) (k := 10) (fun x hx => h.bits x (List.dropLast_subset _ hx)) hb hbb (Bits.mul ht hlb)).mono (by omega)) x hx
    · rw [List.mem_singleton] at hx
      subst hx
      exact (Bits.mul hlb hbb).mono (by omega)
  · have rq := R.row q hq
    have hrl : q.2 ≠ [] := fun z => by
      have := rq.len
      rw [z] at this
      cases this
    have e5 := e4 q.2
    have sp : q.2 = q.2.dropLast ++ [q.2.getLast hrl] := (List.dropLast_concat_getLast hrl).symm
    have key : dot q.2 (List.zipWith (fun n s => n * b + s * t * l) p.dropLast way ++ [l * b]) = 0 := by
      rw [sp, dot_on t b l _ _ _ _ (by rw [dl, hw]) (by rw [List.length_dropLast, rq.len, dl] <;> rfl), ← sp, ← lp, h.on q hq, ho q hq, Int.mul_zero, Int.mul_zero] <;> rfl
    rw [key] at e5
    rcases Int.mul_eq_zero.mp e5.symm with z | z
    · omega
    · exact z
theorem sgn_zero (z : Int) : (sgn z == 0) = (z == 0) := by
  unfold sgn
  rcases Int.lt_trichotomy z 0 with h | h | h
  · rw [if_neg (by omega), if_pos h]
    have : ¬ z = 0 := by omega
    simp [this]
  · subst h
    rfl
  · rw [if_pos h]
    have : ¬ z = 0 := by omega
    simp [this]
end K4
/-! Three names on the left. -/
namespace Zj
open PySem PySem.Spec PyProof.Rows L2
variable [Nm]
def fThree (i j l : Nat) : PyData → Rho → Option Rho := fun d ρ => match d with
  | .tuple [x, y, z] => some (((ρ.set i (some (.dat x))).set j (some (.dat y))).set l (some (.dat z)))
  | _ => none
theorem tg_three {K : PySem.W.Frag} {a : Addr} {i j l : Nat} {vs : List Nat} (h : i ∈ vs) (h2 : j ∈ vs) (h3 : l ∈ vs) : TgSem K a (gTup K 3 (gCons (gName i) (gCons (gName j) (gCons (gName l) gNil)))) vs (fThree i j l) := fun T σ H v d ρ ρ' S p e Q q => by
  unfold fThree at e
  split at e
  · rename_i x y z
    cases e
    obtain ⟨pa, xs, rfl, g1, g2⟩ := dpo_tup p
    obtain ⟨v1, v2, v3, rfl, q1, q2, q3⟩ := dps3 g2
    refine ⟨pa, _, rfl, g1, rfl, v1, _, rfl, v2, _, rfl, v3, _, rfl, rfl, q _ (((S.put (x := .dat x) q1).put (x := .dat y) q2).put (x := .dat z) q3) ?_⟩
    rw [wipe_set h3, wipe_set h2, wipe_set h]
  · cases e
end Zj
/-! The law's look at dimension, point and directions. -/
namespace K4
open PySem PySem.Spec PyProof.Rows L2 Zj
variable [Nm]
theorem kept_no {keep : PyData → Bool} {val : PyData → PyData} {items : List PyData} (h : ∀ d ∈ items, keep d = false) : kept keep val items = [] := by
  unfold kept
  rw [List.filter_eq_nil_iff.mpr fun d hd => by rw [h d hd]; exact Bool.false_ne_true] <;> rfl
def kFree (Q : List (Nat × List Int)) : PyData → Bool
  | .int z => isFree Q z.toNat
  | _ => false
def same (d : PyData) : PyData := d
def frI (D : Nat) (Q : List (Nat × List Int)) : List Int := (frees D Q).map fun (f : Nat) => (f : Int)
theorem kept_free (D : Nat) (Q : List (Nat × List Int)) : kept (kFree Q) same (Zj.upTo ((D : Int)).toNat) = (frI D Q).map .int := by
  unfold kept Zj.upTo frI frees
  rw [Int.toNat_natCast, List.filter_map, List.map_map, List.map_map]
  have e : (List.range D).filter (kFree Q ∘ fun (i : Nat) => PyData.int (i : Int)) = (List.range D).filter (isFree Q) := List.filter_congr fun i _ => by
    show isFree Q ((i : Int)).toNat = isFree Q i
    rw [Int.toNat_natCast]
  rw [e]
  rfl
def kAt (pt : List Int) : PyData → Bool
  | .int z => !(cf pt z.toNat == 0)
  | _ => false
def kOther (way : List Int) (f : Nat) : PyData → Bool
  | .int z => !(z == (f : Int)) && !(cf way z.toNat == 0)
  | _ => false
theorem all_due (l : List (List Int)) (p : List Int) : (l.all fun r => sgn (dot r p) == 0) = ((l.filter fun r => !(dot r p == 0)) == []) := by
  induction l with
  | nil => rfl
  | cons r l ih =>
    rw [List.all_cons, sgn_zero]
    cases h : dot r p == 0 with
    | true => rw [List.filter_cons_of_neg (by rw [h] <;> simp), Bool.true_and]; exact ih
    | false => rw [List.filter_cons_of_pos (by rw [h] <;> rfl), Bool.false_and]; rfl
theorem zipF (D : Nat) (Q : List (Nat × List Int)) : List.zipWith (fun x y => PyData.tuple [x, y]) ((frI D Q).map .int) (rsD (waysN D Q)) = (frees D Q).map fun f => .tuple [.int (f : Int), tI (wayN D Q f)] := by
  unfold frI waysN rsD
  induction frees D Q with
  | nil => rfl
  | cons f fs ih =>
    simp only [List.map_cons, List.zipWith_cons_cons]
    exact congrArg _ ih
section
variable {P : Program} {w : World} {K : PySem.W.Frag} {mg : Str → Option Value} {base : Heap} {f : Addr} {fd : FuncData}
def R_inside (ds : List PyData) (Pd : PyData → Prop) : Prop := ∃ (D : Nat) (Q : List (Nat × List Int)), ds = [.int (D : Int), .tuple (rsD (rowsOf Q))] ∧ 1 ≤ D ∧ D ≤ 4 ∧ Red (D + 1) Q ∧ (∀ q ∈ Q, q.1 + 1 < D + 1) ∧ (∀ q ∈ Q, BitsL 150 q.2) ∧ Pd (.bool true)
theorem ok_inside (F : Fun K "_law_inside_right" "_law_inside_right" st__law_inside_right f fd) (T : Tx mg) (C1 : CalG P w K mg base 1 "_law_draw" ["m", "bound"] (spM K 1 R_draw)) (CK : CalG P w K mg base 1 "_law_like" ["told", "due"] (spR K R_like))
    (CL : Cal P w K mg base 1 "_law_leads" ["flat_so"] (spR K R_leads)) (CP : Cal P w K mg base 4 "flat_point" ["dimension", "flat"] (spR K R_fpt)) (CD : Cal P w K mg base 4 "flat_directions" ["dimension", "flat"] (spR K R_fdir)) (CM : Cal P w K mg base 1 "flat_dimension" ["dimension", "flat"] (spR K R_fdim))
    (CI : Cal P w K mg base 3 "check_point" ["dimension", "value"] (spR K R_cpt)) (CJ : Cal P w K mg base 3 "check_direction" ["dimension", "value"] (spR K R_cdi)) (CT : Cal P w K mg base 1 "_law_total" ["row", "point_so"] (spR K R_weighed))
    (CA : Cal P w K mg base 4 "_law_along" ["point_so", "way", "top", "bottom"] (spR K R_along)) (CO : Cal P w K mg base 3 "_law_point" ["numbers", "bottom"] (spR K R_point)) (CN : Cal P w K mg base 3 "on_flat" ["flat", "point"] (spR K R_on)) :
    FnG P w K mg base CX0 5 f fd ["m", "dimension_so", "flat_so"] (spM K 39 R_inside) := by
  refine fnM F sc__law_inside_right (fun ds Pd h => by obtain ⟨_, _, rfl, _⟩ := h; rfl) fun cdv A outer s H E G hr hgd a n ds Pd h => ?_
  obtain ⟨D, Q, rfl, hD, hD4, R, lt, hb, hP⟩ := h
  have ql := q_len R lt
  have rl : (rowsOf Q).length = Q.length := by unfold rowsOf; simp
  have fl := frees_len R lt
  have wl := ways_len R lt
  have wl2 : (waysN D Q).length = (frees D Q).length := by unfold waysN; rw [List.length_map]
  obtain ⟨pl, hpl, pl0, pg, pb⟩ := pt_good hD4 R hb
  have plen : (ptC (crd D Q)).length = D + 1 := by rw [ptc_len, crd_len]
  have nD : (rsD (rowsOf Q)).length = Q.length := by rw [rsD_len, rl]
  refine q_cons (q_pure (R' := fun _ => False) (N' := fun ρ' => ρ' = [some .hnd, some (.dat (.int (D : Int))), some (.dat (.tuple (rsD (rowsOf Q)))), some (.dat (lI (ldI Q))), some (.dat (tI (ptC (crd D Q)))), some (.dat (.tuple (rsD (waysN D Q)))), none, none, none, none, none, none, none, none, none, none, none])
    (rs_asg (d := .tuple [lI (ldI Q), tI (ptC (crd D Q)), .tuple (rsD (waysN D Q))]) (e_tup (a_cons (e_call CL (hr.mono (by decide)) (a_cons (e_var (i := 2) rfl) a_nil) ⟨D, Q, rfl, hD4, R, lt, rfl⟩) (a_cons (e_call CP (hr.mono (by decide)) (a_cons (e_var (i := 1) rfl) (a_cons (e_var (i := 2) rfl) a_nil)) ⟨D, Q, rfl, hD, hD4, R, lt, hb, rfl⟩)
      (a_cons (e_call CD (hr.mono (by decide)) (a_cons (e_var (i := 1) rfl) (a_cons (e_var (i := 2) rfl) a_nil)) ⟨D, Q, rfl, hD, hD4, R, lt, hb, rfl⟩) a_nil)))) (pg_tup rfl (pgs_cons (pg_name (i := 3) sc__law_inside_right.nd rfl (Or.inr rfl)) (pgs_cons (pg_name (i := 4) sc__law_inside_right.nd rfl (Or.inr rfl)) (pgs_cons (pg_name (i := 5) sc__law_inside_right.nd rfl (Or.inl rfl)) pgs_nil))))
        (fun T σ H v S p Q' q => tg_three (vs := [3, 4, 5]) (by decide) (by decide) (by decide) T σ H v _ _ _ S p rfl Q' fun σ' S' _ => q σ' S') rfl) (fun ρ' e => ?_) nofun)
  subst e
  refine q_cons (q_pure (R' := fun _ => False) (N' := fun ρ' => ρ' = [some .hnd, some (.dat (.int (D : Int))), some (.dat (.tuple (rsD (rowsOf Q)))), some (.dat (lI (ldI Q))), some (.dat (tI (ptC (crd D Q)))), some (.dat (.tuple (rsD (waysN D Q)))), none, some (.dat (lI (frI D Q))), none, none, none, none, none, none, none, none, none])
    (rs_lc (i := 7) (own := [("k", 6)]) (f := fName 6) (keep := kFree Q) (val := same) G (src_R (n := (D : Int)) (a_cons (e_var (i := 1) rfl) a_nil) (by omega) (by omega) T.range) (by rw [upto_len]; omega) (blkOk_by (N := n__law_inside_right) (sc := defScope st__law_inside_right) (by decide +kernel))
      (fun _ _ _ _ _ => pg_name (i := 6) sc__law_inside_right.nd rfl (Or.inl rfl)) (tg_name (by decide)) (fun d hd => ?_) (by rw [kept_free] <;> rfl)) (fun ρ' e => ?_) nofun)
  · unfold Zj.upTo at hd
    obtain ⟨i, hi, rfl⟩ := List.mem_map.mp hd
    exact ⟨_, rfl, fun s H C cl fp => t_is (t_cmp (od_notInD rfl (flats_ints (ldI Q))).1 (e_var (i := 6) rfl) (e_var (i := 3) rfl) (by rfl)) (by
      rw [am_free]
      show _ = isFree Q ((i : Int)).toNat
      rw [Int.toNat_natCast]), fun _ s H C cl fp => e_var (i := 6) rfl⟩
  subst e
  refine q_cons (q_skip (t_notlike (d := lI [(D : Int) - (Q.length : Int), (D : Int) - (Q.length : Int)]) CK hgd (hr.mono (by decide))
    (a_cons (e_is (e_lst (a_cons (e_call CM (hr.mono (by decide)) (a_cons (e_var (i := 1) rfl) (a_cons (e_var (i := 2) rfl) a_nil)) ⟨D, rowsOf Q, rfl, rfl⟩) (a_cons (e_callB ca_lenT (a_cons (e_var (i := 5) rfl) a_nil) T.len (by decide +kernel)) a_nil))) (by rw [rsD_len, rl, wl] <;> rfl))
      (a_cons (e_is (e_rep (ds := [.int ((D : Int) - (Q.length : Int))]) (a_cons (e_is (e_bin od_sub (e_var (i := 1) rfl) (e_callB ca_lenT (a_cons (e_var (i := 2) rfl) a_nil) T.len (by decide +kernel))) (by rw [nD])) a_nil) e_int (by decide) (by decide) (by simp)) rfl) a_nil))
    ((tam_lst (b := 0) (n := 0) (l := 2) (fun d hd => by
      have : d = .int ((D : Int) - (Q.length : Int)) := by simpa [lI] using hd
      rw [this]
      exact tam_int (Bits.mono (m := 10) (bits_abs (by omega)) (by decide))) (by simp)).tame (by decide) (by decide))) ?_)
  refine q_cons (q_skip (t_notlike (d := tI (ptC (crd D Q))) CK hgd (hr.mono (by decide)) (a_cons (e_call CI (hr.mono (by decide)) (a_cons (e_var (i := 1) rfl) (a_cons (e_var (i := 4) rfl) a_nil)) ⟨D, _, pl, rfl, plen, by omega, hpl, pl0, pg, rfl⟩) (a_cons (e_var (i := 4) rfl) a_nil))
    ((tam_tI (l := 5) (pb.mono (by decide)) (by omega)).tame (by decide) (by decide))) ?_)
  refine q_cons (q_skip (t_or2 (b := false) (t_is (t_cmp (od_neD (d1 := lI []) (d2 := lI []) G.un (shaped_lI []) (shaped_lI [])) (e_is (e_lc (own := [("row", 13)]) (f := fName 13) (keep := kR fun r => !(dot r (ptC (crd D Q)) == 0)) (val := oneD) G (src_T (e_var (i := 2) rfl)) (by rw [nD]; omega) (blkOk_by (N := n__law_inside_right) (sc := defScope st__law_inside_right) (by decide +kernel))
      (fun _ _ _ _ _ => pg_name (i := 13) sc__law_inside_right.nd rfl (Or.inl rfl)) (tg_name (by decide)) (fun d hd => ?a1)) ?a2) (e_lst a_nil) (nomark _)) (by rw [eqv_lI] <;> rfl))
    (fun _ => t_is (t_cmp (od_neD (d1 := lI []) (d2 := lI []) G.un (shaped_lI []) (shaped_lI [])) (e_is (e_lc (own := [("k", 6)]) (f := fName 6) (keep := kAt (ptC (crd D Q))) (val := same) G (src_L (e_var (i := 7) rfl)) (by rw [List.length_map]; unfold frI; rw [List.length_map]; omega) (blkOk_by (N := n__law_inside_right) (sc := defScope st__law_inside_right) (by decide +kernel))
      (fun _ _ _ _ _ => pg_name (i := 6) sc__law_inside_right.nd rfl (Or.inl rfl)) (tg_name (by decide)) (fun d hd => ?b1)) ?b2) (e_lst a_nil) (nomark _)) (by rw [eqv_lI] <;> rfl)) nofun) ?_)
  case a1 =>
    obtain ⟨r, hr', rfl⟩ := rsD_mem hd
    unfold rowsOf at hr'
    obtain ⟨q, hq, rfl⟩ := List.mem_map.mp hr'
    have rq := R.row q hq
    exact ⟨_, rfl, fun s H C cl fp => t_is (t_cmp od_neI (e_call CT (hr.mono (by decide)) (a_cons (e_var (i := 13) rfl) (a_cons (e_var (i := 4) rfl) a_nil)) ⟨q.2, _, rfl, (hb q hq).mono (by decide), pb.mono (by decide), by rw [rq.len]; omega, rfl⟩) e_int (nomark _)) (by rw [kR_tI]), fun _ s H C cl fp => e_int⟩
  case a2 =>
    rw [kept_no fun d hd => ?_] <;> try rfl
    obtain ⟨r, hr', rfl⟩ := rsD_mem hd
    unfold rowsOf at hr'
    obtain ⟨q, hq, rfl⟩ := List.mem_map.mp hr'
    rw [kR_tI, pt_zero hD4 R lt hb hq] <;> rfl
  case b1 =>
    obtain ⟨z, hz, rfl⟩ := mem_mapI hd
    unfold frI at hz
    obtain ⟨f, hf, rfl⟩ := List.mem_map.mp hz
    have := frees_lt hf
    exact ⟨_, rfl, fun s H C cl fp => t_is (t_cmp od_neI (e_ixT (e_var (i := 4) rfl) (e_var (i := 6) rfl) (at_cf (by omega))) e_int (nomark _)) (by
      show _ = !(cf (ptC (crd D Q)) ((f : Int)).toNat == 0)
      rw [Int.toNat_natCast]), fun _ s H C cl fp => e_var (i := 6) rfl⟩
  case b2 =>
    rw [kept_no fun d hd => ?_] <;> try rfl
    obtain ⟨z, hz, rfl⟩ := mem_mapI hd
    unfold frI at hz
    obtain ⟨f, hf, rfl⟩ := List.mem_map.mp hz
    show (!(cf (ptC (crd D Q)) ((f : Int)).toNat == 0)) = false
    rw [Int.toNat_natCast, pt_free (frees_lt hf) (List.mem_filter.mp hf).2] <;> rfl
  have wok : ∀ f ∈ frees D Q, WayOk D Q f (wayN D Q f) := fun f hf => way_ok hD4 R lt hb hf
  refine q_cons (q_pure (R' := fun _ => False) (N' := fun ρ' => ∃ y6 y8, ρ' = [some .hnd, some (.dat (.int (D : Int))), some (.dat (.tuple (rsD (rowsOf Q)))), some (.dat (lI (ldI Q))), some (.dat (tI (ptC (crd D Q)))), some (.dat (.tuple (rsD (waysN D Q)))), y6, some (.dat (lI (frI D Q))), y8, none, none, none, none, none, none, none, none])
    (rs_for (items := (frees D Q).map fun (f : Nat) => .tuple [.int (f : Int), tI (wayN D Q f)]) G (by rw [← zipF]; exact src_ZN (a_cons (e_var (i := 7) rfl) (a_cons (e_var (i := 5) rfl) a_nil)) T.zip) (pg_tup rfl (pgs_cons (pg_name (i := 6) sc__law_inside_right.nd rfl (Or.inr rfl)) (pgs_cons (pg_name (i := 8) sc__law_inside_right.nd rfl (Or.inr rfl)) pgs_nil))) (tg_pair (vs := [6, 8]) (by decide) (by decide))
      (fun _ ρ' => ∃ y6 y8, ρ' = [some .hnd, some (.dat (.int (D : Int))), some (.dat (.tuple (rsD (rowsOf Q)))), some (.dat (lI (ldI Q))), some (.dat (tI (ptC (crd D Q)))), some (.dat (.tuple (rsD (waysN D Q)))), y6, some (.dat (lI (frI D Q))), y8, none, none, none, none, none, none, none, none]) ⟨_, _, rfl⟩ (fun i d ρ1 hd hJ => ?_) fun ρ' hJ => hJ) (fun ρ' e => ?_) nofun)
  · obtain ⟨y6, y8, rfl⟩ := hJ
    rw [List.getElem?_map] at hd
    obtain ⟨f, hf0, rfl⟩ := Option.map_eq_some_iff.mp hd
    have hf := List.mem_of_getElem? hf0
    have W := wok f hf
    have fD := frees_lt hf
    have wlen := W.len
    refine ⟨_, rfl, r_cons (r_skip (t_orF (t_is (t_cmp (od_neD (d1 := tI (wayN D Q f)) (d2 := tI (wayN D Q f)) G.un (shaped_tI _) (shaped_tI _)) (e_call CJ (hr.mono (by decide)) (a_cons (e_var (i := 1) rfl) (a_cons (e_var (i := 8) rfl) a_nil)) ⟨D, _, rfl, wlen, by omega, W.one, rfl⟩) (e_var (i := 8) rfl) (nomark _)) (by rw [eqv_tI]; simp))
      (t_orF (t_is (t_cmp od_le (e_ixT (e_var (i := 8) rfl) (e_var (i := 6) rfl) (at_cf (by omega))) e_int (nomark _)) (decide_eq_false (by have := W.pos; omega)))
      (t_or1 (t_is (t_cmp (od_neD (d1 := lI []) (d2 := lI []) G.un (shaped_lI []) (shaped_lI [])) (e_is (e_lc (own := [("j", 14)]) (f := fName 14) (keep := kOther (wayN D Q f) f) (val := same) G (src_L (e_var (i := 7) rfl)) (by rw [List.length_map]; unfold frI; rw [List.length_map]; omega) (blkOk_by (N := n__law_inside_right) (sc := defScope st__law_inside_right) (by decide +kernel))
        (fun _ _ _ _ _ => pg_name (i := 14) sc__law_inside_right.nd rfl (Or.inl rfl)) (tg_name (by decide)) (fun d hd => ?c1)) ?c2) (e_lst a_nil) (nomark _)) (by rw [eqv_lI] <;> rfl))))) ?_)⟩
    case c1 =>
      obtain ⟨z, hz, rfl⟩ := mem_mapI hd
      unfold frI at hz
      obtain ⟨g, hg, rfl⟩ := List.mem_map.mp hz
      have gD := frees_lt hg
      exact ⟨_, rfl, fun s H C cl fp => t_is (t_and2 (b := !((g : Int) == (f : Int))) (c := !((g : Int) == (f : Int)) && !(cf (wayN D Q f) g == 0)) (t_cmp od_neI (e_var (i := 14) rfl) (e_var (i := 6) rfl) (nomark _)) (fun h => t_is (t_cmp od_neI (e_ixT (e_var (i := 8) rfl) (e_var (i := 14) rfl) (at_cf (by omega))) e_int (nomark _)) (by rw [h, Bool.true_and])) (fun h => by rw [h, Bool.false_and])) (by
        show _ = (!((g : Int) == (f : Int)) && !(cf (wayN D Q f) ((g : Int)).toNat == 0))
        rw [Int.toNat_natCast]), fun _ s H C cl fp => e_var (i := 14) rfl⟩
    case c2 =>
      rw [kept_no fun d hd => ?_] <;> try rfl
      obtain ⟨z, hz, rfl⟩ := mem_mapI hd
      unfold frI at hz
      obtain ⟨g, hg, rfl⟩ := List.mem_map.mp hz
      show (!((g : Int) == (f : Int)) && !(cf (wayN D Q f) ((g : Int)).toNat == 0)) = false
      rw [Int.toNat_natCast]
      by_cases e : g = f
      · subst e
        simp
      · rw [W.nil g (frees_lt hg) (List.mem_filter.mp hg).2 e]
        simp
    · refine r_one (r_skip (t_is (t_cmp (od_neD (d1 := lI []) (d2 := lI []) G.un (shaped_lI []) (shaped_lI [])) (e_is (e_lc (own := [("row", 13)]) (f := fName 13) (keep := kR fun r => !(dot r.dropLast (wayN D Q f) == 0)) (val := oneD) G (src_T (e_var (i := 2) rfl)) (by rw [nD]; omega) (blkOk_by (N := n__law_inside_right) (sc := defScope st__law_inside_right) (by decide +kernel))
        (fun _ _ _ _ _ => pg_name (i := 13) sc__law_inside_right.nd rfl (Or.inl rfl)) (tg_name (by decide)) (fun d hd => ?d1)) ?d2) (e_lst a_nil) (nomark _)) (by rw [eqv_lI] <;> rfl)) ⟨_, _, rfl⟩)
      case d1 =>
        obtain ⟨r, hr', rfl⟩ := rsD_mem hd
        unfold rowsOf at hr'
        obtain ⟨q, hq, rfl⟩ := List.mem_map.mp hr'
        have rq := R.row q hq
        have h1' : 1 ≤ (q.2.map PyData.int).length := by rw [List.length_map, rq.len]; omega
        refine ⟨_, rfl, fun s H C cl fp => t_is (t_cmp od_neI (e_callB (ca_sum rfl (ns := List.zipWith (· * ·) q.2.dropLast (wayN D Q f))) (a_cons (e_is (e_lc0 (own := [("a", 15), ("b", 16)]) (f := fPair 15 16) (val := onPair (· * ·)) (items := List.zipWith (fun x y => PyData.tuple [x, y]) (q.2.dropLast.map .int) ((wayN D Q f).map .int)) (good_blk G)
          (src_ZT (a_cons (e_is (e_slT (e_var (i := 13) rfl) o_non (o_int (e_neg e_int)) (cut_part _ h1')) (by rw [cutD_init _ h1', initI])) (a_cons (e_var (i := 8) rfl) a_nil)) T.zip) (by simp [rq.len]; omega) (blkOk_by (by rfl))
          (fun _ _ _ _ _ => pg_tup rfl (pgs_cons (pg_name (i := 15) sc__law_inside_right.nd rfl (Or.inl rfl)) (pgs_cons (pg_name (i := 16) sc__law_inside_right.nd rfl (Or.inl rfl)) pgs_nil))) (tg_pair (by decide) (by decide)) (fun d hd => ?_)) (by rw [zipI_map])) a_nil) T.sum (by decide +kernel)) e_int (nomark _)) (by rw [kR_tI] <;> rfl), fun _ s H C cl fp => e_int⟩
        obtain ⟨x, g1, y, g2, rfl⟩ := mem_zipI hd
        exact ⟨_, rfl, fun s H C cl fp => e_bin (od_mul (mul_ok (hb q hq x (List.dropLast_subset _ g1)) (W.bits y g2) (by decide))) (e_var (i := 15) rfl) (e_var (i := 16) rfl)⟩
      case d2 =>
        rw [kept_no fun d hd => ?_] <;> try rfl
        obtain ⟨r, hr', rfl⟩ := rsD_mem hd
        unfold rowsOf at hr'
        obtain ⟨q, hq, rfl⟩ := List.mem_map.mp hr'
        rw [kR_tI, W.off q hq] <;> rfl
  obtain ⟨y6, y8, rfl⟩ := e
  refine q_cons (qs_for (items := Zj.upTo ((3 : Int)).toNat) G (src_R (n := 3) (a_cons e_int a_nil) (by decide) (by decide) T.range) (pg_name (i := 9) sc__law_inside_right.nd rfl (Or.inl rfl)) (tg_name (vs := [9]) (by decide))
    (fun i m ρ' => n + 13 * (3 - i) ≤ m ∧ ∃ y6 y8 y9 y10 y11 y12 y13 y14 y15 y16, ρ' = [some .hnd, some (.dat (.int (D : Int))), some (.dat (.tuple (rsD (rowsOf Q)))), some (.dat (lI (ldI Q))), some (.dat (tI (ptC (crd D Q)))), some (.dat (.tuple (rsD (waysN D Q)))), y6, some (.dat (lI (frI D Q))), y8, y9, y10, y11, y12, y13, y14, y15, y16]) ⟨by omega, _, _, _, _, _, _, _, _, _, _, rfl⟩ (fun i d m ρ1 hd hJ => ?_) fun m ρ' hJ => ?_)
  · obtain ⟨hm, y6, y8, y9, y10, y11, y12, y13, y14, y15, y16, rfl⟩ := hJ
    have hi : i < 3 := (List.getElem?_eq_some_iff.mp hd).1
    obtain ⟨q, rfl⟩ : ∃ q, m = q + 13 := ⟨m - 13, by omega⟩
    refine ⟨_, rfl, q_cons (qs_set (i := 10) (m := q + 13) (P := fun d => d = tI (ptC (crd D Q))) G (m_pure (e_var (i := 4) rfl) rfl (Nat.le_refl _)) fun d hd => ?_)⟩
    subst hd
    have ww : ∀ i r, (waysN D Q)[i]? = some r → ∃ f, f ∈ frees D Q ∧ r = wayN D Q f := fun i r h => by
      unfold waysN at h
      rw [List.getElem?_map] at h
      obtain ⟨f, h1, h2⟩ := Option.map_eq_some_iff.mp h
      exact ⟨f, List.mem_of_getElem? h1, h2.symm⟩
    refine q_cons (qs_for (items := rsD (waysN D Q)) G (src_T (e_var (i := 5) rfl)) (pg_name (i := 8) sc__law_inside_right.nd rfl (Or.inr rfl)) (tg_name (vs := [8]) (by decide))
      (fun i m ρ' => q + 5 + 2 * (4 - i) ≤ m ∧ ∃ spot y8, Spt D (820 + 811 * i) Q spot ∧ ρ' = [some .hnd, some (.dat (.int (D : Int))), some (.dat (.tuple (rsD (rowsOf Q)))), some (.dat (lI (ldI Q))), some (.dat (tI (ptC (crd D Q)))), some (.dat (.tuple (rsD (waysN D Q)))), y6, some (.dat (lI (frI D Q))), y8, some (.dat d), some (.dat (tI spot)), y11, y12, y13, y14, y15, y16])
      ⟨by omega, _, _, ⟨plen, ⟨pl, hpl, pl0⟩, pb, fun t ht => pt_zero hD4 R lt hb ht⟩, rfl⟩ (fun i d' m ρ1 hd' hJ => ?_) fun m ρ' hJ => ?_)
    · obtain ⟨hm', spot, y8, S, rfl⟩ := hJ
      obtain ⟨r, hr1, rfl⟩ := rsD_get hd'
      have hi4 : i < 4 := by
        have := (List.getElem?_eq_some_iff.mp hr1).1
        omega
      obtain ⟨f, hf, rfl⟩ := ww i r hr1
      have W := wok f hf
      obtain ⟨l, hl, l0⟩ := S.low
      obtain ⟨m', rfl⟩ : ∃ m', m = m' + 2 := ⟨m - 2, by omega⟩
      refine ⟨_, rfl, q_one (qs_set (i := 10) (m := m') (P := fun d => ∃ t b : Int, d = tI (movedL spot (wayN D Q f) t b l) ∧ 0 < b ∧ Bits 10 t ∧ Bits 10 b) G (m_callR CA (hr.mono (by decide)) (PA := fun ds => ∃ t b : Int, ds = [tI spot, tI (wayN D Q f), .int t, .int b] ∧ 0 < b ∧ Bits 10 t ∧ Bits 10 b)
        (ma_weak (ma_cons (m := m' + 2) (P := fun d => d = tI spot) (m_pure (e_var (i := 10) rfl) rfl (Nat.le_refl _)) fun _ _ => ma_cons (m := m' + 2) (P := fun d => d = tI (wayN D Q f)) (m_pure (e_var (i := 8) rfl) rfl (Nat.le_refl _)) fun _ _ => ma_cons (m := m' + 1) (P := fun d => ∃ t : Int, d = .int t ∧ Bits 10 t)
          (m_bin (P1 := fun d => ∃ r : Int, d = .int r ∧ 0 ≤ r ∧ r < 7) (P2 := fun _ d => d = .int 3) (m := m' + 1) (m_draw (i := 0) C1 hgd (hr.mono (by decide)) rfl e_int (by decide) (by decide)) (fun _ _ => m_pure e_int rfl (Nat.le_refl _)) (fun d1 d2 h1 h2 => by
            obtain ⟨r, rfl, r0, r1⟩ := h1
            subst h2
            exact ⟨_, od_sub, _, rfl, bits_abs (by omega)⟩)) fun _ _ => ma_cons (m := m') (P := fun d => ∃ b : Int, d = .int b ∧ 0 < b ∧ Bits 10 b)
          (m_bin (P1 := fun d => d = .int 1) (P2 := fun _ d => ∃ r : Int, d = .int r ∧ 0 ≤ r ∧ r < 3) (m := m' + 1) (m_pure e_int rfl (Nat.le_refl _)) (fun _ _ => m_draw (i := 0) C1 hgd (hr.mono (by decide)) rfl e_int (by decide) (by decide)) (fun d1 d2 h1 h2 => by
            obtain ⟨r, rfl, r0, r1⟩ := h2
            subst h1
            exact ⟨_, od_add, _, rfl, by omega, bits_abs (by omega)⟩)) fun _ _ => ma_nil (Nat.le_refl _)) fun ds hds => by
          obtain ⟨_, _, rfl, rfl, _, _, rfl, rfl, _, _, rfl, ⟨t, rfl, ht⟩, _, _, rfl, ⟨b, rfl, b0, hb'⟩, rfl⟩ := hds
          exact ⟨t, b, rfl, b0, ht, hb'⟩) fun ds hds => ?_) fun d hd => ?_)⟩
      · obtain ⟨t, b, rfl, b0, ht, hb'⟩ := hds
        exact ⟨_, ⟨spot, wayN D Q f, t, b, l, rfl, hl, l0, b0, S.bits.mono (by omega), W.bits.mono (by decide), ht, hb', by rw [S.len]; omega, rfl⟩, t, b, rfl, b0, ht, hb'⟩
      · obtain ⟨t, b, rfl, b0, ht, hb'⟩ := hd
        exact ⟨by omega, _, _, (show Spt D (820 + 811 * (i + 1)) Q _ from by
          have := spt_on R S hl W.len W.bits W.off b0 ht hb'
          rw [show 820 + 811 * (i + 1) = 820 + 811 * i + 811 by omega]
          exact this), rfl⟩
    · obtain ⟨hm', spot, y8, S, rfl⟩ := hJ
      rw [rsD_len] at S hm'
      have hw4 : (waysN D Q).length ≤ 4 := by omega
      have sb : BitsL 5000 spot := S.bits.mono (by omega)
      obtain ⟨e, rfl⟩ : ∃ e, m = q + 5 + e := ⟨m - q - 5, by omega⟩
      refine q_cons (qs_set (i := 11) (m := q) (P := fun d => ∃ p, d = tI p ∧ SpotL D p) G (m_callR CO (hr.mono (by decide)) (PA := fun ds => ∃ (ns : List Int) (b : Int), ds = [lI ns, .int b] ∧ ns.length = D ∧ BitsL 10 ns ∧ 0 < b ∧ Bits 10 b)
        (ma_weak (ma_cons (m := q + 1) (P := fun d => ∃ ns : List Int, d = lI ns ∧ ns.length = D ∧ BitsL 10 ns) (m_lc0 (c := 1) (own := [("k", 6)]) (f := fName 6) (V := fun _ d => ∃ x : Int, d = .int x ∧ Bits 10 x) (items := Zj.upTo ((D : Int)).toNat) G (src_R (a_cons (e_var (i := 1) rfl) a_nil) (by omega) (by omega) T.range)
          (by rw [upto_len]; omega) (by rw [upto_len]; omega) (blkOk_by (N := n__law_inside_right) (sc := defScope st__law_inside_right) (by decide +kernel)) (fun _ _ _ _ _ => pg_name (i := 6) sc__law_inside_right.nd rfl (Or.inl rfl)) (tg_name (by decide)) (fun d hd => ⟨_, rfl, fun m s H C cl fp => ?_⟩) fun ds hds => ?_)
          fun _ _ => ma_cons (m := q) (P := fun d => ∃ b : Int, d = .int b ∧ 0 < b ∧ Bits 10 b) (m_bin (P1 := fun d => d = .int 1) (P2 := fun _ d => ∃ r : Int, d = .int r ∧ 0 ≤ r ∧ r < 2) (m := q + 1) (m_pure e_int rfl (Nat.le_refl _)) (fun _ _ => m_draw (i := 0) C1 hgd (hr.mono (by decide)) rfl e_int (by decide) (by decide)) (fun d1 d2 h1 h2 => by
            obtain ⟨r, rfl, r0, r1⟩ := h2
            subst h1
            exact ⟨_, od_add, _, rfl, by omega, bits_abs (by omega)⟩)) fun _ _ => ma_nil (Nat.le_refl _)) fun ds hds => by
          obtain ⟨_, _, rfl, ⟨ns, rfl, h1, h2⟩, _, _, rfl, ⟨b, rfl, b0, hb'⟩, rfl⟩ := hds
          exact ⟨ns, b, rfl, h1, h2, b0, hb'⟩) fun ds hds => ?_) fun d hd => ?_)
      · refine m_bin (P1 := fun d => ∃ r : Int, d = .int r ∧ 0 ≤ r ∧ r < 5) (P2 := fun _ d => d = .int 2) (m := m) (m_draw (i := 0) C1 hgd (hr.mono (by decide)) rfl e_int (by decide) (by decide)) (fun _ _ => m_pure e_int rfl (Nat.le_refl _)) (fun d1 d2 h1 h2 => ?_)
        obtain ⟨r, rfl, r0, r1⟩ := h1
        subst h2
        exact ⟨_, od_sub, _, rfl, bits_abs (by omega)⟩
      · obtain ⟨ns, rfl, h1, h2⟩ := fa2_ints hds
        exact ⟨ns, rfl, by rw [h1, upto_len]; omega, h2⟩
      · obtain ⟨ns, b, rfl, h1, h2, b0, hb'⟩ := hds
        exact ⟨_, ⟨ns, b, rfl, b0, h2.mono (by decide), hb'.mono (by decide), by omega, rfl⟩, _, rfl, spot_of h1 h2 b0 hb'⟩
      · obtain ⟨p, rfl, l, _, _, pl1, pb1⟩ := hd
        refine q_cons (q_pure (R' := fun _ => False) (N' := fun ρ' => ρ' = [some .hnd, some (.dat (.int (D : Int))), some (.dat (.tuple (rsD (rowsOf Q)))), some (.dat (lI (ldI Q))), some (.dat (tI (ptC (crd D Q)))), some (.dat (.tuple (rsD (waysN D Q)))), y6, some (.dat (lI (frI D Q))), y8, some (.dat d), some (.dat (tI spot)), some (.dat (tI p)), some (.dat (.bool (((rowsOf Q).filter fun r => !(dot r p == 0)) == []))), y13, y14, y15, y16])
          (rs_set (i := 12) (d := .bool (((rowsOf Q).filter fun r => !(dot r p == 0)) == [])) G (e_is (e_cmp (od_eqD (d1 := .list (rsD ((rowsOf Q).filter fun r => !(dot r p == 0)))) (d2 := .list (rsD [])) G.un (shaped_ls _) (shaped_ls [])) (e_is (e_lc (own := [("row", 13)]) (f := fName 13) (keep := kR fun r => !(dot r p == 0)) (val := vR fun r => r) G (src_T (e_var (i := 2) rfl)) (by rw [nD]; omega) (blkOk_by (N := n__law_inside_right) (sc := defScope st__law_inside_right) (by decide +kernel))
            (fun _ _ _ _ _ => pg_name (i := 13) sc__law_inside_right.nd rfl (Or.inl rfl)) (tg_name (by decide)) (fun d hd => ?e1)) (by rw [kept_rs, List.map_id'])) (e_lst a_nil) (nomark _)) (by rw [eqv_lrs])) rfl) (fun ρ' e => ?_) nofun)
        case e1 =>
          obtain ⟨r, hr', rfl⟩ := rsD_mem hd
          unfold rowsOf at hr'
          obtain ⟨t, ht, rfl⟩ := List.mem_map.mp hr'
          have rq := R.row t ht
          exact ⟨_, rfl, fun s H C cl fp => t_is (t_cmp od_neI (e_call CT (hr.mono (by decide)) (a_cons (e_var (i := 13) rfl) (a_cons (e_var (i := 11) rfl) a_nil)) ⟨t.2, _, rfl, (hb t ht).mono (by decide), pb1.mono (by decide), by rw [rq.len]; omega, rfl⟩) e_int (nomark _)) (by rw [kR_tI]), fun _ s H C cl fp => e_is (e_var (i := 13) rfl) (by rw [vR_tI])⟩
        subst e
        have rowsb : ∀ r ∈ rowsOf Q, r.length ≤ 1000 ∧ BitsL 8000 r := fun r hr' => by
          unfold rowsOf at hr'
          obtain ⟨t, ht, rfl⟩ := List.mem_map.mp hr'
          exact ⟨by rw [(R.row t ht).len]; omega, (hb t ht).mono (by decide)⟩
        have onS : ((rowsOf Q).all fun r => sgn (dot r spot) == 0) = true := List.all_eq_true.mpr fun r hr' => by
          unfold rowsOf at hr'
          obtain ⟨t, ht, rfl⟩ := List.mem_map.mp hr'
          rw [S.on t ht] <;> rfl
        refine q_one (q_skip (t_notlike (d := .list [.bool true, .bool (((rowsOf Q).filter fun r => !(dot r p == 0)) == [])]) CK hgd (hr.mono (by decide))
          (a_cons (e_lst (a_cons (e_is (e_call CN (hr.mono (by decide)) (a_cons (e_var (i := 2) rfl) (a_cons (e_var (i := 10) rfl) a_nil)) ⟨rowsOf Q, spot, rfl, by omega, rowsb, sb.mono (by decide), rfl⟩) (by rw [onS])) (a_cons (e_is (e_call CN (hr.mono (by decide)) (a_cons (e_var (i := 2) rfl) (a_cons (e_var (i := 11) rfl) a_nil)) ⟨rowsOf Q, p, rfl, by omega, rowsb, pb1.mono (by decide), rfl⟩) (by rw [all_due])) a_nil)))
            (a_cons (e_lst (a_cons e_bl (a_cons (e_var (i := 12) rfl) a_nil))) a_nil))
          ((tam_lst (b := 0) (n := 0) (l := 2) (fun d hd => by
            rcases List.mem_cons.mp hd with rfl | hd
            · exact tam_bool
            · rw [List.mem_singleton] at hd
              rw [hd]
              exact tam_bool) (by simp)).tame (by decide) (by decide))) ⟨by omega, _, _, _, _, _, _, _, _, _, _, rfl⟩)
  · obtain ⟨hm, y6, y8, y9, y10, y11, y12, y13, y14, y15, y16, rfl⟩ := hJ
    exact q_one (qs_ret (m_pure e_bl rfl (Nat.le_refl _)) fun d hd => by subst hd; exact ⟨by omega, hP⟩)
end
end K4
/-! How long the numbers become. -/
namespace K4
open PySem PySem.Spec PyProof.Rows L2 Zj
variable [Nm]
section
variable {w i n b : Nat} {rows : List (List Int)} {row : List Int}
/-- no row that only the last place keeps -/
def Lo (w : Nat) (rows : List (List Int)) : Prop := ∀ q ∈ redL w rows, q.1 + 1 < w
theorem lo_back {S T : List (List Int)} (hS : ∀ r ∈ S, r.length = w) (hT : ∀ r ∈ T, r.length = w) (h : Lo w T) (sp : ∀ s ∈ S, SpR T (cf s)) : Lo w S := fun q hq => by
  obtain ⟨RS, ES⟩ := redL_ok hS
  obtain ⟨RT, ET⟩ := redL_ok hT
  have rq := RS.row q hq
  obtain ⟨r, hr⟩ := RT.lead (((ES.1 _ (List.mem_map.mpr ⟨q, hq, rfl⟩)).trans sp).trans ET.2) rq.low (by have := rq.pos; omega)
  exact h (q.1, r) hr
theorem lo_take (hl : ∀ r ∈ rows, r.length = w) {i j : Nat} (hij : i ≤ j) (h : Lo w (rows.take j)) : Lo w (rows.take i) := lo_back (len_take hl i) (len_take hl j) h fun s hs => .one (by
  have e : rows.take i = (rows.take j).take i := by rw [List.take_take, Nat.min_eq_left hij]
  rw [e] at hs
  exact List.mem_of_mem_take hs)
theorem isNo_not {Q : List (Nat × List Int)} (h : ∀ q ∈ Q, q.1 + 1 < w) : isNo (w - 1) Q = false := by
  unfold isNo
  rw [List.any_eq_false]
  intro q hq
  have := h q hq
  simp
  omega
theorem step_bits (hl : ∀ r ∈ rows, r.length = w) (hw : 1 ≤ w) (h : rows[i]? = some row) (lt' : Lo w (rows.take (i + 1))) (bn : BitsL n row) (bb : ∀ q ∈ redL w (rows.take i), BitsL b q.2) :
    redL w (rows.take (i + 1)) = redL w (rows.take i) ∨ ((redL w (rows.take (i + 1))).length = (redL w (rows.take i)).length + 1 ∧ ∀ q ∈ redL w (rows.take (i + 1)), BitsL (b + (n + (redL w (rows.take i)).length * (b + 1)) + 1) q.2) := by
  have lt : Lo w (rows.take i) := lo_take hl (Nat.le_succ i) lt'
  have lt0 : ∀ q ∈ redL w (rows.take i), q.1 + 1 < w := lt
  have cb := clrAll_bits bn bb
  obtain ⟨R, _⟩ := redL_ok (len_take hl i)
  have cl := (clrAll_ok R (redL w (rows.take i)) row (fun t ht => ht) (hl row (List.mem_of_getElem? h))).1
  cases hp : lead (clrAll row (redL w (rows.take i))).dropLast with
  | none =>
    left
    by_cases hd : cf (clrAll row (redL w (rows.take i))) (w - 1) = 0
    · refine step_same hl h fun j => ?_
      by_cases hj : j < w - 1
      · unfold lead at hp
        rw [List.findIdx?_eq_none_iff] at hp
        have hjl : j < (clrAll row (redL w (rows.take i))).dropLast.length := by rw [List.length_dropLast, cl]; exact hj
        have := hp _ (List.getElem_mem hjl)
        rw [List.getElem_dropLast] at this
        rw [cf_get (List.getElem?_eq_getElem (by rw [cl]; omega))]
        simpa using this
      · by_cases e : j = w - 1
        · rw [e]; exact hd
        · exact cf_out (by rw [cl]; omega)
    · exfalso
      have h2 : (rows.take (i + 1))[i]? = some row := by rw [List.getElem?_take, if_pos (by omega)]; exact h
      have tt : (rows.take (i + 1)).take i = rows.take i := by rw [List.take_take, Nat.min_eq_left (by omega)]
      have := step_none (rows := rows.take (i + 1)) (i := i) (len_take hl (i + 1)) hw h2 (by rw [tt]; exact hp) (by rw [tt]; exact hd)
      rw [isNo_not lt'] at this
      cases this
  | some p =>
    right
    obtain ⟨y, _, _, hpl⟩ := planeL_some hp
    generalize hpe : (if y < 0 then (shortL (clrAll row (redL w (rows.take i)))).map (fun x => -x) else shortL (clrAll row (redL w (rows.take i)))) = pl at hpl
    obtain ⟨hr', pw, sf, hsf, step⟩ := step_plane hl lt0 h hp hpl
    have pb : BitsL (n + (redL w (rows.take i)).length * (b + 1)) pl := planeL_bits hpl cb
    obtain ⟨e, _⟩ := step (((redL w (rows.take i)).map (fun q => (q.1, sf q)) ++ [(p, pl)]).mergeSort fun a b => decide (a.1 ≤ b.1)) (List.mergeSort_perm _ _) (by
      have := List.pairwise_mergeSort (le := fun (a b : Nat × List Int) => decide (a.1 ≤ b.1)) (fun a b c h1 h2 => by simp at h1 h2 ⊢; omega) (fun a b => by simp; omega) ((redL w (rows.take i)).map (fun q => (q.1, sf q)) ++ [(p, pl)])
      exact this.imp fun {a b} z => by simpa using z)
    have pm := List.mergeSort_perm ((redL w (rows.take i)).map (fun q => (q.1, sf q)) ++ [(p, pl)]) fun a b => decide (a.1 ≤ b.1)
    rw [e] at pm
    refine ⟨by rw [pm.length_eq]; simp, fun q hq => ?_⟩
    rcases List.mem_append.mp (pm.mem_iff.mp hq) with hq | hq
    · obtain ⟨t, ht, rfl⟩ := List.mem_map.mp hq
      exact planeL_bits (hsf t ht).1 (clr_bits (p := p) (bb t ht) pb)
    · rw [List.mem_singleton] at hq
      subst hq
      exact pb.mono (by omega)
/-- row by row, from the rows below i0 on -/
theorem grow {i0 : Nat} {B : Nat → Nat} (hl : ∀ r ∈ rows, r.length = w) (hw : 1 ≤ w) (h0 : ∀ q ∈ redL w (rows.take i0), BitsL (B (redL w (rows.take i0)).length) q.2) (hB : ∀ k, (redL w (rows.take i0)).length ≤ k → k + 1 ≤ w - 1 → B k + (n + k * (B k + 1)) + 1 ≤ B (k + 1))
    (hn : ∀ i row, i0 ≤ i → rows[i]? = some row → BitsL n row) : ∀ j, i0 + j ≤ rows.length → Lo w (rows.take (i0 + j)) → (redL w (rows.take i0)).length ≤ (redL w (rows.take (i0 + j))).length ∧ (redL w (rows.take (i0 + j))).length ≤ (redL w (rows.take i0)).length + j ∧ ∀ q ∈ redL w (rows.take (i0 + j)), BitsL (B (redL w (rows.take (i0 + j))).length) q.2
  | 0, _, _ => ⟨Nat.le_refl _, Nat.le_refl _, h0⟩
  | j + 1, hj, lo => by
    obtain ⟨g1, g2, g3⟩ := grow hl hw h0 hB hn j (by omega) (lo_take hl (by omega) lo)
    have hlt : i0 + j < rows.length := by omega
    have hr : rows[i0 + j]? = some rows[i0 + j] := List.getElem?_eq_getElem hlt
    have e : i0 + (j + 1) = i0 + j + 1 := by omega
    rw [e] at lo ⊢
    rcases step_bits hl hw hr lo (hn _ _ (by omega) hr) g3 with s | ⟨s1, s2⟩
    · rw [s]
      exact ⟨g1, by omega, g3⟩
    · obtain ⟨R, _⟩ := redL_ok (len_take hl (i0 + j + 1))
      have := red_len R lo
      rw [s1] at this ⊢
      exact ⟨by omega, by omega, fun q hq => (s2 q hq).mono (hB _ g1 this)⟩
theorem bd_grow {i0 : Nat} {B : Nat → Nat} (hl : ∀ r ∈ rows, r.length = w) (hw : 1 ≤ w) (pre : ∀ i row, i < i0 → rows[i]? = some row → Lo w (rows.take i) → ∃ n b, BitsL n row ∧ (∀ q ∈ redL w (rows.take i), BitsL b q.2) ∧ n + (redL w (rows.take i)).length * (b + 1) + b + 1 ≤ 8000)
    (h0 : ∀ q ∈ redL w (rows.take i0), BitsL (B (redL w (rows.take i0)).length) q.2) (hB : ∀ k, (redL w (rows.take i0)).length ≤ k → k + 1 ≤ w - 1 → B k + (n + k * (B k + 1)) + 1 ≤ B (k + 1)) (hn : ∀ i row, i0 ≤ i → rows[i]? = some row → BitsL n row)
    (h8 : ∀ k, (redL w (rows.take i0)).length ≤ k → k ≤ w - 1 → k + i0 + 1 ≤ (redL w (rows.take i0)).length + rows.length → n + k * (B k + 1) + B k + 1 ≤ 8000) : Bd w rows := fun i row hi lt => by
  by_cases hlt : i < i0
  · exact pre i row hlt hi lt
  · obtain ⟨j, rfl⟩ : ∃ j, i = i0 + j := ⟨i - i0, by omega⟩
    have hil := (List.getElem?_eq_some_iff.mp hi).1
    obtain ⟨g1, g2, g3⟩ := grow hl hw h0 hB hn j (by omega) lt
    obtain ⟨R, _⟩ := redL_ok (len_take hl (i0 + j))
    have := red_len R lt
    exact ⟨n, _, hn _ _ (by omega) hi, g3, h8 _ g1 this (by omega)⟩
end
/-- from nothing on -/
def Bf (n : Nat) : Nat → Nat
  | 0 => 0
  | k + 1 => Bf n k + (n + k * (Bf n k + 1)) + 1
section
variable {D n : Nat} {rows : List (List Int)}
theorem red_nil (w : Nat) : redL w [] = [] := (redL_is (w := w) (rows := []) (Q := []) nofun ⟨nofun, .nil, nofun⟩ (.refl _)).symm
theorem from0 (hl : ∀ r ∈ rows, r.length = D + 1) (hn : ∀ r ∈ rows, BitsL n r) (lo : Lo (D + 1) rows) : (redL (D + 1) rows).length ≤ rows.length ∧ ∀ q ∈ redL (D + 1) rows, BitsL (Bf n (redL (D + 1) rows).length) q.2 := by
  have e0 : rows.take 0 = [] := List.take_zero
  have := grow (i0 := 0) (B := Bf n) (n := n) hl (by omega) (by rw [e0, red_nil]; intro q hq; cases hq) (fun k _ _ => Nat.le_refl _) (fun i row _ h => hn row (List.mem_of_getElem? h)) rows.length (by omega) (by rw [Nat.zero_add, List.take_length]; exact lo)
  rw [Nat.zero_add, List.take_length, e0, red_nil] at this
  exact ⟨by simpa using this.2.1, this.2.2⟩
theorem bd0 (hl : ∀ r ∈ rows, r.length = D + 1) (hn : ∀ r ∈ rows, BitsL n r) (h8 : ∀ k, k ≤ D → k + 1 ≤ rows.length → n + k * (Bf n k + 1) + Bf n k + 1 ≤ 8000) : Bd (D + 1) rows := by
  have e0 : rows.take 0 = [] := List.take_zero
  refine bd_grow (i0 := 0) (B := Bf n) (n := n) hl (by omega) (fun i row h => absurd h (by omega)) (by rw [e0, red_nil]; intro q hq; cases hq) (fun k _ _ => Nat.le_refl _) (fun i row _ h => hn row (List.mem_of_getElem? h)) fun k _ h1 h2 => ?_
  rw [e0, red_nil] at h2
  exact h8 k (by omega) (by simpa using h2)
/-- four rows -/
theorem bd4 (hl : ∀ r ∈ rows, r.length = D + 1) (hn : ∀ r ∈ rows, BitsL 150 r) (h4 : rows.length ≤ 4) : Bd (D + 1) rows := bd0 hl hn fun k _ hk => by
  have hk : k = 0 ∨ k = 1 ∨ k = 2 ∨ k = 3 := by omega
  rcases hk with rfl | rfl | rfl | rfl <;> decide
/-- five drawn rows -/
theorem bd5 (hl : ∀ r ∈ rows, r.length = D + 1) (hn : ∀ r ∈ rows, BitsL 8 r) (h5 : rows.length ≤ 5) : Bd (D + 1) rows := bd0 hl hn fun k _ hk => by
  have hk : k = 0 ∨ k = 1 ∨ k = 2 ∨ k = 3 ∨ k = 4 := by omega
  rcases hk with rfl | rfl | rfl | rfl | rfl <;> decide
end
/-! ### reduced rows -/
section
variable {D : Nat} {Q : List (Nat × List Int)}
theorem rows_len (R : Red (D + 1) Q) : ∀ r ∈ rowsOf Q, r.length = D + 1 := fun r hr => by
  unfold rowsOf at hr
  obtain ⟨q, hq, rfl⟩ := List.mem_map.mp hr
  exact (R.row q hq).len
theorem rows_bits {n : Nat} (hb : ∀ q ∈ Q, BitsL n q.2) : ∀ r ∈ rowsOf Q, BitsL n r := fun r hr => by
  unfold rowsOf at hr
  obtain ⟨q, hq, rfl⟩ := List.mem_map.mp hr
  exact hb q hq
theorem red_self (R : Red (D + 1) Q) : redL (D + 1) (rowsOf Q) = Q := (redL_is (rows_len R) R (.refl _)).symm
theorem red_sub {T : List (Nat × List Int)} (R : Red (D + 1) Q) (h : T.Sublist Q) : Red (D + 1) T := ⟨fun q hq => R.row q (h.subset hq), R.asc.sublist h, fun q hq t ht => R.off q (h.subset hq) t (h.subset ht)⟩
theorem red_take (R : Red (D + 1) Q) (i : Nat) : redL (D + 1) ((rowsOf Q).take i) = Q.take i := by
  have e : (rowsOf Q).take i = rowsOf (Q.take i) := by unfold rowsOf; rw [List.map_take]
  rw [e]
  exact red_self (red_sub R (List.take_sublist _ _))
theorem red_eqv {S T : List (List Int)} {w : Nat} (hS : ∀ r ∈ S, r.length = w) (hT : ∀ r ∈ T, r.length = w) (h : Eqv S T) : redL w S = redL w T := redL_is hT (redL_ok hS).1 ((redL_ok hS).2.trans h)
theorem flat_eqv {S T : List (List Int)} (hS : ∀ r ∈ S, r.length = D + 1) (hT : ∀ r ∈ T, r.length = D + 1) (h : Eqv S T) : flatPD D S = flatPD D T := by
  unfold flatPD
  rw [red_eqv hS hT h]
theorem eqv_mem {S T : List (List Int)} (h1 : ∀ s ∈ S, s ∈ T) (h2 : ∀ t ∈ T, t ∈ S) : Eqv S T := ⟨fun s hs => .one (h1 s hs), fun t ht => .one (h2 t ht)⟩
/-- the reduced rows of drawn ones -/
theorem redL_bits {n : Nat} {rows : List (List Int)} (hl : ∀ r ∈ rows, r.length = D + 1) (hn : ∀ r ∈ rows, BitsL n r) (lo : Lo (D + 1) rows) : ∀ q ∈ redL (D + 1) rows, BitsL (fbits n D) q.2 := by
  have e : redL (D + 1) rows = (redTo rows D).1 := by
    show (stepL D (redTo rows D)).1 = _
    have lo' : ∀ q ∈ (stepL D (redTo rows D)).1, q.1 + 1 < D + 1 := lo
    cases h : (redTo rows D).2.filter fun r => !(cf r D == 0) with
    | nil =>
      rw [stepL_no fun r hr => ?_]
      have := List.filter_eq_nil_iff.mp h r hr
      simpa using this
    | cons x t =>
      obtain ⟨es, _, _⟩ := stepL_some h
      rw [es] at lo'
      have := lo' (D, headL D x) (List.mem_append.mpr (.inr (List.mem_singleton.mpr rfl)))
      exact absurd this (by simp)
  rw [e]
  exact (redTo_bits hn D).1
/-- from k0 reduced rows of b figures on -/
def Bg (b n k0 : Nat) : Nat → Nat
  | 0 => b
  | d + 1 => Bg b n k0 d + (n + (k0 + d) * (Bg b n k0 d + 1)) + 1
theorem bg_step {b n k0 k : Nat} (h : k0 ≤ k) : Bg b n k0 (k - k0) + (n + k * (Bg b n k0 (k - k0) + 1)) + 1 ≤ Bg b n k0 (k + 1 - k0) := by
  obtain ⟨d, rfl⟩ : ∃ d, k = k0 + d := ⟨k - k0, by omega⟩
  rw [show k0 + d + 1 - k0 = d + 1 by omega, show k0 + d - k0 = d by omega]
  exact Nat.le_refl _
/-- some rows behind reduced ones -/
theorem bd_more {n : Nat} {ext : List (List Int)} (hD : D ≤ 4) (R : Red (D + 1) Q) (lt : ∀ q ∈ Q, q.1 + 1 < D + 1) (hb : ∀ q ∈ Q, BitsL 150 q.2) (hl : ∀ r ∈ ext, r.length = D + 1) (hn : ∀ r ∈ ext, BitsL n r) (h : n ≤ 150 ∧ ext.length ≤ 1 ∨ n ≤ 13 ∧ ext.length ≤ 2) : Bd (D + 1) (rowsOf Q ++ ext) := by
  have ql := q_len R lt
  have rl : (rowsOf Q).length = Q.length := by unfold rowsOf; simp
  have hl2 : ∀ r ∈ rowsOf Q ++ ext, r.length = D + 1 := fun r hr => (List.mem_append.mp hr).elim (rows_len R r) (hl r)
  have e0 : (rowsOf Q ++ ext).take Q.length = rowsOf Q := by rw [← rl, List.take_left]
  have es : redL (D + 1) ((rowsOf Q ++ ext).take Q.length) = Q := by rw [e0, red_self R]
  refine bd_grow (i0 := Q.length) (B := fun k => Bg 150 n Q.length (k - Q.length)) (n := n) hl2 (by omega) (fun i row hi hr _ => ?_) ?_ (fun k h1 h2 => ?_) (fun i row hi hr => ?_) fun k h1 h2 h3 => ?_
  · have hi2 : i < (rowsOf Q).length := by omega
    rw [List.getElem?_append_left hi2] at hr
    have et : (rowsOf Q ++ ext).take i = (rowsOf Q).take i := by rw [List.take_append_of_le_length (by omega)]
    refine ⟨150, 150, rows_bits hb row (List.mem_of_getElem? hr), ?_, ?_⟩
    · rw [et, red_take R]
      exact fun q hq => hb q (List.mem_of_mem_take hq)
    · rw [et, red_take R, List.length_take]
      have : min i Q.length ≤ 4 := by omega
      generalize min i Q.length = m at this
      omega
  · rw [es, Nat.sub_self]
    exact hb
  · rw [es] at h1
    exact bg_step h1
  · refine hn row ?_
    rw [List.getElem?_append_right (by omega)] at hr
    exact List.mem_of_getElem? hr
  · rw [es] at h1 h3
    rw [List.length_append, rl] at h3
    rcases h with ⟨hn1, he⟩ | ⟨hn1, he⟩
    · have e : k = Q.length := by omega
      rw [e, Nat.sub_self]
      show n + Q.length * (150 + 1) + 150 + 1 ≤ 8000
      omega
    · by_cases e : k = Q.length
      · rw [e, Nat.sub_self]
        show n + Q.length * (150 + 1) + 150 + 1 ≤ 8000
        omega
      · have e2 : k = Q.length + 1 := by omega
        rw [e2, show Q.length + 1 - Q.length = 0 + 1 by omega]
        show n + (Q.length + 1) * ((150 + (n + (Q.length + 0) * (150 + 1)) + 1) + 1) + (150 + (n + (Q.length + 0) * (150 + 1)) + 1) + 1 ≤ 8000
        have hq : Q.length = 0 ∨ Q.length = 1 ∨ Q.length = 2 ∨ Q.length = 3 := by omega
        rcases hq with z | z | z | z <;> rw [z] <;> omega
/-- reduced rows behind a few short ones -/
theorem bd_less {O : List (Nat × List Int)} (hD : D ≤ 4) (R : Red (D + 1) Q) (lt : ∀ q ∈ Q, q.1 + 1 < D + 1) (hb : ∀ q ∈ Q, BitsL 150 q.2) (RO : Red (D + 1) O) (ltO : ∀ q ∈ O, q.1 + 1 < D + 1) (hbO : ∀ q ∈ O, BitsL 13 q.2) (hO : O.length ≤ 2) : Bd (D + 1) (rowsOf O ++ rowsOf Q) := by
  have ql := q_len R lt
  have rl : (rowsOf Q).length = Q.length := by unfold rowsOf; simp
  have rlO : (rowsOf O).length = O.length := by unfold rowsOf; simp
  have hl2 : ∀ r ∈ rowsOf O ++ rowsOf Q, r.length = D + 1 := fun r hr => (List.mem_append.mp hr).elim (rows_len RO r) (rows_len R r)
  have e0 : (rowsOf O ++ rowsOf Q).take O.length = rowsOf O := by rw [← rlO, List.take_left]
  have es : redL (D + 1) ((rowsOf O ++ rowsOf Q).take O.length) = O := by rw [e0, red_self RO]
  have pre : ∀ i row, i < O.length → (rowsOf O ++ rowsOf Q)[i]? = some row → Lo (D + 1) ((rowsOf O ++ rowsOf Q).take i) → ∃ n b, BitsL n row ∧ (∀ q ∈ redL (D + 1) ((rowsOf O ++ rowsOf Q).take i), BitsL b q.2) ∧ n + (redL (D + 1) ((rowsOf O ++ rowsOf Q).take i)).length * (b + 1) + b + 1 ≤ 8000 := fun i row hi hr _ => by
    have hi2 : i < (rowsOf O).length := by omega
    rw [List.getElem?_append_left hi2] at hr
    have et : (rowsOf O ++ rowsOf Q).take i = (rowsOf O).take i := by rw [List.take_append_of_le_length (by omega)]
    refine ⟨13, 13, rows_bits hbO row (List.mem_of_getElem? hr), ?_, ?_⟩
    · rw [et, red_take RO]
      exact fun q hq => hbO q (List.mem_of_mem_take hq)
    · rw [et, red_take RO, List.length_take]
      have : min i O.length ≤ 2 := by omega
      generalize min i O.length = m at this
      omega
  have hnQ : ∀ i row, O.length ≤ i → (rowsOf O ++ rowsOf Q)[i]? = some row → BitsL 150 row := fun i row hi hr => by
    refine rows_bits hb row ?_
    rw [List.getElem?_append_right (by omega)] at hr
    exact List.mem_of_getElem? hr
  by_cases h2 : O.length = 1
  · -- one short row: it may as well come last
    intro i row hi lo
    by_cases hlt : i < O.length
    · exact pre i row hlt hi lo
    · have hi' := hi
      rw [List.getElem?_append_right (by omega), rlO] at hi'
      have hiQ : i - O.length < Q.length := by
        have := (List.getElem?_eq_some_iff.mp hi').1
        omega
      have et : (rowsOf O ++ rowsOf Q).take i = rowsOf O ++ (rowsOf Q).take (i - O.length) := by
        rw [List.take_append, rlO, List.take_of_length_le (by omega)]
      obtain ⟨m, hm⟩ : ∃ m, m = i - O.length := ⟨_, rfl⟩
      rw [← hm] at et hiQ
      have hlS : ∀ r ∈ rowsOf O ++ (rowsOf Q).take m, r.length = D + 1 := fun r hr => (List.mem_append.mp hr).elim (rows_len RO r) fun hr => rows_len R r (List.mem_of_mem_take hr)
      have hlT : ∀ r ∈ (rowsOf Q).take m ++ rowsOf O, r.length = D + 1 := fun r hr => (List.mem_append.mp hr).elim (fun hr => rows_len R r (List.mem_of_mem_take hr)) (rows_len RO r)
      have er : redL (D + 1) ((rowsOf O ++ rowsOf Q).take i) = redL (D + 1) ((rowsOf Q).take m ++ rowsOf O) := by
        rw [et]
        exact red_eqv hlS hlT (eqv_mem (fun s hs => by simp at hs ⊢; exact hs.symm) (fun s hs => by simp at hs ⊢; exact hs.symm))
      have tl : ((rowsOf Q).take m).length = m := by rw [List.length_take, rl]; omega
      have lo2 : Lo (D + 1) ((rowsOf Q).take m ++ rowsOf O) := by
        unfold Lo
        rw [← er]
        exact lo
      have et2 : ((rowsOf Q).take m ++ rowsOf O).take m = (rowsOf Q).take m := by
        have := List.take_left (l₁ := (rowsOf Q).take m) (l₂ := rowsOf O)
        rw [tl] at this
        exact this
      have er2 : redL (D + 1) (((rowsOf Q).take m ++ rowsOf O).take m) = Q.take m := by rw [et2, red_take R]
      have qm : (Q.take m).length = m := by rw [List.length_take]; omega
      have full : ((rowsOf Q).take m ++ rowsOf O).take (m + 1) = (rowsOf Q).take m ++ rowsOf O := List.take_of_length_le (by rw [List.length_append, tl, rlO]; omega)
      have G := grow (rows := (rowsOf Q).take m ++ rowsOf O) (i0 := m) (n := 13) (B := fun k => Bg 150 13 m (k - m)) hlT (by omega) (by rw [er2, qm, Nat.sub_self]; exact fun q hq => hb q (List.mem_of_mem_take hq)) (fun k h1 h2 => by rw [er2, qm] at h1; exact bg_step h1) (fun j r hj hr => by
        rw [List.getElem?_append_right (by omega)] at hr
        exact rows_bits hbO r (List.mem_of_getElem? hr)) 1 (by rw [List.length_append, tl, rlO]; omega) (by rw [full]; exact lo2)
      rw [full, er2, qm] at G
      obtain ⟨g1, g2, g3⟩ := G
      rw [← er] at g1 g2 g3
      obtain ⟨R3, _⟩ := redL_ok (len_take hl2 i)
      have r4 := red_len R3 lo
      refine ⟨150, Bg 150 13 m 1, hnQ i row (by omega) hi, fun q hq => (g3 q hq).mono ?_, ?_⟩
      · have : (redL (D + 1) ((rowsOf O ++ rowsOf Q).take i)).length - m = 0 ∨ (redL (D + 1) ((rowsOf O ++ rowsOf Q).take i)).length - m = 1 := by omega
        rcases this with z | z <;> rw [z]
        · show 150 ≤ 150 + (13 + (m + 0) * (150 + 1)) + 1
          omega
        · exact Nat.le_refl _
      · show 150 + (redL (D + 1) ((rowsOf O ++ rowsOf Q).take i)).length * ((150 + (13 + (m + 0) * (150 + 1)) + 1) + 1) + (150 + (13 + (m + 0) * (150 + 1)) + 1) + 1 ≤ 8000
        have hm3 : m ≤ 3 := by omega
        have hk : (redL (D + 1) ((rowsOf O ++ rowsOf Q).take i)).length ≤ 4 := by omega
        have := Nat.mul_le_mul hk (show (150 + (13 + (m + 0) * (150 + 1)) + 1) + 1 ≤ 618 by omega)
        omega
  · refine bd_grow (i0 := O.length) (B := fun k => Bg 13 150 O.length (k - O.length)) (n := 150) hl2 (by omega) pre ?_ (fun k h1 h3 => ?_) hnQ fun k h1 h3 h4 => ?_
    · rw [es, Nat.sub_self]
      exact hbO
    · rw [es] at h1
      exact bg_step h1
    · rw [es] at h1 h4
      rw [List.length_append, rl, rlO] at h4
      have hO' : O.length = 0 ∨ O.length = 2 := by omega
      rcases hO' with z | z
      · rw [z] at h1 h4 ⊢
        have hk : k = 0 ∨ k = 1 ∨ k = 2 ∨ k = 3 := by omega
        rcases hk with rfl | rfl | rfl | rfl <;> decide
      · rw [z] at h1 h4 ⊢
        have hk : k = 2 ∨ k = 3 ∨ k = 4 := by omega
        rcases hk with rfl | rfl | rfl <;> decide
end
end K4
/-! Values near flats. -/
namespace K4
open PySem PySem.Spec PyProof.Rows L2 Zj
variable [Nm]
def Cell (z : PyData) : Prop := (∃ x : Int, z = .int x ∧ Bits 150 x) ∨ z = .none ∨ z = .bool true ∨ z = .str "0"
def RowP (x : PyData) : Prop := x = .none ∨ ∃ cs, x = .tuple cs ∧ cs.length ≤ 5 ∧ ∀ c ∈ cs, Cell c
def ValP (D : Nat) (Q : List (Nat × List Int)) (v : PyData) : Prop := (∃ l, v = .list l) ∨ ∃ xs, v = .tuple xs ∧ (∀ x ∈ xs, RowP x) ∧ (xs.length ≤ 4 ∨ ∃ x, xs = rsD (rowsOf Q) ++ [x])
theorem cell_int {x : Int} (h : Bits 150 x) : Cell (.int x) := .inl ⟨x, rfl, h⟩
theorem row_ints {r : List Int} (hl : r.length ≤ 5) (h : BitsL 150 r) : RowP (tI r) := .inr ⟨_, rfl, by simpa using hl, fun c hc => by
  obtain ⟨x, hx, rfl⟩ := mem_mapI hc
  exact cell_int (h x hx)⟩
theorem cell_tam {z : PyData} (h : Cell z) : Tam 4 1 z := by
  rcases h with ⟨x, rfl, hx⟩ | rfl | rfl | rfl
  · exact (tam_int (hx.mono (by decide))).mono (by decide) (by decide)
  · exact tam_non.mono (by decide) (by decide)
  · exact tam_bool.mono (by decide) (by decide)
  · exact ⟨by simp only [Zj.Tm]; decide +kernel, by decide +kernel, by decide +kernel⟩
theorem row_tam {x : PyData} (h : RowP x) : Tam 25 2 x := by
  rcases h with rfl | ⟨cs, rfl, hl, hc⟩
  · exact tam_non.mono (by decide) (by decide)
  · exact (tam_tup (b := 4) (n := 1) (l := 5) (fun c h => cell_tam (hc c h)) hl).mono (by decide) (by decide)
theorem int_tam {p : Int} (h : p.natAbs ≤ 1000) : Tame (.int p) := (tam_int (Bits.mono (m := 10) (bits_abs (Nat.lt_of_le_of_lt h (by decide))) (by decide))).tame (by decide) (by decide)
/-- what is told is short -/
theorem told_tame {D : Nat} {v : PyData} (h : ∀ xs, v = .tuple xs → xs.length ≤ 50 ∧ Tam 1300 3 v) : Tame (hvO (chO D v)) := by
  by_cases ht : ∃ xs, v = .tuple xs
  · obtain ⟨xs, rfl⟩ := ht
    obtain ⟨hl, tv⟩ := h xs rfl
    cases hb : xs.findIdx? (badR D) with
    | some n =>
      rw [chO_bad hb]
      have := (List.findIdx?_eq_some_iff_getElem.mp hb).1
      exact int_tam (p := (n : Int)) (by omega)
    | none =>
      rw [chO_good hb]
      split
      · exact (tam_lst (b := 1300) (n := 3) (l := 1) (fun d hd => by rw [List.mem_singleton] at hd; rw [hd]; exact tv) (by simp)).tame (by decide) (by decide)
      · exact int_tam (p := -2) (by decide)
  · have : chO D v = nrO (-1) := by
      cases v with
      | tuple xs => exact absurd ⟨xs, rfl⟩ ht
      | _ => rfl
    rw [this]
    exact int_tam (p := -1) (by decide)
theorem fb_mono {n D : Nat} (hD : D ≤ 4) (h : fbits n 5 ≤ 8000) : fbits n (D + 1) ≤ 8000 := Nat.le_trans (lbits_mono (n := n) (show D + 1 ≤ 5 by omega)).2 h
theorem good_bits {D n : Nat} {xs : List PyData} (h : ∀ x ∈ xs, ∀ r, x = tI r → BitsL n r) (hn : xs.findIdx? (badR D) = none) : ∀ r ∈ rowsD xs, BitsL n r := fun r hr => by
  obtain ⟨e, _⟩ := good_rows hn
  refine h (tI r) ?_ r rfl
  rw [e]
  unfold rsD
  exact List.mem_map.mpr ⟨r, hr, rfl⟩
theorem tI_inj {r s : List Int} (h : tI r = tI s) : r = s := by
  have := congrArg unI h
  rwa [unI_tI, unI_tI] at this
theorem row_bits {x : PyData} (h : RowP x) (r : List Int) (e : x = tI r) : BitsL 150 r := by
  subst e
  rcases h with h | ⟨cs, h, _, hc⟩
  · cases h
  · injection h with h
    subst h
    intro x hx
    rcases hc (.int x) (List.mem_map.mpr ⟨x, hx, rfl⟩) with ⟨y, e, hy⟩ | e | e | e
    · injection e with e
      rw [e]
      exact hy
    all_goals cases e
theorem val_ok {D : Nat} {Q : List (Nat × List Int)} {v : PyData} (hD : D ≤ 4) (R : Red (D + 1) Q) (lt : ∀ q ∈ Q, q.1 + 1 < D + 1) (hb : ∀ q ∈ Q, BitsL 150 q.2) (h : ValP D Q v) : Jv D v ∧ Tame (hvO (chO D v)) := by
  rcases h with ⟨l, rfl⟩ | ⟨xs, rfl, hx, hs⟩
  · exact ⟨⟨nofun, nofun⟩, told_tame nofun⟩
  · have ql := q_len R lt
    have l5 : xs.length ≤ 5 := by
      rcases hs with h | ⟨x, rfl⟩
      · omega
      · rw [List.length_append, rsD_len]
        unfold rowsOf
        rw [List.length_map]
        show Q.length + 1 ≤ 5
        omega
    refine ⟨⟨fun ys e => ?_, fun ys e hn => ?_⟩, told_tame fun ys e => ?_⟩
    · cases e
      refine ⟨by omega, fun x hxx ys e => ?_⟩
      subst e
      rcases hx _ hxx with h | ⟨cs, h, hl, _⟩
      · cases h
      · cases h
        omega
    · cases e
      obtain ⟨e1, e2⟩ := good_rows hn
      have gb := good_bits (fun x hxx r e => row_bits (hx x hxx) r e) hn
      refine ⟨?_, 150, gb, fb_mono hD (by decide)⟩
      rcases hs with h | ⟨x, rfl⟩
      · exact bd4 e2 gb (by unfold rowsD; rw [List.length_map]; exact h)
      · have e3 : rowsD (rsD (rowsOf Q) ++ [x]) = rowsOf Q ++ [unI x] := by
          unfold rowsD rsD
          rw [List.map_append, List.map_map]
          have : (unI ∘ fun r => tI r) = id := funext fun r => unI_tI r
          rw [this, List.map_id] <;> rfl
        rw [e3] at gb e2 ⊢
        exact bd_more (n := 150) hD R lt hb (fun r hr => e2 r (List.mem_append.mpr (.inr hr))) (fun r hr => gb r (List.mem_append.mpr (.inr hr))) (.inl ⟨Nat.le_refl _, by simp⟩)
    · cases e
      exact ⟨by omega, (tam_tup (b := 25) (n := 2) (l := 5) (fun x h => row_tam (hx x h)) l5).mono (by decide) (by decide)⟩
theorem flat_val {D : Nat} {Q : List (Nat × List Int)} (hD : D ≤ 4) (R : Red (D + 1) Q) (lt : ∀ q ∈ Q, q.1 + 1 < D + 1) (hb : ∀ q ∈ Q, BitsL 150 q.2) : ∀ x ∈ rsD (rowsOf Q), RowP x := fun x hx => by
  obtain ⟨r, hr, rfl⟩ := rsD_mem hx
  exact row_ints (by rw [rows_len R r hr]; omega) (rows_bits hb r hr)
theorem flat_ok {D : Nat} {Q : List (Nat × List Int)} (hD : D ≤ 4) (R : Red (D + 1) Q) (lt : ∀ q ∈ Q, q.1 + 1 < D + 1) (hb : ∀ q ∈ Q, BitsL 150 q.2) : ValP D Q (.tuple (rsD (rowsOf Q))) := .inr ⟨_, rfl, flat_val hD R lt hb, .inl (by rw [rsD_len]; unfold rowsOf; rw [List.length_map]; have := q_len R lt; omega)⟩
/-- drawn rows -/
theorem drawn_ok {D : Nat} {rows : List (List Int)} (hD : D ≤ 4) (hl : ∀ r ∈ rows, r.length = D + 1) (hn : ∀ r ∈ rows, BitsL 8 r) (h5 : rows.length ≤ 5) : Jv D (.tuple (rsD rows)) ∧ Tame (hvO (chO D (.tuple (rsD rows)))) := by
  have hx : ∀ x ∈ rsD rows, RowP x := fun x hx => by
    obtain ⟨r, hr, rfl⟩ := rsD_mem hx
    exact row_ints (by rw [hl r hr]; omega) ((hn r hr).mono (by decide))
  refine ⟨⟨fun ys e => ?_, fun ys e hno => ?_⟩, told_tame fun ys e => ?_⟩
  · cases e
    refine ⟨by rw [rsD_len]; omega, fun x hxx ys e => ?_⟩
    subst e
    rcases hx _ hxx with h | ⟨cs, h, hl, _⟩
    · cases h
    · cases h
      omega
  · cases e
    have e3 : rowsD (rsD rows) = rows := by
      unfold rowsD rsD
      rw [List.map_map]
      have : (unI ∘ fun r => tI r) = id := funext fun r => unI_tI r
      rw [this, List.map_id]
    rw [e3]
    exact ⟨bd5 hl hn h5, 8, hn, fb_mono hD (by decide)⟩
  · cases e
    exact ⟨by rw [rsD_len]; omega, (tam_tup (b := 25) (n := 2) (l := 5) (fun x h => row_tam (hx x h)) (by rw [rsD_len]; exact h5)).mono (by decide) (by decide)⟩
theorem none_ok {D : Nat} : Jv D .none ∧ Tame (hvO (chO D .none)) := ⟨⟨nofun, nofun⟩, told_tame nofun⟩
theorem cut_take (ds : List PyData) {k : Nat} (h : k ≤ ds.length) : Zj.cutD ds none (some (k : Int)) = ds.take k := by
  unfold Zj.cutD
  rw [six_none, HT.sIx_nat, List.drop_zero, Nat.sub_zero, Nat.min_eq_left h]
theorem cut_drop (ds : List PyData) {k : Nat} (h : k ≤ ds.length) : Zj.cutD ds (some (k : Int)) none = ds.drop k := by
  unfold Zj.cutD
  rw [six_none, HT.sIx_nat, Nat.min_eq_left h, List.take_of_length_le (by rw [List.length_drop]; exact Nat.le_refl _)]
section
variable {X : Cx} {a : Addr} {ρ : Rho} {ef eg ek el : Expr} {es : List Expr} {ds : List PyData} {x : PyData} {c k : Nat} {p1 p2 p3 p4 p5 p6 p7 : Pos}
theorem e_mid (h1 : EvE X a ef ρ (.tuple ds)) (h2 : EvE X a eg ρ (.tuple ds)) (h3 : EvE X a ek ρ (.int (k : Int))) (h4 : EvE X a el ρ (.int ((k : Int) + 1))) (h5 : EvA X a es ρ [x]) (hk : k < ds.length) (hl : ds.length ≤ 1000) :
    EvE X a (.BinOp (.BinOp (.Subscript ef (.Slice none (some ek) none p1) p2) .Add (.Tuple es c p3) p4) .Add (.Subscript eg (.Slice (some el) none none p5) p6) p7) ρ (.tuple (ds.take k ++ [x] ++ ds.drop (k + 1))) :=
  e_bin (od_catA (by rw [List.length_append, List.length_take, List.length_drop]; show min k _ + 1 + _ ≤ 100000; omega))
    (e_bin (od_catA (by rw [List.length_take]; show min k _ + 1 ≤ 100000; omega)) (e_is (e_slA h1 o_non (o_int h3)) (by rw [cut_take _ (by omega)])) (e_tup h5))
    (e_is (e_slA h2 (o_int h4) o_non) (by rw [show (k : Int) + 1 = ((k + 1 : Nat) : Int) by omega, cut_drop _ (by omega)]))
end
section
variable {P : Program} {w : World} {K : PySem.W.Frag} {mg : Str → Option Value} {base : Heap} {f : Addr} {fd : FuncData}
def R_bent (ds : List PyData) (Pd : PyData → Prop) : Prop := ∃ (D : Nat) (Q : List (Nat × List Int)), ds = [.int (D : Int), .tuple (rsD (rowsOf Q))] ∧ 1 ≤ D ∧ D ≤ 4 ∧ Red (D + 1) Q ∧ (∀ q ∈ Q, q.1 + 1 < D + 1) ∧ (∀ q ∈ Q, BitsL 140 q.2) ∧ ∀ v, ValP D Q v → Pd v
theorem ok_bent (F : Fun K "_law_bent" "_law_bent" st__law_bent f fd) (T : Tx mg) (C1 : CalG P w K mg base 1 "_law_draw" ["m", "bound"] (spM K 1 R_draw)) (C2 : CalG P w K mg base 2 "_law_of" ["m", "some"] (spM K 1 fun ds Q => ∃ es, ds = [.list es] ∧ 1 ≤ es.length ∧ es.length ≤ 1000 ∧ ∀ d ∈ es, Q d)) : FnG P w K mg base CX0 3 f fd ["m", "dimension_so", "flat_so"] (spM K 4 R_bent) := by
  refine fnM F sc__law_bent (fun ds Pd h => by obtain ⟨_, _, rfl, _⟩ := h; rfl) fun cdv A outer s H E G hr hgd a n ds Pd h => ?_
  obtain ⟨D, Q, rfl, hD, hD4, R, lt, hb, hP⟩ := h
  have hb5 : ∀ q ∈ Q, BitsL 150 q.2 := fun q hq => (hb q hq).mono (by decide)
  have ql := q_len R lt
  have nD : (rsD (rowsOf Q)).length = Q.length := by rw [rsD_len]; unfold rowsOf; simp
  have fv := flat_val hD4 R lt hb5
  refine q_cons (qs_set (i := 3) (m := n + 3) (P := fun d => ∃ r : Int, d = .int r ∧ 0 ≤ r ∧ r < 7) G (m_draw (i := 0) C1 hgd (hr.mono (by decide)) rfl e_int (by decide) (by decide)) fun d hd => ?_)
  obtain ⟨way, rfl, w0, w1⟩ := hd
  refine q_cons (qs_if (PB := (· = (way == 0))) (mt_pure (t_cmp od_eqI (e_var (i := 3) rfl) e_int (nomark _)) rfl (Nat.le_refl _)) (fun _ => q_one (qs_ret (m_pure (e_callT ca_listT (a_cons (e_var (i := 2) rfl) a_nil) T.list (by decide +kernel)) (hP _ (.inl ⟨_, rfl⟩)) (Nat.le_refl _)) fun d hd => ⟨by omega, hd⟩)) fun _ => q_nil ?_)
  refine q_cons (qs_if (PB := (· = (way == 1))) (mt_pure (t_cmp od_eqI (e_var (i := 3) rfl) e_int (nomark _)) rfl (Nat.le_refl _)) (fun _ => q_one (qs_ret (m_pure (e_back (e_var (i := 2) rfl)) (hP _ (.inr ⟨_, rfl, fun x hx => fv x (List.mem_reverse.mp hx), .inl (by rw [List.length_reverse, nD]; omega)⟩)) (Nat.le_refl _)) fun d hd => ⟨by omega, hd⟩)) fun _ => q_nil ?_)
  refine q_cons (qs_if (PB := fun b => b = ((way == 2) || (rowsOf Q == []))) (mt_pure (t_or2 (b := way == 2) (t_cmp od_eqI (e_var (i := 3) rfl) e_int (nomark _)) (fun hw => t_is (t_cmp (od_eqD (d1 := .tuple (rsD (rowsOf Q))) (d2 := .tuple (rsD [])) G.un (shaped_rs _) (shaped_rs [])) (e_var (i := 2) rfl) (e_tup a_nil) (nomark _)) (by rw [eqv_rs, hw, Bool.false_or])) fun hw => by rw [hw, Bool.true_or]) rfl (Nat.le_refl _)) (fun _ => ?_) fun hne => q_nil ?_)
  · have b0 : Bits 150 (0 : Int) := Nat.two_pow_pos _
    have b1 : Bits 150 (1 : Int) := show (1 : Nat) < 2 ^ 150 by decide
    have reps : ∀ (x : Int) (k : Nat), k ≤ 5 → Bits 150 x → RowP (.tuple (List.replicate k (.int x))) := fun x k hk hx => .inr ⟨_, rfl, by rw [List.length_replicate]; exact hk, fun c hc => by
      rw [List.eq_of_mem_replicate hc]
      exact cell_int hx⟩
    have one : ∀ x : PyData, RowP x → ∃ ys, PyData.tuple [x] = .tuple ys ∧ ys.length ≤ 1 ∧ ∀ y ∈ ys, RowP y := fun x hx => ⟨[x], rfl, by simp, fun y hy => by rw [List.mem_singleton] at hy; rw [hy]; exact hx⟩
    refine q_one (qs_ret (m := n) (P := Pd) (m_bin (m := n + 3) (P1 := fun d => d = .tuple (rsD (rowsOf Q))) (P2 := fun _ d => ∃ ys, d = .tuple ys ∧ ys.length ≤ 1 ∧ ∀ y ∈ ys, RowP y) (m_pure (e_var (i := 2) rfl) rfl (Nat.le_refl _)) (fun _ _ => m_call (i := 0) (ds := [.list [.tuple [.tuple (List.replicate (D + 1) (.int 0))], .tuple [.none], .tuple [.tuple (List.replicate D (.int 1))], .tuple [.tuple (List.replicate D (.int 0) ++ [.int 1])], .tuple (Zj.cutD (rsD (rowsOf Q)) none (some 1))]]) C2 hgd (hr.mono (by decide)) rfl
      (a_cons (e_lst (a_cons (e_tup (a_cons (e_is (e_bin (od_repT (ds := [.int 0]) (k := (D : Int) + 1) (by simp) (by omega) (by omega) (by simp)) (e_tup (a_cons e_int a_nil)) (e_bin od_add (e_var (i := 1) rfl) e_int)) (by rw [rep_one, show ((D : Int) + 1).toNat = D + 1 by omega])) a_nil))
        (a_cons (e_tup (a_cons e_non a_nil))
        (a_cons (e_tup (a_cons (e_is (e_bin (od_repT (ds := [.int 1]) (k := (D : Int)) (by simp) (by omega) (by omega) (by simp)) (e_tup (a_cons e_int a_nil)) (e_var (i := 1) rfl)) (by rw [rep_one, Int.toNat_natCast])) a_nil))
        (a_cons (e_tup (a_cons (e_bin (od_catA (es := List.replicate D (.int 0)) (fs := [.int 1]) (by rw [List.length_replicate]; show D + 1 ≤ 100000; omega)) (e_is (e_bin (od_repT (ds := [.int 0]) (k := (D : Int)) (by simp) (by omega) (by omega) (by simp)) (e_tup (a_cons e_int a_nil)) (e_var (i := 1) rfl)) (by rw [rep_one, Int.toNat_natCast])) (e_tup (a_cons e_int a_nil))) a_nil))
        (a_cons (e_slA (e_var (i := 2) rfl) o_non (o_int e_int)) a_nil)))))) a_nil) ⟨_, rfl, by simp, by simp, fun d hd => ?_⟩ (by omega)) fun d1 d2 h1 h2 => ?_) fun d hd => ⟨Nat.le_refl _, hd⟩)
    · simp only [List.mem_cons, List.not_mem_nil, or_false] at hd
      rcases hd with rfl | rfl | rfl | rfl | rfl
      · exact one _ (reps 0 (D + 1) (by omega) b0)
      · exact one _ (.inl rfl)
      · exact one _ (reps 1 D (by omega) b1)
      · refine one _ (.inr ⟨_, rfl, by simp; omega, fun c hc => ?_⟩)
        rcases List.mem_append.mp hc with hc | hc
        · rw [List.eq_of_mem_replicate hc]
          exact cell_int b0
        · rw [List.mem_singleton] at hc
          rw [hc]
          exact cell_int b1
      · refine ⟨_, rfl, ?_, fun y hy => fv y ?_⟩
        · unfold Zj.cutD
          rw [List.length_take, six_none, List.drop_zero, Nat.sub_zero]
          have := HT.sIx_nat (rsD (rowsOf Q)).length (rsD (rowsOf Q)).length 1
          have e1 : ((1 : Nat) : Int) = 1 := rfl
          rw [e1] at this
          omega
        · unfold Zj.cutD at hy
          exact List.mem_of_mem_drop (List.mem_of_mem_take hy)
    · subst h1
      obtain ⟨ys, rfl, hy, hys⟩ := h2
      refine ⟨_, od_catA (by rw [nD]; omega), hP _ (.inr ⟨_, rfl, fun x hx => ?_, ?_⟩)⟩
      · exact (List.mem_append.mp hx).elim (fv x) (hys x)
      · match ys, hy with
        | [], _ => exact .inl (by rw [List.append_nil, nD]; omega)
        | [y], _ => exact .inr ⟨y, rfl⟩
        | _ :: _ :: _, hy => simp at hy
  · have hq : 0 < Q.length := by
      cases Q with
      | nil => simp [rowsOf] at hne
      | cons => simp
    have nlen : (rsD (rowsOf Q)).length = Q.length := nD
    refine q_cons (qs_set (i := 4) (m := n + 2) (P := fun d => ∃ r : Int, d = .int r ∧ 0 ≤ r ∧ r < (Q.length : Int)) G (m_draw (i := 0) (b := (Q.length : Int)) C1 hgd (hr.mono (by decide)) rfl (e_is (e_callB ca_lenT (a_cons (e_var (i := 2) rfl) a_nil) T.len (by decide +kernel)) (by rw [nD])) (by omega) (by omega)) fun d hd => ?_)
    obtain ⟨at', rfl, a0, a1⟩ := hd
    obtain ⟨k, rfl⟩ : ∃ k : Nat, at' = (k : Int) := ⟨at'.toNat, by omega⟩
    have hk : k < Q.length := by omega
    have hrk : (rsD (rowsOf Q))[k]? = some (tI Q[k].2) := by
      unfold rsD rowsOf
      rw [List.map_map, List.getElem?_map, List.getElem?_eq_getElem hk] <;> rfl
    have rq := R.row Q[k] (List.getElem_mem hk)
    have bq := hb Q[k] (List.getElem_mem hk)
    generalize hrow : Q[k].2 = r at hrk rq bq
    have rl := rq.len
    refine q_cons (q_pure (R' := fun _ => False) (N' := fun ρ' => ρ' = [some .hnd, some (.dat (.int (D : Int))), some (.dat (.tuple (rsD (rowsOf Q)))), some (.dat (.int way)), some (.dat (.int (k : Int))), some (.dat (tI r)), none, none, none]) (rs_set (i := 5) (d := tI r) G (e_ixT (e_var (i := 2) rfl) (e_var (i := 4) rfl) (atI_nat hrk)) rfl) (fun ρ' e => ?_) nofun)
    subst e
    have put : ∀ x : PyData, RowP x → Pd (.tuple ((rsD (rowsOf Q)).take k ++ [x] ++ (rsD (rowsOf Q)).drop (k + 1))) := fun x hx => hP _ (.inr ⟨_, rfl, fun y hy => by
      rcases List.mem_append.mp hy with hy | hy
      · rcases List.mem_append.mp hy with hy | hy
        · exact fv y (List.mem_of_mem_take hy)
        · rw [List.mem_singleton] at hy
          rw [hy]
          exact hx
      · exact fv y (List.mem_of_mem_drop hy), .inl (by
      rw [List.length_append, List.length_append, List.length_take, List.length_drop, nD]
      show min k Q.length + 1 + (Q.length - (k + 1)) ≤ 4
      omega)⟩)
    refine q_cons (qs_if (PB := (· = (way == 3))) (mt_pure (t_cmp od_eqI (e_var (i := 3) rfl) e_int (nomark _)) rfl (Nat.le_refl _)) (fun _ => q_one (qs_ret (m_pure (e_mid (k := k) (x := tI (r.map fun x => -x)) (e_var (i := 2) rfl) (e_var (i := 2) rfl) (e_var (i := 4) rfl) (e_bin od_add (e_var (i := 4) rfl) e_int)
      (a_cons (e_is (e_callT ca_tupL (a_cons (e_lc0 (own := [("number", 8)]) (f := fName 8) (val := onInt fun x => -x) G (src_T (e_var (i := 5) rfl)) (by simp; omega) (blkOk_by (N := n__law_bent) (sc := defScope st__law_bent) (by decide +kernel))
        (fun _ _ _ _ _ => pg_name (i := 8) sc__law_bent.nd rfl (Or.inl rfl)) (tg_name (by decide)) fun d hd => ?m1) a_nil) T.tuple (by decide +kernel)) (by rw [mapI])) a_nil) (by rw [nD]; exact hk) (by rw [nD]; omega)) (put _ (row_ints (by rw [List.length_map, rl]; omega) ?m2)) (Nat.le_refl _)) fun d hd => ⟨by omega, hd⟩)) fun _ => q_nil ?_)
    case m1 =>
      obtain ⟨x, hx, rfl⟩ := mem_mapI hd
      exact ⟨_, rfl, fun s H C cl fp => e_neg (e_var (i := 8) rfl)⟩
    case m2 =>
      intro x hx
      obtain ⟨y, hy, rfl⟩ := List.mem_map.mp hx
      exact (bq y hy).neg.mono (by decide)
    refine q_cons (qs_if (PB := (· = (way == 4))) (mt_pure (t_cmp od_eqI (e_var (i := 3) rfl) e_int (nomark _)) rfl (Nat.le_refl _)) (fun _ => q_one (qs_ret (m_pure (e_mid (k := k) (x := tI (r.map fun x => 2 * x)) (e_var (i := 2) rfl) (e_var (i := 2) rfl) (e_var (i := 4) rfl) (e_bin od_add (e_var (i := 4) rfl) e_int)
      (a_cons (e_is (e_callT ca_tupL (a_cons (e_lc0 (own := [("number", 8)]) (f := fName 8) (val := onInt fun x => 2 * x) G (src_T (e_var (i := 5) rfl)) (by simp; omega) (blkOk_by (N := n__law_bent) (sc := defScope st__law_bent) (by decide +kernel))
        (fun _ _ _ _ _ => pg_name (i := 8) sc__law_bent.nd rfl (Or.inl rfl)) (tg_name (by decide)) fun d hd => ?m3) a_nil) T.tuple (by decide +kernel)) (by rw [mapI])) a_nil) (by rw [nD]; exact hk) (by rw [nD]; omega)) (put _ (row_ints (by rw [List.length_map, rl]; omega) ?m4)) (Nat.le_refl _)) fun d hd => ⟨by omega, hd⟩)) fun _ => q_nil ?_)
    case m3 =>
      obtain ⟨x, hx, rfl⟩ := mem_mapI hd
      exact ⟨_, rfl, fun s H C cl fp => e_bin (od_mul (mul_ok (show Bits 10 (2 : Int) from show (2 : Nat) < 2 ^ 10 by decide) (bq x hx) (by decide))) e_int (e_var (i := 8) rfl)⟩
    case m4 =>
      intro x hx
      obtain ⟨y, hy, rfl⟩ := List.mem_map.mp hx
      exact (Bits.mul (show Bits 2 (2 : Int) from show (2 : Nat) < 2 ^ 2 by decide) (bq y hy)).mono (by decide)
    refine q_cons (qs_set (i := 6) (m := n + 1) (P := fun d => ∃ r : Int, d = .int r ∧ 0 ≤ r ∧ r < (D : Int) + 1) G (m_draw (i := 0) (b := (D : Int) + 1) C1 hgd (hr.mono (by decide)) rfl (e_bin od_add (e_var (i := 1) rfl) e_int) (by omega) (by omega)) fun d hd => ?_)
    obtain ⟨sp, rfl, s0, s1⟩ := hd
    obtain ⟨j, rfl⟩ : ∃ j : Nat, sp = (j : Int) := ⟨sp.toNat, by omega⟩
    have hj : j < (r.map PyData.int).length := by rw [List.length_map, rl]; omega
    have rc : ∀ c ∈ r.map PyData.int, Cell c := fun c hc => by
      obtain ⟨x, hx, rfl⟩ := mem_mapI hc
      exact cell_int ((bq x hx).mono (by decide))
    refine q_cons (qs_set (i := 7) (m := n) (P := fun d => ∃ x, d = .tuple ((r.map PyData.int).take j ++ [x] ++ (r.map PyData.int).drop (j + 1)) ∧ Cell x) G
      (m_bin (m := n) (P1 := fun d => ∃ x, d = .tuple ((r.map PyData.int).take j ++ [x]) ∧ Cell x) (P2 := fun _ d => d = .tuple ((r.map PyData.int).drop (j + 1)))
        (m_bin (m := n + 1) (P1 := fun d => d = .tuple ((r.map PyData.int).take j)) (P2 := fun _ d => ∃ x, d = .tuple [x] ∧ Cell x) (m_pure (e_is (e_slA (e_var (i := 5) rfl) o_non (o_int (e_var (i := 6) rfl))) (by rw [cut_take _ (by omega)])) rfl (Nat.le_refl _))
          (fun _ _ => m_tup (ma_cons (m := n) (P := Cell) (m_call (i := 0) (ds := [.list [.int 0, .int 1, .none, .bool true, .str "0"]]) C2 hgd (hr.mono (by decide)) rfl (a_cons (e_lst (a_cons e_int (a_cons e_int (a_cons e_non (a_cons e_bl (a_cons e_str a_nil)))))) a_nil) ⟨_, rfl, by simp, by simp, fun d hd => ?_⟩ (Nat.le_refl _)) fun _ _ => ma_nil (Nat.le_refl _)) fun ds hds => ?_) fun d1 d2 h1 h2 => ?_)
        (fun _ _ => m_pure (e_is (e_slA (e_var (i := 5) rfl) (o_int (e_bin od_add (e_var (i := 6) rfl) e_int)) o_non) (by rw [show (j : Int) + 1 = ((j + 1 : Nat) : Int) by omega, cut_drop _ (by omega)])) rfl (Nat.le_refl _)) fun d1 d2 h1 h2 => ?_) fun d hd => ?_)
    · simp only [List.mem_cons, List.not_mem_nil, or_false] at hd
      rcases hd with rfl | rfl | rfl | rfl | rfl
      · exact cell_int (Nat.two_pow_pos _)
      · exact cell_int (show (1 : Nat) < 2 ^ 150 by decide)
      · exact .inr (.inl rfl)
      · exact .inr (.inr (.inl rfl))
      · exact .inr (.inr (.inr rfl))
    · obtain ⟨x, _, rfl, hx, rfl⟩ := hds
      exact ⟨by simp, x, rfl, hx⟩
    · subst h1
      obtain ⟨x, rfl, hx⟩ := h2
      exact ⟨_, od_catA (by rw [List.length_take]; show min j _ + 1 ≤ 100000; omega), x, rfl, hx⟩
    · obtain ⟨x, rfl, hx⟩ := h1
      subst h2
      refine ⟨_, od_catA ?_, x, rfl, hx⟩
      rw [List.length_append, List.length_take, List.length_drop]
      have : (r.map PyData.int).length ≤ 5 := by rw [List.length_map, rl]; omega
      show min j _ + 1 + _ ≤ 100000
      omega
    · obtain ⟨x, rfl, hx⟩ := hd
      refine q_one (qs_ret (m_pure (e_mid (k := k) (e_var (i := 2) rfl) (e_var (i := 2) rfl) (e_var (i := 4) rfl) (e_bin od_add (e_var (i := 4) rfl) e_int) (a_cons (e_var (i := 7) rfl) a_nil) (by rw [nD]; exact hk) (by rw [nD]; omega)) (put _ (.inr ⟨_, rfl, ?_, fun c hc => ?_⟩)) (Nat.le_refl _)) fun d hd => ⟨by omega, hd⟩)
      · rw [List.length_append, List.length_append, List.length_take, List.length_drop]
        have : (r.map PyData.int).length ≤ 5 := by rw [List.length_map, rl]; omega
        show min j _ + 1 + _ ≤ 5
        omega
      · rcases List.mem_append.mp hc with hc | hc
        · rcases List.mem_append.mp hc with hc | hc
          · exact rc c (List.mem_of_mem_take hc)
          · rw [List.mem_singleton] at hc
            rw [hc]
            exact hx
        · exact rc c (List.mem_of_mem_drop hc)
end
end K4
/-! By hand. -/
namespace K4
open PySem PySem.Spec PyProof.Rows L2 Zj
variable [Nm]
/-- short data, told by a look -/
def smD : Nat → PyData → Bool
  | _, .int i => decide (i.natAbs < 1024)
  | _, .none => true
  | _, .bool _ => true
  | n + 1, .tuple ds => decide (ds.length ≤ 10) && ds.all (smD n)
  | n + 1, .list ds => decide (ds.length ≤ 10) && ds.all (smD n)
  | _, _ => false
def smB : Nat → Nat
  | 0 => 0
  | n + 1 => (smB n + 1) * 10
theorem smB_up : ∀ n, smB n ≤ smB (n + 1) := fun n => by
  show smB n ≤ (smB n + 1) * 10
  omega
theorem sm_tam : ∀ (n : Nat) (d : PyData), smD n d = true → Tam (smB n) n d
  | 0, .int i, h => tam_int (Bits.mono (m := 10) (bits_abs (by simpa [smD] using h)) (by decide))
  | n + 1, .int i, h => (tam_int (Bits.mono (m := 10) (bits_abs (by simpa [smD] using h)) (by decide))).mono (Nat.zero_le _) (Nat.zero_le _)
  | 0, .none, _ => tam_non
  | n + 1, .none, _ => tam_non.mono (Nat.zero_le _) (Nat.zero_le _)
  | 0, .bool _, _ => tam_bool
  | n + 1, .bool _, _ => tam_bool.mono (Nat.zero_le _) (Nat.zero_le _)
  | n + 1, .tuple ds, h => by
    have h' : (decide (ds.length ≤ 10) && ds.all (smD n)) = true := h
    rw [Bool.and_eq_true] at h'
    exact tam_tup (fun d hd => sm_tam n d (List.all_eq_true.mp h'.2 d hd)) (of_decide_eq_true h'.1)
  | n + 1, .list ds, h => by
    have h' : (decide (ds.length ≤ 10) && ds.all (smD n)) = true := h
    rw [Bool.and_eq_true] at h'
    exact tam_lst (fun d hd => sm_tam n d (List.all_eq_true.mp h'.2 d hd)) (of_decide_eq_true h'.1)
theorem sm_tame {d : PyData} (h : smD 3 d = true) : Tame d := (sm_tam 3 d h).tame (by decide) (by decide)
/-- short rows, told by a look -/
def okR (D : Nat) (rows : List (List Int)) : Bool := decide (rows.length ≤ 5) && rows.all fun r => r.length == D + 1 && r.all fun x => decide (x.natAbs < 256)
theorem okR_all {D : Nat} {rows : List (List Int)} (h : okR D rows = true) : rows.length ≤ 5 ∧ (∀ r ∈ rows, r.length = D + 1) ∧ (∀ r ∈ rows, BitsL 8 r) ∧ Bd (D + 1) rows := by
  unfold okR at h
  rw [Bool.and_eq_true] at h
  have h1 := of_decide_eq_true h.1
  have h2 : ∀ r ∈ rows, r.length = D + 1 := fun r hr => by
    have := List.all_eq_true.mp h.2 r hr
    rw [Bool.and_eq_true] at this
    simpa using this.1
  have h3 : ∀ r ∈ rows, BitsL 8 r := fun r hr x hx => by
    have := List.all_eq_true.mp h.2 r hr
    rw [Bool.and_eq_true] at this
    exact of_decide_eq_true (List.all_eq_true.mp this.2 x hx)
  exact ⟨h1, h2, h3, bd5 h2 h3 h1⟩
theorem flatPD_is {D : Nat} {rows l : List (List Int)} (h1 : isNo D (redL (D + 1) rows) = false) (h2 : rowsOf (redL (D + 1) rows) = l) : flatPD D rows = .tuple (rsD l) := by
  unfold flatPD
  rw [if_neg (by rw [h1]; exact Bool.false_ne_true), h2] <;> rfl
theorem flatPD_no {D : Nat} {rows : List (List Int)} (h1 : isNo D (redL (D + 1) rows) = true) : flatPD D rows = .none := by
  unfold flatPD
  rw [if_pos h1]
theorem r_of {D : Nat} {rows : List (List Int)} (h : okR D rows = true) (hD : 1 ≤ D) (hD4 : D ≤ 4) : R_flat [.int (D : Int), .tuple (rsD rows)] (flatPD D rows) := by
  obtain ⟨h1, h2, h3, h4⟩ := okR_all h
  exact ⟨D, rows, rfl, hD, hD4, by omega, h2, h4, rfl⟩
theorem r_meet {D : Nat} {x y : List (List Int)} (h : okR D (x ++ y) = true) (hD : 1 ≤ D) (hD4 : D ≤ 4) : R_meet [.int (D : Int), .tuple (rsD x), .tuple (rsD y)] (flatPD D (x ++ y)) := by
  obtain ⟨h1, h2, h3, h4⟩ := okR_all h
  exact ⟨D, x, y, rfl, hD, hD4, by omega, h2, h4, rfl⟩
theorem r_in {D : Nat} {x y : List (List Int)} (h : okR D (x ++ y) = true) (hD : 1 ≤ D) (hD4 : D ≤ 4) : R_in [.int (D : Int), .tuple (rsD x), .tuple (rsD y)] (.bool (PyData.eqv (flatPD D (x ++ y)) (.tuple (rsD x)))) := by
  obtain ⟨h1, h2, h3, h4⟩ := okR_all h
  exact ⟨D, x, y, rfl, hD, hD4, by omega, h2, h4, rfl⟩
/-- rows that are their own reduced ones -/
def okQ (D : Nat) (rows : List (List Int)) : Bool := okR D rows && (!isNo D (redL (D + 1) rows) && decide (rowsOf (redL (D + 1) rows) = rows))
theorem okQ_all {D : Nat} {rows : List (List Int)} (h : okQ D rows = true) : Red (D + 1) (redL (D + 1) rows) ∧ (∀ q ∈ redL (D + 1) rows, q.1 + 1 < D + 1) ∧ (∀ q ∈ redL (D + 1) rows, BitsL 150 q.2) ∧ rowsOf (redL (D + 1) rows) = rows ∧ okR D rows = true := by
  unfold okQ at h
  rw [Bool.and_eq_true, Bool.and_eq_true] at h
  obtain ⟨h1, h2, h3⟩ := h
  obtain ⟨g1, g2, g3, g4⟩ := okR_all h1
  have e := of_decide_eq_true h3
  refine ⟨(redL_ok g2).1, fun q hq => ?_, fun q hq => (g3 q.2 ?_).mono (by decide), e, h1⟩
  · have lt := redL_lt g2 q hq
    have : isNo D (redL (D + 1) rows) = false := by simpa using h2
    unfold isNo at this
    rw [List.any_eq_false] at this
    have := this q hq
    have : q.1 ≠ D := by simpa using this
    omega
  · rw [← e]
    exact List.mem_map.mpr ⟨q, hq, rfl⟩
theorem r_pt {D : Nat} {rows : List (List Int)} (h : okQ D rows = true) (hD : 1 ≤ D) (hD4 : D ≤ 4) : R_fpt [.int (D : Int), .tuple (rsD rows)] (tI (ptC (crd D (redL (D + 1) rows)))) := by
  obtain ⟨h1, h2, h3, h4, _⟩ := okQ_all h
  exact ⟨D, redL (D + 1) rows, by rw [h4], hD, hD4, h1, h2, h3, rfl⟩
theorem r_di {D : Nat} {rows : List (List Int)} (h : okQ D rows = true) (hD : 1 ≤ D) (hD4 : D ≤ 4) : R_fdir [.int (D : Int), .tuple (rsD rows)] (.tuple (rsD (waysN D (redL (D + 1) rows)))) := by
  obtain ⟨h1, h2, h3, h4, _⟩ := okQ_all h
  exact ⟨D, redL (D + 1) rows, by rw [h4], hD, hD4, h1, h2, h3, rfl⟩
theorem v1 : flatPD 2 [] = .tuple (rsD []) := flatPD_is (by decide +kernel) (by decide +kernel)
theorem v2 : flatPD 2 [[0, 0, 0]] = .tuple (rsD []) := flatPD_is (by decide +kernel) (by decide +kernel)
theorem v3 : flatPD 2 [[0, 0, 1]] = .none := flatPD_no (by decide +kernel)
theorem v4 : flatPD 2 [[2, 4, 6], [1, 2, 3]] = .tuple (rsD [[1, 2, 3]]) := flatPD_is (by decide +kernel) (by decide +kernel)
theorem v5 : flatPD 2 [[1, 1, 0], [1, -1, 4]] = .tuple (rsD [[1, 0, 2], [0, 1, -2]]) := flatPD_is (by decide +kernel) (by decide +kernel)
theorem v6 : flatPD 3 [[0, 2, 0, -3], [3, 1, 0, 0]] = .tuple (rsD [[2, 0, 0, 1], [0, 2, 0, -3]]) := flatPD_is (by decide +kernel) (by decide +kernel)
theorem v7 : waysN 3 (redL 4 [[1, 0, 2, 5]]) = [[0, 1, 0], [-2, 0, 1]] := by decide +kernel
theorem v8 : ptC (crd 2 (redL 3 [[2, 3, 5]])) = [-5, 0, 2] := by decide +kernel
theorem v9 : flatPD 2 ([[1, 0, 0]] ++ [[1, 0, 1]]) = .none := flatPD_no (by decide +kernel)
theorem v10 : flatPD 2 ([[1, 0, 0]] ++ []) = .tuple (rsD [[1, 0, 0]]) := flatPD_is (by decide +kernel) (by decide +kernel)
theorem v11 : flatPD 1 [[2, 0]] = .tuple (rsD [[1, 0]]) := flatPD_is (by decide +kernel) (by decide +kernel)
theorem v12 : flatPD 1 ([[1, 0]] ++ []) = .tuple (rsD [[1, 0]]) := flatPD_is (by decide +kernel) (by decide +kernel)
theorem v13 : ptC (crd 1 (redL 2 [])) = [0, 1] := by decide +kernel
theorem v14 : waysN 1 (redL 2 []) = [[1]] := by decide +kernel
/-! three names -/
def turn3 (fl : Bool) {α : Type} : List α → List α
  | [x, y, z] => if fl then [z, y, x] else [z, x, y]
  | l => l
def gK3 (fl : Bool) {α : Type} (us ws : List α) : List α := match us with
  | [] => turn3 fl ws
  | _ => []
theorem turn3_len {fl : Bool} {α : Type} (l : List α) : (turn3 fl l).length = l.length := by
  unfold turn3
  split
  · cases fl <;> rfl
  · rfl
theorem turn3_vals {fl : Bool} {vs : List V} {us : List Value} (r : Vals vs us) : Vals (turn3 fl vs) (turn3 fl us) := by
  unfold turn3
  cases r with
  | nil => exact .nil
  | cons a r =>
    cases r with
    | nil => exact .cons a .nil
    | cons b r =>
      cases r with
      | nil => exact .cons a (.cons b .nil)
      | cons c r =>
        cases r with
        | nil =>
          cases fl
          · exact .cons c (.cons a (.cons b .nil))
          · exact .cons c (.cons b (.cons a .nil))
        | cons d r => exact .cons a (.cons b (.cons c (.cons d r)))
theorem turn3_dps {fl : Bool} {K : PySem.W.Frag} {H : Hp} {vs : List V} {ds : List PyData} (r : DpAll K H vs ds) : DpAll K H (turn3 fl vs) (turn3 fl ds) := by
  unfold turn3
  cases r with
  | nil => exact .nil
  | cons a r =>
    cases r with
    | nil => exact .cons a .nil
    | cons b r =>
      cases r with
      | nil => exact .cons a (.cons b .nil)
      | cons c r =>
        cases r with
        | nil =>
          cases fl
          · exact .cons c (.cons a (.cons b .nil))
          · exact .cons c (.cons b (.cons a .nil))
        | cons d r => exact .cons a (.cons b (.cons c (.cons d r)))
theorem e_callK3 {X : Cx} {a : Addr} {ρ : Rho} {p pos : Pos} {kws : List Keyword} {ds : List PyData} {d : PyData} {lv : Nat} {x : Str} {st : Stmt} {ps ks : List Str} {R : List PyData → PyData → Prop} (fl : Bool) (hne : ps ≠ []) (C : CalK X.prog X.w X.K X.mg X.base lv x st ps (spR X.K R)) (hr : Room lv X.A) (ha : EvK X a kws ρ ds) (hR : R (turn3 fl ds) d)
    (hb : ∀ (kV doc pm : Value) (an : Option Addr) (cdv ct : Value) (ws : List Value), ws.length = ps.length → bindArgs (PySem.W.fnOf x x (defArgs st) (defBody st) (defScope st) .none kV doc pm an cdv ct) ⟨[], ks.zip ws⟩ = pure (ps.zip (turn3 fl ws)))
    (hg : Gl X x := by rfl) (hall : (backToKw pos (keywordEach kws X.env)).all (·.1.isSome) = true := by rfl) (hks : (backToKw pos (keywordEach kws X.env)).filterMap (·.1) = ks := by rfl)
    (hdb : (x == ("__debug__" : Str)) = false := by decide) (hpl : ((backTo pos (starEach [] X.env)).any (·.1) || (backToKw pos (keywordEach kws X.env)).any (·.1.isNone)) = false := by rfl) :
    EvE X a (.Call (.Name x p) [] kws pos) ρ d := fun T σ H S Q q => by
  obtain ⟨f, fd, F, FO, hm⟩ := C.ex
  have hk := F.kp
  obtain ⟨oc, od, kV, doc, pm, an, cdv, ct, osl, rfl, lk, hcd⟩ := F.ex
  have KB : KBinds X.K (PySem.W.fnOf x x (defArgs st) (defBody st) (defScope st) .none kV doc pm an cdv ct) ps ks (gK3 fl) (gK3 fl) := {
    to := fun s us ws _ hl => by
      cases us with
      | nil => exact .of_eq (hb kV doc pm an cdv ct ws (by rw [← hl]; exact (turn3_len ws).symm))
      | cons u us =>
        cases ps with
        | nil => exact (hne rfl).elim
        | cons _ _ => cases hl
    rel := fun {vs us zs ws} r rz => by
      cases r with
      | nil => exact turn3_vals rz
      | cons _ _ => exact .nil }
  exact toE (pe_callK0 (E := E0) FO hr hg hm hk KB pass0 jk hall hks hdb hpl) (ha T σ H S _ fun vs H1 s1 p1 => ⟨T, _, d, S.dm.same s1, turn3_dps p1, hR, fun v H2 s2 p2 => q v H2 (s1.trans s2) p2⟩)
end K4
/-! By hand. -/
namespace K4
open PySem PySem.Spec PyProof.Rows L2 Zj
variable [Nm]
theorem kbA {f : Str} {st : Stmt} {a b : Str} (e : ∀ (kV doc pm : Value) (an : Option Addr) (cdv ct u v : Value), bindArgs (PySem.W.fnOf f f (defArgs st) (defBody st) (defScope st) .none kV doc pm an cdv ct) ⟨[], [(a, u), (b, v)]⟩ = pure [(a, u), (b, v)])
    (kV doc pm : Value) (an : Option Addr) (cdv ct : Value) (ws : List Value) (hl : ws.length = ([a, b] : List Str).length) : bindArgs (PySem.W.fnOf f f (defArgs st) (defBody st) (defScope st) .none kV doc pm an cdv ct) ⟨[], ([a, b] : List Str).zip ws⟩ = pure (([a, b] : List Str).zip (turn2 false ws)) := by
  match ws, hl with
  | [u, v], _ => exact e kV doc pm an cdv ct u v
theorem kbB {f : Str} {st : Stmt} {a b : Str} (e : ∀ (kV doc pm : Value) (an : Option Addr) (cdv ct u v : Value), bindArgs (PySem.W.fnOf f f (defArgs st) (defBody st) (defScope st) .none kV doc pm an cdv ct) ⟨[], [(b, u), (a, v)]⟩ = pure [(a, v), (b, u)])
    (kV doc pm : Value) (an : Option Addr) (cdv ct : Value) (ws : List Value) (hl : ws.length = ([a, b] : List Str).length) : bindArgs (PySem.W.fnOf f f (defArgs st) (defBody st) (defScope st) .none kV doc pm an cdv ct) ⟨[], ([b, a] : List Str).zip ws⟩ = pure (([a, b] : List Str).zip (turn2 true ws)) := by
  match ws, hl with
  | [u, v], _ => exact e kV doc pm an cdv ct u v
theorem kbC {f : Str} {st : Stmt} {a b c : Str} (e : ∀ (kV doc pm : Value) (an : Option Addr) (cdv ct u v z : Value), bindArgs (PySem.W.fnOf f f (defArgs st) (defBody st) (defScope st) .none kV doc pm an cdv ct) ⟨[], [(b, u), (c, v), (a, z)]⟩ = pure [(a, z), (b, u), (c, v)])
    (kV doc pm : Value) (an : Option Addr) (cdv ct : Value) (ws : List Value) (hl : ws.length = ([a, b, c] : List Str).length) : bindArgs (PySem.W.fnOf f f (defArgs st) (defBody st) (defScope st) .none kV doc pm an cdv ct) ⟨[], ([b, c, a] : List Str).zip ws⟩ = pure (([a, b, c] : List Str).zip (turn3 false ws)) := by
  match ws, hl with
  | [u, v, z], _ => exact e kV doc pm an cdv ct u v z
theorem kbD {f : Str} {st : Stmt} {a b c : Str} (e : ∀ (kV doc pm : Value) (an : Option Addr) (cdv ct u v z : Value), bindArgs (PySem.W.fnOf f f (defArgs st) (defBody st) (defScope st) .none kV doc pm an cdv ct) ⟨[], [(c, u), (b, v), (a, z)]⟩ = pure [(a, z), (b, v), (c, u)])
    (kV doc pm : Value) (an : Option Addr) (cdv ct : Value) (ws : List Value) (hl : ws.length = ([a, b, c] : List Str).length) : bindArgs (PySem.W.fnOf f f (defArgs st) (defBody st) (defScope st) .none kV doc pm an cdv ct) ⟨[], ([c, b, a] : List Str).zip ws⟩ = pure (([a, b, c] : List Str).zip (turn3 true ws)) := by
  match ws, hl with
  | [u, v, z], _ => exact e kV doc pm an cdv ct u v z
def tp (l : List (List Int)) : PyData := .tuple (rsD l)
def tA : List PyData := [tp [], tp [], .none, tp [[1, 2, 3]]]
def tB : List PyData := [tp [[1, 0, 2], [0, 1, -2]], tp [[2, 0, 0, 1], [0, 2, 0, -3]]]
def tC : List PyData := [tI [-5, 0, 2], .none, .bool true]
def tD : List PyData := [tp [[1, 0]], tp [[1, 0]], .int 3]
def tE : List PyData := [.bool true, tp [[1, 0]], tI [0, 1]]
def tF : PyData := tp [[1]]
def tW : PyData := tp [[0, 1, 0], [-2, 0, 1]]
theorem tame_AB : Tame (.list (tA ++ tB)) := sm_tame (by decide +kernel)
theorem tame_W : Tame tW := sm_tame (by decide +kernel)
theorem tame_CF : Tame (.list (tC ++ tD ++ tE ++ [tF])) := sm_tame (by decide +kernel)
section
variable {P : Program} {w : World} {K : PySem.W.Frag} {mg : Str → Option Value} {base : Heap} {f : Addr} {fd : FuncData}
def R_hand (ds : List PyData) (d : PyData) : Prop := ds = [] ∧ d = .bool true
abbrev XH (P : Program) (w : World) (K : PySem.W.Frag) (mg : Str → Option Value) (base : Heap) (f : Addr) (cdv : Value) (A : Around) (outer : List Env) (s : Shared) (H : Hp) (E : XK) : Cx := (cxOf CX0 P w K mg base n__law_hand_right "_law_hand_right" (defScope st__law_hand_right) f cdv A outer s H E).nox
abbrev HRun (P : Program) (w : World) (K : PySem.W.Frag) (mg : Str → Option Value) (base : Heap) (f : Addr) (cdv : Value) (A : Around) (outer : List Env) (s : Shared) (H : Hp) (E : XK) (n : Nat) (ρ : Rho) : Prop := Zj.Run (XH P w K mg base f cdv A outer s H E) 0 ((defBody st__law_hand_right).drop n) ρ (fun _ => PyData.bool true = .none) (fun d => d = .bool true)
@[irreducible] def HR (P : Program) (w : World) (K : PySem.W.Frag) (mg : Str → Option Value) (base : Heap) (f : Addr) (cdv : Value) (A : Around) (outer : List Env) (s : Shared) (H : Hp) (E : XK) (n : Nat) (ρ : Rho) : Prop := HRun P w K mg base f cdv A outer s H E n ρ
variable {cdv : Value} {A : Around} {outer : List Env} {s : Shared} {H : Hp} {E : XK} {x y z : Option DV}
theorem hdG {t : PyData} (ht : PyData.list (tC ++ tD ++ tE ++ [tF]) = t) (tt : Tame t) (G : Good (XH P w K mg base f cdv A outer s H E)) (hr : Room 7 (XH P w K mg base f cdv A outer s H E).A) (hgd : (XH P w K mg base f cdv A outer s H E).A.guards = some []) (CL : CalG P w K mg base 1 "_law_like" ["told", "due"] (spR K R_like)) : HR P w K mg base f cdv A outer s H E 8 [some (.dat t), y] := by
  unfold HR
  refine r_one (rs_ret (d := .bool true) ?_ rfl)
  with_reducible refine e_callG (lv := 1) (ps := ["told", "due"]) (R := R_like) (ds := [t, t]) ?cl ?hgd ?hr ?ar ?hR ?g ?db ?st ?pl
  case cl => exact CL
  case hR => exact ⟨t, rfl, tt, rfl⟩
  case hgd => exact hgd
  case hr => exact hr.mono (by decide)
  case ar => exact a_cons (e_var (i := 0) rfl) (a_cons (e_is (e_c (d := .list (tC ++ tD ++ tE ++ [tF])) (by decide +kernel)) ht) a_nil)
  case g => rfl
  case db => decide
  case st => exact star_of rfl
  case pl => exact star_no rfl
theorem few_bits {l : List Int} (h : (l.all fun x => decide (x.natAbs < 2 ^ 10)) = true) : BitsL 8000 l := fun x hx => Bits.mono (m := 10) (of_decide_eq_true (List.all_eq_true.mp h x hx)) (by decide)
theorem r_on10 : R_on [tp [[1, 0]], tI [0, 1]] (.bool true) := ⟨[[1, 0]], [0, 1], rfl, by decide, fun r hr => by
  have hr : r = [1, 0] := by simpa using hr
  subst hr
  exact ⟨by decide, few_bits (by decide +kernel)⟩, few_bits (by decide +kernel), rfl⟩
theorem r_ch10 : R_chf [.int 1, tp [[1, 0]]] (.ok (tp [[1, 0]])) := by
  have hn : (rsD [[1, 0]]).findIdx? (badR 1) = none := by decide +kernel
  have er : rowsD (rsD [[1, 0]]) = [[1, 0]] := by decide +kernel
  refine ⟨1, tp [[1, 0]], rfl, by decide, by decide, fun xs e => ?_, ?_⟩
  · have e : rsD [[1, 0]] = xs := by injection e
    subst e
    refine ⟨by decide, fun x hx ys ey => ?_, fun _ => ?_⟩
    · obtain ⟨r, hr, rfl⟩ := rsD_mem hx
      have hr : r = [1, 0] := by simpa using hr
      subst hr
      have ey : [PyData.int 1, .int 0] = ys := by injection ey
      subst ey
      decide
    rw [er]
    exact (okR_all (D := 1) (rows := [[1, 0]]) (by decide +kernel)).2.2.2
  · show _ = chO 1 (.tuple (rsD [[1, 0]]))
    rw [chO_good hn, er, show flatPD 1 [[1, 0]] = .tuple (rsD [[1, 0]]) from flatPD_is (by decide +kernel) (by decide +kernel), eqv_rs, if_pos (by decide +kernel)]
    rfl
theorem hdF (G : Good (XH P w K mg base f cdv A outer s H E)) (hr : Room 7 (XH P w K mg base f cdv A outer s H E).A) (K5 : CalK P w K mg base 3 "on_flat" st_on_flat ["flat", "point"] (spR K R_on)) (K6 : CalK P w K mg base 6 "flat_meet" st_flat_meet ["dimension", "flat", "other"] (spR K R_meet)) (K7 : CalK P w K mg base 4 "flat_point" st_flat_point ["dimension", "flat"] (spR K R_fpt)) (K8 : CalK P w K mg base 4 "flat_directions" st_flat_directions ["dimension", "flat"] (spR K R_fdir))
    (next : HR P w K mg base f cdv A outer s H E 8 [some (.dat (.list (tC ++ tD ++ tE ++ [tF]))), y]) : HR P w K mg base f cdv A outer s H E 6 [some (.dat (.list (tC ++ tD))), y] := by
  unfold HR
  refine r_new (i := 0) (ds := tC ++ tD ++ tE) G (f_cat (ds := tC ++ tD) (fs := tE) (e_var (i := 0) rfl) (e_lst (ds := tE)
    (a_cons (e_callK (d := .bool true) (ds := [tp [[1, 0]], tI [0, 1]]) (ks := ["flat", "point"]) false (by decide) K5 (hr.mono (by decide)) (k_cons (e_c (by decide +kernel)) (k_cons (e_c (by decide +kernel)) k_nil)) r_on10 (kbA fun _ _ _ _ _ _ _ _ => rfl))
    (a_cons (e_is (e_callK3 (ds := [tp [], tp [[1, 0]], .int 1]) (ks := ["other", "flat", "dimension"]) true (by decide) K6 (hr.mono (by decide)) (k_cons (e_c (by decide +kernel)) (k_cons (e_c (by decide +kernel)) (k_cons (e_c (by decide +kernel)) k_nil))) (r_meet (D := 1) (x := [[1, 0]]) (y := []) (by decide +kernel) (by decide) (by decide)) (kbD fun _ _ _ _ _ _ _ _ _ => rfl)) v12)
    (a_cons (e_is (e_callK (ds := [tp [], .int 1]) (ks := ["flat", "dimension"]) true (by decide) K7 (hr.mono (by decide)) (k_cons (e_c (by decide +kernel)) (k_cons (e_c (by decide +kernel)) k_nil)) (r_pt (D := 1) (rows := []) (by decide +kernel) (by decide) (by decide)) (kbB fun _ _ _ _ _ _ _ _ => rfl)) (congrArg tI v13)) a_nil))) (by decide)) (by decide)) (show (0 : Nat) < 2 by decide) ?_
  refine l_cons (ls_append (d := tF) (fun p => e_is (e_callK (ds := [.int 1, tp []]) (ks := ["dimension", "flat"]) false (by decide) K8 (hr.mono (by decide)) (k_cons (e_c (by decide +kernel)) (k_cons (e_c (by decide +kernel)) k_nil)) (r_di (D := 1) (rows := []) (by decide +kernel) (by decide) (by decide)) (kbA fun _ _ _ _ _ _ _ _ => rfl)) (congrArg tp v14)) ?_ (by decide))
  refine l_free ?_
  unfold HR at next
  assumption
theorem hdE (G : Good (XH P w K mg base f cdv A outer s H E)) (hr : Room 7 (XH P w K mg base f cdv A outer s H E).A) (K2 : CalK P w K mg base 5 "flat_of" st_flat_of ["dimension", "rows"] (spR K R_flat)) (K3 : CalXK P w K mg base 6 "check_flat" st_check_flat ["dimension", "value"] (spX K mg R_chf)) (K4 : CalK P w K mg base 1 "flat_dimension" st_flat_dimension ["dimension", "flat"] (spR K R_fdim))
    (next : HR P w K mg base f cdv A outer s H E 6 [some (.dat (.list (tC ++ tD))), y]) : HR P w K mg base f cdv A outer s H E 5 [some (.dat (.list tC)), y] := by
  unfold HR
  refine r_cons (rs_set (i := 0) (d := .list (tC ++ tD)) G (e_bin (od_catL (es := tC) (fs := tD) (by decide)) (e_var (i := 0) rfl) (e_lst (ds := tD)
    (a_cons (e_is (e_callK (ds := [tp [[2, 0]], .int 1]) (ks := ["rows", "dimension"]) true (by decide) K2 (hr.mono (by decide)) (k_cons (e_c (by decide +kernel)) (k_cons (e_c (by decide +kernel)) k_nil)) (r_of (D := 1) (rows := [[2, 0]]) (by decide +kernel) (by decide) (by decide)) (kbB fun _ _ _ _ _ _ _ _ => rfl)) v11)
    (a_cons (e_callXK (d := tp [[1, 0]]) (ds := [.int 1, tp [[1, 0]]]) (ks := ["dimension", "value"]) false (by decide) K3 (hr.mono (by decide)) (k_cons (e_c (by decide +kernel)) (k_cons (e_c (by decide +kernel)) k_nil)) ?chk (kbA fun _ _ _ _ _ _ _ _ => rfl))
    (a_cons (e_callK (d := .int 3) (ds := [tp [], .int 3]) (ks := ["flat", "dimension"]) true (by decide) K4 (hr.mono (by decide)) (k_cons (e_c (by decide +kernel)) (k_cons (e_c (by decide +kernel)) k_nil)) ⟨3, [], rfl, rfl⟩ (kbB fun _ _ _ _ _ _ _ _ => rfl)) a_nil))) (by decide))) ?nx)
  case nx =>
    unfold HR at next
    assumption
  case chk => exact r_ch10
theorem hdD (G : Good (XH P w K mg base f cdv A outer s H E)) (hr : Room 7 (XH P w K mg base f cdv A outer s H E).A) (C1 : Cal P w K mg base 4 "flat_point" ["dimension", "flat"] (spR K R_fpt)) (C2 : Cal P w K mg base 6 "flat_meet" ["dimension", "flat", "other"] (spR K R_meet)) (K1 : CalK P w K mg base 7 "flat_in" st_flat_in ["dimension", "flat", "other"] (spR K R_in))
    (next : HR P w K mg base f cdv A outer s H E 5 [some (.dat (.list tC)), y]) : HR P w K mg base f cdv A outer s H E 4 [x, y] := by
  unfold HR
  refine r_cons (rs_set (i := 0) (d := .list tC) G (e_lst (ds := tC)
    (a_cons (e_is (e_call C1 (hr.mono (by decide)) (a_c (ds := [.int 2, tp [[2, 3, 5]]]) (by decide +kernel)) (r_pt (D := 2) (rows := [[2, 3, 5]]) (by decide +kernel) (by decide) (by decide))) (congrArg tI v8))
    (a_cons (e_is (e_call C2 (hr.mono (by decide)) (a_c (ds := [.int 2, tp [[1, 0, 0]], tp [[1, 0, 1]]]) (by decide +kernel)) (r_meet (D := 2) (x := [[1, 0, 0]]) (y := [[1, 0, 1]]) (by decide +kernel) (by decide) (by decide))) v9)
    (a_cons (e_is (e_callK3 (ds := [tp [[1, 0, 0]], tp [], .int 2]) (ks := ["flat", "other", "dimension"]) false (by decide) K1 (hr.mono (by decide)) (k_cons (e_c (by decide +kernel)) (k_cons (e_c (by decide +kernel)) (k_cons (e_c (by decide +kernel)) k_nil))) (r_in (D := 2) (x := [[1, 0, 0]]) (y := []) (by decide +kernel) (by decide) (by decide)) (kbC fun _ _ _ _ _ _ _ _ _ => rfl)) (by rw [v10, eqv_rs] <;> rfl)) a_nil))) (by decide)) ?nx)
  case nx =>
    unfold HR at next
    assumption
theorem hdC (G : Good (XH P w K mg base f cdv A outer s H E)) (hr : Room 7 (XH P w K mg base f cdv A outer s H E).A) (hgd : (XH P w K mg base f cdv A outer s H E).A.guards = some []) (CL : CalG P w K mg base 1 "_law_like" ["told", "due"] (spR K R_like)) (CD : Cal P w K mg base 4 "flat_directions" ["dimension", "flat"] (spR K R_fdir)) {t : PyData} (ht : PyData.list (tA ++ tB) = t) (tt : Tame t)
    (next : HR P w K mg base f cdv A outer s H E 4 [some (.dat t), some (.dat t)]) : HR P w K mg base f cdv A outer s H E 3 [some (.dat t), some (.dat t)] := by
  unfold HR
  refine r_cons (r_skip (t_or2 (b := false) (t_notlike (d := t) CL hgd (hr.mono (by decide)) (a_cons (e_var (i := 0) rfl) (a_cons (e_var (i := 1) rfl) a_nil)) tt)
    (fun _ => t_notlike (d := tW) CL hgd (hr.mono (by decide)) (a_cons (e_is (e_call CD (hr.mono (by decide)) (a_c (ds := [.int 3, tp [[1, 0, 2, 5]]]) (by decide +kernel)) (r_di (D := 3) (rows := [[1, 0, 2, 5]]) (by decide +kernel) (by decide) (by decide))) (congrArg tp v7)) (a_cons (e_c (by decide +kernel)) a_nil)) tame_W) nofun) ?nx)
  case nx =>
    unfold HR at next
    assumption
theorem hdB (G : Good (XH P w K mg base f cdv A outer s H E)) (hr : Room 7 (XH P w K mg base f cdv A outer s H E).A) (CF : Cal P w K mg base 5 "flat_of" ["dimension", "rows"] (spR K R_flat)) {t : PyData} (ht : PyData.list (tA ++ tB) = t)
    (next : HR P w K mg base f cdv A outer s H E 3 [some (.dat t), some (.dat t)]) : HR P w K mg base f cdv A outer s H E 0 [none, none] := by
  unfold HR
  refine r_cons (rs_set (i := 0) (d := .list tA) G (e_lst (ds := tA)
    (a_cons (e_is (e_call CF (hr.mono (by decide)) (a_c (ds := [.int 2, tp []]) (by decide +kernel)) (r_of (D := 2) (rows := []) (by decide +kernel) (by decide) (by decide))) v1)
    (a_cons (e_is (e_call CF (hr.mono (by decide)) (a_c (ds := [.int 2, tp [[0, 0, 0]]]) (by decide +kernel)) (r_of (D := 2) (rows := [[0, 0, 0]]) (by decide +kernel) (by decide) (by decide))) v2)
    (a_cons (e_is (e_call CF (hr.mono (by decide)) (a_c (ds := [.int 2, tp [[0, 0, 1]]]) (by decide +kernel)) (r_of (D := 2) (rows := [[0, 0, 1]]) (by decide +kernel) (by decide) (by decide))) v3)
    (a_cons (e_is (e_call CF (hr.mono (by decide)) (a_c (ds := [.int 2, tp [[2, 4, 6], [1, 2, 3]]]) (by decide +kernel)) (r_of (D := 2) (rows := [[2, 4, 6], [1, 2, 3]]) (by decide +kernel) (by decide) (by decide))) v4) a_nil)))) (by decide)) ?_)
  refine r_cons (rs_set (i := 0) (d := .list (tA ++ tB)) G (e_bin (od_catL (es := tA) (fs := tB) (by decide)) (e_var (i := 0) rfl) (e_lst (ds := tB)
    (a_cons (e_is (e_call CF (hr.mono (by decide)) (a_c (ds := [.int 2, tp [[1, 1, 0], [1, -1, 4]]]) (by decide +kernel)) (r_of (D := 2) (rows := [[1, 1, 0], [1, -1, 4]]) (by decide +kernel) (by decide) (by decide))) v5)
    (a_cons (e_is (e_call CF (hr.mono (by decide)) (a_c (ds := [.int 3, tp [[0, 2, 0, -3], [3, 1, 0, 0]]]) (by decide +kernel)) (r_of (D := 3) (rows := [[0, 2, 0, -3], [3, 1, 0, 0]]) (by decide +kernel) (by decide) (by decide))) v6) a_nil)) (by decide))) ?_)
  rw [ht]
  refine r_cons ?_
  with_reducible refine rs_set (i := 1) (d := t) G ?v ?nx ?hi ?hx ?hs ?hf
  case v =>
    with_reducible refine e_is (d := .list (tA ++ tB)) ?vh ht
    with_reducible refine e_c ?_
    decide +kernel
  case nx =>
    unfold HR at next
    assumption
  case hi => rfl
  case hx => exact Or.inl rfl
  case hf => exact .inl rfl
  case hs => rfl
theorem ok_hand (F : Fun K "_law_hand_right" "_law_hand_right" st__law_hand_right f fd) (CL : CalG P w K mg base 1 "_law_like" ["told", "due"] (spR K R_like)) (CF : Cal P w K mg base 5 "flat_of" ["dimension", "rows"] (spR K R_flat)) (CD : Cal P w K mg base 4 "flat_directions" ["dimension", "flat"] (spR K R_fdir))
    (C1 : Cal P w K mg base 4 "flat_point" ["dimension", "flat"] (spR K R_fpt)) (C2 : Cal P w K mg base 6 "flat_meet" ["dimension", "flat", "other"] (spR K R_meet)) (K1 : CalK P w K mg base 7 "flat_in" st_flat_in ["dimension", "flat", "other"] (spR K R_in))
    (K2 : CalK P w K mg base 5 "flat_of" st_flat_of ["dimension", "rows"] (spR K R_flat)) (K3 : CalXK P w K mg base 6 "check_flat" st_check_flat ["dimension", "value"] (spX K mg R_chf)) (K4 : CalK P w K mg base 1 "flat_dimension" st_flat_dimension ["dimension", "flat"] (spR K R_fdim))
    (K5 : CalK P w K mg base 3 "on_flat" st_on_flat ["flat", "point"] (spR K R_on)) (K6 : CalK P w K mg base 6 "flat_meet" st_flat_meet ["dimension", "flat", "other"] (spR K R_meet)) (K7 : CalK P w K mg base 4 "flat_point" st_flat_point ["dimension", "flat"] (spR K R_fpt)) (K8 : CalK P w K mg base 4 "flat_directions" st_flat_directions ["dimension", "flat"] (spR K R_fdir)) :
    FnG P w K mg base CX0 8 f fd [] (spR K R_hand) := by
  refine fnRG F sc__law_hand_right (fun ds d h => by obtain ⟨rfl, _⟩ := h; rfl) fun cdv A outer s H E G hr hgd ds d h' => ?_
  obtain ⟨rfl, rfl⟩ := h'
  obtain ⟨t, ht, tt⟩ : ∃ t, PyData.list (tA ++ tB) = t ∧ Tame t := ⟨_, rfl, tame_AB⟩
  obtain ⟨u, hu, tu⟩ : ∃ u, PyData.list (tC ++ tD ++ tE ++ [tF]) = u ∧ Tame u := ⟨_, rfl, tame_CF⟩
  have h9 : HR P w K mg base f cdv A outer s H E 0 [none, none] := hdB G hr CF ht (hdC G hr hgd CL CD ht tt (hdD G hr C1 C2 K1 (hdE G hr K2 K3 K4 (hdF G hr K5 K6 K7 K8 (by rw [hu]; exact hdG hu tu G hr hgd CL)))))
  unfold HR at h9
  exact h9
end
end K4
/-! The law. -/
namespace K4
open PySem PySem.Spec PyProof.Rows L2 Zj
variable [Nm]
section
variable {X : Cx} {a : Addr} {ρ : Rho} {es : List Expr} {pos p pm : Pos} {n m k c : Nat} {P : PyData → Prop} {x y : Str} {ps : List Str} {lv : Nat}
/-- a def that draws, of what was drawn -/
theorem m_callA {R : List PyData → (PyData → Prop) → Prop} {i : Nat} {PA : List PyData → Prop} (C : CalG X.prog X.w X.K X.mg X.base lv x ps (spM X.K c R)) (hgd : X.A.guards = some []) (hr : Room lv X.A) (hi : ρ[i]? = some (some .hnd)) (ha : EvMA X a es ρ n k PA) (hR : ∀ ds, PA ds → R ds P) (hn : m + c ≤ k)
    (hN : X.N[i]? = some y := by rfl) (hv : Vis X.env.scope y := by first | exact Or.inl rfl | exact Or.inr (Or.inl rfl) | exact Or.inr (Or.inr rfl)) (hd : (y == ("__debug__" : Str)) = false := by decide) (hcd : (y == ("__classdict__" : Str)) = false := by decide)
    (hs : starEach (.Name y pm :: es) X.env = (false, eval (.Name y pm) X.env) :: starEach es X.env := by exact star_of rfl) (hg : Gl X x := by rfl) (hdb : (x == ("__debug__" : Str)) = false := by decide) (hpl : (backTo pos (starEach es X.env)).any (·.1) = false := by exact star_no rfl) :
    EvM X a (.Call (.Name x p) (.Name y pm :: es) [] pos) ρ n m P := fun T σ H S ms Q q => by
  obtain ⟨v, h1, h2⟩ := S.sl i _ hi
  have h2 : v = .ref a := h2
  subst h2
  refine toE (pe_callG C hgd hr (pa_cons (pe_var hN hv hd hcd) ja hs) hg hdb hs hpl) ⟨_, h1, ha T σ H S ms _ fun vs ds H1 s1 ms1 p1 hp => ?_⟩
  exact ⟨a, T, m, vs, ds, P, rfl, (S.kpo s1 ms).dm, ms1.mono hn, p1, hR ds hp, fun v d H' s2 ms2 p2 hp2 => q v d H' (s1.trans s2) ms2 p2 hp2⟩
end
/-- a flat, or the whole space where there is none -/
structure Fl (D : Nat) (rows : List (List Int)) (Q : List (Nat × List Int)) : Prop where
  red : Red (D + 1) Q
  lt : ∀ q ∈ Q, q.1 + 1 < D + 1
  is' : flatPD D rows = .none ∧ Q = [] ∨ flatPD D rows = .tuple (rsD (rowsOf Q)) ∧ Q = redL (D + 1) rows ∧ Lo (D + 1) rows
theorem fl_of {D : Nat} {rows : List (List Int)} (hl : ∀ r ∈ rows, r.length = D + 1) : ∃ Q, Fl D rows Q := by
  cases h : isNo D (redL (D + 1) rows) with
  | true => exact ⟨[], ⟨nofun, .nil, nofun⟩, nofun, .inl ⟨flatPD_no h, rfl⟩⟩
  | false =>
    have lo : Lo (D + 1) rows := fun q hq => by
      have lt := redL_lt hl q hq
      unfold isNo at h
      rw [List.any_eq_false] at h
      have := h q hq
      have : q.1 ≠ D := by simpa using this
      omega
    exact ⟨_, (redL_ok hl).1, lo, .inr ⟨flatPD_is h rfl, rfl, lo⟩⟩
theorem Fl.bits {D n : Nat} {rows : List (List Int)} {Q : List (Nat × List Int)} (f : Fl D rows Q) (hl : ∀ r ∈ rows, r.length = D + 1) (hn : ∀ r ∈ rows, BitsL n r) : ∀ q ∈ Q, BitsL (fbits n D) q.2 := by
  rcases f.is' with ⟨_, rfl⟩ | ⟨_, rfl, lo⟩
  · nofun
  · exact redL_bits hl hn lo
theorem Fl.few {D : Nat} {rows : List (List Int)} {Q : List (Nat × List Int)} (f : Fl D rows Q) (hl : ∀ r ∈ rows, r.length = D + 1) (hn : ∀ r ∈ rows, BitsL 3 r) (h2 : rows.length ≤ 2) : Q.length ≤ 2 ∧ ∀ q ∈ Q, BitsL 13 q.2 := by
  rcases f.is' with ⟨_, rfl⟩ | ⟨_, rfl, lo⟩
  · exact ⟨by simp, nofun⟩
  · obtain ⟨g1, g2⟩ := from0 hl hn lo
    refine ⟨by omega, fun q hq => (g2 q hq).mono ?_⟩
    have : (redL (D + 1) rows).length = 0 ∨ (redL (D + 1) rows).length = 1 ∨ (redL (D + 1) rows).length = 2 := by omega
    rcases this with z | z | z <;> rw [z] <;> decide
theorem sm_bits {D B n : Nat} {rows : List (List Int)} (h : Sm9 D B rows) (hB : B < 2 ^ n) : (∀ r ∈ rows, r.length = D + 1) ∧ ∀ r ∈ rows, BitsL n r := ⟨fun r hr => (h r hr).1, fun r hr x hx => Nat.lt_of_le_of_lt ((h r hr).2 x hx) hB⟩
theorem tame_flat {D : Nat} {rows : List (List Int)} {Q : List (Nat × List Int)} (hD : D ≤ 4) (f : Fl D rows Q) (hb : ∀ q ∈ Q, BitsL 1900 q.2) : Tame (flatPD D rows) := by
  rcases f.is' with ⟨h, _⟩ | ⟨h, _, _⟩
  · rw [h]
    exact tam_non.tame (by decide) (by decide)
  · rw [h]
    have ql := q_len f.red f.lt
    refine (tam_tup (b := 5) (n := 1) (l := 4) (fun d hd => ?_) (by rw [rsD_len]; unfold rowsOf; rw [List.length_map]; omega)).tame (by decide) (by decide)
    obtain ⟨r, hr, rfl⟩ := rsD_mem hd
    exact tam_tI (rows_bits hb r hr) (by rw [rows_len f.red r hr]; omega)
/-- none is told apart from what is there -/
theorem fl_isN {D : Nat} {rows : List (List Int)} {Q : List (Nat × List Int)} (f : Fl D rows Q) : ((!isN (flatPD D rows)) = true → flatPD D rows = .tuple (rsD (rowsOf Q))) ∧ ((!isN (flatPD D rows)) = false → PyData.tuple [] = .tuple (rsD (rowsOf Q))) := by
  rcases f.is' with ⟨h, rfl⟩ | ⟨h, _, _⟩
  · rw [h]
    exact ⟨nofun, fun _ => rfl⟩
  · rw [h]
    exact ⟨fun _ => rfl, nofun⟩
/-- what Q and a few short rows make -/
theorem more_bits {D : Nat} {Q : List (Nat × List Int)} {ext : List (List Int)} (hD : D ≤ 4) (R : Red (D + 1) Q) (lt : ∀ q ∈ Q, q.1 + 1 < D + 1) (hb : ∀ q ∈ Q, BitsL 150 q.2) (hl : ∀ r ∈ ext, r.length = D + 1) (hn : ∀ r ∈ ext, BitsL 13 r) (he : ext.length ≤ 2) (lo : Lo (D + 1) (rowsOf Q ++ ext)) : ∀ q ∈ redL (D + 1) (rowsOf Q ++ ext), BitsL 1900 q.2 := by
  have rl : (rowsOf Q).length = Q.length := by unfold rowsOf; simp
  have hl2 : ∀ r ∈ rowsOf Q ++ ext, r.length = D + 1 := fun r hr => (List.mem_append.mp hr).elim (rows_len R r) (hl r)
  have e0 : (rowsOf Q ++ ext).take Q.length = rowsOf Q := by rw [← rl, List.take_left]
  have es : redL (D + 1) ((rowsOf Q ++ ext).take Q.length) = Q := by rw [e0, red_self R]
  have full : (rowsOf Q ++ ext).take (Q.length + ext.length) = rowsOf Q ++ ext := List.take_of_length_le (by rw [List.length_append, rl]; exact Nat.le_refl _)
  have G := grow (rows := rowsOf Q ++ ext) (i0 := Q.length) (n := 13) (B := fun k => Bg 150 13 Q.length (k - Q.length)) hl2 (by omega) (by rw [es, Nat.sub_self]; exact hb) (fun k h1 h2 => by rw [es] at h1; exact bg_step h1) (fun i row hi hr => hn row (by
    rw [List.getElem?_append_right (by omega)] at hr
    exact List.mem_of_getElem? hr)) ext.length (by rw [List.length_append, rl]; exact Nat.le_refl _) (by rw [full]; exact lo)
  rw [full, es] at G
  obtain ⟨g1, g2, g3⟩ := G
  have r4 := red_len (redL_ok hl2).1 lo
  generalize (redL (D + 1) (rowsOf Q ++ ext)).length = L at g1 g2 g3 r4
  obtain ⟨d, rfl⟩ : ∃ d, L = Q.length + d := ⟨L - Q.length, by omega⟩
  rw [Nat.add_sub_cancel_left] at g3
  refine fun q hq => (g3 q hq).mono ?_
  have hd : d = 0 ∨ d = 1 ∨ d = 2 := by omega
  have hq4 : Q.length + d ≤ 4 := by omega
  generalize Q.length = z at hq4
  have hz : z = 0 ∨ z = 1 ∨ z = 2 ∨ z = 3 ∨ z = 4 := by omega
  rcases hd with rfl | rfl | rfl <;> rcases hz with rfl | rfl | rfl | rfl | rfl <;> first | decide | omega
section
variable {P : Program} {w : World} {K : PySem.W.Frag} {mg : Str → Option Value} {base : Heap} {f : Addr} {fd : FuncData}
def R_law (ds : List PyData) (d : PyData) : Prop := ∃ xs, ds = [lI xs] ∧ xs.length ≤ 63 ∧ BitsL 1100000 xs ∧ d = .bool true
def okV (D : Nat) (v : PyData) : Prop := Jv D v ∧ Tame (hvO (chO D v))
theorem ok_law (F : Fun K "law" "law" st_law f fd) (T : Tx mg) (CH : CalG P w K mg base 8 "_law_hand_right" [] (spR K R_hand)) (CB : CalG P w K mg base 1 "_law_begun" ["script", "k"] (spB K)) (C1 : CalG P w K mg base 1 "_law_draw" ["m", "bound"] (spM K 1 R_draw))
    (CL : CalG P w K mg base 1 "_law_like" ["told", "due"] (spR K R_like)) (CR : CalG P w K mg base 3 "_law_rows" ["m", "dimension_so", "count"] (spM K 45 R_lrows)) (CF : Cal P w K mg base 5 "_law_flat" ["dimension_so", "rows_so"] (spR K R_lflat)) (CO : Cal P w K mg base 5 "flat_of" ["dimension", "rows"] (spR K R_flat))
    (CM : Cal P w K mg base 6 "flat_meet" ["dimension", "flat", "other"] (spR K R_meet)) (CJ : CalG P w K mg base 5 "_law_inside_right" ["m", "dimension_so", "flat_so"] (spM K 39 R_inside)) (CI : Cal P w K mg base 7 "flat_in" ["dimension", "flat", "other"] (spR K R_in))
    (CE : CalG P w K mg base 3 "_law_bent" ["m", "dimension_so", "flat_so"] (spM K 4 R_bent)) (CV : Cal P w K mg base 7 "_law_heard" ["dimension_so", "value_so"] (spR K R_hv)) (CU : Cal P w K mg base 6 "_law_fault" ["dimension_so", "value_so"] (spR K R_hv)) : FnG P w K mg base CX0 9 f fd ["script"] (spR K R_law) := by
  refine fnRG F sc_law (fun ds d h => by obtain ⟨xs, rfl, _⟩ := h; rfl) fun cdv A outer s H E G hr hgd ds d h => ?_
  obtain ⟨xs, rfl, hl, hb, rfl⟩ := h
  refine r_cons (r_skip (t_is (t_not (t_val (e_call0 CH hgd (hr.mono (by decide)) ⟨rfl, rfl⟩))) rfl) ?_)
  obtain ⟨M, hM0, hM4, hM⟩ : ∃ M : Int, 0 ≤ M ∧ M ≤ 4 ∧ (if (if (4 : Int) < ((xs.map PyData.int).length : Int) then 4 else ((xs.map PyData.int).length : Int)) > 2 then (if (4 : Int) < ((xs.map PyData.int).length : Int) then 4 else ((xs.map PyData.int).length : Int)) else 2) = M := by
    refine ⟨_, ?_, ?_, rfl⟩
    · split
      · omega
      · omega
    · split
      · split <;> omega
      · omega
  refine r_cons (rs_for G (src_R (n := M) (a_cons (e_is (e_callB (ca_max G.calm) (a_cons e_int (a_cons (e_callB (ca_min G.calm) (a_cons (e_callB ca_lenL (a_cons (e_var (i := 0) rfl) a_nil) T.len (by decide +kernel)) (a_cons e_int a_nil)) T.min (by decide +kernel)) a_nil)) T.max (by decide +kernel)) (by rw [hM])) a_nil) (by omega) (by omega) T.range)
    (pg_name (i := 1) sc_law.nd rfl (Or.inl rfl)) (tg_name (vs := [1]) (by decide)) (fun _ ρ' => ∃ y1 y2 y3 y4 y5 y6 y7 y8 y9 y10, ρ' = [some (.dat (lI xs)), y1, y2, y3, y4, y5, y6, y7, y8, y9, y10]) ⟨_, _, _, _, _, _, _, _, _, _, rfl⟩ (fun i d ρ1 hd hJ => ?_) fun ρ' hJ => ?_)
  · obtain ⟨y1, y2, y3, y4, y5, y6, y7, y8, y9, y10, rfl⟩ := hJ
    have hi : i < M.toNat ∧ d = .int (i : Int) := by
      unfold Zj.upTo at hd
      rw [List.getElem?_map] at hd
      by_cases hlt : i < M.toNat
      · rw [List.getElem?_range hlt] at hd
        cases hd
        exact ⟨hlt, rfl⟩
      · rw [List.getElem?_eq_none (by simpa using hlt)] at hd
        cases hd
    obtain ⟨hi, rfl⟩ := hi
    refine ⟨_, rfl, r_begun (i := 2) (kk := i) (xs := xs) G CB hgd (hr.mono (by decide)) (a_cons (e_var (i := 0) rfl) (a_cons (e_var (i := 1) rfl) a_nil)) (by omega) hl hb fun q => ?_⟩
    refine q_cons (qs_set (i := 3) (m := 1000) (P := fun d => ∃ D : Nat, d = .int (D : Int) ∧ 1 ≤ D ∧ D ≤ 4) G (m_bin (P1 := fun d => d = .int 1) (P2 := fun _ d => ∃ r : Int, d = .int r ∧ 0 ≤ r ∧ r < 4) (m := 1001) (m_pure e_int rfl (by decide))
        (fun _ _ => m_draw (i := 2) C1 hgd (hr.mono (by decide)) rfl e_int (by decide) (by decide)) (fun d1 d2 h1 h2 => by
          subst h1
          obtain ⟨v, rfl, r0, r1⟩ := h2
          exact ⟨_, od_add, (1 + v).toNat, congrArg PyData.int (by omega), by omega, by omega⟩)) fun d hd => ?_)
    obtain ⟨D, rfl, hD1, hD⟩ := hd
    refine q_cons (qs_set (i := 4) (m := 900) (P := fun d => ∃ (c : Nat) (rows : List (List Int)), d = .tuple (rsD rows) ∧ c ≤ 5 ∧ rows.length = c ∧ Sm9 D (2 * 3 ^ (c - 1)) rows) G (m_callA (i := 2) (k := 999) (PA := fun ds => ∃ d1 ds', ds = d1 :: ds' ∧ d1 = .int (D : Int) ∧ ∃ d2 ds2, ds' = d2 :: ds2 ∧ (∃ r : Int, d2 = .int r ∧ 0 ≤ r ∧ r < 6) ∧ ds2 = []) CR hgd (hr.mono (by decide)) rfl
      (ma_cons (m := 1000) (m_pure (e_var (i := 3) rfl) rfl (Nat.le_refl _)) fun _ _ => ma_cons (m := 999) (m_draw (i := 2) C1 hgd (hr.mono (by decide)) rfl e_int (by decide) (by decide)) fun _ _ => ma_nil (Nat.le_refl _)) (fun ds hds => ?r1) (by decide)) fun d hd => ?_)
    case r1 =>
      obtain ⟨_, _, rfl, rfl, _, _, rfl, ⟨v, rfl, v0, v1⟩, rfl⟩ := hds
      obtain ⟨c, rfl⟩ : ∃ c : Nat, v = (c : Int) := ⟨v.toNat, by omega⟩
      exact ⟨D, c, rfl, hD1, hD, by omega, fun rows h1 h2 => ⟨c, rows, rfl, by omega, h1, h2⟩⟩
    obtain ⟨c, rows, rfl, hc, hrl, hS⟩ := hd
    obtain ⟨rl, rb⟩ := sm_bits (n := 8) hS (by
      have : c = 0 ∨ c = 1 ∨ c = 2 ∨ c = 3 ∨ c = 4 ∨ c = 5 := by omega
      rcases this with rfl | rfl | rfl | rfl | rfl | rfl <;> decide)
    have r5 : rows.length ≤ 5 := by omega
    obtain ⟨Q, fQ⟩ := fl_of rl
    have Qb : ∀ q ∈ Q, BitsL 140 q.2 := fun q hq => (fQ.bits rl rb q hq).mono (by
      have : D = 1 ∨ D = 2 ∨ D = 3 ∨ D = 4 := by omega
      rcases this with rfl | rfl | rfl | rfl <;> decide)
    have Qb5 : ∀ q ∈ Q, BitsL 150 q.2 := fun q hq => (Qb q hq).mono (by decide)
    have qlen := q_len fQ.red fQ.lt
    have tQ : Tame (flatPD D rows) := tame_flat hD fQ fun q hq => (Qb q hq).mono (by decide)
    have fb8 : fbits 8 (D + 1) ≤ 8000 := fb_mono hD (by decide)
    have fb140 : fbits 140 (D + 1) ≤ 8000 := fb_mono hD (by decide)
    have rlR : ∀ r ∈ rows.reverse, r.length = D + 1 := fun r hr => rl r (List.mem_reverse.mp hr)
    have rbR : ∀ r ∈ rows.reverse, BitsL 8 r := fun r hr => rb r (List.mem_reverse.mp hr)
    have eR : flatPD D rows.reverse = flatPD D rows := flat_eqv rlR rl (eqv_mem (fun s hs => List.mem_reverse.mp hs) fun s hs => List.mem_reverse.mpr hs)
    have rsR : (rsD rows).reverse = rsD rows.reverse := by unfold rsD; rw [List.map_reverse]
    refine q_cons (q_pure (R' := fun _ => False) (N' := fun ρ' => ∃ z6 z7 z8 z9 z10, ρ' = [some (.dat (lI xs)), some (.dat (.int (i : Int))), some .hnd, some (.dat (.int (D : Int))), some (.dat (.tuple (rsD rows))), some (.dat (flatPD D rows)), z6, z7, z8, z9, z10]) (rs_set (i := 5) (d := flatPD D rows) G (e_call CF (hr.mono (by decide)) (a_cons (e_var (i := 3) rfl) (a_cons (e_var (i := 4) rfl) a_nil)) ⟨D, 8, rows, rfl, hD, by omega, fun r hr => ⟨rl r hr, rb r hr⟩, fb8, rfl⟩) ⟨_, _, _, _, _, rfl⟩) (fun ρ' e => ?_) nofun)
    obtain ⟨z6, z7, z8, z9, z10, rfl⟩ := e
    refine q_cons (q_skip (t_or2 (b := false) (t_notlike (d := flatPD D rows) CL hgd (hr.mono (by decide)) (a_cons (e_call CO (hr.mono (by decide)) (a_cons (e_var (i := 3) rfl) (a_cons (e_var (i := 4) rfl) a_nil)) ⟨D, rows, rfl, hD1, hD, by omega, rl, bd5 rl rb r5, rfl⟩) (a_cons (e_var (i := 5) rfl) a_nil)) tQ)
      (fun _ => t_notlike (d := flatPD D rows) CL hgd (hr.mono (by decide)) (a_cons (e_is (e_call CO (hr.mono (by decide)) (a_cons (e_var (i := 3) rfl) (a_cons (e_is (e_back (e_var (i := 4) rfl)) (congrArg PyData.tuple rsR)) a_nil)) ⟨D, rows.reverse, rfl, hD1, hD, by rw [List.length_reverse]; omega, rlR, bd5 rlR rbR (by rw [List.length_reverse]; exact r5), rfl⟩) eR) (a_cons (e_var (i := 5) rfl) a_nil)) tQ) nofun) ?_)
    refine q_cons (qs_set (i := 6) (m := 800) (P := fun d => ∃ (c : Nat) (more : List (List Int)), d = .tuple (rsD more) ∧ c ≤ 2 ∧ more.length = c ∧ Sm9 D (2 * 3 ^ (c - 1)) more) G (m_callA (i := 2) (k := 899) (PA := fun ds => ∃ d1 ds', ds = d1 :: ds' ∧ d1 = .int (D : Int) ∧ ∃ d2 ds2, ds' = d2 :: ds2 ∧ (∃ r : Int, d2 = .int r ∧ 1 ≤ r ∧ r < 3) ∧ ds2 = []) CR hgd (hr.mono (by decide)) rfl
      (ma_cons (m := 900) (m_pure (e_var (i := 3) rfl) rfl (Nat.le_refl _)) fun _ _ => ma_cons (m := 899) (m_bin (P1 := fun d => d = .int 1) (P2 := fun _ d => ∃ r : Int, d = .int r ∧ 0 ≤ r ∧ r < 2) (m := 900) (m_pure e_int rfl (Nat.le_refl _)) (fun _ _ => m_draw (i := 2) C1 hgd (hr.mono (by decide)) rfl e_int (by decide) (by decide)) (fun d1 d2 h1 h2 => ?r2)) fun _ _ => ma_nil (Nat.le_refl _)) (fun ds hds => ?r3) (by decide)) fun d hd => ?_)
    case r2 =>
      subst h1
      obtain ⟨v, rfl, r0, r1⟩ := h2
      exact ⟨_, od_add, 1 + v, rfl, by omega, by omega⟩
    case r3 =>
      obtain ⟨_, _, rfl, rfl, _, _, rfl, ⟨v, rfl, v0, v1⟩, rfl⟩ := hds
      obtain ⟨c, rfl⟩ : ∃ c : Nat, v = (c : Int) := ⟨v.toNat, by omega⟩
      exact ⟨D, c, rfl, hD1, hD, by omega, fun rows h1 h2 => ⟨c, rows, rfl, by omega, h1, h2⟩⟩
    obtain ⟨c2, more, rfl, hc2, hml, hM9⟩ := hd
    have m2 : more.length ≤ 2 := by omega
    obtain ⟨ml, mb⟩ := sm_bits (n := 3) hM9 (by
      have : c2 = 0 ∨ c2 = 1 ∨ c2 = 2 := by omega
      rcases this with rfl | rfl | rfl <;> decide)
    have mb8 : ∀ r ∈ more, BitsL 8 r := fun r hr => (mb r hr).mono (by decide)
    obtain ⟨O, fO⟩ := fl_of ml
    obtain ⟨O2, Ob⟩ := fO.few ml mb m2
    have Ob5 : ∀ q ∈ O, BitsL 140 q.2 := fun q hq => (Ob q hq).mono (by decide)
    have Ob6 : ∀ q ∈ O, BitsL 150 q.2 := fun q hq => (Ob q hq).mono (by decide)
    have rQ : (rowsOf Q).length = Q.length := by unfold rowsOf; simp
    have rO : (rowsOf O).length = O.length := by unfold rowsOf; simp
    have lQO : ∀ r ∈ rowsOf Q ++ rowsOf O, r.length = D + 1 := fun r hr => (List.mem_append.mp hr).elim (rows_len fQ.red r) (rows_len fO.red r)
    have lOQ : ∀ r ∈ rowsOf O ++ rowsOf Q, r.length = D + 1 := fun r hr => (List.mem_append.mp hr).elim (rows_len fO.red r) (rows_len fQ.red r)
    have bQO : ∀ r ∈ rowsOf Q ++ rowsOf O, BitsL 140 r := fun r hr => (List.mem_append.mp hr).elim (rows_bits Qb r) (rows_bits Ob5 r)
    have nQO : (rowsOf Q ++ rowsOf O).length ≤ 50 := by rw [List.length_append, rQ, rO]; omega
    have nOQ : (rowsOf O ++ rowsOf Q).length ≤ 50 := by rw [List.length_append, rQ, rO]; omega
    have dQO : Bd (D + 1) (rowsOf Q ++ rowsOf O) := bd_more (n := 13) hD fQ.red fQ.lt Qb5 (rows_len fO.red) (rows_bits Ob) (.inr ⟨Nat.le_refl _, by rw [rO]; exact O2⟩)
    have dOQ : Bd (D + 1) (rowsOf O ++ rowsOf Q) := bd_less hD fQ.red fQ.lt Qb5 fO.red fO.lt Ob O2
    have eW : flatPD D (rowsOf O ++ rowsOf Q) = flatPD D (rowsOf Q ++ rowsOf O) := flat_eqv lOQ lQO (eqv_mem (fun s hs => List.mem_append.mpr (List.mem_append.mp hs).symm) fun s hs => List.mem_append.mpr (List.mem_append.mp hs).symm)
    obtain ⟨W, fW⟩ := fl_of lQO
    have tW : Tame (flatPD D (rowsOf Q ++ rowsOf O)) := tame_flat hD fW fun q hq => by
      rcases fW.is' with ⟨_, rfl⟩ | ⟨_, rfl, lo⟩
      · cases hq
      · exact more_bits hD fQ.red fQ.lt Qb5 (rows_len fO.red) (rows_bits Ob) (by rw [rO]; exact O2) lo q hq
    refine q_cons (q_pure (R' := fun _ => False) (N' := fun ρ' => ∃ z9 z10, ρ' = [some (.dat (lI xs)), some (.dat (.int (i : Int))), some .hnd, some (.dat (.int (D : Int))), some (.dat (.tuple (rsD rows))), some (.dat (flatPD D rows)), some (.dat (.tuple (rsD more))), some (.dat (.tuple (rsD (rowsOf Q)))), some (.dat (flatPD D more)), z9, z10]) (rs_par (i := 7) (j := 8) (d1 := .tuple (rsD (rowsOf Q))) (d2 := flatPD D more) G (a_cons (e_if (b := !isN (flatPD D rows)) (t_cmp od_notN (e_var (i := 5) rfl) e_non (nomark _)) (fun h => e_is (e_var (i := 5) rfl) ((fl_isN fQ).1 h)) fun h => e_is (e_tup a_nil) ((fl_isN fQ).2 h))
      (a_cons (e_call CF (hr.mono (by decide)) (a_cons (e_var (i := 3) rfl) (a_cons (e_var (i := 6) rfl) a_nil)) ⟨D, 8, more, rfl, hD, by omega, fun r hr => ⟨ml r hr, mb8 r hr⟩, fb8, rfl⟩) a_nil)) ⟨_, _, rfl⟩) (fun ρ' e => ?_) nofun)
    obtain ⟨z9, z10, rfl⟩ := e
    refine q_cons (q_pure (R' := fun _ => False) (N' := fun ρ' => ∃ z9 z10, ρ' = [some (.dat (lI xs)), some (.dat (.int (i : Int))), some .hnd, some (.dat (.int (D : Int))), some (.dat (.tuple (rsD rows))), some (.dat (flatPD D rows)), some (.dat (.tuple (rsD more))), some (.dat (.tuple (rsD (rowsOf Q)))), some (.dat (.tuple (rsD (rowsOf O)))), z9, z10]) (rs_set (i := 8) (d := .tuple (rsD (rowsOf O))) G (e_if (b := !isN (flatPD D more)) (t_cmp od_notN (e_var (i := 8) rfl) e_non (nomark _)) (fun h => e_is (e_var (i := 8) rfl) ((fl_isN fO).1 h)) fun h => e_is (e_tup a_nil) ((fl_isN fO).2 h)) ⟨_, _, rfl⟩) (fun ρ' e => ?_) nofun)
    obtain ⟨z9, z10, rfl⟩ := e
    refine q_cons (q_pure (R' := fun _ => False) (N' := fun ρ' => ∃ z10, ρ' = [some (.dat (lI xs)), some (.dat (.int (i : Int))), some .hnd, some (.dat (.int (D : Int))), some (.dat (.tuple (rsD rows))), some (.dat (flatPD D rows)), some (.dat (.tuple (rsD more))), some (.dat (.tuple (rsD (rowsOf Q)))), some (.dat (.tuple (rsD (rowsOf O)))), some (.dat (flatPD D (rowsOf Q ++ rowsOf O))), z10]) (rs_set (i := 9) (d := flatPD D (rowsOf Q ++ rowsOf O)) G (e_call CF (hr.mono (by decide)) (a_cons (e_var (i := 3) rfl) (a_cons (e_is (e_bin (od_catA (by rw [rsD_len, rsD_len, ← List.length_append]; omega)) (e_var (i := 7) rfl) (e_var (i := 8) rfl)) (by rw [rsD_app])) a_nil)) ⟨D, 140, _, rfl, hD, nQO, fun r hr => ⟨lQO r hr, bQO r hr⟩, fb140, rfl⟩) ⟨_, rfl⟩) (fun ρ' e => ?_) nofun)
    obtain ⟨z10, rfl⟩ := e
    refine q_cons (qs_if (PB := fun b => b = false) (m := 700) (mt_or (m := 800) (mt_pure (t_notlike (d := flatPD D (rowsOf Q ++ rowsOf O)) CL hgd (hr.mono (by decide)) (a_cons (e_call CM (hr.mono (by decide)) (a_cons (e_var (i := 3) rfl) (a_cons (e_var (i := 7) rfl) (a_cons (e_var (i := 8) rfl) a_nil))) ⟨D, rowsOf Q, rowsOf O, rfl, hD1, hD, nQO, lQO, dQO, rfl⟩) (a_cons (e_var (i := 9) rfl) a_nil)) tW) rfl (Nat.le_refl _))
      (mt_or1 (mt_not (mt_val (m_call (i := 2) (ds := [.int (D : Int), .tuple (rsD (rowsOf Q))]) CJ hgd (hr.mono (by decide)) rfl (a_cons (e_var (i := 3) rfl) (a_cons (e_var (i := 7) rfl) a_nil)) ⟨D, Q, rfl, hD1, hD, fQ.red, fQ.lt, Qb5, true, rfl, rfl⟩ (by decide)))))) (fun z => nomatch z) fun _ => q_nil ?_)
    refine q_cons (q_skip (t_notlike (d := .list [.bool (PyData.eqv (flatPD D (rowsOf Q ++ rowsOf O)) (.tuple (rsD (rowsOf Q)))), .bool (PyData.eqv (flatPD D (rowsOf Q ++ rowsOf O)) (.tuple (rsD (rowsOf O))))]) CL hgd (hr.mono (by decide))
      (a_cons (e_lst (a_cons (e_call CI (hr.mono (by decide)) (a_cons (e_var (i := 3) rfl) (a_cons (e_var (i := 7) rfl) (a_cons (e_var (i := 8) rfl) a_nil))) ⟨D, rowsOf Q, rowsOf O, rfl, hD1, hD, nQO, lQO, dQO, rfl⟩) (a_cons (e_is (e_call CI (hr.mono (by decide)) (a_cons (e_var (i := 3) rfl) (a_cons (e_var (i := 8) rfl) (a_cons (e_var (i := 7) rfl) a_nil))) ⟨D, rowsOf O, rowsOf Q, rfl, hD1, hD, nOQ, lOQ, dOQ, rfl⟩) (by rw [eW])) a_nil)))
        (a_cons (e_lst (a_cons (e_cmp (od_eqD G.un (flatPD_shaped _ _) (shaped_rs _)) (e_var (i := 9) rfl) (e_var (i := 7) rfl) (nomark _)) (a_cons (e_cmp (od_eqD G.un (flatPD_shaped _ _) (shaped_rs _)) (e_var (i := 9) rfl) (e_var (i := 8) rfl) (nomark _)) a_nil))) a_nil))
      ((tam_lst (b := 0) (n := 0) (l := 2) (fun d hd => by
        rcases List.mem_cons.mp hd with rfl | hd
        · exact tam_bool
        · rw [List.mem_singleton] at hd
          rw [hd]
          exact tam_bool) (by simp)).tame (by decide) (by decide))) ?_)
    refine q_one (qs_forM (k := 600) (PL := fun items => ∀ d ∈ items, okV D d) G (srcM_T (m_tup (PA := fun ds => ds.length ≤ 6 ∧ ∀ d ∈ ds, okV D d) (ma_weak (ma_cons (m := 700) (P := okV D) (m_pure (e_var (i := 7) rfl) (val_ok hD fQ.red fQ.lt Qb5 (flat_ok hD fQ.red fQ.lt Qb5)) (Nat.le_refl _)) fun _ _ =>
        ma_cons (m := 700) (P := okV D) (m_pure (e_var (i := 8) rfl) (val_ok hD fO.red fO.lt Ob6 (flat_ok hD fO.red fO.lt Ob6)) (Nat.le_refl _)) fun _ _ =>
        ma_cons (m := 650) (P := okV D) (m_call (i := 2) (ds := [.int (D : Int), .tuple (rsD (rowsOf Q))]) CE hgd (hr.mono (by decide)) rfl (a_cons (e_var (i := 3) rfl) (a_cons (e_var (i := 7) rfl) a_nil)) ⟨D, Q, rfl, hD1, hD, fQ.red, fQ.lt, Qb, fun v hv => val_ok hD fQ.red fQ.lt Qb5 hv⟩ (by decide)) fun _ _ =>
        ma_cons (m := 600) (P := okV D) (m_call (i := 2) (ds := [.int (D : Int), .tuple (rsD (rowsOf O))]) CE hgd (hr.mono (by decide)) rfl (a_cons (e_var (i := 3) rfl) (a_cons (e_var (i := 8) rfl) a_nil)) ⟨D, O, rfl, hD1, hD, fO.red, fO.lt, Ob5, fun v hv => val_ok hD fO.red fO.lt Ob6 hv⟩ (by decide)) fun _ _ =>
        ma_cons (m := 600) (P := okV D) (m_pure (e_var (i := 4) rfl) (drawn_ok hD rl rb r5) (Nat.le_refl _)) fun _ _ =>
        ma_cons (m := 600) (P := okV D) (m_pure e_non none_ok (Nat.le_refl _)) fun _ _ => ma_nil (Nat.le_refl _)) fun ds hds => ?s1) fun ds hds => ⟨by have := hds.1; omega, ds, rfl, hds.2⟩))
      (pg_name (i := 10) sc_law.nd rfl (Or.inl rfl)) (tg_name (vs := [10]) (by decide)) (fun _ _ _ ρ' => ∃ z10, ρ' = [some (.dat (lI xs)), some (.dat (.int (i : Int))), some .hnd, some (.dat (.int (D : Int))), some (.dat (.tuple (rsD rows))), some (.dat (flatPD D rows)), some (.dat (.tuple (rsD more))), some (.dat (.tuple (rsD (rowsOf Q)))), some (.dat (.tuple (rsD (rowsOf O)))), some (.dat (flatPD D (rowsOf Q ++ rowsOf O))), z10]) (fun _ _ => ⟨_, rfl⟩) (fun items hP j d m ρ1 hd hJ => ?_) fun items hP m ρ' hJ => ?_)
    case s1 =>
      obtain ⟨d1, _, rfl, h1, d2, _, rfl, h2, d3, _, rfl, h3, d4, _, rfl, h4, d5, _, rfl, h5, d6, _, rfl, h6, rfl⟩ := hds
      refine ⟨by simp, fun d hd => ?_⟩
      simp only [List.mem_cons, List.not_mem_nil, or_false] at hd
      rcases hd with rfl | rfl | rfl | rfl | rfl | rfl <;> assumption
    · obtain ⟨z10, rfl⟩ := hJ
      have ok := hP d (List.mem_of_getElem? hd)
      exact ⟨_, rfl, q_one (q_skip (t_notlike (d := hvO (chO D d)) CL hgd (hr.mono (by decide)) (a_cons (e_call CV (hr.mono (by decide)) (a_cons (e_var (i := 3) rfl) (a_cons (e_var (i := 10) rfl) a_nil)) ⟨D, d, rfl, hD1, hD, ok.1, rfl⟩) (a_cons (e_call CU (hr.mono (by decide)) (a_cons (e_var (i := 3) rfl) (a_cons (e_var (i := 10) rfl) a_nil)) ⟨D, d, rfl, hD1, hD, ok.1, rfl⟩) a_nil)) ok.2) ⟨_, rfl⟩)⟩
    · obtain ⟨z10, rfl⟩ := hJ
      exact ⟨_, _, _, _, _, _, _, _, _, _, rfl⟩
  · obtain ⟨y1, y2, y3, y4, y5, y6, y7, y8, y9, y10, rfl⟩ := hJ
    exact r_one (rs_ret e_bl rfl)
end
end K4
/-! All together. -/
namespace K4
open PySem PySem.Spec PyProof.Rows L2 Zj
abbrev st_iNotRow : Stmt := inClass (top 4) 0
theorem sc_iNotRow : FnScope ["self", "place"] ["self", "place"] (defScope st_iNotRow) := ⟨rfl, rfl, rfl, by decide +kernel, rfl, by decide +kernel, by decide +kernel⟩
abbrev st_iNotNumber : Stmt := inClass (top 3) 0
theorem sc_iNotNumber : FnScope ["self", "value"] ["self", "value"] (defScope st_iNotNumber) := ⟨rfl, rfl, rfl, by decide +kernel, rfl, by decide +kernel, by decide +kernel⟩
structure Tops (K : PySem.W.Frag) (C_NotRow C_NotNumber : Addr) : Prop where
  d__law_like : Df K "_law_like" st__law_like
  d_first_place : Df K "first_place" st_first_place
  d_leading_place : Df K "leading_place" st_leading_place
  d__cleared : Df K "_cleared" st__cleared
  d_cleared_by_all : Df K "cleared_by_all" st_cleared_by_all
  d_common_divisor : Df K "common_divisor" st_common_divisor
  d_shortened : Df K "shortened" st_shortened
  d_plane_of : Df K "plane_of" st_plane_of
  d_flat_of : Df K "flat_of" st_flat_of
  d_common_multiple : Df K "common_multiple" st_common_multiple
  d_direction_of : Df K "direction_of" st_direction_of
  d_flat_directions : Df K "flat_directions" st_flat_directions
  d_lowest : Df K "lowest" st_lowest
  d_point_of : Df K "point_of" st_point_of
  d_flat_point : Df K "flat_point" st_flat_point
  d_flat_meet : Df K "flat_meet" st_flat_meet
  d_flat_in : Df K "flat_in" st_flat_in
  d_is_whole : Df K "is_whole" st_is_whole
  d_wrong_place : Df K "wrong_place" st_wrong_place
  d_check_flat : Df K "check_flat" st_check_flat
  d_flat_dimension : Df K "flat_dimension" st_flat_dimension
  d_sign_of : Df K "sign_of" st_sign_of
  d_weighed : Df K "weighed" st_weighed
  d_sign_at : Df K "sign_at" st_sign_at
  d_on_flat : Df K "on_flat" st_on_flat
  d__law_hand_right : Df K "_law_hand_right" st__law_hand_right
  d__law_begun : Df K "_law_begun" st__law_begun
  d__law_draw : Df K "_law_draw" st__law_draw
  d__law_of : Df K "_law_of" st__law_of
  d__law_rows : Df K "_law_rows" st__law_rows
  d__law_common : Df K "_law_common" st__law_common
  d__law_lowered : Df K "_law_lowered" st__law_lowered
  d__law_cleared : Df K "_law_cleared" st__law_cleared
  d__law_reduced : Df K "_law_reduced" st__law_reduced
  d__law_flat : Df K "_law_flat" st__law_flat
  d__law_leads : Df K "_law_leads" st__law_leads
  d_check_point : Df K "check_point" st_check_point
  d_check_direction : Df K "check_direction" st_check_direction
  d__law_total : Df K "_law_total" st__law_total
  d__law_point : Df K "_law_point" st__law_point
  d__law_along : Df K "_law_along" st__law_along
  d__law_inside_right : Df K "_law_inside_right" st__law_inside_right
  d__law_bent : Df K "_law_bent" st__law_bent
  d__law_heard : Df K "_law_heard" st__law_heard
  d__law_fault : Df K "_law_fault" st__law_fault
  d_law : Df K "law" st_law
  k_NotRow : Cd1 K "NotRow" "NotRow.__init__" st_iNotRow "place" C_NotRow
  k_NotNumber : Cd1 K "NotNumber" "NotNumber.__init__" st_iNotNumber "value" C_NotNumber
  s_NotRow_NotRow : PySem.W.subIn K (.ref C_NotRow) (.ref C_NotRow) = some true
  z_isinstance : PySem.W.nsIn K mainGlobals "isinstance" = some none
  z_int : PySem.W.nsIn K mainGlobals "int" = some none
  z_bool : PySem.W.nsIn K mainGlobals "bool" = some none
  z_tuple : PySem.W.nsIn K mainGlobals "tuple" = some none
  z_len : PySem.W.nsIn K mainGlobals "len" = some none
  z_enumerate : PySem.W.nsIn K mainGlobals "enumerate" = some none
  z_sum : PySem.W.nsIn K mainGlobals "sum" = some none
  z_list : PySem.W.nsIn K mainGlobals "list" = some none
  z_zip : PySem.W.nsIn K mainGlobals "zip" = some none
  z_range : PySem.W.nsIn K mainGlobals "range" = some none
  z_abs : PySem.W.nsIn K mainGlobals "abs" = some none
  z_repr : PySem.W.nsIn K mainGlobals "repr" = some none
  z_max : PySem.W.nsIn K mainGlobals "max" = some none
  z_min : PySem.W.nsIn K mainGlobals "min" = some none
  z_sorted : PySem.W.nsIn K mainGlobals "sorted" = some none
  z_all : PySem.W.nsIn K mainGlobals "all" = some none
  m_gcd : PySem.W.nsIn K mainGlobals "gcd" = some (some (.builtin "math.gcd"))
  m_lcm : PySem.W.nsIn K mainGlobals "lcm" = some (some (.builtin "math.lcm"))
theorem all_ok {P : Program} {w : World} {K : PySem.W.Frag} {h base : Heap} {mg : Str → Option Value} {f C_NotRow C_NotNumber : Addr} {fd : FuncData} [Nm] (X : K.In h) (G : h.Ns mainGlobals mg) (t : Tops K C_NotRow C_NotNumber) (F : Fun K "law" "law" st_law f fd) : FnG P w K mg base CX0 9 f fd ["script"] (spR K R_law) := by
  have no : ∀ {x : Str}, PySem.W.nsIn K mainGlobals x = some none → mg x = none := fun {x} e => PySem.W.mg_none_of X G e
  have T : Tx mg := ⟨no t.z_isinstance, no t.z_int, no t.z_bool, no t.z_tuple, no t.z_len, no t.z_enumerate, no t.z_sum, no t.z_list, no t.z_zip, no t.z_range, no t.z_abs, no t.z_repr, no t.z_max, no t.z_min, PySem.W.mg_of X G t.m_gcd⟩
  have i_NotRow : ClsI P w K mg base 1 "NotRow" ["place"] := clsI_mk X G t.k_NotRow sc_iNotRow rfl (.inl rfl) (.inl rfl) (by decide) (by decide) (fun _ => rfl) fun _ _ _ _ _ _ _ _ => rfl
  have i_NotNumber : ClsI P w K mg base 1 "NotNumber" ["value"] := clsI_mk X G t.k_NotNumber sc_iNotNumber rfl (.inl rfl) (.inl rfl) (by decide) (by decide) (fun _ => rfl) fun _ _ _ _ _ _ _ _ => rfl
  have c__law_like : CalG P w K mg base 1 "_law_like" ["told", "due"] (spR K R_like) := calG_mk X G t.d__law_like (tk2 fun _ _ _ _ _ _ _ _ => rfl) fun f fd F => ok_like F T
  have c_first_place : Cal P w K mg base 1 "first_place" ["numbers"] (spR K R_first) := cal_mk X G t.d_first_place (tk1 fun _ _ _ _ _ _ _ => rfl) fun f fd F => ok_first F T
  have c_leading_place : Cal P w K mg base 2 "leading_place" ["plane"] (spR K R_lp) := cal_mk X G t.d_leading_place (tk1 fun _ _ _ _ _ _ _ => rfl) fun f fd F => ok_lp F c_first_place
  have c__cleared : Cal P w K mg base 3 "_cleared" ["row", "plane"] (spR K R_clr) := cal_mk X G t.d__cleared (tk2 fun _ _ _ _ _ _ _ _ => rfl) fun f fd F => ok_clr F T c_leading_place
  have c_cleared_by_all : Cal P w K mg base 4 "cleared_by_all" ["row", "planes"] (spR K R_ca) := cal_mk X G t.d_cleared_by_all (tk2 fun _ _ _ _ _ _ _ _ => rfl) fun f fd F => ok_ca F c__cleared
  have c_common_divisor : Cal P w K mg base 1 "common_divisor" ["numbers"] (spR K R_cd) := cal_mk X G t.d_common_divisor (tk1 fun _ _ _ _ _ _ _ => rfl) fun f fd F => ok_cd F T
  have c_shortened : Cal P w K mg base 2 "shortened" ["numbers"] (spR K R_short) := cal_mk X G t.d_shortened (tk1 fun _ _ _ _ _ _ _ => rfl) fun f fd F => ok_short F T c_common_divisor
  have c_plane_of : Cal P w K mg base 3 "plane_of" ["row"] (spR K R_plane) := cal_mk X G t.d_plane_of (tk1 fun _ _ _ _ _ _ _ => rfl) fun f fd F => ok_plane F T c_first_place c_shortened
  have c_flat_of : Cal P w K mg base 5 "flat_of" ["dimension", "rows"] (spR K R_flat) := cal_mk X G t.d_flat_of (tk2 fun _ _ _ _ _ _ _ _ => rfl) fun f fd F => ok_flat F T (no t.z_sorted) c_cleared_by_all c_plane_of c__cleared c_leading_place
  have k_flat_of : CalK P w K mg base 5 "flat_of" st_flat_of ["dimension", "rows"] (spR K R_flat) := calK_mk X G t.d_flat_of fun f fd F => ok_flat F T (no t.z_sorted) c_cleared_by_all c_plane_of c__cleared c_leading_place
  have c_common_multiple : Cal P w K mg base 1 "common_multiple" ["numbers"] (spR K R_cm) := cal_mk X G t.d_common_multiple (tk1 fun _ _ _ _ _ _ _ => rfl) fun f fd F => ok_cm F T (PySem.W.mg_of X G t.m_lcm)
  have c_direction_of : Cal P w K mg base 3 "direction_of" ["numbers"] (spR K R_dir) := cal_mk X G t.d_direction_of (tk1 fun _ _ _ _ _ _ _ => rfl) fun f fd F => ok_dir F c_common_divisor c_shortened
  have c_flat_directions : Cal P w K mg base 4 "flat_directions" ["dimension", "flat"] (spR K R_fdir) := cal_mk X G t.d_flat_directions (tk2 fun _ _ _ _ _ _ _ _ => rfl) fun f fd F => ok_fdir F T c_leading_place c_common_multiple c_direction_of
  have k_flat_directions : CalK P w K mg base 4 "flat_directions" st_flat_directions ["dimension", "flat"] (spR K R_fdir) := calK_mk X G t.d_flat_directions fun f fd F => ok_fdir F T c_leading_place c_common_multiple c_direction_of
  have c_lowest : CalX P w K mg base 3 "lowest" ["top", "bottom"] (spX K mg R_low) := calX_mk X G t.d_lowest (tk2 fun _ _ _ _ _ _ _ _ => rfl) fun f fd F => ok_low F T i_NotNumber
  have c_point_of : Cal P w K mg base 2 "point_of" ["coordinates"] (spR K R_ptof) := cal_mk X G t.d_point_of (tk1 fun _ _ _ _ _ _ _ => rfl) fun f fd F => ok_ptof F T c_common_multiple
  have c_flat_point : Cal P w K mg base 4 "flat_point" ["dimension", "flat"] (spR K R_fpt) := cal_mk X G t.d_flat_point (tk2 fun _ _ _ _ _ _ _ _ => rfl) fun f fd F => ok_fpt F T c_leading_place c_lowest c_point_of
  have k_flat_point : CalK P w K mg base 4 "flat_point" st_flat_point ["dimension", "flat"] (spR K R_fpt) := calK_mk X G t.d_flat_point fun f fd F => ok_fpt F T c_leading_place c_lowest c_point_of
  have c_flat_meet : Cal P w K mg base 6 "flat_meet" ["dimension", "flat", "other"] (spR K R_meet) := cal_mk X G t.d_flat_meet (tk3 fun _ _ _ _ _ _ _ _ _ => rfl) fun f fd F => ok_meet F c_flat_of
  have k_flat_meet : CalK P w K mg base 6 "flat_meet" st_flat_meet ["dimension", "flat", "other"] (spR K R_meet) := calK_mk X G t.d_flat_meet fun f fd F => ok_meet F c_flat_of
  have c_flat_in : Cal P w K mg base 7 "flat_in" ["dimension", "flat", "other"] (spR K R_in) := cal_mk X G t.d_flat_in (tk3 fun _ _ _ _ _ _ _ _ _ => rfl) fun f fd F => ok_in F c_flat_meet
  have k_flat_in : CalK P w K mg base 7 "flat_in" st_flat_in ["dimension", "flat", "other"] (spR K R_in) := calK_mk X G t.d_flat_in fun f fd F => ok_in F c_flat_meet
  have c_is_whole : Cal P w K mg base 1 "is_whole" ["value"] (spR K R_whole) := cal_mk X G t.d_is_whole (tk1 fun _ _ _ _ _ _ _ => rfl) fun f fd F => ok_whole F T
  have c_wrong_place : Cal P w K mg base 2 "wrong_place" ["value", "many"] (spR K R_wrong) := cal_mk X G t.d_wrong_place (tk2 fun _ _ _ _ _ _ _ _ => rfl) fun f fd F => ok_wrong F T c_is_whole
  have c_check_flat : CalX P w K mg base 6 "check_flat" ["dimension", "value"] (spX K mg R_chf) := calX_mk X G t.d_check_flat (tk2 fun _ _ _ _ _ _ _ _ => rfl) fun f fd F => ok_chf F T i_NotRow c_wrong_place c_flat_of
  have k_check_flat : CalXK P w K mg base 6 "check_flat" st_check_flat ["dimension", "value"] (spX K mg R_chf) := calXK_mk X G t.d_check_flat fun f fd F => ok_chf F T i_NotRow c_wrong_place c_flat_of
  have c_flat_dimension : Cal P w K mg base 1 "flat_dimension" ["dimension", "flat"] (spR K R_fdim) := cal_mk X G t.d_flat_dimension (tk2 fun _ _ _ _ _ _ _ _ => rfl) fun f fd F => ok_fdim F T
  have k_flat_dimension : CalK P w K mg base 1 "flat_dimension" st_flat_dimension ["dimension", "flat"] (spR K R_fdim) := calK_mk X G t.d_flat_dimension fun f fd F => ok_fdim F T
  have c_sign_of : Cal P w K mg base 1 "sign_of" ["number"] (spR K R_sign) := cal_mk X G t.d_sign_of (tk1 fun _ _ _ _ _ _ _ => rfl) fun f fd F => ok_sign F
  have c_weighed : Cal P w K mg base 1 "weighed" ["row", "point"] (spR K R_weighed) := cal_mk X G t.d_weighed (tk2 fun _ _ _ _ _ _ _ _ => rfl) fun f fd F => ok_weighed F T
  have c_sign_at : Cal P w K mg base 2 "sign_at" ["row", "point"] (spR K R_signat) := cal_mk X G t.d_sign_at (tk2 fun _ _ _ _ _ _ _ _ => rfl) fun f fd F => ok_signat F c_sign_of c_weighed
  have c_on_flat : Cal P w K mg base 3 "on_flat" ["flat", "point"] (spR K R_on) := cal_mk X G t.d_on_flat (tk2 fun _ _ _ _ _ _ _ _ => rfl) fun f fd F => ok_on F (no t.z_all) c_sign_at
  have k_on_flat : CalK P w K mg base 3 "on_flat" st_on_flat ["flat", "point"] (spR K R_on) := calK_mk X G t.d_on_flat fun f fd F => ok_on F (no t.z_all) c_sign_at
  have c__law_hand_right : CalG P w K mg base 8 "_law_hand_right" [] (spR K R_hand) := calG_mk X G t.d__law_hand_right (tk0 fun _ _ _ _ _ _ => rfl) fun f fd F => ok_hand F c__law_like c_flat_of c_flat_directions c_flat_point c_flat_meet k_flat_in k_flat_of k_check_flat k_flat_dimension k_on_flat k_flat_meet k_flat_point k_flat_directions
  have c__law_begun : CalG P w K mg base 1 "_law_begun" ["script", "k"] (spB K) := calG_mk X G t.d__law_begun (tk2 fun _ _ _ _ _ _ _ _ => rfl) fun f fd F => ok_begun F T
  have c__law_draw : CalG P w K mg base 1 "_law_draw" ["m", "bound"] (spM K 1 R_draw) := calG_mk X G t.d__law_draw (tk2 fun _ _ _ _ _ _ _ _ => rfl) fun f fd F => ok_draw F T
  have c__law_of : CalG P w K mg base 2 "_law_of" ["m", "some"] (spM K 1 fun ds Q => ∃ es, ds = [.list es] ∧ 1 ≤ es.length ∧ es.length ≤ 1000 ∧ ∀ d ∈ es, Q d) := calG_mk X G t.d__law_of (tk2 fun _ _ _ _ _ _ _ _ => rfl) fun f fd F => ok_of F T c__law_draw
  have c__law_rows : CalG P w K mg base 3 "_law_rows" ["m", "dimension_so", "count"] (spM K 45 R_lrows) := calG_mk X G t.d__law_rows (tk3 fun _ _ _ _ _ _ _ _ _ => rfl) fun f fd F => ok_lrows F T c__law_draw c__law_of
  have c__law_common : Cal P w K mg base 1 "_law_common" ["numbers"] (spR K R_cd) := cal_mk X G t.d__law_common (tk1 fun _ _ _ _ _ _ _ => rfl) fun f fd F => ok_common F T
  have c__law_lowered : Cal P w K mg base 2 "_law_lowered" ["numbers"] (spR K R_short) := cal_mk X G t.d__law_lowered (tk1 fun _ _ _ _ _ _ _ => rfl) fun f fd F => ok_lowered F T c__law_common
  have c__law_cleared : Cal P w K mg base 3 "_law_cleared" ["row", "head", "place"] (spR K R_lclr) := cal_mk X G t.d__law_cleared (tk3 fun _ _ _ _ _ _ _ _ _ => rfl) fun f fd F => ok_lclr F T c__law_lowered
  have c__law_reduced : Cal P w K mg base 4 "_law_reduced" ["rows_so", "width"] (spR K R_lred) := cal_mk X G t.d__law_reduced (tk2 fun _ _ _ _ _ _ _ _ => rfl) fun f fd F => ok_lred F T c__law_lowered c__law_cleared
  have c__law_flat : Cal P w K mg base 5 "_law_flat" ["dimension_so", "rows_so"] (spR K R_lflat) := cal_mk X G t.d__law_flat (tk2 fun _ _ _ _ _ _ _ _ => rfl) fun f fd F => ok_lflat F T c__law_reduced
  have c__law_leads : Cal P w K mg base 1 "_law_leads" ["flat_so"] (spR K R_leads) := cal_mk X G t.d__law_leads (tk1 fun _ _ _ _ _ _ _ => rfl) fun f fd F => ok_leads F T
  have c_check_point : Cal P w K mg base 3 "check_point" ["dimension", "value"] (spR K R_cpt) := cal_mk X G t.d_check_point (tk2 fun _ _ _ _ _ _ _ _ => rfl) fun f fd F => ok_cpt F c_wrong_place c_common_divisor
  have c_check_direction : Cal P w K mg base 3 "check_direction" ["dimension", "value"] (spR K R_cdi) := cal_mk X G t.d_check_direction (tk2 fun _ _ _ _ _ _ _ _ => rfl) fun f fd F => ok_cdi F c_wrong_place c_common_divisor
  have c__law_total : Cal P w K mg base 1 "_law_total" ["row", "point_so"] (spR K R_weighed) := cal_mk X G t.d__law_total (tk2 fun _ _ _ _ _ _ _ _ => rfl) fun f fd F => ok_total F T
  have c__law_point : Cal P w K mg base 3 "_law_point" ["numbers", "bottom"] (spR K R_point) := cal_mk X G t.d__law_point (tk2 fun _ _ _ _ _ _ _ _ => rfl) fun f fd F => ok_point F T c__law_lowered
  have c__law_along : Cal P w K mg base 4 "_law_along" ["point_so", "way", "top", "bottom"] (spR K R_along) := cal_mk X G t.d__law_along (tk4 fun _ _ _ _ _ _ _ _ _ _ => rfl) fun f fd F => ok_along F T c__law_point
  have c__law_inside_right : CalG P w K mg base 5 "_law_inside_right" ["m", "dimension_so", "flat_so"] (spM K 39 R_inside) := calG_mk X G t.d__law_inside_right (tk3 fun _ _ _ _ _ _ _ _ _ => rfl) fun f fd F => ok_inside F T c__law_draw c__law_like c__law_leads c_flat_point c_flat_directions c_flat_dimension c_check_point c_check_direction c__law_total c__law_along c__law_point c_on_flat
  have c__law_bent : CalG P w K mg base 3 "_law_bent" ["m", "dimension_so", "flat_so"] (spM K 4 R_bent) := calG_mk X G t.d__law_bent (tk3 fun _ _ _ _ _ _ _ _ _ => rfl) fun f fd F => ok_bent F T c__law_draw c__law_of
  have c__law_heard : Cal P w K mg base 7 "_law_heard" ["dimension_so", "value_so"] (spR K R_hv) := cal_mk X G t.d__law_heard (tk2 fun _ _ _ _ _ _ _ _ => rfl) fun f fd F => ok_heard F (xcF_mk X G t.k_NotRow) (exm_mk X G t.k_NotRow.a t.k_NotRow t.s_NotRow_NotRow) c_check_flat
  have c__law_fault : Cal P w K mg base 6 "_law_fault" ["dimension_so", "value_so"] (spR K R_hv) := cal_mk X G t.d__law_fault (tk2 fun _ _ _ _ _ _ _ _ => rfl) fun f fd F => ok_fault F T c__law_flat
  exact ok_law F T c__law_hand_right c__law_begun c__law_draw c__law_like c__law_rows c__law_flat c_flat_of c_flat_meet c__law_inside_right c_flat_in c__law_bent c__law_heard c__law_fault
theorem fin {P : Program} {w : World} {K : PySem.W.Frag} {h : Heap} {mg : Str → Option Value} {fa C_NotRow C_NotNumber : Addr} (X : K.In h) (G : h.Ns mainGlobals mg) (hfa : mg "law" = some (.ref fa)) (t : Tops K C_NotRow C_NotNumber) :
    ∃ (fd : FuncData) (cs : List (Addr × Addr)) (sp : Sp), LawG P w K 9 63 "script" mg fa h fd cs sp := by
  obtain ⟨f, fd, a, F⟩ := t.d_law.ex
  have e := hfa.symm.trans (PySem.W.mg_of X G a)
  cases e
  let I : Nm := ⟨fun _ => PySem.Str.ofString "", []⟩
  refine ⟨fd, [], spR K R_law, ⟨nofun, nofun, nofun, fun s u => ?_, fun H q ns hl hb hH hS => ?_, fun base _ _ htb => ?_⟩⟩
  · obtain ⟨oc, od, kV, doc, pm, an, cdv, ct, osl, rfl, _⟩ := F.ex
    exact .of_eq rfl
  · refine ⟨fun _ => False, [lI ns], .bool true, .nothing fun Q hQ => ?_, ?_, ⟨ns, rfl, hl, fun z hz => ?_, rfl⟩, fun v H' _ p => dp_bool p⟩
    · have hQ : Q ∈ ([] : List Addr) := hQ
      cases hQ
    · rw [off_nothing]
      exact .cons (.lst hS (dps_ints ns)) .nil
    · exact Nat.lt_of_lt_of_le (natAbs_lt_pow_bits z) (Nat.pow_le_pow_right (by decide) (Nat.le_trans (hb z hz) (by decide)))
  · exact all_ok X G t F
end K4
open PySem PySem.W PyProof.Rows
set_option maxRecDepth 100000 in
set_option maxHeartbeats 0 in
theorem PySem.Challenge.cw_onesolid_k04_whole_flats_holds : PySem.Challenge.rw_onesolid_k04_whole_flats.Holds := by
  w_on; o_law; k_head; (case hw => w_witness2)
  k_fill
  refine Zj.walk_GT (l := PySem.Challenge.rw_onesolid_k04_whole_flats) (n := 63) (k := 9) (x := "script") rfl (by decide) rfl ⟨rfl, by decide, by decide⟩ (fun w h Y => PySem.W.kIn_of Y) ?F
  case F =>
    intro w mg fa h Y KX G hmg
    letI : Zj.Nm := ⟨fun _ => PySem.Str.ofString "", []⟩
    refine' K4.fin KX G hmg ?t
    case t =>
      refine' K4.Tops.mk ?d__law_like ?d_first_place ?d_leading_place ?d__cleared ?d_cleared_by_all ?d_common_divisor ?d_shortened ?d_plane_of ?d_flat_of ?d_common_multiple ?d_direction_of ?d_flat_directions ?d_lowest ?d_point_of ?d_flat_point ?d_flat_meet ?d_flat_in ?d_is_whole ?d_wrong_place ?d_check_flat ?d_flat_dimension ?d_sign_of ?d_weighed ?d_sign_at ?d_on_flat ?d__law_hand_right ?d__law_begun ?d__law_draw ?d__law_of ?d__law_rows ?d__law_common ?d__law_lowered ?d__law_cleared ?d__law_reduced ?d__law_flat ?d__law_leads ?d_check_point ?d_check_direction ?d__law_total ?d__law_point ?d__law_along ?d__law_inside_right ?d__law_bent ?d__law_heard ?d__law_fault ?d_law ?k_NotRow ?k_NotNumber ?s_NotRow_NotRow ?z_isinstance ?z_int ?z_bool ?z_tuple ?z_len ?z_enumerate ?z_sum ?z_list ?z_zip ?z_range ?z_abs ?z_repr ?z_max ?z_min ?z_sorted ?z_all ?m_gcd ?m_lcm
      (case d__law_like => (refine' Zj.df_mk ?a ?l ?c ?k; (case a => k_is); (case l => k_is); (case c => k_is); (case k => k_is)))
      (case d_first_place => (refine' Zj.df_mk ?a ?l ?c ?k; (case a => k_is); (case l => k_is); (case c => k_is); (case k => k_is)))
      (case d_leading_place => (refine' Zj.df_mk ?a ?l ?c ?k; (case a => k_is); (case l => k_is); (case c => k_is); (case k => k_is)))
      (case d__cleared => (refine' Zj.df_mk ?a ?l ?c ?k; (case a => k_is); (case l => k_is); (case c => k_is); (case k => k_is)))
      (case d_cleared_by_all => (refine' Zj.df_mk ?a ?l ?c ?k; (case a => k_is); (case l => k_is); (case c => k_is); (case k => k_is)))
      (case d_common_divisor => (refine' Zj.df_mk ?a ?l ?c ?k; (case a => k_is); (case l => k_is); (case c => k_is); (case k => k_is)))
      (case d_shortened => (refine' Zj.df_mk ?a ?l ?c ?k; (case a => k_is); (case l => k_is); (case c => k_is); (case k => k_is)))
      (case d_plane_of => (refine' Zj.df_mk ?a ?l ?c ?k; (case a => k_is); (case l => k_is); (case c => k_is); (case k => k_is)))
      (case d_flat_of => (refine' Zj.df_mk ?a ?l ?c ?k; (case a => k_is); (case l => k_is); (case c => k_is); (case k => k_is)))
      (case d_common_multiple => (refine' Zj.df_mk ?a ?l ?c ?k; (case a => k_is); (case l => k_is); (case c => k_is); (case k => k_is)))
      (case d_direction_of => (refine' Zj.df_mk ?a ?l ?c ?k; (case a => k_is); (case l => k_is); (case c => k_is); (case k => k_is)))
      (case d_flat_directions => (refine' Zj.df_mk ?a ?l ?c ?k; (case a => k_is); (case l => k_is); (case c => k_is); (case k => k_is)))
      (case d_lowest => (refine' Zj.df_mk ?a ?l ?c ?k; (case a => k_is); (case l => k_is); (case c => k_is); (case k => k_is)))
      (case d_point_of => (refine' Zj.df_mk ?a ?l ?c ?k; (case a => k_is); (case l => k_is); (case c => k_is); (case k => k_is)))
      (case d_flat_point => (refine' Zj.df_mk ?a ?l ?c ?k; (case a => k_is); (case l => k_is); (case c => k_is); (case k => k_is)))
      (case d_flat_meet => (refine' Zj.df_mk ?a ?l ?c ?k; (case a => k_is); (case l => k_is); (case c => k_is); (case k => k_is)))
      (case d_flat_in => (refine' Zj.df_mk ?a ?l ?c ?k; (case a => k_is); (case l => k_is); (case c => k_is); (case k => k_is)))
      (case d_is_whole => (refine' Zj.df_mk ?a ?l ?c ?k; (case a => k_is); (case l => k_is); (case c => k_is); (case k => k_is)))
      (case d_wrong_place => (refine' Zj.df_mk ?a ?l ?c ?k; (case a => k_is); (case l => k_is); (case c => k_is); (case k => k_is)))
      (case d_check_flat => (refine' Zj.df_mk ?a ?l ?c ?k; (case a => k_is); (case l => k_is); (case c => k_is); (case k => k_is)))
      (case d_flat_dimension => (refine' Zj.df_mk ?a ?l ?c ?k; (case a => k_is); (case l => k_is); (case c => k_is); (case k => k_is)))
      (case d_sign_of => (refine' Zj.df_mk ?a ?l ?c ?k; (case a => k_is); (case l => k_is); (case c => k_is); (case k => k_is)))
      (case d_weighed => (refine' Zj.df_mk ?a ?l ?c ?k; (case a => k_is); (case l => k_is); (case c => k_is); (case k => k_is)))
      (case d_sign_at => (refine' Zj.df_mk ?a ?l ?c ?k; (case a => k_is); (case l => k_is); (case c => k_is); (case k => k_is)))
      (case d_on_flat => (refine' Zj.df_mk ?a ?l ?c ?k; (case a => k_is); (case l => k_is); (case c => k_is); (case k => k_is)))
      (case d__law_hand_right => (refine' Zj.df_mk ?a ?l ?c ?k; (case a => k_is); (case l => k_is); (case c => k_is); (case k => k_is)))
      (case d__law_begun => (refine' Zj.df_mk ?a ?l ?c ?k; (case a => k_is); (case l => k_is); (case c => k_is); (case k => k_is)))
      (case d__law_draw => (refine' Zj.df_mk ?a ?l ?c ?k; (case a => k_is); (case l => k_is); (case c => k_is); (case k => k_is)))
      (case d__law_of => (refine' Zj.df_mk ?a ?l ?c ?k; (case a => k_is); (case l => k_is); (case c => k_is); (case k => k_is)))
      (case d__law_rows => (refine' Zj.df_mk ?a ?l ?c ?k; (case a => k_is); (case l => k_is); (case c => k_is); (case k => k_is)))
      (case d__law_common => (refine' Zj.df_mk ?a ?l ?c ?k; (case a => k_is); (case l => k_is); (case c => k_is); (case k => k_is)))
      (case d__law_lowered => (refine' Zj.df_mk ?a ?l ?c ?k; (case a => k_is); (case l => k_is); (case c => k_is); (case k => k_is)))
      (case d__law_cleared => (refine' Zj.df_mk ?a ?l ?c ?k; (case a => k_is); (case l => k_is); (case c => k_is); (case k => k_is)))
      (case d__law_reduced => (refine' Zj.df_mk ?a ?l ?c ?k; (case a => k_is); (case l => k_is); (case c => k_is); (case k => k_is)))
      (case d__law_flat => (refine' Zj.df_mk ?a ?l ?c ?k; (case a => k_is); (case l => k_is); (case c => k_is); (case k => k_is)))
      (case d__law_leads => (refine' Zj.df_mk ?a ?l ?c ?k; (case a => k_is); (case l => k_is); (case c => k_is); (case k => k_is)))
      (case d_check_point => (refine' Zj.df_mk ?a ?l ?c ?k; (case a => k_is); (case l => k_is); (case c => k_is); (case k => k_is)))
      (case d_check_direction => (refine' Zj.df_mk ?a ?l ?c ?k; (case a => k_is); (case l => k_is); (case c => k_is); (case k => k_is)))
      (case d__law_total => (refine' Zj.df_mk ?a ?l ?c ?k; (case a => k_is); (case l => k_is); (case c => k_is); (case k => k_is)))
      (case d__law_point => (refine' Zj.df_mk ?a ?l ?c ?k; (case a => k_is); (case l => k_is); (case c => k_is); (case k => k_is)))
      (case d__law_along => (refine' Zj.df_mk ?a ?l ?c ?k; (case a => k_is); (case l => k_is); (case c => k_is); (case k => k_is)))
      (case d__law_inside_right => (refine' Zj.df_mk ?a ?l ?c ?k; (case a => k_is); (case l => k_is); (case c => k_is); (case k => k_is)))
      (case d__law_bent => (refine' Zj.df_mk ?a ?l ?c ?k; (case a => k_is); (case l => k_is); (case c => k_is); (case k => k_is)))
      (case d__law_heard => (refine' Zj.df_mk ?a ?l ?c ?k; (case a => k_is); (case l => k_is); (case c => k_is); (case k => k_is)))
      (case d__law_fault => (refine' Zj.df_mk ?a ?l ?c ?k; (case a => k_is); (case l => k_is); (case c => k_is); (case k => k_is)))
      (case d_law => (refine' Zj.df_mk ?a ?l ?c ?k; (case a => k_is); (case l => k_is); (case c => k_is); (case k => k_is)))
      (case k_NotRow => (refine' Zj.cd1_mk ?a ?l ?bm ?sa ?eC ?tC ?kC ?i ?ti ?li ?ci ?ki ?nf ?ga ?gg ?hd; (case a => k_is); (case l => k_is); (case bm => decide +kernel); (case sa => k_is); (case eC => k_is); (case tC => k_is); (case kC => k_is); (case i => k_is); (case ti => k_is); (case li => k_is); (case ci => k_is); (case ki => k_is); (case nf => k_is); (case ga => k_is); (case gg => k_is); (case hd => k_is)))
      (case k_NotNumber => (refine' Zj.cd1_mk ?a ?l ?bm ?sa ?eC ?tC ?kC ?i ?ti ?li ?ci ?ki ?nf ?ga ?gg ?hd; (case a => k_is); (case l => k_is); (case bm => decide +kernel); (case sa => k_is); (case eC => k_is); (case tC => k_is); (case kC => k_is); (case i => k_is); (case ti => k_is); (case li => k_is); (case ci => k_is); (case ki => k_is); (case nf => k_is); (case ga => k_is); (case gg => k_is); (case hd => k_is)))
      (case s_NotRow_NotRow => k_is)
      (case z_isinstance => k_is)
      (case z_int => k_is)
      (case z_bool => k_is)
      (case z_tuple => k_is)
      (case z_len => k_is)
      (case z_enumerate => k_is)
      (case z_sum => k_is)
      (case z_list => k_is)
      (case z_zip => k_is)
      (case z_range => k_is)
      (case z_abs => k_is)
      (case z_repr => k_is)
      (case z_max => k_is)
      (case z_min => k_is)
      (case z_sorted => k_is)
      (case z_all => k_is)
      (case m_gcd => k_is)
      (case m_lcm => k_is)
#print axioms PySem.Challenge.cw_onesolid_k04_whole_flats_holds
