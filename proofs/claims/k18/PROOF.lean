import PyProof.Rows.All
import Wide.All
import OpenK.AllK
import Wide.FinOn
import HandS.ForMost
import HandS.Deep
import HandS.Wide
import HandS.SortKw
import HandS.Flow
import HandS.IsInst
import HandS.TupAny
import HandS.Style
import HandS.More
import HandS.TupSets
import KE.GoesSet
import KE.GoesMore
import PyProof.EnumMake
import KE.KDictZip
import KE.GoesEnum
import PySem.Challenge.RW_shadeseats_k18_whole_shades_of_parts
set_option Elab.async false
set_option linter.all false
set_option maxRecDepth 100000
/-! Fn1: a functional reading over the hand layer: data (PyData) at slots, lists that a def owns, what an expression is worth as a function of the slots. -/
namespace Fn
open PySem PySem.Spec L2
open PyProof.Rows hiding St

/-! ### data of the heap but for what is owned -/
def hide (O : List Addr) (H : Hp) : Hp := fun a => if a ∈ O then none else H a
theorem hide_in {O : List Addr} {H : Hp} {a : Addr} (h : a ∈ O) : hide O H a = none := by unfold hide; rw [if_pos h]
theorem hide_out {O : List Addr} {H : Hp} {a : Addr} (h : a ∉ O) : hide O H a = H a := by unfold hide; rw [if_neg h]
theorem rd_mono {H H' : Hp} {a : Addr} {u : HO} (e : Same H H') (h : Rd H a u) : Rd H' a u := by
  rcases h with h | ⟨o, h⟩
  · exact .inl (e _ _ h)
  · exact .inr ⟨o, e _ _ h⟩
theorem sqL_mono {K : PySem.W.Frag} {H H' : Hp} {a : Addr} {xs : List V} (e : Same H H') (h : SqL K H a xs) : SqL K H' a xs := by
  rcases h with h | h
  · exact .inl (rd_mono e h)
  · exact .inr h
theorem sqT_mono {K : PySem.W.Frag} {H H' : Hp} {a : Addr} {xs : List V} (e : Same H H') (h : SqT K H a xs) : SqT K H' a xs := by
  rcases h with h | h
  · exact .inl (rd_mono e h)
  · exact .inr h
mutual
theorem dp_mono {K : PySem.W.Frag} {H H' : Hp} (e : Same H H') : ∀ (d : PyData) (v : V), Dp K H v d → Dp K H' v d
  | .none, _, .non => .non
  | .bool _, _, .bl _ => .bl _
  | .int _, _, .int _ => .int _
  | .str _, _, .str _ => .str _
  | .list _, _, .lst h t => .lst (sqL_mono e h) (dpAll_mono e _ _ t)
  | .tuple _, _, .tup h t => .tup (sqT_mono e h) (dpAll_mono e _ _ t)
theorem dpAll_mono {K : PySem.W.Frag} {H H' : Hp} (e : Same H H') : ∀ (ds : List PyData) (vs : List V), DpAll K H vs ds → DpAll K H' vs ds
  | [], _, .nil => .nil
  | _ :: _, _, .cons h t => .cons (dp_mono e _ _ h) (dpAll_mono e _ _ t)
end
theorem dpAll_len {K : PySem.W.Frag} {H : Hp} : ∀ {ds : List PyData} {vs : List V}, DpAll K H vs ds → vs.length = ds.length
  | [], _, .nil => rfl
  | _ :: _, _, .cons _ t => by simp [dpAll_len t]
theorem dpAll_get {K : PySem.W.Frag} {H : Hp} : ∀ {ds : List PyData} {vs : List V} {i : Nat} {d : PyData}, DpAll K H vs ds → ds[i]? = some d → ∃ v, vs[i]? = some v ∧ Dp K H v d
  | [], _, _, _, .nil, e => by simp at e
  | _ :: _, _, 0, d, .cons h _, e => by simp at e; subst e; exact ⟨_, rfl, h⟩
  | _ :: _, _, i + 1, d, .cons _ t, e => by
    obtain ⟨v, e1, h1⟩ := dpAll_get (i := i) t (by simpa using e)
    exact ⟨v, by simpa using e1, h1⟩
theorem dpAll_getV {K : PySem.W.Frag} {H : Hp} : ∀ {ds : List PyData} {vs : List V} {i : Nat} {v : V}, DpAll K H vs ds → vs[i]? = some v → ∃ d, ds[i]? = some d ∧ Dp K H v d
  | [], _, _, _, .nil, e => by simp at e
  | _ :: _, _, 0, _, .cons h _, e => by simp at e; subst e; exact ⟨_, rfl, h⟩
  | _ :: _, _, i + 1, _, .cons _ t, e => by
    obtain ⟨d, e1, h1⟩ := dpAll_getV (i := i) t (by simpa using e)
    exact ⟨d, by simpa using e1, h1⟩
theorem dpAll_app {K : PySem.W.Frag} {H : Hp} : ∀ {ds es : List PyData} {vs ws : List V}, DpAll K H vs ds → DpAll K H ws es → DpAll K H (vs ++ ws) (ds ++ es)
  | [], _, _, _, .nil, k => k
  | _ :: _, _, _, _, .cons h t, k => .cons h (dpAll_app t k)
theorem dpAll_set {K : PySem.W.Frag} {H : Hp} {v : V} {d : PyData} (hv : Dp K H v d) : ∀ {ds : List PyData} {vs : List V} (i : Nat), DpAll K H vs ds → DpAll K H (vs.set i v) (ds.set i d)
  | [], _, _, .nil => .nil
  | _ :: _, _, 0, .cons _ t => .cons hv t
  | _ :: _, _, i + 1, .cons h t => .cons h (dpAll_set hv i t)
theorem dpAll_drop {K : PySem.W.Frag} {H : Hp} : ∀ {ds : List PyData} {vs : List V} (n : Nat), DpAll K H vs ds → DpAll K H (vs.drop n) (ds.drop n)
  | _, _, 0, h => h
  | [], _, _ + 1, .nil => .nil
  | _ :: _, _, n + 1, .cons _ t => dpAll_drop n t
theorem dpAll_take {K : PySem.W.Frag} {H : Hp} : ∀ {ds : List PyData} {vs : List V} (n : Nat), DpAll K H vs ds → DpAll K H (vs.take n) (ds.take n)
  | _, _, 0, _ => .nil
  | [], _, _ + 1, .nil => .nil
  | _ :: _, _, n + 1, .cons h t => .cons h (dpAll_take n t)

/-! ### slots -/
inductive Slot where
  | no
  /-- a value that stands still -/
  | sh (d : PyData)
  /-- a list of the def's own | a list that a caller owns -/
  | own (ds : List PyData) | par (ds : List PyData)
  /-- a dict with texts as keys that stands still -/
  | dct (ks : List (Str × PyData))
abbrev Rho := List Slot
def Slot.Still : Slot → Prop
  | .sh _ => True
  | .dct _ => True
  | _ => False
/-- the pairs, laid down as keys and values -/
inductive Prs (K : PySem.W.Frag) (H : Hp) : List (Key × V) → List (Str × PyData) → Prop where
  | nil : Prs K H [] []
  | cons {k : Str} {v : V} {d : PyData} {kvs : List (Key × V)} {kds : List (Str × PyData)} : Dp K H v d → Prs K H kvs kds → Prs K H ((.inr k, v) :: kvs) ((k, d) :: kds)
theorem Prs.mono {K : PySem.W.Frag} {H H' : Hp} (s : Same H H') {kvs : List (Key × V)} {kds : List (Str × PyData)} (h : Prs K H kvs kds) : Prs K H' kvs kds := by
  induction h with
  | nil => exact .nil
  | cons d _ ih => exact .cons (dp_mono s _ _ d) ih
/-- the slot's value, of a slot that stands still -/
def Sd (K : PySem.W.Frag) (H : Hp) : Slot → V → Prop
  | .sh d, v => Dp K H v d
  | .dct ks, v => ∃ p kvs, v = .ref p ∧ H p = some (.dK kvs) ∧ Prs K H kvs ks
  | _, _ => False
theorem sd_mono {K : PySem.W.Frag} {H H' : Hp} (e : Same H H') : ∀ {s : Slot} {v : V}, Sd K H s v → Sd K H' s v
  | .sh d, v, h => dp_mono (K := K) e d v h
  | .dct _, _, ⟨p, kvs, h1, h2, h3⟩ => ⟨p, kvs, h1, e _ _ h2, h3.mono e⟩
  | .no, _, h => h.elim
  | .own _, _, h => h.elim
  | .par _, _, h => h.elim
/-- the slot holds an owned list of these -/
def Slot.Has (s : Slot) (ds : List PyData) : Prop := s = .own ds ∨ s = .par ds
def Own (σ : St) (ρ : Rho) (a : Addr) : Prop := ∃ (i : Nat) (s : Slot) (ds : List PyData), ρ[i]? = some s ∧ s.Has ds ∧ σ[i]? = some (some (.ref a))

structure EnvR (K : PySem.W.Frag) (O : List Addr) (H : Hp) (σ : St) (ρ : Rho) : Prop where
  len : σ.length = ρ.length
  sd : ∀ (i : Nat) (s : Slot), ρ[i]? = some s → s.Still → ∃ v, σ[i]? = some (some v) ∧ Sd K (hide O H) s v
  ow : ∀ (i : Nat) (s : Slot) (ds : List PyData), ρ[i]? = some s → s.Has ds → ∃ p vs, σ[i]? = some (some (.ref p)) ∧ p ∈ O ∧ H p = some (.lst vs) ∧ DpAll K (hide O H) vs ds
  di : ∀ (i j : Nat) (s t : Slot) (ds es : List PyData) (p : Addr), ρ[i]? = some s → s.Has ds → ρ[j]? = some t → t.Has es → σ[i]? = some (some (.ref p)) → σ[j]? = some (some (.ref p)) → i = j
  oa : ∀ a, a ∈ O → ∃ o, H a = some o
theorem EnvR.sh {K : PySem.W.Frag} {O : List Addr} {H : Hp} {σ : St} {ρ : Rho} (h : EnvR K O H σ ρ) (i : Nat) (d : PyData) (e : ρ[i]? = some (.sh d)) : ∃ v, σ[i]? = some (some v) ∧ Dp K (hide O H) v d := h.sd i _ e trivial
theorem Slot.Still.not {s : Slot} {ds : List PyData} (h : s.Still) (w : s.Has ds) : False := by
  rcases w with w | w <;> (subst w; exact h)
theorem Own.mem {K : PySem.W.Frag} {O : List Addr} {H : Hp} {σ : St} {ρ : Rho} (h : EnvR K O H σ ρ) {a : Addr} (w : Own σ ρ a) : a ∈ O := by
  obtain ⟨i, s, ds, e1, e2, e3⟩ := w
  obtain ⟨p, vs, e4, m, _⟩ := h.ow i s ds e1 e2
  rw [e3] at e4
  cases e4
  exact m

/-- from (O, σ, ρ, H) to (O', σ', ρ', H') -/
structure Post (K : PySem.W.Frag) (O : List Addr) (σ : St) (ρ : Rho) (H : Hp) (O' : List Addr) (σ' : St) (ρ' : Rho) (H' : Hp) : Prop where
  env : EnvR K O' H' σ' ρ'
  ex : ∀ a o, ¬ Own σ ρ a → H a = some o → H' a = some o
  fresh : ∀ a, Own σ' ρ' a → Own σ ρ a ∨ H a = none
  keep : ∀ a, a ∈ O → ¬ Own σ ρ a → a ∈ O'
  news : ∀ a, a ∈ O' → a ∈ O ∨ H a = none
  par : ∀ (i : Nat) (ds : List PyData), ρ[i]? = some (.par ds) → (∃ es, ρ'[i]? = some (.par es)) ∧ σ'[i]? = σ[i]?
theorem Post.refl {K : PySem.W.Frag} {O : List Addr} {σ : St} {ρ : Rho} {H : Hp} (h : EnvR K O H σ ρ) : Post K O σ ρ H O σ ρ H :=
  ⟨h, fun _ _ _ e => e, fun _ w => .inl w, fun _ m _ => m, fun _ m => .inl m, fun i ds e => ⟨⟨ds, e⟩, rfl⟩⟩
theorem Post.trans {K : PySem.W.Frag} {O O1 O2 : List Addr} {σ σ1 σ2 : St} {ρ ρ1 ρ2 : Rho} {H H1 H2 : Hp} (h0 : EnvR K O H σ ρ) (a : Post K O σ ρ H O1 σ1 ρ1 H1) (b : Post K O1 σ1 ρ1 H1 O2 σ2 ρ2 H2) : Post K O σ ρ H O2 σ2 ρ2 H2 where
  env := b.env
  ex := fun p o n e => by
    have e1 := a.ex p o n e
    refine b.ex p o (fun w => ?_) e1
    rcases a.fresh p w with z | z
    · exact n z
    · rw [e] at z; cases z
  fresh := fun p w => by
    rcases b.fresh p w with z | z
    · exact a.fresh p z
    · by_cases y : Own σ ρ p
      · exact .inl y
      · refine .inr ?_
        cases q : H p with
        | none => rfl
        | some o => rw [a.ex p o y q] at z; cases z
  keep := fun p m n => by
    refine b.keep p (a.keep p m n) fun w => ?_
    rcases a.fresh p w with z | z
    · exact n z
    · obtain ⟨o, e⟩ := h0.oa p m
      rw [e] at z; cases z
  news := fun p m => by
    rcases b.news p m with z | z
    · exact a.news p z
    · by_cases y : Own σ ρ p
      · exact .inl (y.mem h0)
      · refine .inr ?_
        cases q : H p with
        | none => rfl
        | some o => rw [a.ex p o y q] at z; cases z
  par := fun i ds e => by
    obtain ⟨⟨es, e1⟩, e2⟩ := a.par i ds e
    obtain ⟨⟨fs, e3⟩, e4⟩ := b.par i es e1
    exact ⟨⟨fs, e3⟩, e4.trans e2⟩
/-- what stands still is still there -/
theorem Post.hid {K : PySem.W.Frag} {O O' : List Addr} {σ σ' : St} {ρ ρ' : Rho} {H H' : Hp} (h0 : EnvR K O H σ ρ) (p : Post K O σ ρ H O' σ' ρ' H') : Same (hide O H) (hide O' H') := by
  intro a o e
  by_cases m : a ∈ O
  · rw [hide_in m] at e; cases e
  · rw [hide_out m] at e
    have e1 := p.ex a o (fun w => m (w.mem h0)) e
    by_cases m' : a ∈ O'
    · rcases p.news a m' with z | z
      · exact absurd z m
      · rw [e] at z; cases z
    · rw [hide_out m']
      exact e1
theorem same_hide {O : List Addr} {H H' : Hp} (e : Same H H') : Same (hide O H) (hide O H') := by
  intro a o h
  by_cases m : a ∈ O
  · rw [hide_in m] at h; cases h
  · rw [hide_out m] at h ⊢
    exact e _ _ h
theorem EnvR.same {K : PySem.W.Frag} {O : List Addr} {H H' : Hp} {σ : St} {ρ : Rho} (h : EnvR K O H σ ρ) (e : Same H H') : EnvR K O H' σ ρ where
  len := h.len
  sd := fun i s q w => by
    obtain ⟨v, e1, e2⟩ := h.sd i s q w
    exact ⟨v, e1, sd_mono (same_hide e) e2⟩
  ow := fun i s ds q w => by
    obtain ⟨p, vs, e1, e2, e3, e4⟩ := h.ow i s ds q w
    exact ⟨p, vs, e1, e2, e _ _ e3, dpAll_mono (same_hide e) _ _ e4⟩
  di := h.di
  oa := fun a m => by
    obtain ⟨o, q⟩ := h.oa a m
    exact ⟨o, e _ _ q⟩
theorem Post.same {K : PySem.W.Frag} {O : List Addr} {H H' : Hp} {σ : St} {ρ : Rho} (h : EnvR K O H σ ρ) (e : Same H H') : Post K O σ ρ H O σ ρ H' :=
  ⟨h.same e, fun a o _ q => e _ _ q, fun _ w => .inl w, fun _ m _ => m, fun _ m => .inl m, fun i ds q => ⟨⟨ds, q⟩, rfl⟩⟩
/-- .. and more new things -/
theorem Post.more {K : PySem.W.Frag} {O O1 : List Addr} {H H1 H2 : Hp} {σ σ1 : St} {ρ ρ1 : Rho} (h : EnvR K O H σ ρ) (a : Post K O σ ρ H O1 σ1 ρ1 H1) (e : Same H1 H2) : Post K O σ ρ H O1 σ1 ρ1 H2 :=
  a.trans h (Post.same a.env e)
theorem same_new {H : Hp} {p : Addr} {o : HO} (h : H p = none) : Same H (upd H p o) := fun b x e => by
  rw [upd_ne (ne_of_none e h)]
  exact e
theorem not_own {K : PySem.W.Frag} {O : List Addr} {H : Hp} {σ : St} {ρ : Rho} (h : EnvR K O H σ ρ) {p : Addr} (n : H p = none) : p ∉ O := fun m => by
  obtain ⟨o, e⟩ := h.oa p m
  rw [n] at e; cases e

/-! ### an expression as a function of the slots; b: it changes nothing -/
abbrev ME := Rho → Option (PyData × Rho)
def den (K : PySem.W.Frag) (b : Bool) (m : ME) : TE := fun σ H Q => ∃ ρ d ρ' O, m ρ = some (d, ρ') ∧ EnvR K O H σ ρ ∧
  ∀ v H', Post K O σ ρ H O σ ρ' H' → (b = true → ρ' = ρ ∧ Same H H') → Dp K (hide O H') v d → Q v H'
def SE (b : Bool) (X : Cx) (e : Expr) (m : ME) : Prop := PE X e (den X.K b m)
theorem PE.imp {X : Cx} {e : Expr} {t t' : TE} (h : PE X e t) (i : ∀ σ H Q, t' σ H Q → t σ H Q) : PE X e t' := ⟨fun pins s σ H Q I q => h.run pins s σ H Q I (i _ _ _ q)⟩
/-- a test -/
abbrev MT := Rho → Option (Bool × Rho)
def denT (K : PySem.W.Frag) (b : Bool) (m : MT) : TT := fun σ H Q => ∃ ρ c ρ' O, m ρ = some (c, ρ') ∧ EnvR K O H σ ρ ∧
  ∀ H', Post K O σ ρ H O σ ρ' H' → (b = true → ρ' = ρ ∧ Same H H') → Q c H'
def ST (b : Bool) (X : Cx) (e : Expr) (m : MT) : Prop := PT X e (denT X.K b m)
theorem PT.imp {X : Cx} {e : Expr} {t t' : TT} (h : PT X e t) (i : ∀ σ H Q, t' σ H Q → t σ H Q) : PT X e t' := ⟨fun pins s σ H Q I q => h.run pins s σ H Q I (i _ _ _ q)⟩
/-- arguments -/
abbrev MA := Rho → Option (List PyData × Rho)
def denA (K : PySem.W.Frag) (b : Bool) (m : MA) : TA := fun σ H Q => ∃ ρ ds ρ' O, m ρ = some (ds, ρ') ∧ EnvR K O H σ ρ ∧
  ∀ vs H', Post K O σ ρ H O σ ρ' H' → (b = true → ρ' = ρ ∧ Same H H') → DpAll K (hide O H') vs ds → Q vs H'
def SA (b : Bool) (X : Cx) (es : List Expr) (m : MA) : Prop := PA X es (denA X.K b m)
theorem PA.imp {X : Cx} {e : List Expr} {t t' : TA} (h : PA X e t) (i : ∀ σ H Q, t' σ H Q → t σ H Q) : PA X e t' := ⟨fun pos pins s σ H Q I q => h.run pos pins s σ H Q I (i _ _ _ q)⟩
/-- a list that may be an owned one: what it holds -/
def denL (K : PySem.W.Frag) (m : Rho → Option (List PyData)) : TE := fun σ H Q => ∃ ρ ds O, m ρ = some ds ∧ EnvR K O H σ ρ ∧
  ∀ a vs H', Same H H' → SqL K H' a vs → DpAll K (hide O H') vs ds → Q (.ref a) H'
def SL (X : Cx) (e : Expr) (m : Rho → Option (List PyData)) : Prop := PE X e (denL X.K m)
/-- a new list -/
def denF (K : PySem.W.Frag) (b : Bool) (m : MA) : TE := fun σ H Q => ∃ ρ ds ρ' O, m ρ = some (ds, ρ') ∧ EnvR K O H σ ρ ∧
  ∀ p vs H', H p = none → Post K O σ ρ H O σ ρ' (fun a => if a = p then none else H' a) → Post K O σ ρ H O σ ρ' H' → (b = true → ρ' = ρ ∧ Same H H') → H' p = some (.lst vs) →
    DpAll K (hide O (fun a => if a = p then none else H' a)) vs ds → Q (.ref p) H'
def SF (b : Bool) (X : Cx) (e : Expr) (m : MA) : Prop := PE X e (denF X.K b m)
end Fn

set_option Elab.async false
set_option linter.all false
set_option maxRecDepth 100000
/-! Fn2: expressions. -/
namespace Fn
open PySem PySem.Spec L2
open PyProof.Rows hiding St

section
variable {X : Cx} {K : PySem.W.Frag} {b : Bool} {e e1 e2 e3 : Expr} {es : List Expr} {m m1 m2 m3 : ME} {pos : Pos}
theorem SE.weak (h : SE true X e m) : SE b X e m := by
  refine PE.imp h fun σ H Q q => ?_
  obtain ⟨ρ, d, ρ', O, e1, env, q⟩ := q
  refine ⟨ρ, d, ρ', O, e1, env, fun v H' P u dv => q v H' P (fun _ => u rfl) dv⟩
theorem SE.low (h : SE b X e m) : SE false X e m := by
  refine PE.imp h fun σ H Q q => ?_
  obtain ⟨ρ, d, ρ', O, e1, env, q⟩ := q
  exact ⟨ρ, d, ρ', O, e1, env, fun v H' P u dv => q v H' P (fun z => nomatch z) dv⟩
/-! ### names; written values -/
def mVar (i : Nat) : ME := fun ρ => match ρ[i]? with
  | some (.sh d) => some (d, ρ)
  | _ => none
theorem mVar_of {i : Nat} {ρ ρ' : Rho} {d : PyData} (h : mVar i ρ = some (d, ρ')) : ρ[i]? = some (.sh d) ∧ ρ' = ρ := by
  unfold mVar at h
  split at h
  · rename_i d' e
    cases h
    exact ⟨e, rfl⟩
  · cases h
theorem sv (i : Nat) {x : Str} {pos : Pos} (hN : X.N[i]? = some x := by rfl) (hv : Vis X.env.scope x := by first | exact Or.inl rfl | exact Or.inr (Or.inl rfl) | exact Or.inr (Or.inr rfl)) (hd : (x == ("__debug__" : Str)) = false := by decide)
    (hcd : (x == ("__classdict__" : Str)) = false := by decide) : SE b X (.Name x pos) (mVar i) := by
  refine PE.imp (pe_var hN hv hd hcd) fun σ H Q q => ?_
  obtain ⟨ρ, d, ρ', O, e1, env, q⟩ := q
  obtain ⟨e2, rfl⟩ := mVar_of e1
  obtain ⟨v, e3, e4⟩ := env.sh i d e2
  exact ⟨v, e3, q v H (Post.refl env) (fun _ => ⟨rfl, Same.refl H⟩) e4⟩
def mC (d : PyData) : ME := fun ρ => some (d, ρ)
theorem se_c {v : V} {d : PyData} (h : PE X e (tC v)) (r : ∀ H, Dp X.K H v d) : SE b X e (mC d) := by
  refine PE.imp h fun σ H Q q => ?_
  obtain ⟨ρ, d', ρ', O, e1, env, q⟩ := q
  cases e1
  exact q v H (Post.refl env) (fun _ => ⟨rfl, Same.refl H⟩) (r _)
theorem se_int {i j} : SE b X (.Constant (.int i) j pos) (mC (.int i)) := se_c pe_int fun _ => .int i
theorem se_str {x j} : SE b X (.Constant (.str x) j pos) (mC (.str x)) := se_c pe_str fun _ => .str x
theorem se_bl {x j} : SE b X (.Constant (.bool x) j pos) (mC (.bool x)) := se_c pe_bl fun _ => .bl x
theorem se_non {j} : SE b X (.Constant .none j pos) (mC .none) := se_c pe_non fun _ => .non
theorem se_gint {x : Str} {i : Int} {t : Tok} (hg : Gl X x) (hm : X.mg x = some (.int i t)) (hd : (x == ("__debug__" : Str)) = false := by decide) : SE b X (.Name x pos) (mC (.int i)) := se_c (pe_glob (v := .int i) hg hm ⟨t, rfl⟩ hd) fun _ => .int i
theorem se_gstr {x : Str} {i : Str} {t : Tok} (hg : Gl X x) (hm : X.mg x = some (.str i t)) (hd : (x == ("__debug__" : Str)) = false := by decide) : SE b X (.Name x pos) (mC (.str i)) := se_c (pe_glob (v := .str i) hg hm ⟨t, rfl⟩ hd) fun _ => .str i

/-! ### two places -/
def OpD (K : PySem.W.Frag) (r : R2) (g : PyData → PyData → Option PyData) : Prop := ∀ (O : List Addr) (H : Hp) (x y : V) (a b c : PyData) (Q : VK), (∀ p, p ∈ O → ∃ o, H p = some o) → g a b = some c →
  Dp K (hide O H) x a → Dp K (hide O H) y b → (∀ z H', Same H H' → Dp K (hide O H') z c → Q z H') → r x y H Q
def mOp (g : PyData → PyData → Option PyData) (m1 m2 : ME) : ME := fun ρ => (m1 ρ).bind fun p => (m2 p.2).bind fun q => (g p.1 q.1).bind fun c => some (c, q.2)
theorem mOp_of {g : PyData → PyData → Option PyData} {ρ ρ' : Rho} {d : PyData} (h : mOp g m1 m2 ρ = some (d, ρ')) : ∃ a ρ1 b, m1 ρ = some (a, ρ1) ∧ m2 ρ1 = some (b, ρ') ∧ g a b = some d := by
  unfold mOp at h
  obtain ⟨⟨a, ρ1⟩, h1, h⟩ := Option.bind_eq_some_iff.mp h
  obtain ⟨⟨c, ρ2⟩, h2, h⟩ := Option.bind_eq_some_iff.mp h
  obtain ⟨z, h3, h⟩ := Option.bind_eq_some_iff.mp h
  cases h
  exact ⟨a, ρ1, c, h1, h2, h3⟩
theorem den_op {r : R2} {g : PyData → PyData → Option PyData} (o : OpD K r g) {σ : L2.St} {H : Hp} {Q : VK} (q : den K b (mOp g m1 m2) σ H Q) : tOp r (den K b m1) (den K b m2) σ H Q := by
  obtain ⟨ρ, d, ρ', O, e, env, q⟩ := q
  obtain ⟨x, ρ1, y, ea, eb, eg⟩ := mOp_of e
  refine ⟨ρ, x, ρ1, O, ea, env, fun v H1 P1 u1 d1 => ⟨ρ1, y, ρ', O, eb, P1.env, fun u H2 P2 u2 d2 => ?_⟩⟩
  refine o O H2 v u x y d Q P2.env.oa eg (dp_mono (P2.hid P1.env) _ _ d1) d2 fun z H3 s3 d3 => ?_
  refine q z H3 ((P1.trans env P2).more env s3) (fun hb => ?_) d3
  obtain ⟨r1, s1⟩ := u1 hb
  obtain ⟨r2, s2⟩ := u2 hb
  exact ⟨r2.trans r1, (s1.trans s2).trans s3⟩
theorem se_op {op : Operator} {r : R2} {g : PyData → PyData → Option PyData} (ho : OpR X (binaryOp op) r) (o : OpD X.K r g) (h1 : SE b X e1 m1) (h2 : SE b X e2 m2) : SE b X (.BinOp e1 op e2 pos) (mOp g m1 m2) :=
  PE.imp (pe_op ho h1 h2) fun _ _ _ q => den_op o q
theorem se_cmp {op : CmpOp} {r : R2} {g : PyData → PyData → Option PyData} (ho : OpR X (compareOp op) r) (o : OpD X.K r g) (h1 : SE b X e1 m1) (h2 : SE b X e2 m2) (hm : behindInMarks op e2 = false := by rfl) : SE b X (.Compare e1 [op] [e2] pos) (mOp g m1 m2) :=
  PE.imp (pe_cmpR ho h1 h2 hm) fun _ _ _ q => den_op o q
theorem se_ix' {r : R2} {g : PyData → PyData → Option PyData} (ho : IxR X r) (o : OpD X.K r g) (h1 : SE b X e1 m1) (h2 : SE b X e2 m2) (hs : PlainIx e2) : SE b X (.Subscript e1 e2 pos) (mOp g m1 m2) :=
  PE.imp (pe_ix ho h1 h2 hs) fun _ _ _ q => den_op o q

theorem OpD.or {r r' : R2} {g g' : PyData → PyData → Option PyData} (o : OpD K r g) (o' : OpD K r' g') : OpD K (fun x y H Q => r x y H Q ∨ r' x y H Q) (fun a b => (g a b).or (g' a b)) := by
  intro O H x y a b c Q oa e dx dy q
  cases h : g a b with
  | some z =>
    have e' : (some z).or (g' a b) = some c := by rw [← h]; exact e
    have ez : z = c := by simpa using e'
    subst ez
    exact .inl (o O H x y a b z Q oa h dx dy q)
  | none =>
    have e' : (none : Option PyData).or (g' a b) = some c := by rw [← h]; exact e
    exact .inr (o' O H x y a b c Q oa (by simpa using e') dx dy q)
/-! the operators by data -/
theorem dp_int {H : Hp} {v : V} {i : Int} (h : Dp K H v (.int i)) : v = .int i := by cases h; rfl
theorem dp_bl {H : Hp} {v : V} {i : Bool} (h : Dp K H v (.bool i)) : v = .bl i := by cases h; rfl
theorem dp_str {H : Hp} {v : V} {i : Str} (h : Dp K H v (.str i)) : v = .str i := by cases h; rfl
theorem dp_tup {H : Hp} {v : V} {ds : List PyData} (h : Dp K H v (.tuple ds)) : ∃ a xs, v = .ref a ∧ SqT K H a xs ∧ DpAll K H xs ds := by
  cases h with
  | tup h t => exact ⟨_, _, rfl, h, t⟩
theorem dp_lst {H : Hp} {v : V} {ds : List PyData} (h : Dp K H v (.list ds)) : ∃ a xs, v = .ref a ∧ SqL K H a xs ∧ DpAll K H xs ds := by
  cases h with
  | lst h t => exact ⟨_, _, rfl, h, t⟩
theorem hide_sub {O : List Addr} {H : Hp} : Same (hide O H) H := fun a o e => by
  by_cases m : a ∈ O
  · rw [hide_in m] at e; cases e
  · rw [hide_out m] at e; exact e
def gI (f : Int → Int → Option PyData) : PyData → PyData → Option PyData
  | .int i, .int j => f i j
  | _, _ => none
theorem gI_of {f : Int → Int → Option PyData} {a b c : PyData} (h : gI f a b = some c) : ∃ i j, a = .int i ∧ b = .int j ∧ f i j = some c := by
  unfold gI at h
  split at h
  · exact ⟨_, _, rfl, rfl, h⟩
  · cases h
theorem od_I0 {k : Int → Int → V} {f : Int → Int → PyData} (hk : ∀ i j H, Dp K H (k i j) (f i j)) : OpD K (rI0 k) (gI fun i j => some (f i j)) := by
  intro O H x y a b c Q oa e dx dy q
  obtain ⟨i, j, rfl, rfl, e⟩ := gI_of e
  cases e
  exact ⟨i, j, dp_int dx, dp_int dy, q _ H (Same.refl H) (hk i j _)⟩
theorem od_I {C : Int → Int → Prop} {k : Int → Int → V} {c : Int → Int → Bool} {f : Int → Int → PyData} (hc : ∀ i j, c i j = true → C i j) (hk : ∀ i j H, Dp K H (k i j) (f i j)) : OpD K (rI C k) (gI fun i j => if c i j = true then some (f i j) else none) := by
  intro O H x y a b d Q oa e dx dy q
  obtain ⟨i, j, rfl, rfl, e'⟩ := gI_of e
  clear e
  have e : (if c i j = true then some (f i j) else none) = some d := e'
  by_cases h : c i j = true
  · rw [if_pos h] at e
    cases e
    exact ⟨i, j, dp_int dx, dp_int dy, hc i j h, q _ H (Same.refl H) (hk i j _)⟩
  · rw [if_neg h] at e; cases e
def gAddI := gI fun i j => some (.int (i + j))
def gMinus := gI fun i j => some (.int (i - j))
def gMulI := gI fun i j => if decide (i.natAbs.log2 + j.natAbs.log2 < 1000000) = true then some (.int (i * j)) else none
def gMod := gI fun i j => if decide (0 < j) = true then some (.int (i % j)) else none
def gDiv := gI fun i j => if decide (0 < j ∧ j.natAbs.log2 < 9000) = true then some (.int (i / j)) else none
def gPow := gI fun i j => if decide (0 ≤ j ∧ j ≤ 1000000 ∧ i.natAbs < 2 ^ 64) = true then some (.int (i ^ j.toNat)) else none
def gLt := gI fun i j => some (.bool (decide (i < j)))
def gLe := gI fun i j => some (.bool (decide (i ≤ j)))
def gGt := gI fun i j => some (.bool (decide (j < i)))
def gGe := gI fun i j => some (.bool (decide (j ≤ i)))
theorem od_addI : OpD K (rI0 fun i j => .int (i + j)) gAddI := od_I0 fun _ _ _ => .int _
theorem od_sub : OpD K (rI0 fun i j => .int (i - j)) gMinus := od_I0 fun _ _ _ => .int _
theorem od_lt : OpD K (rI0 fun i j => .bl (decide (i < j))) gLt := od_I0 fun _ _ _ => .bl _
theorem od_le : OpD K (rI0 fun i j => .bl (decide (i ≤ j))) gLe := od_I0 fun _ _ _ => .bl _
theorem od_gt : OpD K (rI0 fun i j => .bl (decide (j < i))) gGt := od_I0 fun _ _ _ => .bl _
theorem od_ge : OpD K (rI0 fun i j => .bl (decide (j ≤ i))) gGe := od_I0 fun _ _ _ => .bl _
theorem od_mulI : OpD K (rI CMulW fun i j => .int (i * j)) gMulI := od_I (c := fun i j => decide (i.natAbs.log2 + j.natAbs.log2 < 1000000)) (fun _ _ h => of_decide_eq_true (p := _ < _) h) fun _ _ _ => .int _
theorem od_mod : OpD K (rI (fun _ j => 0 < j) fun i j => .int (i % j)) gMod := od_I (fun _ _ h => of_decide_eq_true h) fun _ _ _ => .int _
theorem od_div : OpD K (rI CDivW fun i j => .int (i / j)) gDiv := od_I (c := fun _ j => decide (0 < j ∧ j.natAbs.log2 < 9000)) (fun _ _ h => of_decide_eq_true (p := _ ∧ _) h) fun _ _ _ => .int _
theorem od_pow : OpD K (rI CPow fun i j => .int (i ^ j.toNat)) gPow := od_I (c := fun i j => decide (0 ≤ j ∧ j ≤ 1000000 ∧ i.natAbs < 2 ^ 64)) (fun i j h => of_decide_eq_true (p := (0 ≤ j ∧ j ≤ 1000000 ∧ i.natAbs < 2 ^ 64)) h) fun _ _ _ => .int _
/-! text + text, list + list, tuple + tuple -/
def gAddS : PyData → PyData → Option PyData
  | .str i, .str j => if i.length + j.length ≤ 100000 then some (.str (i ++ j)) else none
  | _, _ => none
theorem od_addS : OpD K (fun x y H Q => ∃ i j, x = .str i ∧ y = .str j ∧ i.length + j.length ≤ sizeLine ∧ Q (.str (i ++ j)) H) gAddS := by
  intro O H x y a b c Q oa e dx dy q
  unfold gAddS at e
  split at e
  · split at e
    · cases e
      rename_i h
      exact ⟨_, _, dp_str dx, dp_str dy, Nat.le_trans h (by decide), q _ H (Same.refl H) (.str _)⟩
    · cases e
  · cases e
def rCatL (K : PySem.W.Frag) : R2 := fun x y H Q => ∃ l b xs zs, x = .ref l ∧ y = .ref b ∧ SqL K H l xs ∧ SqL K H b zs ∧ xs.length + zs.length ≤ sizeLine ∧ ∀ p, H p = none → Q (.ref p) (upd H p (.lst (xs ++ zs)))
theorem op_catL : OpR X (binaryOp .Add) (rCatL X.K) := by
  rintro pins s σ H x y v u Q I rx ry ⟨l, c, xs, zs, rfl, rfl, hH, hB, hz, q⟩
  cases rx
  cases ry
  obtain ⟨its, r, ⟨⟨k1, d1, t1, s1⟩, n1, ho, hk, hdd, hd⟩, hl⟩ := I.list hH
  obtain ⟨its2, r2, ⟨⟨k2, d2, t2, s2⟩, n2, ho2, hk2, hdd2, hd2⟩, hl2⟩ := I.list hB
  have g1 := r.length
  have g2 := r2.length
  simp only at hk hdd hd hk2 hdd2 hd2
  subst hk hdd hd hk2 hdd2 hd2
  refine concat_meets ⟨_, ho, rfl⟩ ⟨_, ho2, rfl⟩ noFill_list_add seq_list_add PySem.F.slot_list_add PySem.F.entry_list_add (PySem.F.args_list_add_2 _ _) (list_addW l c its.toArray its2.toArray n1 n2 none none s1 s2 (by simp; omega)) ⟨ho, ho2, ?_⟩
  rw [show its.toArray ++ its2.toArray = (its ++ its2).toArray by simp]
  have room : (xs ++ zs).length ≤ sizeLine := by rw [List.length_append]; exact hz
  exact ⟨.ref _, _, I.lnew (t' := s.toks) (r.append r2) room, rfl, q _ I.fresh⟩
theorem upd_hide {O : List Addr} {H : Hp} {p : Addr} {o : HO} (n : p ∉ O) : Same (upd (hide O H) p o) (hide O (upd H p o)) := fun a u e => by
  by_cases h : a = p
  · subst h
    rw [upd_same] at e
    cases e
    rw [hide_out n, upd_same]
  · rw [upd_ne h] at e
    by_cases m : a ∈ O
    · rw [hide_in m] at e; cases e
    · rw [hide_out m] at e ⊢
      rw [upd_ne h]
      exact e
theorem new_lst {O : List Addr} {H : Hp} {p : Addr} {xs : List V} {ds : List PyData} (oa : ∀ p, p ∈ O → ∃ o, H p = some o) (n : H p = none) (h : DpAll K (hide O H) xs ds) : Dp K (hide O (upd H p (.lst xs))) (.ref p) (.list ds) := by
  have np : p ∉ O := fun m => by
    obtain ⟨o, z⟩ := oa p m
    rw [n] at z; cases z
  refine .lst (.inl (.inl ?_)) (dpAll_mono (same_hide (same_new n)) _ _ h)
  rw [hide_out np, upd_same]
theorem new_tup {O : List Addr} {H : Hp} {p : Addr} {xs : List V} {ds : List PyData} (oa : ∀ p, p ∈ O → ∃ o, H p = some o) (n : H p = none) (h : DpAll K (hide O H) xs ds) : Dp K (hide O (upd H p (.tup xs))) (.ref p) (.tuple ds) := by
  have np : p ∉ O := fun m => by
    obtain ⟨o, z⟩ := oa p m
    rw [n] at z; cases z
  refine .tup (.inl (.inl ?_)) (dpAll_mono (same_hide (same_new n)) _ _ h)
  rw [hide_out np, upd_same]
def gCatL : PyData → PyData → Option PyData
  | .list xs, .list ys => if xs.length + ys.length ≤ 16000000 then some (.list (xs ++ ys)) else none
  | _, _ => none
theorem od_catL : OpD K (rCatL K) gCatL := by
  intro O H x y a b c Q oa e dx dy q
  unfold gCatL at e
  split at e
  · split at e
    · cases e
      rename_i h
      obtain ⟨p, vs, rfl, h1, h2⟩ := dp_lst dx
      obtain ⟨p', ws, rfl, h3, h4⟩ := dp_lst dy
      refine ⟨p, p', vs, ws, rfl, rfl, sqL_mono hide_sub h1, sqL_mono hide_sub h3, ?_, fun r hr => q _ _ (same_new hr) (new_lst oa hr (dpAll_app h2 h4))⟩
      rw [dpAll_len h2, dpAll_len h4]
      exact Nat.le_trans h (by decide)
    · cases e
  · cases e
def gCatT : PyData → PyData → Option PyData
  | .tuple xs, .tuple ys => if xs.length + ys.length ≤ 16000000 ∧ xs ≠ [] then some (.tuple (xs ++ ys)) else none
  | _, _ => none
theorem od_catT : OpD K (rCatT K) gCatT := by
  intro O H x y a b c Q oa e dx dy q
  unfold gCatT at e
  split at e
  · split at e
    · cases e
      rename_i h
      obtain ⟨p, vs, rfl, h1, h2⟩ := dp_tup dx
      obtain ⟨p', ws, rfl, h3, h4⟩ := dp_tup dy
      have z1 := dpAll_len h2
      have z2 := dpAll_len h4
      refine ⟨p, p', vs, ws, rfl, rfl, sqT_mono hide_sub h1, sqT_mono hide_sub h3, fun z => ?_, ?_, fun z => ?_, fun _ r hr => q _ _ (same_new hr) (new_tup oa hr (dpAll_app h2 h4))⟩
      · subst z
        cases h2
        exact h.2 rfl
      · rw [z1, z2]
        exact Nat.le_trans h.1 (by decide)
      · subst z
        cases h4
        rw [List.append_nil] at q
        exact q _ H (Same.refl H) (.tup h1 h2)
    · cases e
  · cases e
/-- () + t is t -/
def rCatT0 (K : PySem.W.Frag) : R2 := fun x y H Q => ∃ a b ys, x = .ref a ∧ y = .ref b ∧ SqT K H a [] ∧ SqT K H b ys ∧ Q (.ref b) H
theorem op_catT0 : OpR X (binaryOp .Add) (rCatT0 X.K) := by
  rintro pins s σ H x y v u Q I rx ry ⟨a, c, ys, rfl, rfl, ha, hb, q⟩
  cases rx
  cases ry
  obtain ⟨its, r1, p1, _⟩ := I.tuple ha
  obtain ⟨its2, r2, p2, _⟩ := I.tuple hb
  cases r1
  obtain ⟨⟨k1, d1, t1, s1⟩, o1, c1, n1, e1⟩ := id p1
  obtain ⟨⟨k2, d2, t2, s2⟩, o2, c2, n2, e2⟩ := id p2
  simp only at c1 e1 c2 e2
  subst c1 e1 c2 e2
  exact concat_meets ⟨_, o1, rfl⟩ ⟨_, o2, rfl⟩ noFill_tuple_add seq_tuple_add PySem.F.slot_tuple_add PySem.F.entry_tuple_add (PySem.F.args_tuple_add_2 _ _)
    (tuple_addW0 a c _ its2.toArray n1 n2 d1 d2 s1 s2 (by simp)) ⟨o1, o2, .ref c, H, I, rfl, q⟩
def gCatT0 : PyData → PyData → Option PyData
  | .tuple [], .tuple ys => some (.tuple ys)
  | _, _ => none
theorem od_catT0 : OpD K (rCatT0 K) gCatT0 := by
  intro O H x y a b c Q oa e dx dy q
  unfold gCatT0 at e
  split at e
  · cases e
    obtain ⟨p, vs, rfl, h1, h2⟩ := dp_tup dx
    obtain ⟨p', ws, rfl, h3, h4⟩ := dp_tup dy
    cases h2
    exact ⟨p, p', ws, rfl, rfl, sqT_mono hide_sub h1, sqT_mono hide_sub h3, q _ H (Same.refl H) (.tup h3 h4)⟩
  · cases e
def gAdd : PyData → PyData → Option PyData := fun a b => (gAddI a b).or ((gAddS a b).or ((gCatL a b).or ((gCatT a b).or (gCatT0 a b))))
theorem s_add {b : Bool} (h1 : SE b X e1 m1) (h2 : SE b X e2 m2) : SE b X (.BinOp e1 .Add e2 pos) (mOp gAdd m1 m2) :=
  se_op (op_add.or (op_add_str.or (op_catL.or (op_catT.or op_catT0)))) (od_addI.or (od_addS.or (od_catL.or (od_catT.or od_catT0)))) h1 h2
theorem s_sub (h1 : SE b X e1 m1) (h2 : SE b X e2 m2) : SE b X (.BinOp e1 .Sub e2 pos) (mOp gMinus m1 m2) := se_op op_sub od_sub h1 h2
theorem s_mul (h1 : SE b X e1 m1) (h2 : SE b X e2 m2) : SE b X (.BinOp e1 .Mult e2 pos) (mOp gMulI m1 m2) := se_op op_mulW od_mulI h1 h2
theorem s_mod (h1 : SE b X e1 m1) (h2 : SE b X e2 m2) : SE b X (.BinOp e1 .Mod e2 pos) (mOp gMod m1 m2) := se_op op_mod od_mod h1 h2
theorem s_div (h1 : SE b X e1 m1) (h2 : SE b X e2 m2) : SE b X (.BinOp e1 .FloorDiv e2 pos) (mOp gDiv m1 m2) := se_op op_fdivW od_div h1 h2
theorem s_pow (h1 : SE b X e1 m1) (h2 : SE b X e2 m2) : SE b X (.BinOp e1 .Pow e2 pos) (mOp gPow m1 m2) := se_op op_pow od_pow h1 h2
theorem s_lt (h1 : SE b X e1 m1) (h2 : SE b X e2 m2) : SE b X (.Compare e1 [.Lt] [e2] pos) (mOp gLt m1 m2) := se_cmp op_lt od_lt h1 h2 (nomark _)
theorem s_le (h1 : SE b X e1 m1) (h2 : SE b X e2 m2) : SE b X (.Compare e1 [.LtE] [e2] pos) (mOp gLe m1 m2) := se_cmp op_le od_le h1 h2 (nomark _)
theorem s_gt (h1 : SE b X e1 m1) (h2 : SE b X e2 m2) : SE b X (.Compare e1 [.Gt] [e2] pos) (mOp gGt m1 m2) := se_cmp op_gt od_gt h1 h2 (nomark _)
theorem s_ge (h1 : SE b X e1 m1) (h2 : SE b X e2 m2) : SE b X (.Compare e1 [.GtE] [e2] pos) (mOp gGe m1 m2) := se_cmp op_ge od_ge h1 h2 (nomark _)
end
end Fn

set_option Elab.async false
set_option linter.all false
set_option maxRecDepth 100000
/-! Fn3: equality, membership, places, displays, calls, tests. -/
namespace Fn
open PySem PySem.Spec L2
open PyProof.Rows hiding St

section
variable {X : Cx} {K : PySem.W.Frag} {b : Bool} {e e1 e2 e3 : Expr} {es : List Expr} {m m1 m2 m3 : ME} {pos : Pos}
/-! ### == and in, data of any depth -/
def gEq (neg : Bool) : PyData → PyData → Option PyData := fun a b => if SeqAt.shaped a = true ∧ SeqAt.shaped b = true then some (.bool (neg != PyData.eqv a b)) else none
theorem od_eqD : OpD K (rEqD K) (gEq false) := by
  intro O H x y a b c Q oa e dx dy q
  unfold gEq at e
  split at e
  · rename_i h
    cases e
    exact ⟨a, b, dp_mono hide_sub _ _ dx, dp_mono hide_sub _ _ dy, h.1, h.2, q _ H (Same.refl H) (by rw [Bool.false_bne]; exact .bl _)⟩
  · cases e
theorem od_neD : OpD K (rNeD K) (gEq true) := by
  intro O H x y a b c Q oa e dx dy q
  unfold gEq at e
  split at e
  · rename_i h
    cases e
    exact ⟨a, b, dp_mono hide_sub _ _ dx, dp_mono hide_sub _ _ dy, h.1, h.2, q _ H (Same.refl H) (by rw [Bool.true_bne]; exact .bl _)⟩
  · cases e
def gIn (neg : Bool) : PyData → PyData → Option PyData := fun a b => match b with
  | .list ds => if SeqAt.shaped a = true ∧ SeqAt.shaped (.list ds) = true then some (.bool (neg != ds.any fun z => PyData.eqv z a)) else none
  | .tuple ds => if SeqAt.shaped a = true ∧ SeqAt.shaped (.list ds) = true then some (.bool (neg != ds.any fun z => PyData.eqv z a)) else none
  | .str z => match a with
    | .str x => some (.bool (neg != !(Builtin.Str.occurrences z x 0 z.length 1).isEmpty))
    | _ => none
  | _ => none
def rInAll (K : PySem.W.Frag) (neg : Bool) : R2 := fun x y H Q => ∃ d ds, Dp K H x d ∧ (Dp K H y (.list ds) ∨ Dp K H y (.tuple ds)) ∧ SeqAt.shaped d = true ∧ SeqAt.shaped (.list ds) = true ∧ Q (.bl (neg != ds.any fun z => PyData.eqv z d)) H
/-- what both rules ask, as the library's rules want it -/
theorem in_ready {X : Cx} {pins : List (Addr × Obj)} {s : Shared} {σ : L2.St} {H : Hp} {x y : V} {v u : Value} (hu : X.A.units + 65 < cLine) (I : Inv X pins σ H s) (rx : RelV x v) (ry : RelV y u) {d : PyData} {ds : List PyData} (hd : Dp X.K H x d)
    (sd : SeqAt.shaped d = true) (se : SeqAt.shaped (.list ds) = true) : (∃ as, Reads s.heap v d as) ∧ PyData.canLayAll0 ds = true ∧ d.canLay0 = true ∧ X.A.units + 1 + min (PyData.depthAll ds) d.depth < cLine :=
  ⟨Dp.reads I d x v hd rx, SeqAt.canLay_of_shaped se, SeqAt.canLay_of_shaped sd, room_in_shaped sd hu⟩
theorem op_inAll (hu : X.A.units + 65 < cLine) : OpR X (compareOp .In) (rInAll X.K false) := by
  rintro pins s σ H x y v u Q I rx ry ⟨d, ds, hd, he, sd, se, q⟩
  rw [Bool.false_bne] at q
  obtain ⟨⟨as, r1⟩, z1, z2, z3⟩ := in_ready hu I rx ry hd sd se
  rcases he with he | he
  · have ⟨bs, r2⟩ := Dp.reads I (.list ds) y u he ry
    exact SeqAt.in_list_reads r2 r1 z1 z2 z3 ⟨.bl _, H, I, rfl, q⟩
  · have ⟨bs, r2⟩ := Dp.reads I (.tuple ds) y u he ry
    exact SeqAt.in_tuple_reads r2 r1 z1 z2 z3 ⟨.bl _, H, I, rfl, q⟩
theorem op_notInAll (hu : X.A.units + 65 < cLine) : OpR X (compareOp .NotIn) (rInAll X.K true) := by
  rintro pins s σ H x y v u Q I rx ry ⟨d, ds, hd, he, sd, se, q⟩
  rw [Bool.true_bne] at q
  obtain ⟨⟨as, r1⟩, z1, z2, z3⟩ := in_ready hu I rx ry hd sd se
  rcases he with he | he
  · have ⟨bs, r2⟩ := Dp.reads I (.list ds) y u he ry
    exact SeqAt.notIn_list_reads r2 r1 z1 z2 z3 ⟨.bl _, H, I, rfl, q⟩
  · have ⟨bs, r2⟩ := Dp.reads I (.tuple ds) y u he ry
    exact SeqAt.notIn_tuple_reads r2 r1 z1 z2 z3 ⟨.bl _, H, I, rfl, q⟩
theorem op_notin_str : OpR X (compareOp .NotIn) (fun x y H Q => ∃ i j, x = .str i ∧ y = .str j ∧ Q (.bl (!!(Builtin.Str.occurrences j i 0 j.length 1).isEmpty)) H) := by
  rintro pins s σ H x y v u Q I rx ry ⟨i, j, rfl, rfl, q⟩
  obtain ⟨t, rfl⟩ := rx
  obtain ⟨t', rfl⟩ := ry
  exact notIn_str (fin_bl I q (by simp))
def rInS (neg : Bool) : R2 := fun x y H Q => ∃ i j, x = .str i ∧ y = .str j ∧ Q (.bl (neg != !(Builtin.Str.occurrences j i 0 j.length 1).isEmpty)) H
theorem op_inS : OpR X (compareOp .In) (rInS false) := by
  rintro pins s σ H x y v u Q I rx ry ⟨i, j, h1, h2, q⟩
  rw [Bool.false_bne] at q
  exact op_in_str pins s σ H x y v u Q I rx ry ⟨i, j, h1, h2, q⟩
theorem op_notinS : OpR X (compareOp .NotIn) (rInS true) := by
  rintro pins s σ H x y v u Q I rx ry ⟨i, j, h1, h2, q⟩
  rw [Bool.true_bne] at q
  exact op_notin_str pins s σ H x y v u Q I rx ry ⟨i, j, h1, h2, q⟩
theorem od_in {neg : Bool} : OpD K (fun x y H Q => rInAll K neg x y H Q ∨ rInS neg x y H Q) (gIn neg) := by
  intro O H x y a c r Q oa e dx dy q
  unfold gIn at e
  split at e
  · rename_i ds
    split at e
    · rename_i h
      cases e
      exact .inl ⟨a, ds, dp_mono hide_sub _ _ dx, .inl (dp_mono hide_sub _ _ dy), h.1, h.2, q _ H (Same.refl H) (.bl _)⟩
    · cases e
  · rename_i ds
    split at e
    · rename_i h
      cases e
      exact .inl ⟨a, ds, dp_mono hide_sub _ _ dx, .inr (dp_mono hide_sub _ _ dy), h.1, h.2, q _ H (Same.refl H) (.bl _)⟩
    · cases e
  · split at e
    · cases e
      exact .inr ⟨_, _, dp_str dx, dp_str dy, q _ H (Same.refl H) (.bl _)⟩
    · cases e
  · cases e
theorem s_eq (hu : X.A.units + 65 < cLine) (h1 : SE b X e1 m1) (h2 : SE b X e2 m2) : SE b X (.Compare e1 [.Eq] [e2] pos) (mOp (gEq false) m1 m2) := se_cmp (op_eqD (by omega)) od_eqD h1 h2 (nomark _)
theorem s_ne (hu : X.A.units + 65 < cLine) (h1 : SE b X e1 m1) (h2 : SE b X e2 m2) : SE b X (.Compare e1 [.NotEq] [e2] pos) (mOp (gEq true) m1 m2) := se_cmp (op_neD (by omega)) od_neD h1 h2 (nomark _)
theorem s_in (hu : X.A.units + 65 < cLine) (h1 : SE b X e1 m1) (h2 : SE b X e2 m2) (hm : behindInMarks .In e2 = false := by rfl) : SE b X (.Compare e1 [.In] [e2] pos) (mOp (gIn false) m1 m2) := se_cmp ((op_inAll hu).or op_inS) od_in h1 h2 hm
theorem s_notin (hu : X.A.units + 65 < cLine) (h1 : SE b X e1 m1) (h2 : SE b X e2 m2) (hm : behindInMarks .NotIn e2 = false := by rfl) : SE b X (.Compare e1 [.NotIn] [e2] pos) (mOp (gIn true) m1 m2) := se_cmp ((op_notInAll hu).or op_notinS) od_in h1 h2 hm
/-! is None -/
def isNone : PyData → Bool
  | .none => true
  | _ => false
def gIs (neg : Bool) : PyData → PyData → Option PyData
  | a, .none => some (.bool (neg != isNone a))
  | _, _ => none
theorem isNone_v {H : Hp} {v : V} {d : PyData} (h : Dp K H v d) : decide (v = .non) = isNone d := by cases h <;> rfl
theorem od_is : OpD K (fun x y H Q => y = .non ∧ Q (.bl (decide (x = .non))) H) (gIs false) := by
  intro O H x y a c r Q oa e dx dy q
  unfold gIs at e
  split at e
  · cases e
    rw [Bool.false_bne] at q
    have hy : y = .non := by cases dy; rfl
    refine ⟨hy, ?_⟩
    rw [isNone_v dx]
    exact q _ H (Same.refl H) (.bl _)
  · cases e
theorem od_isnot : OpD K (fun x y H Q => y = .non ∧ Q (.bl (!decide (x = .non))) H) (gIs true) := by
  intro O H x y a c r Q oa e dx dy q
  unfold gIs at e
  split at e
  · cases e
    rw [Bool.true_bne] at q
    have hy : y = .non := by cases dy; rfl
    refine ⟨hy, ?_⟩
    rw [isNone_v dx]
    exact q _ H (Same.refl H) (.bl _)
  · cases e
theorem s_is (h1 : SE b X e1 m1) (h2 : SE b X e2 m2) : SE b X (.Compare e1 [.Is] [e2] pos) (mOp (gIs false) m1 m2) := se_cmp op_isN od_is h1 h2 (nomark _)
theorem s_isnot (h1 : SE b X e1 m1) (h2 : SE b X e2 m2) : SE b X (.Compare e1 [.IsNot] [e2] pos) (mOp (gIs true) m1 m2) := se_cmp op_notN od_isnot h1 h2 (nomark _)
/-! ### x[i] -/
def gIx : PyData → PyData → Option PyData
  | .list ds, .int i => atI ds i
  | .tuple ds, .int i => atI ds i
  | .str z, .int i => if z.length ≤ 100000 then (atI z.cps.toList i).map fun c => .str ⟨#[c]⟩ else none
  | _, _ => none
theorem atI_dp {H : Hp} {vs : List V} {ds : List PyData} {i : Int} {d : PyData} (h : DpAll K H vs ds) (e : atI ds i = some d) : ∃ v, atI vs i = some v ∧ Dp K H v d := by
  unfold atI at e ⊢
  rw [dpAll_len h]
  obtain ⟨j, h1, h2⟩ := Option.bind_eq_some_iff.mp e
  obtain ⟨v, h3, h4⟩ := dpAll_get h h2
  exact ⟨v, by rw [h1]; exact h3, h4⟩
theorem od_ix : OpD K (rIx K) gIx := by
  intro O H x y a c r Q oa e dx dy q
  unfold gIx at e
  split at e
  · obtain ⟨p, vs, rfl, h1, h2⟩ := dp_lst dx
    obtain ⟨v, h3, h4⟩ := atI_dp h2 e
    exact .inl ⟨p, vs, _, v, rfl, dp_int dy, sqL_mono hide_sub h1, h3, q _ H (Same.refl H) h4⟩
  · obtain ⟨p, vs, rfl, h1, h2⟩ := dp_tup dx
    obtain ⟨v, h3, h4⟩ := atI_dp h2 e
    exact .inr (.inl ⟨p, vs, _, v, rfl, dp_int dy, sqT_mono hide_sub h1, h3, q _ H (Same.refl H) h4⟩)
  · split at e
    · rename_i h
      obtain ⟨cc, h1, h2⟩ := Option.map_eq_some_iff.mp e
      subst h2
      exact .inr (.inr ⟨_, _, cc, dp_str dx, dp_int dy, Nat.le_trans h (by decide), h1, q _ H (Same.refl H) (.str _)⟩)
    · cases e
  · cases e
theorem s_ix (h1 : SE b X e1 m1) (h2 : SE b X e2 m2) (hs : PlainIx e2 := by exact fun _ _ => rfl) : SE b X (.Subscript e1 e2 pos) (mOp gIx m1 m2) := se_ix' ix_seq od_ix h1 h2 hs
/-! ### arguments, displays -/
def mNil : MA := fun ρ => some ([], ρ)
def mCons (m : ME) (ms : MA) : MA := fun ρ => (m ρ).bind fun p => (ms p.2).bind fun q => some (p.1 :: q.1, q.2)
theorem sa_nil : SA b X [] mNil := PA.imp pa_nil fun σ H Q q => by
  obtain ⟨ρ, d, ρ', O, e1, env, q⟩ := q
  cases e1
  exact q [] H (Post.refl env) (fun _ => ⟨rfl, Same.refl H⟩) .nil
theorem sa_cons {ms : MA} (h1 : SE b X e m) (h2 : SA b X es ms) (hs : starEach (e :: es) X.env = (false, eval e X.env) :: starEach es X.env := by rfl) : SA b X (e :: es) (mCons m ms) := PA.imp (pa_cons h1 h2 hs) fun σ H Q q => by
  obtain ⟨ρ, d, ρ', O, e1, env, q⟩ := q
  unfold mCons at e1
  obtain ⟨⟨a, ρ1⟩, ea, e1⟩ := Option.bind_eq_some_iff.mp e1
  obtain ⟨⟨as, ρ2⟩, eb, e1⟩ := Option.bind_eq_some_iff.mp e1
  cases e1
  refine ⟨ρ, a, ρ1, O, ea, env, fun v H1 P1 u1 d1 => ⟨ρ1, as, ρ2, O, eb, P1.env, fun vs H2 P2 u2 d2 => ?_⟩⟩
  refine q (v :: vs) H2 (P1.trans env P2) (fun hb => ?_) (.cons (dp_mono (P2.hid P1.env) _ _ d1) d2)
  obtain ⟨r1, s1⟩ := u1 hb
  obtain ⟨r2, s2⟩ := u2 hb
  exact ⟨r2.trans r1, s1.trans s2⟩
theorem SA.weak {ms : MA} (h : SA true X es ms) : SA b X es ms := PA.imp h fun σ H Q q => by
  obtain ⟨ρ, d, ρ', O, e1, env, q⟩ := q
  exact ⟨ρ, d, ρ', O, e1, env, fun v H' P u dv => q v H' P (fun _ => u rfl) dv⟩
def mTup (ms : MA) : ME := fun ρ => (ms ρ).bind fun p => if p.1.length ≤ 1000 then some (.tuple p.1, p.2) else none
theorem s_tup {ms : MA} {x1} (h : SA b X es ms) : SE b X (.Tuple es x1 pos) (mTup ms) := PE.imp (pe_tup h) fun σ H Q q => by
  obtain ⟨ρ, d, ρ', O, e1, env, q⟩ := q
  unfold mTup at e1
  obtain ⟨⟨as, ρ1⟩, ea, e1⟩ := Option.bind_eq_some_iff.mp e1
  split at e1
  · cases e1
    rename_i hl
    refine ⟨ρ, as, ρ1, O, ea, env, fun vs H1 P1 u1 d1 => ⟨?_, fun p np => ?_⟩⟩
    · rw [dpAll_len d1]
      exact Nat.le_trans hl (by decide)
    · exact q _ _ (P1.more env (same_new np)) (fun hb => ⟨(u1 hb).1, (u1 hb).2.trans (same_new np)⟩) (new_tup P1.env.oa np d1)
  · cases e1
/-- a new list: [a, b, ..] -/
def mLst (ms : MA) : MA := fun ρ => (ms ρ).bind fun p => if p.1.length ≤ 1000 then some (p.1, p.2) else none
theorem wo_upd {H : Hp} {p : Addr} {o : HO} (n : H p = none) : (fun a => if a = p then none else upd H p o a) = H := by
  funext a
  by_cases h : a = p
  · rw [if_pos h, h, n]
  · rw [if_neg h, upd_ne h]
theorem f_lst {ms : MA} (h : SA b X es ms) : SF b X (.List es pos) (mLst ms) := PE.imp (pe_lst h) fun σ H Q q => by
  obtain ⟨ρ, d, ρ', O, e1, env, q⟩ := q
  unfold mLst at e1
  obtain ⟨⟨as, ρ1⟩, ea, e1⟩ := Option.bind_eq_some_iff.mp e1
  split at e1
  · cases e1
    rename_i hl
    refine ⟨ρ, as, ρ1, O, ea, env, fun vs H1 P1 u1 d1 => ⟨?_, fun p np => ?_⟩⟩
    · rw [dpAll_len d1]
      exact Nat.le_trans hl (by decide)
    · have np0 : H p = none := by
        cases z : H p with
        | none => rfl
        | some o =>
          exfalso
          by_cases w : Own σ ρ p
          · obtain ⟨o', z'⟩ := P1.env.oa p (w.mem env)
            rw [np] at z'; cases z'
          · rw [P1.ex p o w z] at np; cases np
      refine q p vs _ np0 ?_ (P1.more env (same_new np)) (fun hb => ⟨(u1 hb).1, (u1 hb).2.trans (same_new np)⟩) upd_same ?_
      · rw [wo_upd np]; exact P1
      · rw [wo_upd np]; exact d1
  · cases e1
def mF (ms : MA) : ME := fun ρ => (ms ρ).bind fun p => some (.list p.1, p.2)
theorem denF_e {ms : MA} {σ : L2.St} {H : Hp} {Q : VK} (q : den K b (mF ms) σ H Q) : denF K b ms σ H Q := by
  obtain ⟨ρ, d, ρ', O, e1, env, q⟩ := q
  unfold mF at e1
  obtain ⟨⟨as, ρ1⟩, ea, e1⟩ := Option.bind_eq_some_iff.mp e1
  cases e1
  refine ⟨ρ, as, ρ1, O, ea, env, fun p vs H1 np P0 P1 u1 hp d1 => ?_⟩
  have npO : p ∉ O := not_own env np
  refine q _ H1 P1 u1 (.lst (.inl (.inl ?_)) (dpAll_mono (fun a o z => ?_) _ _ d1))
  · rw [hide_out npO]; exact hp
  · by_cases m : a ∈ O
    · rw [hide_in m] at z; cases z
    · rw [hide_out m] at z ⊢
      by_cases g : a = p
      · rw [if_pos g] at z; cases z
      · rw [if_neg g] at z; exact z
theorem s_ofF {ms : MA} (h : SF b X e ms) : SE b X e (mF ms) := PE.imp h fun _ _ _ q => denF_e q
/-! ### lists that may be owned -/
def lVar (i : Nat) : Rho → Option (List PyData) := fun ρ => match ρ[i]? with
  | some (.sh (.list ds)) => some ds
  | some (.own ds) => some ds
  | some (.par ds) => some ds
  | _ => none
theorem lv (i : Nat) {x : Str} {pos : Pos} (hN : X.N[i]? = some x := by rfl) (hv : Vis X.env.scope x := by first | exact Or.inl rfl | exact Or.inr (Or.inl rfl) | exact Or.inr (Or.inr rfl)) (hd : (x == ("__debug__" : Str)) = false := by decide)
    (hcd : (x == ("__classdict__" : Str)) = false := by decide) : SL X (.Name x pos) (lVar i) := PE.imp (pe_var hN hv hd hcd) fun σ H Q q => by
  obtain ⟨ρ, ds, O, e1, env, q⟩ := q
  unfold lVar at e1
  split at e1
  · rename_i h
    cases e1
    obtain ⟨v, e3, e4⟩ := env.sh i _ h
    obtain ⟨a, xs, rfl, h1, h2⟩ := dp_lst e4
    exact ⟨_, e3, q a xs H (Same.refl H) (sqL_mono hide_sub h1) h2⟩
  · rename_i h
    cases e1
    obtain ⟨p, vs, h1, h2, h3, h4⟩ := env.ow i _ _ h (.inl rfl)
    exact ⟨_, h1, q p vs H (Same.refl H) (.inl (.inl h3)) h4⟩
  · rename_i h
    cases e1
    obtain ⟨p, vs, h1, h2, h3, h4⟩ := env.ow i _ _ h (.inr rfl)
    exact ⟨_, h1, q p vs H (Same.refl H) (.inl (.inl h3)) h4⟩
  · cases e1
def lE (m : ME) : Rho → Option (List PyData) := fun ρ => (m ρ).bind fun p => match p.1 with
  | .list ds => some ds
  | _ => none
theorem l_ofE (h : SE true X e m) : SL X e (lE m) := PE.imp h fun σ H Q q => by
  obtain ⟨ρ, ds, O, e1, env, q⟩ := q
  unfold lE at e1
  obtain ⟨⟨a, ρ1⟩, ea, e1⟩ := Option.bind_eq_some_iff.mp e1
  split at e1
  · cases e1
    rename_i h
    simp only at h
    subst h
    refine ⟨ρ, _, ρ1, O, ea, env, fun v H' P u dv => ?_⟩
    obtain ⟨a, xs, rfl, h1, h2⟩ := dp_lst dv
    exact q a xs H' (u rfl).2 (sqL_mono hide_sub h1) h2
  · cases e1
/-! xs[i] of such; x in xs; len, tuple, list of such -/
def mIxL (l : Rho → Option (List PyData)) (m : ME) : ME := fun ρ => (l ρ).bind fun ds => (m ρ).bind fun p => match p.1 with
  | .int i => (atI ds i).bind fun d => some (d, ρ)
  | _ => none
theorem s_ixL {l : Rho → Option (List PyData)} (h1 : SL X e1 l) (h2 : SE true X e2 m) (hs : PlainIx e2 := by exact fun _ _ => rfl) : SE b X (.Subscript e1 e2 pos) (mIxL l m) := PE.imp (pe_ix ix_list h1 h2 hs) fun σ H Q q => by
  obtain ⟨ρ, d, ρ', O, e1, env, q⟩ := q
  unfold mIxL at e1
  obtain ⟨ds, ea, e1⟩ := Option.bind_eq_some_iff.mp e1
  obtain ⟨⟨c, ρ1⟩, eb, e1⟩ := Option.bind_eq_some_iff.mp e1
  split at e1
  · rename_i i h
    simp only at h
    subst h
    obtain ⟨d', ec, e1⟩ := Option.bind_eq_some_iff.mp e1
    cases e1
    refine ⟨ρ, ds, O, ea, env, fun a vs H1 s1 q1 d1 => ⟨ρ, _, ρ1, O, eb, env.same s1, fun v H2 P2 u2 d2 => ?_⟩⟩
    obtain ⟨x, h3, h4⟩ := atI_dp d1 ec
    have s2 := (u2 rfl).2
    exact ⟨a, vs, i, x, rfl, dp_int d2, sqL_mono s2 q1, h3, q x H2 (Post.same env (s1.trans s2)) (fun _ => ⟨rfl, s1.trans s2⟩) (dp_mono (same_hide s2) _ _ h4)⟩
  · cases e1
def mInL (neg : Bool) (m : ME) (l : Rho → Option (List PyData)) : ME := fun ρ => (m ρ).bind fun p => (l p.2).bind fun ds =>
  if SeqAt.shaped p.1 = true ∧ SeqAt.shaped (.list ds) = true then some (.bool (neg != ds.any fun z => PyData.eqv z p.1), p.2) else none
theorem dp_hideL {O : List Addr} {H : Hp} {a : Addr} {vs : List V} {ds : List PyData} (h : SqL K H a vs) (d : DpAll K (hide O H) vs ds) : Dp K H (.ref a) (.list ds) := .lst h (dpAll_mono hide_sub _ _ d)
theorem den_inL {neg : Bool} {l : Rho → Option (List PyData)} {σ : L2.St} {H : Hp} {Q : VK} (q : den K b (mInL neg m l) σ H Q) : tOp (rInAll K neg) (den K b m) (denL K l) σ H Q := by
  obtain ⟨ρ, d, ρ', O, e1, env, q⟩ := q
  unfold mInL at e1
  obtain ⟨⟨c, ρ1⟩, ea, e1⟩ := Option.bind_eq_some_iff.mp e1
  obtain ⟨ds, eb, e1⟩ := Option.bind_eq_some_iff.mp e1
  split at e1
  · rename_i h
    cases e1
    refine ⟨ρ, _, _, O, ea, env, fun v H1 P1 u1 d1 => ⟨_, ds, O, eb, P1.env, fun a vs H2 s2 q2 d2 => ?_⟩⟩
    refine ⟨_, ds, dp_mono (hide_sub (O := O)) _ _ (dp_mono (same_hide s2) _ _ d1), .inl (dp_hideL q2 d2), h.1, h.2, q _ H2 (P1.more env s2) (fun hb => ⟨(u1 hb).1, (u1 hb).2.trans s2⟩) (.bl _)⟩
  · cases e1
theorem s_inL {l : Rho → Option (List PyData)} (hu : X.A.units + 65 < cLine) (h1 : SE b X e1 m) (h2 : SL X e2 l) (hm : behindInMarks .In e2 = false := by rfl) : SE b X (.Compare e1 [.In] [e2] pos) (mInL false m l) :=
  PE.imp (pe_cmpR (op_inAll hu) h1 h2 hm) fun _ _ _ q => den_inL q
theorem s_notinL {l : Rho → Option (List PyData)} (hu : X.A.units + 65 < cLine) (h1 : SE b X e1 m) (h2 : SL X e2 l) (hm : behindInMarks .NotIn e2 = false := by rfl) : SE b X (.Compare e1 [.NotIn] [e2] pos) (mInL true m l) :=
  PE.imp (pe_cmpR (op_notInAll hu) h1 h2 hm) fun _ _ _ q => den_inL q
end
end Fn

set_option Elab.async false
set_option linter.all false
set_option maxRecDepth 100000
/-! Fn4: built-in calls, slices, bool expressions, tests. -/
namespace Fn
open PySem PySem.Spec L2
open PyProof.Rows hiding St

section
variable {X : Cx} {K : PySem.W.Frag} {b : Bool} {e e1 e2 e3 : Expr} {es : List Expr} {m m1 m2 m3 : ME} {pos : Pos}
/-! ### built-in calls -/
def CallD (K : PySem.W.Frag) (r : List V → Hp → VK → Prop) (f : List PyData → Option PyData) : Prop := ∀ (O : List Addr) (H : Hp) (vs : List V) (ds : List PyData) (c : PyData) (Q : VK), (∀ p, p ∈ O → ∃ o, H p = some o) → f ds = some c →
  DpAll K (hide O H) vs ds → (∀ z H', Same H H' → Dp K (hide O H') z c → Q z H') → r vs H Q
def mCall (f : List PyData → Option PyData) (ms : MA) : ME := fun ρ => (ms ρ).bind fun p => (f p.1).bind fun c => some (c, p.2)
theorem den_call {r : List V → Hp → VK → Prop} {f : List PyData → Option PyData} {ms : MA} (o : CallD K r f) {σ : L2.St} {H : Hp} {Q : VK} (q : den K b (mCall f ms) σ H Q) : tCB r (denA K b ms) σ H Q := by
  obtain ⟨ρ, d, ρ', O, e1, env, q⟩ := q
  unfold mCall at e1
  obtain ⟨⟨as, ρ1⟩, ea, e1⟩ := Option.bind_eq_some_iff.mp e1
  obtain ⟨c, eb, e1⟩ := Option.bind_eq_some_iff.mp e1
  cases e1
  refine ⟨ρ, as, ρ1, O, ea, env, fun vs H1 P1 u1 d1 => o O H1 vs as _ Q P1.env.oa eb d1 fun z H2 s2 d2 => q z H2 (P1.more env s2) (fun hb => ⟨(u1 hb).1, (u1 hb).2.trans s2⟩) d2⟩
theorem s_callB {id : String} {x : Str} {p : Pos} {r : List V → Hp → VK → Prop} {f : List PyData → Option PyData} {ms : MA} (hc : CallR X (.builtin id) r) (o : CallD X.K r f) (hg : Gl X x) (hm : X.mg x = none) (hv : bootBuiltins x = some (.builtin id)) (ha : SA b X (e :: es) ms)
    (hn : x ≠ "__name__" := by decide) (hdb : (x == ("__debug__" : Str)) = false := by decide)
    (he : starEach (e :: es) X.env = (false, eval e X.env) :: starEach es X.env := by rfl) (hpl : (backTo pos (starEach es X.env)).any (·.1) = false := by rfl) : SE b X (.Call (.Name x p) (e :: es) [] pos) (mCall f ms) :=
  PE.imp (pe_callB hc hg hm hv ha hn hdb he hpl) fun _ _ _ q => den_call o q
theorem s_callTy {T : String} {x : Str} {p : Pos} {r : List V → Hp → VK → Prop} {f : List PyData → Option PyData} {ms : MA} (hc : CallR X (.type T) r) (o : CallD X.K r f) (hg : Gl X x) (hm : X.mg x = none) (hv : bootBuiltins x = some (.type T)) (ha : SA b X (e :: es) ms)
    (hn : x ≠ "__name__" := by decide) (hdb : (x == ("__debug__" : Str)) = false := by decide)
    (he : starEach (e :: es) X.env = (false, eval e X.env) :: starEach es X.env := by rfl) (hpl : (backTo pos (starEach es X.env)).any (·.1) = false := by rfl) : SE b X (.Call (.Name x p) (e :: es) [] pos) (mCall f ms) :=
  PE.imp (pe_callTy hc hg hm hv ha hn hdb he hpl) fun _ _ _ q => den_call o q
theorem dpAll_one {H : Hp} {vs : List V} {d : PyData} (h : DpAll K H vs [d]) : ∃ v, vs = [v] ∧ Dp K H v d := by
  cases h with
  | cons h t => cases t; exact ⟨_, rfl, h⟩
theorem dpAll_two {H : Hp} {vs : List V} {d d' : PyData} (h : DpAll K H vs [d, d']) : ∃ v v', vs = [v, v'] ∧ Dp K H v d ∧ Dp K H v' d' := by
  cases h with
  | cons h t =>
    obtain ⟨v, rfl, h2⟩ := dpAll_one t
    exact ⟨_, v, rfl, h, h2⟩
def fLen : List PyData → Option PyData
  | [.list ds] => some (.int ds.length)
  | [.tuple ds] => some (.int ds.length)
  | [.str z] => if z.length ≤ 100000 then some (.int z.length) else none
  | _ => none
theorem cd_len : CallD K (fun xs H Q => ∃ x n, xs = [x] ∧ LenV K x H n ∧ Q (.int n) H) fLen := by
  intro O H vs ds c Q oa e dv q
  unfold fLen at e
  split at e
  · cases e
    obtain ⟨v, rfl, h⟩ := dpAll_one dv
    obtain ⟨a, xs, rfl, h1, h2⟩ := dp_lst h
    exact ⟨_, _, rfl, .inl ⟨xs, sqL_mono hide_sub h1, (dpAll_len h2).symm⟩, q _ H (Same.refl H) (.int _)⟩
  · cases e
    obtain ⟨v, rfl, h⟩ := dpAll_one dv
    obtain ⟨a, xs, rfl, h1, h2⟩ := dp_tup h
    exact ⟨_, _, rfl, .inr ⟨xs, sqT_mono hide_sub h1, (dpAll_len h2).symm⟩, q _ H (Same.refl H) (.int _)⟩
  · split at e
    · rename_i hl
      cases e
      obtain ⟨v, rfl, h⟩ := dpAll_one dv
      cases dp_str h
      exact ⟨_, _, rfl, ⟨Nat.le_trans hl (by decide), rfl⟩, q _ H (Same.refl H) (.int _)⟩
    · cases e
  · cases e
def fTuple : List PyData → Option PyData
  | [.list ds] => some (.tuple ds)
  | [.tuple ds] => some (.tuple ds)
  | _ => none
theorem cd_tuple : CallD K (fun xs H Q => ∃ p ys, xs = [.ref p] ∧ ((SqL K H p ys ∧ ∀ l, H l = none → Q (.ref l) (upd H l (.tup ys))) ∨ (SqT K H p ys ∧ Q (.ref p) H))) fTuple := by
  intro O H vs ds c Q oa e dv q
  unfold fTuple at e
  split at e
  · cases e
    obtain ⟨v, rfl, h⟩ := dpAll_one dv
    obtain ⟨a, xs, rfl, h1, h2⟩ := dp_lst h
    exact ⟨_, _, rfl, .inl ⟨sqL_mono hide_sub h1, fun l hl => q _ _ (same_new hl) (new_tup oa hl h2)⟩⟩
  · cases e
    obtain ⟨v, rfl, h⟩ := dpAll_one dv
    obtain ⟨a, xs, rfl, h1, h2⟩ := dp_tup h
    exact ⟨_, _, rfl, .inr ⟨sqT_mono hide_sub h1, q _ H (Same.refl H) h⟩⟩
  · cases e
def fInt : List PyData → Option PyData
  | [.int i] => some (.int i)
  | [.bool k] => some (.int (if k then 1 else 0))
  | _ => none
theorem cd_int : CallD K (fun xs H Q => (∃ i, xs = [.int i] ∧ Q (.int i) H) ∨ ∃ k, xs = [.bl k] ∧ Q (.int (if k then 1 else 0)) H) fInt := by
  intro O H vs ds c Q oa e dv q
  unfold fInt at e
  split at e
  · cases e
    obtain ⟨v, rfl, h⟩ := dpAll_one dv
    cases dp_int h
    exact .inl ⟨_, rfl, q _ H (Same.refl H) (.int _)⟩
  · cases e
    obtain ⟨v, rfl, h⟩ := dpAll_one dv
    cases dp_bl h
    exact .inr ⟨_, rfl, q _ H (Same.refl H) (.int _)⟩
  · cases e
def fAbs : List PyData → Option PyData
  | [.int i] => some (.int (if i < 0 then -i else i))
  | _ => none
theorem cd_abs : CallD K (fun xs H Q => ∃ i, xs = [.int i] ∧ Q (.int (if i < 0 then -i else i)) H) fAbs := by
  intro O H vs ds c Q oa e dv q
  unfold fAbs at e
  split at e
  · cases e
    obtain ⟨v, rfl, h⟩ := dpAll_one dv
    cases dp_int h
    exact ⟨_, rfl, q _ H (Same.refl H) (.int _)⟩
  · cases e
/-! isinstance -/
def tyOf : PyData → String
  | .none => "NoneType"
  | .bool _ => "bool"
  | .int _ => "int"
  | .str _ => "str"
  | .list _ => "list"
  | .tuple _ => "tuple"
  | .dict _ => "dict"
theorem ty_of {H : Hp} {v : V} {d : PyData} (h : Dp K H v d) : TyX K H v (.type (tyOf d)) := by
  cases h with
  | non => exact .base .non
  | bl b => exact .base (.bl b)
  | int i => exact .base (.int i)
  | str x => exact .base (.str x)
  | lst h _ =>
    rcases h with (h | ⟨o, h⟩) | ⟨o, its, n, h1, h2, _⟩
    · exact .base (.lst h)
    · exact .base (.frz h)
    · exact .kList h1 h2
  | tup h _ =>
    rcases h with (h | ⟨o, h⟩) | ⟨o, its, n, h1, h2, _⟩
    · exact .base (.tup h)
    · exact .fTuple h
    · exact .kTuple h1 h2
/-- the answer of isinstance, by the type's name -/
def isK (t : String) (d : PyData) : Bool := tyOf d == t || (t == "int" && tyOf d == "bool")
theorem isK_kit (t : String) (ht : t = "int" ∨ t = "bool" ∨ t = "tuple" ∨ t = "list" ∨ t = "str") (d : PyData) : PySem.W.kitOne K (.type (tyOf d)) (.type t) = some (isK t d) := by
  have all : ∀ n, n = "NoneType" ∨ n = "bool" ∨ n = "int" ∨ n = "str" ∨ n = "list" ∨ n = "tuple" ∨ n = "dict" → PySem.W.kitOne K (.type n) (.type t) = some (n == t || (t == "int" && n == "bool")) := by
    intro n hn
    refine kit_ty ?_
    rcases ht with rfl | rfl | rfl | rfl | rfl <;> rcases hn with rfl | rfl | rfl | rfl | rfl | rfl | rfl <;> decide +kernel
  refine all _ ?_
  cases d <;> simp [tyOf]
def mIsi (t : String) (m : ME) : ME := fun ρ => (m ρ).bind fun p => some (.bool (isK t p.1), p.2)
theorem s_isi {t : String} {x : Str} {px p : Pos} (ht : t = "int" ∨ t = "bool" ∨ t = "tuple" ∨ t = "list" ∨ t = "str") (hg : Gl X "isinstance") (hm : X.mg "isinstance" = none) (hgx : Gl X x) (hmx : X.mg x = none) (hv : bootBuiltins x = some (.type t)) (ha : SE b X e m)
    (hn : x ≠ "__name__" := by decide) (hd : (x == ("__debug__" : Str)) = false := by decide)
    (he : starEach [e, .Name x px] X.env = (false, eval e X.env) :: starEach [.Name x px] X.env := by rfl)
    (he2 : starEach [Expr.Name x px] X.env = (false, eval (.Name x px) X.env) :: starEach [] X.env := by rfl) (hpl : (backTo pos (starEach [Expr.Name x px] X.env)).any (·.1) = false := by rfl) :
    SE b X (.Call (.Name "isinstance" p) [e, .Name x px] [] pos) (mIsi t m) :=
  PE.imp (pe_callB call_isi hg hm (by decide +kernel) (pa_cons ha (pa_cons (pe_bltn (v := .ty t) hgx hmx hv rfl hn hd) pa_nil he2) he) (by decide) (by decide) he hpl) fun σ H Q q => by
    obtain ⟨ρ, d, ρ', O, e1, env, q⟩ := q
    unfold mIsi at e1
    obtain ⟨⟨a, ρ1⟩, ea, e1⟩ := Option.bind_eq_some_iff.mp e1
    cases e1
    refine ⟨ρ, a, ρ1, O, ea, env, fun v H1 P1 u1 d1 => ?_⟩
    exact ⟨v, .ty t, .type (tyOf a), .type t, isK t a, rfl, .ty t, ty_of (dp_mono hide_sub _ _ d1), isK_kit t ht a, q _ H1 P1 u1 (.bl _)⟩
/-! ### slices -/
def cutD (xs : List PyData) (lo hi : Option Int) : List PyData := (xs.drop (HT.sIx xs.length 0 lo)).take (HT.sIx xs.length xs.length hi - HT.sIx xs.length 0 lo)
theorem cut_dp {H : Hp} {vs : List V} {ds : List PyData} {lo hi : Option Int} (h : DpAll K H vs ds) : DpAll K H (cutV vs lo hi) (cutD ds lo hi) := by
  unfold cutV cutD
  rw [dpAll_len h]
  exact dpAll_take _ (dpAll_drop _ h)
abbrev MO := Rho → Option (Option Int × Rho)
def denO (K : PySem.W.Frag) (b : Bool) (m : MO) : TO := fun σ H Q => ∃ ρ d ρ' O, m ρ = some (d, ρ') ∧ EnvR K O H σ ρ ∧
  ∀ H', Post K O σ ρ H O σ ρ' H' → (b = true → ρ' = ρ ∧ Same H H') → Q d H'
def SO (b : Bool) (X : Cx) (e : Option Expr) (m : MO) : Prop := PO X e (denO X.K b m)
theorem PO.imp {X : Cx} {e : Option Expr} {t t' : TO} (h : PO X e t) (i : ∀ σ H Q, t' σ H Q → t σ H Q) : PO X e t' := ⟨fun pins s σ H Q I q => h.run pins s σ H Q I (i _ _ _ q)⟩
def oNone : MO := fun ρ => some (none, ρ)
def oSome (m : ME) : MO := fun ρ => (m ρ).bind fun p => match p.1 with
  | .int i => some (some i, p.2)
  | _ => none
theorem so_none : SO b X none oNone := PO.imp po_none fun σ H Q q => by
  obtain ⟨ρ, d, ρ', O, e1, env, q⟩ := q
  cases e1
  exact q H (Post.refl env) fun _ => ⟨rfl, Same.refl H⟩
theorem so_some (h : SE b X e m) : SO b X (some e) (oSome m) := PO.imp (po_some h) fun σ H Q q => by
  obtain ⟨ρ, d, ρ', O, e1, env, q⟩ := q
  unfold oSome at e1
  obtain ⟨⟨a, ρ1⟩, ea, e1⟩ := Option.bind_eq_some_iff.mp e1
  split at e1
  · rename_i i h
    simp only at h
    subst h
    cases e1
    exact ⟨ρ, _, ρ1, O, ea, env, fun v H1 P1 u1 d1 => ⟨i, dp_int d1, q H1 P1 u1⟩⟩
  · cases e1
def gSl : PyData → Option Int → Option Int → Option PyData
  | .list ds, lo, hi => some (.list (cutD ds lo hi))
  | .tuple ds, lo, hi => some (.tuple (cutD ds lo hi))
  | .str z, lo, hi => if z.length ≤ 100000 then some (.str (cutS z lo hi)) else none
  | _, _, _ => none
def mSl (m : ME) (l h : MO) : ME := fun ρ => (m ρ).bind fun p => (l p.2).bind fun q => (h q.2).bind fun r => (gSl p.1 q.1 r.1).bind fun d => some (d, r.2)
theorem cutD_whole {ds : List PyData} {lo hi : Option Int} (h : HT.sIx ds.length 0 lo = 0 ∧ HT.sIx ds.length ds.length hi = ds.length) : cutD ds lo hi = ds := by
  unfold cutD
  rw [h.1, h.2, List.drop_zero, Nat.sub_zero, List.take_length]
theorem s_sl {lo hi : Option Expr} {l h : MO} {p2 : Pos} (h1 : SE b X e m) (h2 : SO b X lo l) (h3 : SO b X hi h) : SE b X (.Subscript e (.Slice lo hi none p2) pos) (mSl m l h) :=
  PE.imp (pe_slice (sl_list.or (sl_tupA.or sl_str)) h1 h2 h3) fun σ H Q q => by
    obtain ⟨ρ, d, ρ', O, e1, env, q⟩ := q
    unfold mSl at e1
    obtain ⟨⟨a, ρ1⟩, ea, e1⟩ := Option.bind_eq_some_iff.mp e1
    obtain ⟨⟨i, ρ2⟩, eb, e1⟩ := Option.bind_eq_some_iff.mp e1
    obtain ⟨⟨j, ρ3⟩, ec, e1⟩ := Option.bind_eq_some_iff.mp e1
    obtain ⟨c, ed, e1⟩ := Option.bind_eq_some_iff.mp e1
    cases e1
    refine ⟨ρ, a, ρ1, O, ea, env, fun v H1 P1 u1 d1 => ⟨ρ1, i, ρ2, O, eb, P1.env, fun H2 P2 u2 => ⟨ρ2, j, ρ3, O, ec, P2.env, fun H3 P3 u3 => ?_⟩⟩⟩
    have d3 := dp_mono (P3.hid P2.env) _ _ (dp_mono (P2.hid P1.env) _ _ d1)
    have PP := (P1.trans env P2).trans env P3
    have uu : b = true → ρ3 = ρ ∧ Same H H3 := fun hb => ⟨(u3 hb).1.trans ((u2 hb).1.trans (u1 hb).1), ((u1 hb).2.trans (u2 hb).2).trans (u3 hb).2⟩
    have ed : gSl a i j = some _ := ed
    unfold gSl at ed
    split at ed
    · cases ed
      obtain ⟨p, vs, rfl, g1, g2⟩ := dp_lst d3
      exact .inl ⟨p, vs, rfl, sqL_mono hide_sub g1, fun r nr => q _ _ (PP.more env (same_new nr)) (fun hb => ⟨(uu hb).1, (uu hb).2.trans (same_new nr)⟩) (new_lst P3.env.oa nr (cut_dp g2))⟩
    · cases ed
      obtain ⟨p, vs, rfl, g1, g2⟩ := dp_tup d3
      refine .inr (.inl ⟨p, vs, rfl, sqT_mono hide_sub g1, fun w => ?_, fun w r nr => q _ _ (PP.more env (same_new nr)) (fun hb => ⟨(uu hb).1, (uu hb).2.trans (same_new nr)⟩) (new_tup P3.env.oa nr (cut_dp g2))⟩)
      rw [dpAll_len g2] at w
      rw [cutD_whole w] at q
      exact q _ H3 PP uu d3
    · split at ed
      · rename_i hl
        cases ed
        exact .inr (.inr ⟨_, dp_str d3, Nat.le_trans hl (by decide), q _ H3 PP uu (.str _)⟩)
      · cases ed
    · cases ed
/-! ### bools -/
def mNot (m : ME) : ME := fun ρ => (m ρ).bind fun p => match p.1 with
  | .bool c => some (.bool (!c), p.2)
  | _ => none
theorem s_not (h : SE b X e m) : SE b X (.UnaryOp .Not e pos) (mNot m) := PE.imp (pe_not h) fun σ H Q q => by
  obtain ⟨ρ, d, ρ', O, e1, env, q⟩ := q
  unfold mNot at e1
  obtain ⟨⟨a, ρ1⟩, ea, e1⟩ := Option.bind_eq_some_iff.mp e1
  split at e1
  · rename_i i h
    simp only at h
    subst h
    cases e1
    exact ⟨ρ, _, ρ1, O, ea, env, fun v H1 P1 u1 d1 => ⟨i, dp_bl d1, q _ H1 P1 u1 (.bl _)⟩⟩
  · cases e1
def mAnd (m1 m2 : ME) : ME := fun ρ => (m1 ρ).bind fun p => match p.1 with
  | .bool c => if c = true then m2 p.2 else some (.bool false, p.2)
  | _ => none
def mOr (m1 m2 : ME) : ME := fun ρ => (m1 ρ).bind fun p => match p.1 with
  | .bool c => if c = true then some (.bool true, p.2) else m2 p.2
  | _ => none
theorem s_one {op} (h : SE b X e m) : SE b X (.BoolOp op [e] pos) m := pe_one h
theorem s_and {rest : List Expr} (h1 : SE b X e1 m1) (h2 : SE b X (.BoolOp .And (e2 :: rest) pos) m2) : SE b X (.BoolOp .And (e1 :: e2 :: rest) pos) (mAnd m1 m2) := PE.imp (pe_and h1 h2) fun σ H Q q => by
  obtain ⟨ρ, d, ρ', O, e1, env, q⟩ := q
  unfold mAnd at e1
  obtain ⟨⟨a, ρ1⟩, ea, e1⟩ := Option.bind_eq_some_iff.mp e1
  split at e1
  · rename_i c h
    simp only at h
    subst h
    refine ⟨ρ, _, ρ1, O, ea, env, fun v H1 P1 u1 d1 => ⟨c, dp_bl d1, ?_⟩⟩
    cases c with
    | true =>
      rw [if_pos rfl] at e1 ⊢
      exact ⟨ρ1, d, ρ', O, e1, P1.env, fun v H2 P2 u2 d2 => q v H2 (P1.trans env P2) (fun hb => ⟨(u2 hb).1.trans (u1 hb).1, (u1 hb).2.trans (u2 hb).2⟩) d2⟩
    | false =>
      rw [if_neg Bool.false_ne_true] at e1 ⊢
      cases e1
      exact q _ H1 P1 u1 (.bl _)
  · cases e1
theorem s_or {rest : List Expr} (h1 : SE b X e1 m1) (h2 : SE b X (.BoolOp .Or (e2 :: rest) pos) m2) : SE b X (.BoolOp .Or (e1 :: e2 :: rest) pos) (mOr m1 m2) := PE.imp (pe_or h1 h2) fun σ H Q q => by
  obtain ⟨ρ, d, ρ', O, e1, env, q⟩ := q
  unfold mOr at e1
  obtain ⟨⟨a, ρ1⟩, ea, e1⟩ := Option.bind_eq_some_iff.mp e1
  split at e1
  · rename_i c h
    simp only at h
    subst h
    refine ⟨ρ, _, ρ1, O, ea, env, fun v H1 P1 u1 d1 => ⟨c, dp_bl d1, ?_⟩⟩
    cases c with
    | false =>
      rw [if_neg Bool.false_ne_true] at e1 ⊢
      exact ⟨ρ1, d, ρ', O, e1, P1.env, fun v H2 P2 u2 d2 => q v H2 (P1.trans env P2) (fun hb => ⟨(u2 hb).1.trans (u1 hb).1, (u1 hb).2.trans (u2 hb).2⟩) d2⟩
    | true =>
      rw [if_pos rfl] at e1 ⊢
      cases e1
      exact q _ H1 P1 u1 (.bl _)
  · cases e1
/-! a < b < c -/
def mChain (g g' : PyData → PyData → Option PyData) (m1 m2 m3 : ME) : ME := fun ρ => (m1 ρ).bind fun p => (m2 p.2).bind fun q => (g p.1 q.1).bind fun c => match c with
  | .bool k => if k = true then (m3 q.2).bind fun r => (g' q.1 r.1).bind fun d => some (d, r.2) else some (.bool false, q.2)
  | _ => none
theorem den_chain {r r' : R2} {g g' : PyData → PyData → Option PyData} (o : OpD K r g) (o' : OpD K r' g') {σ : L2.St} {H : Hp} {Q : VK} (q : den K b (mChain g g' m1 m2 m3) σ H Q) : tChain r r' (den K b m1) (den K b m2) (den K b m3) σ H Q := by
  obtain ⟨ρ, d, ρ', O, e1, env, q⟩ := q
  unfold mChain at e1
  obtain ⟨⟨a, ρ1⟩, ea, e1⟩ := Option.bind_eq_some_iff.mp e1
  obtain ⟨⟨c, ρ2⟩, eb, e1⟩ := Option.bind_eq_some_iff.mp e1
  obtain ⟨kk, eg, e1⟩ := Option.bind_eq_some_iff.mp e1
  split at e1
  · rename_i k
    refine ⟨ρ, a, ρ1, O, ea, env, fun v H1 P1 u1 d1 => ⟨ρ1, c, ρ2, O, eb, P1.env, fun u H2 P2 u2 d2 => ?_⟩⟩
    refine o O H2 v u a c _ _ P2.env.oa eg (dp_mono (P2.hid P1.env) _ _ d1) d2 fun z H3 s3 d3 => ⟨k, dp_bl d3, ?_⟩
    have PP := (P1.trans env P2).more env s3
    have uu : b = true → ρ2 = ρ ∧ Same H H3 := fun hb => ⟨(u2 hb).1.trans (u1 hb).1, ((u1 hb).2.trans (u2 hb).2).trans s3⟩
    cases k with
    | true =>
      rw [if_pos rfl] at e1 ⊢
      obtain ⟨⟨f, ρ3⟩, ef, e1⟩ := Option.bind_eq_some_iff.mp e1
      obtain ⟨dd, eh, e1⟩ := Option.bind_eq_some_iff.mp e1
      cases e1
      refine ⟨ρ2, f, ρ3, O, ef, PP.env, fun w H4 P4 u4 d4 => ?_⟩
      refine o' O H4 u w c f _ Q P4.env.oa eh (dp_mono (P4.hid PP.env) _ _ (dp_mono (same_hide s3) _ _ d2)) d4 fun z H5 s5 d5 => ?_
      exact q z H5 ((PP.trans env P4).more env s5) (fun hb => ⟨(u4 hb).1.trans (uu hb).1, ((uu hb).2.trans (u4 hb).2).trans s5⟩) d5
    | false =>
      rw [if_neg Bool.false_ne_true] at e1 ⊢
      cases e1
      exact q _ H3 PP uu (.bl _)
  · cases e1
theorem s_chain {op op' : CmpOp} {r r' : R2} {g g' : PyData → PyData → Option PyData} (ho : OpR X (compareOp op) r) (ho' : OpR X (compareOp op') r') (o : OpD X.K r g) (o' : OpD X.K r' g') (h1 : SE b X e1 m1) (h2 : SE b X e2 m2) (h3 : SE b X e3 m3)
    (hm : lastMarks [op, op'] [e2, e3] = false := by with_unfolding_all rfl) : SE b X (.Compare e1 [op, op'] [e2, e3] pos) (mChain g g' m1 m2 m3) := PE.imp (pe_chain ho ho' h1 h2 h3 hm) fun σ H Q q => den_chain o o' q
theorem s_lele (h1 : SE b X e1 m1) (h2 : SE b X e2 m2) (h3 : SE b X e3 m3) (hm : lastMarks [CmpOp.LtE, .LtE] [e2, e3] = false := by with_unfolding_all rfl) : SE b X (.Compare e1 [.LtE, .LtE] [e2, e3] pos) (mChain gLe gLe m1 m2 m3) := s_chain op_le op_le od_le od_le h1 h2 h3 hm
theorem s_lelt (h1 : SE b X e1 m1) (h2 : SE b X e2 m2) (h3 : SE b X e3 m3) (hm : lastMarks [CmpOp.LtE, .Lt] [e2, e3] = false := by with_unfolding_all rfl) : SE b X (.Compare e1 [.LtE, .Lt] [e2, e3] pos) (mChain gLe gLt m1 m2 m3) := s_chain op_le op_lt od_le od_lt h1 h2 h3 hm
/-! ### tests -/
def truD : PyData → Option Bool
  | .none => some false
  | .bool c => some c
  | .int i => some (i != 0)
  | .str y => if y.length ≤ 100000 then some ((y.length : Int) != 0) else none
  | .list ds => some (!ds.isEmpty)
  | .tuple ds => some (!ds.isEmpty)
  | .dict _ => none
def tTru (m : ME) : MT := fun ρ => (m ρ).bind fun p => (truD p.1).bind fun c => some (c, p.2)
theorem dpAll_emp {H : Hp} {vs : List V} {ds : List PyData} (h : DpAll K H vs ds) : vs.isEmpty = ds.isEmpty := by cases h <;> rfl
theorem tru_dp {O : List Addr} {H : Hp} {v : V} {d : PyData} {c : Bool} (h : Dp K (hide O H) v d) (e : truD d = some c) : TruV K v H c := by
  cases h with
  | non => cases e; rfl
  | bl x => cases e; rfl
  | int i => cases e; rfl
  | str x =>
    simp only [truD] at e
    split at e
    · rename_i hl
      cases e
      exact ⟨Nat.le_trans hl (by decide), rfl⟩
    · cases e
  | lst h t =>
    cases e
    exact .inl ⟨_, sqL_mono hide_sub h, by rw [dpAll_emp t]⟩
  | tup h t =>
    cases e
    exact .inr (.inl ⟨_, sqT_mono hide_sub h, by rw [dpAll_emp t]⟩)
theorem t_tru (h : SE b X e m) (he : ∀ whole, isTrue e X.env whole = (do let v ← whole; standAt e.pos; holding [v] (truthy v)) := by intro _; rfl) : ST b X e (tTru m) := PT.imp (pt_truth h he) fun σ H Q q => by
  obtain ⟨ρ, d, ρ', O, e1, env, q⟩ := q
  unfold tTru at e1
  obtain ⟨⟨a, ρ1⟩, ea, e1⟩ := Option.bind_eq_some_iff.mp e1
  obtain ⟨c, eb, e1⟩ := Option.bind_eq_some_iff.mp e1
  cases e1
  exact ⟨ρ, a, ρ1, O, ea, env, fun v H1 P1 u1 d1 => ⟨_, tru_dp d1 eb, q H1 P1 u1⟩⟩
end
end Fn

set_option Elab.async false
set_option linter.all false
set_option maxRecDepth 100000
/-! Fn5: statements, targets, calls of own defs. -/
namespace Fn
open PySem PySem.Spec L2
open PyProof.Rows hiding St

/-! ### slots changed -/
section
variable {K : PySem.W.Frag} {O O' O1 : List Addr} {H H' H1 H2 : Hp} {σ σ' : L2.St} {ρ ρ' ρ1 : Rho}
theorem Own.of {i : Nat} {s : Slot} {ds : List PyData} {p : Addr} (h1 : ρ[i]? = some s) (h2 : s.Has ds) (h3 : σ[i]? = some (some (.ref p))) : Own σ ρ p := ⟨i, s, ds, h1, h2, h3⟩
theorem has_sh {d : PyData} {ds : List PyData} (h : (Slot.sh d).Has ds) : False := by rcases h with h | h <;> cases h
theorem has_no {ds : List PyData} (h : Slot.no.Has ds) : False := by rcases h with h | h <;> cases h
def isPar : Slot → Bool
  | .par _ => true
  | _ => false
/-- a slot is given a value that stands still -/
theorem post_sd {i : Nat} {v : V} {t0 s : Slot} (ht : t0.Still) (h : EnvR K O H σ ρ) (hs : ρ[i]? = some s) (hp : isPar s = false) (hv : Sd K (hide O H) t0 v) : Post K O σ ρ H O (σ.set i (some v)) (ρ.set i t0) H := by
  have hi : i < ρ.length := (List.getElem?_eq_some_iff.mp hs).1
  have hiσ : i < σ.length := by rw [h.len]; exact hi
  have get : ∀ (j : Nat) (s' : Slot) (ds : List PyData), (ρ.set i t0)[j]? = some s' → s'.Has ds → j ≠ i ∧ ρ[j]? = some s' := fun j s' ds e w => by
    by_cases z : i = j
    · subst z
      rw [List.getElem?_set_self hi] at e
      cases e
      exact (ht.not w).elim
    · rw [List.getElem?_set_ne z] at e
      exact ⟨fun y => z y.symm, e⟩
  have own : ∀ a, Own (σ.set i (some v)) (ρ.set i t0) a → Own σ ρ a := fun a ⟨j, s', ds, e1, e2, e3⟩ => by
    obtain ⟨g1, g2⟩ := get j s' ds e1 e2
    rw [List.getElem?_set_ne (fun z => g1 z.symm)] at e3
    exact ⟨j, s', ds, g2, e2, e3⟩
  refine ⟨⟨by rw [List.length_set, List.length_set]; exact h.len, fun j d' e wd => ?_, fun j s' ds e w => ?_, fun j k s' t ds es p e1 w1 e2 w2 e3 e4 => ?_, h.oa⟩, fun _ _ _ e => e, fun a w => .inl (own a w), fun _ m _ => m, fun _ m => .inl m, fun j ds e => ?_⟩
  · by_cases z : i = j
    · subst z
      rw [List.getElem?_set_self hi] at e
      cases e
      exact ⟨v, List.getElem?_set_self hiσ, hv⟩
    · rw [List.getElem?_set_ne z] at e ⊢
      exact h.sd j d' e wd
  · obtain ⟨g1, g2⟩ := get j s' ds e w
    rw [List.getElem?_set_ne (fun z => g1 z.symm)]
    exact h.ow j s' ds g2 w
  · obtain ⟨g1, g2⟩ := get j s' ds e1 w1
    obtain ⟨g3, g4⟩ := get k t es e2 w2
    rw [List.getElem?_set_ne (fun z => g1 z.symm)] at e3
    rw [List.getElem?_set_ne (fun z => g3 z.symm)] at e4
    exact h.di j k s' t ds es p g2 w1 g4 w2 e3 e4
  · by_cases z : i = j
    · subst z
      rw [hs] at e
      cases e
      cases hp
    · rw [List.getElem?_set_ne z, List.getElem?_set_ne z]
      exact ⟨⟨ds, e⟩, rfl⟩
theorem post_sh {i : Nat} {v : V} {d : PyData} {s : Slot} (h : EnvR K O H σ ρ) (hs : ρ[i]? = some s) (hp : isPar s = false) (hv : Dp K (hide O H) v d) : Post K O σ ρ H O (σ.set i (some v)) (ρ.set i (.sh d)) H := post_sd trivial h hs hp hv
/-- an owned list has been changed -/
theorem post_own {i : Nat} {p : Addr} {s t : Slot} {ds es : List PyData} {ws : List V} (h : EnvR K O H σ ρ) (hs : ρ[i]? = some s) (hw : s.Has ds) (ht : t.Has es) (hk : ∀ rs, s = .par rs → ∃ qs, t = .par qs) (hσ : σ[i]? = some (some (.ref p)))
    (ex : ∀ a o, a ≠ p → H a = some o → H' a = some o) (hp : H' p = some (.lst ws)) (hd : DpAll K (hide O H') ws es) : Post K O σ ρ H O σ (ρ.set i t) H' := by
  have hi : i < ρ.length := (List.getElem?_eq_some_iff.mp hs).1
  have pO : p ∈ O := (Own.of hs hw hσ).mem h
  have hid : Same (hide O H) (hide O H') := fun a o e => by
    by_cases m : a ∈ O
    · rw [hide_in m] at e; cases e
    · rw [hide_out m] at e ⊢
      exact ex a o (fun z => m (z ▸ pO)) e
  have own : ∀ a, Own σ (ρ.set i t) a → Own σ ρ a := fun a ⟨j, s', ds', e1, e2, e3⟩ => by
    by_cases z : i = j
    · subst z
      exact ⟨i, s, ds, hs, hw, e3⟩
    · rw [List.getElem?_set_ne z] at e1
      exact ⟨j, s', ds', e1, e2, e3⟩
  refine ⟨⟨by rw [List.length_set]; exact h.len, fun j d' e wd => ?_, fun j s' ds' e w => ?_, fun j k s' t' ds' es' q e1 w1 e2 w2 e3 e4 => ?_, fun a m => ?_⟩, fun a o n e => ex a o (fun z => n (z ▸ Own.of hs hw hσ)) e, fun a w => .inl (own a w), fun _ m _ => m, fun _ m => .inl m, fun j ds' e => ?_⟩
  · by_cases z : i = j
    · subst z
      rw [List.getElem?_set_self hi] at e
      cases e
      exact (wd.not ht).elim
    · rw [List.getElem?_set_ne z] at e
      obtain ⟨v, e1, e2⟩ := h.sd j d' e wd
      exact ⟨v, e1, sd_mono hid e2⟩
  · by_cases z : i = j
    · subst z
      rw [List.getElem?_set_self hi] at e
      cases e
      have : es = ds' := by
        rcases ht with y | y <;> rcases w with x | x <;> (rw [y] at x; cases x) <;> rfl
      subst this
      exact ⟨p, ws, hσ, pO, hp, hd⟩
    · rw [List.getElem?_set_ne z] at e
      obtain ⟨q, vs, e1, e2, e3, e4⟩ := h.ow j s' ds' e w
      have nq : q ≠ p := fun y => by
        subst y
        exact z (h.di i j s s' ds ds' q hs hw e w hσ e1)
      exact ⟨q, vs, e1, e2, ex q _ nq e3, dpAll_mono hid _ _ e4⟩
  · have back : ∀ (j : Nat) (s' : Slot) (ds' : List PyData), (ρ.set i t)[j]? = some s' → s'.Has ds' → ∃ s2 ds2, ρ[j]? = some s2 ∧ s2.Has ds2 := fun j s' ds' e w => by
      by_cases z : i = j
      · subst z; exact ⟨s, ds, hs, hw⟩
      · rw [List.getElem?_set_ne z] at e; exact ⟨s', ds', e, w⟩
    obtain ⟨s2, ds2, g1, g2⟩ := back j s' ds' e1 w1
    obtain ⟨s3, ds3, g3, g4⟩ := back k t' es' e2 w2
    exact h.di j k s2 s3 ds2 ds3 q g1 g2 g3 g4 e3 e4
  · by_cases z : a = p
    · subst z; exact ⟨_, hp⟩
    · obtain ⟨o, e⟩ := h.oa a m
      exact ⟨o, ex a o z e⟩
  · by_cases z : i = j
    · subst z
      rw [hs] at e
      cases e
      obtain ⟨qs, y⟩ := hk _ rfl
      subst y
      exact ⟨⟨qs, List.getElem?_set_self hi⟩, rfl⟩
    · exact ⟨⟨ds', by rw [List.getElem?_set_ne z]; exact e⟩, rfl⟩
/-- a slot is given a new list to own; p is in O already, no slot's -/
theorem post_new {i : Nat} {p : Addr} {s : Slot} {ds : List PyData} {vs : List V} (h : EnvR K O H σ ρ) (hs : ρ[i]? = some s) (hp : isPar s = false) (pO : p ∈ O) (nO : ¬ Own σ ρ p) (hH : H p = some (.lst vs)) (hd : DpAll K (hide O H) vs ds) :
    EnvR K O H (σ.set i (some (.ref p))) (ρ.set i (.own ds)) ∧ (∀ a, Own (σ.set i (some (.ref p))) (ρ.set i (.own ds)) a → Own σ ρ a ∨ a = p) ∧
      ∀ (j : Nat) (es : List PyData), ρ[j]? = some (.par es) → (∃ fs, (ρ.set i (.own ds))[j]? = some (.par fs)) ∧ (σ.set i (some (.ref p)))[j]? = σ[j]? := by
  have hi : i < ρ.length := (List.getElem?_eq_some_iff.mp hs).1
  have hiσ : i < σ.length := by rw [h.len]; exact hi
  have get : ∀ (j : Nat) (s' : Slot) (es : List PyData) (q : Addr), (ρ.set i (.own ds))[j]? = some s' → s'.Has es → (σ.set i (some (.ref p)))[j]? = some (some (.ref q)) → (j = i ∧ q = p) ∨ (j ≠ i ∧ ρ[j]? = some s' ∧ σ[j]? = some (some (.ref q))) := fun j s' es q e w e3 => by
    by_cases z : i = j
    · subst z
      rw [List.getElem?_set_self hiσ] at e3
      cases e3
      exact .inl ⟨rfl, rfl⟩
    · rw [List.getElem?_set_ne z] at e e3
      exact .inr ⟨fun y => z y.symm, e, e3⟩
  refine ⟨⟨by rw [List.length_set, List.length_set]; exact h.len, fun j d' e wd => ?_, fun j s' es e w => ?_, fun j k s' t es fs q e1 w1 e2 w2 e3 e4 => ?_, h.oa⟩, fun a ⟨j, s', es, e1, e2, e3⟩ => ?_, fun j es e => ?_⟩
  · by_cases z : i = j
    · subst z
      rw [List.getElem?_set_self hi] at e
      cases e
      exact (show False from wd).elim
    · rw [List.getElem?_set_ne z] at e ⊢
      exact h.sd j d' e wd
  · by_cases z : i = j
    · subst z
      rw [List.getElem?_set_self hi] at e
      cases e
      rcases w with w | w <;> cases w
      exact ⟨p, vs, List.getElem?_set_self hiσ, pO, hH, hd⟩
    · rw [List.getElem?_set_ne z] at e ⊢
      exact h.ow j s' es e w
  · rcases get j s' es q e1 w1 e3 with ⟨a1, a2⟩ | ⟨a1, a2, a3⟩
    · rcases get k t fs q e2 w2 e4 with ⟨b1, b2⟩ | ⟨b1, b2, b3⟩
      · rw [a1, b1]
      · subst a2
        exact absurd ⟨k, t, fs, b2, w2, b3⟩ nO
    · rcases get k t fs q e2 w2 e4 with ⟨b1, b2⟩ | ⟨b1, b2, b3⟩
      · subst b2
        exact absurd ⟨j, s', es, a2, w1, a3⟩ nO
      · exact h.di j k s' t es fs q a2 w1 b2 w2 a3 b3
  · rcases get j s' es a e1 e2 e3 with ⟨_, a2⟩ | ⟨_, a2, a3⟩
    · exact .inr a2
    · exact .inl ⟨j, s', es, a2, e2, a3⟩
  · by_cases z : i = j
    · subst z
      rw [hs] at e
      cases e
      cases hp
    · rw [List.getElem?_set_ne z, List.getElem?_set_ne z]
      exact ⟨⟨es, e⟩, rfl⟩
/-- a new object is given to the def -/
theorem post_grow {p : Addr} (h : Post K O σ ρ H O σ ρ1 (fun a => if a = p then none else H' a)) (h2 : Post K O σ ρ H O σ ρ1 H') (n : H p = none) (e : ∃ o, H' p = some o) : Post K O σ ρ H (p :: O) σ ρ1 H' ∧ hide O (fun a => if a = p then none else H' a) = hide (p :: O) H' := by
  have hh : hide O (fun a => if a = p then none else H' a) = hide (p :: O) H' := by
    funext a
    show (if a ∈ O then none else if a = p then none else H' a) = if a ∈ p :: O then none else H' a
    by_cases z : a = p
    · rw [if_pos z, if_pos (show a ∈ p :: O by rw [z]; exact List.mem_cons_self)]
      split <;> rfl
    · rw [if_neg z]
      by_cases m : a ∈ O
      · rw [if_pos m, if_pos (List.mem_cons_of_mem _ m)]
      · rw [if_neg m, if_neg (show a ∉ p :: O from fun y => by rcases List.mem_cons.mp y with y | y; exact z y; exact m y)]
  refine ⟨⟨⟨h.env.len, fun j d q wd => ?_, fun j s ds q w => ?_, h.env.di, fun a m => ?_⟩, h2.ex, h.fresh, fun a m w => List.mem_cons_of_mem _ m, fun a m => ?_, h.par⟩, hh⟩
  · rw [← hh]; exact h.env.sd j d q wd
  · obtain ⟨q', vs, e1, e2, e3, e4⟩ := h2.env.ow j s ds q w
    obtain ⟨q2, vs2, f1, f2, f3, f4⟩ := h.env.ow j s ds q w
    rw [e1] at f1
    cases f1
    have f3 : (if q' = p then none else H' q') = some (.lst vs2) := f3
    split at f3
    · cases f3
    · rw [e3] at f3
      cases f3
      refine ⟨q', vs, e1, List.mem_cons_of_mem _ e2, e3, ?_⟩
      rw [← hh]; exact f4
  · rcases List.mem_cons.mp m with z | z
    · subst z; exact e
    · exact h2.env.oa a z
  · rcases List.mem_cons.mp m with z | z
    · subst z; exact .inr n
    · exact .inl z
end

/-! ### statements -/
inductive Out where
  | nx (ρ : Rho) | rt (d : PyData) (ρ : Rho) | bk (ρ : Rho) | ct (ρ : Rho)
abbrev MS := Rho → Option Out
def OutOk (K : PySem.W.Frag) (O : List Addr) (σ : L2.St) (ρ : Rho) (H : Hp) (D : Ends) : Out → Prop
  | .nx ρ' => ∀ O' σ' H', Post K O σ ρ H O' σ' ρ' H' → D.nx σ' H'
  | .rt d ρ' => ∀ O' σ' H' v, Post K O σ ρ H O' σ' ρ' H' → Dp K (hide O' H') v d → D.rt v H'
  | .bk ρ' => ∀ O' σ' H', Post K O σ ρ H O' σ' ρ' H' → D.bk σ' H'
  | .ct ρ' => ∀ O' σ' H', Post K O σ ρ H O' σ' ρ' H' → D.ct σ' H'
def denS (K : PySem.W.Frag) (m : MS) : TS := fun D σ H => ∃ ρ out O, m ρ = some out ∧ EnvR K O H σ ρ ∧ OutOk K O σ ρ H D out
def S1 (X : Cx) (st : Stmt) (m : MS) : Prop := PS X st (denS X.K m)
def SS (X : Cx) (st : List Stmt) (m : MS) : Prop := PSs X st (denS X.K m)
theorem PS.imp {X : Cx} {st : Stmt} {t t' : TS} (h : PS X st t) (i : ∀ D σ H, t' D σ H → t D σ H) : PS X st t' := ⟨fun pins s σ H D I q => h.run pins s σ H D I (i _ _ _ q)⟩
theorem PSs.imp {X : Cx} {st : List Stmt} {t t' : TS} (h : PSs X st t) (i : ∀ D σ H, t' D σ H → t D σ H) : PSs X st t' := ⟨fun pins s σ H D I q => h.run pins s σ H D I (i _ _ _ q)⟩
theorem OutOk.pre {K : PySem.W.Frag} {O O1 : List Addr} {σ σ1 : L2.St} {ρ ρ1 : Rho} {H H1 : Hp} {D : Ends} {o : Out} (h0 : EnvR K O H σ ρ) (P : Post K O σ ρ H O1 σ1 ρ1 H1) (h : OutOk K O σ ρ H D o) : OutOk K O1 σ1 ρ1 H1 D o := by
  cases o with
  | nx ρ' => exact fun O' σ' H' Q => h O' σ' H' (P.trans h0 Q)
  | rt d ρ' => exact fun O' σ' H' v Q => h O' σ' H' v (P.trans h0 Q)
  | bk ρ' => exact fun O' σ' H' Q => h O' σ' H' (P.trans h0 Q)
  | ct ρ' => exact fun O' σ' H' Q => h O' σ' H' (P.trans h0 Q)
section
variable {X : Cx} {K : PySem.W.Frag} {b : Bool} {e e1 e2 e3 : Expr} {es : List Expr} {m m1 m2 m3 : ME} {pos : Pos} {st : Stmt} {sts sts2 : List Stmt} {s1 s2 : MS}
def mSeq (s1 s2 : MS) : MS := fun ρ => (s1 ρ).bind fun o => match o with
  | .nx ρ1 => s2 ρ1
  | .rt d ρ1 => some (.rt d ρ1)
  | .bk ρ1 => some (.bk ρ1)
  | .ct ρ1 => some (.ct ρ1)
def mSkip : MS := fun ρ => some (.nx ρ)
theorem ss_cons (h1 : S1 X st s1) (h2 : SS X sts s2) : SS X (st :: sts) (mSeq s1 s2) := PSs.imp (pss_cons h1 h2) fun D σ H q => by
  obtain ⟨ρ, out, O, e1, env, q⟩ := q
  unfold mSeq at e1
  obtain ⟨o, ea, e1⟩ := Option.bind_eq_some_iff.mp e1
  cases o with
  | nx ρ1 => exact ⟨ρ, .nx ρ1, O, ea, env, fun O1 σ1 H1 P1 => ⟨ρ1, out, O1, e1, P1.env, q.pre env P1⟩⟩
  | rt d ρ1 =>
    cases e1
    exact ⟨ρ, _, O, ea, env, q⟩
  | bk ρ1 =>
    cases e1
    exact ⟨ρ, _, O, ea, env, q⟩
  | ct ρ1 =>
    cases e1
    exact ⟨ρ, _, O, ea, env, q⟩
theorem ss_nil : SS X [] mSkip := PSs.imp pss_nil fun D σ H q => by
  obtain ⟨ρ, out, O, e1, env, q⟩ := q
  cases e1
  exact q O σ H (Post.refl env)
theorem ss_one (h1 : S1 X st s1) : SS X [st] s1 := pss_one h1
def mNever : MS := fun _ => none
theorem s1_never : S1 X st mNever := PS.imp ps_never fun D σ H q => by
  obtain ⟨ρ, out, O, e1, env, q⟩ := q
  cases e1
theorem s1_pass : S1 X (.Pass pos) mSkip := PS.imp ps_pass fun D σ H q => by
  obtain ⟨ρ, out, O, e1, env, q⟩ := q
  cases e1
  exact q O σ H (Post.refl env)
def mBreak : MS := fun ρ => some (.bk ρ)
def mCont : MS := fun ρ => some (.ct ρ)
theorem s1_break : S1 X (.Break pos) mBreak := PS.imp ps_break fun D σ H q => by
  obtain ⟨ρ, out, O, e1, env, q⟩ := q
  cases e1
  exact q O σ H (Post.refl env)
theorem s1_cont : S1 X (.Continue pos) mCont := PS.imp ps_continue fun D σ H q => by
  obtain ⟨ρ, out, O, e1, env, q⟩ := q
  cases e1
  exact q O σ H (Post.refl env)
def mDrop (m : ME) : MS := fun ρ => (m ρ).bind fun p => some (.nx p.2)
theorem s1_expr (h : SE b X e m) (hs : swapsWith e none pos.line X.env = pure false := by rfl) : S1 X (.Expr e pos) (mDrop m) := PS.imp (ps_expr h hs) fun D σ H q => by
  obtain ⟨ρ, out, O, e1, env, q⟩ := q
  unfold mDrop at e1
  obtain ⟨⟨d, ρ1⟩, ea, e1⟩ := Option.bind_eq_some_iff.mp e1
  cases e1
  exact ⟨ρ, d, ρ1, O, ea, env, fun v H1 P1 u1 d1 => q O σ H1 P1⟩
/-! if -/
def mIf (t : MT) (s1 s2 : MS) : MS := fun ρ => (t ρ).bind fun p => if p.1 = true then s1 p.2 else s2 p.2
theorem s1_if {t : MT} (ht : ST b X e t) (h1 : SS X sts s1) (h2 : SS X sts2 s2) : S1 X (.If e sts sts2 pos) (mIf t s1 s2) := PS.imp (ps_if ht h1 h2) fun D σ H q => by
  obtain ⟨ρ, out, O, e1, env, q⟩ := q
  unfold mIf at e1
  obtain ⟨⟨c, ρ1⟩, ea, e1⟩ := Option.bind_eq_some_iff.mp e1
  refine ⟨ρ, c, ρ1, O, ea, env, fun H1 P1 u1 => ?_⟩
  cases c with
  | true =>
    rw [if_pos rfl]
    exact ⟨ρ1, out, O, e1, P1.env, q.pre env P1⟩
  | false =>
    exact iteF ⟨ρ1, out, O, e1, P1.env, q.pre env P1⟩
/-! name = value -/
def mSet (i : Nat) (m : ME) : MS := fun ρ => (m ρ).bind fun p => (p.2[i]?).bind fun s => if isPar s = true then none else some (.nx (p.2.set i (.sh p.1)))
theorem den_set {te : TE} {i : Nat} (ht : ∀ σ H Q, den K b m σ H Q → te σ H Q) {D : Ends} {σ : L2.St} {H : Hp} (q : denS K (mSet i m) D σ H) : tAsg te (gName i) D σ H := by
  obtain ⟨ρ, out, O, e1, env, q⟩ := q
  unfold mSet at e1
  obtain ⟨⟨d, ρ1⟩, ea, e1⟩ := Option.bind_eq_some_iff.mp e1
  obtain ⟨s, eb, e1⟩ := Option.bind_eq_some_iff.mp e1
  split at e1
  · cases e1
  · rename_i hp
    cases e1
    exact ht σ H _ ⟨ρ, d, ρ1, O, ea, env, fun v H1 P1 u1 d1 => q O _ H1 (P1.trans env (post_sh P1.env eb (by simpa using hp) d1))⟩
theorem s1_set {i : Nat} {x : Str} {pos' : Pos} (hN : X.N.Nodup) (hi : X.N[i]? = some x) (hx : Loc X.env.scope x) (he : SE b X e m) (hs : swapsWith e (some (.Name x pos')) pos.line X.env = pure false := by rfl) (hf : X.fn x = true ∨ X.env.scope.names.lookup x = some .local := by first | exact .inl rfl | exact .inr rfl | assumption) :
    S1 X (.Assign [.Name x pos'] e pos) (mSet i m) := PS.imp (ps_set hN hi hx he hs hf) fun D σ H q => den_set (fun _ _ _ z => z) q
def mOwn (i : Nat) (ms : MA) : MS := fun ρ => (ms ρ).bind fun p => (p.2[i]?).bind fun s => if isPar s = true then none else some (.nx (p.2.set i (.own p.1)))
theorem den_own {te : TE} {ms : MA} {i : Nat} (ht : ∀ σ H Q, denF K b ms σ H Q → te σ H Q) {D : Ends} {σ : L2.St} {H : Hp} (q : denS K (mOwn i ms) D σ H) : tAsg te (gName i) D σ H := by
  obtain ⟨ρ, out, O, e1, env, q⟩ := q
  unfold mOwn at e1
  obtain ⟨⟨ds, ρ1⟩, ea, e1⟩ := Option.bind_eq_some_iff.mp e1
  obtain ⟨s, eb, e1⟩ := Option.bind_eq_some_iff.mp e1
  split at e1
  · cases e1
  · rename_i hp
    cases e1
    refine ht σ H _ ⟨ρ, ds, ρ1, O, ea, env, fun p vs H1 np P0 P1 u1 hH d1 => ?_⟩
    obtain ⟨P2, hh⟩ := post_grow P0 P1 np ⟨_, hH⟩
    rw [hh] at d1
    have nO : ¬ Own σ ρ1 p := fun w => by
      have := w.mem P0.env
      exact not_own env np this
    obtain ⟨ev, ow, pa⟩ := post_new P2.env eb (by simpa using hp) List.mem_cons_self nO hH d1
    refine q (p :: O) _ H1 ⟨ev, P2.ex, fun a w => ?_, P2.keep, P2.news, fun j es z => ?_⟩
    · rcases ow a w with w | w
      · exact P2.fresh a w
      · subst w; exact .inr np
    · obtain ⟨⟨fs, z1⟩, z2⟩ := P2.par j es z
      obtain ⟨z3, z4⟩ := pa j fs z1
      exact ⟨z3, z4.trans z2⟩
theorem s1_own {ms : MA} {i : Nat} {x : Str} {pos' : Pos} (hN : X.N.Nodup) (hi : X.N[i]? = some x) (hx : Loc X.env.scope x) (he : SF b X e ms) (hs : swapsWith e (some (.Name x pos')) pos.line X.env = pure false := by rfl) (hf : X.fn x = true ∨ X.env.scope.names.lookup x = some .local := by first | exact .inl rfl | exact .inr rfl | assumption) :
    S1 X (.Assign [.Name x pos'] e pos) (mOwn i ms) := PS.imp (ps_set hN hi hx he hs hf) fun D σ H q => den_own (fun _ _ _ z => z) q
/-! xs.append(e) -/
def putOwn (s : Slot) (f : List PyData → Option (List PyData)) : Option Slot := match s with
  | .own ds => (f ds).bind fun es => some (.own es)
  | .par ds => (f ds).bind fun es => some (.par es)
  | _ => none
theorem putOwn_of {s t : Slot} {f : List PyData → Option (List PyData)} (h : putOwn s f = some t) : ∃ ds es, s.Has ds ∧ t.Has es ∧ f ds = some es ∧ ∀ rs, s = .par rs → ∃ qs, t = .par qs := by
  unfold putOwn at h
  split at h
  · obtain ⟨es, h1, h2⟩ := Option.bind_eq_some_iff.mp h
    cases h2
    exact ⟨_, es, .inl rfl, .inl rfl, h1, fun rs z => by cases z⟩
  · obtain ⟨es, h1, h2⟩ := Option.bind_eq_some_iff.mp h
    cases h2
    exact ⟨_, es, .inr rfl, .inr rfl, h1, fun rs _ => ⟨_, rfl⟩⟩
  · cases h
def ownAt (i : Nat) (ρ : Rho) : Bool := match ρ[i]? with
  | some (.own _) => true
  | some (.par _) => true
  | _ => false
theorem ownAt_of {i : Nat} {ρ : Rho} (h : ownAt i ρ = true) : ∃ s ds, ρ[i]? = some s ∧ s.Has ds := by
  unfold ownAt at h
  split at h
  · rename_i e
    exact ⟨_, _, e, .inl rfl⟩
  · rename_i e
    exact ⟨_, _, e, .inr rfl⟩
  · cases h
def mApp (i : Nat) (m : ME) : MS := fun ρ => if ownAt i ρ = false then none else (m ρ).bind fun p => (p.2[i]?).bind fun s => (putOwn s fun ds => if ds.length < 16000000 then some (ds ++ [p.1]) else none).bind fun t => some (.nx (p.2.set i t))
theorem s1_app {i : Nat} {c : Expr} (hc : PE X c (tBM X.K "list" rAppend (tVar i) (tCons (den X.K b m) tNil))) (hs : swapsWith c none pos.line X.env = pure false := by rfl) : S1 X (.Expr c pos) (mApp i m) := PS.imp (ps_expr hc hs) fun D σ H q => by
    obtain ⟨ρ, out, O, e1, env, q⟩ := q
    unfold mApp at e1
    split at e1
    · cases e1
    rename_i hown
    obtain ⟨⟨d, ρ1⟩, ea, e1⟩ := Option.bind_eq_some_iff.mp e1
    obtain ⟨s, eb, e1⟩ := Option.bind_eq_some_iff.mp e1
    obtain ⟨t, ec, e1⟩ := Option.bind_eq_some_iff.mp e1
    cases e1
    obtain ⟨ds, es, g1, g2, g3, g4⟩ := putOwn_of ec
    split at g3
    · rename_i hl
      cases g3
      -- the list's address
      have hadr : ∃ p vs, σ[i]? = some (some (.ref p)) ∧ H p = some (.lst vs) := by
        obtain ⟨s0, ds0, w1, w2⟩ := ownAt_of (by simpa using hown)
        obtain ⟨p, vs, z1, _, z2, _⟩ := env.ow i s0 ds0 w1 w2
        exact ⟨p, vs, z1, z2⟩
      obtain ⟨p, vs0, hσ, hH0⟩ := hadr
      refine ⟨.ref p, hσ, .inl ⟨rfl, _, .inl (.inl hH0)⟩, ρ, d, ρ1, O, ea, env, fun v H1 P1 u1 d1 => ?_⟩
      obtain ⟨p', vs, z1, z2, z3, z4⟩ := P1.env.ow i s ds eb g1
      rw [hσ] at z1
      cases z1
      refine ⟨p, vs, v, rfl, rfl, z3, ?_, ?_⟩
      · rw [dpAll_len z4]
        exact Nat.lt_of_lt_of_le hl (by decide)
      · have npO := z2
        refine q O σ _ (P1.trans env (post_own P1.env eb g1 g2 g4 hσ (fun a o n z => by rw [upd_ne n]; exact z) upd_same ?_))
        have hh : hide O (upd H1 p (.lst (vs ++ [v]))) = hide O H1 := by
          funext a
          unfold hide
          by_cases y : a ∈ O
          · rw [if_pos y, if_pos y]
          · rw [if_neg y, if_neg y, upd_ne (fun w => y (by rw [w]; exact z2))]
        rw [hh]
        exact dpAll_app z4 (.cons d1 .nil)
    · cases g3
end
end Fn

set_option Elab.async false
set_option linter.all false
set_option maxRecDepth 100000
/-! Fn6: return, own defs: their promises, their calls. -/
namespace Fn
open PySem PySem.Spec L2
open PyProof.Rows hiding St

/-! ### all own lists stand still from here on -/
def still : Slot → Slot
  | .own ds => .sh (.list ds)
  | s => s
section
variable {K : PySem.W.Frag} {O : List Addr} {H : Hp} {σ : L2.St} {ρ : Rho}
def LocOwn (σ : L2.St) (ρ : Rho) (a : Addr) : Prop := ∃ (i : Nat) (ds : List PyData), ρ[i]? = some (.own ds) ∧ σ[i]? = some (some (.ref a))
theorem still_get {i : Nat} {s : Slot} (h : (ρ.map still)[i]? = some s) : ∃ t, ρ[i]? = some t ∧ s = still t := by
  rw [List.getElem?_map] at h
  obtain ⟨t, e1, e2⟩ := Option.map_eq_some_iff.mp h
  exact ⟨t, e1, e2.symm⟩
theorem still_has {t : Slot} {ds : List PyData} (h : (still t).Has ds) : t = .par ds := by
  cases t with
  | own es => exact (has_sh h).elim
  | sh d => exact (has_sh h).elim
  | dct d => exact (Slot.Still.not (s := .dct d) trivial h).elim
  | no => exact (has_no h).elim
  | par es =>
    rcases h with h | h
    · cases h
    · exact h
open Classical in
theorem post_still (h : EnvR K O H σ ρ) : ∃ O', Post K O σ ρ H O' σ (ρ.map still) H := by
  refine ⟨O.filter fun a => decide (¬ LocOwn σ ρ a), ?_⟩
  have mem : ∀ a, a ∈ (O.filter fun a => decide (¬ LocOwn σ ρ a)) ↔ a ∈ O ∧ ¬ LocOwn σ ρ a := fun a => by
    rw [List.mem_filter]
    exact ⟨fun z => ⟨z.1, of_decide_eq_true z.2⟩, fun z => ⟨z.1, decide_eq_true z.2⟩⟩
  generalize (O.filter fun a => decide (¬ LocOwn σ ρ a)) = O' at mem ⊢
  have hid : Same (hide O H) (hide O' H) := fun a o e => by
    by_cases m : a ∈ O
    · rw [hide_in m] at e; cases e
    · rw [hide_out m] at e
      rw [hide_out (fun z => m ((mem a).mp z).1)]
      exact e
  refine ⟨⟨by rw [List.length_map]; exact h.len, fun i d e wd => ?_, fun i s ds e w => ?_, fun i j s t ds es p e1 w1 e2 w2 e3 e4 => ?_, fun a m => h.oa a ((mem a).mp m).1⟩, fun _ _ _ e => e, fun a ⟨i, s, ds, e1, w1, e3⟩ => ?_, fun a m n => ?_, fun a m => .inl ((mem a).mp m).1, fun i ds e => ?_⟩
  · obtain ⟨t, e1, e2⟩ := still_get e
    cases t with
    | no => subst e2; exact (show False from wd).elim
    | par es => subst e2; exact (show False from wd).elim
    | sh d' =>
      subst e2
      obtain ⟨v, z1, z2⟩ := h.sd i _ e1 trivial
      exact ⟨v, z1, sd_mono hid z2⟩
    | dct d' =>
      subst e2
      obtain ⟨v, z1, z2⟩ := h.sd i _ e1 trivial
      exact ⟨v, z1, sd_mono hid z2⟩
    | own ds =>
      subst e2
      obtain ⟨p, vs, z1, z2, z3, z4⟩ := h.ow i _ ds e1 (.inl rfl)
      refine ⟨.ref p, z1, .lst (.inl (.inl ?_)) (dpAll_mono hid _ _ z4)⟩
      rw [hide_out (fun z => ((mem p).mp z).2 ⟨i, ds, e1, z1⟩)]
      exact z3
  · obtain ⟨t, e1, e2⟩ := still_get e
    subst e2
    have ht := still_has w
    subst ht
    obtain ⟨p, vs, z1, z2, z3, z4⟩ := h.ow i _ ds e1 (.inr rfl)
    refine ⟨p, vs, z1, (mem p).mpr ⟨z2, fun ⟨j, es, y1, y2⟩ => ?_⟩, z3, dpAll_mono hid _ _ z4⟩
    have := h.di i j _ _ ds es p e1 (.inr rfl) y1 (.inl rfl) z1 y2
    subst this
    rw [e1] at y1
    cases y1
  · obtain ⟨t1, f1, g1⟩ := still_get e1
    obtain ⟨t2, f2, g2⟩ := still_get e2
    subst g1 g2
    exact h.di i j _ _ ds es p f1 (.inr (still_has w1)) f2 (.inr (still_has w2)) e3 e4
  · obtain ⟨t1, f1, g1⟩ := still_get e1
    subst g1
    exact .inl ⟨i, _, ds, f1, .inr (still_has w1), e3⟩
  · exact (mem a).mpr ⟨m, fun ⟨j, es, y1, y2⟩ => n ⟨j, _, es, y1, .inl rfl, y2⟩⟩
  · refine ⟨⟨ds, ?_⟩, rfl⟩
    rw [List.getElem?_map, e]
    rfl
end
section
variable {X : Cx} {K : PySem.W.Frag} {b : Bool} {e e1 e2 e3 : Expr} {es : List Expr} {m m1 m2 m3 : ME} {pos : Pos}
def mRet (m : ME) : MS := fun ρ => (m (ρ.map still)).bind fun p => some (.rt p.1 p.2)
theorem s1_ret (h : SE b X e m) : S1 X (.Return (some e) pos) (mRet m) := PS.imp (ps_ret h) fun D σ H q => by
  obtain ⟨ρ, out, O, e1, env, q⟩ := q
  unfold mRet at e1
  obtain ⟨⟨d, ρ1⟩, ea, e1⟩ := Option.bind_eq_some_iff.mp e1
  cases e1
  obtain ⟨O', P⟩ := post_still env
  exact ⟨_, d, ρ1, O', ea, P.env, fun v H1 P1 u1 d1 => q O' σ H1 v (P.trans env P1) d1⟩
def mRetN : MS := fun ρ => some (.rt .none ρ)
theorem s1_retN : S1 X (.Return none pos) mRetN := PS.imp ps_retN fun D σ H q => by
  obtain ⟨ρ, out, O, e1, env, q⟩ := q
  cases e1
  exact q O σ H .non (Post.refl env) .non
def mStill : MS → MS := fun s ρ => s (ρ.map still)
theorem ss_still {sts : List Stmt} {s : MS} (h : SS X sts s) : SS X sts (mStill s) := PSs.imp h fun D σ H q => by
  obtain ⟨ρ, out, O, e1, env, q⟩ := q
  obtain ⟨O', P⟩ := post_still env
  exact ⟨_, out, O', e1, P.env, q.pre env P⟩

theorem hu65 {A : Around} {k : Nat} (hr : Room k A) : A.units + 65 < cLine := by have := hr.un; omega
/-! ### a def that changes nothing -/
def spP (K : PySem.W.Frag) (Φ : List PyData → Option PyData) : Sp := fun vs H Q _ => ∃ O ds d, Φ ds = some d ∧ (∀ p, p ∈ O → ∃ o, H p = some o) ∧ DpAll K (hide O H) vs ds ∧
  ∀ v H', Same H H' → Dp K (hide O H') v d → Q v H'
/-- a def whose first argument is a list that it changes -/
def spR (K : PySem.W.Frag) (Ψ : List PyData → List PyData → Option (PyData × List PyData)) : Sp := fun vs H Q _ => ∃ O p ws vs' rs ds d rs', vs = .ref p :: vs' ∧ Ψ rs ds = some (d, rs') ∧ (∀ p, p ∈ O → ∃ o, H p = some o) ∧ p ∈ O ∧
  H p = some (.lst ws) ∧ DpAll K (hide O H) ws rs ∧ DpAll K (hide O H) vs' ds ∧
  ∀ v H' ws', (∀ a o, a ≠ p → H a = some o → H' a = some o) → H' p = some (.lst ws') → DpAll K (hide O H') ws' rs' → Dp K (hide O H') v d → Q v H'
def mFn (Φ : List PyData → Option PyData) (ms : MA) : ME := mCall Φ ms
theorem s_fn {k : Nat} {f : Addr} {fd : FuncData} {ps : List Str} {x : Str} {p : Pos} {Φ : List PyData → Option PyData} {ms : MA} (F : FnOk X.prog X.w X.K X.mg X.base CX0 k f fd ps (spP X.K Φ)) (hr : Room k X.A) (hg : Gl X x) (hm : X.mg x = some (.ref f)) (hk : PySem.W.keepIn X.K (.ref f) = true)
    (hb : Binds X.K fd ps []) (ha : SA b X (e :: es) ms) (hdb : (x == ("__debug__" : Str)) = false := by decide) (he : starEach (e :: es) X.env = (false, eval e X.env) :: starEach es X.env := by rfl) (hpl : (backTo pos (starEach es X.env)).any (·.1) = false := by rfl) :
    SE b X (.Call (.Name x p) (e :: es) [] pos) (mFn Φ ms) := PE.imp (pe_call F hr hg hm hk hb .nil pass0 ha hdb he hpl) fun σ H Q q => by
  obtain ⟨ρ, d, ρ', O, e1, env, q⟩ := q
  unfold mFn mCall at e1
  obtain ⟨⟨as, ρ1⟩, ea, e1⟩ := Option.bind_eq_some_iff.mp e1
  obtain ⟨c, eb, e1⟩ := Option.bind_eq_some_iff.mp e1
  cases e1
  refine ⟨ρ, as, ρ1, O, ea, env, fun vs H1 P1 u1 d1 => ?_⟩
  show spP X.K Φ (vs ++ []) H1 Q E0
  rw [List.append_nil]
  exact ⟨O, as, _, eb, P1.env.oa, d1, fun v H2 s2 d2 => q v H2 (P1.more env s2) (fun hb => ⟨(u1 hb).1, (u1 hb).2.trans s2⟩) d2⟩
def mFnR (Ψ : List PyData → List PyData → Option (PyData × List PyData)) (i : Nat) (ms : MA) : ME := fun ρ => if ownAt i ρ = false then none else (ms ρ).bind fun p => (p.2[i]?).bind fun s => match s with
  | .own rs => (Ψ rs p.1).bind fun q => some (q.1, p.2.set i (.own q.2))
  | .par rs => (Ψ rs p.1).bind fun q => some (q.1, p.2.set i (.par q.2))
  | _ => none
theorem s_fnR {k : Nat} {f : Addr} {fd : FuncData} {ps : List Str} {x y : Str} {p py : Pos} {i : Nat} {Ψ : List PyData → List PyData → Option (PyData × List PyData)} {ms : MA} (F : FnOk X.prog X.w X.K X.mg X.base CX0 k f fd ps (spR X.K Ψ)) (hr : Room k X.A) (hg : Gl X x) (hm : X.mg x = some (.ref f))
    (hk : PySem.W.keepIn X.K (.ref f) = true) (hb : Binds X.K fd ps []) (ha : SA b X es ms) (hN : X.N[i]? = some y := by rfl) (hv : Vis X.env.scope y := by first | exact Or.inl rfl | exact Or.inr (Or.inl rfl) | exact Or.inr (Or.inr rfl)) (hd : (y == ("__debug__" : Str)) = false := by decide)
    (hcd : (y == ("__classdict__" : Str)) = false := by decide) (hdb : (x == ("__debug__" : Str)) = false := by decide) (he : starEach (.Name y py :: es) X.env = (false, eval (.Name y py) X.env) :: starEach es X.env := by rfl) (hpl : (backTo pos (starEach es X.env)).any (·.1) = false := by rfl) :
    SE false X (.Call (.Name x p) (.Name y py :: es) [] pos) (mFnR Ψ i ms) := PE.imp (pe_call F hr hg hm hk hb .nil pass0 (pa_cons (pe_var hN hv hd hcd) ha he) hdb he hpl) fun σ H Q q => by
  obtain ⟨ρ, d, ρ', O, e1, env, q⟩ := q
  unfold mFnR at e1
  split at e1
  · cases e1
  rename_i hown
  obtain ⟨⟨as, ρ1⟩, ea, e1⟩ := Option.bind_eq_some_iff.mp e1
  obtain ⟨s, eb, e1⟩ := Option.bind_eq_some_iff.mp e1
  obtain ⟨s0, ds0, w1, w2⟩ := ownAt_of (by simpa using hown)
  obtain ⟨p0, vs0, hσ, _, hH0, _⟩ := env.ow i s0 ds0 w1 w2
  have key : ∀ (rs rs' : List PyData) (t : Slot), s.Has rs → t.Has rs' → (∀ z, s = .par z → ∃ y, t = .par y) → Ψ rs as = some (d, rs') → ρ' = ρ1.set i t → tCall (spR X.K Ψ) [] E0 (tCons (tVar i) (denA X.K b ms)) σ H Q := by
    intro rs rs' t hs ht hp hΨ er
    refine ⟨.ref p0, hσ, ρ, as, ρ1, O, ea, env, fun vs H1 P1 u1 d1 => ?_⟩
    show spR X.K Ψ ((.ref p0 :: vs) ++ []) H1 Q E0
    rw [List.append_nil]
    obtain ⟨p', ws, z1, z2, z3, z4⟩ := P1.env.ow i s rs eb hs
    rw [hσ] at z1
    cases z1
    refine ⟨O, p0, ws, vs, rs, as, d, rs', rfl, hΨ, P1.env.oa, z2, z3, z4, d1, fun v H2 ws' ex hH2 dw dv => ?_⟩
    subst er
    exact q v H2 (P1.trans env (post_own P1.env eb hs ht hp hσ ex hH2 dw)) (fun z => nomatch z) dv
  split at e1
  · obtain ⟨⟨c, rs'⟩, h1, h2⟩ := Option.bind_eq_some_iff.mp e1
    cases h2
    exact key _ rs' _ (.inl rfl) (.inl rfl) (fun z y => by cases y) h1 rfl
  · obtain ⟨⟨c, rs'⟩, h1, h2⟩ := Option.bind_eq_some_iff.mp e1
    cases h2
    exact key _ rs' _ (.inr rfl) (.inr rfl) (fun z y => ⟨_, rfl⟩) h1 rfl
  · cases e1
/-! ### the def's own proof -/
/-- what a body hands back -/
def outP : Option Out → Option PyData
  | some (.rt d _) => some d
  | some (.nx _) => some .none
  | _ => none
def fnP (k n : Nat) (s : MS) (ds : List PyData) : Option PyData := if ds.length = k then outP (s (ds.map Slot.sh ++ List.replicate n .no)) else none
def parOf : Option Slot → Option (List PyData)
  | some (Slot.par rs) => some rs
  | _ => none
def outR : Option Out → Option (PyData × List PyData)
  | some (.rt d ρ) => (parOf ρ[0]?).bind fun rs => some (d, rs)
  | some (.nx ρ) => (parOf ρ[0]?).bind fun rs => some (.none, rs)
  | _ => none
def fnR (k n : Nat) (s : MS) (rs ds : List PyData) : Option (PyData × List PyData) := if ds.length + 1 = k then outR (s (.par rs :: (ds.map Slot.sh ++ List.replicate n .no))) else none
end
section
variable {K : PySem.W.Frag} {O : List Addr} {H : Hp}
theorem get_args {vs : List V} {ds : List PyData} (h : DpAll K (hide O H) vs ds) (n : Nat) (i : Nat) (s : Slot) (e : (ds.map Slot.sh ++ List.replicate n Slot.no)[i]? = some s) :
    (∃ d v, s = .sh d ∧ (vs.map some ++ List.replicate n none)[i]? = some (some v) ∧ Dp K (hide O H) v d) ∨ s = .no := by
  by_cases z : i < ds.length
  · rw [List.getElem?_append_left (by rw [List.length_map]; exact z), List.getElem?_map] at e
    obtain ⟨d, e1, e2⟩ := Option.map_eq_some_iff.mp e
    obtain ⟨v, e3, e4⟩ := dpAll_get h e1
    refine .inl ⟨d, v, e2.symm, ?_, e4⟩
    rw [List.getElem?_append_left (by rw [List.length_map, dpAll_len h]; exact z), List.getElem?_map, e3]
    rfl
  · rw [List.getElem?_append_right (by rw [List.length_map]; omega)] at e
    exact .inr (List.eq_of_mem_replicate (List.mem_of_getElem? e))
theorem env_start {vs : List V} {ds : List PyData} (oa : ∀ p, p ∈ O → ∃ o, H p = some o) (h : DpAll K (hide O H) vs ds) (n : Nat) : EnvR K O H (vs.map some ++ List.replicate n none) (ds.map Slot.sh ++ List.replicate n .no) := by
  refine ⟨by simp [dpAll_len h], fun i d e wd => ?_, fun i s ds' e w => ?_, fun i j s t ds' es p e1 w1 e2 w2 e3 e4 => ?_, oa⟩
  · rcases get_args h n i _ e with ⟨d', v, e1, e2, e3⟩ | e1
    · subst e1
      exact ⟨v, e2, e3⟩
    · subst e1
      exact (show False from wd).elim
  · rcases get_args h n i _ e with ⟨d', v, e1, e2, e3⟩ | e1
    · subst e1; exact (has_sh w).elim
    · subst e1; exact (has_no w).elim
  · rcases get_args h n i _ e1 with ⟨d', v, f1, f2, f3⟩ | f1
    · subst f1; exact (has_sh w1).elim
    · subst f1; exact (has_no w1).elim
theorem env_startR {p : Addr} {ws vs : List V} {rs ds : List PyData} (oa : ∀ p, p ∈ O → ∃ o, H p = some o) (pO : p ∈ O) (hp : H p = some (.lst ws)) (hw : DpAll K (hide O H) ws rs) (h : DpAll K (hide O H) vs ds) (n : Nat) :
    EnvR K O H (some (.ref p) :: (vs.map some ++ List.replicate n none)) (.par rs :: (ds.map Slot.sh ++ List.replicate n .no)) := by
  have no : ∀ (i : Nat) (s : Slot) (es : List PyData), (Slot.par rs :: (ds.map Slot.sh ++ List.replicate n .no))[i]? = some s → s.Has es → i = 0 ∧ es = rs := fun i s es e w => by
    cases i with
    | zero =>
      cases e
      rcases w with w | w <;> cases w
      exact ⟨rfl, rfl⟩
    | succ i =>
      rcases get_args h n i _ e with ⟨d', v, f1, f2, f3⟩ | f1
      · subst f1; exact (has_sh w).elim
      · subst f1; exact (has_no w).elim
  refine ⟨by simp [dpAll_len h], fun i d e wd => ?_, fun i s es e w => ?_, fun i j s t ds' es q e1 w1 e2 w2 e3 e4 => ?_, oa⟩
  · cases i with
    | zero => cases e; exact (show False from wd).elim
    | succ i =>
      rcases get_args h n i _ e with ⟨d', v, e1, e2, e3⟩ | e1
      · subst e1
        exact ⟨v, e2, e3⟩
      · subst e1
        exact (show False from wd).elim
  · obtain ⟨rfl, rfl⟩ := no i s es e w
    exact ⟨p, ws, rfl, pO, hp, hw⟩
  · rw [(no i s ds' e1 w1).1, (no j t es e2 w2).1]
end
section
variable {w : World} {P : Program} {K : PySem.W.Frag} {mg : Str → Option Value} {base : Heap}
theorem fn_ok {x qual : Str} {st : Stmt} {f : Addr} {fd : FuncData} {N ps : List Str} {k kk nn : Nat} {s : MS} (F : Fun K x qual st f fd) (S : FnScope N ps (defScope st)) (h1 : ps.length = kk) (h2 : N.length - ps.length = nn)
    (hb : ∀ (cdv : Value) (A : Around) (outer : List Env) (s0 : Shared) (H : Hp) (E : XK), Room k (A.deeper (envOfC qual (defScope st) s0.heap.objs.size f cdv)) → SS (cxOf CX0 P w K mg base N qual (defScope st) f cdv A outer s0 H E).nox (defBody st) s) :
    FnOk P w K mg base CX0 (k + 1) f fd ps (spP K (fnP kk nn s)) := by
  subst h1 h2
  refine F.ok S (fun vs H Q E h => ?_) fun cdv A outer s0 H vs Q E hr h => ?_
  · obtain ⟨O, ds, d, e, _, da, _⟩ := h
    unfold fnP at e
    split at e
    · rename_i hl
      rw [dpAll_len da]; exact hl
    · cases e
  · obtain ⟨O, ds, d, e, oa, da, q⟩ := h
    unfold fnP at e
    split at e
    · rename_i hl
      refine ⟨_, hb cdv A outer s0 H E hr, ?_⟩
      have hst : L2.start N vs = vs.map some ++ List.replicate (N.length - ps.length) none := by
        unfold L2.start
        rw [dpAll_len da, hl]
      rw [hst]
      have env := env_start oa da (N.length - ps.length)
      have nown : ∀ a, ¬ Own (vs.map some ++ List.replicate (N.length - ps.length) none) (ds.map Slot.sh ++ List.replicate (N.length - ps.length) Slot.no) a := fun a ⟨i, s, es, e1, w1, _⟩ => by
        rcases get_args da _ i _ e1 with ⟨d', v, f1, f2, f3⟩ | f1
        · subst f1; exact has_sh w1
        · subst f1; exact has_no w1
      generalize (vs.map some ++ List.replicate (N.length - ps.length) none) = σ0 at env nown ⊢
      generalize (ds.map Slot.sh ++ List.replicate (N.length - ps.length) Slot.no) = ρ0 at env e nown
      have fin : ∀ {O' : List Addr} {σ' : L2.St} {ρ' : Rho} {H' : Hp} {v : V}, Post K O σ0 ρ0 H O' σ' ρ' H' → Dp K (hide O' H') v d → Q v H' := fun {O' σ' ρ' H' v} P dv => by
        refine q v H' (fun a o z => P.ex a o (nown a) z) (dp_mono (fun a o z => ?_) _ _ dv)
        by_cases m : a ∈ O'
        · rw [hide_in m] at z; cases z
        · rw [hide_out m] at z
          rw [hide_out (fun y => m (P.keep a y (nown a)))]
          exact z
      cases hs : s ρ0 with
      | none => rw [hs] at e; cases e
      | some o =>
        rw [hs] at e
        refine ⟨ρ0, o, O, hs, env, ?_⟩
        cases o with
        | nx ρ' =>
          cases e
          exact fun O' σ' H' P => fin P .non
        | rt d' ρ' =>
          cases e
          exact fun O' σ' H' v P dv => fin P dv
        | bk ρ' => cases e
        | ct ρ' => cases e
    · cases e
theorem fn_okR {x qual : Str} {st : Stmt} {f : Addr} {fd : FuncData} {N ps : List Str} {k kk nn : Nat} {s : MS} (F : Fun K x qual st f fd) (S : FnScope N ps (defScope st)) (h1 : ps.length = kk) (h2 : N.length - ps.length = nn)
    (hb : ∀ (cdv : Value) (A : Around) (outer : List Env) (s0 : Shared) (H : Hp) (E : XK), Room k (A.deeper (envOfC qual (defScope st) s0.heap.objs.size f cdv)) → SS (cxOf CX0 P w K mg base N qual (defScope st) f cdv A outer s0 H E).nox (defBody st) s) :
    FnOk P w K mg base CX0 (k + 1) f fd ps (spR K (fnR kk nn s)) := by
  subst h1 h2
  refine F.ok S (fun vs H Q E h => ?_) fun cdv A outer s0 H vs Q E hr h => ?_
  · obtain ⟨O, p, ws, vs', rs, ds, d, rs', rfl, e, _, _, _, _, da, _⟩ := h
    unfold fnR at e
    split at e
    · rename_i hl
      rw [List.length_cons, dpAll_len da]; exact hl
    · cases e
  · obtain ⟨O, p, ws, vs', rs, ds, d, rs', rfl, e, oa, pO, hp, dw, da, q⟩ := h
    unfold fnR at e
    split at e
    · rename_i hl
      refine ⟨_, hb cdv A outer s0 H E hr, ?_⟩
      have hst : L2.start N (.ref p :: vs') = some (.ref p) :: (vs'.map some ++ List.replicate (N.length - ps.length) none) := by
        unfold L2.start
        rw [List.length_cons, dpAll_len da, hl]
        rfl
      rw [hst]
      have env := env_startR oa pO hp dw da (N.length - ps.length)
      have nown : ∀ a, Own (some (.ref p) :: (vs'.map some ++ List.replicate (N.length - ps.length) none)) (Slot.par rs :: (ds.map Slot.sh ++ List.replicate (N.length - ps.length) Slot.no)) a → a = p := fun a ⟨i, s, es, e1, w1, e3⟩ => by
        cases i with
        | zero => cases e3; rfl
        | succ i =>
          rcases get_args da _ i _ e1 with ⟨d', v, f1, f2, f3⟩ | f1
          · subst f1; exact (has_sh w1).elim
          · subst f1; exact (has_no w1).elim
      have g0 : (Slot.par rs :: (ds.map Slot.sh ++ List.replicate (N.length - ps.length) Slot.no))[0]? = some (.par rs) := rfl
      have g1 : (some (V.ref p) :: (vs'.map some ++ List.replicate (N.length - ps.length) none))[0]? = some (some (.ref p)) := rfl
      generalize (some (V.ref p) :: (vs'.map some ++ List.replicate (N.length - ps.length) none)) = σ0 at env nown g1 ⊢
      generalize (Slot.par rs :: (ds.map Slot.sh ++ List.replicate (N.length - ps.length) Slot.no)) = ρ0 at env e nown g0
      have fin : ∀ {O' : List Addr} {σ' : L2.St} {ρ' : Rho} {H' : Hp} {v : V}, Post K O σ0 ρ0 H O' σ' ρ' H' → parOf ρ'[0]? = some rs' → Dp K (hide O' H') v d → Q v H' := fun {O' σ' ρ' H' v} P hr dv => by
        obtain ⟨⟨es, z1⟩, z2⟩ := P.par 0 rs g0
        rw [z1] at hr
        cases hr
        obtain ⟨p', ws', y1, y2, y3, y4⟩ := P.env.ow 0 _ _ z1 (.inr rfl)
        rw [z2, g1] at y1
        cases y1
        have sub : Same (hide O' H') (hide O H') := fun a o z => by
          by_cases m : a ∈ O'
          · rw [hide_in m] at z; cases z
          · rw [hide_out m] at z
            have na : a ∉ O := fun y => by
              by_cases w : a = p
              · subst w; exact m y2
              · exact m (P.keep a y (fun o => w (nown a o)))
            rw [hide_out na]
            exact z
        exact q v H' ws' (fun a o n z => P.ex a o (fun w => n (nown a w)) z) y3 (dpAll_mono sub _ _ y4) (dp_mono sub _ _ dv)
      cases hs : s ρ0 with
      | none => rw [hs] at e; cases e
      | some o =>
        rw [hs] at e
        refine ⟨ρ0, o, O, hs, env, ?_⟩
        cases o with
        | nx ρ' =>
          obtain ⟨r2, h1, h2⟩ := Option.bind_eq_some_iff.mp (show (parOf ρ'[0]?).bind _ = _ from e)
          cases h2
          exact fun O' σ' H' P => fin P h1 .non
        | rt d' ρ' =>
          obtain ⟨r2, h1, h2⟩ := Option.bind_eq_some_iff.mp (show (parOf ρ'[0]?).bind _ = _ from e)
          cases h2
          exact fun O' σ' H' v P dv => fin P h1 dv
        | bk ρ' => cases e
        | ct ρ' => cases e
    · cases e
end
end Fn

set_option Elab.async false
set_option linter.all false
set_option maxRecDepth 100000
/-! Fn7: targets, what is walked, for, while. -/
namespace Fn
open PySem PySem.Spec L2
open PyProof.Rows hiding St

/-! ### targets -/
abbrev MG := PyData → Rho → Option Rho
abbrev MGs := List PyData → Rho → Option Rho
def denG (K : PySem.W.Frag) (vs : List Nat) (g : MG) : TG := fun v σ H Q => ∃ ρ d ρ' O, g d ρ = some ρ' ∧ EnvR K O H σ ρ ∧ Dp K (hide O H) v d ∧ ∀ σ', Post K O σ ρ H O σ' ρ' H → wipe σ' vs = wipe σ vs → Q σ' H
def denGs (K : PySem.W.Frag) (vs : List Nat) (g : MGs) : TGs := fun xs σ H Q => ∃ ρ ds ρ' O, g ds ρ = some ρ' ∧ EnvR K O H σ ρ ∧ DpAll K (hide O H) xs ds ∧ ∀ σ', Post K O σ ρ H O σ' ρ' H → wipe σ' vs = wipe σ vs → Q σ' H
def SG (X : Cx) (vs : List Nat) (e : Expr) (g : MG) : Prop := PG X e (denG X.K vs g)
def SGs (X : Cx) (vs : List Nat) (es : List Expr) (g : MGs) : Prop := PGs X es (denGs X.K vs g)
theorem PG.imp {X : Cx} {e : Expr} {t t' : TG} (h : PG X e t) (i : ∀ v σ H Q, t' v σ H Q → t v σ H Q) : PG X e t' := ⟨fun pins s σ H v u Q I r q => h.run pins s σ H v u Q I r (i _ _ _ _ q)⟩
theorem PGs.imp {X : Cx} {e : List Expr} {t t' : TGs} (h : PGs X e t) (i : ∀ v σ H Q, t' v σ H Q → t v σ H Q) : PGs X e t' := ⟨fun pins s σ H v u Q I r q => h.run pins s σ H v u Q I r (i _ _ _ _ q)⟩
def goName (i : Nat) : MG := fun d ρ => (ρ[i]?).bind fun s => if isPar s = true then none else some (ρ.set i (.sh d))
theorem wipe_get (σ : L2.St) (j : Nat) : ∀ vs : List Nat, (wipe σ vs)[j]? = if j ∈ vs ∧ j < σ.length then some none else σ[j]?
  | [] => by simp [wipe]
  | v :: vs => by
    show ((wipe σ vs).set v none)[j]? = _
    by_cases hv : v = j
    · subst hv
      by_cases hl : v < σ.length
      · rw [if_pos ⟨List.mem_cons_self, hl⟩, List.getElem?_set_self (by rw [wipe_length]; exact hl)]
      · rw [if_neg (fun z => hl z.2)]
        rw [List.getElem?_eq_none (by rw [List.length_set, wipe_length]; omega), List.getElem?_eq_none (by omega)]
    · rw [List.getElem?_set_ne hv, wipe_get σ j vs]
      by_cases hj : j ∈ vs ∧ j < σ.length
      · rw [if_pos hj, if_pos ⟨List.mem_cons_of_mem _ hj.1, hj.2⟩]
      · rw [if_neg hj, if_neg]
        rintro ⟨z1, z2⟩
        rcases List.mem_cons.mp z1 with z | z
        · exact hv z.symm
        · exact hj ⟨z, z2⟩
theorem wipe_set {σ : L2.St} {i : Nat} {x : Option V} {vs : List Nat} (hi : i ∈ vs) : wipe (σ.set i x) vs = wipe σ vs := by
  apply List.ext_getElem?
  intro j
  rw [wipe_get, wipe_get, List.length_set]
  by_cases hj : j ∈ vs ∧ j < σ.length
  · rw [if_pos hj, if_pos hj]
  · rw [if_neg hj, if_neg hj]
    by_cases z : i = j
    · subst z
      have : ¬ i < σ.length := fun w => hj ⟨hi, w⟩
      rw [List.getElem?_eq_none (by rw [List.length_set]; omega), List.getElem?_eq_none (by omega)]
    · rw [List.getElem?_set_ne z]
section
variable {X : Cx} {K : PySem.W.Frag} {b : Bool} {vs : List Nat} {e e1 e2 e3 : Expr} {es : List Expr} {m m1 m2 m3 : ME} {pos : Pos}
theorem sg_name {i : Nat} {x : Str} (hN : X.N.Nodup) (hi : X.N[i]? = some x) (hx : Loc X.env.scope x) (hv : i ∈ vs) (hf : X.fn x = true ∨ X.env.scope.names.lookup x = some .local := by first | exact .inl rfl | exact .inr rfl | assumption) : SG X vs (.Name x pos) (goName i) :=
  PG.imp (pg_name hN hi hx hf) fun v σ H Q q => by
    obtain ⟨ρ, d, ρ', O, e1, env, dv, q⟩ := q
    unfold goName at e1
    obtain ⟨s, ea, e1⟩ := Option.bind_eq_some_iff.mp e1
    split at e1
    · cases e1
    · rename_i hp
      cases e1
      exact q _ (post_sh env ea (by simpa using hp) dv) (wipe_set hv)
def goNil : MGs := fun ds ρ => match ds with
  | [] => some ρ
  | _ => none
def goCons (g : MG) (gs : MGs) : MGs := fun ds ρ => match ds with
  | d :: ds => (g d ρ).bind fun ρ1 => gs ds ρ1
  | _ => none
def goTup (n : Nat) (gs : MGs) : MG := fun d ρ => match d with
  | .tuple ds => if ds.length = n then gs ds ρ else none
  | _ => none
theorem sgs_nil : SGs X vs [] goNil := PGs.imp pgs_nil fun v σ H Q q => by
  obtain ⟨ρ, ds, ρ', O, e1, env, dv, q⟩ := q
  unfold goNil at e1
  split at e1
  · cases e1
    cases dv
    exact ⟨rfl, q σ (Post.refl env) rfl⟩
  · cases e1
theorem sgs_cons {g : MG} {gs : MGs} (h1 : SG X vs e g) (h2 : SGs X vs es gs) (hs : (assignEach (e :: es) X.env).map (·.2) = assign e X.env :: (assignEach es X.env).map (·.2) := by rfl) : SGs X vs (e :: es) (goCons g gs) :=
  PGs.imp (pgs_cons h1 h2 hs) fun v σ H Q q => by
    obtain ⟨ρ, ds, ρ', O, e1, env, dv, q⟩ := q
    unfold goCons at e1
    split at e1
    · obtain ⟨ρ1, ea, e1⟩ := Option.bind_eq_some_iff.mp e1
      cases dv with
      | cons dh dt =>
        refine ⟨_, _, rfl, ρ, _, ρ1, O, ea, env, dh, fun σ1 P1 w1 => ⟨ρ1, _, ρ', O, e1, P1.env, dpAll_mono (P1.hid env) _ _ dt, fun σ2 P2 w2 => q σ2 (P1.trans env P2) (w2.trans w1)⟩⟩
    · cases e1
theorem sg_tup {gs : MGs} {k n : Nat} (hc : X.calm = true) (h : SGs X vs es gs) (hn : (assignEach es X.env).length = n := by rfl) (hst : (assignEach es X.env).findIdx? (·.1) = none := by rfl) : SG X vs (.Tuple es k pos) (goTup n gs) :=
  PG.imp (pg_tup hc h hn hst) fun v σ H Q q => by
    obtain ⟨ρ, d, ρ', O, e1, env, dv, q⟩ := q
    unfold goTup at e1
    split at e1
    · split at e1
      · rename_i hl
        obtain ⟨a, xs, rfl, h1, h2⟩ := dp_tup dv
        exact ⟨a, xs, rfl, sqT_mono hide_sub h1, by rw [dpAll_len h2]; exact hl, ρ, _, ρ', O, e1, env, h2, q⟩
      · cases e1
    · cases e1
/-! a, b = e -/
def mTo (m : ME) (g : MG) : MS := fun ρ => (m ρ).bind fun p => (g p.1 p.2).bind fun ρ' => some (.nx ρ')
theorem s1_to {tg : Expr} {g : MG} (he : SE b X e m) (hg : SG X vs tg g) (hs : swapsWithSole [tg] e pos.line X.env = pure false := by rfl) (hw : swappedStores [tg] e X.env = pure none := by rfl)
    (h1 : (assignEach [tg] X.env).map (·.2) = [assign tg X.env] := by rfl) : S1 X (.Assign [tg] e pos) (mTo m g) := PS.imp (ps_asg he hg hs hw h1) fun D σ H q => by
  obtain ⟨ρ, out, O, e1, env, q⟩ := q
  unfold mTo at e1
  obtain ⟨⟨d, ρ1⟩, ea, e1⟩ := Option.bind_eq_some_iff.mp e1
  obtain ⟨ρ2, eb, e1⟩ := Option.bind_eq_some_iff.mp e1
  cases e1
  exact ⟨ρ, d, ρ1, O, ea, env, fun v H1 P1 u1 d1 => ⟨ρ1, d, ρ2, O, eb, P1.env, d1, fun σ2 P2 _ => q O σ2 H1 (P1.trans env P2)⟩⟩
/-! ### what is walked -/
def Yields (K : PySem.W.Frag) (O : List Addr) (σ : L2.St) (ρ : Rho) (H : Hp) (J : It) (ds : List PyData) : Prop := ∀ O2 σ2 ρ2 H2, EnvR K O2 H2 σ2 ρ2 → Same (hide O H) (hide O2 H2) →
  (∀ i d, ds[i]? = some d → J.go i H2 ∧ ∀ x H3, J.yld i H2 x H3 → Same H2 H3 ∧ Dp K (hide O2 H3) x d) ∧ ∀ i, ds.length = i → J.stop i H2
def denI (K : PySem.W.Frag) (b : Bool) (m : MA) : TI := fun σ H R => ∃ ρ ds ρ' O, m ρ = some (ds, ρ') ∧ EnvR K O H σ ρ ∧
  ∀ J H', Post K O σ ρ H O σ ρ' H' → (b = true → ρ' = ρ ∧ Same H H') → Yields K O σ ρ' H' J ds → R J H'
def SI (b : Bool) (X : Cx) (tg e : Expr) (m : MA) : Prop := PI X tg e (denI X.K b m)
theorem PI.imp {X : Cx} {tg e : Expr} {t t' : TI} (h : PI X tg e t) (i : ∀ σ H R, t' σ H R → t σ H R) : PI X tg e t' := ⟨fun pins s σ H R I q => h.run pins s σ H R I (i _ _ _ q)⟩
def asL : PyData → Option (List PyData)
  | .list ds => some ds
  | _ => none
def asT : PyData → Option (List PyData)
  | .tuple ds => some ds
  | _ => none
def mAs (f : PyData → Option (List PyData)) (m : ME) : MA := fun ρ => (m ρ).bind fun p => (f p.1).bind fun ds => some (ds, p.2)
variable {tg : Expr}
theorem si_list (h : SE b X e m) : SI b X tg e (mAs asL m) := PI.imp (pi_list h) fun σ H R q => by
  obtain ⟨ρ, ds, ρ', O, e1, env, q⟩ := q
  unfold mAs at e1
  obtain ⟨⟨d, ρ1⟩, ea, e1⟩ := Option.bind_eq_some_iff.mp e1
  obtain ⟨ds', eb, e1⟩ := Option.bind_eq_some_iff.mp e1
  cases e1
  refine ⟨ρ, d, ρ1, O, ea, env, fun v H1 P1 u1 d1 => ?_⟩
  cases d with
  | list xs =>
    cases eb
    obtain ⟨a, vs, rfl, h1, h2⟩ := dp_lst d1
    refine ⟨a, rfl, ⟨vs, sqL_mono hide_sub h1⟩, q _ H1 P1 u1 fun O2 σ2 ρ2 H2 e2 hid => ⟨fun i d' hd => ?_, fun i hl => ?_⟩⟩
    · obtain ⟨x, g1, g2⟩ := dpAll_get (dpAll_mono hid _ _ h2) hd
      have s2 := sqL_mono (hide_sub (O := O2)) (sqL_mono hid h1)
      refine ⟨⟨vs, x, s2, g1⟩, fun y H3 hy => ?_⟩
      obtain ⟨rfl, hy⟩ := hy
      have := hy vs s2
      rw [g1] at this
      cases this
      exact ⟨Same.refl _, g2⟩
    · exact ⟨vs, sqL_mono hide_sub (sqL_mono hid h1), by rw [dpAll_len h2]; exact Nat.le_of_eq hl⟩
  | _ => cases eb
theorem si_tup (h : SE b X e m) : SI b X tg e (mAs asT m) := PI.imp (pi_tup h) fun σ H R q => by
  obtain ⟨ρ, ds, ρ', O, e1, env, q⟩ := q
  unfold mAs at e1
  obtain ⟨⟨d, ρ1⟩, ea, e1⟩ := Option.bind_eq_some_iff.mp e1
  obtain ⟨ds', eb, e1⟩ := Option.bind_eq_some_iff.mp e1
  cases e1
  refine ⟨ρ, d, ρ1, O, ea, env, fun v H1 P1 u1 d1 => ?_⟩
  cases d with
  | tuple xs =>
    cases eb
    obtain ⟨a, vs, rfl, h1, h2⟩ := dp_tup d1
    refine ⟨a, rfl, ⟨vs, sqT_mono hide_sub h1⟩, q _ H1 P1 u1 fun O2 σ2 ρ2 H2 e2 hid => ⟨fun i d' hd => ?_, fun i hl => ?_⟩⟩
    · obtain ⟨x, g1, g2⟩ := dpAll_get (dpAll_mono hid _ _ h2) hd
      have s2 := sqT_mono (hide_sub (O := O2)) (sqT_mono hid h1)
      refine ⟨⟨vs, x, s2, g1⟩, fun y H3 hy => ?_⟩
      obtain ⟨rfl, hy⟩ := hy
      have := hy vs s2
      rw [g1] at this
      cases this
      exact ⟨Same.refl _, g2⟩
    · exact ⟨vs, sqT_mono hide_sub (sqT_mono hid h1), by rw [dpAll_len h2]; exact Nat.le_of_eq hl⟩
  | _ => cases eb
/-- lo, lo + 1, .. -/
def rngD (lo : Int) (n : Nat) : List PyData := (List.range n).map fun (i : Nat) => .int (lo + (i : Int))
def fRng1 : List PyData → Option (List PyData)
  | [.int j] => if j.natAbs < 4611686018427387904 then some (rngD 0 j.toNat) else none
  | _ => none
def fRng2 : List PyData → Option (List PyData)
  | [.int i, .int j] => if i.natAbs < 4611686018427387904 ∧ j.natAbs < 4611686018427387904 then some (rngD i (j - i).toNat) else none
  | _ => none
def mRng (f : List PyData → Option (List PyData)) (ms : MA) : MA := fun ρ => (ms ρ).bind fun p => (f p.1).bind fun ds => some (ds, p.2)
theorem rngD_len (lo : Int) (n : Nat) : (rngD lo n).length = n := by simp [rngD]
theorem rngD_get {lo : Int} {n i : Nat} {d : PyData} (h : (rngD lo n)[i]? = some d) : i < n ∧ d = .int (lo + i) := by
  unfold rngD at h
  rw [List.getElem?_map] at h
  obtain ⟨j, e1, e2⟩ := Option.map_eq_some_iff.mp h
  obtain ⟨hl, e3⟩ := List.getElem?_eq_some_iff.mp e1
  rw [List.getElem_range] at e3
  rw [List.length_range] at hl
  subst e3
  exact ⟨hl, e2.symm⟩
theorem yields_rng {O : List Addr} {σ : L2.St} {ρ : Rho} {H : Hp} {lo : Int} {n : Nat} : Yields K O σ ρ H (Itr lo n) (rngD lo n) := fun O2 σ2 ρ2 H2 e2 hid => ⟨fun i d hd => by
  obtain ⟨hl, rfl⟩ := rngD_get hd
  refine ⟨hl, fun x H3 hx => ?_⟩
  obtain ⟨rfl, rfl⟩ := hx
  exact ⟨Same.refl _, .int _⟩, fun i hl => by rw [rngD_len] at hl; exact Nat.le_of_eq hl⟩
theorem si_rng1 {ms : MA} {p : Pos} (hg : Gl X "range") (hm : X.mg "range" = none) (h : SA b X [e] ms) (hs : starEach [e] X.env = [(false, eval e X.env)] := by rfl) : SI b X tg (.Call (.Name "range" p) [e] [] pos) (mRng fRng1 ms) :=
  PI.imp (pi_range1 hg hm h hs) fun σ H R q => by
    obtain ⟨ρ, ds, ρ', O, e1, env, q⟩ := q
    unfold mRng at e1
    obtain ⟨⟨as, ρ1⟩, ea, e1⟩ := Option.bind_eq_some_iff.mp e1
    obtain ⟨ds', eb, e1⟩ := Option.bind_eq_some_iff.mp e1
    cases e1
    refine ⟨ρ, as, ρ1, O, ea, env, fun vs H1 P1 u1 d1 => ?_⟩
    have eb : fRng1 as = some _ := eb
    unfold fRng1 at eb
    split at eb
    · split at eb
      · rename_i j hl
        cases eb
        obtain ⟨v, rfl, h1⟩ := dpAll_one d1
        cases dp_int h1
        exact ⟨_, rfl, by omega, by omega, q _ H1 P1 u1 yields_rng⟩
      · cases eb
    · cases eb
theorem si_rng2 {ms : MA} {p : Pos} (hg : Gl X "range") (hm : X.mg "range" = none) (h : SA b X [e1, e2] ms) (hs : starEach [e1, e2] X.env = [(false, eval e1 X.env), (false, eval e2 X.env)] := by rfl) (hpl : starEach [e2] X.env = [(false, eval e2 X.env)] := by rfl) : SI b X tg (.Call (.Name "range" p) [e1, e2] [] pos) (mRng fRng2 ms) :=
  PI.imp (pi_range2 hg hm h hs hpl) fun σ H R q => by
    obtain ⟨ρ, ds, ρ', O, e1, env, q⟩ := q
    unfold mRng at e1
    obtain ⟨⟨as, ρ1⟩, ea, e1⟩ := Option.bind_eq_some_iff.mp e1
    obtain ⟨ds', eb, e1⟩ := Option.bind_eq_some_iff.mp e1
    cases e1
    refine ⟨ρ, as, ρ1, O, ea, env, fun vs H1 P1 u1 d1 => ?_⟩
    have eb : fRng2 as = some _ := eb
    unfold fRng2 at eb
    split at eb
    · split at eb
      · rename_i i j hl
        cases eb
        obtain ⟨v, v', rfl, h1, h2⟩ := dpAll_two d1
        cases dp_int h1
        cases dp_int h2
        exact ⟨_, _, rfl, ⟨by omega, by omega, by omega, by omega⟩, q _ H1 P1 u1 yields_rng⟩
      · cases eb
    · cases eb
/-! a text, sign by sign -/
def signs (z : Str) : List PyData := z.cps.toList.map fun c => .str ⟨#[c]⟩
def asS : PyData → Option (List PyData)
  | .str z => some (signs z)
  | _ => none
theorem si_str (h : SE b X e m) : SI b X tg e (mAs asS m) := PI.imp (pi_str h) fun σ H R q => by
  obtain ⟨ρ, ds, ρ', O, e1, env, q⟩ := q
  unfold mAs at e1
  obtain ⟨⟨d, ρ1⟩, ea, e1⟩ := Option.bind_eq_some_iff.mp e1
  obtain ⟨ds', eb, e1⟩ := Option.bind_eq_some_iff.mp e1
  cases e1
  refine ⟨ρ, d, ρ1, O, ea, env, fun v H1 P1 u1 d1 => ?_⟩
  cases d with
  | str z =>
    cases eb
    refine ⟨z, dp_str d1, q _ H1 P1 u1 fun O2 σ2 ρ2 H2 e2 hid => ⟨fun i d' hd => ?_, fun i hl => ?_⟩⟩
    · unfold signs at hd
      rw [List.getElem?_map] at hd
      obtain ⟨c, g1, g2⟩ := Option.map_eq_some_iff.mp hd
      obtain ⟨g3, g4⟩ := List.getElem?_eq_some_iff.mp g1
      refine ⟨show i < z.cps.size by simpa using g3, fun x H3 hx => ?_⟩
      obtain ⟨rfl, c', g5, rfl⟩ := hx
      refine ⟨Same.refl _, ?_⟩
      subst g2
      rw [Array.getElem?_toList] at g1
      rw [g1] at g5
      cases g5
      exact .str _
    · unfold signs at hl
      rw [List.length_map] at hl
      show z.cps.size ≤ i
      have := Nat.le_of_eq hl
      simpa using this
  | _ => cases eb
/-! ### for -/
def loopS (g : MG) (s : MS) : List PyData → MS
  | [], ρ => some (.nx ρ)
  | d :: ds, ρ => (g d ρ).bind fun ρ1 => (s ρ1).bind fun o => match o with
    | .nx ρ2 => loopS g s ds ρ2
    | .ct ρ2 => loopS g s ds ρ2
    | .bk ρ2 => some (.nx ρ2)
    | .rt d ρ2 => some (.rt d ρ2)
def mFor (mi : MA) (g : MG) (s : MS) : MS := fun ρ => (mi ρ).bind fun p => loopS g s p.1 p.2
theorem s1_for {tg : Expr} {body : List Stmt} {mi : MA} {g : MG} {s : MS} {vs : List Nat} (hp : PassesOwn (model X.prog X.w) X.A X.env X.xe) (hc : X.calm = true) (hi : SI b X tg e mi) (hg : SG X vs tg g) (hb : SS X body s)
    (hs : ∀ x, foldedSetIterable e X.env x = pure x := by intro _; rfl) : S1 X (.For tg e body [] pos) (mFor mi g s) := PS.imp (ps_for hp hc hi hg hb hs) fun D σ H q => by
  obtain ⟨ρ, out, O, e1, env, q⟩ := q
  unfold mFor at e1
  obtain ⟨⟨ds, ρ1⟩, ea, e1⟩ := Option.bind_eq_some_iff.mp e1
  refine ⟨ρ, ds, ρ1, O, ea, env, fun J H1 P1 u1 Y => ?_⟩
  refine ⟨fun i m σ' H' => m = ds.length - i ∧ i ≤ ds.length ∧ ∃ O' ρ', Post X.K O σ ρ1 H1 O' σ' ρ' H' ∧ loopS g s (ds.drop i) ρ' = some out, ⟨ds.length, rfl, Nat.zero_le _, O, ρ1, Post.refl P1.env, e1⟩, ?_⟩
  rintro i m σ2 H2 ⟨rfl, hi, O2, ρ2, P2, hl⟩
  obtain ⟨y1, y2⟩ := Y O2 σ2 ρ2 H2 P2.env (P2.hid P1.env)
  by_cases hlt : i < ds.length
  · have hd : ds[i]? = some ds[i] := List.getElem?_eq_getElem hlt
    rw [List.drop_eq_getElem_cons hlt] at hl
    obtain ⟨ρ3, ec, hl⟩ := Option.bind_eq_some_iff.mp hl
    obtain ⟨o, ed, hl⟩ := Option.bind_eq_some_iff.mp hl
    obtain ⟨go, yy⟩ := y1 i _ hd
    refine .inr ⟨go, fun σ' H' => ∃ O' ρ', Post X.K O σ ρ1 H1 O' σ' ρ' H' ∧ loopS g s (ds.drop (i + 1)) ρ' = some out, fun σ' H' ⟨O', ρ', a1, a2⟩ => ⟨ds.length - (i + 1), by omega, rfl, hlt, O', ρ', a1, a2⟩, fun x H3 hx => ?_⟩
    obtain ⟨s3, d3⟩ := yy x H3 hx
    have P3 := P2.more P1.env s3
    refine ⟨ρ2, _, ρ3, O2, ec, P3.env, d3, fun σ4 P4 _ => ⟨ρ3, o, O2, ed, P4.env, ?_⟩⟩
    have PP := P3.trans P1.env P4
    cases o with
    | nx ρ4 => exact fun O5 σ5 H5 P5 => ⟨O5, ρ4, PP.trans P1.env P5, hl⟩
    | ct ρ4 => exact fun O5 σ5 H5 P5 => ⟨O5, ρ4, PP.trans P1.env P5, hl⟩
    | bk ρ4 =>
      cases hl
      exact fun O5 σ5 H5 P5 => q O5 σ5 H5 (P1.trans env (PP.trans P1.env P5))
    | rt d ρ4 =>
      cases hl
      exact fun O5 σ5 H5 v P5 dv => q O5 σ5 H5 v (P1.trans env (PP.trans P1.env P5)) dv
  · have hie : i = ds.length := by omega
    subst hie
    rw [List.drop_length] at hl
    cases hl
    exact .inl ⟨y2 _ rfl, q O2 σ2 H2 (P1.trans env P2)⟩
/-! ### while, n turns at the most -/
def loopW (t : MT) (s : MS) : Nat → MS
  | 0, _ => none
  | n + 1, ρ => (t ρ).bind fun p => if p.1 = true then (s p.2).bind fun o => match o with
      | .nx ρ2 => loopW t s n ρ2
      | .ct ρ2 => loopW t s n ρ2
      | .bk ρ2 => some (.nx ρ2)
      | .rt d ρ2 => some (.rt d ρ2)
    else some (.nx p.2)
theorem s1_while (n : Nat) {body : List Stmt} {t : MT} {s : MS} (hp : PassesOwn (model X.prog X.w) X.A X.env X.xe) (ht : ST b X e t) (hb : SS X body s) : S1 X (.While e body [] pos) (loopW t s n) := PS.imp (ps_while hp ht hb) fun D σ H q => by
  obtain ⟨ρ, out, O, e1, env, q⟩ := q
  refine ⟨fun k σ' H' => ∃ O' ρ', Post X.K O σ ρ H O' σ' ρ' H' ∧ loopW t s k ρ' = some out, ⟨n, O, ρ, Post.refl env, e1⟩, ?_⟩
  rintro k σ2 H2 ⟨O2, ρ2, P2, hl⟩
  cases k with
  | zero => cases hl
  | succ k =>
    obtain ⟨⟨c, ρ3⟩, ea, hl⟩ := Option.bind_eq_some_iff.mp hl
    refine ⟨ρ2, c, ρ3, O2, ea, P2.env, fun H3 P3 u3 => ?_⟩
    have PP := P2.trans env P3
    cases c with
    | false =>
      rw [if_neg Bool.false_ne_true] at hl
      cases hl
      exact iteF (q O2 σ2 H3 PP)
    | true =>
      rw [if_pos rfl] at hl
      obtain ⟨o, ed, hl⟩ := Option.bind_eq_some_iff.mp hl
      refine iteT ⟨fun σ' H' => ∃ O' ρ', Post X.K O σ ρ H O' σ' ρ' H' ∧ loopW t s k ρ' = some out, fun σ' H' w => ⟨k, Nat.lt_succ_self k, w⟩, ρ3, o, O2, ed, PP.env, ?_⟩
      cases o with
      | nx ρ4 => exact fun O5 σ5 H5 P5 => ⟨O5, ρ4, PP.trans env P5, hl⟩
      | ct ρ4 => exact fun O5 σ5 H5 P5 => ⟨O5, ρ4, PP.trans env P5, hl⟩
      | bk ρ4 =>
        cases hl
        exact fun O5 σ5 H5 P5 => q O5 σ5 H5 (PP.trans env P5)
      | rt d ρ4 =>
        cases hl
        exact fun O5 σ5 H5 v P5 dv => q O5 σ5 H5 v (PP.trans env P5) dv
end
end Fn

set_option Elab.async false
set_option linter.all false
set_option maxRecDepth 100000
/-! Fn8: list comprehensions. -/
namespace Fn
open PySem PySem.Spec L2
open PyProof.Rows hiding St

def wipeR (ρ : Rho) : List Nat → Rho
  | [] => ρ
  | v :: vs => (wipeR ρ vs).set v .no
def back (ρ0 : Rho) : List Nat → Rho → Rho
  | [], ρ => ρ
  | v :: vs, ρ => (back ρ0 vs ρ).set v (ρ0.getD v .no)
def clean (vs : List Nat) (ρ : Rho) : Bool := vs.all fun v => match ρ[v]? with
  | some .no => true
  | some (.sh _) => true
  | _ => false
theorem wipeR_len (ρ : Rho) : ∀ vs, (wipeR ρ vs).length = ρ.length
  | [] => rfl
  | v :: vs => by show ((wipeR ρ vs).set v .no).length = _; rw [List.length_set, wipeR_len ρ vs]
theorem back_len (ρ0 ρ : Rho) : ∀ vs, (back ρ0 vs ρ).length = ρ.length
  | [] => rfl
  | v :: vs => by show ((back ρ0 vs ρ).set v _).length = _; rw [List.length_set, back_len ρ0 ρ vs]
theorem wipeR_in {ρ : Rho} {j : Nat} : ∀ {vs : List Nat}, j ∈ vs → j < ρ.length → (wipeR ρ vs)[j]? = some .no
  | v :: vs, h, hl => by
    show ((wipeR ρ vs).set v .no)[j]? = _
    by_cases z : v = j
    · subst z; rw [List.getElem?_set_self (by rw [wipeR_len]; exact hl)]
    · rw [List.getElem?_set_ne z]
      rcases List.mem_cons.mp h with y | y
      · exact absurd y.symm z
      · exact wipeR_in y hl
theorem wipeR_out {ρ : Rho} {j : Nat} : ∀ {vs : List Nat}, j ∉ vs → (wipeR ρ vs)[j]? = ρ[j]?
  | [], _ => rfl
  | v :: vs, h => by
    show ((wipeR ρ vs).set v .no)[j]? = _
    rw [List.getElem?_set_ne (fun z => h (by rw [z]; exact List.mem_cons_self))]
    exact wipeR_out fun z => h (List.mem_cons_of_mem _ z)
theorem back_in {ρ0 ρ : Rho} {j : Nat} : ∀ {vs : List Nat}, j ∈ vs → j < ρ.length → (back ρ0 vs ρ)[j]? = some (ρ0.getD j .no)
  | v :: vs, h, hl => by
    show ((back ρ0 vs ρ).set v (ρ0.getD v .no))[j]? = _
    by_cases z : v = j
    · subst z; rw [List.getElem?_set_self (by rw [back_len]; exact hl)]
    · rw [List.getElem?_set_ne z]
      rcases List.mem_cons.mp h with y | y
      · exact absurd y.symm z
      · exact back_in y hl
theorem back_out {ρ0 ρ : Rho} {j : Nat} : ∀ {vs : List Nat}, j ∉ vs → (back ρ0 vs ρ)[j]? = ρ[j]?
  | [], _ => rfl
  | v :: vs, h => by
    show ((back ρ0 vs ρ).set v _)[j]? = _
    rw [List.getElem?_set_ne (fun z => h (by rw [z]; exact List.mem_cons_self))]
    exact back_out fun z => h (List.mem_cons_of_mem _ z)
theorem clean_of {vs : List Nat} {ρ : Rho} (h : clean vs ρ = true) {i : Nat} {s : Slot} {ds : List PyData} (e : ρ[i]? = some s) (w : s.Has ds) : i ∉ vs := fun m => by
  have := (List.all_eq_true.mp h) i m
  rw [e] at this
  rcases w with w | w <;> subst w <;> cases this
section
variable {K : PySem.W.Frag} {O : List Addr} {H H1 H' : Hp} {σ σ2 : L2.St} {ρ ρ1 ρe : Rho} {vs : List Nat} {D : Addr} {o o' : HO}
theorem wipe_out {j : Nat} (h : j ∉ vs) : (wipe σ vs)[j]? = σ[j]? := by rw [wipe_get, if_neg (fun z => h z.1)]
theorem wipeR_own {a : Addr} (h : Own (wipe σ vs) (wipeR ρ vs) a) : Own σ ρ a := by
  obtain ⟨i, s, ds, e1, e2, e3⟩ := h
  by_cases m : i ∈ vs
  · have hl : i < ρ.length := by
      have := (List.getElem?_eq_some_iff.mp e1).1
      rw [wipeR_len] at this; exact this
    rw [wipeR_in m hl] at e1
    cases e1
    exact (has_no e2).elim
  · rw [wipeR_out m] at e1
    rw [wipe_out m] at e3
    exact ⟨i, s, ds, e1, e2, e3⟩
theorem env_wipe (h : EnvR K O H σ ρ) : EnvR K O H (wipe σ vs) (wipeR ρ vs) := by
  have get : ∀ (i : Nat) (s : Slot), (wipeR ρ vs)[i]? = some s → s ≠ .no → i ∉ vs ∧ ρ[i]? = some s := fun i s e n => by
    have hl : i < ρ.length := by
      have := (List.getElem?_eq_some_iff.mp e).1
      rw [wipeR_len] at this; exact this
    by_cases m : i ∈ vs
    · rw [wipeR_in m hl] at e
      cases e
      exact absurd rfl n
    · rw [wipeR_out m] at e
      exact ⟨m, e⟩
  have nn : ∀ {s : Slot} {ds : List PyData}, s.Has ds → s ≠ .no := fun {s ds} w z => by subst z; exact has_no w
  refine ⟨by rw [wipe_length, wipeR_len]; exact h.len, fun i d e wd => ?_, fun i s ds e w => ?_, fun i j s t ds es p e1 w1 e2 w2 e3 e4 => ?_, h.oa⟩
  · obtain ⟨m, e⟩ := get i _ e (fun z => by subst z; exact wd)
    obtain ⟨v, z1, z2⟩ := h.sd i d e wd
    exact ⟨v, by rw [wipe_out m]; exact z1, z2⟩
  · obtain ⟨m, e⟩ := get i _ e (nn w)
    obtain ⟨p, ws, z1, z2⟩ := h.ow i s ds e w
    exact ⟨p, ws, by rw [wipe_out m]; exact z1, z2⟩
  · obtain ⟨m1, f1⟩ := get i _ e1 (nn w1)
    obtain ⟨m2, f2⟩ := get j _ e2 (nn w2)
    rw [wipe_out m1] at e3
    rw [wipe_out m2] at e4
    exact h.di i j s t ds es p f1 w1 f2 w2 e3 e4
/-- behind a turn the comprehension's own names are gone -/
theorem post_wipe {O2 : List Addr} {H2 : Hp} {σw : L2.St} {ρw ρ3 : Rho} (hw : ∀ v, v ∈ vs → v < ρw.length → ρw[v]? = some .no) (P : Post K O σw ρw H O2 σ2 ρ3 H2) : Post K O σw ρw H O2 (wipe σ2 vs) (wipeR ρ3 vs) H2 :=
  ⟨env_wipe P.env, P.ex, fun a w => P.fresh a (wipeR_own w), P.keep, P.news, fun i ds e => by
    have hi := (List.getElem?_eq_some_iff.mp e).1
    have m : i ∉ vs := fun m => by rw [hw i m hi] at e; cases e
    rw [wipeR_out m, wipe_out m]
    exact P.par i ds e⟩
/-- the comprehension's frame is laid -/
theorem env_comp (h : EnvR K O H σ ρ) (n : H D = none) : EnvR K (D :: O) (upd H D o) (wipe σ vs) (wipeR ρ vs) := by
  have h2 := env_wipe (vs := vs) (h.same (same_new (o := o) n))
  have hh : Same (hide O H) (hide (D :: O) (upd H D o)) := fun a u z => by
    by_cases m : a ∈ O
    · rw [hide_in m] at z; cases z
    · rw [hide_out m] at z
      have nD : a ≠ D := ne_of_none z n
      rw [hide_out (fun y => by rcases List.mem_cons.mp y with y | y; exact nD y; exact m y), upd_ne nD]
      exact z
  have h0 := env_wipe (vs := vs) h
  refine ⟨h2.len, fun i d e wd => ?_, fun i s ds e w => ?_, h2.di, fun a m => ?_⟩
  · obtain ⟨v, z1, z2⟩ := h0.sd i d e wd
    exact ⟨v, z1, sd_mono hh z2⟩
  · obtain ⟨p, ws, z1, z2, z3, z4⟩ := h0.ow i s ds e w
    exact ⟨p, ws, z1, List.mem_cons_of_mem _ z2, by rw [upd_ne (ne_of_none z3 n)]; exact z3, dpAll_mono hh _ _ z4⟩
  · rcases List.mem_cons.mp m with z | z
    · subst z; exact ⟨_, upd_same⟩
    · exact h2.oa a z
theorem hide_cons {p : Addr} : hide O (fun a => if a = p then none else H' a) = hide (p :: O) H' := by
  funext a
  show (if a ∈ O then none else if a = p then none else H' a) = if a ∈ p :: O then none else H' a
  by_cases z : a = p
  · rw [if_pos z, if_pos (show a ∈ p :: O by rw [z]; exact List.mem_cons_self)]
    split <;> rfl
  · rw [if_neg z]
    by_cases m : a ∈ O
    · rw [if_pos m, if_pos (List.mem_cons_of_mem _ m)]
    · rw [if_neg m, if_neg (show a ∉ p :: O from fun y => by rcases List.mem_cons.mp y with y | y; exact z y; exact m y)]
/-- in the middle of a comprehension: from (σ, ρ, H) to ρw, H' -/
structure Mid (K : PySem.W.Frag) (O : List Addr) (σ : L2.St) (ρ : Rho) (H : Hp) (vs : List Nat) (D : Addr) (ρw : Rho) (H' : Hp) : Prop where
  env : EnvR K (D :: O) H' (wipe σ vs) ρw
  ex : ∀ a o, ¬ Own σ ρ a → H a = some o → H' a = some o
  own : ∀ a, Own (wipe σ vs) ρw a → Own σ ρ a
  no : ∀ v, v ∈ vs → v < ρw.length → ρw[v]? = some .no
  par : ∀ (i : Nat) (ds : List PyData), i ∉ vs → ρ[i]? = some (.par ds) → ∃ es, ρw[i]? = some (.par es)
theorem wipeR_no (ρ2 : Rho) (v : Nat) (hv : v ∈ vs) (hl : v < (wipeR ρ2 vs).length) : (wipeR ρ2 vs)[v]? = some .no := wipeR_in hv (by rw [wipeR_len] at hl; exact hl)
theorem Mid.start (h : EnvR K O H σ ρ) (n : H D = none) : Mid K O σ ρ H vs D (wipeR ρ vs) (upd H D o) :=
  ⟨env_comp h n, fun a u _ z => by rw [upd_ne (ne_of_none z n)]; exact z, fun a w => wipeR_own w, wipeR_no ρ, fun i ds m e => ⟨ds, by rw [wipeR_out m]; exact e⟩⟩
theorem wipe_wipe : wipe (wipe σ vs) vs = wipe σ vs := by
  apply List.ext_getElem?
  intro j
  rw [wipe_get]
  split
  · rename_i h
    rw [wipe_get, if_pos ⟨h.1, by have := h.2; rw [wipe_length] at this; exact this⟩]
  · rfl
/-- what has been there is there -/
theorem Mid.hid (h : EnvR K O H σ ρ) (n : H D = none) {ρw : Rho} (M : Mid K O σ ρ H vs D ρw H') : Same (hide O H) (hide (D :: O) H') := fun a u z => by
  by_cases m : a ∈ O
  · rw [hide_in m] at z; cases z
  · rw [hide_out m] at z
    have nD : a ≠ D := ne_of_none z n
    rw [hide_out (fun y => by rcases List.mem_cons.mp y with y | y; exact nD y; exact m y)]
    exact M.ex a u (fun w => m (w.mem h)) z
theorem Mid.turn {H2 H3 : Hp} {ρw ρ3 : Rho} (M : Mid K O σ ρ H vs D ρw H2) (hσ : wipe σ2 vs = wipe σ vs) (P : Post K (D :: O) (wipe σ vs) ρw H2 (D :: O) σ2 ρ3 H3) : Mid K O σ ρ H vs D (wipeR ρ3 vs) H3 := by
  have Q := post_wipe M.no P
  rw [hσ] at Q
  refine ⟨Q.env, fun a o w z => Q.ex a o (fun y => w (M.own a y)) (M.ex a o w z), fun a w => ?_, wipeR_no ρ3, fun i ds m e => ?_⟩
  · rcases Q.fresh a w with z | z
    · exact M.own a z
    · obtain ⟨u, y⟩ := M.env.oa a (w.mem Q.env)
      rw [z] at y; cases y
  · obtain ⟨es, z⟩ := M.par i ds m e
    exact (Q.par i es z).1
/-- an item is laid into D -/
theorem Mid.laid {H2 : Hp} {ρw : Rho} (h : EnvR K O H σ ρ) (n : H D = none) (M : Mid K O σ ρ H vs D ρw H2) : Mid K O σ ρ H vs D ρw (upd H2 D o) := by
  have hhid : hide (D :: O) (upd H2 D o) = hide (D :: O) H2 := by
    funext a
    unfold hide
    by_cases z : a ∈ D :: O
    · rw [if_pos z, if_pos z]
    · rw [if_neg z, if_neg z, upd_ne (fun y => z (by rw [y]; exact List.mem_cons_self))]
  refine ⟨⟨M.env.len, fun j d z wd => ?_, fun j s es z w => ?_, M.env.di, fun a z => ?_⟩, fun a u w z => ?_, M.own, M.no, M.par⟩
  · rw [hhid]; exact M.env.sd j d z wd
  · obtain ⟨p, ws, f1, f2, f3, f4⟩ := M.env.ow j s es z w
    have hp : p ≠ D := fun hp => by
      subst hp
      exact not_own h n ((M.own p ⟨j, s, es, z, w, f1⟩).mem h)
    exact ⟨p, ws, f1, f2, by rw [upd_ne hp]; exact f3, by rw [hhid]; exact f4⟩
  · by_cases hz : a = D
    · subst hz; exact ⟨_, upd_same⟩
    · rw [upd_ne hz]; exact M.env.oa a z
  · rw [upd_ne (ne_of_none z n)]
    exact M.ex a u w z
/-- the comprehension is over -/
theorem comp_end (h : EnvR K O H σ ρ) (hc : clean vs ρ = true) (n : H D = none) (P : Mid K O σ ρ H vs D ρe H') :
    Post K O σ ρ H O σ (back ρ vs ρe) H' ∧ Post K O σ ρ H O σ (back ρ vs ρe) (fun a => if a = D then none else H' a) := by
  have nDO : D ∉ O := not_own h n
  have lene : ρe.length = ρ.length := by
    have := P.env.len
    rw [wipe_length] at this
    rw [← this, h.len]
  have hid := P.hid h n
  have ownE : ∀ a, Own (wipe σ vs) ρe a → Own σ ρ a ∧ a ∈ O ∧ a ≠ D := fun a w => by
    have key := P.own a w
    have m := key.mem h
    exact ⟨key, m, fun z => nDO (by rw [← z]; exact m)⟩
  have getB : ∀ (i : Nat) (s : Slot) (ds : List PyData), (back ρ vs ρe)[i]? = some s → s.Has ds → i ∉ vs ∧ ρe[i]? = some s := fun i s ds e w => by
    by_cases m : i ∈ vs
    · exfalso
      have hl : i < ρe.length := by
        have := (List.getElem?_eq_some_iff.mp e).1
        rw [back_len] at this; exact this
      rw [back_in m hl] at e
      have e := Option.some.inj e
      have g : ρ[i]? = some s := by
        rw [← e, List.getD_eq_getElem?_getD, List.getElem?_eq_getElem (by omega)]
        rfl
      exact clean_of hc g w m
    · rw [back_out m] at e
      exact ⟨m, e⟩
  have ownB : ∀ a, Own σ (back ρ vs ρe) a → Own (wipe σ vs) ρe a := fun a ⟨i, s, ds, e1, e2, e3⟩ => by
    obtain ⟨m, e⟩ := getB i s ds e1 e2
    exact ⟨i, s, ds, e, e2, by rw [wipe_out m]; exact e3⟩
  -- the slots, over any heap that has what both have
  have env : ∀ H2 : Hp, Same (hide (D :: O) H') (hide O H2) → (∀ a, a ≠ D → H2 a = H' a) → EnvR K O H2 σ (back ρ vs ρe) := fun H2 s2 e2 => by
    refine ⟨by rw [back_len, lene]; exact h.len, fun i d e wd => ?_, fun i s ds e w => ?_, fun i j s t ds es p f1 w1 f2 w2 f3 f4 => ?_, fun a m => ?_⟩
    · by_cases m : i ∈ vs
      · have hl : i < ρe.length := by
          have := (List.getElem?_eq_some_iff.mp e).1
          rw [back_len] at this; exact this
        rw [back_in m hl] at e
        have e := Option.some.inj e
        have g : ρ[i]? = some d := by
          rw [← e, List.getD_eq_getElem?_getD, List.getElem?_eq_getElem (by omega)]
          rfl
        obtain ⟨v, z1, z2⟩ := h.sd i d g wd
        exact ⟨v, z1, sd_mono s2 (sd_mono hid z2)⟩
      · rw [back_out m] at e
        obtain ⟨v, z1, z2⟩ := P.env.sd i d e wd
        rw [wipe_out m] at z1
        exact ⟨v, z1, sd_mono s2 z2⟩
    · obtain ⟨m, e⟩ := getB i s ds e w
      obtain ⟨p, ws, z1, z2, z3, z4⟩ := P.env.ow i s ds e w
      obtain ⟨_, g2, g3⟩ := ownE p ⟨i, s, ds, e, w, z1⟩
      rw [wipe_out m] at z1
      exact ⟨p, ws, z1, g2, by rw [e2 p g3]; exact z3, dpAll_mono s2 _ _ z4⟩
    · obtain ⟨m1, g1⟩ := getB i s ds f1 w1
      obtain ⟨m2, g2⟩ := getB j t es f2 w2
      exact P.env.di i j s t ds es p g1 w1 g2 w2 (by rw [wipe_out m1]; exact f3) (by rw [wipe_out m2]; exact f4)
    · obtain ⟨u, z⟩ := P.env.oa a (List.mem_cons_of_mem _ m)
      exact ⟨u, by rw [e2 a (fun y => nDO (by rw [← y]; exact m))]; exact z⟩
  have par : ∀ (i : Nat) (ds : List PyData), ρ[i]? = some (.par ds) → (∃ es, (back ρ vs ρe)[i]? = some (.par es)) ∧ σ[i]? = σ[i]? := fun i ds e => by
    have m := clean_of hc e (.inr rfl)
    rw [back_out m]
    exact ⟨P.par i ds m e, rfl⟩
  have ex : ∀ a u, ¬ Own σ ρ a → H a = some u → H' a = some u ∧ a ≠ D := fun a u w z => by
    have nD : a ≠ D := ne_of_none z n
    exact ⟨P.ex a u w z, nD⟩
  refine ⟨⟨env H' (fun a u z => ?_) (fun _ _ => rfl), fun a u w z => (ex a u w z).1, fun a w => .inl (ownE a (ownB a w)).1, fun _ m _ => m, fun _ m => .inl m, par⟩,
    ⟨env _ (fun a u z => by rw [hide_cons]; exact z) (fun a z => if_neg z), fun a u w z => ?_, fun a w => .inl (ownE a (ownB a w)).1, fun _ m _ => m, fun _ m => .inl m, par⟩⟩
  · by_cases m : a ∈ D :: O
    · rw [hide_in m] at z; cases z
    · rw [hide_out m] at z
      rw [hide_out (fun y => m (List.mem_cons_of_mem _ y))]
      exact z
  · obtain ⟨z1, z2⟩ := ex a u w z
    show (if a = D then none else H' a) = some u
    rw [if_neg z2]
    exact z1
end
/-! ### the comprehension as a function -/
def loopC (vs : List Nat) (g : MG) (t : MT) (m : ME) : List PyData → List PyData → Rho → Option (List PyData × Rho)
  | [], acc, ρ => some (acc, ρ)
  | d :: ds, acc, ρ => (g d ρ).bind fun ρ1 => (t ρ1).bind fun p => if p.1 = true then (m p.2).bind fun q => if acc.length < 16000000 then loopC vs g t m ds (acc ++ [q.1]) (wipeR q.2 vs) else none
    else loopC vs g t m ds acc (wipeR p.2 vs)
def mLc (vs : List Nat) (mi : MA) (g : MG) (t : MT) (m : ME) : MA := fun ρ => (mi ρ).bind fun p => if clean vs p.2 = true then (loopC vs g t m p.1 [] (wipeR p.2 vs)).bind fun q => some (q.1, back p.2 vs q.2) else none
def tYesM : MT := fun ρ => some (true, ρ)
def STs (b : Bool) (X : Cx) (ifs : List Expr) (t : MT) : Prop := PTs X ifs (denT X.K b t)
section
variable {X : Cx} {K : PySem.W.Frag} {b : Bool} {vs : List Nat} {e tg elt : Expr} {ifs : List Expr} {m : ME} {t : MT} {g : MG} {mi : MA} {pos : Pos}
theorem PTs.imp {X : Cx} {e : List Expr} {t t' : TT} (h : PTs X e t) (i : ∀ σ H R, t' σ H R → t σ H R) : PTs X e t' := ⟨fun pins s σ H R I q => h.run pins s σ H R I (i _ _ _ q)⟩
theorem sts_nil : STs b X [] tYesM := PTs.imp pts_nil fun σ H Q q => by
  obtain ⟨ρ, c, ρ', O, e1, env, q⟩ := q
  cases e1
  exact q H (Post.refl env) fun _ => ⟨rfl, Same.refl H⟩
theorem sts_one {c : Expr} (h : ST b X c t) : STs b X [c] t := pts_one h
theorem den_lc {σ : L2.St} {H : Hp} {Q : VK} (q : denF K false (mLc vs mi g t m) σ H Q) : tLc (denI K b mi) (denG K vs g) (denT K false t) (den K false m) vs σ H Q := by
  obtain ⟨ρ, ds, ρ', O, e1, env, q⟩ := q
  unfold mLc at e1
  obtain ⟨⟨xs, ρ1⟩, ea, e1⟩ := Option.bind_eq_some_iff.mp e1
  split at e1
  · rename_i hc
    obtain ⟨⟨out, ρe⟩, eb, e1⟩ := Option.bind_eq_some_iff.mp e1
    cases e1
    refine ⟨ρ, xs, ρ1, O, ea, env, fun J H1 P1 u1 Y D nD => ?_⟩
    refine ⟨fun i k H' => k = xs.length - i ∧ i ≤ xs.length ∧ ∃ ρw acc av, Mid K O σ ρ1 H1 vs D ρw H' ∧
      loopC vs g t m (xs.drop i) acc ρw = some (out, ρe) ∧ H' D = some (.lst av) ∧ DpAll K (hide (D :: O) H') av acc, ⟨xs.length, rfl, Nat.zero_le _, wipeR ρ1 vs, [], [], Mid.start P1.env nD, eb, upd_same, .nil⟩, ?_⟩
    rintro i k H2 ⟨rfl, hi, ρw, acc, av, M2, hl, hD2, hav⟩
    obtain ⟨y1, y2⟩ := Y (D :: O) _ ρw H2 M2.env (M2.hid P1.env nD)
    by_cases hlt : i < xs.length
    · have hd : xs[i]? = some xs[i] := List.getElem?_eq_getElem hlt
      rw [List.drop_eq_getElem_cons hlt] at hl
      obtain ⟨ρ3, ec, hl⟩ := Option.bind_eq_some_iff.mp hl
      obtain ⟨⟨c, ρ4⟩, ed, hl⟩ := Option.bind_eq_some_iff.mp hl
      obtain ⟨go, yy⟩ := y1 i _ hd
      have notD : ∀ {O5 : List Addr} {σ5 : L2.St} {ρ5 : Rho} {H5 : Hp}, Post K (D :: O) (wipe σ vs) ρw H2 O5 σ5 ρ5 H5 → H5 D = some (.lst av) := fun {O5 σ5 ρ5 H5} P => P.ex D _ (fun w => not_own P1.env nD ((M2.own D w).mem P1.env)) hD2
      refine .inr ⟨go, fun H' => i + 1 ≤ xs.length ∧ ∃ ρw acc av, Mid K O σ ρ1 H1 vs D ρw H' ∧
        loopC vs g t m (xs.drop (i + 1)) acc ρw = some (out, ρe) ∧ H' D = some (.lst av) ∧ DpAll K (hide (D :: O) H') av acc, fun H' ⟨a1, a2⟩ => ⟨xs.length - (i + 1), by omega, rfl, a1, a2⟩, fun x H3 hx => ?_⟩
      obtain ⟨s3, d3⟩ := yy x H3 hx
      have P3 := Post.same M2.env s3
      refine ⟨ρw, _, ρ3, D :: O, ec, P3.env, d3, fun σ4 P4 w4 => ⟨w4.trans wipe_wipe, ρ3, c, ρ4, D :: O, ed, P4.env, fun H5 P5 u5 => ?_⟩⟩
      have Q5 := (P3.trans M2.env P4).trans M2.env P5
      have hwσ : wipe σ4 vs = wipe σ vs := w4.trans wipe_wipe
      cases c with
      | false =>
        rw [if_neg Bool.false_ne_true] at hl
        exact iteF ⟨hlt, wipeR ρ4 vs, acc, av, M2.turn hwσ Q5, hl, notD Q5, dpAll_mono (Q5.hid M2.env) _ _ hav⟩
      | true =>
        rw [if_pos rfl] at hl
        obtain ⟨⟨y, ρ5⟩, ee, hl⟩ := Option.bind_eq_some_iff.mp hl
        refine iteT ⟨ρ4, y, ρ5, D :: O, ee, P5.env, fun v H6 P6 u6 d6 => ?_⟩
        have Q6 := Q5.trans M2.env P6
        split at hl
        · rename_i hsz
          have hhid : hide (D :: O) (upd H6 D (.lst (av ++ [v]))) = hide (D :: O) H6 := by
            funext a
            unfold hide
            by_cases z : a ∈ D :: O
            · rw [if_pos z, if_pos z]
            · rw [if_neg z, if_neg z, upd_ne (fun y => z (by rw [y]; exact List.mem_cons_self))]
          refine ⟨av, notD Q6, ?_, hlt, wipeR ρ5 vs, acc ++ [y], av ++ [v], (M2.turn hwσ Q6).laid P1.env nD, hl, upd_same, ?_⟩
          · rw [dpAll_len hav]
            exact Nat.lt_of_lt_of_le hsz (by decide)
          · rw [hhid]
            exact dpAll_app (dpAll_mono (Q6.hid M2.env) _ _ hav) (.cons d6 .nil)
        · cases hl
    · have hie : i = xs.length := by omega
      subst hie
      rw [List.drop_length] at hl
      cases hl
      obtain ⟨F1, F2⟩ := comp_end P1.env hc nD M2
      have nD0 : H D = none := by
        cases z : H D with
        | none => rfl
        | some o =>
          exfalso
          by_cases w : Own σ ρ D
          · obtain ⟨u, y⟩ := P1.env.oa D (w.mem env)
            rw [nD] at y; cases y
          · rw [P1.ex D o w z] at nD; cases nD
      refine .inl ⟨y2 _ rfl, q D av H2 nD0 (P1.trans env F2) (P1.trans env F1) (fun z => nomatch z) hD2 ?_⟩
      rw [hide_cons]; exact hav
  · cases e1
theorem f_lc {scope : Scope} {own : List (Str × Nat)} (hc : X.calm = true) (hN : X.N.Nodup) (hi : SI b X tg e mi) (ok : BlkOk X.N X.env.scope scope own)
    (hg : ∀ (s : Shared) (H : Hp) (C : Addr) (cl : List (Str × Addr)) (fp : List Addr), SG (X.blk s H scope (compEnvC scope cl C X.env) fp) vs tg g) (ht : ∀ (s : Shared) (H : Hp) (C : Addr) (cl : List (Str × Addr)) (fp : List Addr), STs false (X.blk s H scope (compEnvC scope cl C X.env) fp) ifs t)
    (he : ∀ (s : Shared) (H : Hp) (C : Addr) (cl : List (Str × Addr)) (fp : List Addr), SE false (X.blk s H scope (compEnvC scope cl C X.env) fp) elt m) (hs : ∀ x, foldedSetIterable e X.env x = pure x := by intro _; rfl) (hvs : List.map (fun p : Str × Nat => p.2) own = vs := by rfl) :
    SF false X (.ListComp elt [⟨tg, e, ifs, 0⟩] scope pos) (mLc vs mi g t m) := by
  subst hvs
  exact PE.imp (pe_lc (g := denG X.K (List.map (fun x : Str × Nat => x.2) own) g) (tt := denT X.K false t) (te := den X.K false m) hc hN hi ok (fun s H C cl fp => hg s H C cl fp) (fun s H C cl fp => ht s H C cl fp) (fun s H C cl fp => he s H C cl fp) hs) fun _ _ _ q => den_lc q
end
end Fn

set_option Elab.async false
set_option linter.all false
set_option maxRecDepth 100000
/-! Fn9: comprehensions whose parts change nothing; owned lists read. -/
namespace Fn
open PySem PySem.Spec L2
open PyProof.Rows hiding St

def YieldsS (K : PySem.W.Frag) (O : List Addr) (σ : L2.St) (ρ : Rho) (H : Hp) (J : It) (ds : List PyData) (S : List Nat) : Prop := ∀ O2 σ2 ρ2 H2, Same H H2 → EnvR K O2 H2 σ2 ρ2 → Same (hide O H) (hide O2 H2) → (∀ i, i ∈ S → ρ2[i]? = ρ[i]? ∧ σ2[i]? = σ[i]?) →
  (∀ i d, ds[i]? = some d → J.go i H2 ∧ ∀ x H3, J.yld i H2 x H3 → Same H2 H3 ∧ Dp K (hide O2 H3) x d) ∧ ∀ i, ds.length = i → J.stop i H2
def denIS (K : PySem.W.Frag) (b : Bool) (S : List Nat) (m : MA) : TI := fun σ H R => ∃ ρ ds ρ' O, m ρ = some (ds, ρ') ∧ EnvR K O H σ ρ ∧
  ∀ J H', Post K O σ ρ H O σ ρ' H' → (b = true → ρ' = ρ ∧ Same H H') → YieldsS K O σ ρ' H' J ds S → R J H'
def SIS (b : Bool) (X : Cx) (tg e : Expr) (S : List Nat) (m : MA) : Prop := PI X tg e (denIS X.K b S m)
section
variable {X : Cx} {K : PySem.W.Frag} {b : Bool} {vs S : List Nat} {e tg elt : Expr} {ifs : List Expr} {m : ME} {t : MT} {g : MG} {mi : MA} {pos : Pos}
theorem si_S (h : SI b X tg e mi) : SIS b X tg e [] mi := PI.imp h fun σ H R q => by
  obtain ⟨ρ, ds, ρ', O, e1, env, q⟩ := q
  exact ⟨ρ, ds, ρ', O, e1, env, fun J H' P u Y => q J H' P u fun O2 σ2 ρ2 H2 s e2 hid _ => Y O2 σ2 ρ2 H2 e2 hid⟩
/-- over an owned list -/
def mOwnI (i : Nat) : MA := fun ρ => (lVar i ρ).bind fun ds => some (ds, ρ)
theorem si_own (i : Nat) {x : Str} {px : Pos} (hN : X.N[i]? = some x := by rfl) (hv : Vis X.env.scope x := by first | exact Or.inl rfl | exact Or.inr (Or.inl rfl) | exact Or.inr (Or.inr rfl)) (hd : (x == ("__debug__" : Str)) = false := by decide)
    (hcd : (x == ("__classdict__" : Str)) = false := by decide) : SIS b X tg (.Name x px) [i] (mOwnI i) := PI.imp (pi_list (pe_var hN hv hd hcd)) fun σ H R q => by
  obtain ⟨ρ, ds, ρ', O, e1, env, q⟩ := q
  unfold mOwnI at e1
  obtain ⟨ds', ea, e1⟩ := Option.bind_eq_some_iff.mp e1
  cases e1
  have key : ∃ p vs, σ[i]? = some (some (.ref p)) ∧ SqL X.K H p vs ∧ ∀ O2 σ2 ρ2 H2, Same H H2 → EnvR X.K O2 H2 σ2 ρ2 → Same (hide O H) (hide O2 H2) → ρ2[i]? = ρ[i]? → σ2[i]? = σ[i]? → SqL X.K H2 p vs ∧ DpAll X.K (hide O2 H2) vs ds := by
    unfold lVar at ea
    split at ea
    · rename_i h
      cases ea
      obtain ⟨v, e3, e4⟩ := env.sh i _ h
      obtain ⟨a, xs, rfl, h1, h2⟩ := dp_lst e4
      exact ⟨a, xs, e3, sqL_mono hide_sub h1, fun O2 σ2 ρ2 H2 s e2 hid _ _ => ⟨sqL_mono hide_sub (sqL_mono hid h1), dpAll_mono hid _ _ h2⟩⟩
    · rename_i h
      cases ea
      obtain ⟨p, vs, h1, h2, h3, h4⟩ := env.ow i _ _ h (.inl rfl)
      exact ⟨p, vs, h1, .inl (.inl h3), fun O2 σ2 ρ2 H2 s e2 hid _ _ => ⟨.inl (.inl (s _ _ h3)), dpAll_mono hid _ _ h4⟩⟩
    · rename_i h
      cases ea
      obtain ⟨p, vs, h1, h2, h3, h4⟩ := env.ow i _ _ h (.inr rfl)
      exact ⟨p, vs, h1, .inl (.inl h3), fun O2 σ2 ρ2 H2 s e2 hid _ _ => ⟨.inl (.inl (s _ _ h3)), dpAll_mono hid _ _ h4⟩⟩
    · cases ea
  obtain ⟨p, vs, hσ, hS, hk⟩ := key
  refine ⟨_, hσ, p, rfl, ⟨vs, hS⟩, q _ H (Post.refl env) (fun _ => ⟨rfl, Same.refl H⟩) fun O2 σ2 ρ2 H2 s e2 hid hs => ?_⟩
  obtain ⟨z1, z2⟩ := hs i (by simp)
  obtain ⟨k1, k2⟩ := hk O2 σ2 ρ2 H2 s e2 hid z1 z2
  refine ⟨fun j d hd => ?_, fun j hl => ⟨vs, k1, by rw [dpAll_len k2]; exact Nat.le_of_eq hl⟩⟩
  obtain ⟨x, g1, g2⟩ := dpAll_get k2 hd
  refine ⟨⟨vs, x, k1, g1⟩, fun y H3 hy => ?_⟩
  obtain ⟨rfl, hy⟩ := hy
  have := hy vs k1
  rw [g1] at this
  cases this
  exact ⟨Same.refl _, g2⟩
/-! ### the comprehension, its parts changing nothing -/
def loopP (g : MG) (t : MT) (m : ME) (ρ : Rho) : List PyData → Option (List PyData)
  | [] => some []
  | d :: ds => (g d ρ).bind fun ρ1 => (t ρ1).bind fun p => if p.1 = true then (m ρ1).bind fun q => (loopP g t m ρ ds).bind fun ys => some (q.1 :: ys) else loopP g t m ρ ds
def mLcP (vs S : List Nat) (mi : MA) (g : MG) (t : MT) (m : ME) : MA := fun ρ => (mi ρ).bind fun p => if clean vs p.2 = true ∧ p.1.length < 16000000 ∧ (S.all fun i => !vs.contains i) = true then (loopP g t m (wipeR p.2 vs) p.1).bind fun ys => some (ys, p.2) else none
theorem back_wipe {ρ : Rho} : back ρ vs (wipeR ρ vs) = ρ := by
  apply List.ext_getElem?
  intro j
  by_cases hm : j ∈ vs
  · by_cases hl : j < ρ.length
    · rw [back_in hm (by rw [wipeR_len]; exact hl), List.getD_eq_getElem?_getD, List.getElem?_eq_getElem hl]
      rfl
    · rw [List.getElem?_eq_none (by rw [back_len, wipeR_len]; omega), List.getElem?_eq_none (by omega)]
  · rw [back_out hm, wipeR_out hm]
theorem den_lcP {σ : L2.St} {H : Hp} {Q : VK} (q : denF K b (mLcP vs S mi g t m) σ H Q) : tLc (denIS K b S mi) (denG K vs g) (denT K true t) (den K true m) vs σ H Q := by
  obtain ⟨ρ, ds, ρ', O, e1, env, q⟩ := q
  unfold mLcP at e1
  obtain ⟨⟨xs, ρ1⟩, ea, e1⟩ := Option.bind_eq_some_iff.mp e1
  split at e1
  · rename_i hc
    obtain ⟨hc, hxs, hSv⟩ := hc
    have hxs : xs.length < 16000000 := hxs
    obtain ⟨out, eb, e1⟩ := Option.bind_eq_some_iff.mp e1
    obtain ⟨rfl, rfl⟩ := Prod.mk.inj (Option.some.inj e1)
    clear e1
    refine ⟨ρ, xs, ρ1, O, ea, env, fun J H1 P1 u1 Y D nD => ?_⟩
    have M0 := Mid.start (o := .lst []) (vs := vs) P1.env nD
    -- between two turns: the slots as they were, all that was there is there
    refine ⟨fun i k H' => k = xs.length - i ∧ i ≤ xs.length ∧ ∃ acc ys av, Mid K O σ ρ1 H1 vs D (wipeR ρ1 vs) H' ∧ Same H1 H' ∧ acc.length ≤ i ∧
      loopP g t m (wipeR ρ1 vs) (xs.drop i) = some ys ∧ acc ++ ys = out ∧ H' D = some (.lst av) ∧ DpAll K (hide (D :: O) H') av acc, ⟨xs.length, rfl, Nat.zero_le _, [], out, [], M0, same_new nD, Nat.le_refl _, eb, rfl, upd_same, .nil⟩, ?_⟩
    rintro i k H2 ⟨rfl, hi, acc, ys, av, M2, S2, hai, hl, hout, hD2, hav⟩
    obtain ⟨y1, y2⟩ := Y (D :: O) _ _ H2 S2 M2.env (M2.hid P1.env nD) (fun j hj => by
      have hn : j ∉ vs := fun z => by
        have := (List.all_eq_true.mp hSv) j hj
        rw [List.contains_iff_mem.mpr z] at this
        cases this
      exact ⟨wipeR_out hn, wipe_out hn⟩)
    by_cases hlt : i < xs.length
    · have hd : xs[i]? = some xs[i] := List.getElem?_eq_getElem hlt
      rw [List.drop_eq_getElem_cons hlt] at hl
      obtain ⟨ρ3, ec, hl⟩ := Option.bind_eq_some_iff.mp hl
      obtain ⟨⟨c, ρ4⟩, ed, hl⟩ := Option.bind_eq_some_iff.mp hl
      obtain ⟨go, yy⟩ := y1 i _ hd
      have nOwnD : ¬ Own (wipe σ vs) (wipeR ρ1 vs) D := fun w => not_own P1.env nD ((M2.own D w).mem P1.env)
      refine .inr ⟨go, fun H' => i + 1 ≤ xs.length ∧ ∃ acc ys av, Mid K O σ ρ1 H1 vs D (wipeR ρ1 vs) H' ∧ Same H1 H' ∧ acc.length ≤ i + 1 ∧
        loopP g t m (wipeR ρ1 vs) (xs.drop (i + 1)) = some ys ∧ acc ++ ys = out ∧ H' D = some (.lst av) ∧ DpAll K (hide (D :: O) H') av acc, fun H' ⟨a1, a2⟩ => ⟨xs.length - (i + 1), by omega, rfl, a1, a2⟩, fun x H3 hx => ?_⟩
      obtain ⟨s3, d3⟩ := yy x H3 hx
      have P3 := Post.same M2.env s3
      refine ⟨_, _, ρ3, D :: O, ec, P3.env, d3, fun σ4 P4 w4 => ⟨w4.trans wipe_wipe, ρ3, c, ρ4, D :: O, ed, P4.env, fun H5 P5 u5 => ?_⟩⟩
      obtain ⟨r5, s5⟩ := u5 rfl
      subst r5
      have hwσ : wipe σ4 vs = wipe σ vs := w4.trans wipe_wipe
      -- the turn's end, whatever has been made
      have fin : ∀ H6, Same H5 H6 → Mid K O σ ρ1 H1 vs D (wipeR ρ1 vs) H6 := fun H6 s6 => by
        have s := (s3.trans s5).trans s6
        refine ⟨M2.env.same s, fun a o w z => s a o (S2 a o z), M2.own, M2.no, M2.par⟩
      cases c with
      | false =>
        rw [if_neg Bool.false_ne_true] at hl
        exact iteF ⟨hlt, acc, ys, av, fin H5 (Same.refl _), S2.trans (s3.trans s5), by omega, hl, hout, (s3.trans s5) _ _ hD2, dpAll_mono (same_hide (s3.trans s5)) _ _ hav⟩
      | true =>
        rw [if_pos rfl] at hl
        obtain ⟨⟨y, ρ5⟩, ee, hl⟩ := Option.bind_eq_some_iff.mp hl
        obtain ⟨ys', ef, hl⟩ := Option.bind_eq_some_iff.mp hl
        cases hl
        refine iteT ⟨_, y, ρ5, D :: O, ee, P5.env, fun v H6 P6 u6 d6 => ?_⟩
        obtain ⟨r6, s6⟩ := u6 rfl
        have hhid : hide (D :: O) (upd H6 D (.lst (av ++ [v]))) = hide (D :: O) H6 := by
          funext a
          unfold hide
          by_cases z : a ∈ D :: O
          · rw [if_pos z, if_pos z]
          · rw [if_neg z, if_neg z, upd_ne (fun y => z (by rw [y]; exact List.mem_cons_self))]
        have s26 := (s3.trans s5).trans s6
        refine ⟨av, s26 _ _ hD2, ?_, hlt, acc ++ [y], ys', av ++ [v], (fin H6 s6).laid P1.env nD, fun a o z => ?_, ?_, ef, ?_, upd_same, ?_⟩
        · rw [dpAll_len hav]
          exact Nat.lt_of_lt_of_le (show acc.length < 16000000 by omega) (by decide)
        · rw [upd_ne (ne_of_none z nD)]
          exact s26 _ _ (S2 _ _ z)
        · rw [List.length_append]
          show acc.length + 1 ≤ i + 1
          omega
        · rw [← hout, List.append_assoc]
          rfl
        · rw [hhid]
          exact dpAll_app (dpAll_mono (same_hide s26) _ _ hav) (.cons d6 .nil)
    · have hie : i = xs.length := by omega
      subst hie
      rw [List.drop_length] at hl
      cases hl
      rw [List.append_nil] at hout
      subst hout
      obtain ⟨F1, F2⟩ := comp_end P1.env hc nD M2
      rw [back_wipe] at F1 F2
      have nD0 : H D = none := by
        cases z : H D with
        | none => rfl
        | some o =>
          exfalso
          by_cases w : Own σ ρ D
          · obtain ⟨u, y⟩ := P1.env.oa D (w.mem env)
            rw [nD] at y; cases y
          · rw [P1.ex D o w z] at nD; cases nD
      refine .inl ⟨y2 _ rfl, q D av H2 nD0 (P1.trans env F2) (P1.trans env F1) (fun hb => ⟨(u1 hb).1, (u1 hb).2.trans S2⟩) hD2 ?_⟩
      rw [hide_cons]; exact hav
  · cases e1
theorem f_lcP {scope : Scope} {own : List (Str × Nat)} (hc : X.calm = true) (hN : X.N.Nodup) (hi : SIS b X tg e S mi) (ok : BlkOk X.N X.env.scope scope own)
    (hg : ∀ (s : Shared) (H : Hp) (C : Addr) (cl : List (Str × Addr)) (fp : List Addr), SG (X.blk s H scope (compEnvC scope cl C X.env) fp) vs tg g) (ht : ∀ (s : Shared) (H : Hp) (C : Addr) (cl : List (Str × Addr)) (fp : List Addr), STs true (X.blk s H scope (compEnvC scope cl C X.env) fp) ifs t)
    (he : ∀ (s : Shared) (H : Hp) (C : Addr) (cl : List (Str × Addr)) (fp : List Addr), SE true (X.blk s H scope (compEnvC scope cl C X.env) fp) elt m) (hs : ∀ x, foldedSetIterable e X.env x = pure x := by intro _; rfl) (hvs : List.map (fun p : Str × Nat => p.2) own = vs := by rfl) :
    SF b X (.ListComp elt [⟨tg, e, ifs, 0⟩] scope pos) (mLcP vs S mi g t m) := by
  subst hvs
  exact PE.imp (pe_lc (g := denG X.K (List.map (fun x : Str × Nat => x.2) own) g) (tt := denT X.K true t) (te := den X.K true m) hc hN hi ok (fun s H C cl fp => hg s H C cl fp) (fun s H C cl fp => ht s H C cl fp) (fun s H C cl fp => he s H C cl fp) hs) fun _ _ _ q => den_lcP q
/-! name = [..] -/
theorem s1_setLc {scope : Scope} {own : List (Str × Nat)} {i : Nat} {y : Str} {py spos : Pos} (hc : X.calm = true) (hN : X.N.Nodup) (hy : X.N[i]? = some y) (hyl : X.env.scope.names.lookup y = some .local)
    (hsw : swapsWith (.ListComp elt [⟨tg, e, ifs, 0⟩] scope pos) (some (.Name y py)) spos.line X.env = pure true) (hi : SIS b X tg e S mi) (ok : BlkOk X.N X.env.scope scope own)
    (hg : ∀ (s : Shared) (H : Hp) (C : Addr) (cl : List (Str × Addr)) (fp : List Addr), SG (X.blk s H scope (compEnvC scope cl C X.env) fp) vs tg g) (ht : ∀ (s : Shared) (H : Hp) (C : Addr) (cl : List (Str × Addr)) (fp : List Addr), STs true (X.blk s H scope (compEnvC scope cl C X.env) fp) ifs t)
    (he : ∀ (s : Shared) (H : Hp) (C : Addr) (cl : List (Str × Addr)) (fp : List Addr), SE true (X.blk s H scope (compEnvC scope cl C X.env) fp) elt m) (hs : ∀ x, foldedSetIterable e X.env x = pure x := by intro _; rfl) (hvs : List.map (fun p : Str × Nat => p.2) own = vs := by rfl) :
    S1 X (.Assign [.Name y py] (.ListComp elt [⟨tg, e, ifs, 0⟩] scope pos) spos) (mSet i (mF (mLcP vs S mi g t m))) := by
  subst hvs
  exact PS.imp (ps_setLc (g := denG X.K (List.map (fun x : Str × Nat => x.2) own) g) (tt := denT X.K true t) (te := den X.K true m) hc hN hy hyl hsw hi ok (fun s H C cl fp => hg s H C cl fp) (fun s H C cl fp => ht s H C cl fp) (fun s H C cl fp => he s H C cl fp) hs)
    fun _ _ _ q => den_set (b := b) (fun _ _ _ z => den_lcP ((denF_e z))) q
end
end Fn

set_option Elab.async false
set_option linter.all false
set_option maxRecDepth 100000
/-! Fn10: several names at once, xs[i] = e, len, tuple, list of owned lists, join. -/
namespace Fn
open PySem PySem.Spec L2
open PyProof.Rows hiding St

/-! ### values that slots will hold -/
inductive SlotsOk (K : PySem.W.Frag) (O : List Addr) (H H0 : Hp) : (Addr → Prop) → List V → List Slot → Prop where
  | nil {bad : Addr → Prop} : SlotsOk K O H H0 bad [] []
  | sh {bad : Addr → Prop} {v : V} {d : PyData} {vs : List V} {ss : List Slot} : Dp K (hide O H) v d → SlotsOk K O H H0 bad vs ss → SlotsOk K O H H0 bad (v :: vs) (.sh d :: ss)
  | own {bad : Addr → Prop} {p : Addr} {ws : List V} {ds : List PyData} {vs : List V} {ss : List Slot} : p ∈ O → H0 p = none → ¬ bad p → H p = some (.lst ws) → DpAll K (hide O H) ws ds → SlotsOk K O H H0 (fun a => bad a ∨ a = p) vs ss →
      SlotsOk K O H H0 bad (.ref p :: vs) (.own ds :: ss)
section
variable {K : PySem.W.Frag} {O O' : List Addr} {H H' H0 H1 : Hp} {σ : L2.St} {ρ : Rho}
theorem SlotsOk.imp {bad bad' : Addr → Prop} {vs : List V} {ss : List Slot} (h : SlotsOk K O H H1 bad vs ss) : (∀ p, H1 p = none → ¬ bad p → H0 p = none ∧ ¬ bad' p) → SlotsOk K O H H0 bad' vs ss := by
  induction h generalizing bad' with
  | nil => exact fun _ => .nil
  | sh d _ ih => exact fun k => .sh d (ih k)
  | own m n nb hp hd _ ih =>
    intro k
    refine .own m (k _ n nb).1 (k _ n nb).2 hp hd (ih fun p n' nb' => ?_)
    have := k p n' (fun z => nb' (.inl z))
    exact ⟨this.1, fun z => z.elim this.2 fun e => nb' (.inr e)⟩
theorem SlotsOk.len {bad : Addr → Prop} {vs : List V} {ss : List Slot} (h : SlotsOk K O H H0 bad vs ss) : vs.length = ss.length := by
  induction h with
  | nil => rfl
  | sh _ _ ih => simp [ih]
  | own _ _ _ _ _ _ ih => simp [ih]
abbrev MM := Rho → Option (List Slot × Rho)
def denM (K : PySem.W.Frag) (m : MM) : TA := fun σ H Q => ∃ ρ ss ρ' O, m ρ = some (ss, ρ') ∧ EnvR K O H σ ρ ∧
  ∀ vs H' O', Post K O σ ρ H O' σ ρ' H' → SlotsOk K O' H' H (Own σ ρ') vs ss → Q vs H'
def SM (X : Cx) (es : List Expr) (m : MM) : Prop := PA X es (denM X.K m)
def mmNil : MM := fun ρ => some ([], ρ)
def mmSh (m : ME) (ms : MM) : MM := fun ρ => (m ρ).bind fun p => (ms p.2).bind fun q => some (.sh p.1 :: q.1, q.2)
def mmOwn (m : MA) (ms : MM) : MM := fun ρ => (m ρ).bind fun p => (ms p.2).bind fun q => some (.own p.1 :: q.1, q.2)
end
section
variable {X : Cx} {K : PySem.W.Frag} {b : Bool} {vs S : List Nat} {e e1 e2 : Expr} {es : List Expr} {m m1 m2 : ME} {ms : MA} {mm : MM} {pos : Pos}
theorem sm_nil : SM X [] mmNil := PA.imp pa_nil fun σ H Q q => by
  obtain ⟨ρ, ss, ρ', O, e1, env, q⟩ := q
  cases e1
  exact q [] H O (Post.refl env) .nil
theorem none_back {O O1 : List Addr} {σ σ1 : L2.St} {ρ ρ1 : Rho} {H H1 : Hp} (h : EnvR K O H σ ρ) (P : Post K O σ ρ H O1 σ1 ρ1 H1) (oa : ∀ a, Own σ ρ a → ∃ o, H1 a = some o) {p : Addr} (n : H1 p = none) : H p = none := by
  cases z : H p with
  | none => rfl
  | some o =>
    exfalso
    by_cases w : Own σ ρ p
    · obtain ⟨u, y⟩ := oa p w
      rw [n] at y; cases y
    · rw [P.ex p o w z] at n; cases n
theorem sm_sh (h1 : SE b X e m) (h2 : SM X es mm) (hs : starEach (e :: es) X.env = (false, eval e X.env) :: starEach es X.env := by rfl) : SM X (e :: es) (mmSh m mm) := PA.imp (pa_cons h1 h2 hs) fun σ H Q q => by
  obtain ⟨ρ, ss, ρ', O, e1, env, q⟩ := q
  unfold mmSh at e1
  obtain ⟨⟨d, ρ1⟩, ea, e1⟩ := Option.bind_eq_some_iff.mp e1
  obtain ⟨⟨ts, ρ2⟩, eb, e1⟩ := Option.bind_eq_some_iff.mp e1
  cases e1
  refine ⟨ρ, d, ρ1, O, ea, env, fun v H1 P1 u1 d1 => ⟨ρ1, ts, ρ2, O, eb, P1.env, fun vs H2 O2 P2 so => ?_⟩⟩
  refine q (v :: vs) H2 O2 (P1.trans env P2) (.sh (dp_mono (P2.hid P1.env) _ _ d1) (so.imp fun p n nb => ⟨none_back env P1 (fun a w => ?_) n, nb⟩))
  exact P1.env.oa a (w.mem env)
theorem sm_own (h1 : SF b X e ms) (h2 : SM X es mm) (hs : starEach (e :: es) X.env = (false, eval e X.env) :: starEach es X.env := by rfl) : SM X (e :: es) (mmOwn ms mm) := PA.imp (pa_cons h1 h2 hs) fun σ H Q q => by
  obtain ⟨ρ, ss, ρ', O, e1, env, q⟩ := q
  unfold mmOwn at e1
  obtain ⟨⟨ds, ρ1⟩, ea, e1⟩ := Option.bind_eq_some_iff.mp e1
  obtain ⟨⟨ts, ρ2⟩, eb, e1⟩ := Option.bind_eq_some_iff.mp e1
  cases e1
  refine ⟨ρ, ds, ρ1, O, ea, env, fun p ws H1 np P0 P1 u1 hH d1 => ?_⟩
  obtain ⟨P2, hh⟩ := post_grow P0 P1 np ⟨_, hH⟩
  rw [hh] at d1
  have nO : ¬ Own σ ρ1 p := fun w => not_own env np (w.mem P0.env)
  refine ⟨ρ1, ts, ρ2, p :: O, eb, P2.env, fun vs H2 O2 P3 so => ?_⟩
  have nO2 : ¬ Own σ ρ2 p := fun w => by
    rcases P3.fresh p w with z | z
    · exact nO z
    · rw [hH] at z; cases z
  refine q (.ref p :: vs) H2 O2 (P2.trans env P3) (.own (P3.keep p List.mem_cons_self nO) np nO2 (P3.ex p _ nO hH) (dpAll_mono (P3.hid P2.env) _ _ d1) (so.imp fun a n nb => ⟨none_back env P1 (fun c w => P1.env.oa c (w.mem env)) n, fun z => ?_⟩))
  rcases z with z | z
  · exact nb z
  · subst z
    rw [hH] at n; cases n
/-! ### several slots set -/
def setV : List Nat → List V → L2.St → L2.St
  | i :: is, v :: vs, σ => setV is vs (σ.set i (some v))
  | _, _, σ => σ
def setR : List Nat → List Slot → Rho → Option Rho
  | [], [], ρ => some ρ
  | i :: is, s :: ss, ρ => (ρ[i]?).bind fun t => if isPar t = true then none else setR is ss (ρ.set i s)
  | _, _, _ => none
theorem post_setR {O0 : List Addr} {σ0 : L2.St} {ρ0 : Rho} {H0 : Hp} (h0 : EnvR K O0 H0 σ0 ρ0) {O : List Addr} {H : Hp} : ∀ (is : List Nat) (ss : List Slot) (vs : List V) (σ : L2.St) (ρ ρ' : Rho), setR is ss ρ = some ρ' → Post K O0 σ0 ρ0 H0 O σ ρ H → SlotsOk K O H H0 (Own σ ρ) vs ss →
    Post K O0 σ0 ρ0 H0 O (setV is vs σ) ρ' H
  | [], [], vs, σ, ρ, ρ', e, P, so => by
    cases e
    cases so
    exact P
  | [], _ :: _, _, _, _, _, e, _, _ => by cases e
  | _ :: _, [], _, _, _, _, e, _, _ => by cases e
  | i :: is, s :: ss, vs, σ, ρ, ρ', e, P, so => by
    obtain ⟨t, e1, e⟩ := Option.bind_eq_some_iff.mp (show (ρ[i]?).bind _ = _ from e)
    split at e
    · cases e
    · rename_i hp
      cases so with
      | sh dv rest =>
        have Q := post_sh (v := _) P.env e1 (by simpa using hp) dv
        refine post_setR h0 is ss _ _ _ ρ' e (P.trans h0 Q) (rest.imp fun p n nb => ⟨n, fun w => ?_⟩)
        rcases Q.fresh p w with z | z
        · exact nb z
        · obtain ⟨o, y⟩ := Q.env.oa p (w.mem Q.env)
          rw [z] at y; cases y
      | own m n nb hH hd rest =>
        rename_i p ws ds vs'
        obtain ⟨ev, ow, pa⟩ := post_new P.env e1 (by simpa using hp) m nb hH hd
        refine post_setR h0 is ss _ _ _ ρ' e ⟨ev, P.ex, fun a w => ?_, P.keep, P.news, fun j es z => ?_⟩ (rest.imp fun a n' nb' => ⟨n', fun w => ?_⟩)
        · rcases ow a w with w | w
          · exact P.fresh a w
          · subst w; exact .inr n
        · obtain ⟨⟨fs, z1⟩, z2⟩ := P.par j es z
          obtain ⟨z3, z4⟩ := pa j fs z1
          exact ⟨z3, z4.trans z2⟩
        · rcases ow a w with w | w
          · exact nb' (.inl w)
          · exact nb' (.inr w)
def mPar (is : List Nat) (mm : MM) : MS := fun ρ => (mm ρ).bind fun p => (setR is p.1 p.2).bind fun ρ' => some (.nx ρ')
theorem den_par {is : List Nat} {D : Ends} {σ : L2.St} {H : Hp} (q : denS K (mPar is mm) D σ H) : denM K mm σ H fun vs H1 => vs.length = is.length ∧ D.nx (setV is vs σ) H1 := by
  obtain ⟨ρ, out, O, e1, env, q⟩ := q
  unfold mPar at e1
  obtain ⟨⟨ss, ρ1⟩, ea, e1⟩ := Option.bind_eq_some_iff.mp e1
  obtain ⟨ρ2, eb, e1⟩ := Option.bind_eq_some_iff.mp e1
  cases e1
  refine ⟨ρ, ss, ρ1, O, ea, env, fun vs H1 O1 P so => ⟨?_, q O1 _ H1 (post_setR env is ss vs σ ρ1 ρ2 eb P so)⟩⟩
  rw [so.len]
  have key : ∀ (is : List Nat) (ss : List Slot) (ρ ρ' : Rho), setR is ss ρ = some ρ' → ss.length = is.length := by
    intro is
    induction is with
    | nil =>
      intro ss ρ ρ' e
      cases ss with
      | nil => rfl
      | cons _ _ => cases e
    | cons i is ih =>
      intro ss ρ ρ' e
      cases ss with
      | nil => cases e
      | cons s ss =>
        obtain ⟨t, _, e⟩ := Option.bind_eq_some_iff.mp (show (ρ[i]?).bind _ = _ from e)
        split at e
        · cases e
        · simp [ih ss _ ρ' e]
  exact key is ss ρ1 ρ2 eb
theorem s1_par2 {i j : Nat} {x y : Str} {px py pt : Pos} {kt k2 pt2} (hc : X.calm = true) (hN : X.N.Nodup) (hi : X.N[i]? = some x) (hj : X.N[j]? = some y) (hij : i ≠ j)
    (hx : X.env.scope.names.lookup x = some .local) (hy : X.env.scope.names.lookup y = some .local) (ha : SM X [e1, e2] mm)
    (hw : swappedStores [.Tuple [.Name x px, .Name y py] kt pt] (.Tuple [e1, e2] k2 pt2) X.env = pure (some [x, y]))
    (hs : swapsWithSole [.Tuple [.Name x px, .Name y py] kt pt] (.Tuple [e1, e2] k2 pt2) pos.line X.env = pure false := by rfl) :
    S1 X (.Assign [.Tuple [.Name x px, .Name y py] kt pt] (.Tuple [e1, e2] k2 pt2) pos) (mPar [i, j] mm) :=
  PS.imp (ps_par hc hN hi hj hij hx hy ha hw hs) fun D σ H q => by
    obtain ⟨ρ, ss, ρ', O, e, env, q⟩ := den_par q
    refine ⟨ρ, ss, ρ', O, e, env, fun vs H' O' P so => ?_⟩
    obtain ⟨hl, q⟩ := q vs H' O' P so
    match vs, hl, q with
    | [v, w], _, q => exact ⟨v, w, rfl, q⟩
theorem s1_par3 {i j l : Nat} {x y z : Str} {e3 : Expr} {px py pz pt : Pos} {kt k2 pt2} (hc : X.calm = true) (hN : X.N.Nodup) (hi : X.N[i]? = some x) (hj : X.N[j]? = some y) (hl : X.N[l]? = some z) (hij : i ≠ j) (hil : i ≠ l) (hjl : j ≠ l)
    (hx : X.env.scope.names.lookup x = some .local) (hy : X.env.scope.names.lookup y = some .local) (hz : X.env.scope.names.lookup z = some .local) (ha : SM X [e1, e2, e3] mm)
    (hw : swappedStores [.Tuple [.Name x px, .Name y py, .Name z pz] kt pt] (.Tuple [e1, e2, e3] k2 pt2) X.env = pure (some [x, y, z]))
    (hs : swapsWithSole [.Tuple [.Name x px, .Name y py, .Name z pz] kt pt] (.Tuple [e1, e2, e3] k2 pt2) pos.line X.env = pure false := by rfl) :
    S1 X (.Assign [.Tuple [.Name x px, .Name y py, .Name z pz] kt pt] (.Tuple [e1, e2, e3] k2 pt2) pos) (mPar [i, j, l] mm) :=
  PS.imp (ps_par3 hc hN hi hj hl hij hil hjl hx hy hz ha hw hs) fun D σ H q => by
    obtain ⟨ρ, ss, ρ', O, e, env, q⟩ := den_par q
    refine ⟨ρ, ss, ρ', O, e, env, fun vs H' O' P so => ?_⟩
    obtain ⟨hl, q⟩ := q vs H' O' P so
    match vs, hl, q with
    | [v, w, u], _, q => exact ⟨v, w, u, rfl, q⟩
/-- by way of a tuple -/
def gsNames : List Nat → TGs
  | [] => gNil
  | i :: is => gCons (gName i) (gsNames is)
theorem gsNames_of : ∀ (is : List Nat) (vs : List V) (σ : L2.St) (H : Hp) (Q : L2.St → Hp → Prop), vs.length = is.length → Q (setV is vs σ) H → gsNames is vs σ H Q
  | [], [], σ, H, Q, _, q => ⟨rfl, q⟩
  | [], _ :: _, _, _, _, h, _ => by cases h
  | i :: is, [], _, _, _, h, _ => by cases h
  | i :: is, v :: vs, σ, H, Q, h, q => ⟨v, vs, rfl, gsNames_of is vs (σ.set i (some v)) H Q (by simpa using h) q⟩
theorem slots_same {O : List Addr} {H H' H0 : Hp} {bad : Addr → Prop} {vs : List V} {ss : List Slot} (s : Same H H') (h : SlotsOk K O H H0 bad vs ss) : SlotsOk K O H' H0 bad vs ss := by
  induction h with
  | nil => exact .nil
  | sh d _ ih => exact .sh (dp_mono (same_hide s) _ _ d) ih
  | own m n nb hp hd _ ih => exact .own m n nb (s _ _ hp) (dpAll_mono (same_hide s) _ _ hd) ih
theorem setR_len : ∀ {is : List Nat} {ss : List Slot} {ρ ρ' : Rho}, setR is ss ρ = some ρ' → ss.length = is.length
  | [], [], _, _, _ => rfl
  | [], _ :: _, _, _, e => by cases e
  | _ :: _, [], _, _, e => by cases e
  | i :: is, s :: ss, ρ, ρ', e => by
    obtain ⟨t, _, e⟩ := Option.bind_eq_some_iff.mp (show (ρ[i]?).bind _ = _ from e)
    split at e
    · cases e
    · simp [setR_len e]
theorem s1_parT {tgs : List Expr} {is : List Nat} {kt k2 : Nat} {pt pt2 : Pos} (hc : X.calm = true) (ha : SM X es mm) (hg : PGs X tgs (gsNames is)) (h1000 : is.length ≤ 1000) (hn : (assignEach tgs X.env).length = is.length := by rfl) (hst : (assignEach tgs X.env).findIdx? (·.1) = none := by rfl)
    (hs : swapsWithSole [.Tuple tgs kt pt] (.Tuple es k2 pt2) pos.line X.env = pure false := by rfl) (hw : swappedStores [.Tuple tgs kt pt] (.Tuple es k2 pt2) X.env = pure none := by rfl)
    (h1 : (assignEach [.Tuple tgs kt pt] X.env).map (·.2) = [assign (.Tuple tgs kt pt) X.env] := by rfl) : S1 X (.Assign [.Tuple tgs kt pt] (.Tuple es k2 pt2) pos) (mPar is mm) :=
  PS.imp (ps_asg (pe_tup ha) (pg_tup hc hg hn hst) hs hw h1) fun D σ H q => by
    obtain ⟨ρ, out, O, e1, env, q⟩ := q
    unfold mPar at e1
    obtain ⟨⟨ss, ρ1⟩, ea, e1⟩ := Option.bind_eq_some_iff.mp e1
    obtain ⟨ρ2, eb, e1⟩ := Option.bind_eq_some_iff.mp e1
    cases e1
    refine ⟨ρ, ss, ρ1, O, ea, env, fun vs H1 O1 P so => ?_⟩
    have hl : vs.length = is.length := so.len.trans (setR_len eb)
    refine ⟨Nat.le_trans (by rw [hl]; exact h1000) (by decide : 1000 ≤ sizeLine), fun T nT => ⟨T, vs, rfl, .inl (.inl upd_same), hl, gsNames_of is vs σ _ _ hl ?_⟩⟩
    have P2 := P.more env (same_new (o := .tup vs) nT)
    exact q O1 _ _ (post_setR env is ss vs σ ρ1 ρ2 eb P2 (slots_same (same_new nT) so))
/-! ### xs[i] = e -/
def mStore (i : Nat) (m : ME) (mi : ME) : MS := fun ρ => (m ρ).bind fun p => if ownAt i p.2 = false then none else (mi p.2).bind fun r => match r.1 with
  | .int k => (p.2[i]?).bind fun s => (putOwn s fun ds => (ixN ds.length k).bind fun j => some (ds.set j p.1)).bind fun t => some (.nx (p.2.set i t))
  | _ => none
theorem s1_store {i : Nat} {x : Str} {p1 spos : Pos} (he : SE b X e m) (hg : PG X (.Subscript (.Name x p1) e2 spos) (L2.gSub (tVar i) (den X.K true m2) rSetL))
    (hs : swapsWithSole [.Subscript (.Name x p1) e2 spos] e pos.line X.env = pure false := by rfl) (hw : swappedStores [.Subscript (.Name x p1) e2 spos] e X.env = pure none := by rfl)
    (h1 : (assignEach [.Subscript (.Name x p1) e2 spos] X.env).map (·.2) = [assign (.Subscript (.Name x p1) e2 spos) X.env] := by rfl) :
    S1 X (.Assign [.Subscript (.Name x p1) e2 spos] e pos) (mStore i m m2) := PS.imp (ps_asg he hg hs hw h1) fun D σ H q => by
  obtain ⟨ρ, out, O, e1, env, q⟩ := q
  unfold mStore at e1
  obtain ⟨⟨d, ρ1⟩, ea, e1⟩ := Option.bind_eq_some_iff.mp e1
  split at e1
  · cases e1
  rename_i hown
  obtain ⟨⟨r, ρ2⟩, eb, e1⟩ := Option.bind_eq_some_iff.mp e1
  split at e1
  · rename_i k hk
    simp only at hk
    subst hk
    obtain ⟨s, ec, e1⟩ := Option.bind_eq_some_iff.mp e1
    obtain ⟨t, ed, e1⟩ := Option.bind_eq_some_iff.mp e1
    cases e1
    obtain ⟨ds, es, g1, g2, g3, g4⟩ := putOwn_of ed
    obtain ⟨j, g5, g6⟩ := Option.bind_eq_some_iff.mp g3
    cases g6
    refine ⟨ρ, d, ρ1, O, ea, env, fun v H1 P1 u1 d1 => ?_⟩
    obtain ⟨p, vs, z1, z2, z3, z4⟩ := P1.env.ow i s ds ec g1
    refine ⟨.ref p, z1, ρ1, _, ρ2, O, eb, P1.env, fun kv H2 P2 u2 d2 => ?_⟩
    obtain ⟨_, s2⟩ := u2 rfl
    refine ⟨p, vs, k, j, rfl, dp_int d2, s2 _ _ z3, by rw [dpAll_len z4]; exact g5, ?_⟩
    have E2 := P1.env.same s2
    refine q O σ _ ((P1.more env s2).trans env (post_own E2 ec g1 g2 g4 z1 (fun a o n z => by rw [upd_ne n]; exact z) upd_same ?_))
    have hh : hide O (upd H2 p (.lst (vs.set j v))) = hide O H2 := by
      funext a
      unfold hide
      by_cases y : a ∈ O
      · rw [if_pos y, if_pos y]
      · rw [if_neg y, if_neg y, upd_ne (fun w => y (by rw [w]; exact z2))]
    rw [hh]
    exact dpAll_set (dp_mono (same_hide s2) _ _ d1) j (dpAll_mono (same_hide s2) _ _ z4)
  · cases e1
/-! ### of lists that may be owned -/
def mCallL (f : List PyData → Option PyData) (l : Rho → Option (List PyData)) : ME := fun ρ => (l ρ).bind fun ds => (f ds).bind fun c => some (c, ρ)
theorem s_lenL {l : Rho → Option (List PyData)} {p : Pos} (hg : Gl X "len") (hm : X.mg "len" = none) (h : SL X e l) (he : starEach [e] X.env = (false, eval e X.env) :: starEach [] X.env := by rfl) (hpl : (backTo pos (starEach [] X.env)).any (·.1) = false := by rfl) :
    SE b X (.Call (.Name "len" p) [e] [] pos) (mCallL (fun ds => some (.int ds.length)) l) := PE.imp (pe_callB call_len_seq hg hm PySem.boot_len (pa_cons h pa_nil he) (by decide) (by decide) he hpl) fun σ H Q q => by
  obtain ⟨ρ, d, ρ', O, e1, env, q⟩ := q
  unfold mCallL at e1
  obtain ⟨ds, ea, e1⟩ := Option.bind_eq_some_iff.mp e1
  cases e1
  refine ⟨ρ, ds, O, ea, env, fun a vs H1 s1 q1 d1 => ⟨a, vs, rfl, .inl q1, ?_⟩⟩
  rw [dpAll_len d1]
  exact q _ H1 (Post.same env s1) (fun _ => ⟨rfl, s1⟩) (.int _)
theorem s_tupleL {l : Rho → Option (List PyData)} {p : Pos} (hg : Gl X "tuple") (hm : X.mg "tuple" = none) (h : SL X e l) (he : starEach [e] X.env = (false, eval e X.env) :: starEach [] X.env := by rfl) (hpl : (backTo pos (starEach [] X.env)).any (·.1) = false := by rfl) :
    SE b X (.Call (.Name "tuple" p) [e] [] pos) (mCallL (fun ds => some (.tuple ds)) l) := PE.imp (pe_callTy call_tuple_of hg hm (by decide +kernel) (pa_cons h pa_nil he) (by decide) (by decide) he hpl) fun σ H Q q => by
  obtain ⟨ρ, d, ρ', O, e1, env, q⟩ := q
  unfold mCallL at e1
  obtain ⟨ds, ea, e1⟩ := Option.bind_eq_some_iff.mp e1
  cases e1
  refine ⟨ρ, ds, O, ea, env, fun a vs H1 s1 q1 d1 => ⟨a, vs, rfl, .inl ⟨q1, fun r nr => ?_⟩⟩⟩
  have s2 := s1.trans (same_new (o := .tup vs) nr)
  exact q _ _ (Post.same env s2) (fun _ => ⟨rfl, s2⟩) (new_tup (env.same s1).oa nr d1)
/-- list(x) -/
def mLstL (l : Rho → Option (List PyData)) : MA := fun ρ => (l ρ).bind fun ds => some (ds, ρ)
theorem f_listL {l : Rho → Option (List PyData)} {p : Pos} (hg : Gl X "list") (hm : X.mg "list" = none) (h : SL X e l) (he : starEach [e] X.env = (false, eval e X.env) :: starEach [] X.env := by rfl) (hpl : (backTo pos (starEach [] X.env)).any (·.1) = false := by rfl) :
    SF b X (.Call (.Name "list" p) [e] [] pos) (mLstL l) := PE.imp (pe_callTy call_list_of hg hm (by decide +kernel) (pa_cons h pa_nil he) (by decide) (by decide) he hpl) fun σ H Q q => by
  obtain ⟨ρ, ds, ρ', O, e1, env, q⟩ := q
  unfold mLstL at e1
  obtain ⟨ds', ea, e1⟩ := Option.bind_eq_some_iff.mp e1
  cases e1
  refine ⟨ρ, _, O, ea, env, fun a vs H1 s1 q1 d1 => ⟨a, vs, rfl, .inl q1, fun r nr => ?_⟩⟩
  have nr0 : H r = none := s1.free nr
  have s2 := s1.trans (same_new (o := .lst vs) nr)
  refine q r vs _ nr0 ?_ (Post.same env s2) (fun _ => ⟨rfl, s2⟩) upd_same ?_
  · rw [wo_upd nr]; exact Post.same env s1
  · rw [wo_upd nr]; exact d1
/-- list(x), x a tuple or a list that stands still -/
def mLstE (m : ME) : MA := fun ρ => (m ρ).bind fun p => match p.1 with
  | .list ds => some (ds, p.2)
  | .tuple ds => some (ds, p.2)
  | _ => none
theorem f_listE {p : Pos} (hg : Gl X "list") (hm : X.mg "list" = none) (h : SE b X e m) (he : starEach [e] X.env = (false, eval e X.env) :: starEach [] X.env := by rfl) (hpl : (backTo pos (starEach [] X.env)).any (·.1) = false := by rfl) :
    SF b X (.Call (.Name "list" p) [e] [] pos) (mLstE m) := PE.imp (pe_callTy call_list_of hg hm (by decide +kernel) (pa_cons h pa_nil he) (by decide) (by decide) he hpl) fun σ H Q q => by
  obtain ⟨ρ, ds, ρ', O, e1, env, q⟩ := q
  unfold mLstE at e1
  obtain ⟨⟨d, ρ1⟩, ea, e1⟩ := Option.bind_eq_some_iff.mp e1
  have fin : ∀ (a : Addr) (vs : List V) (H1 : Hp), Post X.K O σ ρ H O σ ρ' H1 → (b = true → ρ' = ρ ∧ Same H H1) → DpAll X.K (hide O H1) vs ds → ∀ r, H1 r = none → Q (.ref r) (upd H1 r (.lst vs)) := fun a vs H1 P1 u1 d1 r nr => by
    have nr0 : H r = none := none_back env P1 (fun c w => P1.env.oa c (w.mem env)) nr
    refine q r vs _ nr0 ?_ (P1.more env (same_new nr)) (fun hb => ⟨(u1 hb).1, (u1 hb).2.trans (same_new nr)⟩) upd_same ?_
    · rw [wo_upd nr]; exact P1
    · rw [wo_upd nr]; exact d1
  refine ⟨ρ, d, ρ1, O, ea, env, fun v H1 P1 u1 d1 => ?_⟩
  cases d with
  | list xs =>
    cases e1
    obtain ⟨a, vs, rfl, h1, h2⟩ := dp_lst d1
    exact ⟨a, vs, rfl, .inl (sqL_mono hide_sub h1), fin a vs H1 P1 u1 h2⟩
  | tuple xs =>
    cases e1
    obtain ⟨a, vs, rfl, h1, h2⟩ := dp_tup d1
    exact ⟨a, vs, rfl, .inr (sqT_mono hide_sub h1), fin a vs H1 P1 u1 h2⟩
  | _ => cases e1
/-- [..] * n, n an int -/
def mRep (ms : MA) (m : ME) : MA := fun ρ => (ms ρ).bind fun p => (m p.2).bind fun q => match q.1 with
  | .int k => if 0 ≤ k ∧ k ≤ 1000 ∧ p.1.length ≤ 16 then some ((List.replicate k.toNat p.1).flatten, q.2) else none
  | _ => none
theorem dpAll_flat {H : Hp} {vs : List V} {ds : List PyData} (h : DpAll K H vs ds) : ∀ n : Nat, DpAll K H (List.replicate n vs).flatten (List.replicate n ds).flatten
  | 0 => .nil
  | n + 1 => by
    simp only [List.replicate_succ, List.flatten_cons]
    exact dpAll_app h (dpAll_flat h n)
theorem f_rep (h1 : SF true X e1 ms) (h2 : SE true X e2 m) : SF b X (.BinOp e1 .Mult e2 pos) (mRep ms m) := PE.imp (pe_op op_rep h1 h2) fun σ H Q q => by
  obtain ⟨ρ, ds, ρ', O, e, env, q⟩ := q
  unfold mRep at e
  obtain ⟨⟨xs, ρ1⟩, ea, e⟩ := Option.bind_eq_some_iff.mp e
  obtain ⟨⟨d, ρ2⟩, eb, e⟩ := Option.bind_eq_some_iff.mp e
  split at e
  · rename_i k hk
    simp only at hk
    subst hk
    split at e
    · rename_i hb
      cases e
      refine ⟨ρ, xs, ρ1, O, ea, env, fun p vs H1 np P0 P1 u1 hH d1 => ?_⟩
      obtain ⟨r1, s1⟩ := u1 rfl
      subst r1
      refine ⟨_, _, ρ2, O, eb, P1.env, fun v H2 P2 u2 d2 => ?_⟩
      obtain ⟨r2, s2⟩ := u2 rfl
      subst r2
      have d1' : DpAll X.K (hide O H2) vs xs := dpAll_mono (fun a o z => by
        by_cases mO : a ∈ O
        · rw [hide_in mO] at z; cases z
        · rw [hide_out mO] at z ⊢
          by_cases ap : a = p
          · rw [if_pos ap] at z; cases z
          · rw [if_neg ap] at z; exact s2 _ _ z) _ _ d1
      have hlen : vs.length ≤ 16 := by rw [dpAll_len d1]; exact hb.2.2
      refine ⟨p, k, vs, rfl, dp_int d2, s2 _ _ hH, by omega, by omega, ?_, fun r nr => ?_⟩
      · have : vs.length * k.toNat ≤ 16 * 1000 := Nat.mul_le_mul hlen (by omega)
        exact Nat.le_trans this (by decide)
      · have s3 := s1.trans s2
        have nr0 : H r = none := s3.free nr
        have s4 := s3.trans (same_new (o := .lst (List.replicate k.toNat vs).flatten) nr)
        refine q r _ _ nr0 ?_ (Post.same env s4) (fun _ => ⟨rfl, s4⟩) upd_same ?_
        · rw [wo_upd nr]; exact Post.same env s3
        · rw [wo_upd nr]; exact dpAll_flat d1' _
    · cases e
  · cases e
end
end Fn

set_option Elab.async false
set_option linter.all false
set_option maxRecDepth 100000
/-! Fn11: comparisons as tests, and | or, conditional values, join, comprehensions given to a name. -/
namespace Fn
open PySem PySem.Spec L2
open PyProof.Rows hiding St
section
variable {X : Cx} {K : PySem.W.Frag} {b : Bool} {vs S : List Nat} {e e1 e2 e3 tg elt : Expr} {es ifs : List Expr} {m m1 m2 m3 : ME} {t t1 t2 : MT} {g : MG} {mi ms : MA} {mm : MM} {pos : Pos}
def tBl (m : ME) : MT := fun ρ => (m ρ).bind fun p => match p.1 with
  | .bool c => some (c, p.2)
  | _ => none
theorem den_tBl {σ : L2.St} {H : Hp} {Q : Bool → Hp → Prop} (q : denT K b (tBl m) σ H Q) : den K b m σ H fun x H' => ∃ k, x = .bl k ∧ Q k H' := by
  obtain ⟨ρ, c, ρ', O, e1, env, q⟩ := q
  unfold tBl at e1
  obtain ⟨⟨d, ρ1⟩, ea, e1⟩ := Option.bind_eq_some_iff.mp e1
  split at e1
  · rename_i c hc
    simp only at hc
    subst hc
    cases e1
    exact ⟨ρ, _, ρ1, O, ea, env, fun v H1 P1 u1 d1 => ⟨_, dp_bl d1, q H1 P1 u1⟩⟩
  · cases e1
theorem t_cmp {op : CmpOp} {r : R2} {gg : PyData → PyData → Option PyData} (ho : OpR X (compareOp op) r) (o : OpD X.K r gg) (h1 : SE b X e1 m1) (h2 : SE b X e2 m2) (hm : behindInMarks op e2 = false := by rfl) : ST b X (.Compare e1 [op] [e2] pos) (tBl (mOp gg m1 m2)) :=
  PT.imp (pt_cmpR ho h1 h2 hm) fun σ H Q q => den_op o (den_tBl q)
theorem t_lt (h1 : SE b X e1 m1) (h2 : SE b X e2 m2) : ST b X (.Compare e1 [.Lt] [e2] pos) (tBl (mOp gLt m1 m2)) := t_cmp op_lt od_lt h1 h2 (nomark _)
theorem t_le (h1 : SE b X e1 m1) (h2 : SE b X e2 m2) : ST b X (.Compare e1 [.LtE] [e2] pos) (tBl (mOp gLe m1 m2)) := t_cmp op_le od_le h1 h2 (nomark _)
theorem t_gt (h1 : SE b X e1 m1) (h2 : SE b X e2 m2) : ST b X (.Compare e1 [.Gt] [e2] pos) (tBl (mOp gGt m1 m2)) := t_cmp op_gt od_gt h1 h2 (nomark _)
theorem t_ge (h1 : SE b X e1 m1) (h2 : SE b X e2 m2) : ST b X (.Compare e1 [.GtE] [e2] pos) (tBl (mOp gGe m1 m2)) := t_cmp op_ge od_ge h1 h2 (nomark _)
theorem t_eq (hu : X.A.units + 65 < cLine) (h1 : SE b X e1 m1) (h2 : SE b X e2 m2) : ST b X (.Compare e1 [.Eq] [e2] pos) (tBl (mOp (gEq false) m1 m2)) := t_cmp (op_eqD (by omega)) od_eqD h1 h2 (nomark _)
theorem t_ne (hu : X.A.units + 65 < cLine) (h1 : SE b X e1 m1) (h2 : SE b X e2 m2) : ST b X (.Compare e1 [.NotEq] [e2] pos) (tBl (mOp (gEq true) m1 m2)) := t_cmp (op_neD (by omega)) od_neD h1 h2 (nomark _)
theorem t_in (hu : X.A.units + 65 < cLine) (h1 : SE b X e1 m1) (h2 : SE b X e2 m2) (hm : behindInMarks .In e2 = false := by rfl) : ST b X (.Compare e1 [.In] [e2] pos) (tBl (mOp (gIn false) m1 m2)) := t_cmp ((op_inAll hu).or op_inS) od_in h1 h2 hm
theorem t_notin (hu : X.A.units + 65 < cLine) (h1 : SE b X e1 m1) (h2 : SE b X e2 m2) (hm : behindInMarks .NotIn e2 = false := by rfl) : ST b X (.Compare e1 [.NotIn] [e2] pos) (tBl (mOp (gIn true) m1 m2)) := t_cmp ((op_notInAll hu).or op_notinS) od_in h1 h2 hm
theorem t_is (h1 : SE b X e1 m1) (h2 : SE b X e2 m2) : ST b X (.Compare e1 [.Is] [e2] pos) (tBl (mOp (gIs false) m1 m2)) := t_cmp op_isN od_is h1 h2 (nomark _)
theorem t_isnot (h1 : SE b X e1 m1) (h2 : SE b X e2 m2) : ST b X (.Compare e1 [.IsNot] [e2] pos) (tBl (mOp (gIs true) m1 m2)) := t_cmp op_notN od_isnot h1 h2 (nomark _)
theorem t_inL {l : Rho → Option (List PyData)} (hu : X.A.units + 65 < cLine) (h1 : SE b X e1 m) (h2 : SL X e2 l) (hm : behindInMarks .In e2 = false := by rfl) : ST b X (.Compare e1 [.In] [e2] pos) (tBl (mInL false m l)) :=
  PT.imp (pt_cmpR (op_inAll hu) h1 h2 hm) fun _ _ _ q => den_inL (den_tBl q)
theorem t_notinL {l : Rho → Option (List PyData)} (hu : X.A.units + 65 < cLine) (h1 : SE b X e1 m) (h2 : SL X e2 l) (hm : behindInMarks .NotIn e2 = false := by rfl) : ST b X (.Compare e1 [.NotIn] [e2] pos) (tBl (mInL true m l)) :=
  PT.imp (pt_cmpR (op_notInAll hu) h1 h2 hm) fun _ _ _ q => den_inL (den_tBl q)
/-! a chain as a test: by its value -/
theorem t_chain {op op' : CmpOp} {r r' : R2} {g1 g2 : PyData → PyData → Option PyData} (ho : OpR X (compareOp op) r) (ho' : OpR X (compareOp op') r') (o : OpD X.K r g1) (o' : OpD X.K r' g2) (h1 : SE b X e1 m1) (h2 : SE b X e2 m2) (h3 : SE b X e3 m3)
    (hm : lastMarks [op, op'] [e2, e3] = false := by with_unfolding_all rfl) : ST b X (.Compare e1 [op, op'] [e2, e3] pos) (tBl (mChain g1 g2 m1 m2 m3)) := PT.imp (pt_chain ho ho' h1 h2 h3 hm) fun σ H Q q => den_chain o o' (den_tBl q)
theorem t_lele (h1 : SE b X e1 m1) (h2 : SE b X e2 m2) (h3 : SE b X e3 m3) (hm : lastMarks [CmpOp.LtE, .LtE] [e2, e3] = false := by with_unfolding_all rfl) : ST b X (.Compare e1 [.LtE, .LtE] [e2, e3] pos) (tBl (mChain gLe gLe m1 m2 m3)) := t_chain op_le op_le od_le od_le h1 h2 h3 hm
theorem t_lelt (h1 : SE b X e1 m1) (h2 : SE b X e2 m2) (h3 : SE b X e3 m3) (hm : lastMarks [CmpOp.LtE, .Lt] [e2, e3] = false := by with_unfolding_all rfl) : ST b X (.Compare e1 [.LtE, .Lt] [e2, e3] pos) (tBl (mChain gLe gLt m1 m2 m3)) := t_chain op_le op_lt od_le od_lt h1 h2 h3 hm
/-! not, and, or -/
def tNo (t : MT) : MT := fun ρ => (t ρ).bind fun p => some (!p.1, p.2)
theorem t_not (h : ST b X e t) : ST b X (.UnaryOp .Not e pos) (tNo t) := PT.imp (pt_not h) fun σ H Q q => by
  obtain ⟨ρ, c, ρ', O, e1, env, q⟩ := q
  unfold tNo at e1
  obtain ⟨⟨d, ρ1⟩, ea, e1⟩ := Option.bind_eq_some_iff.mp e1
  cases e1
  exact ⟨ρ, d, ρ1, O, ea, env, fun H1 P1 u1 => q H1 P1 u1⟩
def SW (b : Bool) (X : Cx) (e : Expr) (t : MT) : Prop := PW X e (denT X.K b t)
theorem PW.imp {X : Cx} {e : Expr} {t t' : TT} (h : PW X e t) (i : ∀ σ H Q, t' σ H Q → t σ H Q) : PW X e t' := ⟨fun w pins s σ H Q I q => h.run w pins s σ H Q I (i _ _ _ q)⟩
def tAn (t1 t2 : MT) : MT := fun ρ => (t1 ρ).bind fun p => if p.1 = true then t2 p.2 else some (false, p.2)
def tO (t1 t2 : MT) : MT := fun ρ => (t1 ρ).bind fun p => if p.1 = true then some (true, p.2) else t2 p.2
theorem w_and1 (h : ST b X e t) : SW b X (.BoolOp .And [e] pos) t := pw_and1 h
theorem w_or1 (h : ST b X e t) : SW b X (.BoolOp .Or [e] pos) t := pw_or1 h
theorem w_and {rest : List Expr} (h1 : ST b X e1 t1) (h2 : SW b X (.BoolOp .And (e2 :: rest) pos) t2) : SW b X (.BoolOp .And (e1 :: e2 :: rest) pos) (tAn t1 t2) := PW.imp (pw_and h1 h2) fun σ H Q q => by
  obtain ⟨ρ, c, ρ', O, e, env, q⟩ := q
  unfold tAn at e
  obtain ⟨⟨d, ρ1⟩, ea, e⟩ := Option.bind_eq_some_iff.mp e
  refine ⟨ρ, d, ρ1, O, ea, env, fun H1 P1 u1 => ?_⟩
  cases d with
  | true =>
    rw [if_pos rfl] at e
    exact iteT ⟨ρ1, c, ρ', O, e, P1.env, fun H2 P2 u2 => q H2 (P1.trans env P2) fun hb => ⟨(u2 hb).1.trans (u1 hb).1, (u1 hb).2.trans (u2 hb).2⟩⟩
  | false =>
    rw [if_neg Bool.false_ne_true] at e
    cases e
    exact iteF (q H1 P1 u1)
theorem w_or {rest : List Expr} (h1 : ST b X e1 t1) (h2 : SW b X (.BoolOp .Or (e2 :: rest) pos) t2) : SW b X (.BoolOp .Or (e1 :: e2 :: rest) pos) (tO t1 t2) := PW.imp (pw_or h1 h2) fun σ H Q q => by
  obtain ⟨ρ, c, ρ', O, e, env, q⟩ := q
  unfold tO at e
  obtain ⟨⟨d, ρ1⟩, ea, e⟩ := Option.bind_eq_some_iff.mp e
  refine ⟨ρ, d, ρ1, O, ea, env, fun H1 P1 u1 => ?_⟩
  cases d with
  | false =>
    rw [if_neg Bool.false_ne_true] at e
    exact iteF ⟨ρ1, c, ρ', O, e, P1.env, fun H2 P2 u2 => q H2 (P1.trans env P2) fun hb => ⟨(u2 hb).1.trans (u1 hb).1, (u1 hb).2.trans (u2 hb).2⟩⟩
  | true =>
    rw [if_pos rfl] at e
    cases e
    exact iteT (q H1 P1 u1)
theorem t_w (h : SW b X e t) : ST b X e t := PW.pt h
/-! a if t else b -/
def mIfE (t : MT) (m1 m2 : ME) : ME := fun ρ => (t ρ).bind fun p => if p.1 = true then m1 p.2 else m2 p.2
theorem s_if (ht : ST b X e t) (h1 : SE b X e1 m1) (h2 : SE b X e2 m2) : SE b X (.IfExp e e1 e2 pos) (mIfE t m1 m2) := PE.imp (pe_ifExp ht h1 h2) fun σ H Q q => by
  obtain ⟨ρ, c, ρ', O, e, env, q⟩ := q
  unfold mIfE at e
  obtain ⟨⟨d, ρ1⟩, ea, e⟩ := Option.bind_eq_some_iff.mp e
  refine ⟨ρ, d, ρ1, O, ea, env, fun H1 P1 u1 => ?_⟩
  have fin : ∀ m, m ρ1 = some (c, ρ') → den X.K b m σ H1 Q := fun m e => ⟨ρ1, c, ρ', O, e, P1.env, fun v H2 P2 u2 d2 => q v H2 (P1.trans env P2) (fun hb => ⟨(u2 hb).1.trans (u1 hb).1, (u1 hb).2.trans (u2 hb).2⟩) d2⟩
  cases d with
  | true =>
    rw [if_pos rfl] at e
    exact iteT (fin _ e)
  | false =>
    rw [if_neg Bool.false_ne_true] at e
    exact iteF (fin _ e)
/-! sep.join(xs) -/
def txts : List PyData → Option (List Str)
  | [] => some []
  | .str z :: ds => (txts ds).bind fun zs => some (z :: zs)
  | _ => none
theorem txts_vals {H : Hp} : ∀ {ds : List PyData} {vs : List V} {zs : List Str}, DpAll K H vs ds → txts ds = some zs → vs = zs.map V.str
  | [], _, _, .nil, e => by cases e; rfl
  | d :: ds, _, _, .cons h t, e => by
    unfold txts at e
    split at e
    · rename_i h0; cases h0
    · rename_i z ds' h0
      cases h0
      obtain ⟨ws, e1, e2⟩ := Option.bind_eq_some_iff.mp e
      cases e2
      rw [dp_str h, txts_vals t e1]
      rfl
    · cases e
def mJoin (m1 m2 : ME) : ME := fun ρ => (m1 ρ).bind fun p => (m2 p.2).bind fun q => match p.1, q.1 with
  | .str a, .list ds => (txts ds).bind fun zs => if (zs.map (·.length)).sum + zs.length * a.length ≤ 100000 then some (.str (Txt.join a zs), q.2) else none
  | _, _ => none
theorem s_join {apos : Pos} (ho : SE b X e1 m1) (he : SE b X e2 m2) (hs : starEach [e2] X.env = [(false, eval e2 X.env)] := by rfl) (hbase : attributeBase e1 "join" X.env (eval e1 X.env) = eval e1 X.env := by rfl) (hline : (apos.endLine == pos.line) = true := by rfl) :
    SE b X (.Call (.Attribute e1 "join" apos) [e2] [] pos) (mJoin m1 m2) := PE.imp (pe_join ho he hs hbase hline) fun σ H Q q => by
  obtain ⟨ρ, d, ρ', O, e, env, q⟩ := q
  unfold mJoin at e
  obtain ⟨⟨x, ρ1⟩, ea, e⟩ := Option.bind_eq_some_iff.mp e
  obtain ⟨⟨y, ρ2⟩, eb, e⟩ := Option.bind_eq_some_iff.mp e
  split at e
  · rename_i a ds h1 h2
    simp only at h1 h2
    subst h1 h2
    obtain ⟨zs, ec, e⟩ := Option.bind_eq_some_iff.mp e
    split at e
    · rename_i hl
      cases e
      refine ⟨ρ, _, ρ1, O, ea, env, fun v H1 P1 u1 d1 => ⟨⟨a, dp_str d1⟩, ρ1, _, ρ2, O, eb, P1.env, fun w H2 P2 u2 d2 => ?_⟩⟩
      obtain ⟨p, ws, rfl, h1, h2⟩ := dp_lst d2
      refine ⟨a, p, zs, dp_str d1, rfl, .inl ?_, Nat.le_trans hl (by decide), q _ H2 (P1.trans env P2) (fun hb => ⟨(u2 hb).1.trans (u1 hb).1, (u1 hb).2.trans (u2 hb).2⟩) (.str _)⟩
      rw [← txts_vals h2 ec]
      exact sqL_mono hide_sub h1
    · cases e
  · cases e
/-! name = [..], any way -/
theorem s1_setLcE {scope : Scope} {own : List (Str × Nat)} {i : Nat} {y : Str} {py spos : Pos} (hc : X.calm = true) (hN : X.N.Nodup) (hy : X.N[i]? = some y) (hyl : X.env.scope.names.lookup y = some .local)
    (hsw : swapsWith (.ListComp elt [⟨tg, e, ifs, 0⟩] scope pos) (some (.Name y py)) spos.line X.env = pure true) (hi : SI b X tg e mi) (ok : BlkOk X.N X.env.scope scope own)
    (hg : ∀ (s : Shared) (H : Hp) (C : Addr) (cl : List (Str × Addr)) (fp : List Addr), SG (X.blk s H scope (compEnvC scope cl C X.env) fp) vs tg g) (ht : ∀ (s : Shared) (H : Hp) (C : Addr) (cl : List (Str × Addr)) (fp : List Addr), STs false (X.blk s H scope (compEnvC scope cl C X.env) fp) ifs t)
    (he : ∀ (s : Shared) (H : Hp) (C : Addr) (cl : List (Str × Addr)) (fp : List Addr), SE false (X.blk s H scope (compEnvC scope cl C X.env) fp) elt m) (hs : ∀ x, foldedSetIterable e X.env x = pure x := by intro _; rfl) (hvs : List.map (fun p : Str × Nat => p.2) own = vs := by rfl) :
    S1 X (.Assign [.Name y py] (.ListComp elt [⟨tg, e, ifs, 0⟩] scope pos) spos) (mSet i (mF (mLc vs mi g t m))) := by
  subst hvs
  exact PS.imp (ps_setLc (g := denG X.K (List.map (fun x : Str × Nat => x.2) own) g) (tt := denT X.K false t) (te := den X.K false m) hc hN hy hyl hsw hi ok (fun s H C cl fp => hg s H C cl fp) (fun s H C cl fp => ht s H C cl fp) (fun s H C cl fp => he s H C cl fp) hs)
    fun _ _ _ q => den_set (b := false) (fun _ _ _ z => den_lc (denF_e z)) q
theorem s1_ownLc {scope : Scope} {own : List (Str × Nat)} {i : Nat} {y : Str} {py spos : Pos} (hc : X.calm = true) (hN : X.N.Nodup) (hy : X.N[i]? = some y) (hyl : X.env.scope.names.lookup y = some .local)
    (hsw : swapsWith (.ListComp elt [⟨tg, e, ifs, 0⟩] scope pos) (some (.Name y py)) spos.line X.env = pure true) (hi : SIS b X tg e S mi) (ok : BlkOk X.N X.env.scope scope own)
    (hg : ∀ (s : Shared) (H : Hp) (C : Addr) (cl : List (Str × Addr)) (fp : List Addr), SG (X.blk s H scope (compEnvC scope cl C X.env) fp) vs tg g) (ht : ∀ (s : Shared) (H : Hp) (C : Addr) (cl : List (Str × Addr)) (fp : List Addr), STs true (X.blk s H scope (compEnvC scope cl C X.env) fp) ifs t)
    (he : ∀ (s : Shared) (H : Hp) (C : Addr) (cl : List (Str × Addr)) (fp : List Addr), SE true (X.blk s H scope (compEnvC scope cl C X.env) fp) elt m) (hs : ∀ x, foldedSetIterable e X.env x = pure x := by intro _; rfl) (hvs : List.map (fun p : Str × Nat => p.2) own = vs := by rfl) :
    S1 X (.Assign [.Name y py] (.ListComp elt [⟨tg, e, ifs, 0⟩] scope pos) spos) (mOwn i (mLcP vs S mi g t m)) := by
  subst hvs
  exact PS.imp (ps_setLc (g := denG X.K (List.map (fun x : Str × Nat => x.2) own) g) (tt := denT X.K true t) (te := den X.K true m) hc hN hy hyl hsw hi ok (fun s H C cl fp => hg s H C cl fp) (fun s H C cl fp => ht s H C cl fp) (fun s H C cl fp => he s H C cl fp) hs)
    fun _ _ _ q => den_own (b := b) (fun _ _ _ z => den_lcP z) q
end
end Fn

set_option Elab.async false
set_option linter.all false
set_option maxRecDepth 100000
/-! Fn12: own defs by name, constants, minus, dicts of the module, dicts written where they are asked. -/
namespace Fn
open PySem PySem.Spec L2
open PyProof.Rows hiding St
/-- the def x stands and keeps its promise -/
def Df (P : Program) (w : World) (K : PySem.W.Frag) (mg : Str → Option Value) (base : Heap) (x : Str) (k : Nat) (ps : List Str) (sp : Sp) : Prop :=
  ∃ f fd, mg x = some (.ref f) ∧ PySem.W.keepIn K (.ref f) = true ∧ L2.Binds K fd ps [] ∧ FnOk P w K mg base CX0 k f fd ps sp
section
variable {X : Cx} {K : PySem.W.Frag} {b : Bool} {vs S : List Nat} {e e1 e2 e3 tg elt : Expr} {es ifs : List Expr} {m m1 m2 m3 : ME} {t t1 t2 : MT} {g : MG} {mi ms : MA} {mm : MM} {pos : Pos}
theorem s_fnD {k : Nat} {ps : List Str} {x : Str} {p : Pos} {Φ : List PyData → Option PyData} {ms : MA} (D : Df X.prog X.w X.K X.mg X.base x k ps (spP X.K Φ)) (hr : Room k X.A) (hg : Gl X x) (ha : SA b X (e :: es) ms) (hdb : (x == ("__debug__" : Str)) = false := by decide)
    (he : starEach (e :: es) X.env = (false, eval e X.env) :: starEach es X.env := by rfl) (hpl : (backTo pos (starEach es X.env)).any (·.1) = false := by rfl) : SE b X (.Call (.Name x p) (e :: es) [] pos) (mFn Φ ms) := by
  obtain ⟨f, fd, hm, hk, hb, F⟩ := D
  exact s_fn F hr hg hm hk hb ha hdb he hpl
theorem s_fnRD {k : Nat} {ps : List Str} {x y : Str} {p py : Pos} {i : Nat} {Ψ : List PyData → List PyData → Option (PyData × List PyData)} {ms : MA} (D : Df X.prog X.w X.K X.mg X.base x k ps (spR X.K Ψ)) (hr : Room k X.A) (hg : Gl X x) (ha : SA b X es ms) (hN : X.N[i]? = some y := by rfl)
    (hv : Vis X.env.scope y := by first | exact Or.inl rfl | exact Or.inr (Or.inl rfl) | exact Or.inr (Or.inr rfl)) (hd : (y == ("__debug__" : Str)) = false := by decide)
    (hcd : (y == ("__classdict__" : Str)) = false := by decide) (hdb : (x == ("__debug__" : Str)) = false := by decide) (he : starEach (.Name y py :: es) X.env = (false, eval (.Name y py) X.env) :: starEach es X.env := by rfl) (hpl : (backTo pos (starEach es X.env)).any (·.1) = false := by rfl) :
    SE false X (.Call (.Name x p) (.Name y py :: es) [] pos) (mFnR Ψ i ms) := by
  obtain ⟨f, fd, hm, hk, hb, F⟩ := D
  exact s_fnR F hr hg hm hk hb ha hN hv hd hcd hdb he hpl
theorem s_gint {x : Str} {i : Int} (hg : Gl X x) (h : ∃ t, X.mg x = some (.int i t)) (hd : (x == ("__debug__" : Str)) = false := by decide) : SE b X (.Name x pos) (mC (.int i)) := let ⟨_, h⟩ := h; se_gint hg h hd
theorem s_gstr {x : Str} {i : Str} (hg : Gl X x) (h : ∃ t, X.mg x = some (.str i t)) (hd : (x == ("__debug__" : Str)) = false := by decide) : SE b X (.Name x pos) (mC (.str i)) := let ⟨_, h⟩ := h; se_gstr hg h hd
def mNeg (m : ME) : ME := fun ρ => (m ρ).bind fun p => match p.1 with
  | .int i => some (.int (-i), p.2)
  | _ => none
theorem s_neg (h : SE b X e m) : SE b X (.UnaryOp .USub e pos) (mNeg m) := PE.imp (pe_un un_neg h) fun σ H Q q => by
  obtain ⟨ρ, d, ρ', O, e1, env, q⟩ := q
  unfold mNeg at e1
  obtain ⟨⟨a, ρ1⟩, ea, e1⟩ := Option.bind_eq_some_iff.mp e1
  split at e1
  · rename_i i h
    simp only at h
    subst h
    cases e1
    exact ⟨ρ, _, ρ1, O, ea, env, fun v H1 P1 u1 d1 => ⟨i, dp_int d1, q _ H1 P1 u1 (.int _)⟩⟩
  · cases e1
/-! TABLE[e], TABLE a dict of the module with text keys -/
def mTab (f : Str → Option PyData) (m : ME) : ME := fun ρ => (m ρ).bind fun p => match p.1 with
  | .str z => (f z).bind fun d => some (d, p.2)
  | _ => none
def TabOk (K : PySem.W.Frag) (w : World) (mg : Str → Option Value) (x : Str) (f : Str → Option PyData) : Prop := ∃ p, mg x = some (.ref p) ∧ ∀ z d, f z = some d → ∃ v, KDct K w p z v ∧ Dp K (fun _ => none) v d
theorem s_tab {x : Str} {px : Pos} {f : Str → Option PyData} (T : TabOk X.K X.w X.mg x f) (hg : Gl X x) (h : SE b X e m) (hs : PlainIx e := by exact fun _ _ => rfl) (hd : (x == ("__debug__" : Str)) = false := by decide) : SE b X (.Subscript (.Name x px) e pos) (mTab f m) := by
  obtain ⟨p, hm, hk⟩ := T
  refine PE.imp (pe_ix ix_kdict (pe_glob (v := .ref p) hg hm rfl hd) h hs) fun σ H Q q => ?_
  obtain ⟨ρ, d, ρ', O, e1, env, q⟩ := q
  unfold mTab at e1
  obtain ⟨⟨a, ρ1⟩, ea, e1⟩ := Option.bind_eq_some_iff.mp e1
  split at e1
  · rename_i z hz
    simp only at hz
    subst hz
    obtain ⟨d', eb, e1⟩ := Option.bind_eq_some_iff.mp e1
    cases e1
    refine ⟨ρ, _, ρ1, O, ea, env, fun v H1 P1 u1 d1 => ?_⟩
    obtain ⟨u, k1, k2⟩ := hk z _ eb
    exact ⟨p, z, u, rfl, dp_str d1, k1, q u H1 P1 u1 (dp_mono (fun a o z => by cases z) _ _ k2)⟩
  · cases e1
/-! {"a": x, ..}[e] -/
def mVals : List (Str × ME) → Rho → Option (List (Str × PyData))
  | [], _ => some []
  | (k, m) :: r, ρ => (m ρ).bind fun p => (mVals r ρ).bind fun q => some ((k, p.1) :: q)
def mDisp (kms : List (Str × ME)) (m : ME) : ME := fun ρ => (mVals kms ρ).bind fun kvs => (m ρ).bind fun p => match p.1 with
  | .str z => if kms.length ≤ 15 ∧ (kms.map (·.1)).Nodup then (kvs.lookup z).bind fun d => some (d, p.2) else none
  | _ => none
def trsOf (K : PySem.W.Frag) (kms : List (Str × ME)) : List (TE × TE) := kms.map fun km => (tC (.str km.1), den K true km.2)
theorem pairs_of {O : List Addr} {σ : L2.St} : ∀ (kms : List (Str × ME)) (ρ : Rho) (kds : List (Str × PyData)) (H : Hp) (Q : List (V × V) → Hp → Prop), EnvR K O H σ ρ → mVals kms ρ = some kds →
    (∀ H' kvs, Same H H' → Prs K (hide O H') kvs kds → Q (kvs.map fun kv => (kV kv.1, kv.2)) H') → tPairs (trsOf K kms) σ H Q
  | [], ρ, kds, H, Q, env, e, q => by
    cases e
    exact q H [] (Same.refl H) .nil
  | (k, m) :: kms, ρ, kds, H, Q, env, e, q => by
    obtain ⟨⟨d, ρ1⟩, ea, e⟩ := Option.bind_eq_some_iff.mp (show (m ρ).bind _ = _ from e)
    obtain ⟨rest, eb, e⟩ := Option.bind_eq_some_iff.mp e
    cases e
    refine ⟨ρ, d, ρ1, O, ea, env, fun v H1 P1 u1 d1 => ?_⟩
    obtain ⟨r1, s1⟩ := u1 rfl
    subst r1
    refine pairs_of kms _ rest H1 _ P1.env eb fun H2 kvs s2 pr => ?_
    exact q H2 ((.inr k, v) :: kvs) (s1.trans s2) (.cons (dp_mono (same_hide s2) _ _ d1) pr)
theorem prs_keys {H : Hp} {kvs : List (Key × V)} {kds : List (Str × PyData)} (h : Prs K H kvs kds) : kvs.map (·.1) = kds.map fun kd => (Sum.inr kd.1 : Key) := by
  induction h with
  | nil => rfl
  | cons _ _ ih => simp [ih]
theorem merge_nodup : ∀ (kvs acc : List (Key × V)), ((acc ++ kvs).map (·.1)).Nodup → mergeK acc kvs = acc ++ kvs
  | [], acc, _ => by simp [mergeK]
  | kv :: kvs, acc, h => by
    show mergeK (putK acc kv.1 kv.2) kvs = _
    have hn : ¬ (acc.any fun x => decide (x.1 = kv.1)) = true := by
      intro z
      obtain ⟨x, hx, hk⟩ := List.any_eq_true.mp z
      rw [List.map_append, List.map_cons] at h
      have hd := (List.nodup_append.mp h).2.2
      exact hd x.1 (List.mem_map_of_mem hx) kv.1 List.mem_cons_self (of_decide_eq_true hk)
    have hp : putK acc kv.1 kv.2 = acc ++ [kv] := by
      unfold putK
      rw [if_neg hn]
    rw [hp, merge_nodup kvs (acc ++ [kv]) (by rw [List.append_assoc]; exact h), List.append_assoc]
    rfl
theorem prs_val {H : Hp} {z : Str} {d : PyData} {kvs : List (Key × V)} {kds : List (Str × PyData)} (h : Prs K H kvs kds) : kds.lookup z = some d → ∃ v, valV kvs (.inr z) = some v ∧ Dp K H v d := by
  induction h with
  | nil => intro e; cases e
  | @cons k v d' kvs kds hd _ ih =>
    intro e
    by_cases hk : z = k
    · subst hk
      rw [List.lookup_cons_self] at e
      cases e
      refine ⟨v, ?_, hd⟩
      unfold valV
      rw [List.find?_cons_of_pos (by simp)]
      rfl
    · rw [List.lookup_cons, beq_eq_false_iff_ne.mpr hk] at e
      obtain ⟨u, g1, g2⟩ := ih e
      refine ⟨u, ?_, g2⟩
      unfold valV at g1 ⊢
      rw [List.find?_cons_of_neg]
      · exact g1
      · simp only [decide_eq_true_eq]
        intro y
        exact hk (Sum.inr.inj y).symm
theorem mVals_keys : ∀ {kms : List (Str × ME)} {ρ : Rho} {kds : List (Str × PyData)}, mVals kms ρ = some kds → kds.map (·.1) = kms.map (·.1)
  | [], _, _, e => by cases e; rfl
  | (k, m) :: kms, ρ, kds, e => by
    obtain ⟨⟨d, ρ1⟩, ea, e⟩ := Option.bind_eq_some_iff.mp (show (m ρ).bind _ = _ from e)
    obtain ⟨rest, eb, e⟩ := Option.bind_eq_some_iff.mp e
    cases e
    simp [mVals_keys eb]
theorem s_disp {kms : List (Str × ME)} {keys : List (Option Expr)} {values : List Expr} {p2 : Pos} (hu : X.A.units + 65 < cLine) (h : PPs X p2 keys values (trsOf X.K kms)) (hall : keys.all (·.isSome) = true) (hl : keys.length = values.length) (h0 : keys ≠ []) (h15 : keys.length ≤ 15) (hi : SE true X e m) (hs : NoSl e) :
    SE b X (.Subscript (.Dict keys values p2) e pos) (mDisp kms m) := PE.imp (pe_dget (by omega) (pe_disp h hall hl h0 h15) hi hs) fun σ H Q q => by
  obtain ⟨ρ, d, ρ', O, e1, env, q⟩ := q
  unfold mDisp at e1
  obtain ⟨kds, ea, e1⟩ := Option.bind_eq_some_iff.mp e1
  obtain ⟨⟨a, ρ1⟩, eb, e1⟩ := Option.bind_eq_some_iff.mp e1
  split at e1
  · rename_i z hz
    simp only at hz
    subst hz
    split at e1
    · rename_i hc
      obtain ⟨d', ec, e1⟩ := Option.bind_eq_some_iff.mp e1
      cases e1
      intro p np
      have s0 : Same H (upd H p (.dK [])) := same_new np
      have E0 : EnvR X.K (p :: O) (upd H p (.dK [])) σ ρ := env_comp (vs := []) env np
      refine pairs_of kms ρ kds _ _ E0 ea fun H2 kvs s2 pr => ⟨s2 _ _ upd_same, kvs, rfl, ?_, ?_⟩
      · have g1 := congrArg List.length (prs_keys pr)
        have g2 := congrArg List.length (mVals_keys ea)
        simp only [List.length_map] at g1 g2
        omega
      · have hnd : ((([] : List (Key × V)) ++ kvs).map (·.1)).Nodup := by
          rw [List.nil_append, prs_keys pr]
          have : (kds.map (·.1)).Nodup := by rw [mVals_keys ea]; exact hc.2
          rw [show (kds.map fun kd => (Sum.inr kd.1 : Key)) = (kds.map (·.1)).map Sum.inr by rw [List.map_map]; rfl]
          exact this.map _ fun x y hne z => hne (Sum.inr.inj z)
        rw [merge_nodup kvs [] hnd, List.nil_append]
        have s3 : Same H (upd H2 p (.dK kvs)) := fun a o z => by
          have ap : a ≠ p := ne_of_none z np
          rw [upd_ne ap]
          exact s2 _ _ (s0 _ _ z)
        have E3 := env.same s3
        refine ⟨ρ, _, ρ1, O, eb, E3, fun v H4 P4 u4 d4 => ?_⟩
        obtain ⟨r4, s4⟩ := u4 rfl
        have pO : p ∉ O := not_own env np
        have pr4 : Prs X.K (hide O H4) kvs kds := pr.mono fun a o z => by
          by_cases mO : a ∈ p :: O
          · rw [hide_in mO] at z; cases z
          · rw [hide_out mO] at z
            rw [hide_out (fun y => mO (List.mem_cons_of_mem _ y))]
            exact s4 _ _ (by rw [upd_ne (fun y => mO (by rw [y]; exact List.mem_cons_self))]; exact z)
        obtain ⟨u, g1, g2⟩ := prs_val pr4 ec
        refine ⟨p, u, rfl, ?_, ?_⟩
        · have := DGet.k (k := Sum.inr z) (s4 _ _ (upd_same (H := H2) (a := p) (o := .dK kvs)))
          rw [g1] at this
          rw [dp_str d4]
          exact this
        · refine q u H4 (Post.more env (Post.same env s3) s4 |> fun P => ?_) (fun _ => ⟨r4, s3.trans s4⟩) g2
          rw [r4]
          exact P
    · cases e1
  · cases e1
end
end Fn

set_option Elab.async false
set_option linter.all false
set_option maxRecDepth 100000
/-! Fn13: comprehensions of two clauses. -/
namespace Fn
open PySem PySem.Spec L2
open PyProof.Rows hiding St
def loop2 (vs1 : List Nat) (g : MG) (t : MT) (mi1 : MA) (g1 : MG) (t1 : MT) (m : ME) (ρ : Rho) : List PyData → Option (List PyData)
  | [] => some []
  | d :: ds => (g d ρ).bind fun ρ1 => (t ρ1).bind fun p => if p.1 = true then (mi1 ρ1).bind fun q => (loopP g1 t1 m (wipeR ρ1 vs1) q.1).bind fun ys => (loop2 vs1 g t mi1 g1 t1 m ρ ds).bind fun zs => some (ys ++ zs)
    else loop2 vs1 g t mi1 g1 t1 m ρ ds
def mLc2 (vs vs1 : List Nat) (mi : MA) (g : MG) (t : MT) (mi1 : MA) (g1 : MG) (t1 : MT) (m : ME) : MA := fun ρ => (mi ρ).bind fun p => if clean vs p.2 = true then (loop2 vs1 g t mi1 g1 t1 m (wipeR p.2 vs) p.1).bind fun ys => if ys.length < 16000000 then some (ys, p.2) else none else none
section
variable {K : PySem.W.Frag} {O : List Addr} {H H1 H2 H3 : Hp} {σ σ2 : L2.St} {ρ ρ1 ρ3 : Rho} {D : Addr} {o : HO} {vs : List Nat}
theorem hide_laid : hide (D :: O) (upd H D o) = hide (D :: O) H := by
  funext a
  unfold hide
  by_cases z : a ∈ D :: O
  · rw [if_pos z, if_pos z]
  · rw [if_neg z, if_neg z, upd_ne (fun y => z (by rw [y]; exact List.mem_cons_self))]
theorem env_laid (h : EnvR K (D :: O) H σ ρ) (n : ¬ Own σ ρ D) : EnvR K (D :: O) (upd H D o) σ ρ := by
  refine ⟨h.len, fun j d z wd => ?_, fun j s es z w => ?_, h.di, fun a z => ?_⟩
  · rw [hide_laid]; exact h.sd j d z wd
  · obtain ⟨p, ws, f1, f2, f3, f4⟩ := h.ow j s es z w
    have hp : p ≠ D := fun hp => by subst hp; exact n ⟨j, s, es, z, w, f1⟩
    exact ⟨p, ws, f1, f2, by rw [upd_ne hp]; exact f3, by rw [hide_laid]; exact f4⟩
  · by_cases hz : a = D
    · subst hz; exact ⟨_, upd_same⟩
    · rw [upd_ne hz]; exact h.oa a z
/-- all but D as it was -/
def But (D : Addr) (H H' : Hp) : Prop := ∀ a o, a ≠ D → H a = some o → H' a = some o
theorem But.trans {H H1 H2 : Hp} (a : But D H H1) (b : But D H1 H2) : But D H H2 := fun p o n z => b p o n (a p o n z)
theorem But.same {H H1 : Hp} (a : Same H H1) : But D H H1 := fun p o _ z => a p o z
theorem But.upd {H : Hp} {o : HO} : But D H (upd H D o) := fun p u n z => by rw [upd_ne n]; exact z
theorem But.hide {H H1 : Hp} (a : But D H H1) : Same (hide (D :: O) H) (hide (D :: O) H1) := fun p o z => by
  by_cases m : p ∈ D :: O
  · rw [hide_in m] at z; cases z
  · rw [hide_out m] at z ⊢
    exact a p o (fun y => m (by rw [y]; exact List.mem_cons_self)) z
theorem env_but (h : EnvR K (D :: O) H σ ρ) (n : ¬ Own σ ρ D) (b : But D H H1) (e : ∃ o, H1 D = some o) : EnvR K (D :: O) H1 σ ρ := by
  refine ⟨h.len, fun j d z wd => ?_, fun j s es z w => ?_, h.di, fun a z => ?_⟩
  · obtain ⟨v, f1, f2⟩ := h.sd j d z wd
    exact ⟨v, f1, sd_mono b.hide f2⟩
  · obtain ⟨p, ws, f1, f2, f3, f4⟩ := h.ow j s es z w
    exact ⟨p, ws, f1, f2, b p _ (fun hp => by subst hp; exact n ⟨j, s, es, z, w, f1⟩) f3, dpAll_mono b.hide _ _ f4⟩
  · by_cases hz : a = D
    · subst hz; exact e
    · obtain ⟨u, y⟩ := h.oa a z
      exact ⟨u, b a u hz y⟩
end
section
variable {X : Cx} {K : PySem.W.Frag} {b : Bool} {vs vs1 : List Nat} {e tg elt iter1 tg1 : Expr} {ifs ifs1 : List Expr} {m : ME} {t t1 : MT} {g g1 : MG} {mi mi1 : MA} {pos : Pos}
theorem den_lc2 {σ : L2.St} {H : Hp} {Q : VK} (q : denF K b (mLc2 vs vs1 mi g t mi1 g1 t1 m) σ H Q) : tLc2 (denI K b mi) (denG K vs g) (denT K true t) (denI K true mi1) (denG K vs1 g1) (denT K true t1) (den K true m) vs vs1 σ H Q := by
  obtain ⟨ρ, ds, ρ', O, e1, env, q⟩ := q
  unfold mLc2 at e1
  obtain ⟨⟨xs, ρ1⟩, ea, e1⟩ := Option.bind_eq_some_iff.mp e1
  split at e1
  · rename_i hc
    obtain ⟨out, eb, e1⟩ := Option.bind_eq_some_iff.mp e1
    split at e1
    · rename_i hsz
      obtain ⟨rfl, rfl⟩ := Prod.mk.inj (Option.some.inj e1)
      clear e1
      refine ⟨ρ, xs, ρ1, O, ea, env, fun J H1 P1 u1 Y D nD => ?_⟩
      have M0 := Mid.start (o := .lst []) (vs := vs) P1.env nD
      have nOwnD : ¬ Own (wipe σ vs) (wipeR ρ1 vs) D := fun w => not_own P1.env nD ((M0.own D w).mem P1.env)
      have mid : ∀ {H2 : Hp}, EnvR K (D :: O) H2 (wipe σ vs) (wipeR ρ1 vs) → Same H1 H2 → Mid K O σ ρ1 H1 vs D (wipeR ρ1 vs) H2 := fun {H2} e s => ⟨e, fun a o _ z => s a o z, M0.own, M0.no, M0.par⟩
      -- between two turns of the outer walk
      refine ⟨fun i k H' => k = xs.length - i ∧ i ≤ xs.length ∧ ∃ acc ys av, EnvR K (D :: O) H' (wipe σ vs) (wipeR ρ1 vs) ∧ Same H1 H' ∧
        loop2 vs1 g t mi1 g1 t1 m (wipeR ρ1 vs) (xs.drop i) = some ys ∧ acc ++ ys = out ∧ H' D = some (.lst av) ∧ DpAll K (hide (D :: O) H') av acc, ⟨xs.length, rfl, Nat.zero_le _, [], out, [], M0.env, same_new nD, eb, rfl, upd_same, .nil⟩, ?_⟩
      rintro i k H2 ⟨rfl, hi, acc, ys, av, E2, S2, hl, hout, hD2, hav⟩
      obtain ⟨y1, y2⟩ := Y (D :: O) _ _ H2 E2 ((mid E2 S2).hid P1.env nD)
      by_cases hlt : i < xs.length
      · have hd : xs[i]? = some xs[i] := List.getElem?_eq_getElem hlt
        rw [List.drop_eq_getElem_cons hlt] at hl
        obtain ⟨ρ3, ec, hl⟩ := Option.bind_eq_some_iff.mp hl
        obtain ⟨⟨c, ρ4⟩, ed, hl⟩ := Option.bind_eq_some_iff.mp hl
        obtain ⟨go, yy⟩ := y1 i _ hd
        refine .inr ⟨go, fun H' => i + 1 ≤ xs.length ∧ ∃ acc ys av, EnvR K (D :: O) H' (wipe σ vs) (wipeR ρ1 vs) ∧ Same H1 H' ∧
          loop2 vs1 g t mi1 g1 t1 m (wipeR ρ1 vs) (xs.drop (i + 1)) = some ys ∧ acc ++ ys = out ∧ H' D = some (.lst av) ∧ DpAll K (hide (D :: O) H') av acc, fun H' ⟨a1, a2⟩ => ⟨xs.length - (i + 1), by omega, rfl, a1, a2⟩, fun x H3 hx => ?_⟩
        obtain ⟨s3, d3⟩ := yy x H3 hx
        have P3 := Post.same E2 s3
        refine ⟨_, _, ρ3, D :: O, ec, P3.env, d3, fun σ4 P4 w4 => ⟨w4.trans wipe_wipe, ρ3, c, ρ4, D :: O, ed, P4.env, fun H5 P5 u5 => ?_⟩⟩
        obtain ⟨r5, s5⟩ := u5 rfl
        subst r5
        have s25 : Same H2 H5 := s3.trans s5
        cases c with
        | false =>
          rw [if_neg Bool.false_ne_true] at hl
          exact iteF ⟨hlt, acc, ys, av, E2.same s25, S2.trans s25, hl, hout, s25 _ _ hD2, dpAll_mono (same_hide s25) _ _ hav⟩
        | true =>
          rw [if_pos rfl] at hl
          obtain ⟨⟨ds1, ρ5⟩, ee, hl⟩ := Option.bind_eq_some_iff.mp hl
          obtain ⟨ys1, ef, hl⟩ := Option.bind_eq_some_iff.mp hl
          obtain ⟨zs, eg, hl⟩ := Option.bind_eq_some_iff.mp hl
          cases hl
          have nOwn4 : ¬ Own σ4 ρ4 D := fun w => by
            rcases P4.fresh D w with z | z
            · exact nOwnD z
            · rw [s3 _ _ hD2] at z; cases z
          refine iteT ⟨_, ds1, ρ5, D :: O, ee, P5.env, fun J1 H6 P6 u6 Y1 => ?_⟩
          obtain ⟨r6, s6⟩ := u6 rfl
          subst r6
          have s26 := s25.trans s6
          -- between two turns of the inner walk
          refine ⟨fun j k H' => k = ds1.length - j ∧ j ≤ ds1.length ∧ ∃ acc1 ys2 av1, But D H6 H' ∧ loopP g1 t1 m (wipeR ρ5 vs1) (ds1.drop j) = some ys2 ∧ acc1 ++ ys2 = acc ++ ys1 ∧ H' D = some (.lst av1) ∧ DpAll K (hide (D :: O) H') av1 acc1,
            ⟨ds1.length, rfl, Nat.zero_le _, acc, ys1, av, fun _ _ _ z => z, ef, rfl, s26 _ _ hD2, dpAll_mono (same_hide s26) _ _ hav⟩, ?_⟩
          rintro j k H7 ⟨rfl, hj, acc1, ys2, av1, b7, hl1, ho1, hD7, hav1⟩
          have E7 : EnvR K (D :: O) H7 σ4 ρ5 := env_but P6.env nOwn4 b7 ⟨_, hD7⟩
          obtain ⟨z1, z2⟩ := Y1 (D :: O) _ _ H7 E7 b7.hide
          by_cases hlt1 : j < ds1.length
          · have hd1 : ds1[j]? = some ds1[j] := List.getElem?_eq_getElem hlt1
            rw [List.drop_eq_getElem_cons hlt1] at hl1
            obtain ⟨ρ7, ec1, hl1⟩ := Option.bind_eq_some_iff.mp hl1
            obtain ⟨⟨c1, ρ8⟩, ed1, hl1⟩ := Option.bind_eq_some_iff.mp hl1
            obtain ⟨go1, yy1⟩ := z1 j _ hd1
            refine .inr ⟨go1, fun H' => j + 1 ≤ ds1.length ∧ ∃ acc1 ys2 av1, But D H6 H' ∧ loopP g1 t1 m (wipeR ρ5 vs1) (ds1.drop (j + 1)) = some ys2 ∧ acc1 ++ ys2 = acc ++ ys1 ∧ H' D = some (.lst av1) ∧ DpAll K (hide (D :: O) H') av1 acc1,
              fun H' ⟨a1, a2⟩ => ⟨ds1.length - (j + 1), by omega, rfl, a1, a2⟩, fun x1 H8 hx1 => ?_⟩
            obtain ⟨s8, d8⟩ := yy1 x1 H8 hx1
            have E8 := env_wipe (vs := vs1) (E7.same s8)
            refine ⟨_, _, ρ7, D :: O, ec1, E8, d8, fun σ9 P9 w9 => ⟨w9.trans wipe_wipe, ρ7, c1, ρ8, D :: O, ed1, P9.env, fun H10 P10 u10 => ?_⟩⟩
            obtain ⟨r10, s10⟩ := u10 rfl
            subst r10
            have b10 : But D H6 H10 := (b7.trans (But.same s8)).trans (But.same s10)
            have s710 : Same H7 H10 := s8.trans s10
            cases c1 with
            | false =>
              rw [if_neg Bool.false_ne_true] at hl1
              exact iteF ⟨hlt1, acc1, ys2, av1, b10, hl1, ho1, s710 _ _ hD7, dpAll_mono (same_hide s710) _ _ hav1⟩
            | true =>
              rw [if_pos rfl] at hl1
              obtain ⟨⟨y, ρ11⟩, ee1, hl1⟩ := Option.bind_eq_some_iff.mp hl1
              obtain ⟨ys3, ef1, hl1⟩ := Option.bind_eq_some_iff.mp hl1
              cases hl1
              refine iteT ⟨_, y, ρ11, D :: O, ee1, P10.env, fun v H12 P12 u12 d12 => ?_⟩
              obtain ⟨r12, s12⟩ := u12 rfl
              have s712 := s710.trans s12
              have hlen : acc1.length < 16000000 := by
                have h1 := congrArg List.length ho1
                have h2 := congrArg List.length hout
                simp only [List.length_append, List.length_cons] at h1 h2
                omega
              refine ⟨av1, s712 _ _ hD7, ?_, hlt1, acc1 ++ [y], ys3, av1 ++ [v], (b10.trans (But.same s12)).trans But.upd, ef1, ?_, upd_same, ?_⟩
              · rw [dpAll_len hav1]
                exact Nat.lt_of_lt_of_le hlen (by decide)
              · rw [← ho1, List.append_assoc]
                rfl
              · rw [hide_laid]
                exact dpAll_app (dpAll_mono (same_hide s712) _ _ hav1) (.cons d12 .nil)
          · have hje : j = ds1.length := by omega
            subst hje
            rw [List.drop_length] at hl1
            cases hl1
            rw [List.append_nil] at ho1
            subst ho1
            have b27 : But D H2 H7 := (But.same s26).trans b7
            refine .inl ⟨z2 _ rfl, hlt, acc ++ ys1, zs, av1, env_but E2 nOwnD b27 ⟨_, hD7⟩, fun a o z => b27 a o (ne_of_none z nD) (S2 a o z), eg, ?_, hD7, hav1⟩
            rw [← hout, List.append_assoc]
      · have hie : i = xs.length := by omega
        subst hie
        rw [List.drop_length] at hl
        cases hl
        rw [List.append_nil] at hout
        subst hout
        obtain ⟨F1, F2⟩ := comp_end P1.env hc nD (mid E2 S2)
        rw [back_wipe] at F1 F2
        have nD0 : H D = none := none_back env P1 (fun c w => P1.env.oa c (w.mem env)) nD
        refine .inl ⟨y2 _ rfl, q D av H2 nD0 (P1.trans env F2) (P1.trans env F1) (fun hb => ⟨(u1 hb).1, (u1 hb).2.trans S2⟩) hD2 ?_⟩
        rw [hide_cons]; exact hav
    · cases e1
  · cases e1
theorem f_lc2 {scope : Scope} {own : List (Str × Nat)} (hc : X.calm = true) (hN : X.N.Nodup) (hi : SI b X tg e mi) (ok : BlkOk X.N X.env.scope scope own) (hv : ∀ i ∈ vs1, i ∈ own.map (·.2))
    (hg : ∀ (s : Shared) (H : Hp) (C : Addr) (cl : List (Str × Addr)) (fp : List Addr), SG (X.blk s H scope (compEnvC scope cl C X.env) fp) vs tg g) (ht : ∀ (s : Shared) (H : Hp) (C : Addr) (cl : List (Str × Addr)) (fp : List Addr), STs true (X.blk s H scope (compEnvC scope cl C X.env) fp) ifs t)
    (hi1 : ∀ (s : Shared) (H : Hp) (C : Addr) (cl : List (Str × Addr)) (fp : List Addr), SI true (X.blk s H scope (compEnvC scope cl C X.env) fp) tg1 iter1 mi1)
    (hg1 : ∀ (s : Shared) (H : Hp) (C : Addr) (cl : List (Str × Addr)) (fp : List Addr), SG (X.blk s H scope (compEnvC scope cl C X.env) fp) vs1 tg1 g1) (ht1 : ∀ (s : Shared) (H : Hp) (C : Addr) (cl : List (Str × Addr)) (fp : List Addr), STs true (X.blk s H scope (compEnvC scope cl C X.env) fp) ifs1 t1)
    (he : ∀ (s : Shared) (H : Hp) (C : Addr) (cl : List (Str × Addr)) (fp : List Addr), SE true (X.blk s H scope (compEnvC scope cl C X.env) fp) elt m) (hs : ∀ x, foldedSetIterable e X.env x = pure x := by intro _; rfl) (hs1 : ∀ env x, foldedSetIterable iter1 env x = pure x := by intro _ _; rfl)
    (hvs : List.map (fun p : Str × Nat => p.2) own = vs := by rfl) : SF b X (.ListComp elt [⟨tg, e, ifs, 0⟩, ⟨tg1, iter1, ifs1, 0⟩] scope pos) (mLc2 vs vs1 mi g t mi1 g1 t1 m) := by
  subst hvs
  exact PE.imp (pe_lc2 (g := denG X.K (List.map (fun x : Str × Nat => x.2) own) g) (tt := denT X.K true t) (wi1 := denI X.K true mi1) (g1 := denG X.K vs1 g1) (tt1 := denT X.K true t1) (te := den X.K true m) hc hN hi ok hv (fun s H C cl fp => hg s H C cl fp) (fun s H C cl fp => ht s H C cl fp)
    (fun s H C cl fp => hi1 s H C cl fp) (fun s H C cl fp => hg1 s H C cl fp) (fun s H C cl fp => ht1 s H C cl fp) (fun s H C cl fp => he s H C cl fp) hs hs1) fun _ _ _ q => den_lc2 q
end
end Fn

set_option Elab.async false
set_option linter.all false
set_option maxRecDepth 100000
/-! Fn14: {.. for .. in ..} of tuples of ints; sorted of such. -/
namespace Fn
open PySem PySem.Spec L2 TS
open PyProof.Rows hiding St
section
variable {pins : List (Addr × Obj)} {X : Cx} {σ : L2.St} {H : Hp} {s : Shared}
/-- found.add(x), x a tuple of ints -/
theorem set_add_tup {E : Value → Shared → Prop} {D x : Addr} {L : List (Addr × List Int)} {k : List Int} {Q : Value → Shared → Prop} (I : Inv X pins σ H s) (hD : H D = some (SetTO X.prog X.w D L))
    (hL : ∀ p, p ∈ L → SqT X.K H p.1 (p.2.map V.int)) (hx : SqT X.K H x (k.map V.int)) (hu : X.A.units + 65 < cLine) (hf : L.length + 1 < 64)
    (h : ∀ L' s', Inv X pins σ (upd H D (SetTO X.prog X.w D L')) s' → (k ∈ L.map (·.2) → L' = L) → (k ∉ L.map (·.2) → L'.Perm ((x, k) :: L)) → Q .none s') :
    wpAny (model X.prog X.w) X.A (call (.builtin "set.add") [.ref D, .ref x]) Q E s := by
  have R0 : SetT0 X.prog X.w s.heap D L := (I.hok D _ hD).1
  obtain ⟨es, ep, t, R⟩ := R0.full fun p hp => I.isT (hL p hp)
  have ⟨o, ho, hex, _⟩ := R.ob
  have hxT := I.isT hx
  refine wpAny_call_entry PySem.F.slot_set_add ⟨o, ho, hex.1⟩ PySem.F.entry_set_add ?_ (PySem.F.args_set_add_2 _ _)
  unfold Builtin.«set.add» Builtin.Frozenset.oneOther Builtin.Frozenset.addrOf setAdd
  simp only [bind_assoc, List.isEmpty_nil]
  iterate 2 (refine wpAny_bind (wpAny_pure ?_); try dsimp only)
  refine wpAny_bind (wpAny_holding (wpAny_bind (wpAny_pyHash_tuple ?hu hxT ?_)))
  case hu =>
    show X.A.units + 1 < cLine
    omega
  refine wpAny_mono (add_at (s := { s with toks := s.toks + (k.length + 1) }) R hxT ?hu2 hf fun b h' L' es' ep' t' sb R' same more => ?_) (fun a s' q => q) fun _ _ q => q
  case hu2 =>
    show X.A.units + 1 < cLine
    omega
  have ⟨o', ho', _⟩ := R'.ob
  exact wpAny_pure ⟨_, rfl, h L' _ (I.write (h' := h') (t' := s.toks + (k.length + 1)) (by rw [hD]; trivial) (.inl rfl) (fun c u hc z => (sb.2 c hc).trans z) ⟨o', ho'⟩ (setTO_new R'.t0)) same more⟩
end
/-- {elt for target in iter if ..}, the items tuples of ints: D the new set, W by the turn and a measure -/
def tSc (P : Program) (w : World) (K : PySem.W.Frag) (wi : TI) (g : TG) (tt : TT) (te : TE) (vs : List Nat) : TE := fun σ H Q => wi σ H fun J H1 => ∀ D, H1 D = none → ∃ W : Nat → Nat → Hp → Prop, (∃ m, W 0 m (upd H1 D (SetTO P w D []))) ∧ ∀ i m H, W i m H →
  (J.stop i H ∧ Q (.ref D) H) ∨ (J.go i H ∧ ∃ Nx : Hp → Prop, (∀ H', Nx H' → ∃ m', m' < m ∧ W (i + 1) m' H') ∧
    ∀ x H', J.yld i H x H' → g x (wipe σ vs) H' fun σ2 H2 => wipe σ2 vs = wipe σ vs ∧ tt σ2 H2 fun b H3 => if b = true then te σ2 H3 fun y H4 => ∃ (x : Addr) (L : List (Addr × List Int)) (k : List Int), y = .ref x ∧ H4 D = some (SetTO P w D L) ∧ (∀ p, p ∈ L → SqT K H4 p.1 (p.2.map V.int)) ∧ SqT K H4 x (k.map V.int) ∧ L.length + 1 < 64 ∧
      ∀ L', (k ∈ L.map (·.2) → L' = L) → (k ∉ L.map (·.2) → L'.Perm ((x, k) :: L)) → Nx (upd H4 D (SetTO P w D L'))
    else Nx H3)
section
variable {X : Cx}
theorem sc_run {pins : List (Addr × Obj)} {s : Shared} {σ : L2.St} {H : Hp} {Q : VK} {elt tg iter : Expr} {ifs : List Expr} {scope : Scope} {own : List (Str × Nat)} {pos pos' : Pos} {wi : TI} {g : TG} {tt : TT} {te : TE}
    (hc : X.calm = true) (hu : X.A.units + 65 < cLine) (hN : X.N.Nodup) (I : Inv X pins σ H s) (hi : PI X tg iter wi) (ok : BlkOk X.N X.env.scope scope own)
    (hg : ∀ (s : Shared) (H : Hp) (C : Addr) (cl : List (Str × Addr)) (fp : List Addr), PG (X.blk s H scope (compEnvC scope cl C X.env) fp) tg g)
    (ht : ∀ (s : Shared) (H : Hp) (C : Addr) (cl : List (Str × Addr)) (fp : List Addr), PTs (X.blk s H scope (compEnvC scope cl C X.env) fp) ifs tt)
    (he : ∀ (s : Shared) (H : Hp) (C : Addr) (cl : List (Str × Addr)) (fp : List Addr), PE (X.blk s H scope (compEnvC scope cl C X.env) fp) elt te)
    (hs : ∀ x, foldedSetIterable iter X.env x = pure x) (h : tSc X.prog X.w X.K wi g tt te (own.map (·.2)) σ H Q) :
    wpAny (model X.prog X.w) X.A (comprehension (.SetComp elt [⟨tg, iter, ifs, 0⟩] scope pos) scope X.env pos' (newSet (.type "set")) false (eval iter X.env)) (EP X pins σ Q) X.xe s := by
  -- the names that the block captures have their cells
  have captured : ∀ y, y ∈ scope.names → y.2 = .free → ∃ c, X.env.cells.lookup y.1 = some c := by
    intro y hy hk
    exact (ok.free y hy hk).elim (fun z => I.ok.has _ (.inl z)) fun z => I.ok.has _ (.inr z)
  refine wpAny_comprehension_free (use := none) rfl hs (closure_ok captured) ok.kind (fun y hy hk => by rw [ok.uniq y hy, hk]) ?_
  refine thn (hi.run pins s σ H _ I h) fun xv s1 walked => thn walked fun itv s2 came => ?_
  obtain ⟨it, fp, tn, J, H2, rfl, I2, T, st2, f2, q⟩ := came
  refine wpAny_newSet_raw fun led hled => newEnv_comp ?_
  have fresh : H2 s2.heap.objs.size = none := I2.hok.fresh (Nat.le_refl _)
  obtain ⟨W, ⟨m0, w0⟩, turn⟩ := q _ fresh
  generalize hD : s2.heap.objs.size = D at *
  generalize hs3 : ({ s2 with heap := s2.heap.push { cls := .type "set", dict := none, data := .set #[] 0 (.fresh 0 0 led) } } : Shared) = s3
  have heap3 : s3.heap = s2.heap.push { cls := .type "set", dict := none, data := .set #[] 0 (.fresh 0 0 led) } := by rw [← hs3]
  have atD : s3.heap.get? D = some { cls := .type "set", dict := none, data := .set #[] 0 (.fresh 0 0 (!X.w.params.followText "set-order")) } := by
    rw [heap3, ← hD, ← hled]
    apply Heap.get?_push_size
    rfl
  have I3 : Inv X pins σ (upd H2 D (SetTO X.prog X.w D [])) s3 := by
    rw [← hs3]
    refine I2.laid (t' := s2.toks) (fun c u z => Heap.get?_push_of_some _ z) (Nat.le_of_eq hD) (setTO_new ?_)
    have z := atD
    rw [← hs3] at z
    exact (setTR_fresh (P := X.prog) (w := X.w) z).t0
  -- the iterator's objects
  have small : ∀ c, c ∈ fp → c < s2.heap.objs.size := by
    intro c hc'
    obtain ⟨u, z, _⟩ := T.obj _ _ st2 c hc'
    exact Heap.lt_size z
  have f3 : ∀ c, c ∈ fp → FpOk X pins (upd H2 D (SetTO X.prog X.w D [])) c ∧ c < s3.heap.objs.size := by
    intro c hc'
    have lt := small c hc'
    refine ⟨⟨?_, (f2 c hc').2⟩, ?_⟩
    · rw [upd_ne (by rw [← hD]; exact Nat.ne_of_lt lt)]
      exact (f2 c hc').1
    · rw [heap3, Heap.size_push]
      exact Nat.lt_succ_of_lt lt
  have st3 : tn 0 s3.heap := T.keep _ _ _ st2 fun c _ u z => by
    rw [heap3]
    exact Heap.get?_push_of_some _ z
  have I4 := block_start (scope := scope) I3 ok hN f3
  have pg := hg s3 (upd H2 D (SetTO X.prog X.w D [])) s3.heap.objs.size (cellsFrom (s3.heap.objs.size + 1) scope.names (cloFrom X.env.cells scope.names [])) fp
  have pt := ht s3 (upd H2 D (SetTO X.prog X.w D [])) s3.heap.objs.size (cellsFrom (s3.heap.objs.size + 1) scope.names (cloFrom X.env.cells scope.names [])) fp
  have pe := he s3 (upd H2 D (SetTO X.prog X.w D [])) s3.heap.objs.size (cellsFrom (s3.heap.objs.size + 1) scope.names (cloFrom X.env.cells scope.names [])) fp
  have nfp : ∀ c, c ∈ fp → (upd H2 D (SetTO X.prog X.w D [])) c = none := fun c hc' => (f3 c hc').1.1
  have room : X.A.units + 65 < cLine := hu
  show codeAny _ _ (.compStart (.SetComp elt [⟨tg, iter, ifs, 0⟩] scope pos) 0 (.ref it) (.ref D) (compEnvC scope (cellsFrom (s3.heap.objs.size + 1) scope.names (cloFrom X.env.cells scope.names [])) s3.heap.objs.size X.env))
    (compPost (model X.prog X.w) X.A X.xe none (EP X pins σ Q) (.ref D) s3.heap.objs.size) { s3 with heap := pushCells (s3.heap.push { cls := .type "dict", data := .dict #[] }) scope.names }
  generalize hce : compEnvC scope (cellsFrom (s3.heap.objs.size + 1) scope.names (cloFrom X.env.cells scope.names [])) s3.heap.objs.size X.env = ce at *
  have cL : ce.locals = s3.heap.objs.size := by rw [← hce]; rfl
  generalize hH3 : upd H2 D (SetTO X.prog X.w D []) = H3 at *
  generalize hs4 : ({ s3 with heap := pushCells (s3.heap.push { cls := .type "dict", data := .dict #[] }) scope.names } : Shared) = s4 at *
  have st4 : tn 0 s4.heap := T.keep _ _ _ st3 fun c _ u z => by
    rw [← hs4]
    exact pushCells_keeps _ _ _ _ (Heap.get?_push_of_some _ z)
  have stat : ∀ {σ' : L2.St} {H' : Hp} {s' : Shared}, Inv (X.blk s3 H3 scope ce fp) [] σ' H' s' → (∀ c, c ∈ fp → H' c = none) → ∀ c, c ∈ fp → FpOk (X.blk s3 H3 scope ce fp) [] H' c := by
    intro σ' H' s' I' nn c hc'
    refine ⟨nn c hc', (I'.ok.exf c hc').1, I'.ok.exfs c hc', .inl hc', fun x u z => (I'.ok.exf c hc').2 x u z, fun p hp => ?_⟩
    exact absurd (show p ∈ ([] : List (Addr × Obj)) ++ [] from hp) (by simp)
  have loop : codeAny (model X.prog X.w) X.A (.compLoop (.SetComp elt [⟨tg, iter, ifs, 0⟩] scope pos) 0 (.ref it) (.ref D) ce) (compPost (model X.prog X.w) X.A X.xe none (EP X pins σ Q) (.ref D) s3.heap.objs.size) s4 := by
    refine compLoop_set_any (fun n s' => ∃ i H', Inv (X.blk s3 H3 scope ce fp) [] (wipe σ (own.map (·.2))) H' s' ∧ tn i s'.heap ∧ (∀ c, c ∈ fp → H' c = none) ∧ W i n H') ?_ m0 ⟨0, H3, I4, st4, nfp, w0⟩
    rintro k s5 ⟨i, H5, I5, st5, n5, w5⟩
    rcases turn i k H5 w5 with ⟨over, qq⟩ | ⟨go, Nx, hNx, step⟩
    · refine thnF (T.done (X.blk s3 H3 scope ce fp) rfl rfl rfl hc i [] s5 _ H5 (fun _ _ => False) I5 (stat I5 n5) st5 over) fun r s6 rest => ?_
      obtain ⟨rfl, I6⟩ := rest
      have I7 : Inv X pins σ H5 s6 := I3.call' (ch := fp) I6.os I6.base I6.hok I6.bare fun c hc' =>
        let z := (f3 c hc').1
        ⟨z.2.2.2.1, z.2.1, z.2.2.2.2.1, z.2.2.2.2.2⟩
      have nC : H5 s3.heap.objs.size = none := cL ▸ I6.free
      obtain ⟨m, ns, _⟩ := I6.loc
      have ns : s6.heap.Ns ce.locals m := ns
      rw [cL] at ns
      refine ⟨m, ns, fun h'' sb => ?_⟩
      obtain ⟨z0, z1, z2, z3, z4, z5⟩ := I3.fpOk (H' := H5) (b := s3.heap.objs.size) (Nat.le_refl _) nC
      exact ⟨.ref D, H5, I7.turned (t' := s6.toks) (fun c u hcc z => (sb.2 c hcc).trans z) z0 z1 z3 z4 z5, rfl, qq⟩
    · refine thnF (T.item (X.blk s3 H3 scope ce fp) rfl rfl rfl hc i [] s5 _ H5 (fun _ _ => False) I5 (stat I5 n5) st5 go) fun r s6 got => ?_
      obtain ⟨u, rfl, h6⟩ := got
      refine thnF h6 ?_
      rintro _ s7 ⟨x, H7, I7, r7, y7, st7, n7⟩
      have J7 := I7.pinned (stat I7 n7) (T.obj _ _ st7)
      refine thnF (pg.run _ s7 _ H7 x u _ J7 r7 (step x H7 y7)) fun _ s8 ⟨σ8, H8, I8, hw8, q8⟩ => ?_
      refine thnF (pt.run _ s8 σ8 H8 _ I8 q8) fun bb s9 ⟨H9, I9, q9⟩ => ?_
      -- whatever the turn has made
      have fin : ∀ {s' : Shared} {H' : Hp}, Inv (X.blk s3 H3 scope ce fp) ([] ++ pinsAt fp s7.heap) σ8 H' s' → Nx H' →
          ∃ m, m < k ∧ ∃ i H', Inv (X.blk s3 H3 scope ce fp) [] (wipe σ (own.map (·.2))) H' s' ∧ tn i s'.heap ∧ (∀ c, c ∈ fp → H' c = none) ∧ W i m H' := by
        intro s' H' I' nx
        obtain ⟨m', lt, w'⟩ := hNx H' nx
        have held : ∀ c, c ∈ fp → ∀ v, s7.heap.get? c = some v → s'.heap.get? c = some v ∧ H' c = none := by
          intro c hc' v z
          have y := I'.pin (c, v) (List.mem_append_right _ (List.mem_append_right _ (mem_pinsAt hc' z)))
          exact ⟨y.1, y.2.1⟩
        refine ⟨m', lt, i + 1, H', (I'.unpinned (pins := [])).weak ?_ ?_, T.keep _ _ _ st7 fun c hc' v z => (held c hc' v z).1, fun c hc' => ?_, w'⟩
        · rw [← hw8, wipe_length]
        · intro j v z
          rw [← hw8] at z
          exact (wipe_some z).1
        · obtain ⟨v, z, _⟩ := T.obj _ _ st7 c hc'
          exact (held c hc' v z).2
      cases bb with
      | false =>
        rw [if_neg Bool.false_ne_true] at q9
        exact fin I9 q9
      | true =>
        rw [if_pos rfl] at q9
        refine thnF (pe.run _ s9 σ8 H9 _ I9 q9) fun z s10 ⟨yv, H10, I10, r10, made⟩ => ?_
        obtain ⟨xa, L, k, rfl, hD10, hL, hx, hf, nx⟩ := made
        cases r10
        exact set_add_tup (X := X.blk s3 H3 scope ce fp) I10 hD10 hL hx room hf fun L' s11 I11 same more => fin I11 (nx L' same more)
  refine codeAny_compStart_set loop ?_
  exact T.self X.A 0 _ _ _ st4 loop
theorem pe_sc {elt tg iter : Expr} {ifs : List Expr} {scope : Scope} {own : List (Str × Nat)} {pos : Pos} {wi : TI} {g : TG} {tt : TT} {te : TE} (hc : X.calm = true) (hu : X.A.units + 65 < cLine) (hN : X.N.Nodup) (hi : PI X tg iter wi) (ok : BlkOk X.N X.env.scope scope own)
    (hg : ∀ (s : Shared) (H : Hp) (C : Addr) (cl : List (Str × Addr)) (fp : List Addr), PG (X.blk s H scope (compEnvC scope cl C X.env) fp) tg g)
    (ht : ∀ (s : Shared) (H : Hp) (C : Addr) (cl : List (Str × Addr)) (fp : List Addr), PTs (X.blk s H scope (compEnvC scope cl C X.env) fp) ifs tt)
    (he : ∀ (s : Shared) (H : Hp) (C : Addr) (cl : List (Str × Addr)) (fp : List Addr), PE (X.blk s H scope (compEnvC scope cl C X.env) fp) elt te)
    (hs : ∀ x, foldedSetIterable iter X.env x = pure x := by intro _; rfl) : PE X (.SetComp elt [⟨tg, iter, ifs, 0⟩] scope pos) (tSc X.prog X.w X.K wi g tt te (own.map (·.2))) := by
  constructor
  intro pins s σ H Q I h
  rw [arm_eval_SetComp]
  exact sc_run hc hu hN I hi ok hg ht he hs h
end
end Fn

set_option Elab.async false
set_option linter.all false
set_option maxRecDepth 100000
/-! Fn15: new sets of tuples of ints as functions of the slots; sorted of such. -/
namespace Fn
open PySem PySem.Spec L2 TS
open PyProof.Rows hiding St
/-! ### pairs of small numbers in their order -/
def okPair : List Int → Bool
  | [x, y] => decide (0 ≤ x ∧ x < 64 ∧ 0 ≤ y ∧ y < 64)
  | _ => false
def cd (k : List Int) : Int := TS.code 64 k
theorem okPair_of {k : List Int} (h : okPair k = true) : ∃ x y, k = [x, y] ∧ 0 ≤ x ∧ x < 64 ∧ 0 ≤ y ∧ y < 64 := by
  unfold okPair at h
  split at h
  · exact ⟨_, _, rfl, of_decide_eq_true h⟩
  · cases h
theorem cd_inj {k j : List Int} (hk : okPair k = true) (hj : okPair j = true) (e : cd k = cd j) : k = j := by
  obtain ⟨x, y, rfl, h1, h2, h3, h4⟩ := okPair_of hk
  obtain ⟨u, v, rfl, g1, g2, g3, g4⟩ := okPair_of hj
  unfold cd at e
  rw [code_pair, code_pair] at e
  have a : x = u := by omega
  have b : y = v := by omega
  rw [a, b]
def insP (k : List Int) : List (List Int) → List (List Int)
  | [] => [k]
  | x :: xs => if cd k < cd x then k :: x :: xs else if cd k = cd x then x :: xs else x :: insP k xs
def canon (ks : List (List Int)) : List (List Int) := ks.foldr insP []
abbrev Rise (xs : List (List Int)) : Prop := xs.Pairwise fun a b => cd a < cd b
theorem insP_mem {k : List Int} (hk : okPair k = true) : ∀ {xs : List (List Int)}, (∀ x, x ∈ xs → okPair x = true) → ∀ j, j ∈ insP k xs ↔ j = k ∨ j ∈ xs
  | [], _, j => by simp [insP]
  | x :: xs, h, j => by
    unfold insP
    split
    · simp
    · split
      · rename_i e
        have := cd_inj hk (h x List.mem_cons_self) e
        subst this
        simp
      · rw [List.mem_cons, insP_mem hk (fun y hy => h y (List.mem_cons_of_mem _ hy)) j, List.mem_cons]
        constructor
        · rintro (z | z | z)
          · exact .inr (.inl z)
          · exact .inl z
          · exact .inr (.inr z)
        · rintro (z | z | z)
          · exact .inr (.inl z)
          · exact .inl z
          · exact .inr (.inr z)
theorem insP_rise {k : List Int} (hk : okPair k = true) : ∀ {xs : List (List Int)}, (∀ x, x ∈ xs → okPair x = true) → Rise xs → Rise (insP k xs)
  | [], _, _ => by simp [insP]
  | x :: xs, h, r => by
    have ⟨r1, r2⟩ := List.pairwise_cons.mp r
    unfold insP
    split
    · rename_i lt
      refine List.pairwise_cons.mpr ⟨fun y hy => ?_, r⟩
      rcases List.mem_cons.mp hy with z | z
      · subst z; exact lt
      · exact Int.lt_trans lt (r1 y z)
    · split
      · exact r
      · rename_i n1 n2
        have hx : ∀ y, y ∈ xs → okPair y = true := fun y hy => h y (List.mem_cons_of_mem _ hy)
        refine List.pairwise_cons.mpr ⟨fun y hy => ?_, insP_rise hk hx r2⟩
        rcases (insP_mem hk hx y).mp hy with z | z
        · subst z
          omega
        · exact r1 y z
theorem canon_ok {ks : List (List Int)} (h : ∀ k, k ∈ ks → okPair k = true) : (∀ j, j ∈ canon ks ↔ j ∈ ks) ∧ Rise (canon ks) := by
  induction ks with
  | nil => exact ⟨fun j => Iff.rfl, List.Pairwise.nil⟩
  | cons k ks ih =>
    obtain ⟨i1, i2⟩ := ih fun j hj => h j (List.mem_cons_of_mem _ hj)
    have hk := h k List.mem_cons_self
    have hx : ∀ x, x ∈ canon ks → okPair x = true := fun x hx => h x (List.mem_cons_of_mem _ ((i1 x).mp hx))
    refine ⟨fun j => ?_, insP_rise hk hx i2⟩
    show j ∈ insP k (canon ks) ↔ _
    rw [insP_mem hk hx j, i1 j, List.mem_cons]
/-- two rising lists of the same members are one -/
theorem rise_eq : ∀ {xs ys : List (List Int)}, Rise xs → Rise ys → (∀ j, j ∈ xs ↔ j ∈ ys) → xs = ys
  | [], [], _, _, _ => rfl
  | [], y :: ys, _, _, h => by have := (h y).mpr List.mem_cons_self; cases this
  | x :: xs, [], _, _, h => by have := (h x).mp List.mem_cons_self; cases this
  | x :: xs, y :: ys, r, q, h => by
    have ⟨r1, r2⟩ := List.pairwise_cons.mp r
    obtain ⟨q1, q2⟩ := List.pairwise_cons.mp q
    have e : x = y := by
      rcases List.mem_cons.mp ((h x).mp List.mem_cons_self) with z | z
      · exact z
      · rcases List.mem_cons.mp ((h y).mpr List.mem_cons_self) with w | w
        · exact w.symm
        · have := q1 x z
          have := r1 y w
          omega
    subst e
    have : xs = ys := rise_eq r2 q2 fun j => by
      have nx : ∀ {zs : List (List Int)}, (∀ b, b ∈ zs → cd x < cd b) → x ∉ zs := fun hz m => by have := hz x m; omega
      constructor
      · intro m
        rcases List.mem_cons.mp ((h j).mp (List.mem_cons_of_mem _ m)) with z | z
        · subst z; exact absurd m (nx r1)
        · exact z
      · intro m
        rcases List.mem_cons.mp ((h j).mpr (List.mem_cons_of_mem _ m)) with z | z
        · subst z; exact absurd m (nx q1)
        · exact z
    rw [this]
theorem rise_of {xs : List (List Int)} (h : ∀ x, x ∈ xs → okPair x = true) (nd : xs.Nodup) (pw : xs.Pairwise fun a b => cd a ≤ cd b) : Rise xs := by
  induction xs with
  | nil => exact List.Pairwise.nil
  | cons x xs ih =>
    obtain ⟨p1, p2⟩ := List.pairwise_cons.mp pw
    have ⟨n1, n2⟩ := List.nodup_cons.mp nd
    refine List.pairwise_cons.mpr ⟨fun y hy => ?_, ih (fun z hz => h z (List.mem_cons_of_mem _ hz)) n2 p2⟩
    have le := p1 y hy
    have ne : cd x ≠ cd y := fun e => n1 (by rw [cd_inj (h x List.mem_cons_self) (h y (List.mem_cons_of_mem _ hy)) e]; exact hy)
    omega
/-! ### the data of such -/
def tupD (k : List Int) : PyData := .tuple (k.map PyData.int)
def intsD : List PyData → Option (List Int)
  | [] => some []
  | .int i :: ds => (intsD ds).bind fun is => some (i :: is)
  | _ => none
def untup : PyData → Option (List Int)
  | .tuple ds => intsD ds
  | _ => none
def untups : List PyData → Option (List (List Int))
  | [] => some []
  | d :: ds => (untup d).bind fun k => (untups ds).bind fun ks => some (k :: ks)
theorem intsD_of : ∀ {ds : List PyData} {is : List Int}, intsD ds = some is → ds = is.map PyData.int
  | [], _, e => by cases e; rfl
  | d :: ds, is, e => by
    unfold intsD at e
    split at e
    · rename_i h; cases h
    · rename_i i ds' h
      cases h
      obtain ⟨js, e1, e2⟩ := Option.bind_eq_some_iff.mp e
      cases e2
      rw [intsD_of e1]
      rfl
    · cases e
theorem untup_of {d : PyData} {k : List Int} (e : untup d = some k) : d = tupD k := by
  unfold untup at e
  split at e
  · rw [intsD_of e]; rfl
  · cases e
section
variable {K : PySem.W.Frag}
theorem dp_ints {H : Hp} : ∀ {is : List Int} {vs : List V}, DpAll K H vs (is.map PyData.int) → vs = is.map V.int
  | [], _, .nil => rfl
  | i :: is, _, .cons h t => by rw [dp_int h, dp_ints t]; rfl
theorem dp_ofInts {H : Hp} : ∀ is : List Int, DpAll K H (is.map V.int) (is.map PyData.int)
  | [] => .nil
  | i :: is => .cons (.int i) (dp_ofInts is)
theorem dp_tupD {H : Hp} {v : V} {k : List Int} (h : Dp K H v (tupD k)) : ∃ a, v = .ref a ∧ SqT K H a (k.map V.int) := by
  obtain ⟨a, xs, rfl, h1, h2⟩ := dp_tup h
  rw [dp_ints h2] at h1
  exact ⟨a, rfl, h1⟩
theorem tupD_dp {H : Hp} {a : Addr} {k : List Int} (h : SqT K H a (k.map V.int)) : Dp K H (.ref a) (tupD k) := .tup h (dp_ofInts k)
end
/-! ### sets -/
abbrev MZ := Rho → Option (List (List Int) × Rho)
def denZ (P : Program) (w : World) (K : PySem.W.Frag) (b : Bool) (m : MZ) : TE := fun σ H Q => ∃ ρ ks ρ' O, m ρ = some (ks, ρ') ∧ EnvR K O H σ ρ ∧
  ∀ a L H', a ∉ O → Post K O σ ρ H O σ ρ' H' → (b = true → ρ' = ρ ∧ Same H H') → H' a = some (SetTO P w a L) → (∀ p, p ∈ L → SqT K (hide O H') p.1 (p.2.map V.int)) → (L.map (·.2)).Nodup → (∀ k, k ∈ L.map (·.2) ↔ k ∈ ks) → Q (.ref a) H'
def SZ (b : Bool) (X : Cx) (e : Expr) (m : MZ) : Prop := PE X e (denZ X.prog X.w X.K b m)
section
variable {X : Cx} {P : Program} {w : World} {K : PySem.W.Frag} {b : Bool} {vs : List Nat} {e e1 e2 tg elt : Expr} {ifs : List Expr} {m : ME} {t : MT} {g : MG} {mi : MA} {mz m1 m2 : MZ} {pos : Pos}
def mSc (vs : List Nat) (mi : MA) (g : MG) (t : MT) (m : ME) : MZ := fun ρ => (mi ρ).bind fun p => if clean vs p.2 = true then (loopP g t m (wipeR p.2 vs) p.1).bind fun ys => (untups ys).bind fun ks => if ks.length < 63 then some (ks, p.2) else none else none
theorem den_sc {σ : L2.St} {H : Hp} {Q : VK} (q : denZ P w K b (mSc vs mi g t m) σ H Q) : tSc P w K (denI K b mi) (denG K vs g) (denT K true t) (den K true m) vs σ H Q := by
  obtain ⟨ρ, ks, ρ', O, e1, env, q⟩ := q
  unfold mSc at e1
  obtain ⟨⟨xs, ρ1⟩, ea, e1⟩ := Option.bind_eq_some_iff.mp e1
  split at e1
  · rename_i hc
    obtain ⟨all, eb, e1⟩ := Option.bind_eq_some_iff.mp e1
    obtain ⟨out, eu, e1⟩ := Option.bind_eq_some_iff.mp e1
    split at e1
    · rename_i hsz
      obtain ⟨rfl, rfl⟩ := Prod.mk.inj (Option.some.inj e1)
      clear e1
      refine ⟨ρ, xs, ρ1, O, ea, env, fun J H1 P1 u1 Y D nD => ?_⟩
      have M0 := Mid.start (o := SetTO P w D []) (vs := vs) P1.env nD
      refine ⟨fun i k H' => k = xs.length - i ∧ i ≤ xs.length ∧ ∃ (acc : List (List Int)) (ys : List PyData) (js : List (List Int)) (L : List (Addr × List Int)), Mid K O σ ρ1 H1 vs D (wipeR ρ1 vs) H' ∧ Same H1 H' ∧ loopP g t m (wipeR ρ1 vs) (xs.drop i) = some ys ∧ untups ys = some js ∧ acc ++ js = out ∧
        H' D = some (SetTO P w D L) ∧ (∀ p, p ∈ L → SqT K (hide (D :: O) H') p.1 (p.2.map V.int)) ∧ (L.map (·.2)).Nodup ∧ (∀ k, k ∈ L.map (·.2) ↔ k ∈ acc) ∧ L.length ≤ acc.length,
        ⟨xs.length, rfl, Nat.zero_le _, [], all, out, [], M0, same_new nD, eb, eu, rfl, upd_same, fun p hp => absurd hp List.not_mem_nil, List.Pairwise.nil, fun k => Iff.rfl, Nat.le_refl _⟩, ?_⟩
      rintro i k H2 ⟨rfl, hi, acc, ys, js, L, M2, S2, hl, hu, hout, hD2, hLs, hnd, hmem, hlen⟩
      obtain ⟨y1, y2⟩ := Y (D :: O) _ _ H2 M2.env (M2.hid P1.env nD)
      by_cases hlt : i < xs.length
      · have hd : xs[i]? = some xs[i] := List.getElem?_eq_getElem hlt
        rw [List.drop_eq_getElem_cons hlt] at hl
        obtain ⟨ρ3, ec, hl⟩ := Option.bind_eq_some_iff.mp hl
        obtain ⟨⟨c, ρ4⟩, ed, hl⟩ := Option.bind_eq_some_iff.mp hl
        obtain ⟨go, yy⟩ := y1 i _ hd
        refine .inr ⟨go, fun H' => i + 1 ≤ xs.length ∧ ∃ (acc : List (List Int)) (ys : List PyData) (js : List (List Int)) (L : List (Addr × List Int)), Mid K O σ ρ1 H1 vs D (wipeR ρ1 vs) H' ∧ Same H1 H' ∧ loopP g t m (wipeR ρ1 vs) (xs.drop (i + 1)) = some ys ∧ untups ys = some js ∧ acc ++ js = out ∧
          H' D = some (SetTO P w D L) ∧ (∀ p, p ∈ L → SqT K (hide (D :: O) H') p.1 (p.2.map V.int)) ∧ (L.map (·.2)).Nodup ∧ (∀ k, k ∈ L.map (·.2) ↔ k ∈ acc) ∧ L.length ≤ acc.length,
          fun H' ⟨a1, a2⟩ => ⟨xs.length - (i + 1), by omega, rfl, a1, a2⟩, fun x H3 hx => ?_⟩
        obtain ⟨s3, d3⟩ := yy x H3 hx
        have P3 := Post.same M2.env s3
        refine ⟨_, _, ρ3, D :: O, ec, P3.env, d3, fun σ4 P4 w4 => ⟨w4.trans wipe_wipe, ρ3, c, ρ4, D :: O, ed, P4.env, fun H5 P5 u5 => ?_⟩⟩
        obtain ⟨r5, s5⟩ := u5 rfl
        subst r5
        have fin : ∀ H6, Same H5 H6 → Mid K O σ ρ1 H1 vs D (wipeR ρ1 vs) H6 := fun H6 s6 => by
          have s := (s3.trans s5).trans s6
          exact ⟨M2.env.same s, fun a o w z => s a o (S2 a o z), M2.own, M2.no, M2.par⟩
        cases c with
        | false =>
          rw [if_neg Bool.false_ne_true] at hl
          exact iteF ⟨hlt, acc, ys, js, L, fin H5 (Same.refl _), S2.trans (s3.trans s5), hl, hu, hout, (s3.trans s5) _ _ hD2, fun p hp => sqT_mono (same_hide (s3.trans s5)) (hLs p hp), hnd, hmem, hlen⟩
        | true =>
          rw [if_pos rfl] at hl
          obtain ⟨⟨y, ρ5⟩, ee, hl⟩ := Option.bind_eq_some_iff.mp hl
          obtain ⟨ys', ef, hl⟩ := Option.bind_eq_some_iff.mp hl
          cases hl
          obtain ⟨kk, eg, hu⟩ := Option.bind_eq_some_iff.mp (show (untup y).bind _ = _ from hu)
          obtain ⟨js', eh, hu⟩ := Option.bind_eq_some_iff.mp hu
          cases hu
          have ey := untup_of eg
          subst ey
          refine iteT ⟨_, _, ρ5, D :: O, ee, P5.env, fun v H6 P6 u6 d6 => ?_⟩
          obtain ⟨r6, s6⟩ := u6 rfl
          have s26 := (s3.trans s5).trans s6
          obtain ⟨xa, rfl, hxa⟩ := dp_tupD d6
          have hsmall : acc.length < 62 := by
            have := congrArg List.length hout
            simp only [List.length_append, List.length_cons] at this
            omega
          refine ⟨xa, L, kk, rfl, s26 _ _ hD2, fun p hp => sqT_mono hide_sub (sqT_mono (same_hide s26) (hLs p hp)), sqT_mono hide_sub hxa, by omega, fun L' same more => ?_⟩
          have facts : (∀ p, p ∈ L' → p = (xa, kk) ∨ p ∈ L) ∧ (L'.map (·.2)).Nodup ∧ (∀ k, k ∈ L'.map (·.2) ↔ k ∈ acc ++ [kk]) ∧ L'.length ≤ acc.length + 1 := by
            by_cases hk : kk ∈ L.map (·.2)
            · have e := same hk
              subst e
              refine ⟨fun p hp => .inr hp, hnd, fun k => ?_, by omega⟩
              rw [hmem k, List.mem_append, List.mem_singleton]
              constructor
              · exact .inl
              · rintro (z | z)
                · exact z
                · subst z; exact (hmem _).mp hk
            · have pm := more hk
              have pm2 : (L'.map (·.2)).Perm (kk :: L.map (·.2)) := pm.map _
              refine ⟨fun p hp => ?_, pm2.nodup_iff.mpr (List.nodup_cons.mpr ⟨hk, hnd⟩), fun k => ?_, ?_⟩
              · rcases List.mem_cons.mp (pm.mem_iff.mp hp) with z | z
                · exact .inl z
                · exact .inr z
              · rw [pm2.mem_iff, List.mem_cons, hmem k, List.mem_append, List.mem_singleton]
                exact Or.comm
              · have := pm.length_eq
                rw [List.length_cons] at this
                omega
          refine ⟨hlt, acc ++ [kk], ys', js', L', (fin H6 s6).laid P1.env nD, fun a o z => ?_, ef, eh, ?_, upd_same, fun p hp => ?_, facts.2.1, facts.2.2.1, ?_⟩
          · rw [upd_ne (ne_of_none z nD)]
            exact s26 _ _ (S2 _ _ z)
          · rw [← hout, List.append_assoc]
            rfl
          · rw [hide_laid]
            rcases facts.1 p hp with z | z
            · subst z; exact hxa
            · exact sqT_mono (same_hide s26) (hLs p z)
          · rw [List.length_append]
            exact facts.2.2.2
      · have hie : i = xs.length := by omega
        subst hie
        rw [List.drop_length] at hl
        cases hl
        cases hu
        rw [List.append_nil] at hout
        subst hout
        obtain ⟨F1, F2⟩ := comp_end P1.env hc nD M2
        rw [back_wipe] at F1 F2
        refine .inl ⟨y2 _ rfl, q D L H2 (not_own P1.env nD) (P1.trans env F1) (fun hb => ⟨(u1 hb).1, (u1 hb).2.trans S2⟩) hD2 (fun p hp => sqT_mono (fun a o z => ?_) (hLs p hp)) hnd hmem⟩
        by_cases mO : a ∈ D :: O
        · rw [hide_in mO] at z; cases z
        · rw [hide_out mO] at z
          rw [hide_out (fun y => mO (List.mem_cons_of_mem _ y))]
          exact z
    · cases e1
  · cases e1
theorem z_sc {scope : Scope} {own : List (Str × Nat)} (hc : X.calm = true) (hu : X.A.units + 65 < cLine) (hN : X.N.Nodup) (hi : SI b X tg e mi) (ok : BlkOk X.N X.env.scope scope own)
    (hg : ∀ (s : Shared) (H : Hp) (C : Addr) (cl : List (Str × Addr)) (fp : List Addr), SG (X.blk s H scope (compEnvC scope cl C X.env) fp) vs tg g) (ht : ∀ (s : Shared) (H : Hp) (C : Addr) (cl : List (Str × Addr)) (fp : List Addr), STs true (X.blk s H scope (compEnvC scope cl C X.env) fp) ifs t)
    (he : ∀ (s : Shared) (H : Hp) (C : Addr) (cl : List (Str × Addr)) (fp : List Addr), SE true (X.blk s H scope (compEnvC scope cl C X.env) fp) elt m) (hs : ∀ x, foldedSetIterable e X.env x = pure x := by intro _; rfl)
    (hvs : List.map (fun p : Str × Nat => p.2) own = vs := by rfl) : SZ b X (.SetComp elt [⟨tg, e, ifs, 0⟩] scope pos) (mSc vs mi g t m) := by
  subst hvs
  exact PE.imp (pe_sc (g := denG X.K (List.map (fun x : Str × Nat => x.2) own) g) (tt := denT X.K true t) (te := den X.K true m) hc hu hN hi ok (fun s H C cl fp => hg s H C cl fp) (fun s H C cl fp => ht s H C cl fp) (fun s H C cl fp => he s H C cl fp) hs) fun _ _ _ q => den_sc q
/-! sorted(a set of pairs of small numbers) -/
def mSortZ (mz : MZ) : ME := fun ρ => (mz ρ).bind fun p => if (p.1.all okPair) = true then some (.list ((canon p.1).map tupD), p.2) else none
theorem s_sortedZ {p : Pos} (hc : X.calm = true) (hg : Gl X "sorted") (hm : X.mg "sorted" = none) (h : SZ b X e mz) (he : starEach [e] X.env = (false, eval e X.env) :: starEach [] X.env := by rfl) (hpl : (backTo pos (starEach [] X.env)).any (·.1) = false := by rfl) :
    SE b X (.Call (.Name "sorted" p) [e] [] pos) (mSortZ mz) := PE.imp (pe_callB (cr_sortedT hc) hg hm (by decide +kernel) (pa_cons h pa_nil he) (by decide) (by decide) he hpl) fun σ H Q q => by
  obtain ⟨ρ, d, ρ', O, e1, env, q⟩ := q
  unfold mSortZ at e1
  obtain ⟨⟨ks, ρ1⟩, ea, e1⟩ := Option.bind_eq_some_iff.mp e1
  split at e1
  · rename_i hall
    cases e1
    have hok : ∀ k, k ∈ ks → okPair k = true := List.all_eq_true.mp hall
    refine ⟨ρ, ks, ρ1, O, ea, env, fun a L H1 na P1 u1 hH hL nd mem => ?_⟩
    have hokL : ∀ q, q ∈ L → okPair q.2 = true := fun q hq => hok _ ((mem _).mp (List.mem_map_of_mem hq))
    refine ⟨a, L, 2, 64, rfl, hH, fun q hq => sqT_mono hide_sub (hL q hq), by decide, fun q hq => ?_, fun L' r pm nd' _ pw nr => ?_⟩
    · obtain ⟨x, y, e, h1, h2, h3, h4⟩ := okPair_of (hokL q hq)
      rw [e]
      refine ⟨rfl, ?_⟩
      intro z hz
      rcases List.mem_cons.mp hz with z1 | z1
      · subst z1; exact ⟨h1, h2⟩
      · rcases List.mem_cons.mp z1 with z2 | z2
        · subst z2; exact ⟨h3, h4⟩
        · cases z2
    · have hL' : ∀ q, q ∈ L' → okPair q.2 = true := fun q hq => hokL q (pm.mem_iff.mp hq)
      have e : L'.map (·.2) = canon ks := by
        refine rise_eq (rise_of (fun x hx => ?_) nd' (List.pairwise_map.mpr pw)) (canon_ok hok).2 fun j => ?_
        · obtain ⟨q, hq, rfl⟩ := List.mem_map.mp hx
          exact hL' q hq
        · rw [(pm.map (·.2)).mem_iff, mem j, (canon_ok hok).1 j]
      refine q _ _ (P1.more env (same_new nr)) (fun hb => ⟨(u1 hb).1, (u1 hb).2.trans (same_new nr)⟩) (new_lst P1.env.oa nr ?_)
      rw [← e, List.map_map]
      have all : ∀ L2 : List (Addr × List Int), (∀ q, q ∈ L2 → q ∈ L) → DpAll X.K (hide O H1) (L2.map fun q => V.ref q.1) (L2.map (tupD ∘ fun q => q.2)) := by
        intro L2
        induction L2 with
        | nil => exact fun _ => .nil
        | cons q L2 ih => exact fun hs => .cons (tupD_dp (hL q (hs q List.mem_cons_self))) (ih fun z hz => hs z (List.mem_cons_of_mem _ hz))
      exact all L' fun q hq => pm.mem_iff.mp hq
  · cases e1
end
end Fn

set_option Elab.async false
set_option linter.all false
set_option maxRecDepth 100000
/-! Fn16: enumerate of a tuple, of a text. -/
namespace Fn
open PySem PySem.Spec L2
open PyProof.Rows hiding St
open AutoSeq1 in
set_option maxHeartbeats 1100000 in
/-- enumerate's making, of a tuple -/
theorem made_enum_tup (t : Addr) (o : Obj) (items : Array Value) (n : Nat) (hc : o.cls = .type "tuple") (hd : o.data = .seq items n) :
    Meets (Builtin.«enumerate.__new__» ⟨[.type "enumerate", .ref t], []⟩) (fun _ R s => s.heap.get? t = some o ∧
      R (.ok (.ret (.ref (s.heap.push { cls := .type "tuple_iterator", data := .fields #[.ref t, .int 0 0] }).objs.size)))
        { s with heap := (s.heap.push { cls := .type "tuple_iterator", data := .fields #[.ref t, .int 0 0] }).push { cls := .type "enumerate", data := .fields #[.none, .bool false, .ref s.heap.objs.size, rawInt 0, .none, .none] } }) := by
  refine .of_wp fun prog w A R s ⟨hl, h⟩ => ?_
  rcases s with ⟨hp, g, d, tk, os⟩
  have known := sub_enumerate
  have stands : Heap.IsTuple (Shared.heap ⟨hp, g, d, tk, os⟩) t items := ⟨o, hl, hc, n, hd⟩
  (wp_walk using wpAny_loadPart' hl); refine wpAny_stack_any fun st => wpAny_pure ?_; split
  · rename_i c _ _ _ _ _
    cases (c == Value.type "enumerate") <;> (wp_walk using wpAny_loadPart' hl, wpAny_pyIter_tuple stands; exact ⟨_, rfl, h⟩)
  · wp_walk using wpAny_loadPart' hl, wpAny_pyIter_tuple stands
    exact ⟨_, rfl, h⟩
theorem call_enum_tup {prog : Program} {w : World} {A : Around} {E : Value → Shared → Prop} {s : Shared} {t : Addr} {items : Array Value} {Q : Value → Shared → Prop} (hT : IsTup s.heap t items)
    (h : ∀ h', IsEnum h' (s.heap.objs.size + 1) s.heap.objs.size 0 .none → h'.IsTupleIter s.heap.objs.size t 0 → h'.objs.size = s.heap.objs.size + 2 → (∀ b o, s.heap.get? b = some o → h'.get? b = some o) →
      Q (.ref (s.heap.objs.size + 1)) { s with heap := h' }) : wpAny (model prog w) A (call (.type "enumerate") [.ref t]) Q E s := by
  have ⟨o, ho, hc, n, hd⟩ := hT
  refine callType_new PySem.F.called_enumerate (by decide) (PySem.F.typeCall_enumerate_1 _) (PySem.F.newCall_enumerate_1 _) (fun obj => PySem.F.args_object_init_2 obj _) PySem.F.entry_enumerate_new (made_enum_tup t o items n hc hd) ⟨ho, ?_⟩
  generalize hm : s.heap.push { cls := .type "tuple_iterator", data := .fields #[.ref t, .int 0 0] } = mid
  have sz : mid.objs.size = s.heap.objs.size + 1 := by rw [← hm]; exact Heap.size_push ..
  have it0 : mid.get? s.heap.objs.size = some { cls := .type "tuple_iterator", data := .fields #[.ref t, .int 0 0] } := by rw [← hm]; exact Heap.get?_push_size _ rfl
  have en : IsEnum (mid.push { cls := .type "enumerate", data := .fields #[.none, .bool false, .ref s.heap.objs.size, rawInt 0, .none, .none] }) (s.heap.objs.size + 1) s.heap.objs.size 0 .none := by
    rw [← sz]
    apply Heap.get?_push_size
    rfl
  show _ ∧ _
  rw [sz]
  exact ⟨⟨_, en, rfl⟩, h _ en ⟨_, Heap.get?_push_of_some _ it0, rfl, rfl⟩ (by rw [Heap.size_push, sz]) fun b u z => Heap.get?_push_of_some _ (by rw [← hm]; exact Heap.get?_push_of_some _ z)⟩
/-! ### the turns -/
/-- pairs (i, x) with x the i-th of vs, each a new tuple -/
def Itp (vs : List V) : It :=
  ⟨fun i _ => i < vs.length, fun i H v H' => ∃ T x, v = .ref T ∧ H T = none ∧ H' = upd H T (.tup [.int (i : Nat), x]) ∧ vs[i]? = some x, fun i _ => vs.length = i⟩
section
variable {P : Program} {w : World} {K : PySem.W.Frag} {elts : List Expr} {kk : Nat} {tpos : Pos}
/-- one turn of an enumerate, whatever it draws from -/
theorem enum_turn {X : Cx} {pins : List (Addr × Obj)} {s : Shared} {σ : L2.St} {H : Hp} {E : Value → Shared → Prop} {e it : Addr} {fp : List Addr} {n i : Nat} {Pd : Nat → Value → Prop} {St : Nat → Heap → Prop} {old : Value} {vs : List V} {x : V}
    (I : Inv X pins σ H s) (D : Draws X.prog X.w X.A.in1 it fp n Pd St) (he : IsEnum s.heap e it ((i : Nat) : Int) old) (hst : St i s.heap) (hlt : i < n) (hne : e ≠ it) (hef : e ∉ fp) (hx : vs[i]? = some x) (hP : ∀ u, Pd i u → RelV x u)
    (hf : ∀ b, b ∈ [e, it] → FpOk X pins H b) {J : It} {tn : Nat → Heap → Prop} (hit : it < s.heap.objs.size)
    (hy : ∀ T H', H T = none → H' = upd H T (.tup [.int (i : Nat), x]) → J.yld i H (.ref T) H') (hnx : ∀ h' h'' u, IsEnum h'' e it ((i : Int) + 1) u → St (i + 1) h' → (∀ c, c ≠ e → h''.get? c = h'.get? c) → tn (i + 1) h'') :
    wpAny (model X.prog X.w) X.A (pyNext (.ref e)) (fun r s1 => ∃ u, r = some u ∧
      wpAny (model X.prog X.w) X.A (letOwnedTupleGo (.Tuple elts kk tpos) (.ref e) u) (fun _ s2 => ∃ x H', Inv X pins σ H' s2 ∧ RelV x u ∧ J.yld i H x H' ∧ tn (i + 1) s2.heap ∧ ∀ b, b ∈ [e, it] → H' b = none) E s1) E s := by
  have hel := Heap.lt_size he
  refine wpAny_pyNext_enum_itemD D he hst hlt hne hef fun u h' tk pu ho hst' hT hsz hk => ?_
  refine ⟨_, rfl, wpAny_letOwnedTupleGo_enum (s := { s with heap := h', toks := tk + 1 }) ho fun h'' he' sb => ?_⟩
  have hT2 : h''.get? s.heap.objs.size = some { cls := .type "tuple", data := .seq #[.int i tk, u] } := (sb.2 _ (Nat.ne_of_gt hel)).trans hT
  have new : ObjOk X.prog X.w (upd H s.heap.objs.size (.tup [.int ((i : Nat) : Int), x])) h'' s.heap.objs.size (.tup [.int ((i : Nat) : Int), x]) :=
    ⟨by show 2 ≤ sizeLine; decide, [.int i tk, u], .cons ⟨_, rfl⟩ (.cons (hP u pu) .nil), ⟨_, hT2, rfl, _, rfl⟩⟩
  have I1 : Inv X pins σ (upd H s.heap.objs.size (.tup [.int (i : Nat), x])) { s with heap := h'', toks := tk + 1 } := by
    refine I.turnedNew (ch := [e, it]) (fun b ob hb q => ?_) hf (Nat.le_refl _) new
    have b1 : b ≠ e := fun z => hb (by simp [z])
    have b2 : b ≠ it := fun z => hb (by simp [z])
    exact (sb.2 b b1).trans (hk b ob b1 b2 q)
  refine ⟨.ref s.heap.objs.size, _, I1, rfl, hy _ _ (I.hok.fresh (Nat.le_refl _)) rfl, hnx h' h'' u he' hst' fun c hc => sb.2 c hc, fun b hb => ?_⟩
  have lt : b < s.heap.objs.size := by
    rcases (List.mem_cons).1 hb with z | z
    · rw [z]; exact hel
    · rw [List.mem_singleton.mp z]; exact hit
  rw [upd_ne (Nat.ne_of_lt lt)]
  exact (hf b hb).1
def Itpt (K : PySem.W.Frag) (a : Addr) : It :=
  ⟨fun i H => ∃ (xs : List V) (x : V), SqT K H a xs ∧ xs[i]? = some x, fun i H v H' => ∃ T x, v = .ref T ∧ H T = none ∧ H' = upd H T (.tup [.int (i : Nat), x]) ∧ ∀ xs, SqT K H a xs → xs[i]? = some x, fun i H => ∃ xs : List V, SqT K H a xs ∧ xs.length = i⟩
theorem turn_enum_tup (a e it : Addr) : Turn P w K (.Tuple elts kk tpos) (Itpt K a) [e, it] e (fun i h => (∃ old, IsEnum h e it ((i : Nat) : Int) old) ∧ h.IsTupleIter it a i ∧ e ≠ it) where
  mem := List.mem_cons_self
  obj := fun i h st b hb => by
    have ⟨⟨was, here⟩, ⟨ob, at0, _, held⟩, _⟩ := st
    rcases List.mem_cons.mp hb with rfl | z
    · exact ⟨_, here, fun v no => nomatch no⟩
    · rw [(List.mem_singleton).1 z]
      refine ⟨ob, at0, fun v no => ?_⟩
      rw [held] at no
      cases no
  keep := fun i h h' st k => by
    obtain ⟨⟨old, he⟩, hi, hne⟩ := st
    exact ⟨⟨old, k e List.mem_cons_self _ he⟩, hi.at fun o q => k it (by simp) o q, hne⟩
  item := by
    rintro X rfl rfl rfl hc i pins s σ H E I hf ⟨⟨old, he⟩, hit, hne⟩ ⟨xs, x, hq, hx⟩
    have ⟨its, rv, p, _⟩ := I.tuple hq
    obtain ⟨u0, hu, ru⟩ := rv.get hx
    have hlt : i < its.toArray.size := by
      have := (List.getElem?_eq_some_iff.mp hu).1
      simpa using this
    have ea : e ≠ a := fun z => by
      obtain ⟨o, ho, hcc, _⟩ := p
      rw [← z] at ho
      rw [show s.heap.get? e = _ from he] at ho
      cases ho
      exact absurd (Value.type.inj hcc) (by decide)
    have ita : a ≠ it := fun z => by
      obtain ⟨o, ho, hcc, _⟩ := p
      obtain ⟨o', ho', hcc', _⟩ := hit
      rw [z, ho'] at ho
      cases ho
      rw [hcc'] at hcc
      exact absurd (Value.type.inj hcc) (by decide)
    refine enum_turn (vs := xs) (J := Itpt X.K a) (tn := fun i h => (∃ old, IsEnum h e it ((i : Nat) : Int) old) ∧ h.IsTupleIter it a i ∧ e ≠ it) I (Draws.tuple (A := X.A.in1) (show X.A.in1.handled = none from I.ok.hd hc) it a ita its.toArray) he ⟨hit, p⟩ hlt hne (fun z => ?_) hx (fun u pu => ?_) hf (by obtain ⟨o, ho, _⟩ := hit; exact Heap.lt_size ho) (fun T H' n1 n2 => ⟨T, x, rfl, n1, n2, fun ys hy => by rw [I.tuple_inj hy hq]; exact hx⟩) fun h' h'' u e1 st' same => ?_
    · rcases (List.mem_cons).1 z with z | z
      · exact hne z
      · exact ea (List.mem_singleton.mp z)
    · have : its[i]? = some u := by simpa using pu
      rw [hu] at this
      cases this
      exact ru
    · refine ⟨⟨u, ?_⟩, st'.1.at fun o q => (same it (Ne.symm hne)).trans q, hne⟩
      rw [show ((i + 1 : Nat) : Int) = (i : Int) + 1 by omega]
      exact e1
  done := by
    rintro X rfl rfl rfl hc i pins s σ H E I hf ⟨⟨old, he⟩, hit, hne⟩ ⟨xs, hq, hx⟩
    have ⟨its, rv, p, _⟩ := I.tuple hq
    have ita : a ≠ it := fun z => by
      obtain ⟨o, ho, hcc, _⟩ := p
      obtain ⟨o', ho', hcc', _⟩ := hit
      rw [z, ho'] at ho
      cases ho
      rw [hcc'] at hcc
      exact absurd (Value.type.inj hcc) (by decide)
    have ⟨f0, f1, _, f3, f4, f5⟩ := hf it (by simp)
    have hn : i = its.toArray.size := by
      rw [List.size_toArray, ← rv.length]
      exact hx.symm
    subst hn
    exact wpAny_pyNext_enum_endD (Draws.tuple (A := X.A.in1) (show X.A.in1.handled = none from I.ok.hd hc) it a ita its.toArray) he ⟨hit, p⟩ fun h' eb => ⟨rfl, I.turned (t' := s.toks) (fun b o hb q => eb b o hb q) f0 f1 f3 f4 f5⟩
  self := fun _ _ _ _ _ st h => wpAny_pyIter_enum st.1.choose_spec h
/-- over a text -/
theorem turn_enum_str (z : Str) (t : Tok) (e it : Addr) : Turn P w K (.Tuple elts kk tpos) (Itp (z.cps.toList.map fun c => V.str ⟨#[c]⟩)) [e, it] e (fun i h => (∃ old, IsEnum h e it ((i : Nat) : Int) old) ∧ h.IsStrIter it (strIterType z) z t i ∧ e ≠ it) where
  mem := List.mem_cons_self
  obj := fun i h st b hb => by
    have ⟨⟨was, here⟩, ⟨ob, at0, _, held⟩, _⟩ := st
    rcases List.mem_cons.mp hb with rfl | y
    · exact ⟨_, here, fun v no => nomatch no⟩
    · rw [List.mem_singleton.mp y]
      refine ⟨ob, at0, fun v no => ?_⟩
      rw [held] at no
      cases no
  keep := fun i h h' st k => by
    obtain ⟨⟨old, he⟩, ⟨o, ho, r⟩, hne⟩ := st
    exact ⟨⟨old, k e List.mem_cons_self _ he⟩, ⟨o, k it (by simp) o ho, r⟩, hne⟩
  item := by
    rintro X rfl rfl rfl hc i pins s σ H E I hf ⟨⟨old, he⟩, hit, hne⟩ hg
    have hg : i < (z.cps.toList.map fun c => V.str ⟨#[c]⟩).length := hg
    have hlt : i < z.cps.size := by simpa using hg
    have hx : (z.cps.toList.map fun c => V.str ⟨#[c]⟩)[i]? = some (V.str ⟨#[z.cps[i]]⟩) := by
      rw [List.getElem?_map, Array.getElem?_toList, Array.getElem?_eq_getElem hlt]
      rfl
    have hil : it < s.heap.objs.size := by
      obtain ⟨o, ho, _⟩ := hit
      exact Heap.lt_size ho
    refine enum_turn (vs := z.cps.toList.map fun c => V.str ⟨#[c]⟩) (J := Itp (z.cps.toList.map fun c => V.str ⟨#[c]⟩)) (tn := fun i h => (∃ old, IsEnum h e it ((i : Nat) : Int) old) ∧ h.IsStrIter it (strIterType z) z t i ∧ e ≠ it) I
      (Draws.text (A := X.A.in1) (show X.A.in1.handled = none from I.ok.hd hc) it z t) he hit hlt hne (fun y => hne (List.mem_singleton.mp y)) hx (fun u pu => ?_) hf hil (fun T H' n1 n2 => ⟨T, _, rfl, n1, n2, hx⟩) fun h' h'' u e1 st' same => ?_
    · obtain ⟨c, tk, g1, rfl⟩ := pu
      rw [Array.getElem?_eq_getElem hlt] at g1
      cases g1
      exact ⟨tk, rfl⟩
    · obtain ⟨o, ho, r⟩ := st'
      refine ⟨⟨u, ?_⟩, ⟨o, (same it (Ne.symm hne)).trans ho, r⟩, hne⟩
      rw [show ((i + 1 : Nat) : Int) = (i : Int) + 1 by omega]
      exact e1
  done := by
    rintro X rfl rfl rfl hc i pins s σ H E I hf ⟨⟨old, he⟩, hit, hne⟩ hg
    have ⟨f0, f1, _, f3, f4, f5⟩ := hf it (by simp)
    have hg : (z.cps.toList.map fun c => V.str ⟨#[c]⟩).length = i := hg
    have hn : i = z.cps.size := by simpa using hg.symm
    subst hn
    exact wpAny_pyNext_enum_endD (Draws.text (A := X.A.in1) (show X.A.in1.handled = none from I.ok.hd hc) it z t) he hit fun h' eb => ⟨rfl, I.turned (t' := s.toks) (fun b o hb q => eb b o hb q) f0 f1 f3 f4 f5⟩
  self := fun _ _ _ _ _ st h => wpAny_pyIter_enum st.1.choose_spec h
end
/-- a tuple or a text -/
def iEnumD (K : PySem.W.Frag) (ta : TA) : TI := fun σ H R => ta σ H fun vs H1 => (∃ a xs, vs = [.ref a] ∧ SqT K H1 a xs ∧ R (Itpt K a) H1) ∨ ∃ z, vs = [.str z] ∧ R (Itp (z.cps.toList.map fun c => V.str ⟨#[c]⟩)) H1
theorem pi_enumD {X : Cx} {e : Expr} {ta : TA} {p pos tpos : Pos} {elts : List Expr} {kk : Nat} (hg : Gl X "enumerate") (hm : X.mg "enumerate" = none) (ha : PA X [e] ta) (hs : starEach [e] X.env = [(false, eval e X.env)] := by rfl) :
    PI X (.Tuple elts kk tpos) (.Call (.Name "enumerate" p) [e] [] pos) (iEnumD X.K ta) := by
  constructor
  intro pins s σ H R I h
  refine Call_ (ld_blt I hg hm boot_enumerate (callWith_type1 (thn (ha.run pos pins s σ H _ I h) ?_) hs rfl))
  rintro us s1 ⟨vs, H1, I1, r1, q1⟩
  have fresh : ∀ b, b ∈ [s1.heap.objs.size + 1, s1.heap.objs.size] → FpOk X pins H1 b := fun b hb => by
    have le : s1.heap.objs.size ≤ b := by
      rcases (List.mem_cons).1 hb with z | z
      · omega
      · exact Nat.le_of_eq (List.mem_singleton.mp z).symm
    exact I1.fpOk le (I1.hok.fresh le)
  rcases q1 with ⟨a, xs, rfl, hq, q⟩ | ⟨z, rfl, q⟩
  · obtain ⟨u, rfl, ru⟩ := vals1 r1
    cases ru
    obtain ⟨its, rv, p', hz⟩ := I1.tuple hq
    refine call_enum_tup p' fun h' he hit hsz hk => wpAny_pyIter_enum he ?_
    exact ⟨s1.heap.objs.size + 1, [s1.heap.objs.size + 1, s1.heap.objs.size], _, _, H1, rfl, I1.kept (t' := s1.toks) hk, turn_enum_tup a (s1.heap.objs.size + 1) s1.heap.objs.size, ⟨⟨.none, he⟩, hit, Nat.succ_ne_self _⟩, fresh, q⟩
  · obtain ⟨u, rfl, t, rfl⟩ := vals1 r1
    refine call_enumerate_str fun h' he hit hsz hk => wpAny_pyIter_enum he ?_
    exact ⟨s1.heap.objs.size + 1, [s1.heap.objs.size + 1, s1.heap.objs.size], _, _, H1, rfl, I1.kept (t' := s1.toks) hk, turn_enum_str z t (s1.heap.objs.size + 1) s1.heap.objs.size, ⟨⟨.none, he⟩, hit, Nat.succ_ne_self _⟩, fresh, q⟩
/-! ### as a function -/
def pairsD : Nat → List PyData → List PyData
  | _, [] => []
  | n, d :: ds => .tuple [.int n, d] :: pairsD (n + 1) ds
def fEnum : List PyData → Option (List PyData)
  | [.tuple ds] => some (pairsD 0 ds)
  | [.str z] => some (pairsD 0 (signs z))
  | _ => none
theorem pairsD_get : ∀ {n : Nat} {ds : List PyData} {i : Nat} {d : PyData}, (pairsD n ds)[i]? = some d → ∃ x, ds[i]? = some x ∧ d = .tuple [.int ((n + i : Nat) : Int), x]
  | _, [], _, _, h => by simp [pairsD] at h
  | n, x :: ds, 0, d, h => by
    have h : some (PyData.tuple [.int n, x]) = some d := h
    cases h
    exact ⟨x, rfl, rfl⟩
  | n, x :: ds, i + 1, d, h => by
    obtain ⟨y, h1, h2⟩ := pairsD_get (n := n + 1) (i := i) (show (pairsD (n + 1) ds)[i]? = some d from h)
    exact ⟨y, h1, by rw [h2]; congr 3; omega⟩
theorem pairsD_len : ∀ (n : Nat) (ds : List PyData), (pairsD n ds).length = ds.length
  | _, [] => rfl
  | n, _ :: ds => by show (pairsD (n + 1) ds).length + 1 = _; rw [pairsD_len]; rfl
section
variable {X : Cx} {b : Bool} {e : Expr} {pos p tpos : Pos} {elts : List Expr} {kk : Nat} {ms : MA}
theorem si_enum (hg : Gl X "enumerate") (hm : X.mg "enumerate" = none) (h : SA b X [e] ms) (hs : starEach [e] X.env = [(false, eval e X.env)] := by rfl) : SI b X (.Tuple elts kk tpos) (.Call (.Name "enumerate" p) [e] [] pos) (mRng fEnum ms) :=
  PI.imp (pi_enumD hg hm h hs) fun σ H R q => by
    obtain ⟨ρ, ds, ρ', O, e1, env, q⟩ := q
    unfold mRng at e1
    obtain ⟨⟨as, ρ1⟩, ea, e1⟩ := Option.bind_eq_some_iff.mp e1
    obtain ⟨ds', eb, e1⟩ := Option.bind_eq_some_iff.mp e1
    obtain ⟨rfl, rfl⟩ := Prod.mk.inj (Option.some.inj e1)
    clear e1
    refine ⟨ρ, as, ρ1, O, ea, env, fun vs H1 P1 u1 d1 => ?_⟩
    have eb : fEnum as = some ds' := eb
    clear ea
    -- a new pair of a place and a datum
    have pair : ∀ {O2 : List Addr} {H2 : Hp} {T : Addr} {i : Nat} {x : V} {d : PyData}, (∀ a, a ∈ O2 → ∃ o, H2 a = some o) → H2 T = none → Dp X.K (hide O2 H2) x d → Same H2 (upd H2 T (.tup [.int (i : Nat), x])) ∧ Dp X.K (hide O2 (upd H2 T (.tup [.int (i : Nat), x]))) (.ref T) (.tuple [.int ((0 + i : Nat) : Int), d]) := by
      intro O2 H2 T i x d oa nT dx
      refine ⟨same_new nT, ?_⟩
      rw [Nat.zero_add]
      exact new_tup oa nT (.cons (.int _) (.cons dx .nil))
    unfold fEnum at eb
    split at eb
    · cases eb
      obtain ⟨v, rfl, h1⟩ := dpAll_one d1
      obtain ⟨a, xs, rfl, h2, h3⟩ := dp_tup h1
      refine .inl ⟨a, xs, rfl, sqT_mono hide_sub h2, q _ H1 P1 u1 fun O2 σ2 ρ2 H2 e2 hid => ⟨fun i d hd => ?_, fun i hl => ?_⟩⟩
      · obtain ⟨y, g1, rfl⟩ := pairsD_get hd
        obtain ⟨x, g2, g3⟩ := dpAll_get (dpAll_mono hid _ _ h3) g1
        have s2 := sqT_mono (hide_sub (O := O2)) (sqT_mono hid h2)
        refine ⟨⟨xs, x, s2, g2⟩, fun w H3 hw => ?_⟩
        obtain ⟨T, x', rfl, nT, rfl, hx'⟩ := hw
        have := hx' xs s2
        rw [g2] at this
        cases this
        exact pair e2.oa nT g3
      · rw [pairsD_len] at hl
        exact ⟨xs, sqT_mono hide_sub (sqT_mono hid h2), (dpAll_len h3).trans hl⟩
    · cases eb
      obtain ⟨v, rfl, h1⟩ := dpAll_one d1
      cases dp_str h1
      refine .inr ⟨_, rfl, q _ H1 P1 u1 fun O2 σ2 ρ2 H2 e2 hid => ⟨fun i d hd => ?_, fun i hl => ?_⟩⟩
      · obtain ⟨y, g1, rfl⟩ := pairsD_get hd
        unfold signs at g1
        rw [List.getElem?_map] at g1
        obtain ⟨c, g2, g3⟩ := Option.map_eq_some_iff.mp g1
        have hx := congrArg (Option.map fun c => V.str ⟨#[c]⟩) g2
        rw [← List.getElem?_map] at hx
        have hx : _ = some (V.str ⟨#[c]⟩) := hx
        refine ⟨(List.getElem?_eq_some_iff.mp hx).1, fun w H3 hw => ?_⟩
        obtain ⟨T, x', rfl, nT, rfl, hx'⟩ := hw
        rw [hx] at hx'
        cases hx'
        subst g3
        exact pair e2.oa nT (.str _)
      · rw [pairsD_len] at hl
        unfold signs at hl
        rw [List.length_map] at hl
        exact (List.length_map _).trans hl
    · cases eb
end
end Fn

set_option Elab.async false
set_option linter.all false
set_option maxRecDepth 100000
/-! Fn17: enumerate of a list; what the module's top holds, as a datum; a while's fuel; len of a set of tuples. -/
namespace Fn
open PySem PySem.Spec L2
open PyProof.Rows hiding St
def fEnumL : List PyData → Option (List PyData)
  | [.list ds] => some (pairsD 0 ds)
  | _ => none
/-- more turns than a course has -/
def fuelN : Nat := 16000000
/-- x of the module's top stands for the datum d -/
def GlobOk (K : PySem.W.Frag) (mg : Str → Option Value) (x : Str) (d : PyData) : Prop := ∃ v u, mg x = some u ∧ RelV v u ∧ Dp K (fun _ => none) v d
section
variable {X : Cx} {b : Bool} {e : Expr} {pos p tpos : Pos} {elts : List Expr} {kk : Nat} {ms : MA}
theorem s_glob {x : Str} {d : PyData} (hg : Gl X x) (h : GlobOk X.K X.mg x d) (hd : (x == ("__debug__" : Str)) = false := by decide) : SE b X (.Name x pos) (mC d) := by
  obtain ⟨v, u, hm, r, k⟩ := h
  exact se_c (pe_glob (v := v) hg hm r hd) fun H => dp_mono (fun a o z => by cases z) _ _ k
theorem si_enumL (hg : Gl X "enumerate") (hm : X.mg "enumerate" = none) (h : SA b X [e] ms) (hs : starEach [e] X.env = [(false, eval e X.env)] := by rfl) : SI b X (.Tuple elts kk tpos) (.Call (.Name "enumerate" p) [e] [] pos) (mRng fEnumL ms) :=
  PI.imp (pi_enum hg hm h hs) fun σ H R q => by
    obtain ⟨ρ, ds, ρ', O, e1, env, q⟩ := q
    unfold mRng at e1
    obtain ⟨⟨as, ρ1⟩, ea, e1⟩ := Option.bind_eq_some_iff.mp e1
    obtain ⟨ds', eb, e1⟩ := Option.bind_eq_some_iff.mp e1
    obtain ⟨rfl, rfl⟩ := Prod.mk.inj (Option.some.inj e1)
    clear e1
    refine ⟨ρ, as, ρ1, O, ea, env, fun vs H1 P1 u1 d1 => ?_⟩
    have eb : fEnumL as = some ds' := eb
    clear ea
    unfold fEnumL at eb
    split at eb
    · cases eb
      obtain ⟨v, rfl, h1⟩ := dpAll_one d1
      obtain ⟨a, xs, rfl, h2, h3⟩ := dp_lst h1
      refine ⟨a, xs, rfl, sqL_mono hide_sub h2, q _ H1 P1 u1 fun O2 σ2 ρ2 H2 e2 hid => ⟨fun i d hd => ?_, fun i hl => ?_⟩⟩
      · obtain ⟨y, g1, rfl⟩ := pairsD_get hd
        obtain ⟨x, g2, g3⟩ := dpAll_get (dpAll_mono hid _ _ h3) g1
        have s2 := sqL_mono (hide_sub (O := O2)) (sqL_mono hid h2)
        refine ⟨⟨xs, x, s2, g2⟩, fun w H3 hw => ?_⟩
        obtain ⟨T, x', rfl, nT, rfl, hx'⟩ := hw
        have := hx' xs s2
        rw [g2] at this
        cases this
        refine ⟨same_new nT, ?_⟩
        rw [Nat.zero_add]
        exact new_tup e2.oa nT (.cons (.int _) (.cons g3 .nil))
      · rw [pairsD_len] at hl
        exact ⟨xs, sqL_mono hide_sub (sqL_mono hid h2), by rw [dpAll_len h3]; exact Nat.le_of_eq hl⟩
    · cases eb
/-! ### len(a set of tuples of ints) -/
/-- each once -/
def once : List (List Int) → List (List Int)
  | [] => []
  | k :: ks => if k ∈ once ks then once ks else k :: once ks
theorem once_mem : ∀ (ks : List (List Int)) (j : List Int), j ∈ once ks ↔ j ∈ ks
  | [], _ => Iff.rfl
  | k :: ks, j => by
    unfold once
    have ih := once_mem ks j
    split
    · rename_i h
      rw [List.mem_cons, ih]
      refine ⟨.inr, fun z => z.elim (fun y => ?_) id⟩
      rw [y]
      exact (once_mem ks k).mp h
    · rw [List.mem_cons, List.mem_cons, ih]
theorem once_nodup : ∀ ks : List (List Int), (once ks).Nodup
  | [] => List.nodup_nil
  | k :: ks => by
    unfold once
    split
    · exact once_nodup ks
    · rename_i h
      exact List.nodup_cons.mpr ⟨h, once_nodup ks⟩
def rLenZ (X : Cx) : List V → Hp → VK → Prop := fun xs H Q => ∃ (a : Addr) (L : List (Addr × List Int)), xs = [.ref a] ∧ H a = some (SetTO X.prog X.w a L) ∧ (∀ p, p ∈ L → SqT X.K H p.1 (p.2.map V.int)) ∧ Q (.int ((L.length : Nat) : Int)) H
theorem call_len_setT : CallR X (.builtin "len") (rLenZ X) := by
  intro ps s σ H vs us Q I rel told
  obtain ⟨a, L, rfl, hH, hL, q⟩ := told
  obtain ⟨u, rfl, ru⟩ := vals1 rel
  obtain rfl : u = .ref a := ru
  have R0 : SetT0 X.prog X.w s.heap a L := (I.hok a _ hH).1
  obtain ⟨es, ep, t, R⟩ := R0.full fun p hp => I.isT (hL p hp)
  obtain ⟨o, at0, plain, held⟩ := R.ob
  have hn : es.size = L.length := by
    have := congrArg List.length R.rows
    unfold rowsOf at this
    rw [List.length_map] at this
    simpa using this
  have few := R.few
  refine call_len_set at0 plain held R.fits (by rw [hn]; omega) ⟨.int ((L.length : Nat) : Int), H, I.tok _, ⟨_, by rw [hn]⟩, q⟩
def mLenZ (mz : MZ) : ME := fun ρ => (mz ρ).bind fun p => some (.int ((once p.1).length : Nat), p.2)
theorem s_lenZ {mz : MZ} (hg : Gl X "len") (hm : X.mg "len" = none) (h : SZ b X e mz) (he : starEach [e] X.env = (false, eval e X.env) :: starEach [] X.env := by rfl) (hpl : (backTo pos (starEach [] X.env)).any (·.1) = false := by rfl) :
    SE b X (.Call (.Name "len" p) [e] [] pos) (mLenZ mz) := PE.imp (pe_callB call_len_setT hg hm PySem.boot_len (pa_cons h pa_nil he) (by decide) (by decide) he hpl) fun σ H Q q => by
  obtain ⟨ρ, d, ρ', O, e1, env, q⟩ := q
  unfold mLenZ at e1
  obtain ⟨⟨ks, ρ1⟩, ea, e1⟩ := Option.bind_eq_some_iff.mp e1
  cases e1
  refine ⟨ρ, ks, ρ1, O, ea, env, fun a L H1 na P1 u1 hH hL nd mem => ?_⟩
  refine ⟨a, L, rfl, hH, fun q hq => sqT_mono hide_sub (hL q hq), ?_⟩
  have pl : (L.map (·.2)).Perm (once ks) := (List.perm_ext_iff_of_nodup nd (once_nodup ks)).mpr fun j => (mem j).trans (once_mem ks j).symm
  have := pl.length_eq
  rw [List.length_map] at this
  rw [this]
  exact q _ H1 P1 u1 (.int _)
end
/-! ### a block within a block -/
def relab (scope sc0 : Scope) : Scope := { scope with names := scope.names.map fun p => if (p.2 == NameKind.free && sc0.kind == .function && sc0.names.lookup p.1 == some .cell) then (p.1, NameKind.cell) else p }
theorem blkOk_nest {N : List Str} {sc0 scope0 scope : Scope} {own : List (Str × Nat)} {env : Env} {cl : List (Str × Addr)} {C : Addr} (h0 : env.scope = sc0) (h : blkC N (relab scope0 sc0) scope own = true) : BlkOk N (compEnvC scope0 cl C env).scope scope own := by
  subst h0
  exact blkOk_by h
end Fn

set_option Elab.async false
set_option linter.all false
set_option maxRecDepth 100000
/-! Fn18: set(a list of tuples of ints); sorted of a list of pairs. -/
namespace Fn
open PySem PySem.Spec L2
open PyProof.Rows hiding St
/-- set(xs), each once -/
def rSetOfN (K : PySem.W.Frag) (P : Program) (w : World) : List V → Hp → VK → Prop := fun xs H Q => ∃ (l : Addr) (ks : List (Addr × List Int)), xs = [V.ref l] ∧ SqL K H l (ks.map fun p => V.ref p.1) ∧ (∀ p, p ∈ ks → SqT K H p.1 (p.2.map V.int)) ∧ ks.length < 64 ∧
  ∀ a L, H a = none → (∀ p, p ∈ L → p ∈ ks) → (∀ p, p ∈ ks → p.2 ∈ L.map (·.2)) → (L.map (·.2)).Nodup → Q (.ref a) (upd H a (SetTO P w a L))
theorem cr_setOfN {X : Cx} (hc : X.calm = true) (hu : X.A.units + 65 < cLine) : CallR X (.type "set") (rSetOfN X.K X.prog X.w) := by
  intro ps s σ H vs us Q I rel told
  obtain ⟨l, ks, rfl, hl, hk, few, q⟩ := told
  have ⟨its, rv, pl, _⟩ := I.list hl
  have new : H s.heap.objs.size = none := I.hok.fresh (Nat.le_refl _)
  have refs : its.toArray.toList = ks.map fun p => Value.ref p.1 := by simpa using refs_of_vals rv
  rw [Vals.ref1 rel]
  refine call_set_tups ks (I.ok.hd hc) pl.isList refs (fun p m => I.isT (hk p m)) few (by omega) fun heap tk L es ep t R got keeps => ?_
  have all := fun p (m : p ∈ ks) => got.all p (by rw [List.take_length]; exact m)
  exact ⟨.ref s.heap.objs.size, upd H s.heap.objs.size (SetTO X.prog X.w s.heap.objs.size L), I.laid (t' := tk) keeps (Nat.le_refl _) (setTO_new R.t0), rfl, q _ L new (fun p m => List.mem_of_mem_take (got.sub p m)) all R.nd⟩
theorem dpAll_tups {K : PySem.W.Frag} {H : Hp} : ∀ {ds : List PyData} {ks : List (List Int)} {vs : List V}, untups ds = some ks → DpAll K H vs ds → ∃ L : List (Addr × List Int), vs = L.map (fun p => V.ref p.1) ∧ ks = L.map (·.2) ∧ ∀ p, p ∈ L → SqT K H p.1 (p.2.map V.int)
  | [], _, _, e, .nil => by
    cases e
    exact ⟨[], rfl, rfl, fun p hp => by cases hp⟩
  | d :: ds, _, _, e, .cons h t => by
    unfold untups at e
    obtain ⟨k, e1, e⟩ := Option.bind_eq_some_iff.mp e
    obtain ⟨js, e2, e⟩ := Option.bind_eq_some_iff.mp e
    cases e
    rw [untup_of e1] at h
    obtain ⟨a, rfl, ha⟩ := dp_tupD h
    obtain ⟨L, rfl, rfl, hL⟩ := dpAll_tups e2 t
    refine ⟨(a, k) :: L, rfl, rfl, fun p hp => ?_⟩
    rcases List.mem_cons.mp hp with z | z
    · rw [z]; exact ha
    · exact hL p z
section
variable {X : Cx} {b : Bool} {e : Expr} {pos p : Pos} {m : ME}
def mSetOf (m : ME) : MZ := fun ρ => (m ρ).bind fun p => match p.1 with
  | .list ds => (untups ds).bind fun ks => if ks.length < 63 then some (ks, p.2) else none
  | _ => none
theorem z_setOf (hc : X.calm = true) (hu : X.A.units + 65 < cLine) (hg : Gl X "set") (hm : X.mg "set" = none) (h : SE b X e m) (he : starEach [e] X.env = (false, eval e X.env) :: starEach [] X.env := by rfl) (hpl : (backTo pos (starEach [] X.env)).any (·.1) = false := by rfl) :
    SZ b X (.Call (.Name "set" p) [e] [] pos) (mSetOf m) := PE.imp (pe_callTy (cr_setOfN hc hu) hg hm PyProof.Rows.boot_set (pa_cons h pa_nil he) (by decide) (by decide) he hpl) fun σ H Q q => by
  obtain ⟨ρ, ks, ρ', O, e1, env, q⟩ := q
  unfold mSetOf at e1
  obtain ⟨⟨d, ρ1⟩, ea, e1⟩ := Option.bind_eq_some_iff.mp e1
  cases d with
  | list ds =>
    obtain ⟨ks', eb, e1⟩ := Option.bind_eq_some_iff.mp (show (untups ds).bind _ = _ from e1)
    split at e1
    · rename_i few
      cases e1
      refine ⟨ρ, .list ds, ρ1, O, ea, env, fun v H1 P1 u1 d1 => ?_⟩
      obtain ⟨l, vs, rfl, h1, h2⟩ := dp_lst d1
      obtain ⟨L0, rfl, rfl, hL0⟩ := dpAll_tups eb h2
      rw [List.length_map] at few
      refine ⟨l, L0, rfl, sqL_mono hide_sub h1, fun p hp => sqT_mono hide_sub (hL0 p hp), by omega, fun a L hn sub all nd => ?_⟩
      have na : a ∉ O := fun z => by
        obtain ⟨o, ho⟩ := P1.env.oa a z
        rw [hn] at ho
        cases ho
      have sm : Same H1 (upd H1 a (SetTO X.prog X.w a L)) := same_new hn
      refine q a L _ na (P1.more env sm) (fun hb => ⟨(u1 hb).1, (u1 hb).2.trans sm⟩) upd_same (fun p hp => sqT_mono (same_hide sm) (hL0 p (sub p hp))) nd fun k => ⟨fun hk => ?_, fun hk => ?_⟩
      · obtain ⟨p, hp, rfl⟩ := List.mem_map.mp hk
        exact List.mem_map_of_mem (sub p hp)
      · obtain ⟨p, hp, rfl⟩ := List.mem_map.mp hk
        exact all p hp
    · cases e1
  | _ => cases e1
/-! sorted(a list of pairs of small numbers) -/
theorem perm_back {α β : Type} {f : α → β} {xs ys : List β} (h : ys.Perm xs) : ∀ {L : List α}, xs = L.map f → ∃ L' : List α, ys = L'.map f ∧ L'.Perm L := by
  induction h with
  | nil =>
    intro L e
    obtain rfl := List.map_eq_nil_iff.mp e.symm
    exact ⟨[], rfl, .nil⟩
  | cons x _ ih =>
    intro L e
    cases L with
    | nil => cases e
    | cons a L =>
      obtain ⟨h1, h2⟩ := List.cons.inj (show x :: _ = f a :: L.map f from e)
      obtain ⟨L', h3, pm⟩ := ih h2
      subst h1 h3
      exact ⟨a :: L', rfl, pm.cons a⟩
  | swap x y l =>
    intro L e
    match L, e with
    | a :: c :: L, e =>
      obtain ⟨h1, h2⟩ := List.cons.inj (show x :: y :: l = f a :: f c :: L.map f from e)
      obtain ⟨h3, h4⟩ := List.cons.inj h2
      subst h1 h3 h4
      exact ⟨c :: a :: L, rfl, .swap a c L⟩
  | trans _ _ ih1 ih2 =>
    intro L e
    obtain ⟨L1, rfl, p1⟩ := ih2 e
    obtain ⟨L2, rfl, p2⟩ := ih1 rfl
    exact ⟨L2, rfl, p2.trans p1⟩
/-- rising, each as often as it is there -/
def msort (ks : List (List Int)) : List (List Int) := ks.mergeSort fun a c => decide (cd a ≤ cd c)
theorem msort_of {ks js : List (List Int)} (hk : ∀ k, k ∈ ks → okPair k = true) (pm : js.Perm ks) (pw : js.Pairwise fun a c => cd a ≤ cd c) : js = msort ks := by
  have m := List.mergeSort_perm ks fun a c => decide (cd a ≤ cd c)
  refine List.Perm.eq_of_pairwise (le := fun a c => cd a ≤ cd c) (fun a c ha hc h1 h2 => cd_inj (hk a (pm.mem_iff.mp ha)) (hk c (m.mem_iff.mp hc)) (by omega)) pw ?_ (pm.trans m.symm)
  refine List.Pairwise.imp (fun h => of_decide_eq_true h) (List.pairwise_mergeSort (le := fun a c => decide (cd a ≤ cd c)) (fun a b c h1 h2 => ?_) (fun a b => ?_) ks)
  · exact decide_eq_true (Int.le_trans (of_decide_eq_true h1) (of_decide_eq_true h2))
  · rcases Int.le_total (cd a) (cd b) with z | z
    · rw [decide_eq_true z]; rfl
    · rw [decide_eq_true z, Bool.or_true]
def mSortL (m : ME) : ME := fun ρ => (m ρ).bind fun p => match p.1 with
  | .list ds => (untups ds).bind fun ks => if ks.length < 63 ∧ (ks.all okPair) = true then some (.list ((msort ks).map tupD), p.2) else none
  | _ => none
theorem s_sortedL (hg : Gl X "sorted") (hm : X.mg "sorted" = none) (h : SE b X e m) (he : starEach [e] X.env = (false, eval e X.env) :: starEach [] X.env := by rfl) (hpl : (backTo pos (starEach [] X.env)).any (·.1) = false := by rfl) :
    SE b X (.Call (.Name "sorted" p) [e] [] pos) (mSortL m) := PE.imp (pe_callB (cr_sortT (X := X) (d := 2) (B := 64) (by decide)) hg hm (by decide +kernel) (pa_cons h pa_nil he) (by decide) (by decide) he hpl) fun σ H Q q => by
  obtain ⟨ρ, d', ρ', O, e1, env, q⟩ := q
  unfold mSortL at e1
  obtain ⟨⟨d, ρ1⟩, ea, e1⟩ := Option.bind_eq_some_iff.mp e1
  cases d with
  | list ds =>
    obtain ⟨ks, eb, e1⟩ := Option.bind_eq_some_iff.mp (show (untups ds).bind _ = _ from e1)
    split at e1
    · rename_i hh
      obtain ⟨few, hall⟩ := hh
      cases e1
      have hok : ∀ k, k ∈ ks → okPair k = true := List.all_eq_true.mp hall
      refine ⟨ρ, .list ds, ρ1, O, ea, env, fun v H1 P1 u1 d1 => ?_⟩
      obtain ⟨l, vs, rfl, h1, h2⟩ := dp_lst d1
      obtain ⟨L0, rfl, rfl, hL0⟩ := dpAll_tups eb h2
      rw [List.length_map] at few
      have okL : ∀ q, q ∈ L0 → okPair q.2 = true := fun q hq => hok _ (List.mem_map_of_mem hq)
      have hT : ∀ q, q ∈ L0 → SqT X.K H1 q.1 (q.2.map V.int) := fun q hq => sqT_mono hide_sub (hL0 q hq)
      refine ⟨l, _, rfl, sqL_mono hide_sub h1, by rw [List.length_map]; omega, fun x hx => ?_, fun ys r pm pw nr => ?_⟩
      · obtain ⟨q, hq, rfl⟩ := List.mem_map.mp hx
        obtain ⟨x, y, e, h1, h2, h3, h4⟩ := okPair_of (okL q hq)
        refine ⟨q.2, ⟨q.1, rfl, hT q hq⟩, by rw [e]; rfl, ?_⟩
        rw [e]
        intro z hz
        rcases List.mem_cons.mp hz with z1 | z1
        · subst z1; exact ⟨h1, h2⟩
        · rcases List.mem_cons.mp z1 with z2 | z2
          · subst z2; exact ⟨h3, h4⟩
          · cases z2
      · obtain ⟨L', rfl, pL⟩ := perm_back pm rfl
        have inL : ∀ q, q ∈ L' → q ∈ L0 := fun q hq => pL.mem_iff.mp hq
        have pw : L'.Pairwise fun q r => cd q.2 ≤ cd r.2 := by
          refine List.Pairwise.imp_of_mem (fun {q r} hq hr h => ?_) (List.pairwise_map.mp pw)
          exact h q.2 r.2 ⟨q.1, rfl, hT q (inL q hq)⟩ ⟨r.1, rfl, hT r (inL r hr)⟩
        have e : L'.map (·.2) = msort (L0.map (·.2)) := msort_of hok (pL.map _) (List.pairwise_map.mpr pw)
        have sm : Same H1 (upd H1 r (.lst (L'.map fun q => V.ref q.1))) := same_new nr
        refine q _ _ (P1.more env sm) (fun hb => ⟨(u1 hb).1, (u1 hb).2.trans sm⟩) (new_lst P1.env.oa nr ?_)
        rw [← e, List.map_map]
        have all : ∀ L2 : List (Addr × List Int), (∀ q, q ∈ L2 → q ∈ L0) → DpAll X.K (hide O H1) (L2.map fun q => V.ref q.1) (L2.map (tupD ∘ fun q => q.2)) := by
          intro L2
          induction L2 with
          | nil => exact fun _ => .nil
          | cons q L2 ih => exact fun hs => .cons (tupD_dp (hL0 q (hs q List.mem_cons_self))) (ih fun z hz => hs z (List.mem_cons_of_mem _ hz))
        exact all L' inL
    · cases e1
  | _ => cases e1
/-! xs[e], xs an owned list, e with changes -/
theorem at_var {K : PySem.W.Frag} {O : List Addr} {H : Hp} {σ : L2.St} {ρ : Rho} {i : Nat} {ds : List PyData} (env : EnvR K O H σ ρ) (e1 : lVar i ρ = some ds) : ∃ a vs, σ[i]? = some (some (.ref a)) ∧ SqL K H a vs ∧ DpAll K (hide O H) vs ds := by
  unfold lVar at e1
  split at e1
  · rename_i h
    cases e1
    obtain ⟨v, e3, e4⟩ := env.sh i _ h
    obtain ⟨a, xs, rfl, h1, h2⟩ := dp_lst e4
    exact ⟨a, xs, e3, sqL_mono hide_sub h1, h2⟩
  · rename_i h
    cases e1
    obtain ⟨p, vs, h1, h2, h3, h4⟩ := env.ow i _ _ h (.inl rfl)
    exact ⟨p, vs, h1, .inl (.inl h3), h4⟩
  · rename_i h
    cases e1
    obtain ⟨p, vs, h1, h2, h3, h4⟩ := env.ow i _ _ h (.inr rfl)
    exact ⟨p, vs, h1, .inl (.inl h3), h4⟩
  · cases e1
def mIxV (i : Nat) (m : ME) : ME := fun ρ => (lVar i ρ).bind fun _ => (m ρ).bind fun p => match p.1 with
  | .int j => (lVar i p.2).bind fun ds => (atI ds j).bind fun d => some (d, p.2)
  | _ => none
theorem s_ixV (i : Nat) {x : Str} {px : Pos} (h : SE b X e m) (hN : X.N[i]? = some x := by rfl) (hv : Vis X.env.scope x := by first | exact Or.inl rfl | exact Or.inr (Or.inl rfl) | exact Or.inr (Or.inr rfl)) (hd : (x == ("__debug__" : Str)) = false := by decide)
    (hcd : (x == ("__classdict__" : Str)) = false := by decide) (hs : PlainIx e := by exact fun _ _ => rfl) : SE b X (.Subscript (.Name x px) e pos) (mIxV i m) := PE.imp (pe_ix ix_list (pe_var hN hv hd hcd) h hs) fun σ H Q q => by
  obtain ⟨ρ, d, ρ', O, e1, env, q⟩ := q
  unfold mIxV at e1
  obtain ⟨ds0, ea, e1⟩ := Option.bind_eq_some_iff.mp e1
  obtain ⟨⟨c, ρ1⟩, eb, e1⟩ := Option.bind_eq_some_iff.mp e1
  cases c with
  | int j =>
    obtain ⟨ds, ec, e1⟩ := Option.bind_eq_some_iff.mp (show (lVar i ρ1).bind _ = _ from e1)
    obtain ⟨d', ed, e1⟩ := Option.bind_eq_some_iff.mp e1
    cases e1
    obtain ⟨a, _, h1, _, _⟩ := at_var env ea
    refine ⟨_, h1, ρ, _, ρ1, O, eb, env, fun v H2 P2 u2 d2 => ?_⟩
    obtain ⟨a', vs, h2, h3, h4⟩ := at_var P2.env ec
    rw [h1] at h2
    cases h2
    obtain ⟨x, h5, h6⟩ := atI_dp h4 ed
    exact ⟨a, vs, j, x, rfl, dp_int d2, h3, h5, q x H2 P2 u2 h6⟩
  | _ => cases e1
end
end Fn

set_option Elab.async false
set_option linter.all false
set_option maxRecDepth 100000
/-! Fn19: isinstance of one of two types. -/
namespace Fn
open PySem PySem.Spec L2
open PyProof.Rows hiding St
section
variable {X : Cx} {b : Bool} {e : Expr} {pos p : Pos} {m : ME}
def mIsi2 (t t' : String) (m : ME) : ME := fun ρ => (m ρ).bind fun p => some (.bool (isK t p.1 || isK t' p.1), p.2)
theorem s_isi2 {t t' : String} {x x' : Str} {px px' pt : Pos} {kk : Nat} (ht : t = "int" ∨ t = "bool" ∨ t = "tuple" ∨ t = "list" ∨ t = "str") (ht' : t' = "int" ∨ t' = "bool" ∨ t' = "tuple" ∨ t' = "list" ∨ t' = "str") (hg : Gl X "isinstance") (hm : X.mg "isinstance" = none)
    (hgx : Gl X x) (hmx : X.mg x = none) (hv : bootBuiltins x = some (.type t)) (hgx' : Gl X x') (hmx' : X.mg x' = none) (hv' : bootBuiltins x' = some (.type t')) (ha : SE b X e m)
    (hn : x ≠ "__name__" := by decide) (hd : (x == ("__debug__" : Str)) = false := by decide) (hn' : x' ≠ "__name__" := by decide) (hd' : (x' == ("__debug__" : Str)) = false := by decide)
    (he0 : starEach [e, .Tuple [.Name x px, .Name x' px'] kk pt] X.env = (false, eval e X.env) :: starEach [.Tuple [.Name x px, .Name x' px'] kk pt] X.env := by rfl)
    (he1 : starEach [Expr.Tuple [.Name x px, .Name x' px'] kk pt] X.env = (false, eval (.Tuple [.Name x px, .Name x' px'] kk pt) X.env) :: starEach [] X.env := by rfl)
    (he2 : starEach [Expr.Name x px, .Name x' px'] X.env = (false, eval (.Name x px) X.env) :: starEach [Expr.Name x' px'] X.env := by rfl)
    (he3 : starEach [Expr.Name x' px'] X.env = (false, eval (.Name x' px') X.env) :: starEach [] X.env := by rfl) (hpl : (backTo pos (starEach [Expr.Tuple [.Name x px, .Name x' px'] kk pt] X.env)).any (·.1) = false := by rfl) :
    SE b X (.Call (.Name "isinstance" p) [e, .Tuple [.Name x px, .Name x' px'] kk pt] [] pos) (mIsi2 t t' m) :=
  PE.imp (pe_callB call_isiT hg hm (by decide +kernel) (pa_cons ha (pa_cons (pe_tup (pa_cons (pe_bltn (v := .ty t) hgx hmx hv rfl hn hd) (pa_cons (pe_bltn (v := .ty t') hgx' hmx' hv' rfl hn' hd') pa_nil he3) he2)) pa_nil he1) he0) (by decide) (by decide) he0 hpl) fun σ H Q q => by
    obtain ⟨ρ, d, ρ', O, e1, env, q⟩ := q
    unfold mIsi2 at e1
    obtain ⟨⟨a, ρ1⟩, ea, e1⟩ := Option.bind_eq_some_iff.mp e1
    cases e1
    refine ⟨ρ, a, ρ1, O, ea, env, fun v H1 P1 u1 d1 => ?_⟩
    refine ⟨by show 2 ≤ sizeLine; decide, fun T nT => ?_⟩
    have sm : Same H1 (upd H1 T (.tup [.ty t, .ty t'])) := same_new nT
    refine ⟨v, T, [.ty t, .ty t'], .type (tyOf a), [.type t, .type t'], isK t a || isK t' a, rfl, upd_same, .cons (.ty t) (.cons (.ty t') .nil), ty_of (dp_mono sm _ _ (dp_mono hide_sub _ _ d1)), ?_, q _ _ (P1.more env sm) (fun hb => ⟨(u1 hb).1, (u1 hb).2.trans sm⟩) (.bl _)⟩
    refine kitAny_cons (isK_kit t ht a) (fun h => ?_) fun h => by rw [h]; rfl
    refine kitAny_cons (isK_kit t' ht' a) (fun h' => ?_) fun h' => by rw [h', Bool.or_true]
    rw [h, h']
    exact kitAny_nil
end
end Fn

set_option Elab.async false
set_option linter.all false
set_option maxRecDepth 100000
/-! Xr1: tables of sets with dummies, of 8 to 128 slots: the way of a search, a clean laying. -/
namespace Xr
open PySem PySem.Spec L2
open PyProof.Rows

/-- masks of the tables that come to be -/
def MaskX (m : Nat) : Prop := m ∈ [7, 15, 31, 63, 127]
def roundOk (m : Nat) : Bool := ((List.range (m + 1)).all fun j => (List.range (m + 1)).any fun b => lcgN m b == j) && lcgN m (m + 1) == 0
theorem roundOk_of {m : Nat} (hm : MaskX m) : roundOk m = true := by
  have all : ([7, 15, 31, 63, 127] : List Nat).all roundOk = true := by decide +kernel
  exact List.all_eq_true.mp all m hm
theorem hit {m j : Nat} (hm : MaskX m) (hj : j ≤ m) : ∃ b, b ≤ m ∧ lcgN m b = j := by
  have q := roundOk_of hm
  unfold roundOk at q
  rw [Bool.and_eq_true] at q
  obtain ⟨b, hb, e⟩ := List.any_eq_true.mp (List.all_eq_true.mp q.1 j (List.mem_range.mpr (by omega)))
  exact ⟨b, by have := List.mem_range.mp hb; omega, beq_iff_eq.mp e⟩
theorem again {m : Nat} (hm : MaskX m) (k : Nat) : lcgN m (m + 1 + k) = lcgN m k := by
  have q := roundOk_of hm
  unfold roundOk at q
  rw [Bool.and_eq_true, beq_iff_eq] at q
  induction k with
  | zero => exact q.2
  | succ k ih =>
    rw [show m + 1 + (k + 1) = (m + 1 + k) + 1 from rfl, lcgN, lcgN, ih]
theorem hitFrom {m i j : Nat} (hm : MaskX m) (hi : i ≤ m) (hj : j ≤ m) : ∃ k, k ≤ m ∧ lcgI m i k = j := by
  obtain ⟨a, la, rfl⟩ := hit hm hi
  obtain ⟨b, lb, rfl⟩ := hit hm hj
  by_cases c : a ≤ b
  · refine ⟨b - a, by omega, ?_⟩
    rw [lcgN_add, Nat.add_sub_cancel' c]
  · refine ⟨m + 1 + b - a, by omega, ?_⟩
    rw [lcgN_add, Nat.add_sub_cancel' (by omega), again hm]
theorem runHits {m j : Nat} (hm : MaskX m) (h : Int) (hj : j ≤ m) : ∃ n, n ≤ m + 12 ∧ runI m (SetTable.bits h) n = j := by
  obtain ⟨k, lk, e⟩ := hitFrom hm (runI_le m (SetTable.bits h) 12) hj
  refine ⟨12 + k, by omega, ?_⟩
  rw [runI_tail (bits_lt h), e]
theorem wayHits {m j : Nat} (hm : MaskX m) (h : Int) (hj : j ≤ m) : ∃ k, k < 10 * SetTable.turns m ∧ way m h k = j := by
  obtain ⟨n, ln, e⟩ := runHits hm h hj
  obtain ⟨k, lk, e2⟩ := run_nth m (SetTable.bits h) n
  refine ⟨k, ?_, ?_⟩
  · unfold SetTable.turns
    omega
  · show (nth m _ k).j = j
    rw [e2]
    exact e
theorem wayLe {m : Nat} (h : Int) (k : Nat) : way m h k ≤ m := by
  have hi : SetTable.bits h % (m + 1) ≤ m := Nat.le_of_lt_succ (Nat.mod_lt _ (Nat.succ_pos m))
  have r := (runEnd_bd hi).1
  have r2 := (runEnd_bd hi).2.1
  have q := nth_in (m := m) k (runAt m (SetTable.bits h % (m + 1)) (SetTable.bits h)) (by unfold runAt; dsimp only; omega)
  show (nth m _ k).j ≤ m
  omega

/-! ### a clean laying -/
/-- the first free slot of the way is found -/
theorem freeHits {m j : Nat} (hm : MaskX m) (owner : Array (Option Nat)) (h : Int) (hj : j ≤ m) (hf : oAt owner j = none) :
    ∃ K, SetTable.layClean.free m owner (SetTable.turns m) (SetTable.bits h % (m + 1)) (SetTable.bits h) = some (way m h K) ∧ oAt owner (way m h K) = none ∧ ∀ k, k < K → oAt owner (way m h k) ≠ none := by
  obtain ⟨n, ln, e⟩ := runHits hm h hj
  have at_ : way m h (off m (SetTable.bits h % (m + 1)) (SetTable.bits h) n) = j := by
    show (nth m (runAt m _ _) _).j = j
    rw [nth_off, itL_run]
    exact e
  obtain ⟨K, k1, k2, k3⟩ := st_least (p := fun k => oAt owner (way m h k) = none) _ (show oAt owner (way m h (off m (SetTable.bits h % (m + 1)) (SetTable.bits h) n)) = none by rw [at_]; exact hf)
  refine ⟨K, free_spec m owner (SetTable.turns m) n _ _ K (by unfold SetTable.turns; omega) k1 (fun k hk => ?_) (by show (oAt owner (way m h K)).isNone = true; rw [k2]; rfl), k2, k3⟩
  show (oAt owner (way m h k)).isNone = false
  have := k3 k hk
  cases z : oAt owner (way m h k) with
  | none => exact absurd z this
  | some _ => rfl
/-- who owns which slot, those of `done` in turn -/
structure Laid (m : Nat) (done : List Int) (owner : Array (Option Nat)) : Prop where
  sz : owner.size = m + 1
  says : ∀ j k, j ≤ m → oAt owner j = some k → ∃ h K, done[k]? = some h ∧ way m h K = j ∧ ∀ k', k' < K → oAt owner (way m h k') ≠ none
  sits : ∀ k, k < done.length → ∃ j, j ≤ m ∧ oAt owner j = some k
  few : ∃ ps : List Nat, ps.length = done.length ∧ ∀ j, j ≤ m → oAt owner j ≠ none → j ∈ ps
theorem laid0 (m : Nat) : Laid m [] (Array.replicate (m + 1) none) :=
  ⟨by simp, fun j k hj e => (by rw [oAt_init hj] at e; cases e), fun k hk => (by cases hk), [], rfl, fun j hj e => absurd (oAt_init hj) e⟩
theorem Laid.next {m : Nat} (hm : MaskX m) {done : List Int} {owner : Array (Option Nat)} (W : Laid m done owner) (hl : done.length ≤ m) (h : Int) :
    ∃ j, SetTable.layClean.free m owner (SetTable.turns m) (SetTable.bits h % (m + 1)) (SetTable.bits h) = some j ∧ Laid m (done ++ [h]) (owner.setIfInBounds j (some done.length)) := by
  obtain ⟨ps, lps, inps⟩ := W.few
  obtain ⟨j0, l0, n0⟩ := st_missing ps (m + 1) (by omega)
  have free0 : oAt owner j0 = none := by
    cases z : oAt owner j0 with
    | none => rfl
    | some k => exact absurd (inps j0 (by omega) (by rw [z]; simp)) n0
  obtain ⟨K, e1, e2, e3⟩ := freeHits hm owner h (by omega : j0 ≤ m) free0
  have lj := wayLe (m := m) h K
  have self := oAt_set_self (owner := owner) (some done.length) (show way m h K < owner.size by rw [W.sz]; omega)
  generalize hj : way m h K = j at e1 e2 lj self
  have stay : ∀ {i : Nat}, oAt owner i ≠ none → oAt (owner.setIfInBounds j (some done.length)) i ≠ none := fun {i} hi => by
    by_cases c : i = j
    · rw [c, self]; simp
    · rw [oAt_set_ne _ c]; exact hi
  refine ⟨j, e1, by rw [Array.size_setIfInBounds]; exact W.sz, fun i k hi e => ?_, fun k hk => ?_, j :: ps, by simp [lps], fun i hi e => ?_⟩
  · by_cases c : i = j
    · subst c
      rw [self] at e
      cases e
      exact ⟨h, K, by simp, hj, fun k' lk => stay (e3 k' lk)⟩
    · rw [oAt_set_ne _ c] at e
      obtain ⟨h', K', a1, a2, a3⟩ := W.says i k hi e
      refine ⟨h', K', ?_, a2, fun k' lk => stay (a3 k' lk)⟩
      rw [List.getElem?_append_left (List.getElem?_eq_some_iff.mp a1).1, a1]
  · by_cases c : k = done.length
    · subst c
      exact ⟨j, lj, self⟩
    · obtain ⟨i, li, e⟩ := W.sits k (by simp at hk; omega)
      refine ⟨i, li, ?_⟩
      rw [oAt_set_ne _ (fun z => by rw [z, e2] at e; cases e), e]
  · by_cases c : i = j
    · rw [c]; exact List.mem_cons_self
    · rw [oAt_set_ne _ c] at e
      exact List.mem_cons_of_mem _ (inps i hi e)
theorem laidAll {m : Nat} (hm : MaskX m) : ∀ (rest done : List Int) (owner : Array (Option Nat)), Laid m done owner → done.length + rest.length ≤ m →
    ∃ owner', rest.foldl (stepF m) (some (owner, done.length)) = some (owner', (done ++ rest).length) ∧ Laid m (done ++ rest) owner'
  | [], done, owner, W, _ => ⟨owner, by simp, by simpa using W⟩
  | h :: rest, done, owner, W, hl => by
    obtain ⟨j, e, W1⟩ := W.next hm (by simp at hl; omega) h
    obtain ⟨o2, e2, W2⟩ := laidAll hm rest (done ++ [h]) _ W1 (by simp at hl ⊢; omega)
    rw [List.append_assoc] at e2 W2
    refine ⟨o2, ?_, W2⟩
    rw [List.foldl_cons, stepF_some e]
    rw [List.length_append] at e2
    exact e2
theorem cleanHits {m : Nat} (hm : MaskX m) {hs : Array Int} (hn : hs.size ≤ m) : ∃ owner, SetTable.layClean m hs = some owner ∧ Laid m hs.toList owner := by
  obtain ⟨o, e, W⟩ := laidAll hm hs.toList [] _ (laid0 m) (by simpa using hn)
  refine ⟨o, ?_, by simpa using W⟩
  rw [layClean_eq]
  exact congrArg (Option.map (·.1)) e
end Xr

set_option Elab.async false
set_option linter.all false
set_option maxRecDepth 100000
/-! Xr2: what a table with dummies keeps: searches, an entry more, one less, laid anew. -/
namespace Xr
open PySem PySem.Spec L2
open PyProof.Rows

theorem below_at {xs : Array Nat} (r : Ris xs.toList) {i j : Nat} (h : xs.toList[i]? = some j) : SetTable.below xs j = i := by
  have e := slot_live (t := { mask := 0, place := xs, dummies := #[], finger := 0, led := true, moves := 0, plain := true }) r h
  unfold SetTable.slot at e
  dsimp only at e
  split at e
  · injection e
  · split at e <;> cases e
theorem has_iff {xs : Array Nat} (r : Ris xs.toList) (j : Nat) : SetTable.has xs j = true ↔ j ∈ xs.toList := by
  unfold SetTable.has
  rw [beq_iff_eq]
  constructor
  · intro h
    exact List.mem_of_getElem? (by rw [Array.getElem?_toList]; exact h)
  · intro h
    obtain ⟨i, hi⟩ := List.mem_iff_getElem?.mp h
    rw [below_at r hi, ← Array.getElem?_toList]
    exact hi
theorem at_below {xs : Array Nat} (r : Ris xs.toList) {j : Nat} (h : j ∉ xs.toList) : xs[SetTable.below xs j]? ≠ some j := fun e => h (List.mem_of_getElem? (by rw [Array.getElem?_toList]; exact e))
theorem erase_list {α : Type} (xs : Array α) (p : Nat) : (SetTable.eraseAt xs p).toList = xs.toList.eraseIdx p := by
  unfold SetTable.eraseAt
  rw [Array.toList_append, Array.toList_extract, Array.toList_extract, List.eraseIdx_eq_take_drop_succ]
  simp
  rw [List.take_of_length_le]
  rw [List.length_drop, Array.length_toList]
  omega
theorem ris_nodup {l : List Nat} (r : Ris l) : l.Nodup := List.Pairwise.imp (fun h => Nat.ne_of_lt h) r
theorem ris_eraseIdx {l : List Nat} (r : Ris l) (p : Nat) : Ris (l.eraseIdx p) := List.Pairwise.sublist (List.eraseIdx_sublist _ _) r
theorem mem_eraseIdx {l : List Nat} (n : l.Nodup) {i j x : Nat} (h : l[i]? = some j) : x ∈ l.eraseIdx i ↔ x ∈ l ∧ x ≠ j := by
  obtain ⟨hi, e⟩ := List.getElem?_eq_some_iff.mp h
  rw [List.mem_eraseIdx_iff_getElem]
  constructor
  · rintro ⟨k, hk, hne, rfl⟩
    refine ⟨List.getElem_mem _, fun z => hne ?_⟩
    rw [← e] at z
    exact (List.getElem_inj n).mp z
  · rintro ⟨hm, hne⟩
    obtain ⟨k, hk, rfl⟩ := List.getElem_of_mem hm
    exact ⟨k, hk, fun z => hne (by subst z; exact e), rfl⟩

/-- the slot was used once -/
def Occ (t : SetTable) (j : Nat) : Prop := j ∈ t.place.toList ∨ j ∈ t.dummies.toList
structure TabX (t : SetTable) (hs : List Int) : Prop where
  ris : Ris t.place.toList
  rid : Ris t.dummies.toList
  dj : ∀ j, j ∈ t.dummies.toList → j ∉ t.place.toList
  sz : t.place.size = hs.length
  mok : MaskX t.mask
  reach : ∀ (i : Nat) (h : Int) (j : Nat), hs[i]? = some h → t.place.toList[i]? = some j → ∃ k, way t.mask h k = j ∧ ∀ k', k' < k → Occ t (way t.mask h k')
theorem maskX_of {m : Nat} (h : MaskOk m) : MaskX m := by
  unfold MaskX
  rcases h with rfl | rfl | rfl <;> simp
theorem TabX.of {t : SetTable} {hs : List Int} (T : L2.TabOk t hs) : TabX t hs where
  ris := T.ris
  rid := by rw [T.dm]; exact List.Pairwise.nil
  dj := fun j hj => by rw [T.dm] at hj; cases hj
  sz := T.sz
  mok := maskX_of T.mok
  reach := fun i h j h1 h2 => by
    obtain ⟨k, e, z⟩ := T.reach i h j h1 h2
    exact ⟨k, e, fun k' hk => .inl (z k' hk)⟩
theorem maskX_odd {m : Nat} (h : MaskX m) : m % 2 = 1 ∧ m ≤ 127 ∧ 7 ≤ m := by
  unfold MaskX at h
  simp only [List.mem_cons, List.not_mem_nil, or_false] at h
  omega
theorem slot_dummy {t : SetTable} (rd : Ris t.dummies.toList) {j : Nat} (h1 : j ∉ t.place.toList) (h2 : j ∈ t.dummies.toList) : t.slot j = .dummy := by
  unfold SetTable.slot
  have e : (t.place[SetTable.below t.place j]? == some j) = false := beq_eq_false_iff_ne.mpr fun z => h1 (List.mem_of_getElem? (by rw [Array.getElem?_toList]; exact z))
  simp only [e, (has_iff rd j).mpr h2, if_true, Bool.false_eq_true, if_false]
theorem slot_free {t : SetTable} (rd : Ris t.dummies.toList) {j : Nat} (h : ¬ Occ t j) : t.slot j = .empty := by
  unfold SetTable.slot
  have e : (t.place[SetTable.below t.place j]? == some j) = false := beq_eq_false_iff_ne.mpr fun z => h (.inl (List.mem_of_getElem? (by rw [Array.getElem?_toList]; exact z)))
  have e2 : SetTable.has t.dummies j = false := by
    cases z : SetTable.has t.dummies j with
    | false => rfl
    | true => exact absurd (.inr ((has_iff rd j).mp z)) h
  simp only [e, e2, Bool.false_eq_true, if_false]
/-! the way does not mind what it has noted -/
def noted (p : SetTable.Probe) (d : Option Nat) : SetTable.Probe := { p with dummy := d }
theorem adv_noted (m : Nat) (p : SetTable.Probe) (d : Option Nat) : adv m (noted p d) = noted (adv m p) d := by
  unfold adv noted
  dsimp only
  split <;> rfl
theorem nth_noted (m : Nat) (d : Option Nat) : ∀ (k : Nat) (p : SetTable.Probe), nth m (noted p d) k = noted (nth m p k) d
  | 0, _ => rfl
  | k + 1, p => by
    show nth m (adv m (noted p d)) k = noted (nth m (adv m p) k) d
    rw [adv_noted, nth_noted m d k]
theorem noted_j (p : SetTable.Probe) (d : Option Nat) : (noted p d).j = p.j := rfl
theorem noted_twice (p : SetTable.Probe) (d e : Option Nat) : noted (noted p d) e = noted p e := rfl
/-- what a probe answers -/
def Ans (t : SetTable) (hashAt : Nat → Int) (h : Int) (f K : Nat) (p : SetTable.Probe) : Prop :=
    (∃ k i d, k < K ∧ t.place.toList[i]? = some (nth t.mask p k).j ∧ hashAt i = h ∧ (∀ k' i', k' < k → t.place.toList[i']? = some (nth t.mask p k').j → hashAt i' ≠ h) ∧
      (d = p.dummy ∨ ∃ k', k' < k ∧ d = some (nth t.mask p k').j ∧ (nth t.mask p k').j ∈ t.dummies.toList) ∧
      SetTable.probe.go t hashAt h f p = some (.candidate (nth t.mask p k).j i (noted (nth t.mask p (k + 1)) d))) ∨
    ((∀ k' i', k' < K → t.place.toList[i']? = some (nth t.mask p k').j → hashAt i' ≠ h) ∧ ∃ d, (d = p.dummy ∨ ∃ k', k' < K ∧ d = some (nth t.mask p k').j ∧ (nth t.mask p k').j ∈ t.dummies.toList) ∧
      SetTable.probe.go t hashAt h f p = some (.empty (nth t.mask p K).j d))
theorem go_X (t : SetTable) (r : Ris t.place.toList) (rd : Ris t.dummies.toList) (dj : ∀ j, j ∈ t.dummies.toList → j ∉ t.place.toList) (hashAt : Nat → Int) (h : Int) : ∀ (f K : Nat) (p : SetTable.Probe), K < f →
    (∀ k, k < K → Occ t (nth t.mask p k).j) → ¬ Occ t (nth t.mask p K).j → Ans t hashAt h f K p
  | 0, K, _, hK, _, _ => absurd hK (Nat.not_lt_zero _)
  | f + 1, 0, p, _, _, he => by
    refine .inr ⟨fun k' i' hk => absurd hk (Nat.not_lt_zero _), p.dummy, .inl rfl, ?_⟩
    have e : t.slot p.j = .empty := slot_free rd he
    unfold SetTable.probe.go
    rw [e]
    rfl
  | f + 1, K + 1, p, hK, hin, he => by
    have push : ∀ (dd : Option Nat), (dd = p.dummy ∨ (dd = some p.j ∧ p.j ∈ t.dummies.toList)) → (∀ i', t.place.toList[i']? = some p.j → hashAt i' ≠ h) → SetTable.probe.go t hashAt h (f + 1) p = SetTable.probe.go t hashAt h f (noted (adv t.mask p) dd) → Ans t hashAt h (f + 1) (K + 1) p := fun dd hdd one e => by
      have ih := go_X t r rd dj hashAt h f K (noted (adv t.mask p) dd) (by omega) (fun k hk => by rw [nth_noted, noted_j]; exact hin (k + 1) (by omega)) (by rw [nth_noted, noted_j]; exact he)
      unfold Ans at ih ⊢
      simp only [nth_noted, noted_j, noted_twice] at ih
      have dcase : ∀ {n : Nat} {d : Option Nat}, (d = dd ∨ ∃ k', k' < n ∧ d = some (nth t.mask (adv t.mask p) k').j ∧ (nth t.mask (adv t.mask p) k').j ∈ t.dummies.toList) →
          (d = p.dummy ∨ ∃ k', k' < n + 1 ∧ d = some (nth t.mask p k').j ∧ (nth t.mask p k').j ∈ t.dummies.toList) := fun {n d} z => by
        rcases z with z | ⟨k', a, b, c⟩
        · subst z
          rcases hdd with y | ⟨y1, y2⟩
          · exact .inl y
          · exact .inr ⟨0, Nat.succ_pos _, y1, y2⟩
        · exact .inr ⟨k' + 1, by omega, b, c⟩
      have ncase : ∀ {n : Nat}, (∀ k' i', k' < n → t.place.toList[i']? = some (nth t.mask (adv t.mask p) k').j → hashAt i' ≠ h) → ∀ k' i', k' < n + 1 → t.place.toList[i']? = some (nth t.mask p k').j → hashAt i' ≠ h := fun {n} z k' i' hk hi => by
        cases k' with
        | zero => exact one i' hi
        | succ k' => exact z k' i' (by omega) hi
      rw [e]
      rcases ih with ⟨k, i, d, a1, a2, a3, a4, a5, a6⟩ | ⟨a1, d, a2, a3⟩
      · exact .inl ⟨k + 1, i, d, by omega, a2, a3, ncase a4, dcase a5, a6⟩
      · exact .inr ⟨ncase a1, d, dcase a2, a3⟩
    by_cases hp : p.j ∈ t.place.toList
    · obtain ⟨i, hi⟩ := List.mem_iff_getElem?.mp hp
      have hs := slot_live r hi
      by_cases hh : hashAt i = h
      · refine .inl ⟨0, i, p.dummy, Nat.succ_pos _, hi, hh, fun k' i' hk => absurd hk (Nat.not_lt_zero _), .inl rfl, ?_⟩
        unfold SetTable.probe.go
        rw [hs]
        show (if (hashAt i == h) = true then some (SetTable.Met.candidate p.j i (t.advance p)) else _) = _
        rw [if_pos (beq_iff_eq.mpr hh), adv_eq]
        have : (adv t.mask p).dummy = p.dummy := by unfold adv; split <;> rfl
        show some (SetTable.Met.candidate p.j i (adv t.mask p)) = some (SetTable.Met.candidate p.j i (noted (adv t.mask p) p.dummy))
        rw [← this]
        rfl
      · refine push p.dummy (.inl rfl) (fun i' hi' => ?_) ?_
        · have := slot_live r hi'
          rw [hs] at this
          injection this with e
          rw [← e]; exact hh
        · have : (adv t.mask p).dummy = p.dummy := by unfold adv; split <;> rfl
          conv => lhs; unfold SetTable.probe.go
          rw [hs]
          show (if (hashAt i == h) = true then some (SetTable.Met.candidate p.j i (t.advance p)) else SetTable.probe.go t hashAt h f (t.advance p)) = _
          rw [if_neg (by rw [beq_iff_eq]; exact hh), adv_eq, ← this]
          rfl
    · have hd : p.j ∈ t.dummies.toList := by
        rcases hin 0 (Nat.succ_pos _) with z | z
        · exact absurd z hp
        · exact z
      refine push (some p.j) (.inr ⟨rfl, hd⟩) (fun i' hi' => absurd (List.mem_of_getElem? hi') hp) ?_
      conv => lhs; unfold SetTable.probe.go
      rw [slot_dummy rd hp hd]
      show SetTable.probe.go t hashAt h f (t.advance (noted p (some p.j))) = _
      rw [adv_eq, adv_noted]
/-- the first slot of the way that was never used -/
theorem TabX.first {t : SetTable} {hs : List Int} (T : TabX t hs) (hf : t.fill ≤ t.mask) (h : Int) : ∃ K, K < 10 * SetTable.turns t.mask ∧ ¬ Occ t (way t.mask h K) ∧ ∀ k, k < K → Occ t (way t.mask h k) := by
  obtain ⟨j, hj, hn⟩ := st_missing (t.place.toList ++ t.dummies.toList) (t.mask + 1) (by
    rw [List.length_append, Array.length_toList, Array.length_toList]
    show t.fill < _
    omega)
  obtain ⟨k, hk, e⟩ := wayHits T.mok h (by omega : j ≤ t.mask)
  obtain ⟨K, h1, h2, h3⟩ := st_least (p := fun k => ¬ Occ t (way t.mask h k)) k (by
    show ¬ Occ t (way t.mask h k)
    rw [e]
    rintro (z | z)
    · exact hn (List.mem_append_left _ z)
    · exact hn (List.mem_append_right _ z))
  exact ⟨K, by omega, h2, fun k' hk' => Classical.not_not.mp (h3 k' hk')⟩
theorem TabX.before {t : SetTable} {hs : List Int} (T : TabX t hs) {h : Int} {K i j : Nat} (hK : ¬ Occ t (way t.mask h K)) (hi : hs[i]? = some h) (hj : t.place.toList[i]? = some j) : ∃ k, k < K ∧ way t.mask h k = j := by
  obtain ⟨k, e, z⟩ := T.reach i h j hi hj
  refine ⟨k, ?_, e⟩
  rcases Nat.lt_trichotomy k K with c | c | c
  · exact c
  · subst c
    rw [e] at hK
    exact absurd (.inl (List.mem_of_getElem? hj)) hK
  · exact absurd (z K c) hK
/-- where an entry of this hash may be put -/
def Fits (t : SetTable) (h : Int) (j : Nat) : Prop := j ∉ t.place.toList ∧ ∃ K, way t.mask h K = j ∧ ∀ k, k < K → Occ t (way t.mask h k)
theorem TabX.put {t : SetTable} {hs : List Int} (T : TabX t hs) {h : Int} {j : Nat} (F : Fits t h j) :
    (t.put j).2 = SetTable.below t.place j ∧ SetTable.below t.place j ≤ hs.length ∧ TabX (t.put j).1 (hs.take (SetTable.below t.place j) ++ h :: hs.drop (SetTable.below t.place j)) ∧
    (t.put j).1.mask = t.mask ∧ (t.put j).1.led = t.led ∧ (t.put j).1.plain = t.plain ∧ (j ∈ t.dummies.toList → (t.put j).1.fill = t.fill) ∧ (j ∉ t.dummies.toList → (t.put j).1.fill = t.fill + 1) := by
  obtain ⟨hn, K, hw, hocc⟩ := F
  have cut := below_cut T.ris j
  have hpl : SetTable.below t.place j ≤ t.place.toList.length := by rw [Array.length_toList]; exact cut.1
  have hph : SetTable.below t.place j ≤ hs.length := by rw [← T.sz]; exact cut.1
  have pp := put_place t j
  generalize hp : SetTable.below t.place j = p at hpl hph pp
  have psz : (t.put j).1.place.size = hs.length + 1 := by
    rw [← Array.length_toList, pp, len_ins _ hpl, Array.length_toList, T.sz]
  have dm : (t.put j).1.dummies = if SetTable.has t.dummies j = true then SetTable.eraseAt t.dummies (SetTable.below t.dummies j) else t.dummies := rfl
  have dmem : ∀ x, x ∈ (t.put j).1.dummies.toList ↔ x ∈ t.dummies.toList ∧ x ≠ j := fun x => by
    rw [dm]
    by_cases hd : SetTable.has t.dummies j = true
    · rw [if_pos hd, erase_list]
      obtain ⟨i, hi⟩ := List.mem_iff_getElem?.mp ((has_iff T.rid j).mp hd)
      rw [below_at T.rid hi]
      exact mem_eraseIdx (ris_nodup T.rid) hi
    · rw [if_neg hd]
      exact ⟨fun z => ⟨z, fun y => hd ((has_iff T.rid j).mpr (by rw [← y]; exact z))⟩, fun z => z.1⟩
  have occ : ∀ {x : Nat}, Occ t x → Occ (t.put j).1 x := fun {x} z => by
    by_cases y : x = j
    · exact .inl (by rw [pp]; exact mem_ins.2 (.inl y))
    · rcases z with z | z
      · exact .inl (by rw [pp]; exact mem_ins.2 (.inr z))
      · exact .inr ((dmem x).mpr ⟨z, y⟩)
  refine ⟨hp, hph, ⟨?_, ?_, fun x hx => ?_, ?_, T.mok, fun i h' j' h1 h2 => ?_⟩, rfl, rfl, rfl, fun hd => ?_, fun hd => ?_⟩
  · have := ris_insert T.ris (at_below T.ris hn)
    exact this
  · rw [dm]
    split
    · rw [erase_list]; exact ris_eraseIdx T.rid _
    · exact T.rid
  · obtain ⟨a, b⟩ := (dmem x).mp hx
    rw [pp]
    intro z
    rcases mem_ins.1 z with z | z
    · exact b z
    · exact T.dj x a z
  · rw [len_ins _ hph]; exact psz
  · rw [tins_get hs hph] at h1
    rw [pp, tins_get _ hpl] at h2
    show ∃ k, way t.mask h' k = j' ∧ _
    by_cases c : i < p
    · rw [if_pos c] at h1 h2
      obtain ⟨k, e, z⟩ := T.reach i h' j' h1 h2
      exact ⟨k, e, fun k' hk => occ (z k' hk)⟩
    · rw [if_neg c] at h1 h2
      by_cases d : i = p
      · rw [if_pos d] at h1 h2
        cases h1
        cases h2
        exact ⟨K, hw, fun k' hk => occ (hocc k' hk)⟩
      · rw [if_neg d] at h1 h2
        obtain ⟨k, e, z⟩ := T.reach (i - 1) h' j' h1 h2
        exact ⟨k, e, fun k' hk => occ (z k' hk)⟩
  · show (t.put j).1.place.size + (t.put j).1.dummies.size = t.place.size + t.dummies.size
    obtain ⟨i, hi⟩ := List.mem_iff_getElem?.mp hd
    have il := (List.getElem?_eq_some_iff.mp hi).1
    have : (t.put j).1.dummies.size + 1 = t.dummies.size := by
      rw [dm, if_pos ((has_iff T.rid j).mpr hd), ← Array.length_toList, erase_list, below_at T.rid hi, List.length_eraseIdx_of_lt il, Array.length_toList]
      rw [Array.length_toList] at il
      omega
    rw [psz, T.sz]
    omega
  · show (t.put j).1.place.size + (t.put j).1.dummies.size = t.place.size + t.dummies.size + 1
    have : (t.put j).1.dummies = t.dummies := by rw [dm, if_neg (fun z => hd ((has_iff T.rid j).mp z))]
    rw [psz, T.sz, this]
    omega
/-- an entry less -/
theorem TabX.drop {t : SetTable} {hs : List Int} (T : TabX t hs) {i : Nat} (hi : i < hs.length) :
    TabX (t.drop i) (hs.eraseIdx i) ∧ (t.drop i).mask = t.mask ∧ (t.drop i).led = t.led ∧ (t.drop i).plain = t.plain ∧ (t.drop i).fill = t.fill := by
  have hl : i < t.place.size := by rw [T.sz]; exact hi
  have hj : t.place[i]? = some t.place[i] := Array.getElem?_eq_getElem hl
  generalize t.place[i] = j at hj
  have hj' : t.place.toList[i]? = some j := by rw [Array.getElem?_toList]; exact hj
  have e : t.drop i = { t with place := SetTable.eraseAt t.place i, dummies := SetTable.insertAt t.dummies (SetTable.below t.dummies j) j } := by
    unfold SetTable.drop
    rw [hj]
  have nd : j ∉ t.dummies.toList := fun z => T.dj j z (List.mem_of_getElem? hj')
  have dl : (SetTable.insertAt t.dummies (SetTable.below t.dummies j) j).toList = t.dummies.toList.take (SetTable.below t.dummies j) ++ j :: t.dummies.toList.drop (SetTable.below t.dummies j) := SetTable.toList_insertAt _ _ _
  have cut := below_cut T.rid j
  have pm : ∀ x, x ∈ (SetTable.eraseAt t.place i).toList ↔ x ∈ t.place.toList ∧ x ≠ j := fun x => by
    rw [erase_list]
    exact mem_eraseIdx (ris_nodup T.ris) hj'
  have occ : ∀ {x : Nat}, Occ t x → Occ (t.drop i) x := fun {x} z => by
    rw [e]
    by_cases y : x = j
    · exact .inr (by show x ∈ (SetTable.insertAt _ _ _).toList; rw [dl]; exact mem_ins.2 (.inl y))
    · rcases z with z | z
      · exact .inl ((pm x).mpr ⟨z, y⟩)
      · exact .inr (by show x ∈ (SetTable.insertAt _ _ _).toList; rw [dl]; exact mem_ins.2 (.inr z))
  refine ⟨⟨?_, ?_, fun x hx => ?_, ?_, ?_, fun k h' j' h1 h2 => ?_⟩, by rw [e], by rw [e], by rw [e], ?_⟩
  · rw [e]
    show Ris (SetTable.eraseAt _ _).toList
    rw [erase_list]
    exact ris_eraseIdx T.ris _
  · rw [e]
    exact ris_insert T.rid (at_below T.rid nd)
  · rw [e] at hx ⊢
    have hx : x ∈ (SetTable.insertAt t.dummies (SetTable.below t.dummies j) j).toList := hx
    rw [dl] at hx
    show x ∉ (SetTable.eraseAt _ _).toList
    intro z
    obtain ⟨z1, z2⟩ := (pm x).mp z
    rcases mem_ins.1 hx with y | y
    · exact z2 y
    · exact T.dj x y z1
  · rw [e]
    show (SetTable.eraseAt _ _).size = _
    rw [← Array.length_toList, erase_list, List.length_eraseIdx_of_lt (by rw [Array.length_toList]; exact hl), List.length_eraseIdx_of_lt hi, Array.length_toList, T.sz]
  · rw [e]
    exact T.mok
  · have h2 : (SetTable.eraseAt t.place i).toList[k]? = some j' := by rw [e] at h2; exact h2
    rw [erase_list] at h2
    rw [List.getElem?_eraseIdx] at h1 h2
    have mk : (t.drop i).mask = t.mask := by rw [e]
    rw [mk]
    split at h1
    · rename_i c
      rw [if_pos c] at h2
      obtain ⟨q, e1, z⟩ := T.reach k h' j' h1 h2
      exact ⟨q, e1, fun k' hk => occ (z k' hk)⟩
    · rename_i c
      rw [if_neg c] at h2
      obtain ⟨q, e1, z⟩ := T.reach (k + 1) h' j' h1 h2
      exact ⟨q, e1, fun k' hk => occ (z k' hk)⟩
  · rw [e]
    show (SetTable.eraseAt _ _).size + (SetTable.insertAt _ _ _).size = t.place.size + t.dummies.size
    rw [← Array.length_toList, ← Array.length_toList, dl, erase_list, List.length_eraseIdx_of_lt (by rw [Array.length_toList]; exact hl), len_ins _ (by rw [Array.length_toList]; exact cut.1), Array.length_toList, Array.length_toList]
    omega
/-- laid clean -/
theorem laid_X {m : Nat} (hm : MaskX m) (finger moves : Nat) (led plain : Bool) {hs : Array Int} (hn : hs.size ≤ m) :
    ∃ t' order, SetTable.laid m finger moves led plain hs = some (t', order) ∧ order.toList.Perm (List.range hs.size) ∧ TabX t' (order.toList.map fun i => hs.getD i 0) ∧ t'.mask = m ∧ t'.led = led ∧ t'.plain = plain ∧ t'.dummies = #[] := by
  obtain ⟨owner, e, W⟩ := cleanHits hm hn
  have rl := ris_live (fun j => owner.getD j none) (List.range (m + 1)) (by unfold Ris; exact List.pairwise_lt_range)
  have r1 : Ris ((liveOf m owner).map (·.1)) := rl.1
  have len : (liveOf m owner).length = hs.size := by
    obtain ⟨ps, p1, p2⟩ := W.few
    have a := nat_nodup_len ((liveOf m owner).map (·.1)) ps (ris_nodup r1) fun x hx => by
      obtain ⟨⟨y, k⟩, hq, rfl⟩ := List.mem_map.mp hx
      obtain ⟨b1, b2⟩ := (mem_live W.sz).1 hq
      exact p2 y b1 (by rw [b2]; simp)
    have b := nat_nodup_len (List.range hs.size) ((liveOf m owner).map (·.2)) List.nodup_range fun k hk => by
      obtain ⟨j, b1, b2⟩ := W.sits k (by rw [Array.length_toList]; exact List.mem_range.mp hk)
      exact List.mem_map.mpr ⟨(j, k), (mem_live W.sz).2 ⟨b1, b2⟩, rfl⟩
    simp only [List.length_map, List.length_range, Array.length_toList] at a b p1
    omega
  refine ⟨{ mask := m, place := ((liveOf m owner).map (·.1)).toArray, dummies := #[], finger, led, moves, plain }, ((liveOf m owner).map (·.2)).toArray, ?_, ?_, ⟨r1, List.Pairwise.nil, fun j hj => (by cases hj), ?_, hm, fun i h j h1 h2 => ?_⟩, rfl, rfl, rfl, rfl⟩
  · unfold SetTable.laid
    rw [e]
    rfl
  · refine perm_range hs.size _ (by rw [List.length_map]; exact len) fun k hk => ?_
    obtain ⟨j, b1, b2⟩ := W.sits k (by rw [Array.length_toList]; exact hk)
    exact List.mem_map.mpr ⟨(j, k), (mem_live W.sz).2 ⟨b1, b2⟩, rfl⟩
  · simp
  · simp only [List.getElem?_map] at h1 h2
    cases hq : (liveOf m owner)[i]? with
    | none => rw [hq] at h2; cases h2
    | some q =>
      obtain ⟨y, k⟩ := q
      rw [hq] at h1 h2
      cases h2
      obtain ⟨b1, b2⟩ := (mem_live W.sz).1 (List.mem_of_getElem? hq)
      obtain ⟨h0, K, a1, a2, a3⟩ := W.says _ k b1 b2
      have e0 : hs.getD k 0 = h0 := by
        rw [Array.getD_eq_getD_getElem?, ← Array.getElem?_toList, a1]; rfl
      have eh : hs.getD k 0 = h := Option.some.inj h1
      rw [← eh, e0]
      refine ⟨K, a2, fun k' hk' => .inl ?_⟩
      show way m h0 k' ∈ (liveOf m owner).map (·.1)
      cases z : oAt owner (way m h0 k') with
      | none => exact absurd z (a3 k' hk')
      | some k2 => exact List.mem_map.mpr ⟨(way m h0 k', k2), (mem_live W.sz).2 ⟨wayLe h0 k', z⟩, rfl⟩
end Xr

set_option Elab.async false
set_option linter.all false
set_option maxRecDepth 100000
/-! Xr3: a set of tuples of ints whose table may have dummies: looked up, an entry more, one less. -/
namespace Xr
open PySem PySem.Spec L2
open PyProof.Rows

structure SetX (P : Program) (w : World) (h : Heap) (a : Addr) (L : List (Addr × List Int)) (es : Array (Int × Value)) (ep : Nat) (t : SetTable) : Prop where
  ob : ∃ o, h.get? a = some o ∧ o.ExactSet ∧ o.data = .set es ep t
  rows : es.toList = rowsOf P w L
  tab : TabX t (L.map fun p => thash P w p.2)
  nd : (L.map (·.2)).Nodup
  tup : ∀ p, p ∈ L → IsT P w h p.2 p.1
  plain : t.plain = true
  led : w.params.followText "set-order" = true ∨ t.led = true
  room : t.fill * 5 < t.mask * 3
section
variable {P : Program} {w : World} {A : Around} {E : Value → Shared → Prop} {s : Shared} {a : Addr} {L : List (Addr × List Int)} {es : Array (Int × Value)} {ep : Nat} {t : SetTable}
theorem rows_len {L : List (Addr × List Int)} {es : Array (Int × Value)} (h : es.toList = rowsOf P w L) : es.size = L.length := by
  rw [← Array.length_toList, h]
  exact List.length_map _
theorem row_at {L : List (Addr × List Int)} {es : Array (Int × Value)} (h : es.toList = rowsOf P w L) {i : Nat} {p : Addr × List Int} (hp : L[i]? = some p) : es[i]? = some (thash P w p.2, Value.ref p.1) := by
  rw [← Array.getElem?_toList, h]
  unfold rowsOf
  rw [List.getElem?_map, hp]
  rfl
theorem SetX.fits {h : Heap} (R : SetX P w h a L es ep t) : t.fits es.size = true := by
  have e1 := R.tab.sz
  have e2 := rows_len R.rows
  have e3 := R.room
  rw [List.length_map] at e1
  unfold SetTable.fits
  rw [Bool.and_eq_true, beq_iff_eq, decide_eq_true_eq]
  exact ⟨by omega, by omega⟩
theorem SetX.nogw {h : Heap} (R : SetX P w h a L es ep t) : ¬ t.gaveWay = true := by
  unfold SetTable.gaveWay
  rw [(maskX_odd R.tab.mok).1]
  decide
theorem SetX.keep {h h' : Heap} (R : SetX P w h a L es ep t) (ha : ∀ o, h.get? a = some o → h'.get? a = some o) (ht : ∀ p, p ∈ L → IsT P w h' p.2 p.1) : SetX P w h' a L es ep t :=
  ⟨let ⟨o, e, x⟩ := R.ob; ⟨o, ha o e, x⟩, R.rows, R.tab, R.nd, ht, R.plain, R.led, R.room⟩
abbrev beg (m : Nat) (h : Int) : SetTable.Probe := runAt m (SetTable.bits h % (m + 1)) (SetTable.bits h)
/-- the search from the c-th step of the way on, a dummy noted -/
theorem seek (R : SetX P w s.heap a L es ep t) {x : Addr} {k : List Int} (hx : IsT P w s.heap k x) (hu : A.units < cLine) (ad : Bool) {K : Nat} (hKf : K < 10 * SetTable.turns t.mask)
    (hK : ¬ Occ t (way t.mask (thash P w k) K)) (hKb : ∀ c, c < K → Occ t (way t.mask (thash P w k) c)) {Q : SetFound → Shared → Prop}
    (hin : ∀ (i : Nat) p, L[i]? = some p → p.2 = k → Q (.there (if ad = true then none else some i)) s)
    (hout : k ∉ L.map (·.2) → ∀ j wd, Fits t (thash P w k) j → (wd = true → j ∈ t.dummies.toList) → (wd = false → j ∉ t.dummies.toList) → Q (.free j wd) s) :
    ∀ (f c : Nat) (d : Option Nat) (stand : Option SetTable.Probe), stand.getD (t.probeStart (thash P w k)) = noted (nth t.mask (beg t.mask (thash P w k)) c) d →
      (d = none ∨ ∃ c', c' < c ∧ d = some (way t.mask (thash P w k) c') ∧ way t.mask (thash P w k) c' ∈ t.dummies.toList) → c ≤ K → K - c < f →
      (∀ (i : Nat) p, L[i]? = some p → p.2 = k → ∃ c', c ≤ c' ∧ c' < K ∧ t.place.toList[i]? = some (way t.mask (thash P w k) c')) →
      wpAny (model P w) A (setSearchFrom a (.ref x) (thash P w k) ad f stand) Q E s
  | 0, c, d, stand, _, _, _, hf, _ => absurd hf (Nat.not_lt_zero _)
  | f + 1, c, d, stand, hst, hdm, hc, hf, hre => by
    obtain ⟨o, ho, hex, hd⟩ := R.ob
    have way_at : ∀ q, (nth t.mask (nth t.mask (beg t.mask (thash P w k)) c) q).j = way t.mask (thash P w k) (c + q) := fun q => congrArg SetTable.Probe.j (nth_add t.mask c _ q).symm
    have hash_at : ∀ (i : Nat) p, L[i]? = some p → (es[i]?.map (·.1)).getD 0 = thash P w p.2 := fun i p hp => by rw [row_at R.rows hp]; rfl
    have bound : K - c < 10 * SetTable.turns t.mask := by omega
    have back : c + (K - c) = K := by omega
    have ans := go_X t R.tab.ris R.tab.rid R.tab.dj (fun i => (es[i]?.map (·.1)).getD 0) (thash P w k) (10 * SetTable.turns t.mask) (K - c) (noted (nth t.mask (beg t.mask (thash P w k)) c) d) bound
      (fun q hq => by rw [nth_noted, noted_j, way_at]; exact hKb (c + q) (by omega)) (by rw [nth_noted, noted_j, way_at, back]; exact hK)
    unfold Ans at ans
    simp only [nth_noted, noted_j, noted_twice, way_at] at ans
    rw [back] at ans
    have noteOk : ∀ {n : Nat} {dd : Option Nat}, n ≤ K - c → (dd = (noted (nth t.mask (beg t.mask (thash P w k)) c) d).dummy ∨ ∃ k', k' < n ∧ dd = some (way t.mask (thash P w k) (c + k')) ∧ way t.mask (thash P w k) (c + k') ∈ t.dummies.toList) →
        (dd = none ∨ ∃ c', c' < c + n ∧ dd = some (way t.mask (thash P w k) c') ∧ way t.mask (thash P w k) c' ∈ t.dummies.toList) := fun {n dd} _ z => by
      rcases z with z | ⟨k', a1, a2, a3⟩
      · have z : dd = d := z
        subst z
        rcases hdm with y | ⟨c', b1, b2, b3⟩
        · exact .inl y
        · exact .inr ⟨c', by omega, b2, b3⟩
      · exact .inr ⟨c + k', by omega, a2, a3⟩
    rw [setSearchFrom_succ]
    refine wpAny_bind (wpAny_setState_of ho hd R.fits ?_)
    dsimp only
    refine wp_if_neg R.nogw ?_
    try refine wpAny_bind (wpAny_pure ?_)
    have probe_eq : ∀ m, SetTable.probe.go t (fun i => (es[i]?.map (·.1)).getD 0) (thash P w k) (10 * SetTable.turns t.mask) (noted (nth t.mask (beg t.mask (thash P w k)) c) d) = some m → t.probe (fun i => (es[i]?.map (·.1)).getD 0) (thash P w k) (stand.getD (t.probeStart (thash P w k))) = some m := fun m e => by
      rw [hst]
      exact e
    rcases ans with ⟨q, i, dd, hq, hi, hh, hno, hdd, hgo⟩ | ⟨hno, dd, hdd, hgo⟩
    · rw [probe_eq _ hgo]
      dsimp only
      have il : i < L.length := by
        have h1 := (List.getElem?_eq_some_iff.mp hi).1
        have h2 := R.tab.sz
        rw [List.length_map] at h2
        rw [Array.length_toList] at h1
        omega
      obtain ⟨p, hp⟩ : ∃ p, L[i]? = some p := ⟨_, List.getElem?_eq_getElem il⟩
      have pm : p ∈ L := List.mem_of_getElem? hp
      have rest : wpAny (model P w) A (searchRest a (.ref x) (thash P w k) ad f es t (way t.mask (thash P w k) (c + q)) i (noted (nth t.mask (nth t.mask (beg t.mask (thash P w k)) c) (q + 1)) dd)) Q E s := by
        unfold searchRest
        rw [row_at R.rows hp]
        dsimp only
        refine wpAny_bind (wpAny_holding (wpAny_eqBool_tuple hu (R.tup p pm) hx ?_))
        refine wpAny_bind (wpAny_setState_of ho hd R.fits ?_)
        dsimp only
        by_cases hk : p.2 = k
        · have hq' := hin i p hp hk
          cases ad with
          | true =>
            refine wp_if_pos (by simp [hk]) (wpAny_pure ?_)
            exact hq'
          | false =>
            refine wp_if_neg (by simp) ?_
            try refine wpAny_bind (wpAny_pure ?_)
            rw [sameMem]
            dsimp only
            simp only [if_true, slot_live R.tab.ris hi, row_at R.rows hp]
            refine wpAny_bind (wpAny_isSame_ref_self (wpAny_bind (wpAny_pure ?_)))
            simp only [if_true]
            exact wp_if_pos (by simp [hk]) (wpAny_pure hq')
        · refine wp_if_neg (by simp [hk]) ?_
          try refine wpAny_bind (wpAny_pure ?_)
          rw [sameMem]
          dsimp only
          simp only [if_true, slot_live R.tab.ris hi, row_at R.rows hp]
          refine wpAny_bind (wpAny_isSame_ref_self (wpAny_bind (wpAny_pure ?_)))
          simp only [if_true]
          refine wp_if_neg (by simp [hk]) ?_
          refine seek R hx hu ad hKf hK hKb hin hout f (c + (q + 1)) dd _ (by rw [← nth_add]; rfl) ?_ (by omega) (by omega) fun i0 p0 h0 hk0 => ?_
          · rcases noteOk (n := q) (by omega) hdd with z | ⟨c', b1, b2⟩
            · exact .inl z
            · exact .inr ⟨c', by omega, b2⟩
          · obtain ⟨c', b1, b2, b3⟩ := hre i0 p0 h0 hk0
            refine ⟨c', ?_, b2, b3⟩
            rcases Nat.lt_trichotomy c' (c + q) with z | z | z
            · exfalso
              refine hno (c' - c) i0 (by omega) (by rw [show c + (c' - c) = c' by omega]; exact b3) ?_
              rw [hash_at i0 p0 h0, hk0]
            · exfalso
              subst z
              have s0 := slot_live R.tab.ris b3
              rw [slot_live R.tab.ris hi] at s0
              injection s0 with s0
              rw [← s0, hp] at h0
              cases h0
              exact hk hk0
            · omega
      by_cases hl : t.led = true
      · refine wp_if_neg (by simp [hl]) ?_
        try refine wpAny_bind (wpAny_pure ?_)
        exact rest
      · refine wp_if_pos (by simp [hl]) ?_
        refine wpAny_bind (seen_tup hx (fun y hy => ?_) ?_)
        · obtain ⟨e, he, rfl⟩ := List.mem_map.mp hy
          have he1 : e ∈ es ∧ e.1 = thash P w k := by simpa using he
          have he : e ∈ es.toList := by simpa using he1.1
          rw [R.rows] at he
          obtain ⟨p2, hp2, rfl⟩ := List.mem_map.mp he
          exact ⟨p2.2, p2.1, rfl, R.tup p2 hp2⟩
        · refine wp_if_neg (by decide) ?_
          try refine wpAny_bind (wpAny_pure ?_)
          exact rest
    · rw [probe_eq _ hgo]
      dsimp only
      have out : k ∉ L.map (·.2) := fun hm => by
        obtain ⟨p0, h0, hk0⟩ := List.mem_map.mp hm
        obtain ⟨i0, h00⟩ := List.mem_iff_getElem?.mp h0
        obtain ⟨c', b1, b2, b3⟩ := hre i0 p0 h00 hk0
        refine hno (c' - c) i0 (by omega) (by rw [show c + (c' - c) = c' by omega]; exact b3) ?_
        rw [hash_at i0 p0 h00, hk0]
      rcases noteOk (n := K - c) (Nat.le_refl _) hdd with z | ⟨c', b1, b2, b3⟩
      · subst z
        dsimp only
        exact wpAny_pure (hout out _ false ⟨fun z => hK (.inl z), K, rfl, hKb⟩ (fun z => by cases z) fun _ z => hK (.inr z))
      · subst b2
        dsimp only
        refine wp_if_neg ?_ ?_
        · rw [slot_dummy R.tab.rid (R.tab.dj _ b3) b3]
          simp
        · try refine wpAny_bind (wpAny_pure ?_)
          exact wpAny_pure (hout out _ true ⟨R.tab.dj _ b3, c', rfl, fun k' hk' => hKb k' (by omega)⟩ (fun _ => b3) fun z => by cases z)
theorem lookup (R : SetX P w s.heap a L es ep t) {x : Addr} {k : List Int} (hx : IsT P w s.heap k x) (hu : A.units < cLine) (ad : Bool) {Q : SetFound → Shared → Prop}
    (hin : ∀ (i : Nat) p, L[i]? = some p → p.2 = k → Q (.there (if ad = true then none else some i)) s)
    (hout : k ∉ L.map (·.2) → ∀ j wd, Fits t (thash P w k) j → (wd = true → j ∈ t.dummies.toList) → (wd = false → j ∉ t.dummies.toList) → Q (.free j wd) s) :
    wpAny (model P w) A (setSearch a (.ref x) (thash P w k) ad) Q E s := by
  have room := R.room
  obtain ⟨K, hKf, hK, hKb⟩ := R.tab.first (by omega) (thash P w k)
  have big : K < 100000 := by
    have : 10 * SetTable.turns t.mask ≤ 1420 := by
      unfold SetTable.turns
      have := (maskX_odd R.tab.mok).2.1
      omega
    omega
  unfold setSearch
  refine seek R hx hu ad hKf hK hKb hin hout 100000 0 none none rfl (.inl rfl) (Nat.zero_le _) (by omega) fun i p hp hk => ?_
  have hi : (L.map fun p => thash P w p.2)[i]? = some (thash P w k) := by rw [List.getElem?_map, hp, ← hk]; rfl
  have il : i < t.place.toList.length := by
    have h1 := (List.getElem?_eq_some_iff.mp hp).1
    have h2 := R.tab.sz
    rw [List.length_map] at h2
    rw [Array.length_toList]
    omega
  have hj := List.getElem?_eq_getElem il
  obtain ⟨c, hc, e⟩ := R.tab.before hK hi hj
  exact ⟨c, Nat.zero_le _, hc, by rw [hj, e]⟩
theorem setFindIn_one (a : Addr) (x : Value) (h : Int) (fuel : Nat) : setFindIn a x h (fuel + 1) = (do
    let (es, _, _) ← setState a
    if byScan x es then
      rule "set.find.by-scan"
      match ← setScan a x h false es with
      | .found i => return some i
      | .absent => return none
      | .anew => return ← setFindIn a x h fuel
    match ← setSearch a x h with
    | .there i => return i
    | .free .. => return none) := by rfl
/-- where it stands -/
theorem find_X (R : SetX P w s.heap a L es ep t) {x : Addr} {k : List Int} (hx : IsT P w s.heap k x) (hu : A.units < cLine) {Q : Option Nat → Shared → Prop}
    (hin : ∀ (i : Nat) p, L[i]? = some p → p.2 = k → Q (some i) s) (hout : k ∉ L.map (·.2) → Q none s) : wpAny (model P w) A (setFind a (.ref x) (thash P w k)) Q E s := by
  obtain ⟨o, ho, hex, hd⟩ := R.ob
  unfold setFind
  rw [show (100000 : Nat) = 99999 + 1 from rfl, setFindIn_one]
  refine wpAny_bind (wpAny_setState_of ho hd R.fits ?_)
  dsimp only
  refine wp_if_neg (by simp [byScan, Value.scannable]) ?_
  try refine wpAny_bind (wpAny_pure ?_)
  refine wpAny_bind (lookup R hx hu false (fun i p hp hk => ?_) fun hn j wd _ _ _ => ?_)
  · exact wpAny_pure (hin i p hp hk)
  · exact wpAny_pure (hout hn)
end
end Xr

set_option Elab.async false
set_option linter.all false
set_option maxRecDepth 100000
/-! Xr4: an entry less, an entry more, laid anew, merged; set ^ set. -/
namespace Xr
open PySem PySem.Spec L2
open PyProof.Rows
section
variable {P : Program} {w : World} {A : Around} {E : Value → Shared → Prop} {s : Shared} {a : Addr} {L : List (Addr × List Int)} {es : Array (Int × Value)} {ep : Nat} {t : SetTable}
theorem isT_but {h h' : Heap} {k : List Int} {b : Addr} (R : SetX P w h a L es ep t) (hb : IsT P w h k b) (hs : Heap.SameBut a h h') : IsT P w h' k b := by
  obtain ⟨o, ho, _, hd⟩ := R.ob
  exact isT_same hb ho hd hs
theorem map_erase {α β : Type} (f : α → β) : ∀ (xs : List α) (i : Nat), (xs.map f).eraseIdx i = (xs.eraseIdx i).map f
  | [], _ => rfl
  | _ :: _, 0 => rfl
  | x :: xs, i + 1 => by
    rw [List.map_cons, List.eraseIdx_cons_succ, List.eraseIdx_cons_succ, List.map_cons, map_erase f xs i]
theorem rows_erase (L : List (Addr × List Int)) (i : Nat) : rowsOf P w (L.eraseIdx i) = (rowsOf P w L).eraseIdx i := by
  unfold rowsOf
  rw [map_erase]
/-- an entry less -/
theorem less_X (R : SetX P w s.heap a L es ep t) {x : Addr} {k : List Int} (hx : IsT P w s.heap k x) (hu : A.units < cLine) (few : L.length ≤ 31) {Q : Bool → Shared → Prop} (hno : k ∉ L.map (·.2) → Q false s)
    (hyes : ∀ i p h' es' ep' t', L[i]? = some p → p.2 = k → Heap.SameBut a s.heap h' → SetX P w h' a (L.eraseIdx i) es' ep' t' → Q true { s with heap := h' }) :
    wpAny (model P w) A (setDiscardHashed a (.ref x) (thash P w k)) Q E s := by
  obtain ⟨o, ho, hex, hd⟩ := R.ob
  unfold setDiscardHashed
  refine wpAny_bind (find_X R hx hu (fun i p hp hk => ?_) fun hn => ?_)
  · dsimp only
    refine wpAny_bind (wpAny_setState_of ho hd R.fits ?_)
    dsimp only
    have il := (List.getElem?_eq_some_iff.mp hp).1
    have len := rows_len R.rows
    have hl2 : (SetTable.eraseAt es i).toList = rowsOf P w (L.eraseIdx i) := by rw [erase_list, R.rows, rows_erase]
    have hsz := rows_len hl2
    refine wpAny_bind (wpAny_storeSet_of ho hd ?_ (by rw [hsz, List.length_eraseIdx_of_lt il, sizeLine_eq]; omega))
    refine wpAny_bind (wpAny_point (wpAny_pure ?_))
    have sb : Heap.SameBut a s.heap (s.heap.update a (Obj.putSet (SetTable.eraseAt es i) (t.drop i))) := Heap.SameBut.update ..
    obtain ⟨T, e1, e2, e3, e4⟩ := R.tab.drop (i := i) (by rw [List.length_map]; exact il)
    refine hyes i p _ (SetTable.eraseAt es i) (ep + 1) (t.drop i) hp hk sb ⟨⟨_, store_at ho hd, ⟨hex.1, hex.2.1, hex.2.2⟩, rfl⟩, hl2, ?_, ?_, fun q hq => isT_but R (R.tup q (List.mem_of_mem_eraseIdx hq)) sb, by rw [e3]; exact R.plain, by rw [e2]; exact R.led, by rw [e1, e4]; exact R.room⟩
    · rw [← map_erase]
      exact T
    · rw [← map_erase]
      exact List.Nodup.sublist (List.eraseIdx_sublist _ _) R.nd
  · exact wpAny_pure (hno hn)
/-- laid anew -/
theorem relay_X {o : Obj} (ho : s.heap.get? a = some o) (hex : o.ExactSet) (hd : o.data = .set es ep t) (rows : es.toList = rowsOf P w L) (fits : t.fits es.size = true) (nd : (L.map (·.2)).Nodup) (tup : ∀ p, p ∈ L → IsT P w s.heap p.2 p.1)
    (pl : t.plain = true) (ld : w.params.followText "set-order" = true ∨ t.led = true) {wanted : Nat} (hM : MaskX (SetTable.sizeAbove wanted - 1)) (hw : SetTable.sizeAbove wanted ≤ 128) (hn : L.length * 5 < (SetTable.sizeAbove wanted - 1) * 3) {Q : Unit → Shared → Prop}
    (hQ : ∀ h' L' es' ep' t', Heap.SameBut a s.heap h' → SetX P w h' a L' es' ep' t' → L'.Perm L → t'.mask = SetTable.sizeAbove wanted - 1 → t'.fill = L.length → Q () { s with heap := h' }) : wpAny (model P w) A (setRelay a wanted) Q E s := by
  have len := rows_len rows
  obtain ⟨t', order, e, pm, T, em, el, epl, ed⟩ := laid_X hM t.finger (t.movedTo (SetTable.sizeAbove wanted - 1)) t.led t.plain (hs := es.map (·.1)) (by rw [Array.size_map, len]; omega)
  rw [Array.size_map, len] at pm
  obtain ⟨L2, r1, r2, r3⟩ := order_rows L es order rows pm
  rw [← r3] at T
  have len2 := rows_len r1
  have e : t.relaid (es.map (·.1)) wanted = some (t', order) := e
  have fl : t'.fill = L.length := by
    have := T.sz
    rw [List.length_map, r2.length_eq] at this
    unfold SetTable.fill
    rw [ed, this]
    rfl
  rw [setRelay_eq]
  refine wpAny_bind (wpAny_setState_of ho hd fits ?_)
  dsimp only
  refine wp_if_neg (by rw [sizeLine_eq]; omega) ?_
  try refine wpAny_bind (wpAny_pure ?_)
  rw [e]
  dsimp only
  refine wpAny_bind ?_
  refine wp_if_neg (by rw [len2, r2.length_eq, len]; simp) ?_
  try refine wpAny_bind (wpAny_pure ?_)
  refine wpAny_pure ?_
  dsimp only
  refine wpAny_storeSet_of ho hd ?_ (by rw [len2, r2.length_eq, sizeLine_eq]; omega)
  have sb : Heap.SameBut a s.heap (s.heap.update a (Obj.putSet (order.filterMap (es[·]?)) t')) := Heap.SameBut.update ..
  refine hQ _ L2 (order.filterMap (es[·]?)) (ep + 1) t' sb ⟨⟨_, store_at ho hd, ⟨hex.1, hex.2.1, hex.2.2⟩, rfl⟩, r1, T, (r2.map (·.2)).nodup_iff.mpr nd, fun p hp => isT_same (tup p (r2.mem_iff.mp hp)) ho hd sb, by rw [epl]; exact pl, by rw [el]; exact ld, ?_⟩ r2 em fl
  rw [fl, em]
  exact hn
theorem grown_ok : ∀ n, n ≤ 31 → 1 ≤ n → MaskX (SetTable.sizeAbove (SetTable.grown n) - 1) ∧ SetTable.sizeAbove (SetTable.grown n) ≤ 128 ∧ n * 5 < (SetTable.sizeAbove (SetTable.grown n) - 1) * 3 := by
  have all : (List.range 32).all (fun n => n == 0 || (decide ((SetTable.sizeAbove (SetTable.grown n) - 1) ∈ [7, 15, 31, 63, 127]) && decide (SetTable.sizeAbove (SetTable.grown n) ≤ 128) && decide (n * 5 < (SetTable.sizeAbove (SetTable.grown n) - 1) * 3))) = true := by decide +kernel
  intro n h1 h2
  have := List.all_eq_true.mp all n (List.mem_range.mpr (by omega))
  simp only [Bool.or_eq_true, beq_iff_eq, Bool.and_eq_true, decide_eq_true_eq] at this
  rcases this with z | ⟨⟨z1, z2⟩, z3⟩
  · omega
  · exact ⟨z1, z2, z3⟩
theorem room_ok : ∀ n, n ≤ 31 → 5 ≤ n → MaskX (SetTable.sizeAbove (n * 2) - 1) ∧ SetTable.sizeAbove (n * 2) ≤ 128 ∧ n * 5 < (SetTable.sizeAbove (n * 2) - 1) * 3 := by
  have all : (List.range 32).all (fun n => decide (n < 5) || (decide ((SetTable.sizeAbove (n * 2) - 1) ∈ [7, 15, 31, 63, 127]) && decide (SetTable.sizeAbove (n * 2) ≤ 128) && decide (n * 5 < (SetTable.sizeAbove (n * 2) - 1) * 3))) = true := by decide +kernel
  intro n h1 h2
  have := List.all_eq_true.mp all n (List.mem_range.mpr (by omega))
  simp only [Bool.or_eq_true, Bool.and_eq_true, decide_eq_true_eq] at this
  rcases this with z | ⟨⟨z1, z2⟩, z3⟩
  · omega
  · exact ⟨z1, z2, z3⟩
/-- an entry more -/
theorem more_X (R : SetX P w s.heap a L es ep t) {x : Addr} {k : List Int} (hx : IsT P w s.heap k x) (hu : A.units < cLine) (few : L.length + 1 ≤ 31) (hk : k ∉ L.map (·.2)) {Q : Bool → Shared → Prop}
    (hQ : ∀ h' L' es' ep' t', Heap.SameBut a s.heap h' → SetX P w h' a L' es' ep' t' → L'.Perm ((x, k) :: L) → Q true { s with heap := h' }) :
    wpAny (model P w) A (setAddHashed a (.ref x) (thash P w k)) Q E s := by
  obtain ⟨o, ho, hex, hd⟩ := R.ob
  have len := rows_len R.rows
  have room := R.room
  unfold setAddHashed
  refine wpAny_holding ?_
  rw [show (100000 : Nat) = 99999 + 1 from rfl, setAddHashedIn_succ]
  refine wpAny_bind (wpAny_setState_of ho hd R.fits ?_)
  dsimp only
  refine wp_if_neg (by simp [byScan, Value.scannable]) ?_
  try refine wpAny_bind (wpAny_pure ?_)
  refine wpAny_bind (lookup R hx hu true (fun i p hp hk' => absurd (List.mem_map.mpr ⟨p, List.mem_of_getElem? hp, hk'⟩) hk) fun _ j wd hF hw1 hw2 => ?_)
  dsimp only
  refine wpAny_bind (wpAny_setState_of ho hd R.fits ?_)
  dsimp only
  obtain ⟨q1, q2, q3, q4, q5, q6, q7, q8⟩ := R.tab.put hF
  have pl1 : (t.put j).1.plain = true := by rw [q6]; exact R.plain
  have ld1 : w.params.followText "set-order" = true ∨ (t.put j).1.led = true := by rw [q5]; exact R.led
  generalize hpt : t.put j = pt at q1 q3 q4 q5 q6 q7 q8 pl1 ld1 ⊢
  obtain ⟨t1, n⟩ := pt
  dsimp only at q1 q3 q4 q5 q6 q7 q8 pl1 ld1 ⊢
  subst q1
  first
    | (refine wpAny_bind ?_; refine wp_if_pos pl1 ?_; refine hashBy_tup hx ?_)
    | refine wp_if_pos pl1 (wpAny_bind (hashBy_tup hx ?_))
  simp only [if_true]
  generalize SetTable.below t.place j = n at q2 q3 ⊢
  have hin : (SetTable.insertAt es n (thash P w k, Value.ref x)).toList = rowsOf P w (L.take n ++ (x, k) :: L.drop n) := by
    rw [SetTable.toList_insertAt, rows_put, R.rows]
  have pm := put_perm L n (x, k)
  have hlen : (L.take n ++ (x, k) :: L.drop n).length = L.length + 1 := pm.length_eq
  have hhs : (L.take n ++ (x, k) :: L.drop n).map (fun p => thash P w p.2) = (L.map fun p => thash P w p.2).take n ++ thash P w k :: (L.map fun p => thash P w p.2).drop n := by
    rw [List.map_append, List.map_cons, List.map_take, List.map_drop]
  rw [← hhs] at q3
  have nd1 : ((L.take n ++ (x, k) :: L.drop n).map (·.2)).Nodup := (pm.map (·.2)).nodup_iff.mpr (by rw [List.map_cons]; exact List.nodup_cons.mpr ⟨hk, R.nd⟩)
  have len1 := rows_len hin
  generalize SetTable.insertAt es n (thash P w k, Value.ref x) = es1 at hin len1 ⊢
  generalize L.take n ++ (x, k) :: L.drop n = L1 at pm hlen q3 nd1 hin len1
  refine wpAny_bind (wpAny_storeSet_of ho hd ?_ (by rw [len1, hlen, sizeLine_eq]; omega))
  have sb : Heap.SameBut a s.heap (s.heap.update a (Obj.putSet es1 t1)) := Heap.SameBut.update ..
  have ho1 := store_at (es' := es1) (t' := t1) ho hd
  generalize s.heap.update a (Obj.putSet es1 t1) = h1 at sb ho1 ⊢
  have tup1 : ∀ p, p ∈ L1 → IsT P w h1 p.2 p.1 := fun p hp => by
    rcases List.mem_cons.mp (pm.mem_iff.mp hp) with e | hp
    · rw [e]; exact isT_but R hx sb
    · exact isT_but R (R.tup p hp) sb
  have sz1 : t1.place.size = es1.size := by
    have h := q3.sz
    rw [List.length_map] at h
    rw [h, len1]
  have done : t1.fill * 5 < t1.mask * 3 → Q true { s with heap := h1 } := fun z => hQ h1 L1 es1 (ep + 1) t1 sb ⟨⟨_, ho1, ⟨hex.1, hex.2.1, hex.2.2⟩, rfl⟩, hin, q3, nd1, tup1, pl1, ld1, z⟩ pm
  by_cases hf : (!wd && t1.tooFull) = true
  · have hwd : wd = false := by
      cases wd
      · rfl
      · simp at hf
    have fl := q8 (hw2 hwd)
    have m3 := (maskX_odd R.tab.mok).2.2
    obtain ⟨g1, g2, g3⟩ := grown_ok (L.length + 1) few (by omega)
    rw [len]
    have fits1 : t1.fits es1.size = true := by
      unfold SetTable.fits
      rw [Bool.and_eq_true, beq_iff_eq, decide_eq_true_eq]
      exact ⟨sz1, by rw [fl, q4]; omega⟩
    have go : wpAny (model P w) A (setRelay a (SetTable.grown (L.length + 1))) (fun _ s' => wpAny (model P w) A (pure true) Q E s') E { s with heap := h1 } := by
      refine relay_X (s := { s with heap := h1 }) ho1 ⟨hex.1, hex.2.1, hex.2.2⟩ rfl hin fits1 nd1 tup1 pl1 ld1 g1 g2 (by rw [hlen]; exact g3) ?_
      intro h2 L2 es2 ep2 t2 sb2 R2 pm2 _ _
      exact wpAny_pure (hQ h2 L2 es2 ep2 t2 (sb.trans sb2) R2 (pm2.trans pm))
    first
      | exact wpAny_bind (wp_if_pos hf go)
      | exact wp_if_pos hf (wpAny_bind go)
  · have z : t1.fill * 5 < t1.mask * 3 := by
      cases wd with
      | true => rw [q7 (hw1 rfl), q4]; exact room
      | false =>
        have h := hf
        simp only [Bool.not_false, Bool.true_and] at h
        unfold SetTable.tooFull at h
        rw [decide_eq_true_eq] at h
        omega
    first
      | exact wp_if_neg hf (wpAny_pure (done z))
      | exact wpAny_bind (wp_if_neg hf (wpAny_pure (wpAny_pure (done z))))
      | exact wp_if_neg hf (wpAny_bind (wpAny_pure (wpAny_pure (done z))))
end
end Xr

set_option Elab.async false
set_option linter.all false
set_option maxRecDepth 100000
/-! Xr5: one set put into a new one; walked; set ^ set. -/
namespace Xr
open PySem PySem.Spec L2
open PyProof.Rows
section
variable {P : Program} {w : World} {A : Around} {E : Value → Shared → Prop} {s : Shared} {a b r : Addr} {L : List (Addr × List Int)} {es e1 : Array (Int × Value)} {ep p1 : Nat} {t t1 : SetTable}
abbrev newS (w : World) : Obj := { cls := .type "set", dict := none, data := .set #[] 0 (.fresh 0 0 (!w.params.followText "set-order")) }
theorem fresh_X {h : Heap} (ho : h.get? r = some (newS w)) : SetX P w h r [] #[] 0 (.fresh 0 0 (!w.params.followText "set-order")) :=
  ⟨⟨_, ho, ⟨rfl, rfl, rfl⟩, rfl⟩, rfl, TabX.of (setTR_fresh (P := P) ho).tab, List.nodup_nil, fun p hp => (by cases hp), rfl, by
    show _ ∨ (!w.params.followText "set-order") = true
    cases w.params.followText "set-order"
    · exact .inr rfl
    · exact .inl rfl, by show 0 * 5 < 7 * 3; decide⟩
theorem led_and {f : Bool} {x y : Bool} (h1 : f = true ∨ x = true) (h2 : f = true ∨ y = true) : f = true ∨ (x && y) = true := by
  rcases h1 with h | h
  · exact .inl h
  · rcases h2 with g | g
    · exact .inl g
    · exact .inr (by rw [h, g]; rfl)
/-- into one with room -/
theorem fill_X {o0 : Obj} {es0 : Array (Int × Value)} {ep0 : Nat} {t0 : SetTable} (R : SetX P w s.heap b L es ep t) (ne : r ≠ b) (few : L.length ≤ 31) (ho0 : s.heap.get? r = some o0) (hd0 : o0.data = .set es0 ep0 t0) {each : Sem Unit} {Q : Unit → Shared → Prop}
    (hQ : ∀ h' L' es' ep' t', Heap.SameBut r s.heap h' → SetX P w h' r L' es' ep' t' → L'.Perm L → Q () { s with heap := h' }) (hne : L ≠ [])
    (hr : ∀ Q' : Unit → Shared → Prop, (∀ (h1 : Heap) (e1 : Array (Int × Value)) (p1 : Nat) (t1 : SetTable), Heap.SameBut r s.heap h1 → SetX P w h1 r [] e1 p1 t1 → t1.fill = 0 → L.length * 5 < t1.mask * 3 → Q' () { s with heap := h1 }) → wpAny (model P w) A (setRoomFor r es.size) Q' E s) :
    wpAny (model P w) A (setMerge r b each) Q E s := by
  obtain ⟨ob, hob, hexb, hdb⟩ := R.ob
  have len := rows_len R.rows
  have room := R.room
  have lpos : 0 < L.length := List.length_pos_iff.mpr hne
  unfold setMerge
  refine wp_if_neg (by simpa using ne) ?_
  try refine wpAny_bind (wpAny_pure ?_)
  refine wpAny_bind (wpAny_setState_of hob hdb R.fits ?_)
  dsimp only
  refine wp_if_neg (by rw [Array.isEmpty_iff_size_eq_zero, len]; omega) ?_
  try refine wpAny_bind (wpAny_pure ?_)
  refine wpAny_bind (hr _ fun h1 e1 p1 t1 sb1 F1 z1 n1 => ?_)
  obtain ⟨o, ho, hex, hd⟩ := F1.ob
  have f1 := F1.fits
  have pl1 := F1.plain
  have ld1 := F1.led
  have m1 := F1.tab.mok
  refine wpAny_bind (wpAny_setState_of (s := { s with heap := h1 }) ho hd f1 ?_)
  dsimp only
  have nT : ∀ {k : List Int} {c : Addr} {h' : Heap}, IsT P w s.heap k c → Heap.SameBut r s.heap h' → IsT P w h' k c := fun hc sb => isT_same hc ho0 hd0 sb
  have rd : t1.road t = if (t1.mask == t.mask && t.dummies.isEmpty) = true then .slotForSlot else .clean := by
    unfold SetTable.road
    rw [z1]
    rfl
  rw [rd]
  by_cases c : (t1.mask == t.mask && t.dummies.isEmpty) = true
  · rw [if_pos c]
    dsimp only
    refine wpAny_storeSet_of (s := { s with heap := h1 }) ho hd ?_ (by rw [len, sizeLine_eq]; omega)
    refine hQ _ L es (p1 + 1) _ (sb1.trans (Heap.SameBut.update ..)) ⟨⟨_, store_at ho hd, ⟨hex.1, hex.2.1, hex.2.2⟩, rfl⟩, R.rows, ⟨R.tab.ris, R.tab.rid, R.tab.dj, R.tab.sz, R.tab.mok, R.tab.reach⟩, R.nd, fun p hp => nT (R.tup p hp) (sb1.trans (Heap.SameBut.update ..)), ?_, led_and ld1 R.led, room⟩ (List.Perm.refl _)
    show (t1.plain && t.plain) = true
    rw [pl1, R.plain]
    rfl
  · rw [if_neg c]
    dsimp only
    obtain ⟨t', order, e, pm, T, em, el, epl, ed⟩ := laid_X m1 t1.finger t1.moves (t1.led && t.led) (t1.plain && t.plain) (hs := es.map (·.1)) (by rw [Array.size_map, len]; omega)
    rw [Array.size_map, len] at pm
    obtain ⟨L2, r1, r2, r3⟩ := order_rows L es order R.rows pm
    rw [← r3] at T
    have len2 := rows_len r1
    rw [e]
    refine wpAny_bind (wpAny_of_eq (a := (order.filterMap (es[·]?), t')) ?_ ?_)
    · show (if ((order.filterMap (es[·]?)).size != es.size) = true then unsupported _ else pure (order.filterMap (es[·]?), t')) = _
      rw [if_neg]
      rw [len2, r2.length_eq, len]
      simp
    · dsimp only
      refine wpAny_storeSet_of (s := { s with heap := h1 }) ho hd ?_ (by rw [len2, r2.length_eq, sizeLine_eq]; omega)
      have fl : t'.fill = L.length := by
        have := T.sz
        rw [List.length_map, r2.length_eq] at this
        unfold SetTable.fill
        rw [ed, this]
        rfl
      refine hQ _ L2 _ (p1 + 1) t' (sb1.trans (Heap.SameBut.update ..)) ⟨⟨_, store_at ho hd, ⟨hex.1, hex.2.1, hex.2.2⟩, rfl⟩, r1, T, (r2.map (·.2)).nodup_iff.mpr R.nd, fun p hp => nT (R.tup p (r2.mem_iff.mp hp)) (sb1.trans (Heap.SameBut.update ..)), ?_, by rw [el]; exact led_and ld1 R.led, ?_⟩ r2
      · rw [epl, pl1, R.plain]
        rfl
      · rw [fl, em]
        exact n1
/-- into a fresh one -/
theorem merge_X (R : SetX P w s.heap b L es ep t) (ne : r ≠ b) (few : L.length ≤ 31) (ho : s.heap.get? r = some (newS w)) {each : Sem Unit} {Q : Unit → Shared → Prop}
    (hQ : ∀ h' L' es' ep' t', Heap.SameBut r s.heap h' → SetX P w h' r L' es' ep' t' → L'.Perm L → Q () { s with heap := h' }) : wpAny (model P w) A (setMerge r b each) Q E s := by
  have F := fresh_X (P := P) ho
  have len := rows_len R.rows
  by_cases hL : L = []
  · subst hL
    obtain ⟨ob, hob, hexb, hdb⟩ := R.ob
    unfold setMerge
    refine wp_if_neg (by simpa using ne) ?_
    try refine wpAny_bind (wpAny_pure ?_)
    refine wpAny_bind (wpAny_setState_of hob hdb R.fits ?_)
    dsimp only
    refine wp_if_pos (by rw [Array.isEmpty_iff_size_eq_zero, len]; rfl) ?_
    exact wpAny_pure (hQ s.heap [] _ _ _ (Heap.SameBut.refl _ _) F (List.Perm.refl _))
  · refine fill_X R ne few ho rfl hQ hL fun Q' q => ?_
    unfold setRoomFor
    refine wpAny_bind (wpAny_setState_of ho rfl rfl ?_)
    dsimp only
    by_cases h5 : L.length < 5
    · have : (SetTable.fresh 0 0 (!w.params.followText "set-order")).roomFor es.size = none := by
        unfold SetTable.roomFor
        rw [if_neg]
        show ¬ ((0 + es.size) * 5 ≥ 7 * 3)
        omega
      rw [this]
      exact wpAny_pure (q _ _ _ _ (Heap.SameBut.refl _ _) F rfl (by show L.length * 5 < 7 * 3; omega))
    · obtain ⟨g1, g2, g3⟩ := room_ok L.length few (by omega)
      have : (SetTable.fresh 0 0 (!w.params.followText "set-order")).roomFor es.size = some (L.length * 2) := by
        unfold SetTable.roomFor
        rw [if_pos (by show (0 + es.size) * 5 ≥ 7 * 3; omega), len]
        show some ((0 + L.length) * 2) = _
        rw [Nat.zero_add]
      rw [this]
      dsimp only
      refine relay_X ho ⟨rfl, rfl, rfl⟩ rfl F.rows F.fits F.nd F.tup F.plain F.led g1 g2 (by show 0 * 5 < _; omega) fun h1 L1 e1 p1 t1 sb1 F1 pm1 em fl => ?_
      have e0 : L1 = [] := pm1.eq_nil
      subst e0
      exact q h1 e1 p1 t1 sb1 F1 fl (by rw [em]; exact g3)
end
end Xr

set_option Elab.async false
set_option linter.all false
set_option maxRecDepth 100000
/-! Xr6: set ^ set. -/
namespace Xr
open PySem PySem.Spec L2
open PyProof.Rows
theorem permOf {α β : Type} {f : α → β} {xs ys : List β} (h : ys.Perm xs) : ∀ {L : List α}, xs = L.map f → ∃ L' : List α, ys = L'.map f ∧ L'.Perm L := by
  induction h with
  | nil =>
    intro L e
    obtain rfl := List.map_eq_nil_iff.mp e.symm
    exact ⟨[], rfl, .nil⟩
  | cons x _ ih =>
    intro L e
    cases L with
    | nil => cases e
    | cons a L =>
      obtain ⟨h1, h2⟩ := List.cons.inj (show x :: _ = f a :: L.map f from e)
      obtain ⟨L', h3, pm⟩ := ih h2
      subst h1 h3
      exact ⟨a :: L', rfl, pm.cons a⟩
  | swap x y l =>
    intro L e
    match L, e with
    | a :: c :: L, e =>
      obtain ⟨h1, h2⟩ := List.cons.inj (show x :: y :: l = f a :: f c :: L.map f from e)
      obtain ⟨h3, h4⟩ := List.cons.inj h2
      subst h1 h3 h4
      exact ⟨c :: a :: L, rfl, .swap a c L⟩
  | trans _ _ ih1 ih2 =>
    intro L e
    obtain ⟨L1, rfl, p1⟩ := ih2 e
    obtain ⟨L2, rfl, p2⟩ := ih1 rfl
    exact ⟨L2, rfl, p2.trans p1⟩
theorem fewOf {α : Type} [DecidableEq α] : ∀ (l D : List α), l.Nodup → (∀ x, x ∈ l → x ∈ D) → l.length ≤ D.length
  | [], _, _, _ => Nat.zero_le _
  | x :: l, D, hn, hs => by
    obtain ⟨h1, h2⟩ := List.nodup_cons.mp hn
    have hx := hs x List.mem_cons_self
    have ih := fewOf l (D.erase x) h2 fun y hy => (List.mem_erase_of_ne (fun e => h1 (by rw [← e]; exact hy))).2 (hs y (List.mem_cons_of_mem _ hy))
    have := List.length_erase_of_mem hx
    have := List.length_pos_of_mem hx
    rw [List.length_cons]
    omega
section
variable {P : Program} {w : World} {A : Around} {E : Value → Shared → Prop} {s : Shared} {a b r l q : Addr} {L L1 L2 : List (Addr × List Int)} {es e1 e2 : Array (Int × Value)} {ep p1 p2 : Nat} {t t1 t2 : SetTable}
theorem walk_X (R : SetX P w s.heap l L es ep t) (others : List Addr) (f : Option Addr) {Q : Array (Int × Value) → Shared → Prop} (h : ∀ (arr : Array (Int × Value)) Lw, arr.toList = rowsOf P w Lw → Lw.Perm L → Q arr s) : wpAny (model P w) A (setWalkUnseen l others f) Q E s := by
  obtain ⟨o, ho, hex, hd⟩ := R.ob
  have known : (w.params.followText "set-order" || (t.led && t.plain) || decide (es.size ≤ 1)) = true := by
    rcases R.led with z | z
    · rw [z]; rfl
    · rw [z, R.plain]; simp
  unfold setWalkUnseen
  refine wpAny_bind (wpAny_setState_of ho hd R.fits ?_)
  dsimp only
  refine wpAny_bind (wpAny_byText ?_)
  refine wp_if_pos known ?_
  unfold setWalk
  refine wpAny_bind (wpAny_setState_of ho hd R.fits ?_)
  dsimp only
  refine wpAny_bind (wpAny_byText ?_)
  by_cases c : w.params.followText "set-order" = true
  · refine wp_if_pos c (wpAny_bind (wpAny_askSetting (wpAny_pure ?_)))
    have pm := pick_perm (w.params.setOrder l ep) es
    obtain ⟨Lw, ew, pw⟩ := permOf pm R.rows
    exact h _ Lw ew pw
  · refine wp_if_neg c ?_
    try refine wpAny_bind (wpAny_pure ?_)
    have dr : ¬ ((!t.plain && decide (es.size > 1)) = true) := by rw [R.plain]; simp
    refine wp_if_neg dr ?_
    try refine wpAny_bind (wpAny_pure ?_)
    have hl : t.led = true := R.led.resolve_left c
    refine wpAny_bind (wpAny_of_eq (a := ()) ?_ ?_)
    · show (if (!t.led && decide (es.size > 1)) = true then unsupported "set:maker-not-led" else pure ()) = pure ()
      rw [hl]
      rfl
    · exact wpAny_pure (h es L R.rows (List.Perm.refl _))
/-- what is in one of both alone -/
def Alone (A1 A2 : List (List Int)) (k : List Int) : Prop := (k ∈ A1 ∧ k ∉ A2) ∨ (k ∈ A2 ∧ k ∉ A1)
theorem unchanged_X (R : SetX P w s.heap l L es ep t) (id : String) {Q : Unit → Shared → Prop} (h : Q () s) : wpAny (model P w) A (Builtin.Frozenset.unchanged id l ep) Q E s := by
  obtain ⟨o, ho, _, hd⟩ := R.ob
  unfold Builtin.Frozenset.unchanged
  refine wpAny_bind (wpAny_setEpoch_of ho hd R.fits ?_)
  refine wp_if_neg (by simp) ?_
  exact wpAny_pure h
theorem sdu_X (R1 : SetX P w s.heap l L1 e1 p1 t1) (R : SetX P w s.heap r L es ep t) (ne : r ≠ l) (hu : A.units < cLine) (U : List (List Int)) (hU : U.length ≤ 31) (u1 : ∀ p, p ∈ L1 → p.2 ∈ U) (u2 : ∀ p, p ∈ L → p.2 ∈ U) (id : String) {Q : Unit → Shared → Prop}
    (hQ : ∀ h' L' es' ep' t', Heap.SameBut r s.heap h' → SetX P w h' r L' es' ep' t' → (∀ p, p ∈ L' → p ∈ L1 ∨ p ∈ L) → (∀ k, k ∈ L'.map (·.2) ↔ Alone (L1.map (·.2)) (L.map (·.2)) k) → Q () { s with heap := h' }) :
    wpAny (model P w) A (Builtin.Frozenset.symmetricDifferenceUpdate id r (.ref l)) Q E s := by
  obtain ⟨o1, ho1, hex1, hd1⟩ := R1.ob
  obtain ⟨o, ho, hex, hd⟩ := R.ob
  have T1 : s.TypeIs (.ref l) "set" := ⟨o1, ho1, hex1.1⟩
  unfold Builtin.Frozenset.symmetricDifferenceUpdate
  refine wp_if_neg (by simpa using fun z : l = r => ne z.symm) ?_
  try refine wpAny_bind (wpAny_pure ?_)
  refine wpAny_bind (wpAny_typeOf T1 ?_)
  refine wp_if_neg (by decide) ?_
  try refine wpAny_bind (wpAny_pure ?_)
  unfold Builtin.Frozenset.isAnySet orM
  refine wpAny_bind (wpAny_bind (wpAny_isInstance T1 F.sub_set_set ?_))
  refine wpAny_pure ?_
  refine wp_if_pos rfl ?_
  refine wpAny_bind (wpAny_pure ?_)
  dsimp only
  unfold Builtin.Frozenset.addrOf
  refine wpAny_bind (wpAny_pure ?_)
  refine wpAny_bind (wpAny_setEpoch_of ho1 hd1 R1.fits ?_)
  refine wpAny_holding ?_
  refine wpAny_bind (walk_X R1 [r] (some r) fun arr Lw ew pw => ?_)
  rw [← Array.forIn_toList, ew]
  refine wpAny_bind (wpAny_forIn_list _ (fun rest _ s' => ∃ Ld Lr h' L' es' ep' t', rest = rowsOf P w Lr ∧ Lw = Ld ++ Lr ∧ s' = { s with heap := h' } ∧ Heap.SameBut r s.heap h' ∧ SetX P w h' r L' es' ep' t' ∧ (∀ p, p ∈ L' → p ∈ L1 ∨ p ∈ L) ∧
    ∀ k, k ∈ L'.map (·.2) ↔ Alone (Ld.map (·.2)) (L.map (·.2)) k) (fun _ s' => wpAny (model P w) A (pure ()) Q E s') ?_ ?_ _ _ ⟨[], Lw, s.heap, L, es, ep, t, rfl, rfl, rfl, Heap.SameBut.refl _ _, R, fun p hp => .inr hp, fun k => ?_⟩)
  · rintro ⟨hh, x⟩ rest _ s' ⟨Ld, Lr, h', L', es', ep', t', e1', e2', rfl, sb, R', sub, mem⟩
    cases Lr with
    | nil => cases e1'
    | cons p Lr =>
      obtain ⟨c, k⟩ := p
      have e1' : (hh, x) :: rest = (thash P w k, Value.ref c) :: rowsOf P w Lr := e1'
      obtain ⟨e3, e4⟩ := List.cons.inj e1'
      cases e3
      have pin : (c, k) ∈ L1 := pw.mem_iff.mp (by rw [e2']; simp)
      have ndw : (Lw.map (·.2)).Nodup := (pw.map (·.2)).nodup_iff.mpr R1.nd
      have kd : k ∉ Ld.map (·.2) := fun z => by
        rw [e2', List.map_append, List.nodup_append] at ndw
        exact ndw.2.2 k z k (by simp) rfl
      have hT : IsT P w h' k c := isT_same (R1.tup _ pin) ho hd sb
      have R1' : SetX P w h' l L1 _ p1 t1 := R1.keep (fun o e => (sb.2 l ne.symm).trans e) fun p hp => isT_same (R1.tup p hp) ho hd sb
      have inU : ∀ p, p ∈ L' → p.2 ∈ U := fun p hp => (sub p hp).elim (u1 p) (u2 p)
      have lenU : L'.length ≤ 31 := by
        have := fewOf (L'.map (·.2)) U R'.nd fun k hk => by
          obtain ⟨p, hp, rfl⟩ := List.mem_map.mp hk
          exact inU p hp
        rw [List.length_map] at this
        omega
      have kL : k ∈ L'.map (·.2) ↔ k ∈ L.map (·.2) := by
        rw [mem k]
        unfold Alone
        constructor
        · rintro (⟨z, _⟩ | ⟨z, _⟩)
          · exact absurd z kd
          · exact z
        · exact fun z => .inr ⟨z, kd⟩
      have memE : ∀ j, j ∈ (Ld ++ [(c, k)]).map (·.2) ↔ j ∈ Ld.map (·.2) ∨ j = k := fun j => by
        rw [List.map_append, List.mem_append]
        simp
      dsimp only
      refine wpAny_bind ?_
      refine wpAny_holding (wpAny_bind (less_X (s := { s with heap := h' }) R' hT hu lenU (fun hn => ?_) fun i p h2 es2 ep2 t2 hp hpk sb2 R2 => ?_))
      · refine wp_if_pos (by decide) ?_
        have few2 : L'.length + 1 ≤ 31 := by
          have := fewOf (k :: L'.map (·.2)) U (List.nodup_cons.mpr ⟨hn, R'.nd⟩) fun j hj => by
            rcases List.mem_cons.mp hj with z | z
            · rw [z]; exact u1 _ pin
            · obtain ⟨p, hp, rfl⟩ := List.mem_map.mp z
              exact inU p hp
          rw [List.length_cons, List.length_map] at this
          omega
        refine wpAny_bind (more_X (s := { s with heap := h' }) R' hT hu few2 hn fun h2 L2 es2 ep2 t2 sb2 R2 pm2 => ?_)
        refine wpAny_pure ?_
        have R1'' : SetX P w h2 l L1 _ p1 t1 := R1'.keep (fun o e => (sb2.2 l ne.symm).trans e) fun p hp => isT_but R' (R1'.tup p hp) sb2
        refine wpAny_bind (unchanged_X (s := { s with heap := h2 }) R1'' id (wpAny_pure ?_))
        refine ⟨Ld ++ [(c, k)], Lr, h2, L2, es2, ep2, t2, e4, by rw [e2', List.append_assoc]; rfl, rfl, sb.trans sb2, R2, fun p hp => ?_, fun j => ?_⟩
        · rcases List.mem_cons.mp (pm2.mem_iff.mp hp) with z | z
          · rw [z]; exact .inl pin
          · exact sub p z
        · have e : j ∈ L2.map (·.2) ↔ j = k ∨ j ∈ L'.map (·.2) := by
            rw [(pm2.map (·.2)).mem_iff, List.map_cons, List.mem_cons]
          rw [e, mem j]
          unfold Alone
          rw [memE]
          have nk : k ∉ L.map (·.2) := fun z => hn (kL.mpr z)
          constructor
          · rintro (z | ⟨z1, z2⟩ | ⟨z1, z2⟩)
            · exact .inl ⟨.inr z, by rw [z]; exact nk⟩
            · exact .inl ⟨.inl z1, z2⟩
            · exact .inr ⟨z1, fun y => y.elim z2 fun y => nk (by rw [← y]; exact z1)⟩
          · rintro (⟨z1 | z1, z2⟩ | ⟨z1, z2⟩)
            · exact .inr (.inl ⟨z1, z2⟩)
            · exact .inl z1
            · exact .inr (.inr ⟨z1, fun y => z2 (.inl y)⟩)
      · refine wp_if_neg (by decide) ?_
        refine wpAny_pure ?_
        have R1'' : SetX P w h2 l L1 _ p1 t1 := R1'.keep (fun o e => (sb2.2 l ne.symm).trans e) fun p hp => isT_but R' (R1'.tup p hp) sb2
        refine wpAny_bind (unchanged_X (s := { s with heap := h2 }) R1'' id (wpAny_pure ?_))
        refine ⟨Ld ++ [(c, k)], Lr, h2, L'.eraseIdx i, es2, ep2, t2, e4, by rw [e2', List.append_assoc]; rfl, rfl, sb.trans sb2, R2, fun p hp => sub p (List.mem_of_mem_eraseIdx hp), fun j => ?_⟩
        have inL : k ∈ L.map (·.2) := kL.mp (List.mem_map.mpr ⟨p, List.mem_of_getElem? hp, hpk⟩)
        have e : j ∈ (L'.eraseIdx i).map (·.2) ↔ j ∈ L'.map (·.2) ∧ j ≠ k := by
          have hi : (L'.map (·.2))[i]? = some k := by rw [List.getElem?_map, hp, ← hpk]; rfl
          rw [← map_erase]
          obtain ⟨il, ik⟩ := List.getElem?_eq_some_iff.mp hi
          rw [List.mem_eraseIdx_iff_getElem]
          constructor
          · rintro ⟨n, hn, hne, rfl⟩
            exact ⟨List.getElem_mem _, fun z => hne ((List.getElem_inj R'.nd).mp (z.trans ik.symm))⟩
          · rintro ⟨hm, hne⟩
            obtain ⟨n, hn, rfl⟩ := List.getElem_of_mem hm
            exact ⟨n, hn, fun z => hne (by subst z; exact ik), rfl⟩
        rw [e, mem j]
        unfold Alone
        rw [memE]
        constructor
        · rintro ⟨⟨z1, z2⟩ | ⟨z1, z2⟩, ne2⟩
          · exact .inl ⟨.inl z1, z2⟩
          · exact .inr ⟨z1, fun y => y.elim z2 ne2⟩
        · rintro (⟨z1 | z1, z2⟩ | ⟨z1, z2⟩)
          · exact ⟨.inl ⟨z1, z2⟩, fun y => kd (by rw [← y]; exact z1)⟩
          · rw [z1] at z2
            exact absurd inL z2
          · exact ⟨.inr ⟨z1, fun y => z2 (.inl y)⟩, fun y => z2 (.inr y)⟩
  · rintro _ s' ⟨Ld, Lr, h', L', es', ep', t', e1', e2', rfl, sb, R', sub, mem⟩
    have : Lr = [] := List.map_eq_nil_iff.mp e1'.symm
    subst this
    rw [List.append_nil] at e2'
    subst e2'
    refine wpAny_pure (hQ h' L' es' ep' t' sb R' sub fun k => ?_)
    rw [mem k]
    unfold Alone
    rw [(pw.map (·.2)).mem_iff]
  · unfold Alone
    simp
end
end Xr

set_option Elab.async false
set_option linter.all false
set_option maxRecDepth 100000
/-! Xr7: the operator. -/
namespace Xr
open PySem PySem.Spec L2
open PyProof.Rows
theorem entry_set_xor : entryFor table "set.__xor__" = some Builtin.«frozenset.__xor__» := entryFor_alias (id' := "frozenset.__xor__") (by kernel_rfl) rfl (by decide +kernel) (by kernel_rfl)
section
variable {P : Program} {w : World} {A : Around} {E : Value → Shared → Prop} {s : Shared} {a b r l q : Addr} {L L1 L2 : List (Addr × List Int)} {es e1 e2 : Array (Int × Value)} {ep p1 p2 : Nat} {t t1 t2 : SetTable}
theorem anyset {l : Addr} (T : s.TypeIs (.ref l) "set") {Q : Bool → Shared → Prop} (h : Q true s) : wpAny (model P w) A (Builtin.Frozenset.isAnySet (.ref l)) Q E s := by
  unfold Builtin.Frozenset.isAnySet orM
  exact wpAny_bind (wpAny_isInstance T F.sub_set_set (wpAny_pure h))
theorem xor_X (R1 : SetX P w s.heap l L1 e1 p1 t1) (R2 : SetX P w s.heap q L2 e2 p2 t2) (hu : A.units + 1 < cLine) (U : List (List Int)) (hU : U.length ≤ 31) (u1 : ∀ p, p ∈ L1 → p.2 ∈ U) (u2 : ∀ p, p ∈ L2 → p.2 ∈ U) {Q : Value → Shared → Prop}
    (hQ : ∀ h' L' es' ep' t', (∀ b o, s.heap.get? b = some o → h'.get? b = some o) → SetX P w h' s.heap.objs.size L' es' ep' t' → (∀ p, p ∈ L' → p ∈ L1 ∨ p ∈ L2) → (∀ k, k ∈ L'.map (·.2) ↔ Alone (L1.map (·.2)) (L2.map (·.2)) k) → Q (.ref s.heap.objs.size) { s with heap := h' }) :
    wpAny (model P w) A (binaryOp .BitXor (.ref l) (.ref q)) Q E s := by
  obtain ⟨o1, ho1, hex1, hd1⟩ := R1.ob
  obtain ⟨o2, ho2, hex2, hd2⟩ := R2.ob
  have T1 : s.TypeIs (.ref l) "set" := ⟨o1, ho1, hex1.1⟩
  have T2 : s.TypeIs (.ref q) "set" := ⟨o2, ho2, hex2.1⟩
  refine wpAny_binaryOp_same T1 T2 F.fills_set_xor F.slot_set_xor ?_
  refine wpAny_call_entry F.slot_set_xor T1 entry_set_xor ?_ (F.args_set_xor_2 _ _)
  unfold Builtin.«frozenset.__xor__»
  refine wpAny_bind (wpAny_of_eq (a := ((.ref l, .ref q) : Value × Value)) rfl ?_)
  dsimp only
  simp only [Bool.false_eq_true, if_false]
  unfold andM
  refine wpAny_bind (wpAny_bind (anyset T1 ?_))
  refine anyset T2 ?_
  refine wp_if_neg (by decide) ?_
  try refine wpAny_bind (wpAny_pure ?_)
  generalize (toString "frozenset." ++ toString "__xor__" : String) = id
  refine wpAny_bind ?_
  have key : ∀ (Q' : Value → Shared → Prop), (∀ h' L' es' ep' t', (∀ b o, s.heap.get? b = some o → h'.get? b = some o) → SetX P w h' s.heap.objs.size L' es' ep' t' → (∀ p, p ∈ L' → p ∈ L1 ∨ p ∈ L2) → (∀ k, k ∈ L'.map (·.2) ↔ Alone (L1.map (·.2)) (L2.map (·.2)) k) → Q' (.ref s.heap.objs.size) { s with heap := h' }) →
      wpAny (model P w) A.in1 (do
        let c ← Builtin.Frozenset.baseOf l
        let res ← Builtin.Frozenset.newFrom id c (.ref q)
        let n ← Builtin.Frozenset.addrOf res
        holding [res] (Builtin.Frozenset.symmetricDifferenceUpdate id n (.ref l))
        pure res) Q' E s := by
    intro Q' hQ'
    unfold Builtin.Frozenset.baseOf
    refine wpAny_bind (wpAny_bind (wpAny_isInstance T1 F.sub_set_set ?_))
    refine wpAny_pure ?_
    simp only [if_true]
    unfold Builtin.Frozenset.newFrom
    refine wpAny_bind ?_
    unfold newSet
    refine wpAny_bind (wpAny_bind (wpAny_byText ?_))
    dsimp only
    simp only [newObj]
    refine wpAny_bind (wpAny_alloc (wpAny_pure ?_))
    have ho : (s.heap.push (newS w)).get? s.heap.objs.size = some (newS w) := Heap.get?_push_size _ rfl
    have old : ∀ b o, s.heap.get? b = some o → (s.heap.push (newS w)).get? b = some o := fun b o e => Heap.get?_push_of_some _ e
    have tk : ∀ {L : List (Addr × List Int)}, (∀ p, p ∈ L → IsT P w s.heap p.2 p.1) → ∀ p, p ∈ L → IsT P w (s.heap.push (newS w)) p.2 p.1 := fun h p hp => isT_keep (h p hp) old
    have R1n : SetX P w (s.heap.push (newS w)) l L1 e1 p1 t1 := R1.keep (fun o e => old _ _ e) (tk R1.tup)
    have R2n : SetX P w (s.heap.push (newS w)) q L2 e2 p2 t2 := R2.keep (fun o e => old _ _ e) (tk R2.tup)
    have nl : s.heap.objs.size ≠ l := fun e => Nat.lt_irrefl _ (by have := Heap.lt_size ho1; rw [← e] at this; exact this)
    have nq : s.heap.objs.size ≠ q := fun e => Nat.lt_irrefl _ (by have := Heap.lt_size ho2; rw [← e] at this; exact this)
    have T2n : Shared.TypeIs { s with heap := s.heap.push (newS w) } (.ref q) "set" := ⟨o2, old _ _ ho2, hex2.1⟩
    have len2 : L2.length ≤ 31 := by
      have := fewOf (L2.map (·.2)) U R2.nd fun k hk => by
        obtain ⟨p, hp, rfl⟩ := List.mem_map.mp hk
        exact u2 p hp
      rw [List.length_map] at this
      omega
    refine wpAny_bind (m := Builtin.Frozenset.addrOf (.ref s.heap.objs.size)) (wpAny_pure ?_)
    refine wpAny_bind (wpAny_holding ?_)
    unfold Builtin.Frozenset.updateFrom
    refine wpAny_bind (anyset T2n ?_)
    refine wp_if_pos rfl ?_
    refine wpAny_bind (m := Builtin.Frozenset.addrOf (.ref q)) (wpAny_pure ?_)
    unfold Builtin.Frozenset.merge
    refine wpAny_bind (wpAny_setEpoch_of (s := { s with heap := s.heap.push (newS w) }) (old _ _ ho2) hd2 R2.fits ?_)
    refine merge_X (s := { s with heap := s.heap.push (newS w) }) R2n nq len2 ho fun h1 La ea pa ta sb Ra pma => ?_
    refine wpAny_pure ?_
    refine wpAny_bind (m := Builtin.Frozenset.addrOf (.ref s.heap.objs.size)) (wpAny_pure ?_)
    refine wpAny_bind (wpAny_holding ?_)
    have R1a : SetX P w h1 l L1 e1 p1 t1 := R1n.keep (fun o e => (sb.2 l nl.symm).trans e) fun p hp => isT_same (R1n.tup p hp) ho rfl sb
    refine sdu_X (s := { s with heap := h1 }) R1a Ra nl hu U hU u1 (fun p hp => u2 p (pma.mem_iff.mp hp)) id fun h2 Lb eb pb tb sb2 Rb sub mem => ?_
    refine wpAny_pure (hQ' h2 Lb eb pb tb (fun b o e => ?_) Rb (fun p hp => (sub p hp).imp (fun z => z) fun z => pma.mem_iff.mp z) fun k => ?_)
    · have nb : b ≠ s.heap.objs.size := Nat.ne_of_lt (Heap.lt_size e)
      exact ((sb.trans sb2).2 b nb).trans (old _ _ e)
    · rw [mem k]
      unfold Alone
      rw [(pma.map (·.2)).mem_iff]
  exact key _ fun h' L' es' ep' t' k1 R' sub mem => wpAny_pure ⟨_, rfl, (fun z => by cases z), hQ h' L' es' ep' t' k1 R' sub mem⟩
end
end Xr

set_option Elab.async false
set_option linter.all false
set_option maxRecDepth 100000
/-! Xr8: sorted(set ^ set) as a function of the slots. -/
namespace Xr
open PySem PySem.Spec L2
open PyProof.Rows
section
variable {P : Program} {w : World} {A : Around} {E : Value → Shared → Prop} {s : Shared} {a b r l q : Addr} {L L1 L2 : List (Addr × List Int)} {es e1 e2 : Array (Int × Value)} {ep p1 p2 : Nat} {t t1 t2 : SetTable}
theorem SetX.ofT {h : Heap} (R : SetTR P w h a L es ep t) : SetX P w h a L es ep t :=
  ⟨R.ob, R.rows, TabX.of R.tab, R.nd, R.tup, R.plain, R.led, by
    have h1 := R.tab.sz
    have h2 := R.room
    have h3 := R.tab.dm
    rw [List.length_map] at h1
    unfold SetTable.fill
    rw [h3, h1]
    show (L.length + 0) * 5 < _
    omega⟩
/-- the set at a, but for the tuples -/
def SetX0 (P : Program) (w : World) (h : Heap) (a : Addr) (L : List (Addr × List Int)) : Prop := ∃ (es : Array (Int × Value)) (ep : Nat) (t : SetTable), (∃ o, h.get? a = some o ∧ o.ExactSet ∧ o.data = .set es ep t) ∧
  es.toList = rowsOf P w L ∧ TabX t (L.map fun p => thash P w p.2) ∧ (L.map (·.2)).Nodup ∧ t.plain = true ∧ (w.params.followText "set-order" = true ∨ t.led = true) ∧ t.fill * 5 < t.mask * 3
def SetXO (P : Program) (w : World) (a : Addr) (L : List (Addr × List Int)) : HO := .ext fun h => SetX0 P w h a L
theorem SetX.bare {h : Heap} (R : SetX P w h a L es ep t) : SetX0 P w h a L := ⟨es, ep, t, R.ob, R.rows, R.tab, R.nd, R.plain, R.led, R.room⟩
theorem SetX0.full {h : Heap} (R : SetX0 P w h a L) (ht : ∀ p, p ∈ L → IsT P w h p.2 p.1) : ∃ es ep t, SetX P w h a L es ep t := by
  obtain ⟨es, ep, t, h1, h2, h3, h4, h5, h6, h7⟩ := R
  exact ⟨es, ep, t, h1, h2, h3, h4, ht, h5, h6, h7⟩
theorem setXO_new {H : Hp} {h : Heap} (R : SetX0 P w h a L) : ObjOk P w H h a (SetXO P w a L) := by
  obtain ⟨es, ep, t, ⟨o, ho, x⟩, y⟩ := id R
  refine ⟨R, ⟨o, ho⟩, fun h1 h2 p k => ?_⟩
  obtain ⟨es', ep', t', ⟨o', ho', x'⟩, y'⟩ := p
  exact ⟨es', ep', t', ⟨o', k o' ho', x'⟩, y'⟩
/-- sorted(a set with dummies) -/
theorem sorted_X {Q : Value → Shared → Prop} (R : SetX P w s.heap a L es ep t) (hh : A.handled = none) (few : L.length < 64) {d : Nat} {B : Int} (hd1 : 1 ≤ d) (hB : ∀ p, p ∈ L → p.2.length = d ∧ TS.Bd B p.2)
    (hQ : ∀ s' p (out : Array Value) (c : Nat) (L' : List (Addr × List Int)), (∀ b o, s.heap.get? b = some o → s'.heap.get? b = some o) → s'.gens = s.gens → s'.os = s.os → s.heap.objs.size ≤ p →
      s'.heap.get? p = some (seqObj "list" out c) → out.toList = L'.map (fun q => Value.ref q.1) → L'.Perm L → L'.Pairwise (fun q r => TS.code B q.2 ≤ TS.code B r.2) → Q (.ref p) s') : wpAny (model P w) A (call (.builtin "sorted") [.ref a]) Q E s := by
  obtain ⟨o, ho, hex, hd⟩ := R.ob
  have len := rows_len R.rows
  refine Calls.call_function_entry kind_sorted plain_sorted entry_sorted (args_sorted1 _) ?_
  unfold Builtin.«sorted»
  refine wpAny_bind (m := checkCount "sorted" 1 1 _) (wpAny_pure ?_)
  refine wpAny_bind (collect_set (A := A.in1) hh ⟨o, ho, hex.1, hd⟩ R.fits (by unfold scanBound; omega) R.tab.ris R.led fun s1 vs k1 hz g1 o1 pm => ?_)
  have pm : vs.Perm (L.map fun q => Value.ref q.1) := by
    have e : es.toList.map (·.2) = L.map fun q => Value.ref q.1 := by
      rw [R.rows]
      unfold rowsOf
      rw [List.map_map]
      rfl
    rw [e] at pm
    exact pm
  obtain ⟨L0, rfl, pm0⟩ := permOf pm rfl
  have lv : (L0.map fun q => Value.ref q.1).length < 64 := by rw [List.length_map, pm0.length_eq]; exact few
  refine wpAny_bind (wpAny_newList ?_ (by rw [sizeLine_eq]; omega))
  have at_ : (s1.heap.push (seqObj "list" (L0.map fun q => Value.ref q.1).toArray 0)).get? s1.heap.objs.size = some (seqObj "list" (L0.map fun q => Value.ref q.1).toArray 0) := Heap.get?_push_size _ rfl
  have tk : ∀ q, q ∈ L → TS.TupInts (s1.heap.push (seqObj "list" (L0.map fun q => Value.ref q.1).toArray 0)) (.ref q.1) q.2 := fun q hq => tupInts_of (P := P) (w := w) (isT_keep (R.tup q hq) fun b u e => Heap.get?_push_of_some _ (k1 b u e))
  have ok : TS.TupsOk (s1.heap.push (seqObj "list" (L0.map fun q => Value.ref q.1).toArray 0)) d B (L0.map fun q => Value.ref q.1) := fun v hv => by
    obtain ⟨q, hq, rfl⟩ := List.mem_map.mp hv
    have hq := pm0.mem_iff.mp hq
    exact ⟨q.2, tk q hq, (hB q hq).1, (hB q hq).2⟩
  refine wpAny_bind (wpAny_holding (TS.call_sort_tups (s := { s1 with heap := s1.heap.push (seqObj "list" (L0.map fun q => Value.ref q.1).toArray 0) }) at_ lv hd1 ok fun out a1 a2 => ?_))
  obtain ⟨c, hc⟩ := sortedHeap_at (vs := L0.map fun q => Value.ref q.1) (out := out) at_
  obtain ⟨L', e', pm'⟩ := permOf a1 rfl
  have pL := pm'.trans pm0
  refine wpAny_pure ⟨_, rfl, hQ _ s1.heap.objs.size out c L' (fun b u e => ?_) g1 o1 hz hc e' pL ?_⟩
  · have q := k1 b u e
    have lt := Heap.lt_size q
    show (sortedHeap (s1.heap.push _) s1.heap.objs.size _ out).get? b = some u
    rw [sortedHeap_old (Nat.ne_of_lt lt) (by rw [size_push']; exact Nat.lt_succ_of_lt lt)]
    exact Heap.get?_push_of_some _ q
  · rw [e'] at a2
    refine List.Pairwise.imp_of_mem (fun {q r} hq hr hle => ?_) (List.pairwise_map.mp a2)
    have i1 := (tk q (pL.mem_iff.mp hq)).ints
    have i2 := (tk r (pL.mem_iff.mp hr)).ints
    rw [← i1, ← i2]
    exact hle
end
end Xr
namespace Fn
open PySem PySem.Spec L2 TS Xr
open PyProof.Rows hiding St
section
variable {X : Cx} {b : Bool} {e e1 e2 : Expr} {pos p : Pos} {mz m1 m2 : MZ}
def rXor (X : Cx) : R2 := fun x y H Q => ∃ (a c : Addr) (L1 L2 : List (Addr × List Int)) (U : List (List Int)), x = .ref a ∧ y = .ref c ∧ H a = some (SetTO X.prog X.w a L1) ∧ H c = some (SetTO X.prog X.w c L2) ∧
  (∀ p, p ∈ L1 → SqT X.K H p.1 (p.2.map V.int)) ∧ (∀ p, p ∈ L2 → SqT X.K H p.1 (p.2.map V.int)) ∧ U.length ≤ 31 ∧ (∀ p, p ∈ L1 → p.2 ∈ U) ∧ (∀ p, p ∈ L2 → p.2 ∈ U) ∧
  ∀ n L, H n = none → (∀ p, p ∈ L → p ∈ L1 ∨ p ∈ L2) → (L.map (·.2)).Nodup → (∀ k, k ∈ L.map (·.2) ↔ Alone (L1.map (·.2)) (L2.map (·.2)) k) → Q (.ref n) (upd H n (SetXO X.prog X.w n L))
theorem op_xor (hu : X.A.units + 65 < cLine) : OpR X (binaryOp .BitXor) (rXor X) := by
  rintro pins s σ H x y v u Q I rx ry ⟨a, c, L1, L2, U, rfl, rfl, h1, h2, t1, t2, hU, u1, u2, q⟩
  obtain rfl : v = .ref a := rx
  obtain rfl : u = .ref c := ry
  obtain ⟨_, _, _, R1⟩ := (show SetT0 X.prog X.w s.heap a L1 from (I.hok a _ h1).1).full fun p hp => I.isT (t1 p hp)
  obtain ⟨_, _, _, R2⟩ := (show SetT0 X.prog X.w s.heap c L2 from (I.hok c _ h2).1).full fun p hp => I.isT (t2 p hp)
  refine xor_X (SetX.ofT R1) (SetX.ofT R2) (by omega) U hU u1 u2 fun h' L' es' ep' t' k R' sub mem => ?_
  have new : H s.heap.objs.size = none := I.hok.fresh (Nat.le_refl _)
  exact ⟨.ref s.heap.objs.size, _, I.laid (t' := s.toks) k (Nat.le_refl _) (setXO_new R'.bare), rfl, q _ L' new sub R'.nd mem⟩
/-! sets with dummies -/
def denX (P : Program) (w : World) (K : PySem.W.Frag) (b : Bool) (m : MZ) : TE := fun σ H Q => ∃ ρ ks ρ' O, m ρ = some (ks, ρ') ∧ EnvR K O H σ ρ ∧
  ∀ a L H', a ∉ O → Post K O σ ρ H O σ ρ' H' → (b = true → ρ' = ρ ∧ Same H H') → H' a = some (SetXO P w a L) → L.length < 64 → (∀ p, p ∈ L → SqT K (hide O H') p.1 (p.2.map V.int)) → (L.map (·.2)).Nodup → (∀ k, k ∈ L.map (·.2) ↔ k ∈ ks) → Q (.ref a) H'
def SX (b : Bool) (X : Cx) (e : Expr) (m : MZ) : Prop := PE X e (denX X.prog X.w X.K b m)
def mXor (m1 m2 : MZ) : MZ := fun ρ => (m1 ρ).bind fun p => (m2 p.2).bind fun q => if (once (p.1 ++ q.1)).length ≤ 31 then some (p.1.filter (fun k => !decide (k ∈ q.1)) ++ q.1.filter (fun k => !decide (k ∈ p.1)), q.2) else none
theorem x_xor (hu : X.A.units + 65 < cLine) (h1 : SZ b X e1 m1) (h2 : SZ b X e2 m2) : SX b X (.BinOp e1 .BitXor e2 pos) (mXor m1 m2) := PE.imp (pe_op (op_xor hu) h1 h2) fun σ H Q q => by
  obtain ⟨ρ, ks, ρ', O, e, env, q⟩ := q
  unfold mXor at e
  obtain ⟨⟨k1, ρ1⟩, ea, e⟩ := Option.bind_eq_some_iff.mp e
  obtain ⟨⟨k2, ρ2⟩, eb, e⟩ := Option.bind_eq_some_iff.mp e
  split at e
  · rename_i hU
    have hU : (once (k1 ++ k2)).length ≤ 31 := hU
    cases e
    refine ⟨ρ, k1, ρ1, O, ea, env, fun a1 L1 H1 n1 P1 u1 o1 t1 nd1 g1 => ⟨ρ1, k2, ρ2, O, eb, P1.env, fun a2 L2 H2 n2 P2 u2 o2 t2 nd2 g2 => ?_⟩⟩
    have t1' : ∀ p, p ∈ L1 → SqT X.K (hide O H2) p.1 (p.2.map V.int) := fun p hp => sqT_mono (P2.hid P1.env) (t1 p hp)
    refine ⟨a1, a2, L1, L2, once (k1 ++ k2), rfl, rfl, P2.ex _ _ (fun w => n1 (w.mem P1.env)) o1, o2, fun p hp => sqT_mono hide_sub (t1' p hp), fun p hp => sqT_mono hide_sub (t2 p hp), hU,
      fun p hp => (once_mem _ _).mpr (List.mem_append_left _ ((g1 _).mp (List.mem_map_of_mem hp))), fun p hp => (once_mem _ _).mpr (List.mem_append_right _ ((g2 _).mp (List.mem_map_of_mem hp))), fun n L hn sub nd mem => ?_⟩
    have nO : n ∉ O := fun z => by
      obtain ⟨o, ho⟩ := P2.env.oa n z
      rw [hn] at ho
      cases ho
    have sm : Same H2 (upd H2 n (SetXO X.prog X.w n L)) := same_new hn
    have mem' : ∀ k, k ∈ L.map (·.2) ↔ k ∈ k1.filter (fun k => !decide (k ∈ k2)) ++ k2.filter (fun k => !decide (k ∈ k1)) := fun k => by
      rw [mem k, List.mem_append, List.mem_filter, List.mem_filter]
      unfold Alone
      rw [g1 k, g2 k]
      simp
    have few : L.length < 64 := by
      have := fewOf (L.map (·.2)) (once (k1 ++ k2)) nd fun k hk => by
        rw [once_mem, List.mem_append]
        rcases (mem k).mp hk with ⟨z, _⟩ | ⟨z, _⟩
        · exact .inl ((g1 k).mp z)
        · exact .inr ((g2 k).mp z)
      rw [List.length_map] at this
      omega
    refine q n L _ nO ((P1.trans env P2).more env sm) (fun hb => ⟨(u2 hb).1.trans (u1 hb).1, ((u1 hb).2.trans (u2 hb).2).trans sm⟩) upd_same few (fun p hp => ?_) nd mem'
    rcases sub p hp with z | z
    · exact sqT_mono (same_hide sm) (t1' p z)
    · exact sqT_mono (same_hide sm) (t2 p z)
  · cases e
def rSortedX (X : Cx) : List V → Hp → VK → Prop := fun vs H Q => ∃ (a : Addr) (L : List (Addr × List Int)) (d : Nat) (B : Int), vs = [V.ref a] ∧ H a = some (SetXO X.prog X.w a L) ∧ L.length < 64 ∧ (∀ p, p ∈ L → SqT X.K H p.1 (p.2.map V.int)) ∧ 1 ≤ d ∧ (∀ p, p ∈ L → p.2.length = d ∧ TS.Bd B p.2) ∧
  ∀ (L' : List (Addr × List Int)) (p : Addr), L'.Perm L → L'.Pairwise (fun q r => TS.code B q.2 ≤ TS.code B r.2) → H p = none → Q (.ref p) (upd H p (.lst (L'.map fun q => V.ref q.1)))
theorem cr_sortedX (hc : X.calm = true) : CallR X (.builtin "sorted") (rSortedX X) := by
  intro ps s σ H vs us Q I rel told
  obtain ⟨a, L, d, B, rfl, hH, few, hL, h1, hB, q⟩ := told
  obtain ⟨_, _, _, R⟩ := (show SetX0 X.prog X.w s.heap a L from (I.hok a _ hH).1).full fun p hp => I.isT (hL p hp)
  rw [Vals.ref1 rel]
  refine sorted_X R (I.ok.hd hc) few h1 hB fun s' p out c L' k g o hp hg hout pm pw => ?_
  have len : (L'.map fun q => V.ref q.1).length ≤ sizeLine := by rw [List.length_map, pm.length_eq, sizeLine_eq]; omega
  have new : H p = none := I.hok.fresh hp
  have hv : Vals (L'.map fun q => V.ref q.1) out.toList := by rw [hout]; exact vals_of_refs L'
  have J : Inv X ps σ (upd H p (.lst (L'.map fun q => V.ref q.1))) { s with heap := s'.heap, gens := s'.gens, drawn := s'.drawn, toks := s'.toks } :=
    I.call (ch := []) (Un.laid k hp new) (I.hok.laid k hp ⟨len, out.toList, c, hv, hg⟩) (by rw [g]; exact I.bare) (fun _ z => nomatch z)
  have e : s' = { s with heap := s'.heap, gens := s'.gens, drawn := s'.drawn, toks := s'.toks } := by
    cases s'
    cases s
    cases o
    rfl
  rw [e]
  exact ⟨.ref p, _, J, rfl, q L' p pm pw new⟩
theorem s_sortedX (hc : X.calm = true) (hg : Gl X "sorted") (hm : X.mg "sorted" = none) (h : SX b X e mz) (he : starEach [e] X.env = (false, eval e X.env) :: starEach [] X.env := by rfl) (hpl : (backTo pos (starEach [] X.env)).any (·.1) = false := by rfl) :
    SE b X (.Call (.Name "sorted" p) [e] [] pos) (mSortZ mz) := PE.imp (pe_callB (cr_sortedX hc) hg hm (by decide +kernel) (pa_cons h pa_nil he) (by decide) (by decide) he hpl) fun σ H Q q => by
  obtain ⟨ρ, d, ρ', O, e1, env, q⟩ := q
  unfold mSortZ at e1
  obtain ⟨⟨ks, ρ1⟩, ea, e1⟩ := Option.bind_eq_some_iff.mp e1
  split at e1
  · rename_i hall
    cases e1
    have hok : ∀ k, k ∈ ks → okPair k = true := List.all_eq_true.mp hall
    refine ⟨ρ, ks, ρ1, O, ea, env, fun a L H1 na P1 u1 hH few hL nd mem => ?_⟩
    have okL : ∀ q, q ∈ L → okPair q.2 = true := fun q hq => hok _ ((mem _).mp (List.mem_map_of_mem hq))
    refine ⟨a, L, 2, 64, rfl, hH, few, fun q hq => sqT_mono hide_sub (hL q hq), by decide, fun q hq => ?_, fun L' r pm pw nr => ?_⟩
    · obtain ⟨x, y, e, h1, h2, h3, h4⟩ := okPair_of (okL q hq)
      rw [e]
      refine ⟨rfl, fun z hz => ?_⟩
      have : z = x ∨ z = y := by simpa using hz
      rcases this with z1 | z1 <;> subst z1
      · exact ⟨h1, h2⟩
      · exact ⟨h3, h4⟩
    · have inL : ∀ q, q ∈ L' → q ∈ L := fun q hq => pm.mem_iff.mp hq
      have e : L'.map (·.2) = canon ks := by
        refine rise_eq (rise_of (fun x hx => ?_) ((pm.map (·.2)).nodup_iff.mpr nd) (List.pairwise_map.mpr pw)) (canon_ok hok).2 fun j => ?_
        · obtain ⟨q, hq, rfl⟩ := List.mem_map.mp hx
          exact okL q (inL q hq)
        · rw [(pm.map (·.2)).mem_iff, mem j, (canon_ok hok).1 j]
      refine q _ _ (P1.more env (same_new nr)) (fun hb => ⟨(u1 hb).1, (u1 hb).2.trans (same_new nr)⟩) (new_lst P1.env.oa nr ?_)
      rw [← e, List.map_map]
      have each : ∀ M : List (Addr × List Int), (∀ q, q ∈ M → q ∈ L) → DpAll X.K (hide O H1) (M.map fun q => V.ref q.1) (M.map (tupD ∘ fun q => q.2)) := fun M => by
        induction M with
        | nil => exact fun _ => .nil
        | cons q M ih => exact fun hs => .cons (tupD_dp (hL q (hs q List.mem_cons_self))) (ih fun z hz => hs z (List.mem_cons_of_mem _ hz))
      exact each L' inL
  · cases e1
end
end Fn

set_option Elab.async false
set_option linter.all false
set_option maxRecDepth 100000
/-! Zt1: dict(zip(text, text)): what zip draws from two texts, as pairs. -/
namespace Zt
open PySem PySem.Spec L2
section
variable {P : Program} {w : World} {A : Around} {E : Value → Shared → Prop} {s : Shared} {z TI TO T i1 i2 : Addr} {f : Bool} {oT : Obj}
theorem next_zip {Q : Option Value → Shared → Prop} (Ty : s.TypeIs (.ref z) "zip") (h : wpAny (model P w) A.in1 (Builtin.«zip.__next__» { pos := [.ref z] }) (fun fin s' => ∃ v, fin = .done (.ret v) ∧ Q (some v) s')
    (fun e s' => wpAny (model P w) A (isInstance e (.type "StopIteration")) (fun b s2 => if b = true then Q none s2 else E e s2) E s') s) : wpAny (model P w) A (pyNext (.ref z)) Q E s := by
  unfold pyNext
  refine wpAny_bind (wpAny_attempt ?_)
  refine wpAny_callSpecial?_slot Ty F.slot_zip_next ?_
  refine wpAny_call_entry F.slot_zip_next Ty F.entry_zip_next ?_ (F.args_zip_next_1 _)
  refine wpAny_mono h ?_ ?_
  · rintro fin s' ⟨v, e, q⟩
    exact ⟨v, e, wpAny_pure q⟩
  · intro e s' q
    refine wpAny_bind (wpAny_mono q ?_ fun _ _ y => y)
    intro b s2 y
    cases b with
    | true => exact wpAny_pure y
    | false => exact wpAny_throw y
theorem zipBody {Q : PySem.Fin → Shared → Prop} (hz : IsZipHeld s.heap z TI TO T f) (hT : s.heap.get? T = some oT) (hTI : IsTupOf2 s.heap TI (.ref i1) (.ref i2))
    (h : ∀ h' : Heap, IsZipHeld h' z TI TO T true → Heap.SameBut z s.heap h' → wpAny (model P w) A (Builtin.SmallTypes.nextOf (.ref i1)) (fun x s1 => wpAny (model P w) A (Builtin.SmallTypes.nextOf (.ref i2)) (fun y s2 =>
      Q (.done (.ret (.ref s2.heap.objs.size))) { s2 with heap := s2.heap.push { cls := .type "tuple", data := .seq #[x, y] } }) E s1) E { s with heap := h' }) :
    wpAny (model P w) A (Builtin.«zip.__next__» { pos := [.ref z] }) Q E s := by
  unfold Builtin.«zip.__next__»
  refine wpAny_bind (wpAny_of_eq (a := ((.ref z, []) : Value × List Value)) rfl ?_)
  dsimp only
  refine wpAny_bind (wpAny_field (x := .bool false) hz rfl rfl ?_)
  refine wpAny_bind (wpAny_field (x := .ref TI) hz rfl rfl ?_)
  refine wpAny_bind (wpAny_seqItems hTI rfl ?_)
  dsimp only
  have e0 : (#[Value.ref i1, Value.ref i2] : Array Value).isEmpty = false := rfl
  have e1 : (Value.bool false == Value.bool true) = false := by decide
  simp only [e0, e1, Bool.false_eq_true, if_false]
  refine wpAny_bind (wpAny_tupleHeld_zip hz hT fun h' hz' sb => ?_)
  simp only [Bool.false_eq_true, if_false]
  have key := h h' hz' sb
  rw [← Array.forIn_toList]
  show wpAny _ _ (forIn [Value.ref i1, Value.ref i2] _ _ >>= _) _ _ _
  simp only [List.forIn_cons, List.forIn_nil]
  refine wpAny_bind ?_
  refine wpAny_bind (wpAny_bind (wpAny_holding ?_))
  show wpAny _ _ (Builtin.SmallTypes.nextOf (.ref i1) >>= fun x => pure (some x)) _ _ _
  refine wpAny_bind (wpAny_mono key ?_ fun _ _ y => y)
  intro x s1 k1
  refine wpAny_pure (wpAny_pure ?_)
  dsimp only
  refine wpAny_bind (wpAny_bind (wpAny_holding ?_))
  show wpAny _ _ (Builtin.SmallTypes.nextOf (.ref i2) >>= fun x => pure (some x)) _ _ _
  refine wpAny_bind (wpAny_mono k1 ?_ fun _ _ y => y)
  intro y s2 k2
  refine wpAny_pure (wpAny_pure (wpAny_pure ?_))
  dsimp only
  refine wpAny_bind (wpAny_newTuple ?_ (by show 2 ≤ _; rw [sizeLine_eq]; decide))
  exact wpAny_pure k2
theorem zipNext {Q : PySem.Fin → Shared → Prop} {n1 n2 i : Nat} {P1 P2 : Nat → Value → Prop} {St1 St2 : Nat → Heap → Prop} (S : ZipSep2 z TI TO i1 i2 [i1] [i2]) (D1 : Draws P w A i1 [i1] n1 P1 St1) (D2 : Draws P w A i2 [i2] n2 P2 St2)
    (hz : IsZipHeld s.heap z TI TO T f) (hT : s.heap.get? T = some oT) (hTI : IsTupOf2 s.heap TI (.ref i1) (.ref i2)) (s1 : St1 i s.heap) (s2 : St2 i s.heap) (l1 : i ≤ n1) (l2 : i ≤ n2)
    (hq : i < n1 → i < n2 → ∀ (h' : Heap) (tk : Nat) (x y : Value) (T' : Addr), P1 i x → P2 i y → IsZipHeld h' z TI TO T true → St1 (i + 1) h' → St2 (i + 1) h' → IsTupOf2 h' T' x y → s.heap.get? T' = none →
      (∀ (b : Addr) (o : Obj), b ≠ z → b ≠ i1 → b ≠ i2 → s.heap.get? b = some o → h'.get? b = some o) → Q (.done (.ret (.ref T'))) { s with heap := h', toks := tk })
    (he : i = n1 ∨ i = n2 → ∀ (h' : Heap) (tk : Nat) (e : Addr), (∃ o, h'.get? e = some o ∧ o.cls = .type "StopIteration") → (∀ (b : Addr) (o : Obj), b ≠ z → b ≠ i1 → b ≠ i2 → s.heap.get? b = some o → h'.get? b = some o) → E (.ref e) { s with heap := h', toks := tk }) :
    wpAny (model P w) A (Builtin.«zip.__next__» { pos := [.ref z] }) Q E s := by
  refine zipBody hz hT hTI fun h1 hz1 sb1 => ?_
  have k1 : ∀ (b : Addr) (o : Obj), b ≠ z → s.heap.get? b = some o → h1.get? b = some o := fun b o n e => (sb1.2 b n).trans e
  have s1' : St1 i h1 := D1.frame i _ _ s1 fun b m o e => k1 b o (fun z => S.zf1 (z ▸ m)) e
  have s2' : St2 i h1 := D2.frame i _ _ s2 fun b m o e => k1 b o (fun z => S.zf2 (z ▸ m)) e
  by_cases c1 : i < n1
  · refine D1.item i _ _ _ c1 s1' fun x h2 t2 p1 s12 sb2 => ?_
    have k2 : ∀ (b : Addr) (o : Obj), b ≠ i1 → h1.get? b = some o → h2.get? b = some o := fun b o n e => (sb2.2 b n).trans e
    have s22 : St2 i h2 := D2.frame i _ _ s2' fun b m o e => k2 b o (fun z => S.sep1_2 (z ▸ m)) e
    by_cases c2 : i < n2
    · refine D2.item i _ _ _ c2 s22 fun y h3 t3 p2 s23 sb3 => ?_
      have k3 : ∀ (b : Addr) (o : Obj), b ≠ i2 → h2.get? b = some o → h3.get? b = some o := fun b o n e => (sb3.2 b n).trans e
      have s13 : St1 (i + 1) h3 := D1.frame _ _ _ s12 fun b m o e => k3 b o (fun z => S.sep2_1 (z ▸ m)) e
      have k4 : ∀ (b : Addr) (o : Obj), h3.get? b = some o → (h3.push { cls := .type "tuple", data := .seq #[x, y] }).get? b = some o := fun b o e => Heap.get?_push_of_some _ e
      have zi1 : z ≠ i1 := fun e => S.zf1 (by rw [e]; exact S.mem1)
      have zi2 : z ≠ i2 := fun e => S.zf2 (by rw [e]; exact S.mem2)
      have all : ∀ (b : Addr) (o : Obj), b ≠ z → b ≠ i1 → b ≠ i2 → s.heap.get? b = some o → (h3.push { cls := .type "tuple", data := .seq #[x, y] }).get? b = some o := fun b o n0 n1 n2 e => k4 _ _ (k3 _ _ n2 (k2 _ _ n1 (k1 _ _ n0 e)))
      refine hq c1 c2 (h3.push { cls := .type "tuple", data := .seq #[x, y] }) t3 x y h3.objs.size p1 p2 (k4 _ _ (k3 _ _ zi2 (k2 _ _ zi1 hz1))) (D1.frame _ _ _ s13 fun b _ o e => k4 _ _ e) (D2.frame _ _ _ s23 fun b _ o e => k4 _ _ e) (Heap.get?_push_size _ rfl) ?_ all
      cases e : s.heap.get? h3.objs.size with
      | none => rfl
      | some o =>
        exfalso
        have lt : s.heap.objs.size ≤ h3.objs.size := by
          rw [← sb1.1]
          show h1.objs.size ≤ _
          rw [← sb2.1, ← sb3.1]
          exact Nat.le_refl _
        exact Nat.lt_irrefl _ (Nat.lt_of_lt_of_le (Heap.lt_size e) lt)
    · have c2' : i = n2 := by omega
      subst c2'
      refine D2.done _ _ _ s22 fun h3 e xb st => ?_
      exact he (.inr rfl) h3 _ e st fun b o n0 n1 n2 g => xb b o n2 (k2 _ _ n1 (k1 _ _ n0 g))
  · have c1' : i = n1 := by omega
    subst c1'
    refine D1.done _ _ _ s1' fun h2 e xb st => ?_
    exact he (.inl rfl) h2 _ e st fun b o n0 n1 n2 g => xb b o n1 (k1 _ _ n0 g)
/-! two texts -/
def ztRel (x y : Str) (i : Nat) (k v : Value) : Prop := ∃ c d t u, x.cps[i]? = some c ∧ y.cps[i]? = some d ∧ k = .str ⟨#[c]⟩ t ∧ v = .str ⟨#[d]⟩ u
def ztOK (z TI TO i1 i2 : Addr) (x y : Str) (tx ty : Tok) (h : Heap) : Prop :=
  IsZip h z TI TO .none ∧ IsTupOf2 h TI (.ref i1) (.ref i2) ∧ (∃ a b, IsTupOf2 h TO a b) ∧ h.IsStrIter i1 (strIterType x) x tx 0 ∧ h.IsStrIter i2 (strIterType y) y ty 0
def ztSt (d z TI TO i1 i2 : Addr) (x y : Str) (tx ty : Tok) (i : Nat) (h : Heap) : Prop :=
  (IsZip h z TI TO .none ∨ ∃ T f oT, IsZipHeld h z TI TO T f ∧ h.get? T = some oT ∧ T ≠ d ∧ T ≠ z ∧ T ≠ i1 ∧ T ≠ i2) ∧ IsTupOf2 h TI (.ref i1) (.ref i2) ∧ (∃ a b, IsTupOf2 h TO a b) ∧ h.IsStrIter i1 (strIterType x) x tx i ∧ h.IsStrIter i2 (strIterType y) y ty i
theorem strIter_keep {h h' : Heap} {a : Addr} {T : String} {x : Str} {t : Tok} {i : Nat} (k : ∀ o, h.get? a = some o → h'.get? a = some o) (I : h.IsStrIter a T x t i) : h'.IsStrIter a T x t i := by
  obtain ⟨o, h1, h2, h3⟩ := I
  exact ⟨o, k o h1, h2, h3⟩
theorem pairSrc_zipT {x y : Str} {tx ty : Tok} {d : Addr} (hh : A.handled = none) (S : ZipSep2 z TI TO i1 i2 [i1] [i2]) (nz : d ≠ z) (nTI : d ≠ TI) (nTO : d ≠ TO) (n1 : d ≠ i1) (n2 : d ≠ i2) :
    PairSrc P w A z d [z, TO, i1, i2] (min x.cps.size y.cps.size) (ztRel x y) (ztSt d z TI TO i1 i2 x y tx ty) where
  off := by simp [nz, nTO, n1, n2]
  frame := fun i h h' o k => by
    obtain ⟨hz, hI, ⟨a, b, hO⟩, h1, h2⟩ := o
    refine ⟨?_, k _ _ nTI.symm hI, ⟨a, b, k _ _ nTO.symm hO⟩, strIter_keep (fun o => k _ o n1.symm) h1, strIter_keep (fun o => k _ o n2.symm) h2⟩
    rcases hz with hz | ⟨T, f, oT, g1, g2, g3⟩
    · exact .inl (k _ _ nz.symm hz)
    · exact .inr ⟨T, f, oT, k _ _ nz.symm g1, k _ _ g3.1 g2, g3⟩
  item := fun i s Q E hi st hd q => by
    obtain ⟨hz, hI, ⟨a, b, hO⟩, h1, h2⟩ := st
    have l1 : i < x.cps.size := by omega
    have l2 : i < y.cps.size := by omega
    have rel : ∀ (k v : Value), (∃ c u, x.cps[i]? = some c ∧ k = .str ⟨#[c]⟩ u) → (∃ c u, y.cps[i]? = some c ∧ v = .str ⟨#[c]⟩ u) → ztRel x y i k v := fun k v ⟨c, t, e1, e2⟩ ⟨c', t', e3, e4⟩ => ⟨c, c', t, t', e1, e3, e2, e4⟩
    rcases hz with hz | ⟨T, f, oT, g1, g2, g3⟩
    · refine wpAny_pyNext_zipD2_item S (Draws.text (A := A.in1) hh i1 x tx) (Draws.text (A := A.in1) hh i2 y ty) hz hI hO h1 h2 l1 l2 fun u v h' tk p1 p2 z1 o1 s1 s2 t1 sz k => ?_
      refine q _ u v h' tk (rel u v p1 p2) (.inl ⟨_, t1, rfl, _, rfl⟩) ⟨.inr ⟨_, _, _, z1, t1, ?_, ?_, ?_, ?_⟩, ?_, ⟨_, _, o1⟩, s1, s2⟩ fun b o nb e => ?_
      · exact Nat.ne_of_gt hd
      · exact Nat.ne_of_gt (Heap.lt_size hz)
      · obtain ⟨o, e, _⟩ := h1; exact Nat.ne_of_gt (Heap.lt_size e)
      · obtain ⟨o, e, _⟩ := h2; exact Nat.ne_of_gt (Heap.lt_size e)
      · exact k _ _ S.TIz S.TITO S.TIi1 S.TIi2 hI
      · simp only [List.mem_cons, List.not_mem_nil, or_false, not_or] at nb
        exact k b o nb.1 nb.2.1 nb.2.2.1 nb.2.2.2 e
    · have zTO : TO ≠ z := S.TOz
      have TO1 : TO ≠ i1 := fun e => S.Tf1 (by rw [e]; exact S.mem1)
      have TO2 : TO ≠ i2 := fun e => S.Tf2 (by rw [e]; exact S.mem2)
      refine next_zip ⟨_, g1, rfl⟩ (zipNext S (Draws.text (A := A.in1) hh i1 x tx) (Draws.text (A := A.in1) hh i2 y ty) g1 g2 hI h1 h2 (Nat.le_of_lt l1) (Nat.le_of_lt l2) (fun _ _ h' tk u v T' p1 p2 z1 s1 s2 t1 nT k => ?_) fun c => ?_)
      · refine ⟨_, rfl, q T' u v h' tk (rel u v p1 p2) (.inl ⟨_, t1, rfl, _, rfl⟩) ⟨.inr ⟨T, true, oT, z1, k _ _ g3.2.1 g3.2.2.1 g3.2.2.2 g2, g3⟩, k _ _ S.TIz S.TIi1 S.TIi2 hI, ⟨a, b, k _ _ zTO TO1 TO2 hO⟩, s1, s2⟩ fun b o nb e => ?_⟩
        simp only [List.mem_cons, List.not_mem_nil, or_false, not_or] at nb
        exact k b o nb.1 nb.2.2.1 nb.2.2.2 e
      · exfalso
        omega
  done := fun s Q E st q => by
    obtain ⟨hz, hI, ⟨a, b, hO⟩, h1, h2⟩ := st
    have c : min x.cps.size y.cps.size = x.cps.size ∨ min x.cps.size y.cps.size = y.cps.size := by omega
    rcases hz with hz | ⟨T, f, oT, g1, g2, g3⟩
    · refine wpAny_pyNext_zipD2_end S (Draws.text (A := A.in1) hh i1 x tx) (Draws.text (A := A.in1) hh i2 y ty) hz hI hO h1 h2 (by omega) (by omega) c fun h' tk k => ?_
      refine q h' tk fun b o nb e => ?_
      simp only [List.mem_cons, List.not_mem_nil, or_false, not_or] at nb
      exact k b o nb.1 nb.2.1 nb.2.2.1 nb.2.2.2 e
    · refine next_zip ⟨_, g1, rfl⟩ (zipNext S (Draws.text (A := A.in1) hh i1 x tx) (Draws.text (A := A.in1) hh i2 y ty) g1 g2 hI h1 h2 (by omega) (by omega) (fun l1 l2 => ?_) fun _ h' tk e ⟨oe, he, hc⟩ k => ?_)
      · exfalso
        omega
      · refine wpAny_isInstance (T := "StopIteration") (b := true) ⟨oe, he, hc⟩ (by kernel_rfl) ?_
        rw [if_pos rfl]
        refine q h' tk fun b o nb e => ?_
        simp only [List.mem_cons, List.not_mem_nil, or_false, not_or] at nb
        exact k b o nb.1 nb.2.2.1 nb.2.2.2 e
theorem pairArg_zipT {x y : Str} {tx ty : Tok} (S : ZipSep2 z TI TO i1 i2 [i1] [i2]) :
    PairArg P w "zip" z [z, TI, TO, i1, i2] [z, TO, i1, i2] (min x.cps.size y.cps.size) (ztRel x y) (ztOK z TI TO i1 i2 x y tx ty) where
  type := fun s h => ⟨_, h.1, rfl⟩
  notDict := by decide
  keep := fun h h' o k => by
    obtain ⟨hz, hI, ⟨a, b, hO⟩, h1, h2⟩ := o
    exact ⟨k _ _ hz, k _ _ hI, ⟨a, b, k _ _ hO⟩, strIter_keep (fun o => k _ o) h1, strIter_keep (fun o => k _ o) h2⟩
  there := fun h o b m => by
    obtain ⟨hz, hI, ⟨a, c, hO⟩, ⟨o1, h1, _⟩, ⟨o2, h2, _⟩⟩ := o
    simp only [List.mem_cons, List.not_mem_nil, or_false] at m
    rcases m with m | m | m | m | m <;> subst m
    · exact ⟨_, hz⟩
    · exact ⟨_, hI⟩
    · exact ⟨_, hO⟩
    · exact ⟨_, h1⟩
    · exact ⟨_, h2⟩
  sub := fun b m => by
    simp only [List.mem_cons, List.not_mem_nil, or_false] at m ⊢
    rcases m with m | m | m | m
    · exact .inl m
    · exact .inr (.inr (.inl m))
    · exact .inr (.inr (.inr (.inl m)))
    · exact .inr (.inr (.inr (.inr m)))
  noKeys := fun A s Q E hh ok q => getAttrOr_miss_zip ok.1 rfl rfl rfl (by kernel_rfl) (by decide) hh q
  iter := fun A s d Q E hh ok hd nf q => by
    obtain ⟨hz, hI, hO, h1, h2⟩ := ok
    simp only [List.mem_cons, List.not_mem_nil, or_false, not_or] at nf
    exact wpAny_pyIter_zip hz (q z [z, TO, i1, i2] _ s.heap s.toks (pairSrc_zipT (x := x) (y := y) (tx := tx) (ty := ty) hh S nf.1 nf.2.1 nf.2.2.1 nf.2.2.2.1 nf.2.2.2.2) ⟨.inl hz, hI, hO, h1, h2⟩ (fun _ _ e => e) fun b m => .inl m)
/-! the two calls, over the layer -/
variable {X : Cx}
def objO (a : Addr) (o : Obj) : HO := .ext fun h => h.get? a = some o
theorem objO_ok {H : Hp} {h : Heap} {a : Addr} {o : Obj} (e : h.get? a = some o) : ObjOk P w H h a (objO a o) := ⟨e, ⟨_, e⟩, fun h1 h2 p k => k _ p⟩
def iterO (x : Str) (t : Tok) : Obj := { cls := .type (strIterType x), data := .fields #[.str x t, .int 0 0] }
def zipO (n : Addr) : Obj := { cls := .type "zip", data := .fields #[.none, .bool false, .bool false, .ref (n + 2), .ref (n + 3)] }
def pairO (u v : Value) : Obj := { cls := .type "tuple", data := .seq #[u, v] }
def layZ (H : Hp) (n : Addr) (x y : Str) (tx ty : Tok) : Hp :=
  upd (upd (upd (upd (upd H n (objO n (iterO x tx))) (n + 1) (objO (n + 1) (iterO y ty))) (n + 2) (objO (n + 2) (pairO (.ref n) (.ref (n + 1))))) (n + 3) (objO (n + 3) (pairO .none .none))) (n + 4) (objO (n + 4) (zipO n))
def rZipT (X : Cx) : List V → Hp → VK → Prop := fun vs H Q => ∃ x y, vs = [.str x, .str y] ∧ ∀ n tx ty, X.s_0.heap.objs.size ≤ n → (∀ i, i < 5 → H (n + i) = none) → Q (.ref (n + 4)) (layZ H n x y tx ty)
theorem cr_zipT : CallR X (.type "zip") (rZipT X) := by
  intro ps s σ H vs us Q I rel told
  obtain ⟨x, y, rfl, q⟩ := told
  obtain ⟨u1, u2, rfl, r1, r2⟩ : ∃ u1 u2, us = [u1, u2] ∧ RelV (.str x) u1 ∧ RelV (.str y) u2 := by
    cases rel with
    | cons a b => cases b with
      | cons c d => cases d; exact ⟨_, _, rfl, a, c⟩
  obtain ⟨tx, rfl⟩ : ∃ t, u1 = .str x t := r1
  obtain ⟨ty, rfl⟩ : ∃ t, u2 = .str y t := r2
  refine zip_begins2 (begins_text x tx) (begins_text y ty) trivial trivial fun h' z1 z2 z3 z4 z5 sz k => ?_
  have new : ∀ i, H (s.heap.objs.size + i) = none := fun i => I.hok.fresh (Nat.le_add_right _ _)
  have e1 : ∀ (h : Heap) (o : Obj), (h.push o).objs.size = h.objs.size + 1 := fun h o => Heap.size_push h o
  have kp : ∀ (g : Heap) (o : Obj), (∀ b u, g.get? b = some u → h'.get? b = some u) → h'.get? g.objs.size = some o → o.isFreed = false → ∀ b u, (g.push o).get? b = some u → h'.get? b = some u := fun g o kg e nf b u eb => by
    by_cases c : b = g.objs.size
    · rw [c, Heap.get?_push_size g nf] at eb
      rw [c, e]
      exact eb
    · rw [Heap.get?_push_ne g b o c] at eb
      exact kg b u eb
  generalize hg1 : s.heap.push (iterO x tx) = g1
  generalize hg2 : g1.push (iterO y ty) = g2
  generalize hg3 : g2.push (pairO (.ref s.heap.objs.size) (.ref (s.heap.objs.size + 1))) = g3
  generalize hg4 : g3.push (pairO .none .none) = g4
  have n1 : g1.objs.size = s.heap.objs.size + 1 := by rw [← hg1]; exact e1 _ _
  have n2 : g2.objs.size = s.heap.objs.size + 2 := by rw [← hg2, e1, n1]
  have n3 : g3.objs.size = s.heap.objs.size + 3 := by rw [← hg3, e1, n2]
  have n4 : g4.objs.size = s.heap.objs.size + 4 := by rw [← hg4, e1, n3]
  have k1 : ∀ b u, g1.get? b = some u → h'.get? b = some u := by rw [← hg1]; exact kp _ _ k z4 rfl
  have k2 : ∀ b u, g2.get? b = some u → h'.get? b = some u := by rw [← hg2]; exact kp _ _ k1 (by rw [n1]; exact z5) rfl
  have k3 : ∀ b u, g3.get? b = some u → h'.get? b = some u := by rw [← hg3]; exact kp _ _ k2 (by rw [n2]; exact z2) rfl
  have k4 : ∀ b u, g4.get? b = some u → h'.get? b = some u := by rw [← hg4]; exact kp _ _ k3 (by rw [n3]; exact z3) rfl
  have J1 := I.laid (h' := g1) (a := s.heap.objs.size) (o := objO s.heap.objs.size (iterO x tx)) (t' := s.toks) (fun b u e => by rw [← hg1]; exact Heap.get?_push_of_some _ e) (Nat.le_refl _) (objO_ok (by rw [← hg1]; exact Heap.get?_push_size _ rfl))
  have J2 := J1.laid (h' := g2) (a := s.heap.objs.size + 1) (o := objO (s.heap.objs.size + 1) (iterO y ty)) (t' := s.toks) (fun b u e => by rw [← hg2]; exact Heap.get?_push_of_some _ e) (Nat.le_of_eq n1) (objO_ok (by rw [← hg2, ← n1]; exact Heap.get?_push_size _ rfl))
  have J3 := J2.laid (h' := g3) (a := s.heap.objs.size + 2) (o := objO (s.heap.objs.size + 2) (pairO (.ref s.heap.objs.size) (.ref (s.heap.objs.size + 1)))) (t' := s.toks) (fun b u e => by rw [← hg3]; exact Heap.get?_push_of_some _ e) (Nat.le_of_eq n2) (objO_ok (by rw [← hg3, ← n2]; exact Heap.get?_push_size _ rfl))
  have J4 := J3.laid (h' := g4) (a := s.heap.objs.size + 3) (o := objO (s.heap.objs.size + 3) (pairO .none .none)) (t' := s.toks) (fun b u e => by rw [← hg4]; exact Heap.get?_push_of_some _ e) (Nat.le_of_eq n3) (objO_ok (by rw [← hg4, ← n3]; exact Heap.get?_push_size _ rfl))
  have J5 := J4.laid (h' := h') (a := s.heap.objs.size + 4) (o := objO (s.heap.objs.size + 4) (zipO s.heap.objs.size)) (t' := s.toks) k4 (Nat.le_of_eq n4) (objO_ok z1)
  exact ⟨.ref (s.heap.objs.size + 4), _, J5, rfl, q _ tx ty I.sz fun i _ => new i⟩
/-! dict(zip object) -/
def zipT (x y : Str) : List (Str × Str) := (x.cps.toList.zip y.cps.toList).map fun p => (⟨#[p.1]⟩, ⟨#[p.2]⟩)
def ztKv : List (Str × Str) → List (Key × Value) → Prop := Paired fun p q => q.1 = .inr p.1 ∧ ∃ t, q.2 = .str p.2 t
theorem paired_app {α β : Type} {R : α → β → Prop} : ∀ {xs : List α} {ys : List β} {x : α} {y : β}, Paired R xs ys → R x y → Paired R (xs ++ [x]) (ys ++ [y])
  | [], _, _, _, .nil, r => .cons r .nil
  | _ :: _, _, _, _, .cons a b, r => .cons a (paired_app b r)
theorem ztKv_keys : ∀ {zs : List (Str × Str)} {kvs : List (Key × Value)}, ztKv zs kvs → kvs.map (·.1) = zs.map fun p => (Sum.inr p.1 : Key)
  | [], _, .nil => rfl
  | _ :: _, _, .cons a b => by simp [a.1, ztKv_keys b]
theorem ztKv_len : ∀ {zs : List (Str × Str)} {kvs : List (Key × Value)}, ztKv zs kvs → kvs.length = zs.length
  | [], _, .nil => rfl
  | _ :: _, _, .cons a b => by simp [ztKv_len b]
theorem ztKv_KV : ∀ {zs : List (Str × Str)} {kvs : List (Key × Value)}, ztKv zs kvs → KV (zs.map fun p => ((Sum.inr p.1 : Key), V.str p.2)) kvs
  | [], _, .nil => .nil
  | _ :: _, _, .cons a b => .cons ⟨a.1.symm, a.2⟩ (ztKv_KV b)
theorem zipT_get {x y : Str} {i : Nat} {c d : Nat} (h1 : x.cps[i]? = some c) (h2 : y.cps[i]? = some d) : (zipT x y)[i]? = some (⟨#[c]⟩, ⟨#[d]⟩) := by
  unfold zipT
  rw [List.getElem?_map, (List.getElem?_zip_eq_some (z := (c, d))).mpr ⟨by rw [Array.getElem?_toList]; exact h1, by rw [Array.getElem?_toList]; exact h2⟩]
  rfl
theorem zipT_len (x y : Str) : (zipT x y).length = min x.cps.size y.cps.size := by
  unfold zipT
  simp
theorem five {n b : Nat} (h1 : n ≤ b) (h2 : b < n + 5) : b = n ∨ b = n + 1 ∨ b = n + 2 ∨ b = n + 3 ∨ b = n + 4 := by omega
theorem off5 {n b : Nat} (c : b < n ∨ n + 5 ≤ b) : b ≠ n + 4 ∧ b ≠ n + 3 ∧ b ≠ n ∧ b ≠ n + 1 := by omega
theorem not5 {n b : Nat} (c : ¬ (n ≤ b ∧ b < n + 5)) : b < n ∨ n + 5 ≤ b := by omega
theorem yes5 {n b : Nat} (c : b < n ∨ n + 5 ≤ b) : ¬ (n ≤ b ∧ b < n + 5) := by omega
theorem in5 {n b : Nat} (c : b = n ∨ b = n + 1 ∨ b = n + 2 ∨ b = n + 3 ∨ b = n + 4) : n ≤ b ∧ b < n + 5 := by omega
def drop5 (n : Addr) (H : Hp) : Hp := fun a => if n ≤ a ∧ a < n + 5 then none else H a
def rDictZ (X : Cx) : List V → Hp → VK → Prop := fun vs H Q => ∃ n x y tx ty, vs = [.ref (n + 4)] ∧ X.s_0.heap.objs.size ≤ n ∧ H n = some (objO n (iterO x tx)) ∧ H (n + 1) = some (objO (n + 1) (iterO y ty)) ∧ H (n + 2) = some (objO (n + 2) (pairO (.ref n) (.ref (n + 1)))) ∧ H (n + 3) = some (objO (n + 3) (pairO .none .none)) ∧
  H (n + 4) = some (objO (n + 4) (zipO n)) ∧ (zipT x y).length ≤ 64 ∧ ((zipT x y).map (·.1)).Nodup ∧ ∀ p, H p = none → Q (.ref p) (upd (drop5 n H) p (.dK ((zipT x y).map fun p => (Sum.inr p.1, V.str p.2))))
theorem stored_new {kvs : List (Key × Value)} {k : Key} {v : Value} (h : k ∉ kvs.map (·.1)) : stored kvs k v = kvs ++ [(k, v)] := by
  unfold stored
  rw [if_neg]
  intro z
  obtain ⟨x, hx, e⟩ := List.any_eq_true.mp z
  exact h (by rw [← of_decide_eq_true e]; exact List.mem_map_of_mem hx)
theorem cr_dictZ (hc : X.calm = true) : CallR X (.type "dict") (rDictZ X) := by
  intro ps s σ H vs us Q I rel told
  obtain ⟨n, x, y, tx, ty, rfl, big, h0, h1, h2, h3, h4, few, nd, q⟩ := told
  rw [Vals.ref1 rel]
  have g : ∀ {a : Addr} {o : Obj}, H a = some (objO a o) → s.heap.get? a = some o := fun e => (I.hok _ _ e).1
  have S : ZipSep2 (n + 4) (n + 2) (n + 3) n (n + 1) [n] [n + 1] := zip_sep2 (fp1 := []) (fp2 := []) (fun _ m => nomatch m) (fun _ m => nomatch m)
  have P0 := pairArg_zipT (P := X.prog) (w := X.w) (x := x) (y := y) (tx := tx) (ty := ty) S
  have ok : ztOK (n + 4) (n + 2) (n + 3) n (n + 1) x y tx ty s.heap := ⟨g h4, g h2, ⟨_, _, g h3⟩, ⟨_, g h0, rfl, rfl⟩, ⟨_, g h1, rfl, rfl⟩⟩
  refine call_dict_arg P0 ok fun s1 e1 nf ok1 => ?_
  subst e1
  refine updateFrom_arg (Tab := fun i h => ∃ kvs, ztKv ((zipT x y).take i) kvs ∧ Heap.DictOf (mixKind X.prog X.w) h s.heap.objs.size kvs) P0 _ (I.ok.hd hc) ok1 nf ⟨[], .nil, Heap.DictOf.new _⟩ (fun i h ⟨kvs, _, D⟩ => D.lt_size) (fun i h h' wr' nd' _ ⟨kvs, r, D⟩ k => ⟨kvs, r, D.at' fun o e => k _ o nd' e⟩) (fun i k v s2 Q2 E2 hi r ⟨kvs, rk, D⟩ _ q2 => ?_) fun h' tk ⟨kvs, rk, D⟩ k => ?_
  · obtain ⟨c, d, t, u, ec, ed, rfl, rfl⟩ := r
    have lt : i < (zipT x y).length := by rw [zipT_len]; exact hi
    have ei := zipT_get ec ed
    have len := ztKv_len rk
    have nk : (Sum.inr ⟨#[c]⟩ : Key) ∉ kvs.map (·.1) := by
      rw [ztKv_keys rk]
      intro z
      obtain ⟨p, hp, e⟩ := List.mem_map.mp z
      obtain ⟨j, hj, ej⟩ := List.getElem_of_mem hp
      rw [List.length_take] at hj
      rw [List.getElem_take] at ej
      have n1 : ((zipT x y).map (·.1))[j]'(by rw [List.length_map]; omega) = ((zipT x y).map (·.1))[i]'(by rw [List.length_map]; omega) := by
        rw [List.getElem_map, List.getElem_map, ej, (List.getElem?_eq_some_iff.mp ei).2]
        exact Sum.inr.inj e
      have := (List.getElem_inj nd).mp n1
      omega
    refine wpAny_dictSet_pairs (knd := mixKind X.prog X.w) (k := .inr ⟨#[c]⟩) (by simp [KeyKind.is, mixKind, keyIs, Value.isStrOf]) D (fun h' D' sb => q2 h' _ ⟨_, ?_, D'⟩ sb) (by rw [len, List.length_take, sizeLine_eq]; omega)
    rw [stored_new nk, List.take_add_one, ei]
    exact paired_app rk ⟨rfl, u, rfl⟩
  · rw [← zipT_len, List.take_length] at rk
    refine ⟨rfl, ?_⟩
    have keep : ∀ b o, (b < n ∨ n + 5 ≤ b) → s.heap.get? b = some o → h'.get? b = some o := fun b o c e => by
      refine k b o (Nat.ne_of_lt (Heap.lt_size e)) ?_ (Heap.get?_push_of_some _ e)
      simp only [List.mem_cons, List.not_mem_nil, or_false, not_or]
      exact off5 c
    have lt5 : n + 5 ≤ s.heap.objs.size := Heap.lt_size (g h4)
    have new : H s.heap.objs.size = none := I.hok.fresh (Nat.le_refl _)
    have inn : ∀ b, n ≤ b → b < n + 5 → ∃ o, H b = some (objO b o) := fun b l1 l2 => by
      have := five l1 l2
      rcases this with e | e | e | e | e <;> subst e
      · exact ⟨_, h0⟩
      · exact ⟨_, h1⟩
      · exact ⟨_, h2⟩
      · exact ⟨_, h3⟩
      · exact ⟨_, h4⟩
    have out : ∀ b u, H b = some u → (∀ o, u ≠ objO b o) → b < n ∨ n + 5 ≤ b := fun b u e ne => by
      by_cases c : n ≤ b ∧ b < n + 5
      · obtain ⟨o, z⟩ := inn b c.1 c.2
        rw [e] at z
        exact absurd (Option.some.inj z) (ne o)
      · exact not5 c
    have up : ∀ b u, H b = some u → (b < n ∨ n + 5 ≤ b) → (upd (drop5 n H) s.heap.objs.size (.dK ((zipT x y).map fun p => ((Sum.inr p.1 : Key), V.str p.2)))) b = some u := fun b u e c => by
      rw [upd_ne (ne_of_none e new)]
      unfold drop5
      rw [if_neg (yes5 c)]
      exact e
    have ne : ∀ {b : Addr} {o : Obj}, s.heap.get? b = some o → b ≠ s.heap.objs.size := fun e => Nat.ne_of_lt (Heap.lt_size e)
    have nc5 : ∀ {b : Addr}, b ∉ [n, n + 1, n + 2, n + 3, n + 4] → b < n ∨ n + 5 ≤ b := fun {b} nc => not5 fun z => nc (by
      have := five z.1 z.2
      simp only [List.mem_cons, List.not_mem_nil, or_false]
      exact this)
    have free : ∀ b o, s.heap.get? b = some o → H b = none → (upd (drop5 n H) s.heap.objs.size (.dK ((zipT x y).map fun p => ((Sum.inr p.1 : Key), V.str p.2)))) b = none := fun b o e hb => by
      rw [upd_ne (ne e)]
      unfold drop5
      split
      · rfl
      · exact hb
    refine ⟨.ref s.heap.objs.size, _, I.call' (s' := { heap := h', gens := s.gens, drawn := s.drawn, toks := tk, os := s.os }) (ch := [n, n + 1, n + 2, n + 3, n + 4]) (H' := upd (drop5 n H) s.heap.objs.size (.dK ((zipT x y).map fun p => ((Sum.inr p.1 : Key), V.str p.2)))) rfl ⟨fun b o e hb _ nc => keep b o (nc5 nc) e, fun b o e hb _ nc => ⟨o.slots, keep b o (nc5 nc) e⟩, fun b o e hb nc => free b o e hb, fun b o e nc => ⟨_, keep b o (nc5 nc) e⟩,
      fun b xs e => up b _ e (out b _ e fun o z => by cases z), fun b o u e => up b _ e (out b _ e fun o z => by cases z), fun b ps e => ⟨#[], by rw [Array.append_empty]; exact up b _ e (out b _ e fun o z => by cases z)⟩⟩ (fun a o e => ?_) I.bare (fun b m => ?_), rfl, q _ new⟩
    · by_cases c : a = s.heap.objs.size
      · rw [c, upd_same] at e
        cases e
        rw [c]
        refine ⟨by rw [List.length_map, sizeLine_eq]; omega, ?_, kvs, ztKv_KV rk, D⟩
        have := I.big
        exact beq_false_of_ne (Nat.ne_of_gt this)
      · rw [upd_ne c] at e
        unfold drop5 at e
        split at e
        · cases e
        · rename_i ci
          refine (I.hok a o e).stay (fun b u hb eb => ?_) (fun b hb => up b _ hb (out b _ hb fun o z => by cases z)) (fun b xs hb => up b _ hb (out b _ hb fun o z => by cases z))
          rcases hb with hb | hb
          · rw [hb] at eb ⊢
            exact keep a u (not5 ci) eb
          · exact keep b u (out b _ hb fun o z => by cases z) eb
    · simp only [List.mem_cons, List.not_mem_nil, or_false] at m
      obtain ⟨l1, l2⟩ := in5 m
      obtain ⟨o, ho⟩ := inn b l1 l2
      refine ⟨.inr (Nat.le_trans big l1), fun z => ?_, fun x c e z => ?_, fun p hp z => ?_⟩
      · rw [z, I.free] at ho; cases ho
      · rw [← z, I.freeC x c e] at ho; cases ho
      · rw [← z, (I.pin p hp).2.1] at ho; cases ho
end
end Zt

set_option Elab.async false
set_option linter.all false
set_option maxRecDepth 100000
/-! Fn20: x = dict(zip(text, text)), x[e], as functions of the slots. -/
namespace Fn
open PySem PySem.Spec L2 Zt
open PyProof.Rows hiding St
section
variable {X : Cx} {K : PySem.W.Frag} {b : Bool} {e e1 e2 : Expr} {pos pos2 p p2 : Pos} {m m1 m2 : ME}
abbrev MD := Rho → Option (List (Str × PyData) × Rho)
def denD (K : PySem.W.Frag) (b : Bool) (m : MD) : TE := fun σ H Q => ∃ ρ ks ρ' O, m ρ = some (ks, ρ') ∧ EnvR K O H σ ρ ∧
  ∀ v H', Post K O σ ρ H O σ ρ' H' → (b = true → ρ' = ρ ∧ Same H H') → Sd K (hide O H') (.dct ks) v → Q v H'
def SD (b : Bool) (X : Cx) (e : Expr) (m : MD) : Prop := PE X e (denD X.K b m)
def mDz (m1 m2 : ME) : MD := fun ρ => (m1 ρ).bind fun p => match p.1 with
  | .str x => (m2 p.2).bind fun q => match q.1 with
    | .str y => if (zipT x y).length ≤ 64 ∧ ((zipT x y).map (·.1)).Nodup then some ((zipT x y).map fun z => (z.1, .str z.2), q.2) else none
    | _ => none
  | _ => none
theorem prs_zip {H : Hp} : ∀ zs : List (Str × Str), Prs K H (zs.map fun z => ((Sum.inr z.1 : Key), V.str z.2)) (zs.map fun z => (z.1, PyData.str z.2))
  | [] => .nil
  | _ :: zs => .cons (.str _) (prs_zip zs)
theorem layZ_drop {H : Hp} {n : Addr} {x y : Str} {tx ty : Tok} (new : ∀ i, i < 5 → H (n + i) = none) : drop5 n (layZ H n x y tx ty) = H := by
  funext a
  unfold drop5
  split
  · rename_i c
    have := five c.1 c.2
    rcases this with z | z | z | z | z <;> rw [z]
    · exact (new 0 (by decide)).symm
    · exact (new 1 (by decide)).symm
    · exact (new 2 (by decide)).symm
    · exact (new 3 (by decide)).symm
    · exact (new 4 (by decide)).symm
  · rename_i c
    have l := not5 c
    have h : ∀ i, i < 5 → a ≠ n + i := fun i hi z => c (in5 (by rw [z]; exact (show n + i = n ∨ n + i = n + 1 ∨ n + i = n + 2 ∨ n + i = n + 3 ∨ n + i = n + 4 from (by have := i5 hi; rcases this with y | y | y | y | y <;> subst y <;> simp))))
    unfold layZ
    rw [upd_ne (h 4 (by decide)), upd_ne (h 3 (by decide)), upd_ne (h 2 (by decide)), upd_ne (h 1 (by decide)), upd_ne (show a ≠ n from h 0 (by decide))]
where i5 {i : Nat} (h : i < 5) : i = 0 ∨ i = 1 ∨ i = 2 ∨ i = 3 ∨ i = 4 := by omega
theorem layZ_none {H : Hp} {n q : Addr} {x y : Str} {tx ty : Tok} (h : layZ H n x y tx ty q = none) : H q = none := by
  unfold layZ upd at h
  split at h
  · cases h
  split at h
  · cases h
  split at h
  · cases h
  split at h
  · cases h
  split at h
  · cases h
  exact h
theorem x_dictZip (hc : X.calm = true) (hg : Gl X "dict") (hm : X.mg "dict" = none) (hg2 : Gl X "zip") (hm2 : X.mg "zip" = none) (h1 : SE b X e1 m1) (h2 : SE b X e2 m2)
    (he : starEach [Expr.Call (.Name "zip" p2) [e1, e2] [] pos2] X.env = (false, eval (Expr.Call (.Name "zip" p2) [e1, e2] [] pos2) X.env) :: starEach [] X.env := by rfl) (hpl : (backTo pos (starEach [] X.env)).any (·.1) = false := by rfl)
    (he1 : starEach [e1, e2] X.env = (false, eval e1 X.env) :: starEach [e2] X.env := by rfl) (he2 : starEach [e2] X.env = (false, eval e2 X.env) :: starEach [] X.env := by rfl) (hpl2 : (backTo pos2 (starEach [e2] X.env)).any (·.1) = false := by rfl) :
    SD b X (.Call (.Name "dict" p) [.Call (.Name "zip" p2) [e1, e2] [] pos2] [] pos) (mDz m1 m2) :=
  PE.imp (pe_callTy (cr_dictZ hc) hg hm boot_dict (pa_cons (pe_callTy cr_zipT hg2 hm2 boot_zip (pa_cons h1 (pa_cons h2 pa_nil he2) he1) (by decide) (by decide) he1 hpl2) pa_nil he) (by decide) (by decide) he hpl) fun σ H Q q => by
    obtain ⟨ρ, ks, ρ', O, ee, env, q⟩ := q
    unfold mDz at ee
    obtain ⟨⟨d1, ρ1⟩, ea, ee⟩ := Option.bind_eq_some_iff.mp ee
    cases d1 with
    | str x =>
      obtain ⟨⟨d2, ρ2⟩, eb, ee⟩ := Option.bind_eq_some_iff.mp (show (m2 ρ1).bind _ = _ from ee)
      cases d2 with
      | str y =>
        have ee := (show (if _ then _ else none) = _ from ee)
        split at ee
        · rename_i hok
          cases ee
          refine ⟨ρ, .str x, ρ1, O, ea, env, fun v1 H1 P1 u1 dd1 => ⟨ρ1, .str y, ρ2, O, eb, P1.env, fun v2 H2 P2 u2 dd2 => ⟨x, y, ?_, fun n tx ty big new => ⟨n, x, y, tx, ty, rfl, big, ?_, ?_, ?_, ?_, upd_same, hok.1, hok.2, fun r nr => ?_⟩⟩⟩⟩
          · rw [dp_str dd1, dp_str dd2]
          · unfold layZ
            rw [upd_ne (show n ≠ n + 4 from o5 0 4 (by decide)), upd_ne (show n ≠ n + 3 from o5 0 3 (by decide)), upd_ne (show n ≠ n + 2 from o5 0 2 (by decide)), upd_ne (show n ≠ n + 1 from o5 0 1 (by decide))]
            exact upd_same
          · unfold layZ
            rw [upd_ne (o5 1 4 (by decide)), upd_ne (o5 1 3 (by decide)), upd_ne (o5 1 2 (by decide))]
            exact upd_same
          · unfold layZ
            rw [upd_ne (o5 2 4 (by decide)), upd_ne (o5 2 3 (by decide))]
            exact upd_same
          · unfold layZ
            rw [upd_ne (o5 3 4 (by decide))]
            exact upd_same
          · rw [layZ_drop new]
            have nr := layZ_none nr
            have sm := same_new (o := .dK ((zipT x y).map fun z => ((Sum.inr z.1 : Key), V.str z.2))) nr
            refine q _ _ ((P1.trans env P2).more env sm) (fun hb => ⟨(u2 hb).1.trans (u1 hb).1, ((u1 hb).2.trans (u2 hb).2).trans sm⟩) ⟨r, _, rfl, ?_, prs_zip _⟩
            rw [hide_out (not_own P2.env nr)]
            exact upd_same
        · cases ee
      | _ => cases ee
    | _ => cases ee
where o5 {n : Addr} (i j : Nat) (h : i ≠ j) : n + i ≠ n + j := fun z => h (Nat.add_left_cancel z)
/-! x = dict(..) -/
def mDct (i : Nat) (m : MD) : MS := fun ρ => (m ρ).bind fun p => (p.2[i]?).bind fun s => if isPar s = true then none else some (.nx (p.2.set i (.dct p.1)))
theorem s1_dct {m : MD} {i : Nat} {x : Str} {pos' : Pos} (hN : X.N.Nodup) (hi : X.N[i]? = some x) (hx : Loc X.env.scope x) (he : SD b X e m) (hs : swapsWith e (some (.Name x pos')) pos.line X.env = pure false := by rfl) (hf : X.fn x = true ∨ X.env.scope.names.lookup x = some .local := by first | exact .inl rfl | exact .inr rfl | assumption) :
    S1 X (.Assign [.Name x pos'] e pos) (mDct i m) := PS.imp (ps_set hN hi hx he hs hf) fun D σ H q => by
  obtain ⟨ρ, out, O, e1, env, q⟩ := q
  unfold mDct at e1
  obtain ⟨⟨d, ρ1⟩, ea, e1⟩ := Option.bind_eq_some_iff.mp e1
  obtain ⟨s, eb, e1⟩ := Option.bind_eq_some_iff.mp e1
  split at e1
  · cases e1
  · rename_i hp
    cases e1
    exact ⟨ρ, d, ρ1, O, ea, env, fun v H1 P1 u1 d1 => q O _ H1 (P1.trans env (post_sd (t0 := .dct d) trivial P1.env eb (by simpa using hp) d1))⟩
/-! x[e] -/
def mDget (i : Nat) (m : ME) : ME := fun ρ => match ρ[i]? with
  | some (.dct ks) => (m ρ).bind fun p => match p.1 with
    | .str z => (ks.lookup z).bind fun d => some (d, p.2)
    | _ => none
  | _ => none
theorem s_dget (i : Nat) {x : Str} {px : Pos} (hu : X.A.units + 65 < cLine) (h : SE b X e m) (hN : X.N[i]? = some x := by rfl) (hv : Vis X.env.scope x := by first | exact Or.inl rfl | exact Or.inr (Or.inl rfl) | exact Or.inr (Or.inr rfl)) (hd : (x == ("__debug__" : Str)) = false := by decide)
    (hcd : (x == ("__classdict__" : Str)) = false := by decide) (hs : NoSl e := by exact fun _ _ => rfl) : SE b X (.Subscript (.Name x px) e pos) (mDget i m) := PE.imp (pe_dget (by omega) (pe_var hN hv hd hcd) h hs) fun σ H Q q => by
  obtain ⟨ρ, d, ρ', O, e1, env, q⟩ := q
  unfold mDget at e1
  split at e1
  · rename_i ks hsl
    obtain ⟨⟨a, ρ1⟩, ea, e1⟩ := Option.bind_eq_some_iff.mp e1
    cases a with
    | str z =>
      obtain ⟨d', ec, e1⟩ := Option.bind_eq_some_iff.mp (show (ks.lookup z).bind _ = _ from e1)
      cases e1
      obtain ⟨v, hσ, r, kvs, rfl, hk, pr⟩ := env.sd i _ hsl trivial
      refine ⟨_, hσ, ρ, _, ρ1, O, ea, env, fun v H1 P1 u1 d1 => ?_⟩
      obtain ⟨u, g1, g2⟩ := prs_val (pr.mono (P1.hid env)) ec
      exact ⟨r, u, rfl, .inl ⟨kvs, .inr z, .inl (hide_sub _ _ (P1.hid env _ _ hk)), dp_str d1, g1.symm⟩, q u H1 P1 u1 g2⟩
    | _ => cases e1
  · cases e1
end
end Fn

set_option Elab.async false
set_option linter.all false
set_option maxRecDepth 100000
/-! Mx1: reckoning the functional reading: each construct where it stands applied. -/
namespace Mx
open PySem PySem.Spec L2 Fn
open PyProof.Rows hiding St

section
variable {ρ ρ' ρ1 : Rho} {m m1 m2 m3 : ME} {s1 s2 : MS} {t t1 t2 : MT} {ms : MA} {i : Nat} {d a b c : PyData} {g : PyData → PyData → Option PyData}
theorem a_seq (s1 s2 : MS) (ρ : Rho) : mSeq s1 s2 ρ = (s1 ρ).bind fun o => match o with | .nx ρ1 => s2 ρ1 | .rt d ρ1 => some (.rt d ρ1) | .bk ρ1 => some (.bk ρ1) | .ct ρ1 => some (.ct ρ1) := (rfl)
theorem a_skip (ρ : Rho) : mSkip ρ = some (.nx ρ) := (rfl)
theorem a_if (t : MT) (s1 s2 : MS) (ρ : Rho) : mIf t s1 s2 ρ = (t ρ).bind fun p => if p.1 = true then s1 p.2 else s2 p.2 := (rfl)
theorem a_ret (m : ME) (ρ : Rho) : mRet m ρ = (m (ρ.map still)).bind fun p => some (.rt p.1 p.2) := (rfl)
theorem a_retN (ρ : Rho) : mRetN ρ = some (.rt .none ρ) := (rfl)
theorem a_drop (m : ME) (ρ : Rho) : mDrop m ρ = (m ρ).bind fun p => some (.nx p.2) := (rfl)
theorem a_never (ρ : Rho) : mNever ρ = none := (rfl)
theorem a_break (ρ : Rho) : mBreak ρ = some (.bk ρ) := (rfl)
theorem a_cont (ρ : Rho) : mCont ρ = some (.ct ρ) := (rfl)
theorem a_set (i : Nat) (m : ME) (ρ : Rho) : mSet i m ρ = (m ρ).bind fun p => (p.2[i]?).bind fun s => if isPar s = true then none else some (.nx (p.2.set i (.sh p.1))) := (rfl)
theorem a_own (i : Nat) (ms : MA) (ρ : Rho) : mOwn i ms ρ = (ms ρ).bind fun p => (p.2[i]?).bind fun s => if isPar s = true then none else some (.nx (p.2.set i (.own p.1))) := (rfl)
theorem a_var (i : Nat) (ρ : Rho) : mVar i ρ = match ρ[i]? with | some (.sh d) => some (d, ρ) | _ => none := (rfl)
theorem a_c (d : PyData) (ρ : Rho) : mC d ρ = some (d, ρ) := (rfl)
theorem a_op (g : PyData → PyData → Option PyData) (m1 m2 : ME) (ρ : Rho) : mOp g m1 m2 ρ = (m1 ρ).bind fun p => (m2 p.2).bind fun q => (g p.1 q.1).bind fun c => some (c, q.2) := (rfl)
theorem a_nil (ρ : Rho) : mNil ρ = some ([], ρ) := (rfl)
theorem a_cons (m : ME) (ms : MA) (ρ : Rho) : mCons m ms ρ = (m ρ).bind fun p => (ms p.2).bind fun q => some (p.1 :: q.1, q.2) := (rfl)
theorem a_tup (ms : MA) (ρ : Rho) : mTup ms ρ = (ms ρ).bind fun p => if p.1.length ≤ 1000 then some (.tuple p.1, p.2) else none := (rfl)
theorem a_lst (ms : MA) (ρ : Rho) : mLst ms ρ = (ms ρ).bind fun p => if p.1.length ≤ 1000 then some (p.1, p.2) else none := (rfl)
theorem a_f (ms : MA) (ρ : Rho) : mF ms ρ = (ms ρ).bind fun p => some (.list p.1, p.2) := (rfl)
theorem a_call (f : List PyData → Option PyData) (ms : MA) (ρ : Rho) : mCall f ms ρ = (ms ρ).bind fun p => (f p.1).bind fun c => some (c, p.2) := (rfl)
theorem a_fn (f : List PyData → Option PyData) (ms : MA) (ρ : Rho) : mFn f ms ρ = (ms ρ).bind fun p => (f p.1).bind fun c => some (c, p.2) := (rfl)
theorem a_isi (t : String) (m : ME) (ρ : Rho) : mIsi t m ρ = (m ρ).bind fun p => some (.bool (isK t p.1), p.2) := (rfl)
theorem a_isi2 (t t' : String) (m : ME) (ρ : Rho) : mIsi2 t t' m ρ = (m ρ).bind fun p => some (.bool (isK t p.1 || isK t' p.1), p.2) := (rfl)
theorem a_not (m : ME) (ρ : Rho) : mNot m ρ = (m ρ).bind fun p => match p.1 with | .bool c => some (.bool (!c), p.2) | _ => none := (rfl)
theorem a_tru (m : ME) (ρ : Rho) : tTru m ρ = (m ρ).bind fun p => (truD p.1).bind fun c => some (c, p.2) := (rfl)
theorem a_tbl (m : ME) (ρ : Rho) : tBl m ρ = (m ρ).bind fun p => match p.1 with | .bool c => some (c, p.2) | _ => none := (rfl)
theorem a_tno (t : MT) (ρ : Rho) : tNo t ρ = (t ρ).bind fun p => some (!p.1, p.2) := (rfl)
theorem a_tan (t1 t2 : MT) (ρ : Rho) : tAn t1 t2 ρ = (t1 ρ).bind fun p => if p.1 = true then t2 p.2 else some (false, p.2) := (rfl)
theorem a_to (t1 t2 : MT) (ρ : Rho) : tO t1 t2 ρ = (t1 ρ).bind fun p => if p.1 = true then some (true, p.2) else t2 p.2 := (rfl)
theorem a_and (m1 m2 : ME) (ρ : Rho) : mAnd m1 m2 ρ = (m1 ρ).bind fun p => match p.1 with | .bool c => if c = true then m2 p.2 else some (.bool false, p.2) | _ => none := (rfl)
theorem a_or (m1 m2 : ME) (ρ : Rho) : mOr m1 m2 ρ = (m1 ρ).bind fun p => match p.1 with | .bool c => if c = true then some (.bool true, p.2) else m2 p.2 | _ => none := (rfl)
theorem a_chain (g g' : PyData → PyData → Option PyData) (m1 m2 m3 : ME) (ρ : Rho) : mChain g g' m1 m2 m3 ρ = (m1 ρ).bind fun p => (m2 p.2).bind fun q => (g p.1 q.1).bind fun c => match c with
  | .bool k => if k = true then (m3 q.2).bind fun r => (g' q.1 r.1).bind fun d => some (d, r.2) else some (.bool false, q.2)
  | _ => none := (rfl)
theorem a_ifE (t : MT) (m1 m2 : ME) (ρ : Rho) : mIfE t m1 m2 ρ = (t ρ).bind fun p => if p.1 = true then m1 p.2 else m2 p.2 := (rfl)
theorem a_onone (ρ : Rho) : oNone ρ = some (none, ρ) := (rfl)
theorem a_osome (m : ME) (ρ : Rho) : oSome m ρ = (m ρ).bind fun p => match p.1 with | .int i => some (some i, p.2) | _ => none := (rfl)
theorem a_sl (m : ME) (l h : MO) (ρ : Rho) : mSl m l h ρ = (m ρ).bind fun p => (l p.2).bind fun q => (h q.2).bind fun r => (gSl p.1 q.1 r.1).bind fun d => some (d, r.2) := (rfl)
theorem a_ixL (l : Rho → Option (List PyData)) (m : ME) (ρ : Rho) : mIxL l m ρ = (l ρ).bind fun ds => (m ρ).bind fun p => match p.1 with | .int i => (atI ds i).bind fun d => some (d, ρ) | _ => none := (rfl)
theorem a_ixV (i : Nat) (m : ME) (ρ : Rho) : mIxV i m ρ = (lVar i ρ).bind fun _ => (m ρ).bind fun p => match p.1 with | .int j => (lVar i p.2).bind fun ds => (atI ds j).bind fun d => some (d, p.2) | _ => none := (rfl)
theorem a_lvar (i : Nat) (ρ : Rho) : lVar i ρ = match ρ[i]? with | some (.sh (.list ds)) => some ds | some (.own ds) => some ds | some (.par ds) => some ds | _ => none := (rfl)
theorem a_inL (neg : Bool) (m : ME) (l : Rho → Option (List PyData)) (ρ : Rho) : mInL neg m l ρ = (m ρ).bind fun p => (l p.2).bind fun ds => if SeqAt.shaped p.1 = true ∧ SeqAt.shaped (.list ds) = true then some (.bool (neg != ds.any fun z => PyData.eqv z p.1), p.2) else none := (rfl)
theorem a_for (mi : MA) (g : MG) (s : MS) (ρ : Rho) : mFor mi g s ρ = (mi ρ).bind fun p => loopS g s p.1 p.2 := (rfl)
theorem a_to2 (m : ME) (g : MG) (ρ : Rho) : mTo m g ρ = (m ρ).bind fun p => (g p.1 p.2).bind fun ρ' => some (.nx ρ') := (rfl)
theorem a_as (f : PyData → Option (List PyData)) (m : ME) (ρ : Rho) : mAs f m ρ = (m ρ).bind fun p => (f p.1).bind fun ds => some (ds, p.2) := (rfl)
theorem a_rng (f : List PyData → Option (List PyData)) (ms : MA) (ρ : Rho) : mRng f ms ρ = (ms ρ).bind fun p => (f p.1).bind fun ds => some (ds, p.2) := (rfl)
theorem a_lcP (vs S : List Nat) (mi : MA) (g : MG) (t : MT) (m : ME) (ρ : Rho) : mLcP vs S mi g t m ρ = (mi ρ).bind fun p => if clean vs p.2 = true ∧ p.1.length < 16000000 ∧ (S.all fun i => !vs.contains i) = true then (loopP g t m (wipeR p.2 vs) p.1).bind fun ys => some (ys, p.2) else none := (rfl)
theorem a_lc (vs : List Nat) (mi : MA) (g : MG) (t : MT) (m : ME) (ρ : Rho) : mLc vs mi g t m ρ = (mi ρ).bind fun p => if clean vs p.2 = true then (loopC vs g t m p.1 [] (wipeR p.2 vs)).bind fun q => some (q.1, back p.2 vs q.2) else none := (rfl)
theorem a_lc2 (vs vs1 : List Nat) (mi : MA) (g : MG) (t : MT) (mi1 : MA) (g1 : MG) (t1 : MT) (m : ME) (ρ : Rho) : mLc2 vs vs1 mi g t mi1 g1 t1 m ρ = (mi ρ).bind fun p => if clean vs p.2 = true then (loop2 vs1 g t mi1 g1 t1 m (wipeR p.2 vs) p.1).bind fun ys => if ys.length < 16000000 then some (ys, p.2) else none else none := (rfl)
theorem a_sc (vs : List Nat) (mi : MA) (g : MG) (t : MT) (m : ME) (ρ : Rho) : mSc vs mi g t m ρ = (mi ρ).bind fun p => if clean vs p.2 = true then (loopP g t m (wipeR p.2 vs) p.1).bind fun ys => (untups ys).bind fun ks => if ks.length < 63 then some (ks, p.2) else none else none := (rfl)
theorem a_sortZ (mz : MZ) (ρ : Rho) : mSortZ mz ρ = (mz ρ).bind fun p => if (p.1.all okPair) = true then some (.list ((canon p.1).map tupD), p.2) else none := (rfl)
theorem a_setOf (m : ME) (ρ : Rho) : mSetOf m ρ = (m ρ).bind fun p => match p.1 with | .list ds => (untups ds).bind fun ks => if ks.length < 63 then some (ks, p.2) else none | _ => none := (rfl)
theorem a_xor (m1 m2 : MZ) (ρ : Rho) : mXor m1 m2 ρ = (m1 ρ).bind fun p => (m2 p.2).bind fun q => if (once (p.1 ++ q.1)).length ≤ 31 then some (p.1.filter (fun k => !decide (k ∈ q.1)) ++ q.1.filter (fun k => !decide (k ∈ p.1)), q.2) else none := (rfl)
theorem a_ownI (i : Nat) (ρ : Rho) : mOwnI i ρ = (lVar i ρ).bind fun ds => some (ds, ρ) := (rfl)
theorem a_callL (f : List PyData → Option PyData) (l : Rho → Option (List PyData)) (ρ : Rho) : mCallL f l ρ = (l ρ).bind fun ds => (f ds).bind fun c => some (c, ρ) := (rfl)
theorem a_mmNil (ρ : Rho) : mmNil ρ = some ([], ρ) := (rfl)
theorem a_mmSh (m : ME) (ms : MM) (ρ : Rho) : mmSh m ms ρ = (m ρ).bind fun p => (ms p.2).bind fun q => some (.sh p.1 :: q.1, q.2) := (rfl)
theorem a_mmOwn (m : MA) (ms : MM) (ρ : Rho) : mmOwn m ms ρ = (m ρ).bind fun p => (ms p.2).bind fun q => some (.own p.1 :: q.1, q.2) := (rfl)
theorem a_par (is : List Nat) (mm : MM) (ρ : Rho) : mPar is mm ρ = (mm ρ).bind fun p => (setR is p.1 p.2).bind fun ρ' => some (.nx ρ') := (rfl)
theorem a_tab (f : Str → Option PyData) (m : ME) (ρ : Rho) : mTab f m ρ = (m ρ).bind fun p => match p.1 with | .str z => (f z).bind fun d => some (d, p.2) | _ => none := (rfl)
theorem a_disp (kms : List (Str × ME)) (m : ME) (ρ : Rho) : mDisp kms m ρ = (mVals kms ρ).bind fun kvs => (m ρ).bind fun p => match p.1 with
  | .str z => if kms.length ≤ 15 ∧ (kms.map (·.1)).Nodup then (kvs.lookup z).bind fun d => some (d, p.2) else none
  | _ => none := (rfl)
theorem a_vals0 (ρ : Rho) : mVals [] ρ = some [] := (rfl)
theorem a_vals1 (k : Str) (m : ME) (r : List (Str × ME)) (ρ : Rho) : mVals ((k, m) :: r) ρ = (m ρ).bind fun p => (mVals r ρ).bind fun q => some ((k, p.1) :: q) := (rfl)
theorem a_goName (i : Nat) (d : PyData) (ρ : Rho) : goName i d ρ = (ρ[i]?).bind fun s => if isPar s = true then none else some (ρ.set i (.sh d)) := (rfl)
theorem a_yes (ρ : Rho) : tYesM ρ = some (true, ρ) := (rfl)
theorem a_fnP (k n : Nat) (s : MS) (ds : List PyData) : fnP k n s ds = if ds.length = k then outP (s (ds.map Slot.sh ++ List.replicate n .no)) else none := (rfl)
theorem a_fnR (k n : Nat) (s : MS) (rs ds : List PyData) : fnR k n s rs ds = if ds.length + 1 = k then outR (s (.par rs :: (ds.map Slot.sh ++ List.replicate n .no))) else none := (rfl)
theorem a_mFnR (Ψ : List PyData → List PyData → Option (PyData × List PyData)) (i : Nat) (ms : MA) (ρ : Rho) : mFnR Ψ i ms ρ = if ownAt i ρ = false then none else (ms ρ).bind fun p => (p.2[i]?).bind fun s => match s with
  | .own rs => (Ψ rs p.1).bind fun q => some (q.1, p.2.set i (.own q.2))
  | .par rs => (Ψ rs p.1).bind fun q => some (q.1, p.2.set i (.par q.2))
  | _ => none := (rfl)
theorem a_store (i : Nat) (m mi : ME) (ρ : Rho) : mStore i m mi ρ = (m ρ).bind fun p => if ownAt i p.2 = false then none else (mi p.2).bind fun r => match r.1 with
  | .int k => (p.2[i]?).bind fun s => (putOwn s fun ds => (ixN ds.length k).bind fun j => some (ds.set j p.1)).bind fun t => some (.nx (p.2.set i t))
  | _ => none := (rfl)
theorem a_app (i : Nat) (m : ME) (ρ : Rho) : mApp i m ρ = if ownAt i ρ = false then none else (m ρ).bind fun p => (p.2[i]?).bind fun s => (putOwn s fun ds => if ds.length < 16000000 then some (ds ++ [p.1]) else none).bind fun t => some (.nx (p.2.set i t)) := (rfl)
theorem a_join (m1 m2 : ME) (ρ : Rho) : mJoin m1 m2 ρ = (m1 ρ).bind fun p => (m2 p.2).bind fun q => match p.1, q.1 with
  | .str a, .list ds => (txts ds).bind fun zs => if (zs.map (·.length)).sum + zs.length * a.length ≤ 100000 then some (.str (Txt.join a zs), q.2) else none
  | _, _ => none := (rfl)
theorem a_rep (ms : MA) (m : ME) (ρ : Rho) : mRep ms m ρ = (ms ρ).bind fun p => (m p.2).bind fun q => match q.1 with
  | .int j => if 0 ≤ j ∧ j ≤ 1000 ∧ p.1.length ≤ 16 then some ((List.replicate j.toNat p.1).flatten, q.2) else none
  | _ => none := (rfl)
end
end Mx
namespace Fn
theorem hide_nil (H : L2.Hp) : hide [] H = H := by
  funext a
  unfold hide
  rw [if_neg (by simp)]
end Fn

set_option Elab.async false
set_option linter.all false
set_option maxRecDepth 100000
/-! Mx2: data: numbers, cells, posts; loops. -/
namespace Mx
open PySem PySem.Spec L2 Fn
open PyProof.Rows hiding St

/-! ### kinds, sizes -/
theorem k_tt (ds : List PyData) : isK "tuple" (.tuple ds) = true := (rfl)
theorem k_tl (ds : List PyData) : isK "tuple" (.list ds) = false := (rfl)
theorem k_ti (i : Int) : isK "tuple" (.int i) = false := (rfl)
theorem k_tb (i : Bool) : isK "tuple" (.bool i) = false := (rfl)
theorem k_ts (i : Str) : isK "tuple" (.str i) = false := (rfl)
theorem k_tn : isK "tuple" .none = false := (rfl)
theorem k_ll (ds : List PyData) : isK "list" (.list ds) = true := (rfl)
theorem k_lt (ds : List PyData) : isK "list" (.tuple ds) = false := (rfl)
theorem k_li (i : Int) : isK "list" (.int i) = false := (rfl)
theorem k_lb (i : Bool) : isK "list" (.bool i) = false := (rfl)
theorem k_ls (i : Str) : isK "list" (.str i) = false := (rfl)
theorem k_ln : isK "list" .none = false := (rfl)
theorem k_it (ds : List PyData) : isK "int" (.tuple ds) = false := (rfl)
theorem k_il (ds : List PyData) : isK "int" (.list ds) = false := (rfl)
theorem k_ii (i : Int) : isK "int" (.int i) = true := (rfl)
theorem k_ib (i : Bool) : isK "int" (.bool i) = true := (rfl)
theorem k_is (i : Str) : isK "int" (.str i) = false := (rfl)
theorem k_in : isK "int" .none = false := (rfl)
theorem k_bt (ds : List PyData) : isK "bool" (.tuple ds) = false := (rfl)
theorem k_bl (ds : List PyData) : isK "bool" (.list ds) = false := (rfl)
theorem k_bi (i : Int) : isK "bool" (.int i) = false := (rfl)
theorem k_bb (i : Bool) : isK "bool" (.bool i) = true := (rfl)
theorem k_bs (i : Str) : isK "bool" (.str i) = false := (rfl)
theorem k_bn : isK "bool" .none = false := (rfl)
theorem k_st (ds : List PyData) : isK "str" (.tuple ds) = false := (rfl)
theorem k_sl (ds : List PyData) : isK "str" (.list ds) = false := (rfl)
theorem k_si (i : Int) : isK "str" (.int i) = false := (rfl)
theorem k_sb (i : Bool) : isK "str" (.bool i) = false := (rfl)
theorem k_ss (i : Str) : isK "str" (.str i) = true := (rfl)
theorem k_sn : isK "str" .none = false := (rfl)
theorem v_lenT (ds : List PyData) : fLen [.tuple ds] = some (.int ds.length) := (rfl)
theorem v_lenL (ds : List PyData) : fLen [.list ds] = some (.int ds.length) := (rfl)
theorem v_lenS {z : Str} (h : z.length ≤ 100000) : fLen [.str z] = some (.int z.length) := if_pos h
theorem v_tupL (ds : List PyData) : fTuple [.list ds] = some (.tuple ds) := (rfl)
theorem v_intI (i : Int) : fInt [.int i] = some (.int i) := (rfl)
theorem v_intB (k : Bool) : fInt [.bool k] = some (.int (if k then 1 else 0)) := (rfl)
theorem v_asL (ds : List PyData) : asL (.list ds) = some ds := (rfl)
theorem v_asT (ds : List PyData) : asT (.tuple ds) = some ds := (rfl)
theorem v_asS (z : Str) : asS (.str z) = some (Fn.signs z) := (rfl)
theorem v_truB (c : Bool) : truD (.bool c) = some c := (rfl)
theorem v_truL (ds : List PyData) : truD (.list ds) = some (!ds.isEmpty) := (rfl)
theorem v_add (i j : Int) : gAdd (.int i) (.int j) = some (.int (i + j)) := (rfl)
theorem v_sub (i j : Int) : gMinus (.int i) (.int j) = some (.int (i - j)) := (rfl)
theorem v_lt (i j : Int) : gLt (.int i) (.int j) = some (.bool (decide (i < j))) := (rfl)
theorem v_le (i j : Int) : gLe (.int i) (.int j) = some (.bool (decide (i ≤ j))) := (rfl)
theorem v_gt (i j : Int) : gGt (.int i) (.int j) = some (.bool (decide (j < i))) := (rfl)
theorem v_ge (i j : Int) : gGe (.int i) (.int j) = some (.bool (decide (j ≤ i))) := (rfl)
theorem v_mod {i j : Int} (h : 0 < j) : gMod (.int i) (.int j) = some (.int (i % j)) := if_pos (decide_eq_true h)
theorem v_div {i j : Int} (h : 0 < j) (h2 : j.natAbs.log2 < 9000) : gDiv (.int i) (.int j) = some (.int (i / j)) := if_pos (decide_eq_true (p := _ ∧ _) ⟨h, h2⟩)
theorem v_mul {i j : Int} (h : i.natAbs.log2 + j.natAbs.log2 < 1000000) : gMulI (.int i) (.int j) = some (.int (i * j)) := if_pos (decide_eq_true (p := _ < _) h)
theorem v_isN (neg : Bool) (a : PyData) : gIs neg a .none = some (.bool (neg != isNone a)) := (rfl)
theorem log2_le {n k : Nat} (h : n < 2 ^ k) (hk : 0 < k) : n.log2 < k := by
  by_cases z : n = 0
  · subst z; simpa using hk
  · exact (Nat.log2_lt z).mpr h

/-! ### shapes -/
theorem shaped_int (i : Int) : SeqAt.shaped (.int i) = true := (rfl)
theorem shaped_bool (i : Bool) : SeqAt.shaped (.bool i) = true := (rfl)
theorem shaped_none : SeqAt.shaped .none = true := (rfl)
theorem eq_int (neg : Bool) (i j : Int) : gEq neg (.int i) (.int j) = some (.bool (neg != decide (i = j))) := by
  unfold gEq
  rw [if_pos ⟨rfl, rfl⟩]
  simp only [PyData.eqv]
  by_cases h : i = j
  · simp [h]
  · rw [decide_eq_false h, beq_eq_false_iff_ne.mpr h]
theorem eq_bool (neg i j : Bool) : gEq neg (.bool i) (.bool j) = some (.bool (neg != (i == j))) := by
  unfold gEq
  rw [if_pos ⟨rfl, rfl⟩]
  simp only [PyData.eqv]
/-! cells -/
abbrev Cell := Int × Int
def cellD (p : Cell) : PyData := .tuple [.int p.1, .int p.2]
abbrev Post := Int × Int × Int
def postD (p : Post) : PyData := .tuple [.int p.1, .int p.2.1, .int p.2.2]
theorem cell_tup (p : Cell) : cellD p = tupD [p.1, p.2] := (rfl)
theorem cellD_mk (r c : Int) : PyData.tuple [.int r, .int c] = cellD (r, c) := (rfl)
theorem eqv_cell (a b : Cell) : PyData.eqv (cellD a) (cellD b) = decide (a = b) := by
  obtain ⟨a1, a2⟩ := a
  obtain ⟨b1, b2⟩ := b
  simp only [cellD, PyData.eqv, PyData.eqvAll, Prod.mk.injEq, Bool.and_true]
  by_cases h1 : a1 = b1 <;> by_cases h2 : a2 = b2 <;> simp [h1, h2]
theorem lay_cells : ∀ cs : List Cell, PyData.canLayAll0 (cs.map cellD) = true
  | [] => rfl
  | c :: cs => by
    rw [List.map_cons, PyData.canLayAll0, lay_cells cs]
    rfl
theorem dep_cells : ∀ cs : List Cell, PyData.depthAll (cs.map cellD) ≤ 2
  | [] => Nat.zero_le _
  | c :: cs => by
    rw [List.map_cons, PyData.depthAll]
    have := dep_cells cs
    have h : (cellD c).depth ≤ 2 := by
      simp only [cellD, PyData.depth, PyData.depthAll]
      decide
    omega
theorem shaped_cell (c : Cell) : SeqAt.shaped (cellD c) = true := (rfl)
theorem shaped_cellsL (cs : List Cell) : SeqAt.shaped (.list (cs.map cellD)) = true := by
  unfold SeqAt.shaped
  rw [PyData.canLay0, lay_cells, PyData.depth]
  have := dep_cells cs
  simp
  omega
theorem shaped_cellsT (cs : List Cell) : SeqAt.shaped (.tuple (cs.map cellD)) = true := by
  unfold SeqAt.shaped
  rw [PyData.canLay0, lay_cells, PyData.depth]
  have := dep_cells cs
  simp
  omega
theorem any_cells (a : Cell) (cs : List Cell) : ((cs.map cellD).any fun z => PyData.eqv z (cellD a)) = decide (a ∈ cs) := by
  induction cs with
  | nil => rfl
  | cons c cs ih =>
    rw [List.map_cons, List.any_cons, ih, eqv_cell]
    by_cases h : c = a
    · subst h; simp
    · have : ¬ a = c := fun e => h e.symm
      simp [h, this]
theorem in_cellsT (neg : Bool) (a : Cell) (cs : List Cell) : gIn neg (cellD a) (.tuple (cs.map cellD)) = some (.bool (neg != decide (a ∈ cs))) := by
  unfold gIn
  simp only [shaped_cell, shaped_cellsL, and_self, if_true, any_cells]
theorem in_cellsL (neg : Bool) (a : Cell) (cs : List Cell) : gIn neg (cellD a) (.list (cs.map cellD)) = some (.bool (neg != decide (a ∈ cs))) := by
  unfold gIn
  simp only [shaped_cell, shaped_cellsL, and_self, if_true, any_cells]
theorem eqvAll_cells : ∀ as bs : List Cell, PyData.eqvAll (as.map cellD) (bs.map cellD) = decide (as = bs)
  | [], [] => rfl
  | [], _ :: _ => rfl
  | _ :: _, [] => rfl
  | a :: as, b :: bs => by
    rw [List.map_cons, List.map_cons, PyData.eqvAll, eqv_cell, eqvAll_cells as bs]
    by_cases h1 : a = b <;> by_cases h2 : as = bs <;> simp [h1, h2]
/-! ### places -/
theorem ix0 {α : Type} (x : α) (xs : List α) : atI (x :: xs) 0 = some x := by
  unfold atI ixN
  simp
theorem atI_nat {α : Type} {xs : List α} {i : Nat} (h : i < xs.length) : atI xs (i : Int) = xs[i]? := by
  unfold atI ixN
  rw [if_pos (by omega), if_pos (by omega)]
  simp
theorem ix1 {α : Type} (x y : α) (xs : List α) : atI (x :: y :: xs) 1 = some y := atI_nat (i := 1) (by simp)
theorem ix2 {α : Type} (x y z : α) (xs : List α) : atI (x :: y :: z :: xs) 2 = some z := atI_nat (i := 2) (by simp)
theorem ix3 {α : Type} (x y z u : α) (xs : List α) : atI (x :: y :: z :: u :: xs) 3 = some u := atI_nat (i := 3) (by simp)
theorem gixT (ds : List PyData) (i : Int) : gIx (.tuple ds) (.int i) = atI ds i := (rfl)
theorem gixL (ds : List PyData) (i : Int) : gIx (.list ds) (.int i) = atI ds i := (rfl)
theorem ixN0 {n : Nat} (h : 0 < n) : ixN n 0 = some 0 := by unfold ixN; rw [if_pos (by omega), if_pos (by omega)]; rfl
theorem ixN_nat {n i : Nat} (h : i < n) : ixN n (i : Int) = some i := by unfold ixN; rw [if_pos (by omega), if_pos (by omega)]; simp
theorem cut_to {ds : List PyData} {n : Nat} : Fn.cutD ds none (some (n : Int)) = ds.take n := by
  unfold Fn.cutD
  rw [HT.sIx_none, HT.sIx_nat, List.drop_zero, Nat.sub_zero]
  by_cases h : n ≤ ds.length
  · rw [Nat.min_eq_left h]
  · rw [Nat.min_eq_right (by omega), List.take_length, List.take_of_length_le (by omega)]
theorem cut_from {ds : List PyData} {n : Nat} : Fn.cutD ds (some (n : Int)) none = ds.drop n := by
  unfold Fn.cutD
  rw [HT.sIx_none, HT.sIx_nat]
  by_cases h : n ≤ ds.length
  · rw [Nat.min_eq_left h, List.take_of_length_le (by rw [List.length_drop]; omega)]
  · rw [Nat.min_eq_right (by omega), List.drop_length, List.drop_of_length_le (by omega)]
    simp
theorem sl_t (ds : List PyData) (lo hi : Option Int) : gSl (.tuple ds) lo hi = some (.tuple (Fn.cutD ds lo hi)) := (rfl)
theorem sl_l (ds : List PyData) (lo hi : Option Int) : gSl (.list ds) lo hi = some (.list (Fn.cutD ds lo hi)) := (rfl)

theorem lay_posts : ∀ cs : List Post, PyData.canLayAll0 (cs.map postD) = true
  | [] => rfl
  | c :: cs => by
    rw [List.map_cons, PyData.canLayAll0, lay_posts cs]
    rfl
theorem cut_post2 (p : Post) : Fn.cutD [.int p.1, .int p.2.1, .int p.2.2] none (some 2) = [.int p.1, .int p.2.1] := cut_to (n := 2)
/-! ### loops -/
def stepP (g : MG) (t : MT) (m : ME) (ρ : Rho) (d : PyData) : Option (Option PyData) := (g d ρ).bind fun ρ1 => (t ρ1).bind fun p => if p.1 = true then (m ρ1).bind fun q => some (some q.1) else some none
theorem loopP_cons (g : MG) (t : MT) (m : ME) (ρ : Rho) (d : PyData) (ds : List PyData) : loopP g t m ρ (d :: ds) = (stepP g t m ρ d).bind fun o => (loopP g t m ρ ds).bind fun ys => some (match o with | some y => y :: ys | none => ys) := by
  show ((g d ρ).bind fun ρ1 => (t ρ1).bind fun p => _) = _
  unfold stepP
  cases g d ρ with
  | none => rfl
  | some ρ1 =>
    simp only [Option.bind_some]
    cases t ρ1 with
    | none => rfl
    | some p =>
      simp only [Option.bind_some]
      by_cases h : p.1 = true
      · rw [if_pos h, if_pos h]
        cases m ρ1 with
        | none => rfl
        | some q => rfl
      · rw [if_neg h, if_neg h]
        simp only [Option.bind_some]
        cases loopP g t m ρ ds <;> rfl
theorem loopP_map {α : Type} {g : MG} {t : MT} {m : ME} {ρ : Rho} {e : α → PyData} {p : α → Bool} {h : α → PyData} : ∀ xs : List α, (∀ x, x ∈ xs → stepP g t m ρ (e x) = some (if p x = true then some (h x) else none)) → loopP g t m ρ (xs.map e) = some ((xs.filter p).map h)
  | [], _ => rfl
  | x :: xs, H => by
    rw [List.map_cons, loopP_cons, H x List.mem_cons_self, loopP_map xs fun y hy => H y (List.mem_cons_of_mem _ hy)]
    simp only [Option.bind_some]
    by_cases hp : p x = true
    · rw [if_pos hp, List.filter_cons_of_pos hp]; rfl
    · rw [if_neg hp, List.filter_cons_of_neg hp]
theorem loopP_map1 {α : Type} {g : MG} {t : MT} {m : ME} {ρ : Rho} {e : α → PyData} {h : α → PyData} (xs : List α) (H : ∀ x, x ∈ xs → stepP g t m ρ (e x) = some (some (h x))) : loopP g t m ρ (xs.map e) = some (xs.map h) := by
  have := loopP_map (p := fun _ => true) (h := h) xs (fun x hx => by rw [H x hx]; rfl)
  rw [this, List.filter_eq_self.mpr (fun _ _ => rfl)]
def stepS (g : MG) (s : MS) (d : PyData) (ρ : Rho) : Option Out := (g d ρ).bind s
theorem loopS_cons (g : MG) (s : MS) (d : PyData) (ds : List PyData) (ρ : Rho) : loopS g s (d :: ds) ρ = (stepS g s d ρ).bind fun o => match o with | .nx ρ2 => loopS g s ds ρ2 | .ct ρ2 => loopS g s ds ρ2 | .bk ρ2 => some (.nx ρ2) | .rt d ρ2 => some (.rt d ρ2) := by
  show ((g d ρ).bind fun ρ1 => (s ρ1).bind fun o => _) = _
  unfold stepS
  cases g d ρ with
  | none => rfl
  | some ρ1 =>
    simp only [Option.bind_some]
    try (cases s ρ1 <;> rfl)
/-- a loop that goes to its end, by an invariant -/
theorem loopS_inv {α : Type} {g : MG} {s : MS} {e : α → PyData} {I : List α → Rho → Prop} (step : ∀ x xs ρ, I (x :: xs) ρ → ∃ ρ1, (stepS g s (e x) ρ = some (.nx ρ1) ∨ stepS g s (e x) ρ = some (.ct ρ1)) ∧ I xs ρ1) :
    ∀ (xs : List α) (ρ : Rho), I xs ρ → ∃ ρ1, loopS g s (xs.map e) ρ = some (.nx ρ1) ∧ I [] ρ1
  | [], ρ, h => ⟨ρ, rfl, h⟩
  | x :: xs, ρ, h => by
    obtain ⟨ρ1, q, h1⟩ := step x xs ρ h
    obtain ⟨ρ2, q2, h2⟩ := loopS_inv step xs ρ1 h1
    refine ⟨ρ2, ?_, h2⟩
    rw [List.map_cons, loopS_cons]
    rcases q with q | q <;> rw [q] <;> exact q2
/-- a loop that may hand back: what it ends with -/
theorem loopS_ret {α : Type} {g : MG} {s : MS} {e : α → PyData} {I : List α → Rho → Prop} {R : Out → Prop}
    (step : ∀ x xs ρ, I (x :: xs) ρ → ∃ o, stepS g s (e x) ρ = some o ∧ match o with | .nx ρ1 => I xs ρ1 | .ct ρ1 => I xs ρ1 | .bk ρ1 => R (.nx ρ1) | .rt d ρ1 => R (.rt d ρ1)) (fin : ∀ ρ, I [] ρ → R (.nx ρ)) :
    ∀ (xs : List α) (ρ : Rho), I xs ρ → ∃ o, loopS g s (xs.map e) ρ = some o ∧ R o
  | [], ρ, h => ⟨.nx ρ, rfl, fin ρ h⟩
  | x :: xs, ρ, h => by
    obtain ⟨o, q, h1⟩ := step x xs ρ h
    rw [List.map_cons, loopS_cons, q]
    cases o with
    | nx ρ1 => exact loopS_ret step fin xs ρ1 h1
    | ct ρ1 => exact loopS_ret step fin xs ρ1 h1
    | bk ρ1 => exact ⟨_, rfl, h1⟩
    | rt d ρ1 => exact ⟨_, rfl, h1⟩
/-- numbered things -/
theorem pairsD_map {α : Type} (e : α → PyData) : ∀ (n : Nat) (xs : List α), pairsD n (xs.map e) = (xs.zipIdx n).map fun q => .tuple [.int (q.2 : Nat), e q.1]
  | _, [] => rfl
  | n, x :: xs => by
    rw [List.map_cons, List.zipIdx_cons, List.map_cons, ← pairsD_map e (n + 1) xs]
    rfl
/-- a loop by what was taken already -/
theorem loopS_done {α : Type} {g : MG} {s : MS} {e : α → PyData} {I : List α → Rho → Prop} (all : List α) (step : ∀ done x rest ρ, all = done ++ x :: rest → I done ρ → ∃ ρ1, (stepS g s (e x) ρ = some (.nx ρ1) ∨ stepS g s (e x) ρ = some (.ct ρ1)) ∧ I (done ++ [x]) ρ1)
    (ρ : Rho) (h : I [] ρ) : ∃ ρ1, loopS g s (all.map e) ρ = some (.nx ρ1) ∧ I all ρ1 := by
  obtain ⟨ρ1, q, done, e1, e2⟩ := loopS_inv (g := g) (s := s) (e := e) (I := fun xs ρ => ∃ done, all = done ++ xs ∧ I done ρ) (fun x xs ρ ⟨done, e1, e2⟩ => by
    obtain ⟨ρ1, q1, q2⟩ := step done x xs ρ e1 e2
    exact ⟨ρ1, q1, done ++ [x], by rw [e1, List.append_assoc]; rfl, q2⟩) all ρ ⟨[], rfl, h⟩
  rw [List.append_nil] at e1
  subst e1
  exact ⟨ρ1, q, e2⟩
theorem loopS_enum {α : Type} {g : MG} {s : MS} {e : α → PyData} {I : List α → Rho → Prop} (all : List α)
    (step : ∀ done x rest ρ, all = done ++ x :: rest → I done ρ → ∃ ρ1, (stepS g s (.tuple [.int (done.length : Nat), e x]) ρ = some (.nx ρ1) ∨ stepS g s (.tuple [.int (done.length : Nat), e x]) ρ = some (.ct ρ1)) ∧ I (done ++ [x]) ρ1)
    (ρ : Rho) (h : I [] ρ) : ∃ ρ1, loopS g s (pairsD 0 (all.map e)) ρ = some (.nx ρ1) ∧ I all ρ1 := by
  have key : ∀ (xs done : List α) (ρ : Rho), all = done ++ xs → I done ρ → ∃ ρ1, loopS g s (pairsD done.length (xs.map e)) ρ = some (.nx ρ1) ∧ I all ρ1 := by
    intro xs
    induction xs with
    | nil =>
      intro done ρ e1 h
      rw [List.append_nil] at e1
      subst e1
      exact ⟨ρ, rfl, h⟩
    | cons x xs ih =>
      intro done ρ e1 h
      obtain ⟨ρ1, q1, q2⟩ := step done x xs ρ e1 h
      obtain ⟨ρ2, q3, q4⟩ := ih (done ++ [x]) ρ1 (by rw [e1, List.append_assoc]; rfl) q2
      refine ⟨ρ2, ?_, q4⟩
      rw [List.length_append, List.length_singleton] at q3
      show loopS g s (.tuple [.int (done.length : Nat), e x] :: pairsD (done.length + 1) (xs.map e)) ρ = _
      rw [loopS_cons]
      rcases q1 with q1 | q1 <;> rw [q1] <;> exact q3
  exact key all [] ρ rfl h
/-- a loop that may hand back, by what was taken already -/
theorem loopS_doneR {α : Type} {g : MG} {s : MS} {e : α → PyData} {I : List α → Rho → Prop} {R : Out → Prop} (all : List α)
    (step : ∀ done x rest ρ, all = done ++ x :: rest → I done ρ → ∃ o, stepS g s (e x) ρ = some o ∧ match o with | .nx ρ1 => I (done ++ [x]) ρ1 | .ct ρ1 => I (done ++ [x]) ρ1 | .bk ρ1 => R (.nx ρ1) | .rt d ρ1 => R (.rt d ρ1))
    (fin : ∀ ρ, I all ρ → R (.nx ρ)) (ρ : Rho) (h : I [] ρ) : ∃ o, loopS g s (all.map e) ρ = some o ∧ R o := by
  refine loopS_ret (I := fun xs ρ => ∃ done, all = done ++ xs ∧ I done ρ) (fun x xs ρ ⟨done, e1, e2⟩ => ?_) (fun ρ ⟨done, e1, e2⟩ => ?_) all ρ ⟨[], rfl, h⟩
  · obtain ⟨o, q1, q2⟩ := step done x xs ρ e1 e2
    refine ⟨o, q1, ?_⟩
    have z : all = (done ++ [x]) ++ xs := by rw [e1, List.append_assoc]; rfl
    cases o with
    | nx ρ1 => exact ⟨_, z, q2⟩
    | ct ρ1 => exact ⟨_, z, q2⟩
    | bk ρ1 => exact q2
    | rt d ρ1 => exact q2
  · rw [List.append_nil] at e1
    subst e1
    exact fin ρ e2
theorem loopS_enumR {α : Type} {g : MG} {s : MS} {e : α → PyData} {I : List α → Rho → Prop} {R : Out → Prop} (all : List α)
    (step : ∀ done x rest ρ, all = done ++ x :: rest → I done ρ → ∃ o, stepS g s (.tuple [.int (done.length : Nat), e x]) ρ = some o ∧ match o with | .nx ρ1 => I (done ++ [x]) ρ1 | .ct ρ1 => I (done ++ [x]) ρ1 | .bk ρ1 => R (.nx ρ1) | .rt d ρ1 => R (.rt d ρ1))
    (fin : ∀ ρ, I all ρ → R (.nx ρ)) (ρ : Rho) (h : I [] ρ) : ∃ o, loopS g s (pairsD 0 (all.map e)) ρ = some o ∧ R o := by
  have key : ∀ (xs done : List α) (ρ : Rho), all = done ++ xs → I done ρ → ∃ o, loopS g s (pairsD done.length (xs.map e)) ρ = some o ∧ R o := by
    intro xs
    induction xs with
    | nil =>
      intro done ρ e1 h
      rw [List.append_nil] at e1
      subst e1
      exact ⟨.nx ρ, rfl, fin ρ h⟩
    | cons x xs ih =>
      intro done ρ e1 h
      obtain ⟨o, q1, q2⟩ := step done x xs ρ e1 h
      have z : all = (done ++ [x]) ++ xs := by rw [e1, List.append_assoc]; rfl
      have ih' := fun ρ1 => ih (done ++ [x]) ρ1 z
      rw [List.length_append, List.length_singleton] at ih'
      show ∃ o, loopS g s (.tuple [.int (done.length : Nat), e x] :: pairsD (done.length + 1) (xs.map e)) ρ = some o ∧ R o
      rw [loopS_cons, q1]
      cases o with
      | nx ρ1 => exact ih' ρ1 q2
      | ct ρ1 => exact ih' ρ1 q2
      | bk ρ1 => exact ⟨_, rfl, q2⟩
      | rt d ρ1 => exact ⟨_, rfl, q2⟩
  exact key all [] ρ rfl h
theorem enumL {α : Type} {g : MG} {s : MS} {e : α → PyData} {all : List α} {ρ : Rho} {L : Option Out} (hL : loopS g s (pairsD 0 (all.map e)) ρ = L) (I : List α → Rho → Prop) (h : I [] ρ)
    (step : ∀ done x rest ρ, all = done ++ x :: rest → I done ρ → ∃ ρ1, (stepS g s (.tuple [.int (done.length : Nat), e x]) ρ = some (.nx ρ1) ∨ stepS g s (.tuple [.int (done.length : Nat), e x]) ρ = some (.ct ρ1)) ∧ I (done ++ [x]) ρ1) : ∃ ρ1, L = some (.nx ρ1) ∧ I all ρ1 := by
  rw [← hL]; exact loopS_enum all step ρ h
theorem doneL {α : Type} {g : MG} {s : MS} {e : α → PyData} {all : List α} {ρ : Rho} {L : Option Out} (hL : loopS g s (all.map e) ρ = L) (I : List α → Rho → Prop) (h : I [] ρ)
    (step : ∀ done x rest ρ, all = done ++ x :: rest → I done ρ → ∃ ρ1, (stepS g s (e x) ρ = some (.nx ρ1) ∨ stepS g s (e x) ρ = some (.ct ρ1)) ∧ I (done ++ [x]) ρ1) : ∃ ρ1, L = some (.nx ρ1) ∧ I all ρ1 := by
  rw [← hL]; exact loopS_done all step ρ h
theorem enumLR {α : Type} {g : MG} {s : MS} {e : α → PyData} {all : List α} {ρ : Rho} {L : Option Out} (hL : loopS g s (pairsD 0 (all.map e)) ρ = L) (I : List α → Rho → Prop) (R : Out → Prop) (h : I [] ρ)
    (step : ∀ done x rest ρ, all = done ++ x :: rest → I done ρ → ∃ o, stepS g s (.tuple [.int (done.length : Nat), e x]) ρ = some o ∧ match o with | .nx ρ1 => I (done ++ [x]) ρ1 | .ct ρ1 => I (done ++ [x]) ρ1 | .bk ρ1 => R (.nx ρ1) | .rt d ρ1 => R (.rt d ρ1))
    (fin : ∀ ρ, I all ρ → R (.nx ρ)) : ∃ o, L = some o ∧ R o := by
  rw [← hL]; exact loopS_enumR all step fin ρ h
theorem doneLR {α : Type} {g : MG} {s : MS} {e : α → PyData} {all : List α} {ρ : Rho} {L : Option Out} (hL : loopS g s (all.map e) ρ = L) (I : List α → Rho → Prop) (R : Out → Prop) (h : I [] ρ)
    (step : ∀ done x rest ρ, all = done ++ x :: rest → I done ρ → ∃ o, stepS g s (e x) ρ = some o ∧ match o with | .nx ρ1 => I (done ++ [x]) ρ1 | .ct ρ1 => I (done ++ [x]) ρ1 | .bk ρ1 => R (.nx ρ1) | .rt d ρ1 => R (.rt d ρ1))
    (fin : ∀ ρ, I all ρ → R (.nx ρ)) : ∃ o, L = some o ∧ R o := by
  rw [← hL]; exact loopS_doneR all step fin ρ h
/-- what a turn leaves: the loop goes on, or ends -/
def After (I : Rho → Prop) (R : Out → Prop) : Option Out → Prop
  | some (.nx ρ) => I ρ
  | some (.ct ρ) => I ρ
  | some (.bk ρ) => R (.nx ρ)
  | some (.rt d ρ) => R (.rt d ρ)
  | none => False
theorem af_nx (I : Rho → Prop) (R : Out → Prop) (ρ : Rho) : After I R (some (.nx ρ)) = I ρ := (rfl)
theorem af_ct (I : Rho → Prop) (R : Out → Prop) (ρ : Rho) : After I R (some (.ct ρ)) = I ρ := (rfl)
theorem af_bk (I : Rho → Prop) (R : Out → Prop) (ρ : Rho) : After I R (some (.bk ρ)) = R (.nx ρ) := (rfl)
theorem af_rt (I : Rho → Prop) (R : Out → Prop) (d : PyData) (ρ : Rho) : After I R (some (.rt d ρ)) = R (.rt d ρ) := (rfl)
theorem After.out {I : Rho → Prop} {R : Out → Prop} {o : Option Out} (h : After I R o) : ∃ u, o = some u ∧ match u with | .nx ρ1 => I ρ1 | .ct ρ1 => I ρ1 | .bk ρ1 => R (.nx ρ1) | .rt d ρ1 => R (.rt d ρ1) := by
  match o, h with
  | some (.nx ρ), h => exact ⟨_, rfl, h⟩
  | some (.ct ρ), h => exact ⟨_, rfl, h⟩
  | some (.bk ρ), h => exact ⟨_, rfl, h⟩
  | some (.rt d ρ), h => exact ⟨_, rfl, h⟩
theorem doneA {α : Type} {g : MG} {s : MS} {e : α → PyData} {all : List α} {ρ : Rho} {L : Option Out} (hL : loopS g s (all.map e) ρ = L) (I : List α → Rho → Prop) (R : Out → Prop) (h : I [] ρ)
    (step : ∀ done x rest ρ, all = done ++ x :: rest → I done ρ → After (I (done ++ [x])) R (stepS g s (e x) ρ)) (fin : ∀ ρ, I all ρ → R (.nx ρ)) : ∃ o, L = some o ∧ R o :=
  doneLR hL I R h (fun done x rest ρ hd hi => (step done x rest ρ hd hi).out) fin
theorem enumA {α : Type} {g : MG} {s : MS} {e : α → PyData} {all : List α} {ρ : Rho} {L : Option Out} (hL : loopS g s (pairsD 0 (all.map e)) ρ = L) (I : List α → Rho → Prop) (R : Out → Prop) (h : I [] ρ)
    (step : ∀ done x rest ρ, all = done ++ x :: rest → I done ρ → After (I (done ++ [x])) R (stepS g s (.tuple [.int (done.length : Nat), e x]) ρ)) (fin : ∀ ρ, I all ρ → R (.nx ρ)) : ∃ o, L = some o ∧ R o :=
  enumLR hL I R h (fun done x rest ρ hd hi => (step done x rest ρ hd hi).out) fin
theorem doneI {α : Type} {g : MG} {s : MS} {e : α → PyData} {all : List α} {ρ : Rho} {L : Option Out} (hL : loopS g s (all.map e) ρ = L) (I : List α → Rho → Prop) (h : I [] ρ)
    (step : ∀ done x rest ρ, all = done ++ x :: rest → I done ρ → After (I (done ++ [x])) (fun _ => False) (stepS g s (e x) ρ)) : ∃ ρ1, L = some (.nx ρ1) ∧ I all ρ1 := by
  refine doneL hL I h fun done x rest ρ hd hi => ?_
  obtain ⟨u, e1, h1⟩ := (step done x rest ρ hd hi).out
  cases u with
  | nx ρ1 => exact ⟨ρ1, .inl e1, h1⟩
  | ct ρ1 => exact ⟨ρ1, .inr e1, h1⟩
  | bk ρ1 => exact h1.elim
  | rt d ρ1 => exact h1.elim
theorem enumI {α : Type} {g : MG} {s : MS} {e : α → PyData} {all : List α} {ρ : Rho} {L : Option Out} (hL : loopS g s (pairsD 0 (all.map e)) ρ = L) (I : List α → Rho → Prop) (h : I [] ρ)
    (step : ∀ done x rest ρ, all = done ++ x :: rest → I done ρ → After (I (done ++ [x])) (fun _ => False) (stepS g s (.tuple [.int (done.length : Nat), e x]) ρ)) : ∃ ρ1, L = some (.nx ρ1) ∧ I all ρ1 := by
  refine enumL hL I h fun done x rest ρ hd hi => ?_
  obtain ⟨u, e1, h1⟩ := (step done x rest ρ hd hi).out
  cases u with
  | nx ρ1 => exact ⟨ρ1, .inl e1, h1⟩
  | ct ρ1 => exact ⟨ρ1, .inr e1, h1⟩
  | bk ρ1 => exact h1.elim
  | rt d ρ1 => exact h1.elim
/-- a comprehension with changes, turn by turn -/
def stepC (vs : List Nat) (g : MG) (t : MT) (m : ME) (d : PyData) (acc : List PyData) (ρ : Rho) : Option (List PyData × Rho) := (g d ρ).bind fun ρ1 => (t ρ1).bind fun p => if p.1 = true then (m p.2).bind fun q => if acc.length < 16000000 then some (acc ++ [q.1], wipeR q.2 vs) else none else some (acc, wipeR p.2 vs)
theorem loopC_cons (vs : List Nat) (g : MG) (t : MT) (m : ME) (d : PyData) (ds acc : List PyData) (ρ : Rho) : loopC vs g t m (d :: ds) acc ρ = (stepC vs g t m d acc ρ).bind fun r => loopC vs g t m ds r.1 r.2 := by
  show ((g d ρ).bind fun ρ1 => (t ρ1).bind fun p => _) = _
  unfold stepC
  cases g d ρ with
  | none => rfl
  | some ρ1 =>
    simp only [Option.bind_some]
    cases t ρ1 with
    | none => rfl
    | some p =>
      simp only [Option.bind_some]
      by_cases h : p.1 = true
      · rw [if_pos h, if_pos h]
        cases m p.2 with
        | none => rfl
        | some q =>
          simp only [Option.bind_some]
          by_cases hl : acc.length < 16000000
          · rw [if_pos hl, if_pos hl]; rfl
          · rw [if_neg hl, if_neg hl]; rfl
      · rw [if_neg h, if_neg h]
        rfl
def AfterC (I : List PyData → Rho → Prop) : Option (List PyData × Rho) → Prop
  | some r => I r.1 r.2
  | none => False
theorem af_c (I : List PyData → Rho → Prop) (acc : List PyData) (ρ : Rho) : AfterC I (some (acc, ρ)) = I acc ρ := (rfl)
theorem doneC {α : Type} {vs : List Nat} {g : MG} {t : MT} {m : ME} {e : α → PyData} {all : List α} {ρ : Rho} {L : Option (List PyData × Rho)} (hL : loopC vs g t m (all.map e) [] ρ = L) (I : List α → List PyData → Rho → Prop) (h : I [] [] ρ)
    (step : ∀ done x rest acc ρ, all = done ++ x :: rest → I done acc ρ → AfterC (I (done ++ [x])) (stepC vs g t m (e x) acc ρ)) : ∃ acc ρ1, L = some (acc, ρ1) ∧ I all acc ρ1 := by
  have key : ∀ (xs done : List α) (acc : List PyData) (ρ : Rho), all = done ++ xs → I done acc ρ → ∃ acc1 ρ1, loopC vs g t m (xs.map e) acc ρ = some (acc1, ρ1) ∧ I all acc1 ρ1 := by
    intro xs
    induction xs with
    | nil =>
      intro done acc ρ e1 h
      rw [List.append_nil] at e1
      subst e1
      exact ⟨acc, ρ, rfl, h⟩
    | cons x xs ih =>
      intro done acc ρ e1 h
      have st := step done x xs acc ρ e1 h
      rw [List.map_cons, loopC_cons]
      cases hs : stepC vs g t m (e x) acc ρ with
      | none => rw [hs] at st; exact st.elim
      | some r =>
        rw [hs] at st
        exact ih (done ++ [x]) r.1 r.2 (by rw [e1, List.append_assoc]; rfl) st
  rw [← hL]
  exact key all [] [] ρ rfl h
theorem seq_nx {s1 s2 : MS} {ρ ρ1 : Rho} (h : s1 ρ = some (.nx ρ1)) : mSeq s1 s2 ρ = s2 ρ1 := by rw [a_seq, h]; rfl
theorem some_if {α : Type} (c : Bool) (x : α) : (if c = true then some (some x) else some none) = some (if c = true then some x else none) := by cases c <;> rfl
theorem if_and (c d : Bool) (ρ : Rho) : (if c = true then some (PyData.bool d, ρ) else some (PyData.bool false, ρ)) = some (PyData.bool (c && d), ρ) := by cases c <;> rfl
theorem if_or (c d : Bool) (ρ : Rho) : (if c = true then some (PyData.bool true, ρ) else some (PyData.bool d, ρ)) = some (PyData.bool (c || d), ρ) := by cases c <;> rfl
theorem if_tan (c d : Bool) (ρ : Rho) : (if c = true then some (d, ρ) else some (false, ρ)) = some (c && d, ρ) := by cases c <;> rfl
theorem if_tor (c d : Bool) (ρ : Rho) : (if c = true then some (true, ρ) else some (d, ρ)) = some (c || d, ρ) := by cases c <;> rfl
theorem rngD_map (lo : Int) (n : Nat) : rngD lo n = (List.range n).map fun (i : Nat) => .int (lo + (i : Int)) := (rfl)
end Mx

set_option Elab.async false
set_option linter.all false
set_option maxRecDepth 100000
/-! Mx3: floors as data. -/
namespace Mx
open PySem PySem.Spec L2 Fn
open PyProof.Rows hiding St
theorem p_sh (d : PyData) : isPar (.sh d) = false := (rfl)
theorem p_no : isPar .no = false := (rfl)
theorem p_own (ds : List PyData) : isPar (.own ds) = false := (rfl)
theorem p_par (ds : List PyData) : isPar (.par ds) = true := (rfl)
/-- a slot with a value that stands still, or none -/
def pl : Slot → Bool
  | .no => true
  | .sh _ => true
  | _ => false
theorem p_plsh (d : PyData) : pl (.sh d) = true := rfl
theorem p_plno : pl .no = true := rfl
theorem isPar_pl {s : Slot} (h : pl s = true) : isPar s = false := by
  cases s with
  | no => rfl
  | sh d => rfl
  | dct d => cases h
  | own ds => cases h
  | par ds => cases h
theorem clean_pl (vs : List Nat) (ρ : Rho) : clean vs ρ = vs.all fun v => match ρ[v]? with | some s => pl s | none => false := by
  unfold clean
  congr 1
  funext v
  cases ρ[v]? with
  | none => rfl
  | some s => cases s <;> rfl
theorem st_sh (d : PyData) : still (.sh d) = .sh d := (rfl)
theorem st_no : still .no = .no := (rfl)
theorem st_own (ds : List PyData) : still (.own ds) = .sh (.list ds) := (rfl)
theorem st_par (ds : List PyData) : still (.par ds) = .par ds := (rfl)
structure Fl where
  rows : Int
  cols : Int
  posts : List Post
  aw : List Cell
def flD (F : Fl) : PyData := .tuple [.int F.rows, .int F.cols, .tuple (F.posts.map postD), .tuple (F.aw.map cellD)]
def Fl.has (F : Fl) (c : Cell) : Bool := decide (0 ≤ c.1) && decide (c.1 ≤ F.rows - 1) && (decide (0 ≤ c.2) && decide (c.2 ≤ F.cols - 1))
def pc (p : Post) : Cell := (p.1, p.2.1)
structure Fl.Ok (F : Fl) : Prop where
  r : 1 ≤ F.rows ∧ F.rows ≤ 5
  c : 1 ≤ F.cols ∧ F.cols ≤ 5
  pl : F.posts.length ≤ 4
  ph : ∀ p, p ∈ F.posts → F.has (pc p) = true ∧ 1 ≤ p.2.2 ∧ p.2.2 ≤ 4
  pn : (F.posts.map pc).Nodup
  al : F.aw.length ≤ 8
  ah : ∀ c, c ∈ F.aw → F.has c = true
  an : F.aw.Nodup
theorem Fl.has_of {F : Fl} {c : Cell} (h : F.has c = true) : 0 ≤ c.1 ∧ c.1 < F.rows ∧ 0 ≤ c.2 ∧ c.2 < F.cols := by
  unfold Fl.has at h
  simp only [Bool.and_eq_true, decide_eq_true_eq] at h
  omega
theorem Fl.has_iff {F : Fl} {c : Cell} : F.has c = true ↔ 0 ≤ c.1 ∧ c.1 < F.rows ∧ 0 ≤ c.2 ∧ c.2 < F.cols := by
  unfold Fl.has
  simp only [Bool.and_eq_true, decide_eq_true_eq]
  omega
/-! reading them -/
theorem f_ix0 (F : Fl) : gIx (flD F) (.int 0) = some (.int F.rows) := (rfl)
theorem f_ix1 (F : Fl) : gIx (flD F) (.int 1) = some (.int F.cols) := (rfl)
theorem f_ix2 (F : Fl) : gIx (flD F) (.int 2) = some (.tuple (F.posts.map postD)) := (rfl)
theorem f_ix3 (F : Fl) : gIx (flD F) (.int 3) = some (.tuple (F.aw.map cellD)) := (rfl)
theorem c_ix0 (c : Cell) : gIx (cellD c) (.int 0) = some (.int c.1) := (rfl)
theorem c_ix1 (c : Cell) : gIx (cellD c) (.int 1) = some (.int c.2) := (rfl)
theorem q_ix0 (c : Post) : gIx (postD c) (.int 0) = some (.int c.1) := (rfl)
theorem q_ix1 (c : Post) : gIx (postD c) (.int 1) = some (.int c.2.1) := (rfl)
theorem q_ix2 (c : Post) : gIx (postD c) (.int 2) = some (.int c.2.2) := (rfl)
theorem q_sl (p : Post) : gSl (postD p) none (some 2) = some (cellD (pc p)) := (rfl)
theorem f_kt (F : Fl) : isK "tuple" (flD F) = true := (rfl)
theorem c_kt (c : Cell) : isK "tuple" (cellD c) = true := (rfl)
theorem c_kl (c : Cell) : isK "list" (cellD c) = false := (rfl)
theorem q_kt (c : Post) : isK "tuple" (postD c) = true := (rfl)
theorem f_len (F : Fl) : fLen [flD F] = some (.int 4) := (rfl)
theorem c_len (c : Cell) : fLen [cellD c] = some (.int 2) := (rfl)
theorem q_len (c : Post) : fLen [postD c] = some (.int 3) := (rfl)
theorem c_go (gs : MGs) (c : Cell) (ρ : Rho) : goTup 2 gs (cellD c) ρ = gs [.int c.1, .int c.2] ρ := (rfl)
theorem q_go (gs : MGs) (c : Post) (ρ : Rho) : goTup 3 gs (postD c) ρ = gs [.int c.1, .int c.2.1, .int c.2.2] ρ := (rfl)
theorem f_go (gs : MGs) (F : Fl) (ρ : Rho) : goTup 4 gs (flD F) ρ = gs [.int F.rows, .int F.cols, .tuple (F.posts.map postD), .tuple (F.aw.map cellD)] ρ := (rfl)
theorem t_go (n : Nat) (gs : MGs) (ds : List PyData) (ρ : Rho) : goTup n gs (.tuple ds) ρ = if ds.length = n then gs ds ρ else none := (rfl)
theorem g_cons (g : MG) (gs : MGs) (d : PyData) (ds : List PyData) (ρ : Rho) : goCons g gs (d :: ds) ρ = (g d ρ).bind fun ρ1 => gs ds ρ1 := (rfl)
theorem g_nil (ρ : Rho) : goNil [] ρ = some ρ := (rfl)
theorem v_enumT (ds : List PyData) : fEnum [.tuple ds] = some (pairsD 0 ds) := (rfl)
theorem v_enumS (z : Str) : fEnum [.str z] = some (pairsD 0 (Fn.signs z)) := (rfl)
theorem v_rng1 {j : Int} (h1 : 0 ≤ j) (h2 : j < 1000000) : fRng1 [.int j] = some (rngD 0 j.toNat) := if_pos (by omega)
theorem v_rngN {n : Nat} (h : n < 1000000) : fRng1 [.int (n : Int)] = some (rngD 0 n) := by
  have := v_rng1 (j := (n : Int)) (by omega) (by omega)
  rw [Int.toNat_natCast] at this
  exact this
theorem v_rng2 {i j : Int} (h0 : -1000000 ≤ i ∧ i < 1000000) (h2 : -1000000 ≤ j ∧ j < 1000000) : fRng2 [.int i, .int j] = some (rngD i (j - i).toNat) := if_pos (by omega)
theorem v_n40 : ixN 4 0 = some 0 := by decide
theorem v_n41 : ixN 4 1 = some 1 := by decide
theorem v_n42 : ixN 4 2 = some 2 := by decide
theorem v_n43 : ixN 4 3 = some 3 := by decide
theorem v_setR0 (ρ : Rho) : setR [] [] ρ = some ρ := (rfl)
theorem q_add (c : Cell) (h : Int) : gAdd (cellD c) (.tuple [.int h]) = some (postD (c.1, c.2, h)) := (rfl)
theorem v_addT {xs ys : List PyData} (h : xs.length + ys.length ≤ 16000000) : gAdd (.tuple xs) (.tuple ys) = some (.tuple (xs ++ ys)) := by
  have e : gAdd (.tuple xs) (.tuple ys) = (gCatT (.tuple xs) (.tuple ys)).or (gCatT0 (.tuple xs) (.tuple ys)) := rfl
  rw [e]
  cases xs with
  | nil =>
    have : gCatT (.tuple []) (.tuple ys) = none := if_neg (fun z => z.2 rfl)
    rw [this]
    rfl
  | cons x xs =>
    have : gCatT (.tuple (x :: xs)) (.tuple ys) = some (.tuple (x :: xs ++ ys)) := if_pos ⟨h, by simp⟩
    rw [this]
    rfl
theorem f_sl3 (F : Fl) : gSl (flD F) none (some 3) = some (.tuple [.int F.rows, .int F.cols, .tuple (F.posts.map postD)]) := rfl
theorem f_sl2 (F : Fl) : gSl (flD F) none (some 2) = some (.tuple [.int F.rows, .int F.cols]) := rfl
theorem q_cutc1 (cs : List Cell) : Fn.cutD (cs.map cellD) (some 1) none = (cs.drop 1).map cellD := by
  rw [show (1 : Int) = ((1 : Nat) : Int) from rfl, cut_from, List.map_drop]
theorem q_cutc2 (cs : List Cell) : Fn.cutD (cs.map cellD) none (some 1) = (cs.take 1).map cellD := by
  rw [show (1 : Int) = ((1 : Nat) : Int) from rfl, cut_to, List.map_take]
theorem q_cutp1 (cs : List Post) : Fn.cutD (cs.map postD) (some 1) none = (cs.drop 1).map postD := by
  rw [show (1 : Int) = ((1 : Nat) : Int) from rfl, cut_from, List.map_drop]
theorem cells_to (cs : List Cell) (n : Nat) : gSl (.tuple (cs.map cellD)) none (some (n : Int)) = some (.tuple ((cs.take n).map cellD)) := by
  rw [sl_t, cut_to, List.map_take]
theorem cells_from (cs : List Cell) (n : Nat) : gSl (.tuple (cs.map cellD)) (some (n : Int)) none = some (.tuple ((cs.drop n).map cellD)) := by
  rw [sl_t, cut_from, List.map_drop]
theorem posts_from (cs : List Post) (n : Nat) : gSl (.tuple (cs.map postD)) (some (n : Int)) none = some (.tuple ((cs.drop n).map postD)) := by
  rw [sl_t, cut_from, List.map_drop]
theorem put_own (ds : List PyData) (f : List PyData → Option (List PyData)) : putOwn (.own ds) f = (f ds).bind fun es => some (.own es) := (rfl)
theorem put_par (ds : List PyData) (f : List PyData → Option (List PyData)) : putOwn (.par ds) f = (f ds).bind fun es => some (.par es) := (rfl)
theorem o_rt (d : PyData) (ρ : Rho) : outP (some (.rt d ρ)) = some d := (rfl)
theorem o_nx (ρ : Rho) : outP (some (.nx ρ)) = some .none := (rfl)
theorem r_rt (d : PyData) (ρ : Rho) : outR (some (.rt d ρ)) = (parOf ρ[0]?).bind fun rs => some (d, rs) := (rfl)
theorem r_nx (ρ : Rho) : outR (some (.nx ρ)) = (parOf ρ[0]?).bind fun rs => some (.none, rs) := (rfl)
theorem po_par (rs : List PyData) : parOf (some (.par rs)) = some rs := (rfl)
end Mx

set_option Elab.async false
set_option linter.all false
set_option maxRecDepth 100000
/-! Mx4: suns as data; cells in their order; shade. -/
namespace Mx
open PySem PySem.Spec L2 Fn
open PyProof.Rows hiding St
inductive Dir where
  | n | e | s | w | o
  deriving DecidableEq
def Dir.code : Dir → Nat
  | .n => 110
  | .e => 101
  | .s => 115
  | .w => 119
  | .o => 111
def Dir.dr : Dir → Int
  | .n => -1
  | .s => 1
  | _ => 0
def Dir.dc : Dir → Int
  | .e => 1
  | .w => -1
  | _ => 0
def dirS (d : Dir) : Str := ⟨#[d.code]⟩
def sunS (l : List Dir) : Str := ⟨(l.map Dir.code).toArray⟩
theorem sun_len (l : List Dir) : (sunS l).length = l.length := by
  show (l.map Dir.code).toArray.size = _
  simp
theorem sun_signs (l : List Dir) : Fn.signs (sunS l) = l.map fun d => .str (dirS d) := by
  show ((l.map Dir.code).toArray.toList.map fun c => PyData.str ⟨#[c]⟩) = _
  rw [List.map_map]
  rfl
theorem sun_ix {l : List Dir} (hl : l.length ≤ 100000) {i : Nat} {d : Dir} (h : l[i]? = some d) : gIx (.str (sunS l)) (.int (i : Int)) = some (.str (dirS d)) := by
  have hi : i < l.length := (List.getElem?_eq_some_iff.mp h).1
  show (if (sunS l).length ≤ 100000 then (atI (sunS l).cps.toList (i : Int)).map fun c => PyData.str ⟨#[c]⟩ else none) = _
  rw [if_pos (by rw [sun_len]; exact hl)]
  show (atI (l.map Dir.code) (i : Int)).map _ = _
  rw [atI_nat (by rw [List.length_map]; exact hi), List.getElem?_map, h]
  rfl
theorem d_eqO (neg : Bool) (d : Dir) : gEq neg (.str (dirS d)) (.str "o") = some (.bool (neg != decide (d = .o))) := by
  have e : (dirS d == ("o" : Str)) = decide (d = .o) := by cases d <;> decide +kernel
  unfold gEq
  rw [if_pos ⟨by cases d <;> decide +kernel, by decide +kernel⟩]
  simp only [PyData.eqv, e]
theorem d_notin (d : Dir) : gIn true (.str (dirS d)) (.str "neswo") = some (.bool false) := by
  have e : (true != !(Builtin.Str.occurrences "neswo" (dirS d) 0 ("neswo" : Str).length 1).isEmpty) = false := by cases d <;> decide +kernel
  show some (PyData.bool (true != !(Builtin.Str.occurrences "neswo" (dirS d) 0 ("neswo" : Str).length 1).isEmpty)) = _
  rw [e]
theorem v_pow18 : gPow (.int 10) (.int 18) = some (.int 1000000000000000000) := by
  show (if decide (0 ≤ (18 : Int) ∧ (18 : Int) ≤ 1000000 ∧ (10 : Int).natAbs < 2 ^ 64) = true then some (PyData.int ((10 : Int) ^ (18 : Int).toNat)) else none) = _
  rw [if_pos (by decide)]
  rfl
/-! cells of a floor, rising -/
def cellsOf (F : Fl) : List Cell := (List.range (F.rows * F.cols).toNat).map fun (k : Nat) => ((k : Int) / F.cols, (k : Int) % F.cols)
def shadyP (F : Fl) (d : Dir) (c : Cell) : Bool := F.posts.any fun p => decide (d ≠ .o) && decide (pc p ∈ (List.range p.2.2.toNat).map fun (i : Nat) => ((c.1 - (1 + (i : Int)) * d.dr, c.2 - (1 + (i : Int)) * d.dc) : Cell))
def shady (F : Fl) (d : Dir) (c : Cell) : Bool := decide (((c.1 - d.dr, c.2 - d.dc) : Cell) ∈ F.aw) || shadyP F d c
def shadeOf (F : Fl) (d : Dir) : List Cell := (cellsOf F).filter (shady F d)
def k2 (c : Cell) : List Int := [c.1, c.2]
theorem tupD_k2 (c : Cell) : tupD (k2 c) = cellD c := (rfl)
theorem mem_cells' {F : Fl} (r : 1 ≤ F.rows ∧ F.rows ≤ 5) (q : 1 ≤ F.cols ∧ F.cols ≤ 5) {c : Cell} : c ∈ cellsOf F ↔ F.has c = true := by
  unfold cellsOf
  rw [List.mem_map, Fl.has_iff]
  constructor
  · rintro ⟨k, hk, rfl⟩
    have hk := List.mem_range.mp hk
    have h1 := Int.emod_nonneg (k : Int) (show F.cols ≠ 0 by omega)
    have h2 := Int.emod_lt_of_pos (k : Int) (show 0 < F.cols by omega)
    have h3 : 0 ≤ (k : Int) / F.cols := Int.ediv_nonneg (by omega) (by omega)
    have h4 : (k : Int) / F.cols < F.rows := by
      refine Int.ediv_lt_of_lt_mul (by omega) ?_
      have : ((F.rows * F.cols).toNat : Int) = F.rows * F.cols := Int.toNat_of_nonneg (Int.mul_nonneg (by omega) (by omega))
      omega
    exact ⟨h3, h4, h1, h2⟩
  · rintro ⟨h1, h2, h3, h4⟩
    obtain ⟨x, y⟩ := c
    dsimp only at h1 h2 h3 h4
    have m1 : 0 ≤ x * F.cols := Int.mul_nonneg h1 (by omega)
    have m2 : (x + 1) * F.cols ≤ F.rows * F.cols := Int.mul_le_mul_of_nonneg_right (by omega) (by omega)
    rw [Int.add_mul] at m2
    refine ⟨(x * F.cols + y).toNat, List.mem_range.mpr (by omega), ?_⟩
    have e : ((x * F.cols + y).toNat : Int) = y + x * F.cols := by omega
    rw [e, Int.add_mul_ediv_right _ _ (by omega), Int.add_mul_emod_self_right, Int.ediv_eq_zero_of_lt h3 h4, Int.emod_eq_of_lt h3 h4]
    simp
theorem mem_cells {F : Fl} (O : F.Ok) {c : Cell} : c ∈ cellsOf F ↔ F.has c = true := mem_cells' O.r O.c
theorem ok_k2 {F : Fl} (O : F.Ok) {c : Cell} (h : F.has c = true) : okPair (k2 c) = true := by
  have := Fl.has_iff.mp h
  have r := O.r
  have q := O.c
  exact decide_eq_true (by omega)
theorem k2_inj {a b : Cell} (h : k2 a = k2 b) : a = b := by
  unfold k2 at h
  simp only [List.cons.injEq, and_true] at h
  exact Prod.ext h.1 h.2
theorem cells_rise {F : Fl} (O : F.Ok) : Rise ((cellsOf F).map k2) := by
  have r := O.r
  have q := O.c
  unfold Rise cellsOf
  rw [List.map_map, List.pairwise_map]
  refine List.Pairwise.imp_of_mem (fun {a b} _ _ h => ?_) List.pairwise_lt_range
  show cd [_, _] < cd [_, _]
  unfold cd
  rw [code_pair, code_pair]
  show (a : Int) / F.cols * 64 + (a : Int) % F.cols < (b : Int) / F.cols * 64 + (b : Int) % F.cols
  have h1 := Int.mul_ediv_add_emod (a : Int) F.cols
  have h2 := Int.mul_ediv_add_emod (b : Int) F.cols
  have a1 := Int.emod_nonneg (a : Int) (show F.cols ≠ 0 by omega)
  have a2 := Int.emod_lt_of_pos (a : Int) (show 0 < F.cols by omega)
  have b1 := Int.emod_nonneg (b : Int) (show F.cols ≠ 0 by omega)
  have b2 := Int.emod_lt_of_pos (b : Int) (show 0 < F.cols by omega)
  have le : (a : Int) / F.cols ≤ (b : Int) / F.cols := Int.ediv_le_ediv (by omega) (by omega)
  rcases Int.lt_or_eq_of_le le with z | z
  · omega
  · rw [z] at h1 ⊢
    omega
theorem rise_filter {F : Fl} (O : F.Ok) (p : Cell → Bool) : Rise (((cellsOf F).filter p).map k2) := by
  have := cells_rise O
  exact List.Pairwise.sublist (List.Sublist.map _ List.filter_sublist) this
/-- sorted(set) of cells of a floor -/
theorem canon_cells {F : Fl} (O : F.Ok) {cs : List Cell} {p : Cell → Bool} (h : ∀ c, c ∈ cs ↔ F.has c = true ∧ p c = true) : canon (cs.map k2) = ((cellsOf F).filter p).map k2 := by
  have ok : ∀ k, k ∈ cs.map k2 → okPair k = true := fun k hk => by
    obtain ⟨c, hc, rfl⟩ := List.mem_map.mp hk
    exact ok_k2 O ((h c).mp hc).1
  refine rise_eq (canon_ok ok).2 (rise_filter O p) fun j => ?_
  rw [(canon_ok ok).1 j]
  constructor
  · intro hj
    obtain ⟨c, hc, rfl⟩ := List.mem_map.mp hj
    obtain ⟨h1, h2⟩ := (h c).mp hc
    exact List.mem_map_of_mem (List.mem_filter.mpr ⟨(mem_cells O).mpr h1, h2⟩)
  · intro hj
    obtain ⟨c, hc, rfl⟩ := List.mem_map.mp hj
    obtain ⟨h1, h2⟩ := List.mem_filter.mp hc
    exact List.mem_map_of_mem ((h c).mpr ⟨(mem_cells O).mp h1, h2⟩)
theorem untups_cells : ∀ cs : List Cell, untups (cs.map cellD) = some (cs.map k2)
  | [] => rfl
  | c :: cs => by
    rw [List.map_cons, untups, untups_cells cs]
    rfl
theorem loop2_map {α : Type} {vs1 : List Nat} {g : MG} {t : MT} {mi1 : MA} {g1 : MG} {t1 : MT} {m : ME} {ρ : Rho} {e : α → PyData} {ys : α → List PyData} : ∀ xs : List α,
    (∀ x, x ∈ xs → ((g (e x) ρ).bind fun ρ1 => (t ρ1).bind fun p => if p.1 = true then (mi1 ρ1).bind fun q => loopP g1 t1 m (wipeR ρ1 vs1) q.1 else some []) = some (ys x)) → loop2 vs1 g t mi1 g1 t1 m ρ (xs.map e) = some (xs.flatMap ys)
  | [], _ => rfl
  | x :: xs, H => by
    have h := H x List.mem_cons_self
    rw [List.map_cons, List.flatMap_cons]
    unfold loop2
    obtain ⟨ρ1, e1, h⟩ := Option.bind_eq_some_iff.mp h
    obtain ⟨p, e2, h⟩ := Option.bind_eq_some_iff.mp h
    rw [e1, Option.bind_some, e2, Option.bind_some, loop2_map xs fun y hy => H y (List.mem_cons_of_mem _ hy)]
    by_cases hp : p.1 = true
    · rw [if_pos hp] at h ⊢
      obtain ⟨q, e3, h⟩ := Option.bind_eq_some_iff.mp h
      rw [e3, Option.bind_some, h]
      rfl
    · rw [if_neg hp] at h ⊢
      rw [← Option.some.inj h]
      rfl
theorem v_mulS {i j : Int} (h1 : i.natAbs < 1024) (h2 : j.natAbs < 1024) : gMulI (.int i) (.int j) = some (.int (i * j)) := by
  refine v_mul ?_
  have a := log2_le (n := i.natAbs) (k := 10) h1 (by decide)
  have b := log2_le (n := j.natAbs) (k := 10) h2 (by decide)
  omega
theorem dr_small (d : Dir) : d.dr.natAbs < 1024 := by cases d <;> decide
theorem dc_small (d : Dir) : d.dc.natAbs < 1024 := by cases d <;> decide
def postCells (ps : List Post) (d : Dir) : List Cell := if d = .o then [] else ps.flatMap fun p => (List.range p.2.2.toNat).map fun (i : Nat) => ((p.1 + d.dr * (1 + (i : Int)), p.2.1 + d.dc * (1 + (i : Int))) : Cell)
def awCells (cs : List Cell) (d : Dir) : List Cell := cs.map fun c => (c.1 + d.dr, c.2 + d.dc)
theorem postCells_len {ps : List Post} {d : Dir} (h : ∀ p, p ∈ ps → p.2.2 ≤ 4) : (postCells ps d).length ≤ 4 * ps.length := by
  unfold postCells
  split
  · exact Nat.zero_le _
  · induction ps with
    | nil => exact Nat.zero_le _
    | cons p ps ih =>
      have := ih fun q hq => h q (List.mem_cons_of_mem _ hq)
      have hp := h p List.mem_cons_self
      rw [List.flatMap_cons, List.length_append, List.length_map, List.length_range, List.length_cons]
      omega
theorem map_cells {α : Type} (f : α → Cell) (xs : List α) : xs.map (fun x => cellD (f x)) = (xs.map f).map cellD := by rw [List.map_map]; rfl
theorem flat_cells {α : Type} (f : α → List Cell) (xs : List α) : xs.flatMap (fun x => (f x).map cellD) = (xs.flatMap f).map cellD := by
  rw [List.map_flatMap]
theorem v_addL {xs ys : List PyData} (h : xs.length + ys.length ≤ 16000000) : gAdd (.list xs) (.list ys) = some (.list (xs ++ ys)) := by
  show (if xs.length + ys.length ≤ 16000000 then some (PyData.list (xs ++ ys)) else none).or _ = _
  rw [if_pos h]
  rfl
theorem mem_postCells {ps : List Post} {d : Dir} {c : Cell} : c ∈ postCells ps d ↔ d ≠ .o ∧ ∃ p, p ∈ ps ∧ ∃ i : Nat, i < p.2.2.toNat ∧ c = (p.1 + d.dr * (1 + (i : Int)), p.2.1 + d.dc * (1 + (i : Int))) := by
  unfold postCells
  by_cases h : d = .o
  · simp [h]
  · rw [if_neg h, List.mem_flatMap]
    constructor
    · rintro ⟨p, hp, hc⟩
      obtain ⟨i, hi, rfl⟩ := List.mem_map.mp hc
      exact ⟨h, p, hp, i, List.mem_range.mp hi, rfl⟩
    · rintro ⟨_, p, hp, i, hi, rfl⟩
      exact ⟨p, hp, List.mem_map.mpr ⟨i, List.mem_range.mpr hi, rfl⟩⟩
theorem shadyP_iff {F : Fl} {d : Dir} {c : Cell} : shadyP F d c = true ↔ c ∈ postCells F.posts d := by
  rw [mem_postCells]
  unfold shadyP
  rw [List.any_eq_true]
  constructor
  · rintro ⟨p, hp, h⟩
    rw [Bool.and_eq_true, decide_eq_true_eq, decide_eq_true_eq] at h
    obtain ⟨i, hi, e⟩ := List.mem_map.mp h.2
    refine ⟨h.1, p, hp, i, List.mem_range.mp hi, ?_⟩
    obtain ⟨e1, e2⟩ := Prod.mk.inj e
    rw [Int.mul_comm] at e1 e2
    refine Prod.ext ?_ ?_
    · show c.1 = _
      have : pc p = (p.1, p.2.1) := (rfl)
      omega
    · show c.2 = _
      omega
  · rintro ⟨h, p, hp, i, hi, rfl⟩
    refine ⟨p, hp, ?_⟩
    rw [Bool.and_eq_true, decide_eq_true_eq, decide_eq_true_eq]
    refine ⟨h, List.mem_map.mpr ⟨i, List.mem_range.mpr hi, ?_⟩⟩
    refine Prod.ext ?_ ?_
    · show p.1 + d.dr * (1 + (i : Int)) - (1 + (i : Int)) * d.dr = p.1
      rw [Int.mul_comm]; omega
    · show p.2.1 + d.dc * (1 + (i : Int)) - (1 + (i : Int)) * d.dc = p.2.1
      rw [Int.mul_comm]; omega
theorem shady_iff {F : Fl} {d : Dir} {c : Cell} : shady F d c = true ↔ c ∈ postCells F.posts d ++ awCells F.aw d := by
  unfold shady
  rw [Bool.or_eq_true, decide_eq_true_eq, shadyP_iff, List.mem_append, Or.comm]
  have : ((c.1 - d.dr, c.2 - d.dc) : Cell) ∈ F.aw ↔ c ∈ awCells F.aw d := by
    unfold awCells
    rw [List.mem_map]
    constructor
    · intro h
      exact ⟨_, h, Prod.ext (by show c.1 - d.dr + d.dr = c.1; omega) (by show c.2 - d.dc + d.dc = c.2; omega)⟩
    · rintro ⟨a, ha, rfl⟩
      have : ((a.1 + d.dr - d.dr, a.2 + d.dc - d.dc) : Cell) = a := Prod.ext (by show a.1 + d.dr - d.dr = a.1; omega) (by show a.2 + d.dc - d.dc = a.2; omega)
      show (a.1 + d.dr - d.dr, a.2 + d.dc - d.dc) ∈ F.aw
      rw [this]
      exact ha
  rw [this]
def inF (F : Fl) (c : Cell) : Bool := decide (0 ≤ c.1) && decide (c.1 < F.rows) && (decide (0 ≤ c.2) && decide (c.2 < F.cols))
theorem inF_iff {F : Fl} {c : Cell} : inF F c = true ↔ F.has c = true := by
  rw [Fl.has_iff]
  unfold inF
  simp only [Bool.and_eq_true, decide_eq_true_eq]
  omega
theorem canon_shade {F : Fl} (O : F.Ok) (d : Dir) : canon (((postCells F.posts d ++ awCells F.aw d).filter (inF F)).map k2) = (shadeOf F d).map k2 :=
  canon_cells O fun c => by
    rw [List.mem_filter, inF_iff, shady_iff]
    exact And.comm
theorem all_ok {F : Fl} (O : F.Ok) (cs : List Cell) : ((cs.filter (inF F)).map k2).all okPair = true := by
  refine List.all_eq_true.mpr fun k hk => ?_
  obtain ⟨c, hc, rfl⟩ := List.mem_map.mp hk
  exact ok_k2 O (inF_iff.mp (List.mem_filter.mp hc).2)
theorem shade_few {F : Fl} (O : F.Ok) (d : Dir) : ((postCells F.posts d ++ awCells F.aw d).filter (inF F)).length < 63 := by
  have h1 := postCells_len (ps := F.posts) (d := d) fun p hp => (O.ph p hp).2.2
  have h2 : (awCells F.aw d).length = F.aw.length := List.length_map _
  have h3 := List.length_filter_le (inF F) (postCells F.posts d ++ awCells F.aw d)
  rw [List.length_append] at h3
  have := O.pl
  have := O.al
  omega
theorem tupD_cells (cs : List Cell) : (cs.map k2).map tupD = cs.map cellD := by rw [List.map_map]; rfl
theorem sun_join (l : List Dir) : Txt.join "" (l.map dirS) = sunS l := by
  have e0 : ("" : Str) = ⟨#[]⟩ := by decide +kernel
  unfold Txt.join
  rw [StrLaws.glued_eq_join, e0]
  have key : ∀ (d : Dir) (l : List Dir), Str.join ⟨#[]⟩ ((d :: l).map dirS) = sunS (d :: l) := by
    intro d l
    induction l generalizing d with
    | nil => rfl
    | cons x l ih =>
      have := ih x
      rw [List.map_cons] at this
      rw [List.map_cons, List.map_cons]
      show dirS d ++ (⟨#[]⟩ : Str) ++ Str.join ⟨#[]⟩ (dirS x :: l.map dirS) = _
      rw [this]
      show (⟨(#[d.code] ++ #[]) ++ ((x :: l).map Dir.code).toArray⟩ : Str) = ⟨((d :: x :: l).map Dir.code).toArray⟩
      simp
  cases l with
  | nil => rfl
  | cons d l => exact key d l
theorem txts_dirs : ∀ l : List Dir, txts (l.map fun d => .str (dirS d)) = some (l.map dirS)
  | [] => rfl
  | d :: l => by
    rw [List.map_cons, txts, txts_dirs l]
    rfl
theorem dirs_len (l : List Dir) : ((l.map dirS).map (·.length)).sum = l.length := by
  induction l with
  | nil => rfl
  | cons d l ih =>
    rw [List.map_cons, List.map_cons, List.sum_cons, ih, List.length_cons]
    show 1 + l.length = _
    omega
theorem ensow {k : Int} (h0 : 0 ≤ k) (h1 : k < 5) : ∃ d : Dir, gIx (.str "ensow") (.int k) = some (.str (dirS d)) := by
  have : k = 0 ∨ k = 1 ∨ k = 2 ∨ k = 3 ∨ k = 4 := by omega
  have key : ∀ (k : Nat) (d : Dir), ("ensow" : Str).cps.toList[k]? = some d.code → k < 5 → gIx (.str "ensow") (.int (k : Int)) = some (.str (dirS d)) := fun k d h hk => by
    show (if ("ensow" : Str).length ≤ 100000 then (atI ("ensow" : Str).cps.toList (k : Int)).map fun c => PyData.str ⟨#[c]⟩ else none) = _
    rw [if_pos (by decide +kernel), atI_nat (by have : ("ensow" : Str).cps.toList.length = 5 := by decide +kernel
                                                omega), h]
    rfl
  rcases this with rfl | rfl | rfl | rfl | rfl
  · exact ⟨.e, key 0 .e (by decide +kernel) (by decide)⟩
  · exact ⟨.n, key 1 .n (by decide +kernel) (by decide)⟩
  · exact ⟨.s, key 2 .s (by decide +kernel) (by decide)⟩
  · exact ⟨.o, key 3 .o (by decide +kernel) (by decide)⟩
  · exact ⟨.w, key 4 .w (by decide +kernel) (by decide)⟩
end Mx

set_option Elab.async false
set_option linter.all false
set_option maxRecDepth 100000
/-! Mx5: where two floors part. -/
namespace Mx
open PySem PySem.Spec L2 Fn
open PyProof.Rows hiding St
def sh (F : Fl) (d : Dir) (c : Cell) : Bool := F.has c && shady F d c
def cell25 (k : Nat) : Cell := ((k : Int) / 5, (k : Int) % 5)
def grid : List Cell := (List.range 25).map cell25
def apart (F G : Fl) (d : Dir) (c : Cell) : Bool := sh F d c != sh G d c
def partAt (F G : Fl) (d : Dir) : Option Cell := grid.find? (apart F G d)
def partOf (F G : Fl) (l : List Dir) : Option (Nat × Cell) := (l.zipIdx).findSome? fun q => (partAt F G q.1).map fun c => (q.2, c)
def dueD : Option (Nat × Cell) → PyData
  | none => .none
  | some q => .tuple [.int (q.1 : Nat), cellD q.2]
theorem partOf_nil (F G : Fl) : partOf F G [] = none := rfl
theorem partOf_snoc (F G : Fl) (l : List Dir) (d : Dir) : partOf F G (l ++ [d]) = (partOf F G l).or ((partAt F G d).map fun c => (l.length, c)) := by
  unfold partOf
  rw [List.zipIdx_append, List.findSome?_append, List.zipIdx_cons, List.zipIdx_nil, List.findSome?_cons, List.findSome?_nil]
  simp only [Nat.zero_add]
  cases (partAt F G d).map fun c => (l.length, c) <;> rfl
theorem partOf_comm (F G : Fl) (l : List Dir) : partOf F G l = partOf G F l := by
  unfold partOf partAt
  congr 1
  funext q
  congr 2
  funext c
  show (sh F q.1 c != sh G q.1 c) = (sh G q.1 c != sh F q.1 c)
  cases sh F q.1 c <;> cases sh G q.1 c <;> rfl
theorem partAt_self (F : Fl) (d : Dir) : partAt F F d = none := by
  unfold partAt
  rw [List.find?_eq_none]
  intro c _
  show ¬ (sh F d c != sh F d c) = true
  simp
theorem partOf_self (F : Fl) (l : List Dir) : partOf F F l = none := by
  unfold partOf
  rw [List.findSome?_eq_none_iff]
  intro q _
  rw [partAt_self]
  rfl
theorem has_cells {F : Fl} (O : F.Ok) (c : Cell) : decide (c ∈ cellsOf F) = F.has c := by
  by_cases h : F.has c = true
  · rw [h, decide_eq_true ((mem_cells O).mpr h)]
  · rw [Bool.not_eq_true] at h
    rw [h]
    exact decide_eq_false fun m => by rw [(mem_cells O).mp m] at h; cases h
/-! floors made of floors -/
theorem Ok.turn {F : Fl} (O : F.Ok) : Fl.Ok ⟨F.rows, F.cols, F.posts, F.aw.drop 1 ++ F.aw.take 1⟩ := by
  have pm : (F.aw.drop 1 ++ F.aw.take 1).Perm F.aw := by
    have := List.perm_append_comm (l₁ := F.aw.drop 1) (l₂ := F.aw.take 1)
    rw [List.take_append_drop] at this
    exact this
  exact ⟨O.r, O.c, O.pl, O.ph, O.pn, by show (F.aw.drop 1 ++ F.aw.take 1).length ≤ 8; rw [pm.length_eq]; exact O.al, fun c hc => O.ah c (pm.mem_iff.mp hc), pm.nodup_iff.mpr O.an⟩
theorem Ok.less {F : Fl} (O : F.Ok) : Fl.Ok ⟨F.rows, F.cols, F.posts.drop 1, F.aw⟩ :=
  ⟨O.r, O.c, by show (F.posts.drop 1).length ≤ 4; rw [List.length_drop]; have := O.pl; omega, fun p hp => O.ph p (List.mem_of_mem_drop hp), by
    show ((F.posts.drop 1).map pc).Nodup
    rw [List.map_drop]
    exact List.Nodup.sublist (List.drop_sublist _ _) O.pn, O.al, O.ah, O.an⟩
theorem Ok.aws {F G : Fl} (O : F.Ok) (h : ∀ c, c ∈ G.aw.take 1 → F.has c = true) : Fl.Ok ⟨F.rows, F.cols, F.posts, G.aw.take 1⟩ :=
  ⟨O.r, O.c, O.pl, O.ph, O.pn, by show (G.aw.take 1).length ≤ 8; rw [List.length_take]; omega, h, by
    show (G.aw.take 1).Nodup
    match G.aw with
    | [] => simp
    | a :: as => simp⟩
theorem eq_cellsL (neg : Bool) (as bs : List Cell) : gEq neg (.list (as.map cellD)) (.list (bs.map cellD)) = some (.bool (neg != decide (as = bs))) := by
  unfold gEq
  rw [if_pos ⟨shaped_cellsL as, shaped_cellsL bs⟩]
  simp only [PyData.eqv, eqvAll_cells]
theorem eq_nil (as : List Cell) : gEq false (.list (as.map cellD)) (.list []) = some (.bool (decide (as = []))) := by
  rw [show (PyData.list []) = .list (([] : List Cell).map cellD) from rfl, eq_cellsL]
  simp
theorem range_at {n : Nat} {done rest : List Nat} {x : Nat} (h : List.range n = done ++ x :: rest) : x = done.length ∧ x < n ∧ done = List.range x := by
  have hl := congrArg List.length h
  rw [List.length_range, List.length_append, List.length_cons] at hl
  have h2 : (List.range n)[done.length]? = some x := by rw [h, List.getElem?_append_right (Nat.le_refl _), Nat.sub_self]; rfl
  rw [List.getElem?_range (by omega)] at h2
  have hx : done.length = x := Option.some.inj h2
  refine ⟨hx.symm, by omega, ?_⟩
  have h3 : (List.range n).take done.length = done := by rw [h, List.take_left']; rfl
  rw [List.take_range, Nat.min_eq_left (by omega), hx] at h3
  exact h3.symm
theorem dueD_none (q : Option (Nat × Cell)) : isNone (dueD q) = q.isNone := by cases q <;> rfl
/-! the cells that part two floors at a beat -/
def five : Fl := ⟨5, 5, [], []⟩
theorem five_ok : five.Ok := ⟨⟨by decide, by decide⟩, ⟨by decide, by decide⟩, Nat.zero_le _, fun p hp => (by cases hp), List.nodup_nil, Nat.zero_le _, fun c hc => (by cases hc), List.nodup_nil⟩
theorem grid_five : cellsOf five = grid := rfl
theorem has_five {F : Fl} (O : F.Ok) {c : Cell} (h : F.has c = true) : five.has c = true := by
  have := Fl.has_iff.mp h
  refine Fl.has_iff.mpr ⟨this.1, ?_, this.2.2.1, ?_⟩
  · show c.1 < 5
    have := O.r
    omega
  · show c.2 < 5
    have := O.c
    omega
theorem mem_shade {F : Fl} (O : F.Ok) (d : Dir) (c : Cell) : c ∈ shadeOf F d ↔ sh F d c = true := by
  unfold shadeOf sh
  rw [List.mem_filter, mem_cells O, Bool.and_eq_true]
theorem k2_mem (c : Cell) (cs : List Cell) : (k2 c ∈ cs.map k2) ↔ c ∈ cs := by
  rw [List.mem_map]
  constructor
  · rintro ⟨a, ha, e⟩
    rw [← k2_inj e]; exact ha
  · exact fun h => ⟨c, h, rfl⟩
theorem filter_k2 (as bs : List Cell) : (as.map k2).filter (fun k => !decide (k ∈ bs.map k2)) = (as.filter fun c => !decide (c ∈ bs)).map k2 := by
  rw [List.filter_map]
  congr 1
  refine List.filter_congr fun c _ => ?_
  show (!decide (k2 c ∈ bs.map k2)) = _
  simp only [k2_mem]
theorem apart_list {F G : Fl} (OF : F.Ok) (OG : G.Ok) (d : Dir) : canon (((shadeOf F d).map k2).filter (fun k => !decide (k ∈ (shadeOf G d).map k2)) ++ ((shadeOf G d).map k2).filter (fun k => !decide (k ∈ (shadeOf F d).map k2))) = (grid.filter (apart F G d)).map k2 := by
  rw [filter_k2, filter_k2, ← List.map_append, ← grid_five]
  refine canon_cells five_ok fun c => ?_
  rw [List.mem_append, List.mem_filter, List.mem_filter]
  unfold apart
  have hF : sh F d c = true → five.has c = true := fun h => has_five OF (by unfold sh at h; rw [Bool.and_eq_true] at h; exact h.1)
  have hG : sh G d c = true → five.has c = true := fun h => has_five OG (by unfold sh at h; rw [Bool.and_eq_true] at h; exact h.1)
  have m1 : (!decide (c ∈ shadeOf G d)) = !sh G d c := by
    by_cases h : sh G d c = true
    · rw [h, decide_eq_true ((mem_shade OG d c).mpr h)]
    · rw [Bool.not_eq_true] at h
      rw [h, decide_eq_false fun z => by rw [(mem_shade OG d c).mp z] at h; cases h]
  have m2 : (!decide (c ∈ shadeOf F d)) = !sh F d c := by
    by_cases h : sh F d c = true
    · rw [h, decide_eq_true ((mem_shade OF d c).mpr h)]
    · rw [Bool.not_eq_true] at h
      rw [h, decide_eq_false fun z => by rw [(mem_shade OF d c).mp z] at h; cases h]
  rw [m1, m2, mem_shade OF, mem_shade OG]
  revert hF hG
  cases sh F d c <;> cases sh G d c <;> simp
theorem apart_ok {F G : Fl} (OF : F.Ok) (OG : G.Ok) (d : Dir) : ((((shadeOf F d).map k2).filter (fun k => !decide (k ∈ (shadeOf G d).map k2)) ++ ((shadeOf G d).map k2).filter (fun k => !decide (k ∈ (shadeOf F d).map k2))).all okPair) = true := by
  refine List.all_eq_true.mpr fun k hk => ?_
  have : k ∈ (shadeOf F d).map k2 ∨ k ∈ (shadeOf G d).map k2 := by
    rcases List.mem_append.mp hk with z | z
    · exact .inl (List.mem_filter.mp z).1
    · exact .inr (List.mem_filter.mp z).1
  rcases this with z | z
  · obtain ⟨c, hc, rfl⟩ := List.mem_map.mp z
    exact ok_k2 OF ((mem_cells OF).mp (List.mem_filter.mp hc).1)
  · obtain ⟨c, hc, rfl⟩ := List.mem_map.mp z
    exact ok_k2 OG ((mem_cells OG).mp (List.mem_filter.mp hc).1)
theorem once_few {F G : Fl} (OF : F.Ok) (OG : G.Ok) (d : Dir) : (once ((shadeOf F d).map k2 ++ (shadeOf G d).map k2)).length ≤ 31 := by
  have := Xr.fewOf (once ((shadeOf F d).map k2 ++ (shadeOf G d).map k2)) (grid.map k2) (once_nodup _) fun k hk => by
    rw [once_mem, List.mem_append] at hk
    rcases hk with z | z
    · obtain ⟨c, hc, rfl⟩ := List.mem_map.mp z
      rw [← grid_five]
      exact List.mem_map_of_mem ((mem_cells five_ok).mpr (has_five OF ((mem_cells OF).mp (List.mem_filter.mp hc).1)))
    · obtain ⟨c, hc, rfl⟩ := List.mem_map.mp z
      rw [← grid_five]
      exact List.mem_map_of_mem ((mem_cells five_ok).mpr (has_five OG ((mem_cells OG).mp (List.mem_filter.mp hc).1)))
  rw [List.length_map] at this
  have g : grid.length = 25 := rfl
  omega
theorem shade_len {F : Fl} (O : F.Ok) (d : Dir) : (shadeOf F d).length < 63 := by
  have h := List.length_filter_le (shady F d) (cellsOf F)
  have : (cellsOf F).length ≤ 25 := by
    unfold cellsOf
    rw [List.length_map, List.length_range]
    have m2 : F.rows * F.cols ≤ 5 * 5 := Int.mul_le_mul O.r.2 O.c.2 (by have := O.c; omega) (by decide)
    omega
  show ((cellsOf F).filter (shady F d)).length < 63
  omega
end Mx

set_option Elab.async false
set_option linter.all false
set_option maxRecDepth 100000
/-! Mx6: floors turned, parts of floors: their shades. -/
namespace Mx
open PySem PySem.Spec L2 Fn
def turnF (z : Bool) (F : Fl) : Fl := if z = true then ⟨F.rows, F.cols, F.posts.map fun p => (p.1, F.cols - 1 - p.2.1, p.2.2), F.aw.map fun c => (c.1, F.cols - 1 - c.2)⟩ else ⟨F.cols, F.rows, F.posts.map fun p => (p.2.1, p.1, p.2.2), F.aw.map fun c => (c.2, c.1)⟩
def turnC (z : Bool) (C : Int) (c : Cell) : Cell := if z = true then (c.1, C - 1 - c.2) else (c.2, c.1)
def turnD (z : Bool) : Dir → Dir
  | .n => if z = true then .n else .w
  | .e => if z = true then .w else .s
  | .s => if z = true then .s else .e
  | .w => if z = true then .e else .n
  | .o => .o
theorem turnC_inj {z : Bool} {C : Int} {a b : Cell} (h : turnC z C a = turnC z C b) : a = b := by
  unfold turnC at h
  cases z with
  | true =>
    obtain ⟨h1, h2⟩ := Prod.mk.inj (show (a.1, C - 1 - a.2) = (b.1, C - 1 - b.2) from h)
    exact Prod.ext h1 (by omega)
  | false =>
    obtain ⟨h1, h2⟩ := Prod.mk.inj (show (a.2, a.1) = (b.2, b.1) from h)
    exact Prod.ext h2 h1
theorem turnC_onto (z : Bool) (C : Int) (a : Cell) : ∃ b, turnC z C b = a := by
  cases z with
  | true => exact ⟨(a.1, C - 1 - a.2), Prod.ext rfl (by show C - 1 - (C - 1 - a.2) = a.2; omega)⟩
  | false => exact ⟨(a.2, a.1), rfl⟩
theorem turn_has (z : Bool) (F : Fl) (c : Cell) : (turnF z F).has (turnC z F.cols c) = F.has c := by
  rw [Bool.eq_iff_iff, Fl.has_iff, Fl.has_iff]
  cases z with
  | true =>
    show (0 ≤ c.1 ∧ _) ↔ _
    show (0 ≤ c.1 ∧ c.1 < F.rows ∧ 0 ≤ F.cols - 1 - c.2 ∧ F.cols - 1 - c.2 < F.cols) ↔ _
    omega
  | false =>
    show (0 ≤ c.2 ∧ c.2 < F.cols ∧ 0 ≤ c.1 ∧ c.1 < F.rows) ↔ _
    omega
theorem turn_aw (z : Bool) (F : Fl) : (turnF z F).aw = F.aw.map (turnC z F.cols) := by cases z <;> rfl
theorem turn_pc (z : Bool) (F : Fl) : (turnF z F).posts.map pc = (F.posts.map pc).map (turnC z F.cols) := by
  cases z <;> (show (F.posts.map _).map pc = _; rw [List.map_map, List.map_map]; rfl)
theorem turn_step (z : Bool) (C : Int) (d : Dir) (c : Cell) (k : Int) : ((turnC z C c).1 + (turnD z d).dr * k, (turnC z C c).2 + (turnD z d).dc * k) = turnC z C (c.1 + d.dr * k, c.2 + d.dc * k) := by
  cases z <;> cases d <;> (refine Prod.ext ?_ ?_) <;> simp [turnC, turnD, Dir.dr, Dir.dc] <;> omega
theorem turn_awCells (z : Bool) (C : Int) (d : Dir) (cs : List Cell) : awCells (cs.map (turnC z C)) (turnD z d) = (awCells cs d).map (turnC z C) := by
  unfold awCells
  rw [List.map_map, List.map_map]
  refine List.map_congr_left fun c _ => ?_
  have := turn_step z C d c 1
  simp only [Int.mul_one] at this
  exact this
theorem turn_o (z : Bool) (d : Dir) : turnD z d = .o ↔ d = .o := by cases z <;> cases d <;> simp [turnD]
theorem turn_postCells (z : Bool) (F : Fl) (d : Dir) (c : Cell) : turnC z F.cols c ∈ postCells (turnF z F).posts (turnD z d) ↔ c ∈ postCells F.posts d := by
  rw [mem_postCells, mem_postCells]
  have e : ∀ p : Post, ∃ p' : Post, (p ∈ F.posts → p' ∈ (turnF z F).posts) ∧ p'.2.2 = p.2.2 ∧ (p'.1, p'.2.1) = turnC z F.cols (p.1, p.2.1) := fun p => by
    cases z with
    | true => exact ⟨(p.1, F.cols - 1 - p.2.1, p.2.2), fun h => List.mem_map_of_mem (f := fun p : Post => ((p.1, F.cols - 1 - p.2.1, p.2.2) : Post)) h, rfl, rfl⟩
    | false => exact ⟨(p.2.1, p.1, p.2.2), fun h => List.mem_map_of_mem (f := fun p : Post => ((p.2.1, p.1, p.2.2) : Post)) h, rfl, rfl⟩
  have b : ∀ p' : Post, p' ∈ (turnF z F).posts → ∃ p : Post, p ∈ F.posts ∧ p'.2.2 = p.2.2 ∧ (p'.1, p'.2.1) = turnC z F.cols (p.1, p.2.1) := fun p' h => by
    cases z with
    | true =>
      obtain ⟨p, hp, rfl⟩ := List.mem_map.mp (show p' ∈ F.posts.map _ from h)
      exact ⟨p, hp, rfl, rfl⟩
    | false =>
      obtain ⟨p, hp, rfl⟩ := List.mem_map.mp (show p' ∈ F.posts.map _ from h)
      exact ⟨p, hp, rfl, rfl⟩
  constructor
  · rintro ⟨h, p', hp', i, hi, e1⟩
    obtain ⟨p, hp, e2, e3⟩ := b p' hp'
    refine ⟨fun x => h ((turn_o z d).mpr x), p, hp, i, by rw [← e2]; exact hi, turnC_inj (z := z) (C := F.cols) ?_⟩
    obtain ⟨f1, f2⟩ := Prod.mk.inj e3
    rw [e1, f1, f2]
    exact turn_step z F.cols d (p.1, p.2.1) (1 + (i : Int))
  · rintro ⟨h, p, hp, i, hi, rfl⟩
    obtain ⟨p', hp', e2, e3⟩ := e p
    refine ⟨fun x => h ((turn_o z d).mp x), p', hp' hp, i, by rw [e2]; exact hi, ?_⟩
    obtain ⟨f1, f2⟩ := Prod.mk.inj e3
    rw [f1, f2]
    exact (turn_step z F.cols d (p.1, p.2.1) (1 + (i : Int))).symm
theorem turn_shady (z : Bool) (F : Fl) (d : Dir) (c : Cell) : shady (turnF z F) (turnD z d) (turnC z F.cols c) = shady F d c := by
  rw [Bool.eq_iff_iff, shady_iff, shady_iff, List.mem_append, List.mem_append, turn_postCells, turn_aw, turn_awCells]
  have : turnC z F.cols c ∈ (awCells F.aw d).map (turnC z F.cols) ↔ c ∈ awCells F.aw d := by
    rw [List.mem_map]
    exact ⟨fun ⟨a, ha, e⟩ => by rw [← turnC_inj e]; exact ha, fun h => ⟨c, h, rfl⟩⟩
  rw [this]
theorem nodup_turn {z : Bool} {C : Int} {cs : List Cell} (h : cs.Nodup) : (cs.map (turnC z C)).Nodup := List.Pairwise.map _ (fun a b ne e => ne (turnC_inj e)) h
theorem turn_ok (z : Bool) {F : Fl} (O : F.Ok) : (turnF z F).Ok where
  r := by cases z; exact O.c; exact O.r
  c := by cases z; exact O.r; exact O.c
  pl := by
    have := O.pl
    cases z <;> (show (F.posts.map _).length ≤ 4; rw [List.length_map]; exact this)
  ph := fun p hp => by
    cases z with
    | true =>
      obtain ⟨q, hq, rfl⟩ := List.mem_map.mp (show p ∈ F.posts.map _ from hp)
      obtain ⟨h1, h2⟩ := O.ph q hq
      exact ⟨(turn_has true F (pc q)).trans h1, h2⟩
    | false =>
      obtain ⟨q, hq, rfl⟩ := List.mem_map.mp (show p ∈ F.posts.map _ from hp)
      obtain ⟨h1, h2⟩ := O.ph q hq
      exact ⟨(turn_has false F (pc q)).trans h1, h2⟩
  pn := by rw [turn_pc]; exact nodup_turn O.pn
  al := by rw [turn_aw, List.length_map]; exact O.al
  ah := fun c hc => by
    rw [turn_aw] at hc
    obtain ⟨a, ha, rfl⟩ := List.mem_map.mp hc
    rw [turn_has]
    exact O.ah a ha
  an := by rw [turn_aw]; exact nodup_turn O.an
theorem mem_shadeOf {F : Fl} (O : F.Ok) {d : Dir} {c : Cell} : c ∈ shadeOf F d ↔ F.has c = true ∧ shady F d c = true := by
  unfold shadeOf
  rw [List.mem_filter, mem_cells O]
theorem turn_shade (z : Bool) {F : Fl} (O : F.Ok) (d : Dir) (c : Cell) : c ∈ shadeOf (turnF z F) (turnD z d) ↔ c ∈ (shadeOf F d).map (turnC z F.cols) := by
  obtain ⟨a, rfl⟩ := turnC_onto z F.cols c
  rw [mem_shadeOf (turn_ok z O), turn_has, turn_shady, ← mem_shadeOf O, List.mem_map]
  exact ⟨fun h => ⟨a, h, rfl⟩, fun ⟨b, hb, e⟩ => by rw [← turnC_inj e]; exact hb⟩
theorem rise_nodup {xs : List (List Int)} (h : Rise xs) : xs.Nodup := List.Pairwise.imp (fun {a b} h e => by subst e; exact Int.lt_irrefl _ h) h
theorem rise_shade {F : Fl} (O : F.Ok) (d : Dir) : Rise ((shadeOf F d).map k2) := rise_filter O _
theorem nodup_shade {F : Fl} (O : F.Ok) (d : Dir) : (shadeOf F d).Nodup := by
  have := rise_nodup (rise_shade O d)
  exact List.Pairwise.of_map k2 (fun a b h e => h (by rw [e])) this
theorem msort_turn (z : Bool) {F : Fl} (O : F.Ok) (d : Dir) : msort (((shadeOf F d).map (turnC z F.cols)).map k2) = (shadeOf (turnF z F) (turnD z d)).map k2 := by
  have OT := turn_ok z O
  symm
  refine msort_of (fun k hk => ?_) ?_ (List.Pairwise.imp (fun h => Int.le_of_lt h) (rise_shade OT _))
  · obtain ⟨c, hc, rfl⟩ := List.mem_map.mp hk
    exact ok_k2 OT ((mem_shadeOf OT).mp ((turn_shade z O d c).mpr hc)).1
  · refine List.Perm.map k2 ?_
    rw [List.perm_ext_iff_of_nodup (nodup_shade OT _) (nodup_turn (nodup_shade O d))]
    exact turn_shade z O d
theorem turn_all (z : Bool) {F : Fl} (O : F.Ok) (d : Dir) : (((shadeOf F d).map (turnC z F.cols)).map k2).all okPair = true := by
  refine List.all_eq_true.mpr fun k hk => ?_
  obtain ⟨c, hc, rfl⟩ := List.mem_map.mp hk
  exact ok_k2 (turn_ok z O) ((mem_shadeOf (turn_ok z O)).mp ((turn_shade z O d c).mpr hc)).1
end Mx

set_option Elab.async false
set_option linter.all false
set_option maxRecDepth 100000
/-! Mx7: the shade of the parts, and where a floor and a part of it part. -/
namespace Mx
open PySem PySem.Spec L2 Fn Xr
def oneP (F : Fl) (p : Post) : Fl := ⟨F.rows, F.cols, [p], []⟩
def oneA (F : Fl) (c : Cell) : Fl := ⟨F.rows, F.cols, [], [c]⟩
theorem oneP_ok {F : Fl} (O : F.Ok) {p : Post} (h : p ∈ F.posts) : (oneP F p).Ok := ⟨O.r, O.c, (by show 1 ≤ 4; omega), fun q hq => (by cases List.mem_singleton.mp hq; exact O.ph p h), (by simp [oneP]), (by show 0 ≤ 8; omega), fun c hc => (by cases hc), List.nodup_nil⟩
theorem oneA_ok {F : Fl} (O : F.Ok) {c : Cell} (h : c ∈ F.aw) : (oneA F c).Ok := ⟨O.r, O.c, (by show 0 ≤ 4; omega), fun q hq => (by cases hq), List.nodup_nil, (by show 1 ≤ 8; omega), fun a ha => (by cases List.mem_singleton.mp ha; exact O.ah c h), (by simp [oneA])⟩
def foundOf (F : Fl) (ps : List Post) (cs : List Cell) (d : Dir) : List Cell := ps.flatMap (fun p => shadeOf (oneP F p) d) ++ cs.flatMap fun c => shadeOf (oneA F c) d
theorem oneP_few {F : Fl} (O : F.Ok) {p : Post} (h : p ∈ F.posts) (d : Dir) : (shadeOf (oneP F p) d).length ≤ 4 := by
  refine Nat.le_trans (fewOf _ (postCells [p] d) (nodup_shade (oneP_ok O h) d) fun c hc => ?_) (postCells_len (ps := [p]) (d := d) fun q hq => by cases List.mem_singleton.mp hq; exact (O.ph p h).2.2)
  have := ((mem_shadeOf (oneP_ok O h)).mp hc).2
  rw [shady_iff] at this
  rcases List.mem_append.mp this with z | z
  · exact z
  · cases z
theorem oneA_few {F : Fl} (O : F.Ok) {a : Cell} (h : a ∈ F.aw) (d : Dir) : (shadeOf (oneA F a) d).length ≤ 1 := by
  refine Nat.le_trans (fewOf _ (awCells [a] d) (nodup_shade (oneA_ok O h) d) fun c hc => ?_) (Nat.le_of_eq (List.length_map _))
  have := ((mem_shadeOf (oneA_ok O h)).mp hc).2
  rw [shady_iff] at this
  rcases List.mem_append.mp this with z | z
  · have : postCells (oneA F a).posts d = [] := by
      unfold postCells
      split <;> rfl
    rw [this] at z
    cases z
  · exact z
theorem flat_few {α β : Type} (f : α → List β) (n : Nat) : ∀ xs : List α, (∀ x, x ∈ xs → (f x).length ≤ n) → (xs.flatMap f).length ≤ n * xs.length
  | [], _ => by simp
  | x :: xs, h => by
    rw [List.flatMap_cons, List.length_append, List.length_cons, Nat.mul_add]
    have h1 := h x List.mem_cons_self
    have h2 := flat_few f n xs fun y hy => h y (List.mem_cons_of_mem _ hy)
    omega
theorem found_few {F : Fl} (O : F.Ok) {ps : List Post} {cs : List Cell} (h1 : ∀ p, p ∈ ps → p ∈ F.posts) (h2 : ∀ c, c ∈ cs → c ∈ F.aw) (l1 : ps.length ≤ 4) (l2 : cs.length ≤ 8) (d : Dir) : (foundOf F ps cs d).length < 63 := by
  unfold foundOf
  rw [List.length_append]
  have a := flat_few (fun p => shadeOf (oneP F p) d) 4 ps fun p hp => oneP_few O (h1 p hp) d
  have b := flat_few (fun c => shadeOf (oneA F c) d) 1 cs fun c hc => oneA_few O (h2 c hc) d
  omega
theorem shady_part {F : Fl} {d : Dir} {c : Cell} : shady F d c = true ↔ (∃ p, p ∈ F.posts ∧ shady (oneP F p) d c = true) ∨ ∃ a, a ∈ F.aw ∧ shady (oneA F a) d c = true := by
  unfold shady shadyP
  simp only [Bool.or_eq_true, decide_eq_true_eq, List.any_eq_true, oneP, oneA, List.mem_singleton, List.not_mem_nil, false_and, exists_false, or_false, false_or, exists_eq_left, exists_eq_right']
  exact Or.comm
theorem mem_found {F : Fl} (O : F.Ok) {d : Dir} {c : Cell} : c ∈ foundOf F F.posts F.aw d ↔ F.has c = true ∧ shady F d c = true := by
  unfold foundOf
  rw [List.mem_append, List.mem_flatMap, List.mem_flatMap, shady_part]
  constructor
  · rintro (⟨p, hp, h⟩ | ⟨a, ha, h⟩)
    · obtain ⟨g1, g2⟩ := (mem_shadeOf (oneP_ok O hp)).mp h
      exact ⟨g1, .inl ⟨p, hp, g2⟩⟩
    · obtain ⟨g1, g2⟩ := (mem_shadeOf (oneA_ok O ha)).mp h
      exact ⟨g1, .inr ⟨a, ha, g2⟩⟩
  · rintro ⟨g1, ⟨p, hp, h⟩ | ⟨a, ha, h⟩⟩
    · exact .inl ⟨p, hp, (mem_shadeOf (oneP_ok O hp)).mpr ⟨g1, h⟩⟩
    · exact .inr ⟨a, ha, (mem_shadeOf (oneA_ok O ha)).mpr ⟨g1, h⟩⟩
theorem found_canon {F : Fl} (O : F.Ok) (d : Dir) : canon ((foundOf F F.posts F.aw d).map k2) = (shadeOf F d).map k2 := canon_cells O fun _ => mem_found O
theorem found_all {F : Fl} (O : F.Ok) (d : Dir) : ((foundOf F F.posts F.aw d).map k2).all okPair = true := by
  refine List.all_eq_true.mpr fun k hk => ?_
  obtain ⟨c, hc, rfl⟩ := List.mem_map.mp hk
  exact ok_k2 O ((mem_found O).mp hc).1
/-! a part of a floor -/
def partF (F : Fl) (k : Nat) : Fl := ⟨F.rows, F.cols, F.posts.take 1, F.aw.take k⟩
theorem partF_ok {F : Fl} (O : F.Ok) (k : Nat) : (partF F k).Ok where
  r := O.r
  c := O.c
  pl := Nat.le_trans (List.length_take_le _ _) (by decide)
  ph := fun p hp => O.ph p (List.mem_of_mem_take hp)
  pn := by
    show ((F.posts.take 1).map pc).Nodup
    rw [List.map_take]
    exact O.pn.sublist (List.take_sublist _ _)
  al := by
    have := O.al
    show (F.aw.take k).length ≤ 8
    rw [List.length_take]
    omega
  ah := fun c hc => O.ah c (List.mem_of_mem_take hc)
  an := O.an.sublist (List.take_sublist _ _)
theorem part_shady {F : Fl} {k : Nat} {d : Dir} {c : Cell} (h : shady (partF F k) d c = true) : shady F d c = true := by
  rw [shady_part] at h ⊢
  rcases h with ⟨p, hp, g⟩ | ⟨a, ha, g⟩
  · exact .inl ⟨p, List.mem_of_mem_take hp, g⟩
  · exact .inr ⟨a, List.mem_of_mem_take ha, g⟩
/-- the cells of the floor's shade that the part leaves in the sun -/
def leftOf (F G : Fl) (d : Dir) : List Cell := (shadeOf F d).filter fun c => !decide (c ∈ shadeOf G d)
theorem map_k2_inj {as bs : List Cell} (h : as.map k2 = bs.map k2) : as = bs := by
  induction as generalizing bs with
  | nil =>
    cases bs with
    | nil => rfl
    | cons b bs => cases h
  | cons a as ih =>
    cases bs with
    | nil => cases h
    | cons b bs =>
      obtain ⟨h1, h2⟩ := List.cons.inj h
      rw [k2_inj h1, ih h2]
theorem left_grid {F : Fl} (O : F.Ok) (k : Nat) (d : Dir) : leftOf F (partF F k) d = grid.filter (apart F (partF F k) d) := by
  have OG := partF_ok O k
  refine map_k2_inj (rise_eq ?_ ?_ fun j => ?_)
  · exact List.Pairwise.sublist (List.Sublist.map _ List.filter_sublist) (rise_shade O d)
  · rw [← grid_five]
    exact rise_filter five_ok _
  · have key : ∀ c, c ∈ leftOf F (partF F k) d ↔ c ∈ grid.filter (apart F (partF F k) d) := fun c => by
      unfold leftOf
      rw [List.mem_filter, List.mem_filter, ← grid_five, mem_cells five_ok]
      unfold apart
      have e1 := mem_shade O d c
      have e2 := mem_shade OG d c
      simp only [Bool.not_eq_true', decide_eq_false_iff_not]
      rw [e1, e2]
      constructor
      · rintro ⟨h1, h2⟩
        refine ⟨has_five O ?_, ?_⟩
        · unfold sh at h1
          exact (Bool.and_eq_true_iff.mp h1).1
        · rw [h1]
          cases h3 : sh (partF F k) d c with
          | true => exact absurd h3 h2
          | false => rfl
      · rintro ⟨h1, h2⟩
        cases h3 : sh F d c with
        | true =>
          refine ⟨rfl, fun h4 => ?_⟩
          rw [h3, h4] at h2
          cases h2
        | false =>
          exfalso
          cases h4 : sh (partF F k) d c with
          | false => rw [h3, h4] at h2; cases h2
          | true =>
            unfold sh at h3 h4
            obtain ⟨g1, g2⟩ := Bool.and_eq_true_iff.mp h4
            have g1 : F.has c = true := g1
            rw [g1, part_shady g2] at h3
            cases h3
    constructor
    · intro h
      obtain ⟨c, hc, rfl⟩ := List.mem_map.mp h
      exact List.mem_map_of_mem ((key c).mp hc)
    · intro h
      obtain ⟨c, hc, rfl⟩ := List.mem_map.mp h
      exact List.mem_map_of_mem ((key c).mpr hc)
theorem left_head {F : Fl} (O : F.Ok) (k : Nat) (d : Dir) : (leftOf F (partF F k) d).head? = partAt F (partF F k) d := by
  rw [left_grid O, List.head?_filter]
  rfl
theorem left_few {F : Fl} (O : F.Ok) (k : Nat) (d : Dir) : (leftOf F (partF F k) d).length ≤ 25 := by
  rw [left_grid O]
  exact Nat.le_trans (List.length_filter_le _ _) (by decide)
def atD (q : Nat × Cell) : PyData := .tuple [.int q.1, cellD q.2]
/-- (due + [None])[0] -/
theorem due_head {qs : List (Nat × Cell)} {q : Option (Nat × Cell)} (h : qs.head? = q) (hl : qs.length < 1000000) : (gAdd (.list (qs.map atD)) (.list [.none])).bind (fun x => gIx x (.int 0)) = some (dueD q) := by
  rw [v_addL (by rw [List.length_map]; show qs.length + 1 ≤ _; omega)]
  show gIx (.list (qs.map atD ++ [.none])) (.int 0) = _
  rw [gixL]
  cases qs with
  | nil => subst h; rfl
  | cons a as =>
    subst h
    have := atI_nat (xs := (a :: as).map atD ++ [.none]) (i := 0) (by simp)
    rw [show ((0 : Nat) : Int) = 0 from rfl] at this
    rw [this]
    rfl
end Mx

set_option Elab.async false
set_option linter.all false
set_option maxRecDepth 100000
set_option maxHeartbeats 200000
namespace Pr
open PySem PySem.Spec L2 Fn
open PyProof.Rows hiding St
def topS (i : Nat) : Stmt := PySem.Challenge.pw_shadeseats_k18_whole_shades_of_parts.main.body.getD i (.Pass ⟨0, 0, 0, 0⟩)
def tab_STEPS : Str → Option PyData := fun z => (([("n", .tuple [.int (-1), .int 0]), ("e", .tuple [.int 0, .int 1]), ("s", .tuple [.int 1, .int 0]), ("w", .tuple [.int 0, .int (-1)]), ("o", .tuple [.int 0, .int 0])] : List (Str × PyData)).lookup z)
section
/-- what the module holds -/
structure Tp (K : PySem.W.Frag) (w : World) (mg : Str → Option Value) : Prop where
  n_bool : mg "bool" = none
  n_dict : mg "dict" = none
  n_enumerate : mg "enumerate" = none
  n_int : mg "int" = none
  n_isinstance : mg "isinstance" = none
  n_len : mg "len" = none
  n_range : mg "range" = none
  n_set : mg "set" = none
  n_sorted : mg "sorted" = none
  n_str : mg "str" = none
  n_tuple : mg "tuple" = none
  n_zip : mg "zip" = none
  c_HIGHEST_POST : ∃ t, mg "HIGHEST_POST" = some (.int 4 t)
  c_LONGEST_SIDE : ∃ t, mg "LONGEST_SIDE" = some (.int 5 t)
  c_MOST_AWNINGS : ∃ t, mg "MOST_AWNINGS" = some (.int 8 t)
  c_MOST_POSTS : ∃ t, mg "MOST_POSTS" = some (.int 4 t)
  c_MOST_SIGNS : ∃ t, mg "MOST_SIGNS" = some (.int 6 t)
  c_SIGNS : ∃ t, mg "SIGNS" = some (.str "neswo" t)
  t_STEPS : TabOk K w mg "STEPS" tab_STEPS
variable {P : Program} {w : World} {K : PySem.W.Frag} {mg : Str → Option Value} {base : Heap}
/-! _law_taken: slots 0 _law_row 1 _law_many 2 _law_found 3 _law_cell -/
abbrev s__law_taken : Stmt := topS 29
abbrev N__law_taken : List Str := ["_law_row", "_law_many", "_law_found", "_law_cell"]
theorem sc__law_taken : FnScope N__law_taken ["_law_row", "_law_many"] (defScope s__law_taken) := ⟨rfl, rfl, rfl, by decide +kernel, rfl, by decide +kernel, by decide +kernel⟩
def m__law_taken : MS := (mSeq (mIf (tBl (mOp gGt (mIxL (lVar 0) (mC (.int 3))) (mC (.int 0)))) (mSeq (mSet 2 (mOp gMod (mCall fInt (mCons (mIxL (lVar 0) (mC (.int 3))) mNil)) (mVar 1))) (mSeq (mStore 0 (mOp gDiv (mIxL (lVar 0) (mC (.int 3))) (mVar 1)) (mC (.int 3))) (mSeq (mRet (mVar 2)) mSkip))) mSkip) (mSeq (mStore 0 (mOp gAdd (mIxL (lVar 0) (mC (.int 1))) (mC (.int 1))) (mC (.int 1))) (mSeq (mIf (tBl (mOp gGt (mIxL (lVar 0) (mC (.int 1))) (mCall fLen (mCons (mIxL (lVar 0) (mC (.int 0))) mNil)))) (mSeq (mStore 0 (mOp gMod (mCall fInt (mCons (mOp gAdd (mOp gMulI (mIxL (lVar 0) (mC (.int 2))) (mC (.int 48271))) (mC (.int 11))) mNil)) (mC (.int 2147483647))) (mC (.int 2))) (mSeq (mRet (mOp gMod (mCall fInt (mCons (mOp gDiv (mIxL (lVar 0) (mC (.int 2))) (mC (.int 7))) mNil)) (mVar 1))) mSkip)) mSkip) (mSeq (mSet 3 (mOp gIx (mIxL (lVar 0) (mC (.int 0))) (mOp gMinus (mIxL (lVar 0) (mC (.int 1))) (mC (.int 1))))) (mSeq (mStore 0 (mOp gMod (mCall fInt (mCons (mOp gAdd (mOp gAdd (mOp gMulI (mIxL (lVar 0) (mC (.int 2))) (mC (.int 48271))) (mVar 3)) (mC (.int 11))) mNil)) (mC (.int 2147483647))) (mC (.int 2))) (mSeq (mIf (tBl (mOp gGe (mVar 3) (mOp gPow (mC (.int 10)) (mC (.int 18))))) (mSeq (mStore 0 (mOp gDiv (mVar 3) (mVar 1)) (mC (.int 3))) mSkip) mSkip) (mSeq (mRet (mOp gMod (mCall fInt (mCons (mVar 3) mNil)) (mVar 1))) mSkip)))))))
def f__law_taken : List PyData → List PyData → Option (PyData × List PyData) := fnR 2 2 m__law_taken
theorem ok__law_taken (T : Tp K w mg)  {f : Addr} {fd : FuncData} (F : Fun K "_law_taken" "_law_taken" s__law_taken f fd) : FnOk P w K mg base CX0 1 f fd ["_law_row", "_law_many"] (spR K f__law_taken) := by
  have sc := sc__law_taken
  refine fn_okR (N := N__law_taken) (s := m__law_taken) (k := 0) F sc rfl rfl (fun cdv A outer s0 H E hr => ?_)
  exact (ss_cons (s1_if (b := false) (t_gt (s_ixL (lv 0) se_int) se_int) (ss_cons (s1_set (b := false) (i := 2) sc.nd rfl (Or.inl rfl) (s_mod (s_callTy call_int1 cd_int (by rfl) T.n_int (by decide +kernel) (sa_cons (s_ixL (lv 0) se_int) sa_nil)) (sv 1))) (ss_cons (s1_store (b := false) (i := 0) (s_div (s_ixL (lv 0) se_int) (sv 1)) (pg_sub (pe_var (i := 0) rfl (by first | exact Or.inl rfl | exact Or.inr (Or.inl rfl)) (by decide) (by decide)) se_int set_list)) (ss_cons (s1_ret (b := false) (sv 2)) ss_nil))) ss_nil) (ss_cons (s1_store (b := false) (i := 0) (s_add (s_ixL (lv 0) se_int) se_int) (pg_sub (pe_var (i := 0) rfl (by first | exact Or.inl rfl | exact Or.inr (Or.inl rfl)) (by decide) (by decide)) se_int set_list)) (ss_cons (s1_if (b := false) (t_gt (s_ixL (lv 0) se_int) (s_callB call_len cd_len (by rfl) T.n_len (by decide +kernel) (sa_cons (s_ixL (lv 0) se_int) sa_nil))) (ss_cons (s1_store (b := false) (i := 0) (s_mod (s_callTy call_int1 cd_int (by rfl) T.n_int (by decide +kernel) (sa_cons (s_add (s_mul (s_ixL (lv 0) se_int) se_int) se_int) sa_nil)) se_int) (pg_sub (pe_var (i := 0) rfl (by first | exact Or.inl rfl | exact Or.inr (Or.inl rfl)) (by decide) (by decide)) se_int set_list)) (ss_cons (s1_ret (b := false) (s_mod (s_callTy call_int1 cd_int (by rfl) T.n_int (by decide +kernel) (sa_cons (s_div (s_ixL (lv 0) se_int) se_int) sa_nil)) (sv 1))) ss_nil)) ss_nil) (ss_cons (s1_set (b := false) (i := 3) sc.nd rfl (Or.inl rfl) (s_ix (s_ixL (lv 0) se_int) (s_sub (s_ixL (lv 0) se_int) se_int))) (ss_cons (s1_store (b := false) (i := 0) (s_mod (s_callTy call_int1 cd_int (by rfl) T.n_int (by decide +kernel) (sa_cons (s_add (s_add (s_mul (s_ixL (lv 0) se_int) se_int) (sv 3)) se_int) sa_nil)) se_int) (pg_sub (pe_var (i := 0) rfl (by first | exact Or.inl rfl | exact Or.inr (Or.inl rfl)) (by decide) (by decide)) se_int set_list)) (ss_cons (s1_if (b := false) (t_ge (sv 3) (s_pow se_int se_int)) (ss_cons (s1_store (b := false) (i := 0) (s_div (sv 3) (sv 1)) (pg_sub (pe_var (i := 0) rfl (by first | exact Or.inl rfl | exact Or.inr (Or.inl rfl)) (by decide) (by decide)) se_int set_list)) ss_nil) ss_nil) (ss_cons (s1_ret (b := false) (s_mod (s_callTy call_int1 cd_int (by rfl) T.n_int (by decide +kernel) (sa_cons (sv 3) sa_nil)) (sv 1))) ss_nil)))))))
theorem d__law_taken (T : Tp K w mg)  {f : Addr} {fd : FuncData} (F : Fun K "_law_taken" "_law_taken" s__law_taken f fd) (gm : mg "_law_taken" = some (.ref f)) : Df P w K mg base "_law_taken" 1 ["_law_row", "_law_many"] (spR K f__law_taken) :=
  ⟨f, fd, gm, F.kp, F.binds (ps := ["_law_row", "_law_many"]) (fun _ _ _ _ _ _ us hl => match us, hl with | [_, _], _ => rfl), ok__law_taken T  F⟩
/-! _law_floor: slots 0 _law_row 1 _law_size 2 _law_high 3 _law_wide 4 _law_posts 5 _law_clothes 6 _law_k 7 _law_cell 8 _law_post -/
abbrev s__law_floor : Stmt := topS 30
abbrev N__law_floor : List Str := ["_law_row", "_law_size", "_law_high", "_law_wide", "_law_posts", "_law_clothes", "_law_k", "_law_cell", "_law_post"]
theorem sc__law_floor : FnScope N__law_floor ["_law_row", "_law_size"] (defScope s__law_floor) := ⟨rfl, rfl, rfl, by decide +kernel, rfl, by decide +kernel, by decide +kernel⟩
def m__law_floor : MS := (mSeq (mPar [2, 3] (mmSh (mOp gAdd (mC (.int 1)) (mFnR f__law_taken 0 (mCons (mVar 1) mNil))) (mmSh (mOp gAdd (mC (.int 1)) (mFnR f__law_taken 0 (mCons (mVar 1) mNil))) mmNil))) (mSeq (mPar [4, 5] (mmOwn (mLst mNil) (mmSh (mF (mLst mNil)) mmNil))) (mSeq (mFor (mRng fRng1 (mCons (mFnR f__law_taken 0 (mCons (mC (.int 4)) mNil)) mNil)) (goName 6) (mSeq (mSet 7 (mTup (mCons (mFnR f__law_taken 0 (mCons (mVar 2) mNil)) (mCons (mFnR f__law_taken 0 (mCons (mVar 3) mNil)) mNil)))) (mSeq (mIf (tBl (mOp (gIn true) (mVar 7) (mF (mLcP [8] [4] (mOwnI 4) (goName 8) tYesM (mSl (mVar 8) oNone (oSome (mC (.int 2)))))))) (mSeq (mApp 4 (mOp gAdd (mVar 7) (mTup (mCons (mOp gAdd (mC (.int 1)) (mFnR f__law_taken 0 (mCons (mC (.int 4)) mNil))) mNil)))) mSkip) mSkip) mSkip))) (mSeq (mFor (mRng fRng1 (mCons (mFnR f__law_taken 0 (mCons (mOp gIx (mF (mLst (mCons (mC (.int 3)) (mCons (mC (.int 9)) mNil)))) (mFnR f__law_taken 0 (mCons (mC (.int 2)) mNil))) mNil)) mNil)) (goName 6) (mSeq (mSet 7 (mTup (mCons (mFnR f__law_taken 0 (mCons (mVar 2) mNil)) (mCons (mFnR f__law_taken 0 (mCons (mVar 3) mNil)) mNil)))) (mSeq (mSet 5 (mOp gAdd (mVar 5) (mF (mRep (mLst (mCons (mVar 7) mNil)) (mCall fInt (mCons (mOp (gIn true) (mVar 7) (mVar 5)) mNil)))))) mSkip))) (mSeq (mRet (mTup (mCons (mVar 2) (mCons (mVar 3) (mCons (mCall fTuple (mCons (mVar 4) mNil)) (mCons (mCall fTuple (mCons (mVar 5) mNil)) mNil)))))) mSkip)))))
def f__law_floor : List PyData → List PyData → Option (PyData × List PyData) := fnR 2 7 m__law_floor
theorem ok__law_floor (T : Tp K w mg) (D__law_taken : Df P w K mg base "_law_taken" 1 ["_law_row", "_law_many"] (spR K f__law_taken)) {f : Addr} {fd : FuncData} (F : Fun K "_law_floor" "_law_floor" s__law_floor f fd) : FnOk P w K mg base CX0 2 f fd ["_law_row", "_law_size"] (spR K f__law_floor) := by
  have sc := sc__law_floor
  refine fn_okR (N := N__law_floor) (s := m__law_floor) (k := 1) F sc rfl rfl (fun cdv A outer s0 H E hr => ?_)
  exact (ss_cons (s1_par2 rfl sc.nd (i := 2) (j := 3) rfl rfl (by decide) rfl rfl (sm_sh (b := false) (s_add se_int (s_fnRD (b := false) (i := 0) D__law_taken (hr.mono (by decide)) (by rfl) (sa_cons (sv 1) sa_nil))) (sm_sh (b := false) (s_add se_int (s_fnRD (b := false) (i := 0) D__law_taken (hr.mono (by decide)) (by rfl) (sa_cons (sv 1) sa_nil))) sm_nil)) (by rfl)) (ss_cons (s1_par2 rfl sc.nd (i := 4) (j := 5) rfl rfl (by decide) rfl rfl (sm_own (b := false) (f_lst sa_nil) (sm_sh (b := false) (s_ofF (f_lst sa_nil)) sm_nil)) (by rfl)) (ss_cons (s1_for (b := false) (vs := [6]) PassesOwn.never rfl (si_rng1 (by rfl) T.n_range (sa_cons (s_fnRD (b := false) (i := 0) D__law_taken (hr.mono (by decide)) (by rfl) (sa_cons se_int sa_nil)) sa_nil)) (sg_name (i := 6) sc.nd rfl (Or.inl rfl) (by decide)) (ss_cons (s1_set (b := false) (i := 7) sc.nd rfl (Or.inl rfl) (s_tup (sa_cons (s_fnRD (b := false) (i := 0) D__law_taken (hr.mono (by decide)) (by rfl) (sa_cons (sv 2) sa_nil)) (sa_cons (s_fnRD (b := false) (i := 0) D__law_taken (hr.mono (by decide)) (by rfl) (sa_cons (sv 3) sa_nil)) sa_nil)))) (ss_cons (s1_if (b := false) (t_notin (hu65 hr) (sv 7) (s_ofF (f_lcP rfl sc.nd (si_own 4) (blkOk_by (own := [("_law_post", 8)]) (N := N__law_floor) (sc := defScope s__law_floor) (by decide +kernel)) (fun _ _ _ _ _ => (sg_name (i := 8) sc.nd rfl (Or.inl rfl) (by decide))) (fun _ _ _ _ _ => sts_nil) (fun _ _ _ _ _ => (s_sl (sv 8) so_none (so_some se_int)))))) (ss_cons (s1_app (b := false) (i := 4) (pe_bm PySem.F.plainAttrs_list PySem.F.slot_list_append PySem.F.type_list_append mt_append (pv 4) (pa_cons (s_add (sv 7) (s_tup (sa_cons (s_add se_int (s_fnRD (b := false) (i := 0) D__law_taken (hr.mono (by decide)) (by rfl) (sa_cons se_int sa_nil))) sa_nil))) pa_nil))) ss_nil) ss_nil) ss_nil))) (ss_cons (s1_for (b := false) (vs := [6]) PassesOwn.never rfl (si_rng1 (by rfl) T.n_range (sa_cons (s_fnRD (b := false) (i := 0) D__law_taken (hr.mono (by decide)) (by rfl) (sa_cons (s_ix (s_ofF (f_lst (sa_cons se_int (sa_cons se_int sa_nil)))) (s_fnRD (b := false) (i := 0) D__law_taken (hr.mono (by decide)) (by rfl) (sa_cons se_int sa_nil))) sa_nil)) sa_nil)) (sg_name (i := 6) sc.nd rfl (Or.inl rfl) (by decide)) (ss_cons (s1_set (b := false) (i := 7) sc.nd rfl (Or.inl rfl) (s_tup (sa_cons (s_fnRD (b := false) (i := 0) D__law_taken (hr.mono (by decide)) (by rfl) (sa_cons (sv 2) sa_nil)) (sa_cons (s_fnRD (b := false) (i := 0) D__law_taken (hr.mono (by decide)) (by rfl) (sa_cons (sv 3) sa_nil)) sa_nil)))) (ss_cons (s1_set (b := false) (i := 5) sc.nd rfl (Or.inl rfl) (s_add (sv 5) (s_ofF (f_rep (f_lst (sa_cons (sv 7) sa_nil)) (s_callTy call_int1 cd_int (by rfl) T.n_int (by decide +kernel) (sa_cons (s_notin (hu65 hr) (sv 7) (sv 5)) sa_nil)))))) ss_nil))) (ss_cons (s1_ret (b := false) (s_tup (sa_cons (sv 2) (sa_cons (sv 3) (sa_cons (s_callTy call_tuple_of cd_tuple (by rfl) T.n_tuple (by decide +kernel) (sa_cons (sv 4) sa_nil)) (sa_cons (s_callTy call_tuple_of cd_tuple (by rfl) T.n_tuple (by decide +kernel) (sa_cons (sv 5) sa_nil)) sa_nil)))))) ss_nil)))))
theorem d__law_floor (T : Tp K w mg) (D__law_taken : Df P w K mg base "_law_taken" 1 ["_law_row", "_law_many"] (spR K f__law_taken)) {f : Addr} {fd : FuncData} (F : Fun K "_law_floor" "_law_floor" s__law_floor f fd) (gm : mg "_law_floor" = some (.ref f)) : Df P w K mg base "_law_floor" 2 ["_law_row", "_law_size"] (spR K f__law_floor) :=
  ⟨f, fd, gm, F.kp, F.binds (ps := ["_law_row", "_law_size"]) (fun _ _ _ _ _ _ us hl => match us, hl with | [_, _], _ => rfl), ok__law_floor T D__law_taken F⟩
/-! _law_sun: slots 0 _law_row 1 _law_k -/
abbrev s__law_sun : Stmt := topS 31
abbrev N__law_sun : List Str := ["_law_row", "_law_k"]
theorem sc__law_sun : FnScope N__law_sun ["_law_row"] (defScope s__law_sun) := ⟨rfl, rfl, rfl, by decide +kernel, rfl, by decide +kernel, by decide +kernel⟩
def m__law_sun : MS := (mSeq (mRet (mJoin (mC (.str "")) (mF (mLc [1] (mRng fRng1 (mCons (mOp gAdd (mC (.int 1)) (mFnR f__law_taken 0 (mCons (mOp gIx (mF (mLst (mCons (mC (.int 2)) (mCons (mC (.int 6)) mNil)))) (mFnR f__law_taken 0 (mCons (mC (.int 2)) mNil))) mNil))) mNil)) (goName 1) tYesM (mOp gIx (mC (.str "ensow")) (mFnR f__law_taken 0 (mCons (mC (.int 5)) mNil))))))) mSkip)
def f__law_sun : List PyData → List PyData → Option (PyData × List PyData) := fnR 1 1 m__law_sun
theorem ok__law_sun (T : Tp K w mg) (D__law_taken : Df P w K mg base "_law_taken" 1 ["_law_row", "_law_many"] (spR K f__law_taken)) {f : Addr} {fd : FuncData} (F : Fun K "_law_sun" "_law_sun" s__law_sun f fd) : FnOk P w K mg base CX0 2 f fd ["_law_row"] (spR K f__law_sun) := by
  have sc := sc__law_sun
  refine fn_okR (N := N__law_sun) (s := m__law_sun) (k := 1) F sc rfl rfl (fun cdv A outer s0 H E hr => ?_)
  exact (ss_cons (s1_ret (b := false) (s_join se_str (s_ofF (f_lc rfl sc.nd (si_rng1 (by rfl) T.n_range (sa_cons (s_add se_int (s_fnRD (b := false) (i := 0) D__law_taken (hr.mono (by decide)) (by rfl) (sa_cons (s_ix (s_ofF (f_lst (sa_cons se_int (sa_cons se_int sa_nil)))) (s_fnRD (b := false) (i := 0) D__law_taken (hr.mono (by decide)) (by rfl) (sa_cons se_int sa_nil))) sa_nil))) sa_nil)) (blkOk_by (own := [("_law_k", 1)]) (N := N__law_sun) (sc := defScope s__law_sun) (by decide +kernel)) (fun _ _ _ _ _ => (sg_name (i := 1) sc.nd rfl (Or.inl rfl) (by decide))) (fun _ _ _ _ _ => sts_nil) (fun _ _ _ _ _ => (s_ix se_str (s_fnRD (b := false) (i := 0) D__law_taken (hr.mono (by decide)) (by rfl) (sa_cons se_int sa_nil)))))))) ss_nil)
theorem d__law_sun (T : Tp K w mg) (D__law_taken : Df P w K mg base "_law_taken" 1 ["_law_row", "_law_many"] (spR K f__law_taken)) {f : Addr} {fd : FuncData} (F : Fun K "_law_sun" "_law_sun" s__law_sun f fd) (gm : mg "_law_sun" = some (.ref f)) : Df P w K mg base "_law_sun" 2 ["_law_row"] (spR K f__law_sun) :=
  ⟨f, fd, gm, F.kp, F.binds (ps := ["_law_row"]) (fun _ _ _ _ _ _ us hl => match us, hl with | [_], _ => rfl), ok__law_sun T D__law_taken F⟩
/-! _law_turned: slots 0 _law_floor_here 1 _law_way 2 _law_high 3 _law_wide 4 _law_posts 5 _law_clothes 6 _law_some 7 _law_up 8 _law_at 9 _law_tall -/
abbrev s__law_turned : Stmt := topS 32
abbrev N__law_turned : List Str := ["_law_floor_here", "_law_way", "_law_high", "_law_wide", "_law_posts", "_law_clothes", "_law_some", "_law_up", "_law_at", "_law_tall"]
theorem sc__law_turned : FnScope N__law_turned ["_law_floor_here", "_law_way"] (defScope s__law_turned) := ⟨rfl, rfl, rfl, by decide +kernel, rfl, by decide +kernel, by decide +kernel⟩
def m__law_turned : MS := (mSeq (mTo (mVar 0) (goTup 4 (goCons (goName 2) (goCons (goName 3) (goCons (goName 4) (goCons (goName 5) goNil)))))) (mSeq (mIf (tBl (mOp (gEq false) (mVar 1) (mC (.int 0)))) (mSeq (mSet 6 (mCall fTuple (mCons (mF (mLcP [7, 8, 9] [] (mAs asT (mVar 4)) (goTup 3 (goCons (goName 7) (goCons (goName 8) (goCons (goName 9) goNil)))) tYesM (mTup (mCons (mVar 7) (mCons (mOp gMinus (mOp gMinus (mVar 3) (mC (.int 1))) (mVar 8)) (mCons (mVar 9) mNil)))))) mNil))) (mSeq (mRet (mTup (mCons (mVar 2) (mCons (mVar 3) (mCons (mVar 6) (mCons (mCall fTuple (mCons (mF (mLcP [7, 8] [] (mAs asT (mVar 5)) (goTup 2 (goCons (goName 7) (goCons (goName 8) goNil))) tYesM (mTup (mCons (mVar 7) (mCons (mOp gMinus (mOp gMinus (mVar 3) (mC (.int 1))) (mVar 8)) mNil))))) mNil)) mNil)))))) mSkip)) mSkip) (mSeq (mSet 6 (mCall fTuple (mCons (mF (mLcP [7, 8, 9] [] (mAs asT (mVar 4)) (goTup 3 (goCons (goName 7) (goCons (goName 8) (goCons (goName 9) goNil)))) tYesM (mTup (mCons (mVar 8) (mCons (mVar 7) (mCons (mVar 9) mNil)))))) mNil))) (mSeq (mRet (mTup (mCons (mVar 3) (mCons (mVar 2) (mCons (mVar 6) (mCons (mCall fTuple (mCons (mF (mLcP [7, 8] [] (mAs asT (mVar 5)) (goTup 2 (goCons (goName 7) (goCons (goName 8) goNil))) tYesM (mTup (mCons (mVar 8) (mCons (mVar 7) mNil))))) mNil)) mNil)))))) mSkip))))
def f__law_turned : List PyData → Option PyData := fnP 2 8 m__law_turned
theorem ok__law_turned (T : Tp K w mg)  {f : Addr} {fd : FuncData} (F : Fun K "_law_turned" "_law_turned" s__law_turned f fd) : FnOk P w K mg base CX0 1 f fd ["_law_floor_here", "_law_way"] (spP K f__law_turned) := by
  have sc := sc__law_turned
  refine fn_ok (N := N__law_turned) (s := m__law_turned) (k := 0) F sc rfl rfl (fun cdv A outer s0 H E hr => ?_)
  exact (ss_cons (s1_to (b := false) (vs := [2, 3, 4, 5]) (sv 0) (sg_tup rfl (sgs_cons (sg_name (i := 2) sc.nd rfl (Or.inl rfl) (by decide)) (sgs_cons (sg_name (i := 3) sc.nd rfl (Or.inr rfl) (by decide)) (sgs_cons (sg_name (i := 4) sc.nd rfl (Or.inl rfl) (by decide)) (sgs_cons (sg_name (i := 5) sc.nd rfl (Or.inl rfl) (by decide)) sgs_nil)))))) (ss_cons (s1_if (b := false) (t_eq (hu65 hr) (sv 1) se_int) (ss_cons (s1_set (b := false) (i := 6) sc.nd rfl (Or.inl rfl) (s_callTy call_tuple_of cd_tuple (by rfl) T.n_tuple (by decide +kernel) (sa_cons (s_ofF (f_lcP rfl sc.nd (si_S (b := false) (si_tup (sv 4))) (blkOk_by (own := [("_law_up", 7), ("_law_at", 8), ("_law_tall", 9)]) (N := N__law_turned) (sc := defScope s__law_turned) (by decide +kernel)) (fun _ _ _ _ _ => (sg_tup rfl (sgs_cons (sg_name (i := 7) sc.nd rfl (Or.inl rfl) (by decide)) (sgs_cons (sg_name (i := 8) sc.nd rfl (Or.inl rfl) (by decide)) (sgs_cons (sg_name (i := 9) sc.nd rfl (Or.inl rfl) (by decide)) sgs_nil))))) (fun _ _ _ _ _ => sts_nil) (fun _ _ _ _ _ => (s_tup (sa_cons (sv 7) (sa_cons (s_sub (s_sub (sv 3) se_int) (sv 8)) (sa_cons (sv 9) sa_nil))))))) sa_nil))) (ss_cons (s1_ret (b := false) (s_tup (sa_cons (sv 2) (sa_cons (sv 3) (sa_cons (sv 6) (sa_cons (s_callTy call_tuple_of cd_tuple (by rfl) T.n_tuple (by decide +kernel) (sa_cons (s_ofF (f_lcP rfl sc.nd (si_S (b := false) (si_tup (sv 5))) (blkOk_by (own := [("_law_up", 7), ("_law_at", 8)]) (N := N__law_turned) (sc := defScope s__law_turned) (by decide +kernel)) (fun _ _ _ _ _ => (sg_tup rfl (sgs_cons (sg_name (i := 7) sc.nd rfl (Or.inl rfl) (by decide)) (sgs_cons (sg_name (i := 8) sc.nd rfl (Or.inl rfl) (by decide)) sgs_nil)))) (fun _ _ _ _ _ => sts_nil) (fun _ _ _ _ _ => (s_tup (sa_cons (sv 7) (sa_cons (s_sub (s_sub (sv 3) se_int) (sv 8)) sa_nil)))))) sa_nil)) sa_nil)))))) ss_nil)) ss_nil) (ss_cons (s1_set (b := false) (i := 6) sc.nd rfl (Or.inl rfl) (s_callTy call_tuple_of cd_tuple (by rfl) T.n_tuple (by decide +kernel) (sa_cons (s_ofF (f_lcP rfl sc.nd (si_S (b := false) (si_tup (sv 4))) (blkOk_by (own := [("_law_up", 7), ("_law_at", 8), ("_law_tall", 9)]) (N := N__law_turned) (sc := defScope s__law_turned) (by decide +kernel)) (fun _ _ _ _ _ => (sg_tup rfl (sgs_cons (sg_name (i := 7) sc.nd rfl (Or.inl rfl) (by decide)) (sgs_cons (sg_name (i := 8) sc.nd rfl (Or.inl rfl) (by decide)) (sgs_cons (sg_name (i := 9) sc.nd rfl (Or.inl rfl) (by decide)) sgs_nil))))) (fun _ _ _ _ _ => sts_nil) (fun _ _ _ _ _ => (s_tup (sa_cons (sv 8) (sa_cons (sv 7) (sa_cons (sv 9) sa_nil))))))) sa_nil))) (ss_cons (s1_ret (b := false) (s_tup (sa_cons (sv 3) (sa_cons (sv 2) (sa_cons (sv 6) (sa_cons (s_callTy call_tuple_of cd_tuple (by rfl) T.n_tuple (by decide +kernel) (sa_cons (s_ofF (f_lcP rfl sc.nd (si_S (b := false) (si_tup (sv 5))) (blkOk_by (own := [("_law_up", 7), ("_law_at", 8)]) (N := N__law_turned) (sc := defScope s__law_turned) (by decide +kernel)) (fun _ _ _ _ _ => (sg_tup rfl (sgs_cons (sg_name (i := 7) sc.nd rfl (Or.inl rfl) (by decide)) (sgs_cons (sg_name (i := 8) sc.nd rfl (Or.inl rfl) (by decide)) sgs_nil)))) (fun _ _ _ _ _ => sts_nil) (fun _ _ _ _ _ => (s_tup (sa_cons (sv 8) (sa_cons (sv 7) sa_nil)))))) sa_nil)) sa_nil)))))) ss_nil))))
theorem d__law_turned (T : Tp K w mg)  {f : Addr} {fd : FuncData} (F : Fun K "_law_turned" "_law_turned" s__law_turned f fd) (gm : mg "_law_turned" = some (.ref f)) : Df P w K mg base "_law_turned" 1 ["_law_floor_here", "_law_way"] (spP K f__law_turned) :=
  ⟨f, fd, gm, F.kp, F.binds (ps := ["_law_floor_here", "_law_way"]) (fun _ _ _ _ _ _ us hl => match us, hl with | [_, _], _ => rfl), ok__law_turned T  F⟩
/-! is_tuple_of: slots 0 thing 1 many -/
abbrev s_is_tuple_of : Stmt := topS 13
abbrev N_is_tuple_of : List Str := ["thing", "many"]
theorem sc_is_tuple_of : FnScope N_is_tuple_of ["thing", "many"] (defScope s_is_tuple_of) := ⟨rfl, rfl, rfl, by decide +kernel, rfl, by decide +kernel, by decide +kernel⟩
def m_is_tuple_of : MS := (mSeq (mRet (mAnd (mIsi "tuple" (mVar 0)) (mOp (gEq false) (mCall fLen (mCons (mVar 0) mNil)) (mVar 1)))) mSkip)
def f_is_tuple_of : List PyData → Option PyData := fnP 2 0 m_is_tuple_of
theorem ok_is_tuple_of (T : Tp K w mg)  {f : Addr} {fd : FuncData} (F : Fun K "is_tuple_of" "is_tuple_of" s_is_tuple_of f fd) : FnOk P w K mg base CX0 1 f fd ["thing", "many"] (spP K f_is_tuple_of) := by
  have sc := sc_is_tuple_of
  refine fn_ok (N := N_is_tuple_of) (s := m_is_tuple_of) (k := 0) F sc rfl rfl (fun cdv A outer s0 H E hr => ?_)
  exact (ss_cons (s1_ret (b := false) (s_and (s_isi (t := "tuple") (by simp) (by rfl) T.n_isinstance (by rfl) T.n_tuple (by decide +kernel) (sv 0)) (s_one (s_eq (hu65 hr) (s_callB call_len cd_len (by rfl) T.n_len (by decide +kernel) (sa_cons (sv 0) sa_nil)) (sv 1))))) ss_nil)
theorem d_is_tuple_of (T : Tp K w mg)  {f : Addr} {fd : FuncData} (F : Fun K "is_tuple_of" "is_tuple_of" s_is_tuple_of f fd) (gm : mg "is_tuple_of" = some (.ref f)) : Df P w K mg base "is_tuple_of" 1 ["thing", "many"] (spP K f_is_tuple_of) :=
  ⟨f, fd, gm, F.kp, F.binds (ps := ["thing", "many"]) (fun _ _ _ _ _ _ us hl => match us, hl with | [_, _], _ => rfl), ok_is_tuple_of T  F⟩
/-! is_whole: slots 0 thing 1 low 2 high -/
abbrev s_is_whole : Stmt := topS 12
abbrev N_is_whole : List Str := ["thing", "low", "high"]
theorem sc_is_whole : FnScope N_is_whole ["thing", "low", "high"] (defScope s_is_whole) := ⟨rfl, rfl, rfl, by decide +kernel, rfl, by decide +kernel, by decide +kernel⟩
def m_is_whole : MS := (mSeq (mRet (mAnd (mIsi "int" (mVar 0)) (mAnd (mNot (mIsi "bool" (mVar 0))) (mChain gLe gLe (mVar 1) (mVar 0) (mVar 2))))) mSkip)
def f_is_whole : List PyData → Option PyData := fnP 3 0 m_is_whole
theorem ok_is_whole (T : Tp K w mg)  {f : Addr} {fd : FuncData} (F : Fun K "is_whole" "is_whole" s_is_whole f fd) : FnOk P w K mg base CX0 1 f fd ["thing", "low", "high"] (spP K f_is_whole) := by
  have sc := sc_is_whole
  refine fn_ok (N := N_is_whole) (s := m_is_whole) (k := 0) F sc rfl rfl (fun cdv A outer s0 H E hr => ?_)
  exact (ss_cons (s1_ret (b := false) (s_and (s_isi (t := "int") (by simp) (by rfl) T.n_isinstance (by rfl) T.n_int (by decide +kernel) (sv 0)) (s_and (s_not (s_isi (t := "bool") (by simp) (by rfl) T.n_isinstance (by rfl) T.n_bool (by decide +kernel) (sv 0))) (s_one (s_lele (sv 1) (sv 0) (sv 2)))))) ss_nil)
theorem d_is_whole (T : Tp K w mg)  {f : Addr} {fd : FuncData} (F : Fun K "is_whole" "is_whole" s_is_whole f fd) (gm : mg "is_whole" = some (.ref f)) : Df P w K mg base "is_whole" 1 ["thing", "low", "high"] (spP K f_is_whole) :=
  ⟨f, fd, gm, F.kp, F.binds (ps := ["thing", "low", "high"]) (fun _ _ _ _ _ _ us hl => match us, hl with | [_, _, _], _ => rfl), ok_is_whole T  F⟩
/-! is_cell: slots 0 thing 1 floor -/
abbrev s_is_cell : Stmt := topS 14
abbrev N_is_cell : List Str := ["thing", "floor"]
theorem sc_is_cell : FnScope N_is_cell ["thing", "floor"] (defScope s_is_cell) := ⟨rfl, rfl, rfl, by decide +kernel, rfl, by decide +kernel, by decide +kernel⟩
def m_is_cell : MS := (mSeq (mRet (mAnd (mFn f_is_tuple_of (mCons (mVar 0) (mCons (mC (.int 2)) mNil))) (mAnd (mFn f_is_whole (mCons (mOp gIx (mVar 0) (mC (.int 0))) (mCons (mC (.int 0)) (mCons (mOp gMinus (mOp gIx (mVar 1) (mC (.int 0))) (mC (.int 1))) mNil)))) (mFn f_is_whole (mCons (mOp gIx (mVar 0) (mC (.int 1))) (mCons (mC (.int 0)) (mCons (mOp gMinus (mOp gIx (mVar 1) (mC (.int 1))) (mC (.int 1))) mNil))))))) mSkip)
def f_is_cell : List PyData → Option PyData := fnP 2 0 m_is_cell
theorem ok_is_cell (T : Tp K w mg) (D_is_tuple_of : Df P w K mg base "is_tuple_of" 1 ["thing", "many"] (spP K f_is_tuple_of)) (D_is_whole : Df P w K mg base "is_whole" 1 ["thing", "low", "high"] (spP K f_is_whole)) {f : Addr} {fd : FuncData} (F : Fun K "is_cell" "is_cell" s_is_cell f fd) : FnOk P w K mg base CX0 2 f fd ["thing", "floor"] (spP K f_is_cell) := by
  have sc := sc_is_cell
  refine fn_ok (N := N_is_cell) (s := m_is_cell) (k := 1) F sc rfl rfl (fun cdv A outer s0 H E hr => ?_)
  exact (ss_cons (s1_ret (b := false) (s_and (s_fnD D_is_tuple_of (hr.mono (by decide)) (by rfl) (sa_cons (sv 0) (sa_cons se_int sa_nil))) (s_and (s_fnD D_is_whole (hr.mono (by decide)) (by rfl) (sa_cons (s_ix (sv 0) se_int) (sa_cons se_int (sa_cons (s_sub (s_ix (sv 1) se_int) se_int) sa_nil)))) (s_one (s_fnD D_is_whole (hr.mono (by decide)) (by rfl) (sa_cons (s_ix (sv 0) se_int) (sa_cons se_int (sa_cons (s_sub (s_ix (sv 1) se_int) se_int) sa_nil)))))))) ss_nil)
theorem d_is_cell (T : Tp K w mg) (D_is_tuple_of : Df P w K mg base "is_tuple_of" 1 ["thing", "many"] (spP K f_is_tuple_of)) (D_is_whole : Df P w K mg base "is_whole" 1 ["thing", "low", "high"] (spP K f_is_whole)) {f : Addr} {fd : FuncData} (F : Fun K "is_cell" "is_cell" s_is_cell f fd) (gm : mg "is_cell" = some (.ref f)) : Df P w K mg base "is_cell" 2 ["thing", "floor"] (spP K f_is_cell) :=
  ⟨f, fd, gm, F.kp, F.binds (ps := ["thing", "floor"]) (fun _ _ _ _ _ _ us hl => match us, hl with | [_, _], _ => rfl), ok_is_cell T D_is_tuple_of D_is_whole F⟩
/-! check_awnings: slots 0 floor 1 awnings 2 taken 3 number 4 cell -/
abbrev s_check_awnings : Stmt := topS 18
abbrev N_check_awnings : List Str := ["floor", "awnings", "taken", "number", "cell"]
theorem sc_check_awnings : FnScope N_check_awnings ["floor"] (defScope s_check_awnings) := ⟨rfl, rfl, rfl, by decide +kernel, rfl, by decide +kernel, by decide +kernel⟩
def m_check_awnings : MS := (mSeq (mSet 1 (mOp gIx (mVar 0) (mC (.int 3)))) (mSeq (mIf (tNo (tTru (mIsi "tuple" (mVar 1)))) (mSeq mNever mSkip) mSkip) (mSeq (mOwn 2 (mLst mNil)) (mSeq (mFor (mRng fEnum (mCons (mVar 1) mNil)) (goTup 2 (goCons (goName 3) (goCons (goName 4) goNil))) (mSeq (mIf (tO (tBl (mOp (gEq false) (mVar 3) (mC (.int 8)))) (tO (tNo (tTru (mFn f_is_cell (mCons (mVar 4) (mCons (mVar 0) mNil))))) (tBl (mInL false (mVar 4) (lVar 2))))) (mSeq mNever mSkip) mSkip) (mSeq (mApp 2 (mVar 4)) mSkip))) mSkip))))
def f_check_awnings : List PyData → Option PyData := fnP 1 4 m_check_awnings
theorem ok_check_awnings (T : Tp K w mg) (D_is_cell : Df P w K mg base "is_cell" 2 ["thing", "floor"] (spP K f_is_cell)) {f : Addr} {fd : FuncData} (F : Fun K "check_awnings" "check_awnings" s_check_awnings f fd) : FnOk P w K mg base CX0 3 f fd ["floor"] (spP K f_check_awnings) := by
  have sc := sc_check_awnings
  refine fn_ok (N := N_check_awnings) (s := m_check_awnings) (k := 2) F sc rfl rfl (fun cdv A outer s0 H E hr => ?_)
  exact (ss_cons (s1_set (b := false) (i := 1) sc.nd rfl (Or.inl rfl) (s_ix (sv 0) se_int)) (ss_cons (s1_if (b := false) (t_not (t_tru (s_isi (t := "tuple") (by simp) (by rfl) T.n_isinstance (by rfl) T.n_tuple (by decide +kernel) (sv 1)))) (ss_cons s1_never ss_nil) ss_nil) (ss_cons (s1_own (b := false) (i := 2) sc.nd rfl (Or.inl rfl) (f_lst sa_nil)) (ss_cons (s1_for (b := false) (vs := [3, 4]) PassesOwn.never rfl (si_enum (by rfl) T.n_enumerate (sa_cons (sv 1) sa_nil)) (sg_tup rfl (sgs_cons (sg_name (i := 3) sc.nd rfl (Or.inl rfl) (by decide)) (sgs_cons (sg_name (i := 4) sc.nd rfl (Or.inl rfl) (by decide)) sgs_nil))) (ss_cons (s1_if (b := false) (t_w (w_or (t_eq (hu65 hr) (sv 3) (s_gint (by rfl) T.c_MOST_AWNINGS)) (w_or (t_not (t_tru (s_fnD D_is_cell (hr.mono (by decide)) (by rfl) (sa_cons (sv 4) (sa_cons (sv 0) sa_nil))))) (w_or1 (t_inL (hu65 hr) (sv 4) (lv 2)))))) (ss_cons s1_never ss_nil) ss_nil) (ss_cons (s1_app (b := false) (i := 2) (pe_bm PySem.F.plainAttrs_list PySem.F.slot_list_append PySem.F.type_list_append mt_append (pv 2) (pa_cons (sv 4) pa_nil))) ss_nil))) ss_nil))))
theorem d_check_awnings (T : Tp K w mg) (D_is_cell : Df P w K mg base "is_cell" 2 ["thing", "floor"] (spP K f_is_cell)) {f : Addr} {fd : FuncData} (F : Fun K "check_awnings" "check_awnings" s_check_awnings f fd) (gm : mg "check_awnings" = some (.ref f)) : Df P w K mg base "check_awnings" 3 ["floor"] (spP K f_check_awnings) :=
  ⟨f, fd, gm, F.kp, F.binds (ps := ["floor"]) (fun _ _ _ _ _ _ us hl => match us, hl with | [_], _ => rfl), ok_check_awnings T D_is_cell F⟩
/-! is_post: slots 0 thing 1 floor -/
abbrev s_is_post : Stmt := topS 15
abbrev N_is_post : List Str := ["thing", "floor"]
theorem sc_is_post : FnScope N_is_post ["thing", "floor"] (defScope s_is_post) := ⟨rfl, rfl, rfl, by decide +kernel, rfl, by decide +kernel, by decide +kernel⟩
def m_is_post : MS := (mSeq (mRet (mAnd (mFn f_is_tuple_of (mCons (mVar 0) (mCons (mC (.int 3)) mNil))) (mAnd (mFn f_is_cell (mCons (mSl (mVar 0) oNone (oSome (mC (.int 2)))) (mCons (mVar 1) mNil))) (mFn f_is_whole (mCons (mOp gIx (mVar 0) (mC (.int 2))) (mCons (mC (.int 1)) (mCons (mC (.int 4)) mNil))))))) mSkip)
def f_is_post : List PyData → Option PyData := fnP 2 0 m_is_post
theorem ok_is_post (T : Tp K w mg) (D_is_cell : Df P w K mg base "is_cell" 2 ["thing", "floor"] (spP K f_is_cell)) (D_is_tuple_of : Df P w K mg base "is_tuple_of" 1 ["thing", "many"] (spP K f_is_tuple_of)) (D_is_whole : Df P w K mg base "is_whole" 1 ["thing", "low", "high"] (spP K f_is_whole)) {f : Addr} {fd : FuncData} (F : Fun K "is_post" "is_post" s_is_post f fd) : FnOk P w K mg base CX0 3 f fd ["thing", "floor"] (spP K f_is_post) := by
  have sc := sc_is_post
  refine fn_ok (N := N_is_post) (s := m_is_post) (k := 2) F sc rfl rfl (fun cdv A outer s0 H E hr => ?_)
  exact (ss_cons (s1_ret (b := false) (s_and (s_fnD D_is_tuple_of (hr.mono (by decide)) (by rfl) (sa_cons (sv 0) (sa_cons se_int sa_nil))) (s_and (s_fnD D_is_cell (hr.mono (by decide)) (by rfl) (sa_cons (s_sl (sv 0) so_none (so_some se_int)) (sa_cons (sv 1) sa_nil))) (s_one (s_fnD D_is_whole (hr.mono (by decide)) (by rfl) (sa_cons (s_ix (sv 0) se_int) (sa_cons se_int (sa_cons (s_gint (by rfl) T.c_HIGHEST_POST) sa_nil)))))))) ss_nil)
theorem d_is_post (T : Tp K w mg) (D_is_cell : Df P w K mg base "is_cell" 2 ["thing", "floor"] (spP K f_is_cell)) (D_is_tuple_of : Df P w K mg base "is_tuple_of" 1 ["thing", "many"] (spP K f_is_tuple_of)) (D_is_whole : Df P w K mg base "is_whole" 1 ["thing", "low", "high"] (spP K f_is_whole)) {f : Addr} {fd : FuncData} (F : Fun K "is_post" "is_post" s_is_post f fd) (gm : mg "is_post" = some (.ref f)) : Df P w K mg base "is_post" 3 ["thing", "floor"] (spP K f_is_post) :=
  ⟨f, fd, gm, F.kp, F.binds (ps := ["thing", "floor"]) (fun _ _ _ _ _ _ us hl => match us, hl with | [_, _], _ => rfl), ok_is_post T D_is_cell D_is_tuple_of D_is_whole F⟩
/-! check_posts: slots 0 floor 1 posts 2 taken 3 number 4 post -/
abbrev s_check_posts : Stmt := topS 17
abbrev N_check_posts : List Str := ["floor", "posts", "taken", "number", "post"]
theorem sc_check_posts : FnScope N_check_posts ["floor"] (defScope s_check_posts) := ⟨rfl, rfl, rfl, by decide +kernel, rfl, by decide +kernel, by decide +kernel⟩
def m_check_posts : MS := (mSeq (mSet 1 (mOp gIx (mVar 0) (mC (.int 2)))) (mSeq (mIf (tNo (tTru (mIsi "tuple" (mVar 1)))) (mSeq mNever mSkip) mSkip) (mSeq (mOwn 2 (mLst mNil)) (mSeq (mFor (mRng fEnum (mCons (mVar 1) mNil)) (goTup 2 (goCons (goName 3) (goCons (goName 4) goNil))) (mSeq (mIf (tO (tBl (mOp (gEq false) (mVar 3) (mC (.int 4)))) (tO (tNo (tTru (mFn f_is_post (mCons (mVar 4) (mCons (mVar 0) mNil))))) (tBl (mInL false (mSl (mVar 4) oNone (oSome (mC (.int 2)))) (lVar 2))))) (mSeq mNever mSkip) mSkip) (mSeq (mApp 2 (mSl (mVar 4) oNone (oSome (mC (.int 2))))) mSkip))) mSkip))))
def f_check_posts : List PyData → Option PyData := fnP 1 4 m_check_posts
theorem ok_check_posts (T : Tp K w mg) (D_is_post : Df P w K mg base "is_post" 3 ["thing", "floor"] (spP K f_is_post)) {f : Addr} {fd : FuncData} (F : Fun K "check_posts" "check_posts" s_check_posts f fd) : FnOk P w K mg base CX0 4 f fd ["floor"] (spP K f_check_posts) := by
  have sc := sc_check_posts
  refine fn_ok (N := N_check_posts) (s := m_check_posts) (k := 3) F sc rfl rfl (fun cdv A outer s0 H E hr => ?_)
  exact (ss_cons (s1_set (b := false) (i := 1) sc.nd rfl (Or.inl rfl) (s_ix (sv 0) se_int)) (ss_cons (s1_if (b := false) (t_not (t_tru (s_isi (t := "tuple") (by simp) (by rfl) T.n_isinstance (by rfl) T.n_tuple (by decide +kernel) (sv 1)))) (ss_cons s1_never ss_nil) ss_nil) (ss_cons (s1_own (b := false) (i := 2) sc.nd rfl (Or.inl rfl) (f_lst sa_nil)) (ss_cons (s1_for (b := false) (vs := [3, 4]) PassesOwn.never rfl (si_enum (by rfl) T.n_enumerate (sa_cons (sv 1) sa_nil)) (sg_tup rfl (sgs_cons (sg_name (i := 3) sc.nd rfl (Or.inl rfl) (by decide)) (sgs_cons (sg_name (i := 4) sc.nd rfl (Or.inl rfl) (by decide)) sgs_nil))) (ss_cons (s1_if (b := false) (t_w (w_or (t_eq (hu65 hr) (sv 3) (s_gint (by rfl) T.c_MOST_POSTS)) (w_or (t_not (t_tru (s_fnD D_is_post (hr.mono (by decide)) (by rfl) (sa_cons (sv 4) (sa_cons (sv 0) sa_nil))))) (w_or1 (t_inL (hu65 hr) (s_sl (sv 4) so_none (so_some se_int)) (lv 2)))))) (ss_cons s1_never ss_nil) ss_nil) (ss_cons (s1_app (b := false) (i := 2) (pe_bm PySem.F.plainAttrs_list PySem.F.slot_list_append PySem.F.type_list_append mt_append (pv 2) (pa_cons (s_sl (sv 4) so_none (so_some se_int)) pa_nil))) ss_nil))) ss_nil))))
theorem d_check_posts (T : Tp K w mg) (D_is_post : Df P w K mg base "is_post" 3 ["thing", "floor"] (spP K f_is_post)) {f : Addr} {fd : FuncData} (F : Fun K "check_posts" "check_posts" s_check_posts f fd) (gm : mg "check_posts" = some (.ref f)) : Df P w K mg base "check_posts" 4 ["floor"] (spP K f_check_posts) :=
  ⟨f, fd, gm, F.kp, F.binds (ps := ["floor"]) (fun _ _ _ _ _ _ us hl => match us, hl with | [_], _ => rfl), ok_check_posts T D_is_post F⟩
/-! check_floor: slots 0 floor -/
abbrev s_check_floor : Stmt := topS 16
abbrev N_check_floor : List Str := ["floor"]
theorem sc_check_floor : FnScope N_check_floor ["floor"] (defScope s_check_floor) := ⟨rfl, rfl, rfl, by decide +kernel, rfl, by decide +kernel, by decide +kernel⟩
def m_check_floor : MS := (mSeq (mIf (tNo (tTru (mFn f_is_tuple_of (mCons (mVar 0) (mCons (mC (.int 4)) mNil))))) (mSeq mNever mSkip) mSkip) (mSeq (mIf (tNo (tTru (mFn f_is_whole (mCons (mOp gIx (mVar 0) (mC (.int 0))) (mCons (mC (.int 1)) (mCons (mC (.int 5)) mNil)))))) (mSeq mNever mSkip) mSkip) (mSeq (mIf (tNo (tTru (mFn f_is_whole (mCons (mOp gIx (mVar 0) (mC (.int 1))) (mCons (mC (.int 1)) (mCons (mC (.int 5)) mNil)))))) (mSeq mNever mSkip) mSkip) (mSeq (mDrop (mFn f_check_posts (mCons (mVar 0) mNil))) (mSeq (mDrop (mFn f_check_awnings (mCons (mVar 0) mNil))) mSkip)))))
def f_check_floor : List PyData → Option PyData := fnP 1 0 m_check_floor
theorem ok_check_floor (T : Tp K w mg) (D_check_awnings : Df P w K mg base "check_awnings" 3 ["floor"] (spP K f_check_awnings)) (D_check_posts : Df P w K mg base "check_posts" 4 ["floor"] (spP K f_check_posts)) (D_is_tuple_of : Df P w K mg base "is_tuple_of" 1 ["thing", "many"] (spP K f_is_tuple_of)) (D_is_whole : Df P w K mg base "is_whole" 1 ["thing", "low", "high"] (spP K f_is_whole)) {f : Addr} {fd : FuncData} (F : Fun K "check_floor" "check_floor" s_check_floor f fd) : FnOk P w K mg base CX0 5 f fd ["floor"] (spP K f_check_floor) := by
  have sc := sc_check_floor
  refine fn_ok (N := N_check_floor) (s := m_check_floor) (k := 4) F sc rfl rfl (fun cdv A outer s0 H E hr => ?_)
  exact (ss_cons (s1_if (b := false) (t_not (t_tru (s_fnD D_is_tuple_of (hr.mono (by decide)) (by rfl) (sa_cons (sv 0) (sa_cons se_int sa_nil))))) (ss_cons s1_never ss_nil) ss_nil) (ss_cons (s1_if (b := false) (t_not (t_tru (s_fnD D_is_whole (hr.mono (by decide)) (by rfl) (sa_cons (s_ix (sv 0) se_int) (sa_cons se_int (sa_cons (s_gint (by rfl) T.c_LONGEST_SIDE) sa_nil)))))) (ss_cons s1_never ss_nil) ss_nil) (ss_cons (s1_if (b := false) (t_not (t_tru (s_fnD D_is_whole (hr.mono (by decide)) (by rfl) (sa_cons (s_ix (sv 0) se_int) (sa_cons se_int (sa_cons (s_gint (by rfl) T.c_LONGEST_SIDE) sa_nil)))))) (ss_cons s1_never ss_nil) ss_nil) (ss_cons (s1_expr (b := false) (s_fnD D_check_posts (hr.mono (by decide)) (by rfl) (sa_cons (sv 0) sa_nil))) (ss_cons (s1_expr (b := false) (s_fnD D_check_awnings (hr.mono (by decide)) (by rfl) (sa_cons (sv 0) sa_nil))) ss_nil)))))
theorem d_check_floor (T : Tp K w mg) (D_check_awnings : Df P w K mg base "check_awnings" 3 ["floor"] (spP K f_check_awnings)) (D_check_posts : Df P w K mg base "check_posts" 4 ["floor"] (spP K f_check_posts)) (D_is_tuple_of : Df P w K mg base "is_tuple_of" 1 ["thing", "many"] (spP K f_is_tuple_of)) (D_is_whole : Df P w K mg base "is_whole" 1 ["thing", "low", "high"] (spP K f_is_whole)) {f : Addr} {fd : FuncData} (F : Fun K "check_floor" "check_floor" s_check_floor f fd) (gm : mg "check_floor" = some (.ref f)) : Df P w K mg base "check_floor" 5 ["floor"] (spP K f_check_floor) :=
  ⟨f, fd, gm, F.kp, F.binds (ps := ["floor"]) (fun _ _ _ _ _ _ us hl => match us, hl with | [_], _ => rfl), ok_check_floor T D_check_awnings D_check_posts D_is_tuple_of D_is_whole F⟩
/-! check_sun: slots 0 sun 1 number 2 sign -/
abbrev s_check_sun : Stmt := topS 19
abbrev N_check_sun : List Str := ["sun", "number", "sign"]
theorem sc_check_sun : FnScope N_check_sun ["sun"] (defScope s_check_sun) := ⟨rfl, rfl, rfl, by decide +kernel, rfl, by decide +kernel, by decide +kernel⟩
def m_check_sun : MS := (mSeq (mIf (tO (tNo (tTru (mIsi "str" (mVar 0)))) (tBl (mOp (gEq false) (mCall fLen (mCons (mVar 0) mNil)) (mC (.int 0))))) (mSeq mNever mSkip) mSkip) (mSeq (mFor (mRng fEnum (mCons (mVar 0) mNil)) (goTup 2 (goCons (goName 1) (goCons (goName 2) goNil))) (mSeq (mIf (tO (tBl (mOp (gEq false) (mVar 1) (mC (.int 6)))) (tBl (mOp (gIn true) (mVar 2) (mC (.str "neswo"))))) (mSeq mNever mSkip) mSkip) mSkip)) mSkip))
def f_check_sun : List PyData → Option PyData := fnP 1 2 m_check_sun
theorem ok_check_sun (T : Tp K w mg)  {f : Addr} {fd : FuncData} (F : Fun K "check_sun" "check_sun" s_check_sun f fd) : FnOk P w K mg base CX0 1 f fd ["sun"] (spP K f_check_sun) := by
  have sc := sc_check_sun
  refine fn_ok (N := N_check_sun) (s := m_check_sun) (k := 0) F sc rfl rfl (fun cdv A outer s0 H E hr => ?_)
  exact (ss_cons (s1_if (b := false) (t_w (w_or (t_not (t_tru (s_isi (t := "str") (by simp) (by rfl) T.n_isinstance (by rfl) T.n_str (by decide +kernel) (sv 0)))) (w_or1 (t_eq (hu65 hr) (s_callB call_len cd_len (by rfl) T.n_len (by decide +kernel) (sa_cons (sv 0) sa_nil)) se_int)))) (ss_cons s1_never ss_nil) ss_nil) (ss_cons (s1_for (b := false) (vs := [1, 2]) PassesOwn.never rfl (si_enum (by rfl) T.n_enumerate (sa_cons (sv 0) sa_nil)) (sg_tup rfl (sgs_cons (sg_name (i := 1) sc.nd rfl (Or.inl rfl) (by decide)) (sgs_cons (sg_name (i := 2) sc.nd rfl (Or.inl rfl) (by decide)) sgs_nil))) (ss_cons (s1_if (b := false) (t_w (w_or (t_eq (hu65 hr) (sv 1) (s_gint (by rfl) T.c_MOST_SIGNS)) (w_or1 (t_notin (hu65 hr) (sv 2) (s_gstr (by rfl) T.c_SIGNS))))) (ss_cons s1_never ss_nil) ss_nil) ss_nil)) ss_nil))
theorem d_check_sun (T : Tp K w mg)  {f : Addr} {fd : FuncData} (F : Fun K "check_sun" "check_sun" s_check_sun f fd) (gm : mg "check_sun" = some (.ref f)) : Df P w K mg base "check_sun" 1 ["sun"] (spP K f_check_sun) :=
  ⟨f, fd, gm, F.kp, F.binds (ps := ["sun"]) (fun _ _ _ _ _ _ us hl => match us, hl with | [_], _ => rfl), ok_check_sun T  F⟩
/-! awning_shade: slots 0 awnings 1 sign 2 down 3 right 4 row 5 column -/
abbrev s_awning_shade : Stmt := topS 24
abbrev N_awning_shade : List Str := ["awnings", "sign", "down", "right", "row", "column"]
theorem sc_awning_shade : FnScope N_awning_shade ["awnings", "sign"] (defScope s_awning_shade) := ⟨rfl, rfl, rfl, by decide +kernel, rfl, by decide +kernel, by decide +kernel⟩
def m_awning_shade : MS := (mSeq (mTo (mTab tab_STEPS (mVar 1)) (goTup 2 (goCons (goName 2) (goCons (goName 3) goNil)))) (mSeq (mRet (mF (mLcP [4, 5] [] (mAs asT (mVar 0)) (goTup 2 (goCons (goName 4) (goCons (goName 5) goNil))) tYesM (mTup (mCons (mOp gAdd (mVar 4) (mVar 2)) (mCons (mOp gAdd (mVar 5) (mVar 3)) mNil)))))) mSkip))
def f_awning_shade : List PyData → Option PyData := fnP 2 4 m_awning_shade
theorem ok_awning_shade (T : Tp K w mg)  {f : Addr} {fd : FuncData} (F : Fun K "awning_shade" "awning_shade" s_awning_shade f fd) : FnOk P w K mg base CX0 1 f fd ["awnings", "sign"] (spP K f_awning_shade) := by
  have sc := sc_awning_shade
  refine fn_ok (N := N_awning_shade) (s := m_awning_shade) (k := 0) F sc rfl rfl (fun cdv A outer s0 H E hr => ?_)
  exact (ss_cons (s1_to (b := false) (vs := [2, 3]) (s_tab T.t_STEPS (by rfl) (sv 1)) (sg_tup rfl (sgs_cons (sg_name (i := 2) sc.nd rfl (Or.inr rfl) (by decide)) (sgs_cons (sg_name (i := 3) sc.nd rfl (Or.inr rfl) (by decide)) sgs_nil)))) (ss_cons (s1_ret (b := false) (s_ofF (f_lcP rfl sc.nd (si_S (b := false) (si_tup (sv 0))) (blkOk_by (own := [("row", 4), ("column", 5)]) (N := N_awning_shade) (sc := defScope s_awning_shade) (by decide +kernel)) (fun _ _ _ _ _ => (sg_tup rfl (sgs_cons (sg_name (i := 4) sc.nd rfl (Or.inl rfl) (by decide)) (sgs_cons (sg_name (i := 5) sc.nd rfl (Or.inl rfl) (by decide)) sgs_nil)))) (fun _ _ _ _ _ => sts_nil) (fun _ _ _ _ _ => (s_tup (sa_cons (s_add (sv 4) (sv 2)) (sa_cons (s_add (sv 5) (sv 3)) sa_nil))))))) ss_nil))
theorem d_awning_shade (T : Tp K w mg)  {f : Addr} {fd : FuncData} (F : Fun K "awning_shade" "awning_shade" s_awning_shade f fd) (gm : mg "awning_shade" = some (.ref f)) : Df P w K mg base "awning_shade" 1 ["awnings", "sign"] (spP K f_awning_shade) :=
  ⟨f, fd, gm, F.kp, F.binds (ps := ["awnings", "sign"]) (fun _ _ _ _ _ _ us hl => match us, hl with | [_, _], _ => rfl), ok_awning_shade T  F⟩
/-! post_shade: slots 0 posts 1 sign 2 down 3 right 4 row 5 column 6 high 7 far -/
abbrev s_post_shade : Stmt := topS 23
abbrev N_post_shade : List Str := ["posts", "sign", "down", "right", "row", "column", "high", "far"]
theorem sc_post_shade : FnScope N_post_shade ["posts", "sign"] (defScope s_post_shade) := ⟨rfl, rfl, rfl, by decide +kernel, rfl, by decide +kernel, by decide +kernel⟩
def m_post_shade : MS := (mSeq (mIf (tBl (mOp (gEq false) (mVar 1) (mC (.str "o")))) (mSeq (mRet (mF (mLst mNil))) mSkip) mSkip) (mSeq (mTo (mTab tab_STEPS (mVar 1)) (goTup 2 (goCons (goName 2) (goCons (goName 3) goNil)))) (mSeq (mRet (mF (mLc2 [4, 5, 6, 7] [7] (mAs asT (mVar 0)) (goTup 3 (goCons (goName 4) (goCons (goName 5) (goCons (goName 6) goNil)))) tYesM (mRng fRng2 (mCons (mC (.int 1)) (mCons (mOp gAdd (mVar 6) (mC (.int 1))) mNil))) (goName 7) tYesM (mTup (mCons (mOp gAdd (mVar 4) (mOp gMulI (mVar 2) (mVar 7))) (mCons (mOp gAdd (mVar 5) (mOp gMulI (mVar 3) (mVar 7))) mNil)))))) mSkip)))
def f_post_shade : List PyData → Option PyData := fnP 2 6 m_post_shade
theorem ok_post_shade (T : Tp K w mg)  {f : Addr} {fd : FuncData} (F : Fun K "post_shade" "post_shade" s_post_shade f fd) : FnOk P w K mg base CX0 1 f fd ["posts", "sign"] (spP K f_post_shade) := by
  have sc := sc_post_shade
  refine fn_ok (N := N_post_shade) (s := m_post_shade) (k := 0) F sc rfl rfl (fun cdv A outer s0 H E hr => ?_)
  exact (ss_cons (s1_if (b := false) (t_eq (hu65 hr) (sv 1) se_str) (ss_cons (s1_ret (b := false) (s_ofF (f_lst sa_nil))) ss_nil) ss_nil) (ss_cons (s1_to (b := false) (vs := [2, 3]) (s_tab T.t_STEPS (by rfl) (sv 1)) (sg_tup rfl (sgs_cons (sg_name (i := 2) sc.nd rfl (Or.inr rfl) (by decide)) (sgs_cons (sg_name (i := 3) sc.nd rfl (Or.inr rfl) (by decide)) sgs_nil)))) (ss_cons (s1_ret (b := false) (s_ofF (f_lc2 rfl sc.nd (si_tup (sv 0)) (blkOk_by (own := [("row", 4), ("column", 5), ("high", 6), ("far", 7)]) (N := N_post_shade) (sc := defScope s_post_shade) (by decide +kernel)) (by decide) (fun _ _ _ _ _ => (sg_tup rfl (sgs_cons (sg_name (i := 4) sc.nd rfl (Or.inl rfl) (by decide)) (sgs_cons (sg_name (i := 5) sc.nd rfl (Or.inl rfl) (by decide)) (sgs_cons (sg_name (i := 6) sc.nd rfl (Or.inl rfl) (by decide)) sgs_nil))))) (fun _ _ _ _ _ => sts_nil) (fun _ _ _ _ _ => (si_rng2 (by rfl) T.n_range (sa_cons se_int (sa_cons (s_add (sv 6) se_int) sa_nil)))) (fun _ _ _ _ _ => (sg_name (i := 7) sc.nd rfl (Or.inl rfl) (by decide))) (fun _ _ _ _ _ => sts_nil) (fun _ _ _ _ _ => (s_tup (sa_cons (s_add (sv 4) (s_mul (sv 2) (sv 7))) (sa_cons (s_add (sv 5) (s_mul (sv 3) (sv 7))) sa_nil))))))) ss_nil)))
theorem d_post_shade (T : Tp K w mg)  {f : Addr} {fd : FuncData} (F : Fun K "post_shade" "post_shade" s_post_shade f fd) (gm : mg "post_shade" = some (.ref f)) : Df P w K mg base "post_shade" 1 ["posts", "sign"] (spP K f_post_shade) :=
  ⟨f, fd, gm, F.kp, F.binds (ps := ["posts", "sign"]) (fun _ _ _ _ _ _ us hl => match us, hl with | [_, _], _ => rfl), ok_post_shade T  F⟩
/-! shaded: slots 0 floor 1 sign 2 rows 3 columns 4 posts 5 awnings 6 cells 7 row 8 column -/
abbrev s_shaded : Stmt := topS 25
abbrev N_shaded : List Str := ["floor", "sign", "rows", "columns", "posts", "awnings", "cells", "row", "column"]
theorem sc_shaded : FnScope N_shaded ["floor", "sign"] (defScope s_shaded) := ⟨rfl, rfl, rfl, by decide +kernel, rfl, by decide +kernel, by decide +kernel⟩
def m_shaded : MS := (mSeq (mTo (mVar 0) (goTup 4 (goCons (goName 2) (goCons (goName 3) (goCons (goName 4) (goCons (goName 5) goNil)))))) (mSeq (mSet 6 (mOp gAdd (mFn f_post_shade (mCons (mVar 4) (mCons (mVar 1) mNil))) (mFn f_awning_shade (mCons (mVar 5) (mCons (mVar 1) mNil))))) (mSeq (mRet (mSortZ (mSc [7, 8] (mAs asL (mVar 6)) (goTup 2 (goCons (goName 7) (goCons (goName 8) goNil))) (tAn (tBl (mChain gLe gLt (mC (.int 0)) (mVar 7) (mVar 2))) (tBl (mChain gLe gLt (mC (.int 0)) (mVar 8) (mVar 3)))) (mTup (mCons (mVar 7) (mCons (mVar 8) mNil)))))) mSkip)))
def f_shaded : List PyData → Option PyData := fnP 2 7 m_shaded
theorem ok_shaded (T : Tp K w mg) (D_awning_shade : Df P w K mg base "awning_shade" 1 ["awnings", "sign"] (spP K f_awning_shade)) (D_post_shade : Df P w K mg base "post_shade" 1 ["posts", "sign"] (spP K f_post_shade)) {f : Addr} {fd : FuncData} (F : Fun K "shaded" "shaded" s_shaded f fd) : FnOk P w K mg base CX0 2 f fd ["floor", "sign"] (spP K f_shaded) := by
  have sc := sc_shaded
  refine fn_ok (N := N_shaded) (s := m_shaded) (k := 1) F sc rfl rfl (fun cdv A outer s0 H E hr => ?_)
  exact (ss_cons (s1_to (b := false) (vs := [2, 3, 4, 5]) (sv 0) (sg_tup rfl (sgs_cons (sg_name (i := 2) sc.nd rfl (Or.inr rfl) (by decide)) (sgs_cons (sg_name (i := 3) sc.nd rfl (Or.inr rfl) (by decide)) (sgs_cons (sg_name (i := 4) sc.nd rfl (Or.inl rfl) (by decide)) (sgs_cons (sg_name (i := 5) sc.nd rfl (Or.inl rfl) (by decide)) sgs_nil)))))) (ss_cons (s1_set (b := false) (i := 6) sc.nd rfl (Or.inl rfl) (s_add (s_fnD D_post_shade (hr.mono (by decide)) (by rfl) (sa_cons (sv 4) (sa_cons (sv 1) sa_nil))) (s_fnD D_awning_shade (hr.mono (by decide)) (by rfl) (sa_cons (sv 5) (sa_cons (sv 1) sa_nil))))) (ss_cons (s1_ret (b := false) (s_sortedZ rfl (by rfl) T.n_sorted (z_sc (own := [("row", 7), ("column", 8)]) rfl (hu65 hr) sc.nd (si_list (sv 6)) (blkOk_by (own := [("row", 7), ("column", 8)]) (N := N_shaded) (sc := defScope s_shaded) (by decide +kernel)) (fun _ _ _ _ _ => (sg_tup rfl (sgs_cons (sg_name (i := 7) sc.nd rfl (Or.inl rfl) (by decide)) (sgs_cons (sg_name (i := 8) sc.nd rfl (Or.inl rfl) (by decide)) sgs_nil)))) (fun _ _ _ _ _ => (sts_one (t_w (w_and (t_lelt se_int (sv 7) (sv 2)) (w_and1 (t_lelt se_int (sv 8) (sv 3))))))) (fun _ _ _ _ _ => (s_tup (sa_cons (sv 7) (sa_cons (sv 8) sa_nil))))))) ss_nil)))
theorem d_shaded (T : Tp K w mg) (D_awning_shade : Df P w K mg base "awning_shade" 1 ["awnings", "sign"] (spP K f_awning_shade)) (D_post_shade : Df P w K mg base "post_shade" 1 ["posts", "sign"] (spP K f_post_shade)) {f : Addr} {fd : FuncData} (F : Fun K "shaded" "shaded" s_shaded f fd) (gm : mg "shaded" = some (.ref f)) : Df P w K mg base "shaded" 2 ["floor", "sign"] (spP K f_shaded) :=
  ⟨f, fd, gm, F.kp, F.binds (ps := ["floor", "sign"]) (fun _ _ _ _ _ _ us hl => match us, hl with | [_, _], _ => rfl), ok_shaded T D_awning_shade D_post_shade F⟩
/-! parted: slots 0 floor 1 other 2 sun 3 beat 4 sign 5 alone -/
abbrev s_parted : Stmt := topS 27
abbrev N_parted : List Str := ["floor", "other", "sun", "beat", "sign", "alone"]
theorem sc_parted : FnScope N_parted ["floor", "other", "sun"] (defScope s_parted) := ⟨rfl, rfl, rfl, by decide +kernel, rfl, by decide +kernel, by decide +kernel⟩
def m_parted : MS := (mSeq (mDrop (mFn f_check_floor (mCons (mVar 0) mNil))) (mSeq (mDrop (mFn f_check_floor (mCons (mVar 1) mNil))) (mSeq (mDrop (mFn f_check_sun (mCons (mVar 2) mNil))) (mSeq (mFor (mRng fEnum (mCons (mVar 2) mNil)) (goTup 2 (goCons (goName 3) (goCons (goName 4) goNil))) (mSeq (mSet 5 (mSortZ (mXor (mSetOf (mFn f_shaded (mCons (mVar 0) (mCons (mVar 4) mNil)))) (mSetOf (mFn f_shaded (mCons (mVar 1) (mCons (mVar 4) mNil))))))) (mSeq (mIf (tTru (mVar 5)) (mSeq (mRet (mTup (mCons (mVar 3) (mCons (mOp gIx (mVar 5) (mC (.int 0))) mNil)))) mSkip) mSkip) mSkip))) (mSeq (mRet (mC .none)) mSkip)))))
def f_parted : List PyData → Option PyData := fnP 3 3 m_parted
theorem ok_parted (T : Tp K w mg) (D_check_floor : Df P w K mg base "check_floor" 5 ["floor"] (spP K f_check_floor)) (D_check_sun : Df P w K mg base "check_sun" 1 ["sun"] (spP K f_check_sun)) (D_shaded : Df P w K mg base "shaded" 2 ["floor", "sign"] (spP K f_shaded)) {f : Addr} {fd : FuncData} (F : Fun K "parted" "parted" s_parted f fd) : FnOk P w K mg base CX0 6 f fd ["floor", "other", "sun"] (spP K f_parted) := by
  have sc := sc_parted
  refine fn_ok (N := N_parted) (s := m_parted) (k := 5) F sc rfl rfl (fun cdv A outer s0 H E hr => ?_)
  exact (ss_cons (s1_expr (b := false) (s_fnD D_check_floor (hr.mono (by decide)) (by rfl) (sa_cons (sv 0) sa_nil))) (ss_cons (s1_expr (b := false) (s_fnD D_check_floor (hr.mono (by decide)) (by rfl) (sa_cons (sv 1) sa_nil))) (ss_cons (s1_expr (b := false) (s_fnD D_check_sun (hr.mono (by decide)) (by rfl) (sa_cons (sv 2) sa_nil))) (ss_cons (s1_for (b := false) (vs := [3, 4]) PassesOwn.never rfl (si_enum (by rfl) T.n_enumerate (sa_cons (sv 2) sa_nil)) (sg_tup rfl (sgs_cons (sg_name (i := 3) sc.nd rfl (Or.inl rfl) (by decide)) (sgs_cons (sg_name (i := 4) sc.nd rfl (Or.inl rfl) (by decide)) sgs_nil))) (ss_cons (s1_set (b := false) (i := 5) sc.nd rfl (Or.inl rfl) (s_sortedX rfl (by rfl) T.n_sorted (x_xor (hu65 hr) (z_setOf rfl (hu65 hr) (by rfl) T.n_set (s_fnD D_shaded (hr.mono (by decide)) (by rfl) (sa_cons (sv 0) (sa_cons (sv 4) sa_nil)))) (z_setOf rfl (hu65 hr) (by rfl) T.n_set (s_fnD D_shaded (hr.mono (by decide)) (by rfl) (sa_cons (sv 1) (sa_cons (sv 4) sa_nil))))))) (ss_cons (s1_if (b := false) (t_tru (sv 5)) (ss_cons (s1_ret (b := false) (s_tup (sa_cons (sv 3) (sa_cons (s_ix (sv 5) se_int) sa_nil)))) ss_nil) ss_nil) ss_nil))) (ss_cons (s1_ret (b := false) se_non) ss_nil)))))
theorem d_parted (T : Tp K w mg) (D_check_floor : Df P w K mg base "check_floor" 5 ["floor"] (spP K f_check_floor)) (D_check_sun : Df P w K mg base "check_sun" 1 ["sun"] (spP K f_check_sun)) (D_shaded : Df P w K mg base "shaded" 2 ["floor", "sign"] (spP K f_shaded)) {f : Addr} {fd : FuncData} (F : Fun K "parted" "parted" s_parted f fd) (gm : mg "parted" = some (.ref f)) : Df P w K mg base "parted" 6 ["floor", "other", "sun"] (spP K f_parted) :=
  ⟨f, fd, gm, F.kp, F.binds (ps := ["floor", "other", "sun"]) (fun _ _ _ _ _ _ us hl => match us, hl with | [_, _, _], _ => rfl), ok_parted T D_check_floor D_check_sun D_shaded F⟩
/-! check_beats: slots 0 many -/
abbrev s_check_beats : Stmt := topS 20
abbrev N_check_beats : List Str := ["many"]
theorem sc_check_beats : FnScope N_check_beats ["many"] (defScope s_check_beats) := ⟨rfl, rfl, rfl, by decide +kernel, rfl, by decide +kernel, by decide +kernel⟩
def m_check_beats : MS := (mSeq (mIf (tNo (tTru (mFn f_is_whole (mCons (mVar 0) (mCons (mC (.int 0)) (mCons (mOp gPow (mC (.int 10)) (mC (.int 18))) mNil)))))) (mSeq mNever mSkip) mSkip) mSkip)
def f_check_beats : List PyData → Option PyData := fnP 1 0 m_check_beats
theorem ok_check_beats (T : Tp K w mg) (D_is_whole : Df P w K mg base "is_whole" 1 ["thing", "low", "high"] (spP K f_is_whole)) {f : Addr} {fd : FuncData} (F : Fun K "check_beats" "check_beats" s_check_beats f fd) : FnOk P w K mg base CX0 2 f fd ["many"] (spP K f_check_beats) := by
  have sc := sc_check_beats
  refine fn_ok (N := N_check_beats) (s := m_check_beats) (k := 1) F sc rfl rfl (fun cdv A outer s0 H E hr => ?_)
  exact (ss_cons (s1_if (b := false) (t_not (t_tru (s_fnD D_is_whole (hr.mono (by decide)) (by rfl) (sa_cons (sv 0) (sa_cons se_int (sa_cons (s_pow se_int se_int) sa_nil)))))) (ss_cons s1_never ss_nil) ss_nil) ss_nil)
theorem d_check_beats (T : Tp K w mg) (D_is_whole : Df P w K mg base "is_whole" 1 ["thing", "low", "high"] (spP K f_is_whole)) {f : Addr} {fd : FuncData} (F : Fun K "check_beats" "check_beats" s_check_beats f fd) (gm : mg "check_beats" = some (.ref f)) : Df P w K mg base "check_beats" 2 ["many"] (spP K f_check_beats) :=
  ⟨f, fd, gm, F.kp, F.binds (ps := ["many"]) (fun _ _ _ _ _ _ us hl => match us, hl with | [_], _ => rfl), ok_check_beats T D_is_whole F⟩
/-! shade: slots 0 floor 1 sun 2 beat -/
abbrev s_shade : Stmt := topS 26
abbrev N_shade : List Str := ["floor", "sun", "beat"]
theorem sc_shade : FnScope N_shade ["floor", "sun", "beat"] (defScope s_shade) := ⟨rfl, rfl, rfl, by decide +kernel, rfl, by decide +kernel, by decide +kernel⟩
def m_shade : MS := (mSeq (mDrop (mFn f_check_floor (mCons (mVar 0) mNil))) (mSeq (mDrop (mFn f_check_sun (mCons (mVar 1) mNil))) (mSeq (mDrop (mFn f_check_beats (mCons (mVar 2) mNil))) (mSeq (mRet (mFn f_shaded (mCons (mVar 0) (mCons (mOp gIx (mVar 1) (mOp gMod (mVar 2) (mCall fLen (mCons (mVar 1) mNil)))) mNil)))) mSkip))))
def f_shade : List PyData → Option PyData := fnP 3 0 m_shade
theorem ok_shade (T : Tp K w mg) (D_check_beats : Df P w K mg base "check_beats" 2 ["many"] (spP K f_check_beats)) (D_check_floor : Df P w K mg base "check_floor" 5 ["floor"] (spP K f_check_floor)) (D_check_sun : Df P w K mg base "check_sun" 1 ["sun"] (spP K f_check_sun)) (D_shaded : Df P w K mg base "shaded" 2 ["floor", "sign"] (spP K f_shaded)) {f : Addr} {fd : FuncData} (F : Fun K "shade" "shade" s_shade f fd) : FnOk P w K mg base CX0 6 f fd ["floor", "sun", "beat"] (spP K f_shade) := by
  have sc := sc_shade
  refine fn_ok (N := N_shade) (s := m_shade) (k := 5) F sc rfl rfl (fun cdv A outer s0 H E hr => ?_)
  exact (ss_cons (s1_expr (b := false) (s_fnD D_check_floor (hr.mono (by decide)) (by rfl) (sa_cons (sv 0) sa_nil))) (ss_cons (s1_expr (b := false) (s_fnD D_check_sun (hr.mono (by decide)) (by rfl) (sa_cons (sv 1) sa_nil))) (ss_cons (s1_expr (b := false) (s_fnD D_check_beats (hr.mono (by decide)) (by rfl) (sa_cons (sv 2) sa_nil))) (ss_cons (s1_ret (b := false) (s_fnD D_shaded (hr.mono (by decide)) (by rfl) (sa_cons (sv 0) (sa_cons (s_ix (sv 1) (s_mod (sv 2) (s_callB call_len cd_len (by rfl) T.n_len (by decide +kernel) (sa_cons (sv 1) sa_nil)))) sa_nil)))) ss_nil))))
theorem d_shade (T : Tp K w mg) (D_check_beats : Df P w K mg base "check_beats" 2 ["many"] (spP K f_check_beats)) (D_check_floor : Df P w K mg base "check_floor" 5 ["floor"] (spP K f_check_floor)) (D_check_sun : Df P w K mg base "check_sun" 1 ["sun"] (spP K f_check_sun)) (D_shaded : Df P w K mg base "shaded" 2 ["floor", "sign"] (spP K f_shaded)) {f : Addr} {fd : FuncData} (F : Fun K "shade" "shade" s_shade f fd) (gm : mg "shade" = some (.ref f)) : Df P w K mg base "shade" 6 ["floor", "sun", "beat"] (spP K f_shade) :=
  ⟨f, fd, gm, F.kp, F.binds (ps := ["floor", "sun", "beat"]) (fun _ _ _ _ _ _ us hl => match us, hl with | [_, _, _], _ => rfl), ok_shade T D_check_beats D_check_floor D_check_sun D_shaded F⟩
/-! law: slots 0 _law_script 1 _law_row 2 _law_turn 3 _law_floor_here 4 _law_sun_here 5 _law_beat 6 _law_high 7 _law_wide 8 _law_posts 9 _law_clothes 10 _law_whole 11 _law_found 12 _law_one 13 _law_k 14 _law_part 15 _law_due 16 _law_at 17 _law_way 18 _law_new 19 _law_there 20 _law_cell 21 _law_sign 22 _law_up -/
abbrev s_law : Stmt := topS 33
abbrev N_law : List Str := ["_law_script", "_law_row", "_law_turn", "_law_floor_here", "_law_sun_here", "_law_beat", "_law_high", "_law_wide", "_law_posts", "_law_clothes", "_law_whole", "_law_found", "_law_one", "_law_k", "_law_part", "_law_due", "_law_at", "_law_way", "_law_new", "_law_there", "_law_cell", "_law_sign", "_law_up"]
theorem sc_law : FnScope N_law ["_law_script"] (defScope s_law) := ⟨rfl, rfl, rfl, by decide +kernel, rfl, by decide +kernel, by decide +kernel⟩
def m_law : MS := (mSeq (mOwn 1 (mLst (mCons (mVar 0) (mCons (mC (.int 0)) (mCons (mC (.int 0)) (mCons (mC (.int 0)) mNil)))))) (mSeq (mFor (mRng fRng1 (mCons (mC (.int 3)) mNil)) (goName 2) (mSeq (mPar [3, 4, 5] (mmSh (mFnR f__law_floor 1 (mCons (mC (.int 5)) mNil)) (mmSh (mFnR f__law_sun 1 mNil) (mmSh (mFnR f__law_taken 1 (mCons (mOp gIx (mF (mLst (mCons (mC (.int 9)) (mCons (mOp gPow (mC (.int 10)) (mC (.int 18))) mNil)))) (mFnR f__law_taken 1 (mCons (mC (.int 2)) mNil))) mNil)) mmNil)))) (mSeq (mTo (mVar 3) (goTup 4 (goCons (goName 6) (goCons (goName 7) (goCons (goName 8) (goCons (goName 9) goNil)))))) (mSeq (mPar [10, 11] (mmSh (mFn f_shade (mCons (mVar 3) (mCons (mVar 4) (mCons (mVar 5) mNil)))) (mmSh (mF (mLst mNil)) mmNil))) (mSeq (mFor (mAs asT (mVar 8)) (goName 12) (mSeq (mSet 11 (mOp gAdd (mVar 11) (mFn f_shade (mCons (mTup (mCons (mVar 6) (mCons (mVar 7) (mCons (mTup (mCons (mVar 12) mNil)) (mCons (mTup mNil) mNil))))) (mCons (mVar 4) (mCons (mVar 5) mNil)))))) mSkip)) (mSeq (mFor (mAs asT (mVar 9)) (goName 12) (mSeq (mSet 11 (mOp gAdd (mVar 11) (mFn f_shade (mCons (mTup (mCons (mVar 6) (mCons (mVar 7) (mCons (mTup mNil) (mCons (mTup (mCons (mVar 12) mNil)) mNil))))) (mCons (mVar 4) (mCons (mVar 5) mNil)))))) mSkip)) (mSeq (mIf (tBl (mOp (gEq true) (mVar 10) (mSortZ (mSetOf (mVar 11))))) (mSeq (mRet (mC (.bool false))) mSkip) mSkip) (mSeq (mSet 13 (mFnR f__law_taken 1 (mCons (mOp gAdd (mCall fLen (mCons (mVar 9) mNil)) (mC (.int 1))) mNil))) (mSeq (mSet 14 (mTup (mCons (mVar 6) (mCons (mVar 7) (mCons (mSl (mVar 8) oNone (oSome (mC (.int 1)))) (mCons (mSl (mVar 9) oNone (oSome (mVar 13))) mNil)))))) (mSeq (mSet 15 (mF (mLst mNil))) (mSeq (mFor (mRng fRng1 (mCons (mCall fLen (mCons (mVar 4) mNil)) mNil)) (goName 16) (mSeq (mSet 15 (mOp gAdd (mVar 15) (mF (mLcP [20] [] (mAs asL (mFn f_shade (mCons (mVar 3) (mCons (mVar 4) (mCons (mVar 16) mNil))))) (goName 20) (tBl (mOp (gIn true) (mVar 20) (mFn f_shade (mCons (mVar 14) (mCons (mVar 4) (mCons (mVar 16) mNil)))))) (mTup (mCons (mVar 16) (mCons (mVar 20) mNil))))))) mSkip)) (mSeq (mIf (tO (tBl (mOp (gEq true) (mFn f_parted (mCons (mVar 3) (mCons (mVar 14) (mCons (mVar 4) mNil)))) (mOp gIx (mOp gAdd (mVar 15) (mF (mLst (mCons (mC .none) mNil)))) (mC (.int 0))))) (tBl (mOp (gEq true) (mFn f_parted (mCons (mVar 14) (mCons (mVar 3) (mCons (mVar 4) mNil)))) (mOp gIx (mOp gAdd (mVar 15) (mF (mLst (mCons (mC .none) mNil)))) (mC (.int 0)))))) (mSeq (mRet (mC (.bool false))) mSkip) mSkip) (mSeq (mIf (tBl (mOp (gIs true) (mFn f_parted (mCons (mVar 3) (mCons (mVar 3) (mCons (mVar 4) mNil)))) (mC .none))) (mSeq (mRet (mC (.bool false))) mSkip) mSkip) (mSeq (mFor (mRng fRng1 (mCons (mC (.int 2)) mNil)) (goName 17) (mSeq (mDct 18 (mDz (mC (.str "ensow")) (mOp gIx (mF (mLst (mCons (mC (.str "wnsoe")) (mCons (mC (.str "sweon")) mNil)))) (mVar 17)))) (mSeq (mSet 19 (mFn f_shade (mCons (mFn f__law_turned (mCons (mVar 3) (mCons (mVar 17) mNil))) (mCons (mJoin (mC (.str "")) (mF (mLcP [21] [] (mAs asS (mVar 4)) (goName 21) tYesM (mDget 18 (mVar 21))))) (mCons (mVar 5) mNil))))) (mSeq (mIf (tBl (mOp (gEq true) (mVar 19) (mSortL (mF (mLcP [22, 16] [] (mAs asL (mVar 10)) (goTup 2 (goCons (goName 22) (goCons (goName 16) goNil))) tYesM (mIfE (tBl (mOp (gEq false) (mVar 17) (mC (.int 0)))) (mTup (mCons (mVar 22) (mCons (mOp gMinus (mOp gMinus (mVar 7) (mC (.int 1))) (mVar 16)) mNil))) (mTup (mCons (mVar 16) (mCons (mVar 22) mNil))))))))) (mSeq (mRet (mC (.bool false))) mSkip) mSkip) mSkip)))) mSkip)))))))))))))) (mSeq (mRet (mC (.bool true))) mSkip)))
def f_law : List PyData → Option PyData := fnP 1 22 m_law
theorem ok_law (T : Tp K w mg) (D__law_floor : Df P w K mg base "_law_floor" 2 ["_law_row", "_law_size"] (spR K f__law_floor)) (D__law_sun : Df P w K mg base "_law_sun" 2 ["_law_row"] (spR K f__law_sun)) (D__law_taken : Df P w K mg base "_law_taken" 1 ["_law_row", "_law_many"] (spR K f__law_taken)) (D__law_turned : Df P w K mg base "_law_turned" 1 ["_law_floor_here", "_law_way"] (spP K f__law_turned)) (D_parted : Df P w K mg base "parted" 6 ["floor", "other", "sun"] (spP K f_parted)) (D_shade : Df P w K mg base "shade" 6 ["floor", "sun", "beat"] (spP K f_shade)) {f : Addr} {fd : FuncData} (F : Fun K "law" "law" s_law f fd) : FnOk P w K mg base CX0 7 f fd ["_law_script"] (spP K f_law) := by
  have sc := sc_law
  refine fn_ok (N := N_law) (s := m_law) (k := 6) F sc rfl rfl (fun cdv A outer s0 H E hr => ?_)
  exact (ss_cons (s1_own (b := false) (i := 1) sc.nd rfl (Or.inl rfl) (f_lst (sa_cons (sv 0) (sa_cons se_int (sa_cons se_int (sa_cons se_int sa_nil)))))) (ss_cons (s1_for (b := false) (vs := [2]) PassesOwn.never rfl (si_rng1 (by rfl) T.n_range (sa_cons se_int sa_nil)) (sg_name (i := 2) sc.nd rfl (Or.inl rfl) (by decide)) (ss_cons (s1_parT (is := [3, 4, 5]) rfl (sm_sh (b := false) (s_fnRD (b := false) (i := 1) D__law_floor (hr.mono (by decide)) (by rfl) (sa_cons se_int sa_nil)) (sm_sh (b := false) (s_fnRD (b := false) (i := 1) D__law_sun (hr.mono (by decide)) (by rfl) sa_nil) (sm_sh (b := false) (s_fnRD (b := false) (i := 1) D__law_taken (hr.mono (by decide)) (by rfl) (sa_cons (s_ix (s_ofF (f_lst (sa_cons se_int (sa_cons (s_pow se_int se_int) sa_nil)))) (s_fnRD (b := false) (i := 1) D__law_taken (hr.mono (by decide)) (by rfl) (sa_cons se_int sa_nil))) sa_nil)) sm_nil))) (pgs_cons (pg_name (i := 3) sc.nd rfl (Or.inl rfl)) (pgs_cons (pg_name (i := 4) sc.nd rfl (Or.inr rfl)) (pgs_cons (pg_name (i := 5) sc.nd rfl (Or.inl rfl)) pgs_nil))) (by decide)) (ss_cons (s1_to (b := false) (vs := [6, 7, 8, 9]) (sv 3) (sg_tup rfl (sgs_cons (sg_name (i := 6) sc.nd rfl (Or.inl rfl) (by decide)) (sgs_cons (sg_name (i := 7) sc.nd rfl (Or.inr rfl) (by decide)) (sgs_cons (sg_name (i := 8) sc.nd rfl (Or.inl rfl) (by decide)) (sgs_cons (sg_name (i := 9) sc.nd rfl (Or.inl rfl) (by decide)) sgs_nil)))))) (ss_cons (s1_par2 rfl sc.nd (i := 10) (j := 11) rfl rfl (by decide) rfl rfl (sm_sh (b := false) (s_fnD D_shade (hr.mono (by decide)) (by rfl) (sa_cons (sv 3) (sa_cons (sv 4) (sa_cons (sv 5) sa_nil)))) (sm_sh (b := false) (s_ofF (f_lst sa_nil)) sm_nil)) (by rfl)) (ss_cons (s1_for (b := false) (vs := [12]) PassesOwn.never rfl (si_tup (sv 8)) (sg_name (i := 12) sc.nd rfl (Or.inl rfl) (by decide)) (ss_cons (s1_set (b := false) (i := 11) sc.nd rfl (Or.inl rfl) (s_add (sv 11) (s_fnD D_shade (hr.mono (by decide)) (by rfl) (sa_cons (s_tup (sa_cons (sv 6) (sa_cons (sv 7) (sa_cons (s_tup (sa_cons (sv 12) sa_nil)) (sa_cons (s_tup sa_nil) sa_nil))))) (sa_cons (sv 4) (sa_cons (sv 5) sa_nil)))))) ss_nil)) (ss_cons (s1_for (b := false) (vs := [12]) PassesOwn.never rfl (si_tup (sv 9)) (sg_name (i := 12) sc.nd rfl (Or.inl rfl) (by decide)) (ss_cons (s1_set (b := false) (i := 11) sc.nd rfl (Or.inl rfl) (s_add (sv 11) (s_fnD D_shade (hr.mono (by decide)) (by rfl) (sa_cons (s_tup (sa_cons (sv 6) (sa_cons (sv 7) (sa_cons (s_tup sa_nil) (sa_cons (s_tup (sa_cons (sv 12) sa_nil)) sa_nil))))) (sa_cons (sv 4) (sa_cons (sv 5) sa_nil)))))) ss_nil)) (ss_cons (s1_if (b := false) (t_ne (hu65 hr) (sv 10) (s_sortedZ rfl (by rfl) T.n_sorted (z_setOf rfl (hu65 hr) (by rfl) T.n_set (sv 11)))) (ss_cons (s1_ret (b := false) se_bl) ss_nil) ss_nil) (ss_cons (s1_set (b := false) (i := 13) sc.nd rfl (Or.inl rfl) (s_fnRD (b := false) (i := 1) D__law_taken (hr.mono (by decide)) (by rfl) (sa_cons (s_add (s_callB call_len cd_len (by rfl) T.n_len (by decide +kernel) (sa_cons (sv 9) sa_nil)) se_int) sa_nil))) (ss_cons (s1_set (b := false) (i := 14) sc.nd rfl (Or.inr rfl) (s_tup (sa_cons (sv 6) (sa_cons (sv 7) (sa_cons (s_sl (sv 8) so_none (so_some se_int)) (sa_cons (s_sl (sv 9) so_none (so_some (sv 13))) sa_nil)))))) (ss_cons (s1_set (b := false) (i := 15) sc.nd rfl (Or.inl rfl) (s_ofF (f_lst sa_nil))) (ss_cons (s1_for (b := false) (vs := [16]) PassesOwn.never rfl (si_rng1 (by rfl) T.n_range (sa_cons (s_callB call_len cd_len (by rfl) T.n_len (by decide +kernel) (sa_cons (sv 4) sa_nil)) sa_nil)) (sg_name (i := 16) sc.nd rfl (Or.inr rfl) (by decide)) (ss_cons (s1_set (b := false) (i := 15) sc.nd rfl (Or.inl rfl) (s_add (sv 15) (s_ofF (f_lcP rfl sc.nd (si_S (b := false) (si_list (s_fnD D_shade (hr.mono (by decide)) (by rfl) (sa_cons (sv 3) (sa_cons (sv 4) (sa_cons (sv 16) sa_nil)))))) (blkOk_by (own := [("_law_cell", 20)]) (N := N_law) (sc := defScope s_law) (by decide +kernel)) (fun _ _ _ _ _ => (sg_name (i := 20) sc.nd rfl (Or.inl rfl) (by decide))) (fun _ _ _ _ _ => (sts_one (t_notin (hu65 hr) (sv 20) (s_fnD D_shade (hr.mono (by decide)) (by rfl) (sa_cons (sv 14) (sa_cons (sv 4) (sa_cons (sv 16) sa_nil))))))) (fun _ _ _ _ _ => (s_tup (sa_cons (sv 16) (sa_cons (sv 20) sa_nil)))))))) ss_nil)) (ss_cons (s1_if (b := false) (t_w (w_or (t_ne (hu65 hr) (s_fnD D_parted (hr.mono (by decide)) (by rfl) (sa_cons (sv 3) (sa_cons (sv 14) (sa_cons (sv 4) sa_nil)))) (s_ix (s_add (sv 15) (s_ofF (f_lst (sa_cons se_non sa_nil)))) se_int)) (w_or1 (t_ne (hu65 hr) (s_fnD D_parted (hr.mono (by decide)) (by rfl) (sa_cons (sv 14) (sa_cons (sv 3) (sa_cons (sv 4) sa_nil)))) (s_ix (s_add (sv 15) (s_ofF (f_lst (sa_cons se_non sa_nil)))) se_int))))) (ss_cons (s1_ret (b := false) se_bl) ss_nil) ss_nil) (ss_cons (s1_if (b := false) (t_isnot (s_fnD D_parted (hr.mono (by decide)) (by rfl) (sa_cons (sv 3) (sa_cons (sv 3) (sa_cons (sv 4) sa_nil)))) se_non) (ss_cons (s1_ret (b := false) se_bl) ss_nil) ss_nil) (ss_cons (s1_for (b := false) (vs := [17]) PassesOwn.never rfl (si_rng1 (by rfl) T.n_range (sa_cons se_int sa_nil)) (sg_name (i := 17) sc.nd rfl (Or.inr rfl) (by decide)) (ss_cons (s1_dct (b := false) (i := 18) sc.nd rfl (Or.inr rfl) (x_dictZip rfl (by rfl) T.n_dict (by rfl) T.n_zip se_str (s_ix (s_ofF (f_lst (sa_cons se_str (sa_cons se_str sa_nil)))) (sv 17)))) (ss_cons (s1_set (b := false) (i := 19) sc.nd rfl (Or.inl rfl) (s_fnD D_shade (hr.mono (by decide)) (by rfl) (sa_cons (s_fnD D__law_turned (hr.mono (by decide)) (by rfl) (sa_cons (sv 3) (sa_cons (sv 17) sa_nil))) (sa_cons (s_join se_str (s_ofF (f_lcP rfl sc.nd (si_S (b := false) (si_str (sv 4))) (blkOk_by (own := [("_law_sign", 21)]) (N := N_law) (sc := defScope s_law) (by decide +kernel)) (fun _ _ _ _ _ => (sg_name (i := 21) sc.nd rfl (Or.inl rfl) (by decide))) (fun _ _ _ _ _ => sts_nil) (fun _ _ _ _ _ => (s_dget 18 (hu65 hr) (sv 21)))))) (sa_cons (sv 5) sa_nil))))) (ss_cons (s1_if (b := false) (t_ne (hu65 hr) (sv 19) (s_sortedL (by rfl) T.n_sorted (s_ofF (f_lcP rfl sc.nd (si_S (b := false) (si_list (sv 10))) (blkOk_by (own := [("_law_up", 22), ("_law_at", 16)]) (N := N_law) (sc := defScope s_law) (by decide +kernel)) (fun _ _ _ _ _ => (sg_tup rfl (sgs_cons (sg_name (i := 22) sc.nd rfl (Or.inl rfl) (by decide)) (sgs_cons (sg_name (i := 16) sc.nd rfl (Or.inl rfl) (by decide)) sgs_nil)))) (fun _ _ _ _ _ => sts_nil) (fun _ _ _ _ _ => (s_if (t_eq (hu65 hr) (sv 17) se_int) (s_tup (sa_cons (sv 22) (sa_cons (s_sub (s_sub (sv 7) se_int) (sv 16)) sa_nil))) (s_tup (sa_cons (sv 16) (sa_cons (sv 22) sa_nil))))))))) (ss_cons (s1_ret (b := false) se_bl) ss_nil) ss_nil) ss_nil)))) ss_nil)))))))))))))) (ss_cons (s1_ret (b := false) se_bl) ss_nil)))
theorem d_law (T : Tp K w mg) (D__law_floor : Df P w K mg base "_law_floor" 2 ["_law_row", "_law_size"] (spR K f__law_floor)) (D__law_sun : Df P w K mg base "_law_sun" 2 ["_law_row"] (spR K f__law_sun)) (D__law_taken : Df P w K mg base "_law_taken" 1 ["_law_row", "_law_many"] (spR K f__law_taken)) (D__law_turned : Df P w K mg base "_law_turned" 1 ["_law_floor_here", "_law_way"] (spP K f__law_turned)) (D_parted : Df P w K mg base "parted" 6 ["floor", "other", "sun"] (spP K f_parted)) (D_shade : Df P w K mg base "shade" 6 ["floor", "sun", "beat"] (spP K f_shade)) {f : Addr} {fd : FuncData} (F : Fun K "law" "law" s_law f fd) (gm : mg "law" = some (.ref f)) : Df P w K mg base "law" 7 ["_law_script"] (spP K f_law) :=
  ⟨f, fd, gm, F.kp, F.binds (ps := ["_law_script"]) (fun _ _ _ _ _ _ us hl => match us, hl with | [_], _ => rfl), ok_law T D__law_floor D__law_sun D__law_taken D__law_turned D_parted D_shade F⟩
end
end Pr

set_option Elab.async false
set_option linter.all false
set_option maxRecDepth 100000
namespace Pr
open PySem PySem.Spec L2 Fn Mx
theorem is_tuple_of_ok (ds : List PyData) (n : Int) : f_is_tuple_of [.tuple ds, .int n] = some (.bool (decide ((ds.length : Int) = n))) := by
  simp only [f_is_tuple_of, m_is_tuple_of, a_seq, a_skip, a_if, a_ret, a_retN, a_drop, a_never, a_break, a_cont, a_set, a_own, a_var, a_c, a_op, a_nil, a_cons, a_tup, a_lst, a_f, a_call, a_fn, a_isi, a_isi2, a_not, a_tru, a_tbl, a_tno, a_tan, a_to, a_and, a_or, a_chain, a_ifE, a_onone, a_osome, a_sl, a_ixL, a_ixV, a_lvar, a_inL, a_for, a_to2, a_as, a_rng, a_lcP, a_lc, a_lc2, a_sc, a_sortZ, a_setOf, a_xor, a_ownI, a_callL, a_mmNil, a_mmSh, a_mmOwn, a_par, a_tab, a_disp, a_vals0, a_vals1, a_goName, a_yes, a_fnP, a_fnR, a_mFnR, a_store, a_app, a_join, a_rep, k_tt, k_tl, k_ti, k_tb, k_ts, k_tn, k_ll, k_lt, k_li, k_lb, k_ls, k_ln, k_it, k_il, k_ii, k_ib, k_is, k_in, k_bt, k_bl, k_bi, k_bb, k_bs, k_bn, k_st, k_sl, k_si, k_sb, k_ss, k_sn, v_lenT, v_lenL, v_lenS, v_tupL, v_intI, v_intB, v_asL, v_asT, v_asS, v_truB, v_truL, v_add, v_sub, v_lt, v_le, v_gt, v_ge, v_mod, v_div, v_mul, v_isN, p_sh, p_no, p_own, p_par, p_plsh, p_plno, st_sh, st_no, st_own, st_par, f_ix0, f_ix1, f_ix2, f_ix3, c_ix0, c_ix1, q_ix0, q_ix1, q_ix2, q_sl, f_kt, c_kt, c_kl, q_kt, f_len, c_len, q_len, c_go, q_go, f_go, t_go, g_cons, g_nil, v_enumT, v_enumS, v_rng1, v_rngN, v_rng2, v_n40, v_n41, v_n42, v_n43, v_setR0, q_add, v_addT, f_sl3, f_sl2, q_cutc1, q_cutc2, q_cutp1, put_own, put_par, o_rt, o_nx, r_rt, r_nx, po_par, d_eqO, d_notin, v_pow18, v_mulS, v_addL, af_c, stepC, back, List.getD_cons_zero, List.getD_cons_succ, af_nx, af_ct, af_bk, af_rt, gixT, gixL, ix0, ix1, ix2, ix3, sl_t, sl_l, eq_int, eq_bool, Option.bind_some, Option.bind_none, List.map_cons, List.map_nil, List.getElem?_cons_zero, List.getElem?_cons_succ, List.set_cons_zero, List.set_cons_succ, List.length_cons, List.length_nil, List.cons_append, List.nil_append, List.replicate, ownAt, if_true, Bool.false_eq_true, if_false, Nat.reduceAdd, Nat.reduceLeDiff, Bool.true_eq_false, Bool.false_bne, Bool.true_bne, Bool.not_true, Bool.not_false, ne_eq, not_true_eq_false, not_false_eq_true, reduceCtorEq, clean_pl, List.all_cons, List.all_nil, List.contains_cons, List.contains_nil, Nat.reduceBEq, Bool.and_self, and_self, and_true, true_and, wipeR, stepP, stepS, Option.map_some, if_and, if_or, if_tan, if_tor, Int.cast_ofNat_Int, decide_true, decide_false, Bool.true_and, Bool.and_true, Bool.or_false, Bool.false_or, Bool.and_false, Bool.false_and, in_cellsT, in_cellsL, shaped_cell, shaped_cellsL, shaped_cellsT, any_cells]
theorem is_whole_ok (i lo hi : Int) : f_is_whole [.int i, .int lo, .int hi] = some (.bool (decide (lo ≤ i) && decide (i ≤ hi))) := by
  simp only [f_is_whole, m_is_whole, a_seq, a_skip, a_if, a_ret, a_retN, a_drop, a_never, a_break, a_cont, a_set, a_own, a_var, a_c, a_op, a_nil, a_cons, a_tup, a_lst, a_f, a_call, a_fn, a_isi, a_isi2, a_not, a_tru, a_tbl, a_tno, a_tan, a_to, a_and, a_or, a_chain, a_ifE, a_onone, a_osome, a_sl, a_ixL, a_ixV, a_lvar, a_inL, a_for, a_to2, a_as, a_rng, a_lcP, a_lc, a_lc2, a_sc, a_sortZ, a_setOf, a_xor, a_ownI, a_callL, a_mmNil, a_mmSh, a_mmOwn, a_par, a_tab, a_disp, a_vals0, a_vals1, a_goName, a_yes, a_fnP, a_fnR, a_mFnR, a_store, a_app, a_join, a_rep, k_tt, k_tl, k_ti, k_tb, k_ts, k_tn, k_ll, k_lt, k_li, k_lb, k_ls, k_ln, k_it, k_il, k_ii, k_ib, k_is, k_in, k_bt, k_bl, k_bi, k_bb, k_bs, k_bn, k_st, k_sl, k_si, k_sb, k_ss, k_sn, v_lenT, v_lenL, v_lenS, v_tupL, v_intI, v_intB, v_asL, v_asT, v_asS, v_truB, v_truL, v_add, v_sub, v_lt, v_le, v_gt, v_ge, v_mod, v_div, v_mul, v_isN, p_sh, p_no, p_own, p_par, p_plsh, p_plno, st_sh, st_no, st_own, st_par, f_ix0, f_ix1, f_ix2, f_ix3, c_ix0, c_ix1, q_ix0, q_ix1, q_ix2, q_sl, f_kt, c_kt, c_kl, q_kt, f_len, c_len, q_len, c_go, q_go, f_go, t_go, g_cons, g_nil, v_enumT, v_enumS, v_rng1, v_rngN, v_rng2, v_n40, v_n41, v_n42, v_n43, v_setR0, q_add, v_addT, f_sl3, f_sl2, q_cutc1, q_cutc2, q_cutp1, put_own, put_par, o_rt, o_nx, r_rt, r_nx, po_par, d_eqO, d_notin, v_pow18, v_mulS, v_addL, af_c, stepC, back, List.getD_cons_zero, List.getD_cons_succ, af_nx, af_ct, af_bk, af_rt, gixT, gixL, ix0, ix1, ix2, ix3, sl_t, sl_l, eq_int, eq_bool, Option.bind_some, Option.bind_none, List.map_cons, List.map_nil, List.getElem?_cons_zero, List.getElem?_cons_succ, List.set_cons_zero, List.set_cons_succ, List.length_cons, List.length_nil, List.cons_append, List.nil_append, List.replicate, ownAt, if_true, Bool.false_eq_true, if_false, Nat.reduceAdd, Nat.reduceLeDiff, Bool.true_eq_false, Bool.false_bne, Bool.true_bne, Bool.not_true, Bool.not_false, ne_eq, not_true_eq_false, not_false_eq_true, reduceCtorEq, clean_pl, List.all_cons, List.all_nil, List.contains_cons, List.contains_nil, Nat.reduceBEq, Bool.and_self, and_self, and_true, true_and, wipeR, stepP, stepS, Option.map_some, if_and, if_or, if_tan, if_tor, Int.cast_ofNat_Int, decide_true, decide_false, Bool.true_and, Bool.and_true, Bool.or_false, Bool.false_or, Bool.and_false, Bool.false_and, in_cellsT, in_cellsL, shaped_cell, shaped_cellsL, shaped_cellsT, any_cells]
theorem is_cell_ok (F : Fl) (c : Cell) : f_is_cell [cellD c, flD F] = some (.bool (F.has c)) := by
  have h : f_is_tuple_of [cellD c, .int 2] = some (.bool true) := is_tuple_of_ok _ 2
  simp only [f_is_cell, m_is_cell, a_seq, a_skip, a_if, a_ret, a_retN, a_drop, a_never, a_break, a_cont, a_set, a_own, a_var, a_c, a_op, a_nil, a_cons, a_tup, a_lst, a_f, a_call, a_fn, a_isi, a_isi2, a_not, a_tru, a_tbl, a_tno, a_tan, a_to, a_and, a_or, a_chain, a_ifE, a_onone, a_osome, a_sl, a_ixL, a_ixV, a_lvar, a_inL, a_for, a_to2, a_as, a_rng, a_lcP, a_lc, a_lc2, a_sc, a_sortZ, a_setOf, a_xor, a_ownI, a_callL, a_mmNil, a_mmSh, a_mmOwn, a_par, a_tab, a_disp, a_vals0, a_vals1, a_goName, a_yes, a_fnP, a_fnR, a_mFnR, a_store, a_app, a_join, a_rep, k_tt, k_tl, k_ti, k_tb, k_ts, k_tn, k_ll, k_lt, k_li, k_lb, k_ls, k_ln, k_it, k_il, k_ii, k_ib, k_is, k_in, k_bt, k_bl, k_bi, k_bb, k_bs, k_bn, k_st, k_sl, k_si, k_sb, k_ss, k_sn, v_lenT, v_lenL, v_lenS, v_tupL, v_intI, v_intB, v_asL, v_asT, v_asS, v_truB, v_truL, v_add, v_sub, v_lt, v_le, v_gt, v_ge, v_mod, v_div, v_mul, v_isN, p_sh, p_no, p_own, p_par, p_plsh, p_plno, st_sh, st_no, st_own, st_par, f_ix0, f_ix1, f_ix2, f_ix3, c_ix0, c_ix1, q_ix0, q_ix1, q_ix2, q_sl, f_kt, c_kt, c_kl, q_kt, f_len, c_len, q_len, c_go, q_go, f_go, t_go, g_cons, g_nil, v_enumT, v_enumS, v_rng1, v_rngN, v_rng2, v_n40, v_n41, v_n42, v_n43, v_setR0, q_add, v_addT, f_sl3, f_sl2, q_cutc1, q_cutc2, q_cutp1, put_own, put_par, o_rt, o_nx, r_rt, r_nx, po_par, d_eqO, d_notin, v_pow18, v_mulS, v_addL, af_c, stepC, back, List.getD_cons_zero, List.getD_cons_succ, af_nx, af_ct, af_bk, af_rt, gixT, gixL, ix0, ix1, ix2, ix3, sl_t, sl_l, eq_int, eq_bool, Option.bind_some, Option.bind_none, List.map_cons, List.map_nil, List.getElem?_cons_zero, List.getElem?_cons_succ, List.set_cons_zero, List.set_cons_succ, List.length_cons, List.length_nil, List.cons_append, List.nil_append, List.replicate, ownAt, if_true, Bool.false_eq_true, if_false, Nat.reduceAdd, Nat.reduceLeDiff, Bool.true_eq_false, Bool.false_bne, Bool.true_bne, Bool.not_true, Bool.not_false, ne_eq, not_true_eq_false, not_false_eq_true, reduceCtorEq, clean_pl, List.all_cons, List.all_nil, List.contains_cons, List.contains_nil, Nat.reduceBEq, Bool.and_self, and_self, and_true, true_and, wipeR, stepP, stepS, Option.map_some, if_and, if_or, if_tan, if_tor, Int.cast_ofNat_Int, decide_true, decide_false, Bool.true_and, Bool.and_true, Bool.or_false, Bool.false_or, Bool.and_false, Bool.false_and, in_cellsT, in_cellsL, shaped_cell, shaped_cellsL, shaped_cellsT, any_cells, h, is_whole_ok, Fl.has]
theorem is_post_ok (F : Fl) (p : Post) : f_is_post [postD p, flD F] = some (.bool (F.has (pc p) && (decide (1 ≤ p.2.2) && decide (p.2.2 ≤ 4)))) := by
  have h : f_is_tuple_of [postD p, .int 3] = some (.bool true) := is_tuple_of_ok _ 3
  simp only [f_is_post, m_is_post, a_seq, a_skip, a_if, a_ret, a_retN, a_drop, a_never, a_break, a_cont, a_set, a_own, a_var, a_c, a_op, a_nil, a_cons, a_tup, a_lst, a_f, a_call, a_fn, a_isi, a_isi2, a_not, a_tru, a_tbl, a_tno, a_tan, a_to, a_and, a_or, a_chain, a_ifE, a_onone, a_osome, a_sl, a_ixL, a_ixV, a_lvar, a_inL, a_for, a_to2, a_as, a_rng, a_lcP, a_lc, a_lc2, a_sc, a_sortZ, a_setOf, a_xor, a_ownI, a_callL, a_mmNil, a_mmSh, a_mmOwn, a_par, a_tab, a_disp, a_vals0, a_vals1, a_goName, a_yes, a_fnP, a_fnR, a_mFnR, a_store, a_app, a_join, a_rep, k_tt, k_tl, k_ti, k_tb, k_ts, k_tn, k_ll, k_lt, k_li, k_lb, k_ls, k_ln, k_it, k_il, k_ii, k_ib, k_is, k_in, k_bt, k_bl, k_bi, k_bb, k_bs, k_bn, k_st, k_sl, k_si, k_sb, k_ss, k_sn, v_lenT, v_lenL, v_lenS, v_tupL, v_intI, v_intB, v_asL, v_asT, v_asS, v_truB, v_truL, v_add, v_sub, v_lt, v_le, v_gt, v_ge, v_mod, v_div, v_mul, v_isN, p_sh, p_no, p_own, p_par, p_plsh, p_plno, st_sh, st_no, st_own, st_par, f_ix0, f_ix1, f_ix2, f_ix3, c_ix0, c_ix1, q_ix0, q_ix1, q_ix2, q_sl, f_kt, c_kt, c_kl, q_kt, f_len, c_len, q_len, c_go, q_go, f_go, t_go, g_cons, g_nil, v_enumT, v_enumS, v_rng1, v_rngN, v_rng2, v_n40, v_n41, v_n42, v_n43, v_setR0, q_add, v_addT, f_sl3, f_sl2, q_cutc1, q_cutc2, q_cutp1, put_own, put_par, o_rt, o_nx, r_rt, r_nx, po_par, d_eqO, d_notin, v_pow18, v_mulS, v_addL, af_c, stepC, back, List.getD_cons_zero, List.getD_cons_succ, af_nx, af_ct, af_bk, af_rt, gixT, gixL, ix0, ix1, ix2, ix3, sl_t, sl_l, eq_int, eq_bool, Option.bind_some, Option.bind_none, List.map_cons, List.map_nil, List.getElem?_cons_zero, List.getElem?_cons_succ, List.set_cons_zero, List.set_cons_succ, List.length_cons, List.length_nil, List.cons_append, List.nil_append, List.replicate, ownAt, if_true, Bool.false_eq_true, if_false, Nat.reduceAdd, Nat.reduceLeDiff, Bool.true_eq_false, Bool.false_bne, Bool.true_bne, Bool.not_true, Bool.not_false, ne_eq, not_true_eq_false, not_false_eq_true, reduceCtorEq, clean_pl, List.all_cons, List.all_nil, List.contains_cons, List.contains_nil, Nat.reduceBEq, Bool.and_self, and_self, and_true, true_and, wipeR, stepP, stepS, Option.map_some, if_and, if_or, if_tan, if_tor, Int.cast_ofNat_Int, decide_true, decide_false, Bool.true_and, Bool.and_true, Bool.or_false, Bool.false_or, Bool.and_false, Bool.false_and, in_cellsT, in_cellsL, shaped_cell, shaped_cellsL, shaped_cellsT, any_cells, h, is_cell_ok, is_whole_ok]
theorem check_awnings_ok {F : Fl} (O : F.Ok) : f_check_awnings [flD F] = some .none := by
  simp only [f_check_awnings, m_check_awnings, a_seq, a_skip, a_if, a_ret, a_retN, a_drop, a_never, a_break, a_cont, a_set, a_own, a_var, a_c, a_op, a_nil, a_cons, a_tup, a_lst, a_f, a_call, a_fn, a_isi, a_isi2, a_not, a_tru, a_tbl, a_tno, a_tan, a_to, a_and, a_or, a_chain, a_ifE, a_onone, a_osome, a_sl, a_ixL, a_ixV, a_lvar, a_inL, a_for, a_to2, a_as, a_rng, a_lcP, a_lc, a_lc2, a_sc, a_sortZ, a_setOf, a_xor, a_ownI, a_callL, a_mmNil, a_mmSh, a_mmOwn, a_par, a_tab, a_disp, a_vals0, a_vals1, a_goName, a_yes, a_fnP, a_fnR, a_mFnR, a_store, a_app, a_join, a_rep, k_tt, k_tl, k_ti, k_tb, k_ts, k_tn, k_ll, k_lt, k_li, k_lb, k_ls, k_ln, k_it, k_il, k_ii, k_ib, k_is, k_in, k_bt, k_bl, k_bi, k_bb, k_bs, k_bn, k_st, k_sl, k_si, k_sb, k_ss, k_sn, v_lenT, v_lenL, v_lenS, v_tupL, v_intI, v_intB, v_asL, v_asT, v_asS, v_truB, v_truL, v_add, v_sub, v_lt, v_le, v_gt, v_ge, v_mod, v_div, v_mul, v_isN, p_sh, p_no, p_own, p_par, p_plsh, p_plno, st_sh, st_no, st_own, st_par, f_ix0, f_ix1, f_ix2, f_ix3, c_ix0, c_ix1, q_ix0, q_ix1, q_ix2, q_sl, f_kt, c_kt, c_kl, q_kt, f_len, c_len, q_len, c_go, q_go, f_go, t_go, g_cons, g_nil, v_enumT, v_enumS, v_rng1, v_rngN, v_rng2, v_n40, v_n41, v_n42, v_n43, v_setR0, q_add, v_addT, f_sl3, f_sl2, q_cutc1, q_cutc2, q_cutp1, put_own, put_par, o_rt, o_nx, r_rt, r_nx, po_par, d_eqO, d_notin, v_pow18, v_mulS, v_addL, af_c, stepC, back, List.getD_cons_zero, List.getD_cons_succ, af_nx, af_ct, af_bk, af_rt, gixT, gixL, ix0, ix1, ix2, ix3, sl_t, sl_l, eq_int, eq_bool, Option.bind_some, Option.bind_none, List.map_cons, List.map_nil, List.getElem?_cons_zero, List.getElem?_cons_succ, List.set_cons_zero, List.set_cons_succ, List.length_cons, List.length_nil, List.cons_append, List.nil_append, List.replicate, ownAt, if_true, Bool.false_eq_true, if_false, Nat.reduceAdd, Nat.reduceLeDiff, Bool.true_eq_false, Bool.false_bne, Bool.true_bne, Bool.not_true, Bool.not_false, ne_eq, not_true_eq_false, not_false_eq_true, reduceCtorEq, clean_pl, List.all_cons, List.all_nil, List.contains_cons, List.contains_nil, Nat.reduceBEq, Bool.and_self, and_self, and_true, true_and, wipeR, stepP, stepS, Option.map_some, if_and, if_or, if_tan, if_tor, Int.cast_ofNat_Int, decide_true, decide_false, Bool.true_and, Bool.and_true, Bool.or_false, Bool.false_or, Bool.and_false, Bool.false_and, in_cellsT, in_cellsL, shaped_cell, shaped_cellsL, shaped_cellsT, any_cells]
  generalize hL : loopS _ _ _ _ = L
  obtain ⟨ρ1, rfl, -⟩ := enumL hL (fun done ρ => ∃ s3 s4, ρ = [.sh (flD F), .sh (.tuple (F.aw.map cellD)), .own (done.map cellD), s3, s4] ∧ isPar s3 = false ∧ isPar s4 = false) ⟨_, _, rfl, rfl, rfl⟩ (fun done x rest ρ hd ⟨s3, s4, e, p3, p4⟩ => by
    subst e
    have h1 : decide ((done.length : Int) = 8) = false := by
      have := O.al
      rw [hd, List.length_append, List.length_cons] at this
      exact decide_eq_false (by omega)
    have h2 : F.has x = true := O.ah x (by rw [hd]; simp)
    have h3 : decide (x ∈ done) = false := by
      have := O.an
      rw [hd, List.nodup_append] at this
      exact decide_eq_false fun m => this.2.2 x m x (by simp) rfl
    have h4 : done.length < 16000000 := by
      have := O.al
      rw [hd, List.length_append, List.length_cons] at this
      omega
    refine ⟨[.sh (flD F), .sh (.tuple (F.aw.map cellD)), .own ((done ++ [x]).map cellD), .sh (.int (done.length : Nat)), .sh (cellD x)], .inl ?_, _, _, rfl, rfl, rfl⟩
    simp only [a_seq, a_skip, a_if, a_ret, a_retN, a_drop, a_never, a_break, a_cont, a_set, a_own, a_var, a_c, a_op, a_nil, a_cons, a_tup, a_lst, a_f, a_call, a_fn, a_isi, a_isi2, a_not, a_tru, a_tbl, a_tno, a_tan, a_to, a_and, a_or, a_chain, a_ifE, a_onone, a_osome, a_sl, a_ixL, a_ixV, a_lvar, a_inL, a_for, a_to2, a_as, a_rng, a_lcP, a_lc, a_lc2, a_sc, a_sortZ, a_setOf, a_xor, a_ownI, a_callL, a_mmNil, a_mmSh, a_mmOwn, a_par, a_tab, a_disp, a_vals0, a_vals1, a_goName, a_yes, a_fnP, a_fnR, a_mFnR, a_store, a_app, a_join, a_rep, k_tt, k_tl, k_ti, k_tb, k_ts, k_tn, k_ll, k_lt, k_li, k_lb, k_ls, k_ln, k_it, k_il, k_ii, k_ib, k_is, k_in, k_bt, k_bl, k_bi, k_bb, k_bs, k_bn, k_st, k_sl, k_si, k_sb, k_ss, k_sn, v_lenT, v_lenL, v_lenS, v_tupL, v_intI, v_intB, v_asL, v_asT, v_asS, v_truB, v_truL, v_add, v_sub, v_lt, v_le, v_gt, v_ge, v_mod, v_div, v_mul, v_isN, p_sh, p_no, p_own, p_par, p_plsh, p_plno, st_sh, st_no, st_own, st_par, f_ix0, f_ix1, f_ix2, f_ix3, c_ix0, c_ix1, q_ix0, q_ix1, q_ix2, q_sl, f_kt, c_kt, c_kl, q_kt, f_len, c_len, q_len, c_go, q_go, f_go, t_go, g_cons, g_nil, v_enumT, v_enumS, v_rng1, v_rngN, v_rng2, v_n40, v_n41, v_n42, v_n43, v_setR0, q_add, v_addT, f_sl3, f_sl2, q_cutc1, q_cutc2, q_cutp1, put_own, put_par, o_rt, o_nx, r_rt, r_nx, po_par, d_eqO, d_notin, v_pow18, v_mulS, v_addL, af_c, stepC, back, List.getD_cons_zero, List.getD_cons_succ, af_nx, af_ct, af_bk, af_rt, gixT, gixL, ix0, ix1, ix2, ix3, sl_t, sl_l, eq_int, eq_bool, Option.bind_some, Option.bind_none, List.map_cons, List.map_nil, List.getElem?_cons_zero, List.getElem?_cons_succ, List.set_cons_zero, List.set_cons_succ, List.length_cons, List.length_nil, List.cons_append, List.nil_append, List.replicate, ownAt, if_true, Bool.false_eq_true, if_false, Nat.reduceAdd, Nat.reduceLeDiff, Bool.true_eq_false, Bool.false_bne, Bool.true_bne, Bool.not_true, Bool.not_false, ne_eq, not_true_eq_false, not_false_eq_true, reduceCtorEq, clean_pl, List.all_cons, List.all_nil, List.contains_cons, List.contains_nil, Nat.reduceBEq, Bool.and_self, and_self, and_true, true_and, wipeR, stepP, stepS, Option.map_some, if_and, if_or, if_tan, if_tor, Int.cast_ofNat_Int, decide_true, decide_false, Bool.true_and, Bool.and_true, Bool.or_false, Bool.false_or, Bool.and_false, Bool.false_and, in_cellsT, in_cellsL, shaped_cell, shaped_cellsL, shaped_cellsT, any_cells, p3, p4, is_cell_ok, h1, h2, h3, h4, List.length_map, List.map_append])
  rfl
theorem check_posts_ok {F : Fl} (O : F.Ok) : f_check_posts [flD F] = some .none := by
  simp only [f_check_posts, m_check_posts, a_seq, a_skip, a_if, a_ret, a_retN, a_drop, a_never, a_break, a_cont, a_set, a_own, a_var, a_c, a_op, a_nil, a_cons, a_tup, a_lst, a_f, a_call, a_fn, a_isi, a_isi2, a_not, a_tru, a_tbl, a_tno, a_tan, a_to, a_and, a_or, a_chain, a_ifE, a_onone, a_osome, a_sl, a_ixL, a_ixV, a_lvar, a_inL, a_for, a_to2, a_as, a_rng, a_lcP, a_lc, a_lc2, a_sc, a_sortZ, a_setOf, a_xor, a_ownI, a_callL, a_mmNil, a_mmSh, a_mmOwn, a_par, a_tab, a_disp, a_vals0, a_vals1, a_goName, a_yes, a_fnP, a_fnR, a_mFnR, a_store, a_app, a_join, a_rep, k_tt, k_tl, k_ti, k_tb, k_ts, k_tn, k_ll, k_lt, k_li, k_lb, k_ls, k_ln, k_it, k_il, k_ii, k_ib, k_is, k_in, k_bt, k_bl, k_bi, k_bb, k_bs, k_bn, k_st, k_sl, k_si, k_sb, k_ss, k_sn, v_lenT, v_lenL, v_lenS, v_tupL, v_intI, v_intB, v_asL, v_asT, v_asS, v_truB, v_truL, v_add, v_sub, v_lt, v_le, v_gt, v_ge, v_mod, v_div, v_mul, v_isN, p_sh, p_no, p_own, p_par, p_plsh, p_plno, st_sh, st_no, st_own, st_par, f_ix0, f_ix1, f_ix2, f_ix3, c_ix0, c_ix1, q_ix0, q_ix1, q_ix2, q_sl, f_kt, c_kt, c_kl, q_kt, f_len, c_len, q_len, c_go, q_go, f_go, t_go, g_cons, g_nil, v_enumT, v_enumS, v_rng1, v_rngN, v_rng2, v_n40, v_n41, v_n42, v_n43, v_setR0, q_add, v_addT, f_sl3, f_sl2, q_cutc1, q_cutc2, q_cutp1, put_own, put_par, o_rt, o_nx, r_rt, r_nx, po_par, d_eqO, d_notin, v_pow18, v_mulS, v_addL, af_c, stepC, back, List.getD_cons_zero, List.getD_cons_succ, af_nx, af_ct, af_bk, af_rt, gixT, gixL, ix0, ix1, ix2, ix3, sl_t, sl_l, eq_int, eq_bool, Option.bind_some, Option.bind_none, List.map_cons, List.map_nil, List.getElem?_cons_zero, List.getElem?_cons_succ, List.set_cons_zero, List.set_cons_succ, List.length_cons, List.length_nil, List.cons_append, List.nil_append, List.replicate, ownAt, if_true, Bool.false_eq_true, if_false, Nat.reduceAdd, Nat.reduceLeDiff, Bool.true_eq_false, Bool.false_bne, Bool.true_bne, Bool.not_true, Bool.not_false, ne_eq, not_true_eq_false, not_false_eq_true, reduceCtorEq, clean_pl, List.all_cons, List.all_nil, List.contains_cons, List.contains_nil, Nat.reduceBEq, Bool.and_self, and_self, and_true, true_and, wipeR, stepP, stepS, Option.map_some, if_and, if_or, if_tan, if_tor, Int.cast_ofNat_Int, decide_true, decide_false, Bool.true_and, Bool.and_true, Bool.or_false, Bool.false_or, Bool.and_false, Bool.false_and, in_cellsT, in_cellsL, shaped_cell, shaped_cellsL, shaped_cellsT, any_cells]
  generalize hL : loopS _ _ _ _ = L
  obtain ⟨ρ1, rfl, -⟩ := enumL hL (fun done ρ => ∃ s3 s4, ρ = [.sh (flD F), .sh (.tuple (F.posts.map postD)), .own ((done.map pc).map cellD), s3, s4] ∧ isPar s3 = false ∧ isPar s4 = false) ⟨_, _, rfl, rfl, rfl⟩ (fun done x rest ρ hd ⟨s3, s4, e, p3, p4⟩ => by
    subst e
    have hl : done.length < 4 := by
      have := O.pl
      rw [hd, List.length_append, List.length_cons] at this
      omega
    have h1 : decide ((done.length : Int) = 4) = false := decide_eq_false (by omega)
    obtain ⟨h2, h5, h6⟩ := O.ph x (by rw [hd]; simp)
    have h3 : decide (pc x ∈ done.map pc) = false := by
      have := O.pn
      rw [hd, List.map_append, List.nodup_append] at this
      exact decide_eq_false fun m => this.2.2 _ m (pc x) (by simp) rfl
    have h4 : done.length < 16000000 := by omega
    refine ⟨[.sh (flD F), .sh (.tuple (F.posts.map postD)), .own (((done ++ [x]).map pc).map cellD), .sh (.int (done.length : Nat)), .sh (postD x)], .inl ?_, _, _, rfl, rfl, rfl⟩
    simp only [a_seq, a_skip, a_if, a_ret, a_retN, a_drop, a_never, a_break, a_cont, a_set, a_own, a_var, a_c, a_op, a_nil, a_cons, a_tup, a_lst, a_f, a_call, a_fn, a_isi, a_isi2, a_not, a_tru, a_tbl, a_tno, a_tan, a_to, a_and, a_or, a_chain, a_ifE, a_onone, a_osome, a_sl, a_ixL, a_ixV, a_lvar, a_inL, a_for, a_to2, a_as, a_rng, a_lcP, a_lc, a_lc2, a_sc, a_sortZ, a_setOf, a_xor, a_ownI, a_callL, a_mmNil, a_mmSh, a_mmOwn, a_par, a_tab, a_disp, a_vals0, a_vals1, a_goName, a_yes, a_fnP, a_fnR, a_mFnR, a_store, a_app, a_join, a_rep, k_tt, k_tl, k_ti, k_tb, k_ts, k_tn, k_ll, k_lt, k_li, k_lb, k_ls, k_ln, k_it, k_il, k_ii, k_ib, k_is, k_in, k_bt, k_bl, k_bi, k_bb, k_bs, k_bn, k_st, k_sl, k_si, k_sb, k_ss, k_sn, v_lenT, v_lenL, v_lenS, v_tupL, v_intI, v_intB, v_asL, v_asT, v_asS, v_truB, v_truL, v_add, v_sub, v_lt, v_le, v_gt, v_ge, v_mod, v_div, v_mul, v_isN, p_sh, p_no, p_own, p_par, p_plsh, p_plno, st_sh, st_no, st_own, st_par, f_ix0, f_ix1, f_ix2, f_ix3, c_ix0, c_ix1, q_ix0, q_ix1, q_ix2, q_sl, f_kt, c_kt, c_kl, q_kt, f_len, c_len, q_len, c_go, q_go, f_go, t_go, g_cons, g_nil, v_enumT, v_enumS, v_rng1, v_rngN, v_rng2, v_n40, v_n41, v_n42, v_n43, v_setR0, q_add, v_addT, f_sl3, f_sl2, q_cutc1, q_cutc2, q_cutp1, put_own, put_par, o_rt, o_nx, r_rt, r_nx, po_par, d_eqO, d_notin, v_pow18, v_mulS, v_addL, af_c, stepC, back, List.getD_cons_zero, List.getD_cons_succ, af_nx, af_ct, af_bk, af_rt, gixT, gixL, ix0, ix1, ix2, ix3, sl_t, sl_l, eq_int, eq_bool, Option.bind_some, Option.bind_none, List.map_cons, List.map_nil, List.getElem?_cons_zero, List.getElem?_cons_succ, List.set_cons_zero, List.set_cons_succ, List.length_cons, List.length_nil, List.cons_append, List.nil_append, List.replicate, ownAt, if_true, Bool.false_eq_true, if_false, Nat.reduceAdd, Nat.reduceLeDiff, Bool.true_eq_false, Bool.false_bne, Bool.true_bne, Bool.not_true, Bool.not_false, ne_eq, not_true_eq_false, not_false_eq_true, reduceCtorEq, clean_pl, List.all_cons, List.all_nil, List.contains_cons, List.contains_nil, Nat.reduceBEq, Bool.and_self, and_self, and_true, true_and, wipeR, stepP, stepS, Option.map_some, if_and, if_or, if_tan, if_tor, Int.cast_ofNat_Int, decide_true, decide_false, Bool.true_and, Bool.and_true, Bool.or_false, Bool.false_or, Bool.and_false, Bool.false_and, in_cellsT, in_cellsL, shaped_cell, shaped_cellsL, shaped_cellsT, any_cells, p3, p4, is_post_ok, h1, h2, h3, h4, h5, h6, List.length_map, List.map_append])
  rfl
theorem check_floor_ok {F : Fl} (O : F.Ok) : f_check_floor [flD F] = some .none := by
  have h : f_is_tuple_of [flD F, .int 4] = some (.bool true) := is_tuple_of_ok _ 4
  have r1 := decide_eq_true O.r.1
  have r2 := decide_eq_true O.r.2
  have c1 := decide_eq_true O.c.1
  have c2 := decide_eq_true O.c.2
  simp only [f_check_floor, m_check_floor, a_seq, a_skip, a_if, a_ret, a_retN, a_drop, a_never, a_break, a_cont, a_set, a_own, a_var, a_c, a_op, a_nil, a_cons, a_tup, a_lst, a_f, a_call, a_fn, a_isi, a_isi2, a_not, a_tru, a_tbl, a_tno, a_tan, a_to, a_and, a_or, a_chain, a_ifE, a_onone, a_osome, a_sl, a_ixL, a_ixV, a_lvar, a_inL, a_for, a_to2, a_as, a_rng, a_lcP, a_lc, a_lc2, a_sc, a_sortZ, a_setOf, a_xor, a_ownI, a_callL, a_mmNil, a_mmSh, a_mmOwn, a_par, a_tab, a_disp, a_vals0, a_vals1, a_goName, a_yes, a_fnP, a_fnR, a_mFnR, a_store, a_app, a_join, a_rep, k_tt, k_tl, k_ti, k_tb, k_ts, k_tn, k_ll, k_lt, k_li, k_lb, k_ls, k_ln, k_it, k_il, k_ii, k_ib, k_is, k_in, k_bt, k_bl, k_bi, k_bb, k_bs, k_bn, k_st, k_sl, k_si, k_sb, k_ss, k_sn, v_lenT, v_lenL, v_lenS, v_tupL, v_intI, v_intB, v_asL, v_asT, v_asS, v_truB, v_truL, v_add, v_sub, v_lt, v_le, v_gt, v_ge, v_mod, v_div, v_mul, v_isN, p_sh, p_no, p_own, p_par, p_plsh, p_plno, st_sh, st_no, st_own, st_par, f_ix0, f_ix1, f_ix2, f_ix3, c_ix0, c_ix1, q_ix0, q_ix1, q_ix2, q_sl, f_kt, c_kt, c_kl, q_kt, f_len, c_len, q_len, c_go, q_go, f_go, t_go, g_cons, g_nil, v_enumT, v_enumS, v_rng1, v_rngN, v_rng2, v_n40, v_n41, v_n42, v_n43, v_setR0, q_add, v_addT, f_sl3, f_sl2, q_cutc1, q_cutc2, q_cutp1, put_own, put_par, o_rt, o_nx, r_rt, r_nx, po_par, d_eqO, d_notin, v_pow18, v_mulS, v_addL, af_c, stepC, back, List.getD_cons_zero, List.getD_cons_succ, af_nx, af_ct, af_bk, af_rt, gixT, gixL, ix0, ix1, ix2, ix3, sl_t, sl_l, eq_int, eq_bool, Option.bind_some, Option.bind_none, List.map_cons, List.map_nil, List.getElem?_cons_zero, List.getElem?_cons_succ, List.set_cons_zero, List.set_cons_succ, List.length_cons, List.length_nil, List.cons_append, List.nil_append, List.replicate, ownAt, if_true, Bool.false_eq_true, if_false, Nat.reduceAdd, Nat.reduceLeDiff, Bool.true_eq_false, Bool.false_bne, Bool.true_bne, Bool.not_true, Bool.not_false, ne_eq, not_true_eq_false, not_false_eq_true, reduceCtorEq, clean_pl, List.all_cons, List.all_nil, List.contains_cons, List.contains_nil, Nat.reduceBEq, Bool.and_self, and_self, and_true, true_and, wipeR, stepP, stepS, Option.map_some, if_and, if_or, if_tan, if_tor, Int.cast_ofNat_Int, decide_true, decide_false, Bool.true_and, Bool.and_true, Bool.or_false, Bool.false_or, Bool.and_false, Bool.false_and, in_cellsT, in_cellsL, shaped_cell, shaped_cellsL, shaped_cellsT, any_cells, h, is_whole_ok, r1, r2, c1, c2, check_posts_ok O, check_awnings_ok O]
theorem check_sun_ok {l : List Dir} (h1 : l ≠ []) (h2 : l.length ≤ 6) : f_check_sun [.str (sunS l)] = some .none := by
  have len : fLen [.str (sunS l)] = some (.int l.length) := by
    rw [v_lenS (by rw [sun_len]; omega), sun_len]
  have h0 : decide ((l.length : Int) = 0) = false := decide_eq_false fun z => h1 (List.eq_nil_of_length_eq_zero (by omega))
  simp only [f_check_sun, m_check_sun, a_seq, a_skip, a_if, a_ret, a_retN, a_drop, a_never, a_break, a_cont, a_set, a_own, a_var, a_c, a_op, a_nil, a_cons, a_tup, a_lst, a_f, a_call, a_fn, a_isi, a_isi2, a_not, a_tru, a_tbl, a_tno, a_tan, a_to, a_and, a_or, a_chain, a_ifE, a_onone, a_osome, a_sl, a_ixL, a_ixV, a_lvar, a_inL, a_for, a_to2, a_as, a_rng, a_lcP, a_lc, a_lc2, a_sc, a_sortZ, a_setOf, a_xor, a_ownI, a_callL, a_mmNil, a_mmSh, a_mmOwn, a_par, a_tab, a_disp, a_vals0, a_vals1, a_goName, a_yes, a_fnP, a_fnR, a_mFnR, a_store, a_app, a_join, a_rep, k_tt, k_tl, k_ti, k_tb, k_ts, k_tn, k_ll, k_lt, k_li, k_lb, k_ls, k_ln, k_it, k_il, k_ii, k_ib, k_is, k_in, k_bt, k_bl, k_bi, k_bb, k_bs, k_bn, k_st, k_sl, k_si, k_sb, k_ss, k_sn, v_lenT, v_lenL, v_lenS, v_tupL, v_intI, v_intB, v_asL, v_asT, v_asS, v_truB, v_truL, v_add, v_sub, v_lt, v_le, v_gt, v_ge, v_mod, v_div, v_mul, v_isN, p_sh, p_no, p_own, p_par, p_plsh, p_plno, st_sh, st_no, st_own, st_par, f_ix0, f_ix1, f_ix2, f_ix3, c_ix0, c_ix1, q_ix0, q_ix1, q_ix2, q_sl, f_kt, c_kt, c_kl, q_kt, f_len, c_len, q_len, c_go, q_go, f_go, t_go, g_cons, g_nil, v_enumT, v_enumS, v_rng1, v_rngN, v_rng2, v_n40, v_n41, v_n42, v_n43, v_setR0, q_add, v_addT, f_sl3, f_sl2, q_cutc1, q_cutc2, q_cutp1, put_own, put_par, o_rt, o_nx, r_rt, r_nx, po_par, d_eqO, d_notin, v_pow18, v_mulS, v_addL, af_c, stepC, back, List.getD_cons_zero, List.getD_cons_succ, af_nx, af_ct, af_bk, af_rt, gixT, gixL, ix0, ix1, ix2, ix3, sl_t, sl_l, eq_int, eq_bool, Option.bind_some, Option.bind_none, List.map_cons, List.map_nil, List.getElem?_cons_zero, List.getElem?_cons_succ, List.set_cons_zero, List.set_cons_succ, List.length_cons, List.length_nil, List.cons_append, List.nil_append, List.replicate, ownAt, if_true, Bool.false_eq_true, if_false, Nat.reduceAdd, Nat.reduceLeDiff, Bool.true_eq_false, Bool.false_bne, Bool.true_bne, Bool.not_true, Bool.not_false, ne_eq, not_true_eq_false, not_false_eq_true, reduceCtorEq, clean_pl, List.all_cons, List.all_nil, List.contains_cons, List.contains_nil, Nat.reduceBEq, Bool.and_self, and_self, and_true, true_and, wipeR, stepP, stepS, Option.map_some, if_and, if_or, if_tan, if_tor, Int.cast_ofNat_Int, decide_true, decide_false, Bool.true_and, Bool.and_true, Bool.or_false, Bool.false_or, Bool.and_false, Bool.false_and, in_cellsT, in_cellsL, shaped_cell, shaped_cellsL, shaped_cellsT, any_cells, len, h0, sun_signs]
  generalize hL : loopS _ _ _ _ = L
  obtain ⟨ρ1, rfl, -⟩ := enumL hL (fun done ρ => ∃ s1 s2, ρ = [.sh (.str (sunS l)), s1, s2] ∧ isPar s1 = false ∧ isPar s2 = false) ⟨_, _, rfl, rfl, rfl⟩ (fun done x rest ρ hd ⟨s1, s2, e, p1, p2⟩ => by
    subst e
    have h1 : decide ((done.length : Int) = 6) = false := by
      rw [hd, List.length_append, List.length_cons] at h2
      exact decide_eq_false (by omega)
    refine ⟨[.sh (.str (sunS l)), .sh (.int (done.length : Nat)), .sh (.str (dirS x))], .inl ?_, _, _, rfl, rfl, rfl⟩
    simp only [a_seq, a_skip, a_if, a_ret, a_retN, a_drop, a_never, a_break, a_cont, a_set, a_own, a_var, a_c, a_op, a_nil, a_cons, a_tup, a_lst, a_f, a_call, a_fn, a_isi, a_isi2, a_not, a_tru, a_tbl, a_tno, a_tan, a_to, a_and, a_or, a_chain, a_ifE, a_onone, a_osome, a_sl, a_ixL, a_ixV, a_lvar, a_inL, a_for, a_to2, a_as, a_rng, a_lcP, a_lc, a_lc2, a_sc, a_sortZ, a_setOf, a_xor, a_ownI, a_callL, a_mmNil, a_mmSh, a_mmOwn, a_par, a_tab, a_disp, a_vals0, a_vals1, a_goName, a_yes, a_fnP, a_fnR, a_mFnR, a_store, a_app, a_join, a_rep, k_tt, k_tl, k_ti, k_tb, k_ts, k_tn, k_ll, k_lt, k_li, k_lb, k_ls, k_ln, k_it, k_il, k_ii, k_ib, k_is, k_in, k_bt, k_bl, k_bi, k_bb, k_bs, k_bn, k_st, k_sl, k_si, k_sb, k_ss, k_sn, v_lenT, v_lenL, v_lenS, v_tupL, v_intI, v_intB, v_asL, v_asT, v_asS, v_truB, v_truL, v_add, v_sub, v_lt, v_le, v_gt, v_ge, v_mod, v_div, v_mul, v_isN, p_sh, p_no, p_own, p_par, p_plsh, p_plno, st_sh, st_no, st_own, st_par, f_ix0, f_ix1, f_ix2, f_ix3, c_ix0, c_ix1, q_ix0, q_ix1, q_ix2, q_sl, f_kt, c_kt, c_kl, q_kt, f_len, c_len, q_len, c_go, q_go, f_go, t_go, g_cons, g_nil, v_enumT, v_enumS, v_rng1, v_rngN, v_rng2, v_n40, v_n41, v_n42, v_n43, v_setR0, q_add, v_addT, f_sl3, f_sl2, q_cutc1, q_cutc2, q_cutp1, put_own, put_par, o_rt, o_nx, r_rt, r_nx, po_par, d_eqO, d_notin, v_pow18, v_mulS, v_addL, af_c, stepC, back, List.getD_cons_zero, List.getD_cons_succ, af_nx, af_ct, af_bk, af_rt, gixT, gixL, ix0, ix1, ix2, ix3, sl_t, sl_l, eq_int, eq_bool, Option.bind_some, Option.bind_none, List.map_cons, List.map_nil, List.getElem?_cons_zero, List.getElem?_cons_succ, List.set_cons_zero, List.set_cons_succ, List.length_cons, List.length_nil, List.cons_append, List.nil_append, List.replicate, ownAt, if_true, Bool.false_eq_true, if_false, Nat.reduceAdd, Nat.reduceLeDiff, Bool.true_eq_false, Bool.false_bne, Bool.true_bne, Bool.not_true, Bool.not_false, ne_eq, not_true_eq_false, not_false_eq_true, reduceCtorEq, clean_pl, List.all_cons, List.all_nil, List.contains_cons, List.contains_nil, Nat.reduceBEq, Bool.and_self, and_self, and_true, true_and, wipeR, stepP, stepS, Option.map_some, if_and, if_or, if_tan, if_tor, Int.cast_ofNat_Int, decide_true, decide_false, Bool.true_and, Bool.and_true, Bool.or_false, Bool.false_or, Bool.and_false, Bool.false_and, in_cellsT, in_cellsL, shaped_cell, shaped_cellsL, shaped_cellsT, any_cells, p1, p2, h1])
  rfl
theorem check_beats_ok {b : Int} (h0 : 0 ≤ b) (h1 : b ≤ 1000000000000000000) : f_check_beats [.int b] = some .none := by
  have e0 := decide_eq_true h0
  have e1 := decide_eq_true h1
  simp only [f_check_beats, m_check_beats, a_seq, a_skip, a_if, a_ret, a_retN, a_drop, a_never, a_break, a_cont, a_set, a_own, a_var, a_c, a_op, a_nil, a_cons, a_tup, a_lst, a_f, a_call, a_fn, a_isi, a_isi2, a_not, a_tru, a_tbl, a_tno, a_tan, a_to, a_and, a_or, a_chain, a_ifE, a_onone, a_osome, a_sl, a_ixL, a_ixV, a_lvar, a_inL, a_for, a_to2, a_as, a_rng, a_lcP, a_lc, a_lc2, a_sc, a_sortZ, a_setOf, a_xor, a_ownI, a_callL, a_mmNil, a_mmSh, a_mmOwn, a_par, a_tab, a_disp, a_vals0, a_vals1, a_goName, a_yes, a_fnP, a_fnR, a_mFnR, a_store, a_app, a_join, a_rep, k_tt, k_tl, k_ti, k_tb, k_ts, k_tn, k_ll, k_lt, k_li, k_lb, k_ls, k_ln, k_it, k_il, k_ii, k_ib, k_is, k_in, k_bt, k_bl, k_bi, k_bb, k_bs, k_bn, k_st, k_sl, k_si, k_sb, k_ss, k_sn, v_lenT, v_lenL, v_lenS, v_tupL, v_intI, v_intB, v_asL, v_asT, v_asS, v_truB, v_truL, v_add, v_sub, v_lt, v_le, v_gt, v_ge, v_mod, v_div, v_mul, v_isN, p_sh, p_no, p_own, p_par, p_plsh, p_plno, st_sh, st_no, st_own, st_par, f_ix0, f_ix1, f_ix2, f_ix3, c_ix0, c_ix1, q_ix0, q_ix1, q_ix2, q_sl, f_kt, c_kt, c_kl, q_kt, f_len, c_len, q_len, c_go, q_go, f_go, t_go, g_cons, g_nil, v_enumT, v_enumS, v_rng1, v_rngN, v_rng2, v_n40, v_n41, v_n42, v_n43, v_setR0, q_add, v_addT, f_sl3, f_sl2, q_cutc1, q_cutc2, q_cutp1, put_own, put_par, o_rt, o_nx, r_rt, r_nx, po_par, d_eqO, d_notin, v_pow18, v_mulS, v_addL, af_c, stepC, back, List.getD_cons_zero, List.getD_cons_succ, af_nx, af_ct, af_bk, af_rt, gixT, gixL, ix0, ix1, ix2, ix3, sl_t, sl_l, eq_int, eq_bool, Option.bind_some, Option.bind_none, List.map_cons, List.map_nil, List.getElem?_cons_zero, List.getElem?_cons_succ, List.set_cons_zero, List.set_cons_succ, List.length_cons, List.length_nil, List.cons_append, List.nil_append, List.replicate, ownAt, if_true, Bool.false_eq_true, if_false, Nat.reduceAdd, Nat.reduceLeDiff, Bool.true_eq_false, Bool.false_bne, Bool.true_bne, Bool.not_true, Bool.not_false, ne_eq, not_true_eq_false, not_false_eq_true, reduceCtorEq, clean_pl, List.all_cons, List.all_nil, List.contains_cons, List.contains_nil, Nat.reduceBEq, Bool.and_self, and_self, and_true, true_and, wipeR, stepP, stepS, Option.map_some, if_and, if_or, if_tan, if_tor, Int.cast_ofNat_Int, decide_true, decide_false, Bool.true_and, Bool.and_true, Bool.or_false, Bool.false_or, Bool.and_false, Bool.false_and, in_cellsT, in_cellsL, shaped_cell, shaped_cellsL, shaped_cellsT, any_cells, is_whole_ok, e0, e1]
theorem steps_ok (d : Dir) : tab_STEPS (dirS d) = some (cellD (d.dr, d.dc)) := by
  cases d <;> rfl
theorem awning_shade_ok (cs : List Cell) (hl : cs.length ≤ 1000) (d : Dir) : f_awning_shade [.tuple (cs.map cellD), .str (dirS d)] = some (.list ((awCells cs d).map cellD)) := by
  have hl2 : cs.length < 16000000 := by omega
  simp only [f_awning_shade, m_awning_shade, a_seq, a_skip, a_if, a_ret, a_retN, a_drop, a_never, a_break, a_cont, a_set, a_own, a_var, a_c, a_op, a_nil, a_cons, a_tup, a_lst, a_f, a_call, a_fn, a_isi, a_isi2, a_not, a_tru, a_tbl, a_tno, a_tan, a_to, a_and, a_or, a_chain, a_ifE, a_onone, a_osome, a_sl, a_ixL, a_ixV, a_lvar, a_inL, a_for, a_to2, a_as, a_rng, a_lcP, a_lc, a_lc2, a_sc, a_sortZ, a_setOf, a_xor, a_ownI, a_callL, a_mmNil, a_mmSh, a_mmOwn, a_par, a_tab, a_disp, a_vals0, a_vals1, a_goName, a_yes, a_fnP, a_fnR, a_mFnR, a_store, a_app, a_join, a_rep, k_tt, k_tl, k_ti, k_tb, k_ts, k_tn, k_ll, k_lt, k_li, k_lb, k_ls, k_ln, k_it, k_il, k_ii, k_ib, k_is, k_in, k_bt, k_bl, k_bi, k_bb, k_bs, k_bn, k_st, k_sl, k_si, k_sb, k_ss, k_sn, v_lenT, v_lenL, v_lenS, v_tupL, v_intI, v_intB, v_asL, v_asT, v_asS, v_truB, v_truL, v_add, v_sub, v_lt, v_le, v_gt, v_ge, v_mod, v_div, v_mul, v_isN, p_sh, p_no, p_own, p_par, p_plsh, p_plno, st_sh, st_no, st_own, st_par, f_ix0, f_ix1, f_ix2, f_ix3, c_ix0, c_ix1, q_ix0, q_ix1, q_ix2, q_sl, f_kt, c_kt, c_kl, q_kt, f_len, c_len, q_len, c_go, q_go, f_go, t_go, g_cons, g_nil, v_enumT, v_enumS, v_rng1, v_rngN, v_rng2, v_n40, v_n41, v_n42, v_n43, v_setR0, q_add, v_addT, f_sl3, f_sl2, q_cutc1, q_cutc2, q_cutp1, put_own, put_par, o_rt, o_nx, r_rt, r_nx, po_par, d_eqO, d_notin, v_pow18, v_mulS, v_addL, af_c, stepC, back, List.getD_cons_zero, List.getD_cons_succ, af_nx, af_ct, af_bk, af_rt, gixT, gixL, ix0, ix1, ix2, ix3, sl_t, sl_l, eq_int, eq_bool, Option.bind_some, Option.bind_none, List.map_cons, List.map_nil, List.getElem?_cons_zero, List.getElem?_cons_succ, List.set_cons_zero, List.set_cons_succ, List.length_cons, List.length_nil, List.cons_append, List.nil_append, List.replicate, ownAt, if_true, Bool.false_eq_true, if_false, Nat.reduceAdd, Nat.reduceLeDiff, Bool.true_eq_false, Bool.false_bne, Bool.true_bne, Bool.not_true, Bool.not_false, ne_eq, not_true_eq_false, not_false_eq_true, reduceCtorEq, clean_pl, List.all_cons, List.all_nil, List.contains_cons, List.contains_nil, Nat.reduceBEq, Bool.and_self, and_self, and_true, true_and, wipeR, stepP, stepS, Option.map_some, if_and, if_or, if_tan, if_tor, Int.cast_ofNat_Int, decide_true, decide_false, Bool.true_and, Bool.and_true, Bool.or_false, Bool.false_or, Bool.and_false, Bool.false_and, in_cellsT, in_cellsL, shaped_cell, shaped_cellsL, shaped_cellsT, any_cells, steps_ok, List.length_map, hl2]
  rw [loopP_map1 (h := fun c : Cell => cellD (c.1 + d.dr, c.2 + d.dc)) cs (fun c hc => by
    simp only [a_seq, a_skip, a_if, a_ret, a_retN, a_drop, a_never, a_break, a_cont, a_set, a_own, a_var, a_c, a_op, a_nil, a_cons, a_tup, a_lst, a_f, a_call, a_fn, a_isi, a_isi2, a_not, a_tru, a_tbl, a_tno, a_tan, a_to, a_and, a_or, a_chain, a_ifE, a_onone, a_osome, a_sl, a_ixL, a_ixV, a_lvar, a_inL, a_for, a_to2, a_as, a_rng, a_lcP, a_lc, a_lc2, a_sc, a_sortZ, a_setOf, a_xor, a_ownI, a_callL, a_mmNil, a_mmSh, a_mmOwn, a_par, a_tab, a_disp, a_vals0, a_vals1, a_goName, a_yes, a_fnP, a_fnR, a_mFnR, a_store, a_app, a_join, a_rep, k_tt, k_tl, k_ti, k_tb, k_ts, k_tn, k_ll, k_lt, k_li, k_lb, k_ls, k_ln, k_it, k_il, k_ii, k_ib, k_is, k_in, k_bt, k_bl, k_bi, k_bb, k_bs, k_bn, k_st, k_sl, k_si, k_sb, k_ss, k_sn, v_lenT, v_lenL, v_lenS, v_tupL, v_intI, v_intB, v_asL, v_asT, v_asS, v_truB, v_truL, v_add, v_sub, v_lt, v_le, v_gt, v_ge, v_mod, v_div, v_mul, v_isN, p_sh, p_no, p_own, p_par, p_plsh, p_plno, st_sh, st_no, st_own, st_par, f_ix0, f_ix1, f_ix2, f_ix3, c_ix0, c_ix1, q_ix0, q_ix1, q_ix2, q_sl, f_kt, c_kt, c_kl, q_kt, f_len, c_len, q_len, c_go, q_go, f_go, t_go, g_cons, g_nil, v_enumT, v_enumS, v_rng1, v_rngN, v_rng2, v_n40, v_n41, v_n42, v_n43, v_setR0, q_add, v_addT, f_sl3, f_sl2, q_cutc1, q_cutc2, q_cutp1, put_own, put_par, o_rt, o_nx, r_rt, r_nx, po_par, d_eqO, d_notin, v_pow18, v_mulS, v_addL, af_c, stepC, back, List.getD_cons_zero, List.getD_cons_succ, af_nx, af_ct, af_bk, af_rt, gixT, gixL, ix0, ix1, ix2, ix3, sl_t, sl_l, eq_int, eq_bool, Option.bind_some, Option.bind_none, List.map_cons, List.map_nil, List.getElem?_cons_zero, List.getElem?_cons_succ, List.set_cons_zero, List.set_cons_succ, List.length_cons, List.length_nil, List.cons_append, List.nil_append, List.replicate, ownAt, if_true, Bool.false_eq_true, if_false, Nat.reduceAdd, Nat.reduceLeDiff, Bool.true_eq_false, Bool.false_bne, Bool.true_bne, Bool.not_true, Bool.not_false, ne_eq, not_true_eq_false, not_false_eq_true, reduceCtorEq, clean_pl, List.all_cons, List.all_nil, List.contains_cons, List.contains_nil, Nat.reduceBEq, Bool.and_self, and_self, and_true, true_and, wipeR, stepP, stepS, Option.map_some, if_and, if_or, if_tan, if_tor, Int.cast_ofNat_Int, decide_true, decide_false, Bool.true_and, Bool.and_true, Bool.or_false, Bool.false_or, Bool.and_false, Bool.false_and, in_cellsT, in_cellsL, shaped_cell, shaped_cellsL, shaped_cellsT, any_cells]
    rfl)]
  simp only [a_seq, a_skip, a_if, a_ret, a_retN, a_drop, a_never, a_break, a_cont, a_set, a_own, a_var, a_c, a_op, a_nil, a_cons, a_tup, a_lst, a_f, a_call, a_fn, a_isi, a_isi2, a_not, a_tru, a_tbl, a_tno, a_tan, a_to, a_and, a_or, a_chain, a_ifE, a_onone, a_osome, a_sl, a_ixL, a_ixV, a_lvar, a_inL, a_for, a_to2, a_as, a_rng, a_lcP, a_lc, a_lc2, a_sc, a_sortZ, a_setOf, a_xor, a_ownI, a_callL, a_mmNil, a_mmSh, a_mmOwn, a_par, a_tab, a_disp, a_vals0, a_vals1, a_goName, a_yes, a_fnP, a_fnR, a_mFnR, a_store, a_app, a_join, a_rep, k_tt, k_tl, k_ti, k_tb, k_ts, k_tn, k_ll, k_lt, k_li, k_lb, k_ls, k_ln, k_it, k_il, k_ii, k_ib, k_is, k_in, k_bt, k_bl, k_bi, k_bb, k_bs, k_bn, k_st, k_sl, k_si, k_sb, k_ss, k_sn, v_lenT, v_lenL, v_lenS, v_tupL, v_intI, v_intB, v_asL, v_asT, v_asS, v_truB, v_truL, v_add, v_sub, v_lt, v_le, v_gt, v_ge, v_mod, v_div, v_mul, v_isN, p_sh, p_no, p_own, p_par, p_plsh, p_plno, st_sh, st_no, st_own, st_par, f_ix0, f_ix1, f_ix2, f_ix3, c_ix0, c_ix1, q_ix0, q_ix1, q_ix2, q_sl, f_kt, c_kt, c_kl, q_kt, f_len, c_len, q_len, c_go, q_go, f_go, t_go, g_cons, g_nil, v_enumT, v_enumS, v_rng1, v_rngN, v_rng2, v_n40, v_n41, v_n42, v_n43, v_setR0, q_add, v_addT, f_sl3, f_sl2, q_cutc1, q_cutc2, q_cutp1, put_own, put_par, o_rt, o_nx, r_rt, r_nx, po_par, d_eqO, d_notin, v_pow18, v_mulS, v_addL, af_c, stepC, back, List.getD_cons_zero, List.getD_cons_succ, af_nx, af_ct, af_bk, af_rt, gixT, gixL, ix0, ix1, ix2, ix3, sl_t, sl_l, eq_int, eq_bool, Option.bind_some, Option.bind_none, List.map_cons, List.map_nil, List.getElem?_cons_zero, List.getElem?_cons_succ, List.set_cons_zero, List.set_cons_succ, List.length_cons, List.length_nil, List.cons_append, List.nil_append, List.replicate, ownAt, if_true, Bool.false_eq_true, if_false, Nat.reduceAdd, Nat.reduceLeDiff, Bool.true_eq_false, Bool.false_bne, Bool.true_bne, Bool.not_true, Bool.not_false, ne_eq, not_true_eq_false, not_false_eq_true, reduceCtorEq, clean_pl, List.all_cons, List.all_nil, List.contains_cons, List.contains_nil, Nat.reduceBEq, Bool.and_self, and_self, and_true, true_and, wipeR, stepP, stepS, Option.map_some, if_and, if_or, if_tan, if_tor, Int.cast_ofNat_Int, decide_true, decide_false, Bool.true_and, Bool.and_true, Bool.or_false, Bool.false_or, Bool.and_false, Bool.false_and, in_cellsT, in_cellsL, shaped_cell, shaped_cellsL, shaped_cellsT, any_cells, map_cells]
  rfl
theorem post_shade_ok (ps : List Post) (hl : ps.length ≤ 1000) (hh : ∀ p, p ∈ ps → 1 ≤ p.2.2 ∧ p.2.2 ≤ 4) (d : Dir) : f_post_shade [.tuple (ps.map postD), .str (dirS d)] = some (.list ((postCells ps d).map cellD)) := by
  by_cases hd : d = .o
  · subst hd
    simp only [f_post_shade, m_post_shade, a_seq, a_skip, a_if, a_ret, a_retN, a_drop, a_never, a_break, a_cont, a_set, a_own, a_var, a_c, a_op, a_nil, a_cons, a_tup, a_lst, a_f, a_call, a_fn, a_isi, a_isi2, a_not, a_tru, a_tbl, a_tno, a_tan, a_to, a_and, a_or, a_chain, a_ifE, a_onone, a_osome, a_sl, a_ixL, a_ixV, a_lvar, a_inL, a_for, a_to2, a_as, a_rng, a_lcP, a_lc, a_lc2, a_sc, a_sortZ, a_setOf, a_xor, a_ownI, a_callL, a_mmNil, a_mmSh, a_mmOwn, a_par, a_tab, a_disp, a_vals0, a_vals1, a_goName, a_yes, a_fnP, a_fnR, a_mFnR, a_store, a_app, a_join, a_rep, k_tt, k_tl, k_ti, k_tb, k_ts, k_tn, k_ll, k_lt, k_li, k_lb, k_ls, k_ln, k_it, k_il, k_ii, k_ib, k_is, k_in, k_bt, k_bl, k_bi, k_bb, k_bs, k_bn, k_st, k_sl, k_si, k_sb, k_ss, k_sn, v_lenT, v_lenL, v_lenS, v_tupL, v_intI, v_intB, v_asL, v_asT, v_asS, v_truB, v_truL, v_add, v_sub, v_lt, v_le, v_gt, v_ge, v_mod, v_div, v_mul, v_isN, p_sh, p_no, p_own, p_par, p_plsh, p_plno, st_sh, st_no, st_own, st_par, f_ix0, f_ix1, f_ix2, f_ix3, c_ix0, c_ix1, q_ix0, q_ix1, q_ix2, q_sl, f_kt, c_kt, c_kl, q_kt, f_len, c_len, q_len, c_go, q_go, f_go, t_go, g_cons, g_nil, v_enumT, v_enumS, v_rng1, v_rngN, v_rng2, v_n40, v_n41, v_n42, v_n43, v_setR0, q_add, v_addT, f_sl3, f_sl2, q_cutc1, q_cutc2, q_cutp1, put_own, put_par, o_rt, o_nx, r_rt, r_nx, po_par, d_eqO, d_notin, v_pow18, v_mulS, v_addL, af_c, stepC, back, List.getD_cons_zero, List.getD_cons_succ, af_nx, af_ct, af_bk, af_rt, gixT, gixL, ix0, ix1, ix2, ix3, sl_t, sl_l, eq_int, eq_bool, Option.bind_some, Option.bind_none, List.map_cons, List.map_nil, List.getElem?_cons_zero, List.getElem?_cons_succ, List.set_cons_zero, List.set_cons_succ, List.length_cons, List.length_nil, List.cons_append, List.nil_append, List.replicate, ownAt, if_true, Bool.false_eq_true, if_false, Nat.reduceAdd, Nat.reduceLeDiff, Bool.true_eq_false, Bool.false_bne, Bool.true_bne, Bool.not_true, Bool.not_false, ne_eq, not_true_eq_false, not_false_eq_true, reduceCtorEq, clean_pl, List.all_cons, List.all_nil, List.contains_cons, List.contains_nil, Nat.reduceBEq, Bool.and_self, and_self, and_true, true_and, wipeR, stepP, stepS, Option.map_some, if_and, if_or, if_tan, if_tor, Int.cast_ofNat_Int, decide_true, decide_false, Bool.true_and, Bool.and_true, Bool.or_false, Bool.false_or, Bool.and_false, Bool.false_and, in_cellsT, in_cellsL, shaped_cell, shaped_cellsL, shaped_cellsT, any_cells, d_eqO]
    rfl
  · have hs := steps_ok d
    have hq : decide (d = .o) = false := decide_eq_false hd
    have len := postCells_len (d := d) fun p hp => (hh p hp).2
    have hl2 : (postCells ps d).length < 16000000 := by omega
    simp only [f_post_shade, m_post_shade, a_seq, a_skip, a_if, a_ret, a_retN, a_drop, a_never, a_break, a_cont, a_set, a_own, a_var, a_c, a_op, a_nil, a_cons, a_tup, a_lst, a_f, a_call, a_fn, a_isi, a_isi2, a_not, a_tru, a_tbl, a_tno, a_tan, a_to, a_and, a_or, a_chain, a_ifE, a_onone, a_osome, a_sl, a_ixL, a_ixV, a_lvar, a_inL, a_for, a_to2, a_as, a_rng, a_lcP, a_lc, a_lc2, a_sc, a_sortZ, a_setOf, a_xor, a_ownI, a_callL, a_mmNil, a_mmSh, a_mmOwn, a_par, a_tab, a_disp, a_vals0, a_vals1, a_goName, a_yes, a_fnP, a_fnR, a_mFnR, a_store, a_app, a_join, a_rep, k_tt, k_tl, k_ti, k_tb, k_ts, k_tn, k_ll, k_lt, k_li, k_lb, k_ls, k_ln, k_it, k_il, k_ii, k_ib, k_is, k_in, k_bt, k_bl, k_bi, k_bb, k_bs, k_bn, k_st, k_sl, k_si, k_sb, k_ss, k_sn, v_lenT, v_lenL, v_lenS, v_tupL, v_intI, v_intB, v_asL, v_asT, v_asS, v_truB, v_truL, v_add, v_sub, v_lt, v_le, v_gt, v_ge, v_mod, v_div, v_mul, v_isN, p_sh, p_no, p_own, p_par, p_plsh, p_plno, st_sh, st_no, st_own, st_par, f_ix0, f_ix1, f_ix2, f_ix3, c_ix0, c_ix1, q_ix0, q_ix1, q_ix2, q_sl, f_kt, c_kt, c_kl, q_kt, f_len, c_len, q_len, c_go, q_go, f_go, t_go, g_cons, g_nil, v_enumT, v_enumS, v_rng1, v_rngN, v_rng2, v_n40, v_n41, v_n42, v_n43, v_setR0, q_add, v_addT, f_sl3, f_sl2, q_cutc1, q_cutc2, q_cutp1, put_own, put_par, o_rt, o_nx, r_rt, r_nx, po_par, d_eqO, d_notin, v_pow18, v_mulS, v_addL, af_c, stepC, back, List.getD_cons_zero, List.getD_cons_succ, af_nx, af_ct, af_bk, af_rt, gixT, gixL, ix0, ix1, ix2, ix3, sl_t, sl_l, eq_int, eq_bool, Option.bind_some, Option.bind_none, List.map_cons, List.map_nil, List.getElem?_cons_zero, List.getElem?_cons_succ, List.set_cons_zero, List.set_cons_succ, List.length_cons, List.length_nil, List.cons_append, List.nil_append, List.replicate, ownAt, if_true, Bool.false_eq_true, if_false, Nat.reduceAdd, Nat.reduceLeDiff, Bool.true_eq_false, Bool.false_bne, Bool.true_bne, Bool.not_true, Bool.not_false, ne_eq, not_true_eq_false, not_false_eq_true, reduceCtorEq, clean_pl, List.all_cons, List.all_nil, List.contains_cons, List.contains_nil, Nat.reduceBEq, Bool.and_self, and_self, and_true, true_and, wipeR, stepP, stepS, Option.map_some, if_and, if_or, if_tan, if_tor, Int.cast_ofNat_Int, decide_true, decide_false, Bool.true_and, Bool.and_true, Bool.or_false, Bool.false_or, Bool.and_false, Bool.false_and, in_cellsT, in_cellsL, shaped_cell, shaped_cellsL, shaped_cellsT, any_cells, d_eqO, hq, hs]
    rw [loop2_map (ys := fun p : Post => ((List.range p.2.2.toNat).map fun (i : Nat) => ((p.1 + d.dr * (1 + (i : Int)), p.2.1 + d.dc * (1 + (i : Int))) : Cell)).map cellD) ps (fun p hp => by
      obtain ⟨h1, h2⟩ := hh p hp
      have hr : fRng2 [.int 1, .int (p.2.2 + 1)] = some (rngD 1 p.2.2.toNat) := by
        rw [v_rng2 (by omega) (by omega)]
        congr 2
        omega
      simp only [a_seq, a_skip, a_if, a_ret, a_retN, a_drop, a_never, a_break, a_cont, a_set, a_own, a_var, a_c, a_op, a_nil, a_cons, a_tup, a_lst, a_f, a_call, a_fn, a_isi, a_isi2, a_not, a_tru, a_tbl, a_tno, a_tan, a_to, a_and, a_or, a_chain, a_ifE, a_onone, a_osome, a_sl, a_ixL, a_ixV, a_lvar, a_inL, a_for, a_to2, a_as, a_rng, a_lcP, a_lc, a_lc2, a_sc, a_sortZ, a_setOf, a_xor, a_ownI, a_callL, a_mmNil, a_mmSh, a_mmOwn, a_par, a_tab, a_disp, a_vals0, a_vals1, a_goName, a_yes, a_fnP, a_fnR, a_mFnR, a_store, a_app, a_join, a_rep, k_tt, k_tl, k_ti, k_tb, k_ts, k_tn, k_ll, k_lt, k_li, k_lb, k_ls, k_ln, k_it, k_il, k_ii, k_ib, k_is, k_in, k_bt, k_bl, k_bi, k_bb, k_bs, k_bn, k_st, k_sl, k_si, k_sb, k_ss, k_sn, v_lenT, v_lenL, v_lenS, v_tupL, v_intI, v_intB, v_asL, v_asT, v_asS, v_truB, v_truL, v_add, v_sub, v_lt, v_le, v_gt, v_ge, v_mod, v_div, v_mul, v_isN, p_sh, p_no, p_own, p_par, p_plsh, p_plno, st_sh, st_no, st_own, st_par, f_ix0, f_ix1, f_ix2, f_ix3, c_ix0, c_ix1, q_ix0, q_ix1, q_ix2, q_sl, f_kt, c_kt, c_kl, q_kt, f_len, c_len, q_len, c_go, q_go, f_go, t_go, g_cons, g_nil, v_enumT, v_enumS, v_rng1, v_rngN, v_rng2, v_n40, v_n41, v_n42, v_n43, v_setR0, q_add, v_addT, f_sl3, f_sl2, q_cutc1, q_cutc2, q_cutp1, put_own, put_par, o_rt, o_nx, r_rt, r_nx, po_par, d_eqO, d_notin, v_pow18, v_mulS, v_addL, af_c, stepC, back, List.getD_cons_zero, List.getD_cons_succ, af_nx, af_ct, af_bk, af_rt, gixT, gixL, ix0, ix1, ix2, ix3, sl_t, sl_l, eq_int, eq_bool, Option.bind_some, Option.bind_none, List.map_cons, List.map_nil, List.getElem?_cons_zero, List.getElem?_cons_succ, List.set_cons_zero, List.set_cons_succ, List.length_cons, List.length_nil, List.cons_append, List.nil_append, List.replicate, ownAt, if_true, Bool.false_eq_true, if_false, Nat.reduceAdd, Nat.reduceLeDiff, Bool.true_eq_false, Bool.false_bne, Bool.true_bne, Bool.not_true, Bool.not_false, ne_eq, not_true_eq_false, not_false_eq_true, reduceCtorEq, clean_pl, List.all_cons, List.all_nil, List.contains_cons, List.contains_nil, Nat.reduceBEq, Bool.and_self, and_self, and_true, true_and, wipeR, stepP, stepS, Option.map_some, if_and, if_or, if_tan, if_tor, Int.cast_ofNat_Int, decide_true, decide_false, Bool.true_and, Bool.and_true, Bool.or_false, Bool.false_or, Bool.and_false, Bool.false_and, in_cellsT, in_cellsL, shaped_cell, shaped_cellsL, shaped_cellsT, any_cells, hr, rngD_map]
      rw [loopP_map1 (h := fun (i : Nat) => cellD (p.1 + d.dr * (1 + (i : Int)), p.2.1 + d.dc * (1 + (i : Int)))) _ (fun i hi => by
        have hi := List.mem_range.mp hi
        have m1 := v_mulS (dr_small d) (j := 1 + (i : Int)) (by omega)
        have m2 := v_mulS (dc_small d) (j := 1 + (i : Int)) (by omega)
        simp only [a_seq, a_skip, a_if, a_ret, a_retN, a_drop, a_never, a_break, a_cont, a_set, a_own, a_var, a_c, a_op, a_nil, a_cons, a_tup, a_lst, a_f, a_call, a_fn, a_isi, a_isi2, a_not, a_tru, a_tbl, a_tno, a_tan, a_to, a_and, a_or, a_chain, a_ifE, a_onone, a_osome, a_sl, a_ixL, a_ixV, a_lvar, a_inL, a_for, a_to2, a_as, a_rng, a_lcP, a_lc, a_lc2, a_sc, a_sortZ, a_setOf, a_xor, a_ownI, a_callL, a_mmNil, a_mmSh, a_mmOwn, a_par, a_tab, a_disp, a_vals0, a_vals1, a_goName, a_yes, a_fnP, a_fnR, a_mFnR, a_store, a_app, a_join, a_rep, k_tt, k_tl, k_ti, k_tb, k_ts, k_tn, k_ll, k_lt, k_li, k_lb, k_ls, k_ln, k_it, k_il, k_ii, k_ib, k_is, k_in, k_bt, k_bl, k_bi, k_bb, k_bs, k_bn, k_st, k_sl, k_si, k_sb, k_ss, k_sn, v_lenT, v_lenL, v_lenS, v_tupL, v_intI, v_intB, v_asL, v_asT, v_asS, v_truB, v_truL, v_add, v_sub, v_lt, v_le, v_gt, v_ge, v_mod, v_div, v_mul, v_isN, p_sh, p_no, p_own, p_par, p_plsh, p_plno, st_sh, st_no, st_own, st_par, f_ix0, f_ix1, f_ix2, f_ix3, c_ix0, c_ix1, q_ix0, q_ix1, q_ix2, q_sl, f_kt, c_kt, c_kl, q_kt, f_len, c_len, q_len, c_go, q_go, f_go, t_go, g_cons, g_nil, v_enumT, v_enumS, v_rng1, v_rngN, v_rng2, v_n40, v_n41, v_n42, v_n43, v_setR0, q_add, v_addT, f_sl3, f_sl2, q_cutc1, q_cutc2, q_cutp1, put_own, put_par, o_rt, o_nx, r_rt, r_nx, po_par, d_eqO, d_notin, v_pow18, v_mulS, v_addL, af_c, stepC, back, List.getD_cons_zero, List.getD_cons_succ, af_nx, af_ct, af_bk, af_rt, gixT, gixL, ix0, ix1, ix2, ix3, sl_t, sl_l, eq_int, eq_bool, Option.bind_some, Option.bind_none, List.map_cons, List.map_nil, List.getElem?_cons_zero, List.getElem?_cons_succ, List.set_cons_zero, List.set_cons_succ, List.length_cons, List.length_nil, List.cons_append, List.nil_append, List.replicate, ownAt, if_true, Bool.false_eq_true, if_false, Nat.reduceAdd, Nat.reduceLeDiff, Bool.true_eq_false, Bool.false_bne, Bool.true_bne, Bool.not_true, Bool.not_false, ne_eq, not_true_eq_false, not_false_eq_true, reduceCtorEq, clean_pl, List.all_cons, List.all_nil, List.contains_cons, List.contains_nil, Nat.reduceBEq, Bool.and_self, and_self, and_true, true_and, wipeR, stepP, stepS, Option.map_some, if_and, if_or, if_tan, if_tor, Int.cast_ofNat_Int, decide_true, decide_false, Bool.true_and, Bool.and_true, Bool.or_false, Bool.false_or, Bool.and_false, Bool.false_and, in_cellsT, in_cellsL, shaped_cell, shaped_cellsL, shaped_cellsT, any_cells, m1, m2]
        rfl)]
      rw [map_cells])]
    rw [flat_cells]
    unfold postCells at hl2 ⊢
    rw [if_neg hd] at hl2 ⊢
    simp only [a_seq, a_skip, a_if, a_ret, a_retN, a_drop, a_never, a_break, a_cont, a_set, a_own, a_var, a_c, a_op, a_nil, a_cons, a_tup, a_lst, a_f, a_call, a_fn, a_isi, a_isi2, a_not, a_tru, a_tbl, a_tno, a_tan, a_to, a_and, a_or, a_chain, a_ifE, a_onone, a_osome, a_sl, a_ixL, a_ixV, a_lvar, a_inL, a_for, a_to2, a_as, a_rng, a_lcP, a_lc, a_lc2, a_sc, a_sortZ, a_setOf, a_xor, a_ownI, a_callL, a_mmNil, a_mmSh, a_mmOwn, a_par, a_tab, a_disp, a_vals0, a_vals1, a_goName, a_yes, a_fnP, a_fnR, a_mFnR, a_store, a_app, a_join, a_rep, k_tt, k_tl, k_ti, k_tb, k_ts, k_tn, k_ll, k_lt, k_li, k_lb, k_ls, k_ln, k_it, k_il, k_ii, k_ib, k_is, k_in, k_bt, k_bl, k_bi, k_bb, k_bs, k_bn, k_st, k_sl, k_si, k_sb, k_ss, k_sn, v_lenT, v_lenL, v_lenS, v_tupL, v_intI, v_intB, v_asL, v_asT, v_asS, v_truB, v_truL, v_add, v_sub, v_lt, v_le, v_gt, v_ge, v_mod, v_div, v_mul, v_isN, p_sh, p_no, p_own, p_par, p_plsh, p_plno, st_sh, st_no, st_own, st_par, f_ix0, f_ix1, f_ix2, f_ix3, c_ix0, c_ix1, q_ix0, q_ix1, q_ix2, q_sl, f_kt, c_kt, c_kl, q_kt, f_len, c_len, q_len, c_go, q_go, f_go, t_go, g_cons, g_nil, v_enumT, v_enumS, v_rng1, v_rngN, v_rng2, v_n40, v_n41, v_n42, v_n43, v_setR0, q_add, v_addT, f_sl3, f_sl2, q_cutc1, q_cutc2, q_cutp1, put_own, put_par, o_rt, o_nx, r_rt, r_nx, po_par, d_eqO, d_notin, v_pow18, v_mulS, v_addL, af_c, stepC, back, List.getD_cons_zero, List.getD_cons_succ, af_nx, af_ct, af_bk, af_rt, gixT, gixL, ix0, ix1, ix2, ix3, sl_t, sl_l, eq_int, eq_bool, Option.bind_some, Option.bind_none, List.map_cons, List.map_nil, List.getElem?_cons_zero, List.getElem?_cons_succ, List.set_cons_zero, List.set_cons_succ, List.length_cons, List.length_nil, List.cons_append, List.nil_append, List.replicate, ownAt, if_true, Bool.false_eq_true, if_false, Nat.reduceAdd, Nat.reduceLeDiff, Bool.true_eq_false, Bool.false_bne, Bool.true_bne, Bool.not_true, Bool.not_false, ne_eq, not_true_eq_false, not_false_eq_true, reduceCtorEq, clean_pl, List.all_cons, List.all_nil, List.contains_cons, List.contains_nil, Nat.reduceBEq, Bool.and_self, and_self, and_true, true_and, wipeR, stepP, stepS, Option.map_some, if_and, if_or, if_tan, if_tor, Int.cast_ofNat_Int, decide_true, decide_false, Bool.true_and, Bool.and_true, Bool.or_false, Bool.false_or, Bool.and_false, Bool.false_and, in_cellsT, in_cellsL, shaped_cell, shaped_cellsL, shaped_cellsT, any_cells, List.length_map, hl2]
theorem shaded_ok {F : Fl} (O : F.Ok) (d : Dir) : f_shaded [flD F, .str (dirS d)] = some (.list ((shadeOf F d).map cellD)) := by
  have h1 := post_shade_ok F.posts (by have := O.pl; omega) (fun p hp => (O.ph p hp).2) d
  have h2 := awning_shade_ok F.aw (by have := O.al; omega) d
  have l1 := postCells_len (ps := F.posts) (d := d) fun p hp => (O.ph p hp).2.2
  have l2 : (awCells F.aw d).length = F.aw.length := List.length_map _
  have h3 : gAdd (.list ((postCells F.posts d).map cellD)) (.list ((awCells F.aw d).map cellD)) = some (.list ((postCells F.posts d ++ awCells F.aw d).map cellD)) := by
    rw [v_addL, List.map_append]
    rw [List.length_map, List.length_map]
    have := O.pl
    have := O.al
    omega
  have few := shade_few O d
  simp only [f_shaded, m_shaded, a_seq, a_skip, a_if, a_ret, a_retN, a_drop, a_never, a_break, a_cont, a_set, a_own, a_var, a_c, a_op, a_nil, a_cons, a_tup, a_lst, a_f, a_call, a_fn, a_isi, a_isi2, a_not, a_tru, a_tbl, a_tno, a_tan, a_to, a_and, a_or, a_chain, a_ifE, a_onone, a_osome, a_sl, a_ixL, a_ixV, a_lvar, a_inL, a_for, a_to2, a_as, a_rng, a_lcP, a_lc, a_lc2, a_sc, a_sortZ, a_setOf, a_xor, a_ownI, a_callL, a_mmNil, a_mmSh, a_mmOwn, a_par, a_tab, a_disp, a_vals0, a_vals1, a_goName, a_yes, a_fnP, a_fnR, a_mFnR, a_store, a_app, a_join, a_rep, k_tt, k_tl, k_ti, k_tb, k_ts, k_tn, k_ll, k_lt, k_li, k_lb, k_ls, k_ln, k_it, k_il, k_ii, k_ib, k_is, k_in, k_bt, k_bl, k_bi, k_bb, k_bs, k_bn, k_st, k_sl, k_si, k_sb, k_ss, k_sn, v_lenT, v_lenL, v_lenS, v_tupL, v_intI, v_intB, v_asL, v_asT, v_asS, v_truB, v_truL, v_add, v_sub, v_lt, v_le, v_gt, v_ge, v_mod, v_div, v_mul, v_isN, p_sh, p_no, p_own, p_par, p_plsh, p_plno, st_sh, st_no, st_own, st_par, f_ix0, f_ix1, f_ix2, f_ix3, c_ix0, c_ix1, q_ix0, q_ix1, q_ix2, q_sl, f_kt, c_kt, c_kl, q_kt, f_len, c_len, q_len, c_go, q_go, f_go, t_go, g_cons, g_nil, v_enumT, v_enumS, v_rng1, v_rngN, v_rng2, v_n40, v_n41, v_n42, v_n43, v_setR0, q_add, v_addT, f_sl3, f_sl2, q_cutc1, q_cutc2, q_cutp1, put_own, put_par, o_rt, o_nx, r_rt, r_nx, po_par, d_eqO, d_notin, v_pow18, v_mulS, v_addL, af_c, stepC, back, List.getD_cons_zero, List.getD_cons_succ, af_nx, af_ct, af_bk, af_rt, gixT, gixL, ix0, ix1, ix2, ix3, sl_t, sl_l, eq_int, eq_bool, Option.bind_some, Option.bind_none, List.map_cons, List.map_nil, List.getElem?_cons_zero, List.getElem?_cons_succ, List.set_cons_zero, List.set_cons_succ, List.length_cons, List.length_nil, List.cons_append, List.nil_append, List.replicate, ownAt, if_true, Bool.false_eq_true, if_false, Nat.reduceAdd, Nat.reduceLeDiff, Bool.true_eq_false, Bool.false_bne, Bool.true_bne, Bool.not_true, Bool.not_false, ne_eq, not_true_eq_false, not_false_eq_true, reduceCtorEq, clean_pl, List.all_cons, List.all_nil, List.contains_cons, List.contains_nil, Nat.reduceBEq, Bool.and_self, and_self, and_true, true_and, wipeR, stepP, stepS, Option.map_some, if_and, if_or, if_tan, if_tor, Int.cast_ofNat_Int, decide_true, decide_false, Bool.true_and, Bool.and_true, Bool.or_false, Bool.false_or, Bool.and_false, Bool.false_and, in_cellsT, in_cellsL, shaped_cell, shaped_cellsL, shaped_cellsT, any_cells, h1, h2, h3]
  rw [loopP_map (p := inF F) (h := cellD) _ (fun c hc => by
    simp only [a_seq, a_skip, a_if, a_ret, a_retN, a_drop, a_never, a_break, a_cont, a_set, a_own, a_var, a_c, a_op, a_nil, a_cons, a_tup, a_lst, a_f, a_call, a_fn, a_isi, a_isi2, a_not, a_tru, a_tbl, a_tno, a_tan, a_to, a_and, a_or, a_chain, a_ifE, a_onone, a_osome, a_sl, a_ixL, a_ixV, a_lvar, a_inL, a_for, a_to2, a_as, a_rng, a_lcP, a_lc, a_lc2, a_sc, a_sortZ, a_setOf, a_xor, a_ownI, a_callL, a_mmNil, a_mmSh, a_mmOwn, a_par, a_tab, a_disp, a_vals0, a_vals1, a_goName, a_yes, a_fnP, a_fnR, a_mFnR, a_store, a_app, a_join, a_rep, k_tt, k_tl, k_ti, k_tb, k_ts, k_tn, k_ll, k_lt, k_li, k_lb, k_ls, k_ln, k_it, k_il, k_ii, k_ib, k_is, k_in, k_bt, k_bl, k_bi, k_bb, k_bs, k_bn, k_st, k_sl, k_si, k_sb, k_ss, k_sn, v_lenT, v_lenL, v_lenS, v_tupL, v_intI, v_intB, v_asL, v_asT, v_asS, v_truB, v_truL, v_add, v_sub, v_lt, v_le, v_gt, v_ge, v_mod, v_div, v_mul, v_isN, p_sh, p_no, p_own, p_par, p_plsh, p_plno, st_sh, st_no, st_own, st_par, f_ix0, f_ix1, f_ix2, f_ix3, c_ix0, c_ix1, q_ix0, q_ix1, q_ix2, q_sl, f_kt, c_kt, c_kl, q_kt, f_len, c_len, q_len, c_go, q_go, f_go, t_go, g_cons, g_nil, v_enumT, v_enumS, v_rng1, v_rngN, v_rng2, v_n40, v_n41, v_n42, v_n43, v_setR0, q_add, v_addT, f_sl3, f_sl2, q_cutc1, q_cutc2, q_cutp1, put_own, put_par, o_rt, o_nx, r_rt, r_nx, po_par, d_eqO, d_notin, v_pow18, v_mulS, v_addL, af_c, stepC, back, List.getD_cons_zero, List.getD_cons_succ, af_nx, af_ct, af_bk, af_rt, gixT, gixL, ix0, ix1, ix2, ix3, sl_t, sl_l, eq_int, eq_bool, Option.bind_some, Option.bind_none, List.map_cons, List.map_nil, List.getElem?_cons_zero, List.getElem?_cons_succ, List.set_cons_zero, List.set_cons_succ, List.length_cons, List.length_nil, List.cons_append, List.nil_append, List.replicate, ownAt, if_true, Bool.false_eq_true, if_false, Nat.reduceAdd, Nat.reduceLeDiff, Bool.true_eq_false, Bool.false_bne, Bool.true_bne, Bool.not_true, Bool.not_false, ne_eq, not_true_eq_false, not_false_eq_true, reduceCtorEq, clean_pl, List.all_cons, List.all_nil, List.contains_cons, List.contains_nil, Nat.reduceBEq, Bool.and_self, and_self, and_true, true_and, wipeR, stepP, stepS, Option.map_some, if_and, if_or, if_tan, if_tor, Int.cast_ofNat_Int, decide_true, decide_false, Bool.true_and, Bool.and_true, Bool.or_false, Bool.false_or, Bool.and_false, Bool.false_and, in_cellsT, in_cellsL, shaped_cell, shaped_cellsL, shaped_cellsT, any_cells]
    exact some_if (inF F c) (cellD c))]
  simp only [a_seq, a_skip, a_if, a_ret, a_retN, a_drop, a_never, a_break, a_cont, a_set, a_own, a_var, a_c, a_op, a_nil, a_cons, a_tup, a_lst, a_f, a_call, a_fn, a_isi, a_isi2, a_not, a_tru, a_tbl, a_tno, a_tan, a_to, a_and, a_or, a_chain, a_ifE, a_onone, a_osome, a_sl, a_ixL, a_ixV, a_lvar, a_inL, a_for, a_to2, a_as, a_rng, a_lcP, a_lc, a_lc2, a_sc, a_sortZ, a_setOf, a_xor, a_ownI, a_callL, a_mmNil, a_mmSh, a_mmOwn, a_par, a_tab, a_disp, a_vals0, a_vals1, a_goName, a_yes, a_fnP, a_fnR, a_mFnR, a_store, a_app, a_join, a_rep, k_tt, k_tl, k_ti, k_tb, k_ts, k_tn, k_ll, k_lt, k_li, k_lb, k_ls, k_ln, k_it, k_il, k_ii, k_ib, k_is, k_in, k_bt, k_bl, k_bi, k_bb, k_bs, k_bn, k_st, k_sl, k_si, k_sb, k_ss, k_sn, v_lenT, v_lenL, v_lenS, v_tupL, v_intI, v_intB, v_asL, v_asT, v_asS, v_truB, v_truL, v_add, v_sub, v_lt, v_le, v_gt, v_ge, v_mod, v_div, v_mul, v_isN, p_sh, p_no, p_own, p_par, p_plsh, p_plno, st_sh, st_no, st_own, st_par, f_ix0, f_ix1, f_ix2, f_ix3, c_ix0, c_ix1, q_ix0, q_ix1, q_ix2, q_sl, f_kt, c_kt, c_kl, q_kt, f_len, c_len, q_len, c_go, q_go, f_go, t_go, g_cons, g_nil, v_enumT, v_enumS, v_rng1, v_rngN, v_rng2, v_n40, v_n41, v_n42, v_n43, v_setR0, q_add, v_addT, f_sl3, f_sl2, q_cutc1, q_cutc2, q_cutp1, put_own, put_par, o_rt, o_nx, r_rt, r_nx, po_par, d_eqO, d_notin, v_pow18, v_mulS, v_addL, af_c, stepC, back, List.getD_cons_zero, List.getD_cons_succ, af_nx, af_ct, af_bk, af_rt, gixT, gixL, ix0, ix1, ix2, ix3, sl_t, sl_l, eq_int, eq_bool, Option.bind_some, Option.bind_none, List.map_cons, List.map_nil, List.getElem?_cons_zero, List.getElem?_cons_succ, List.set_cons_zero, List.set_cons_succ, List.length_cons, List.length_nil, List.cons_append, List.nil_append, List.replicate, ownAt, if_true, Bool.false_eq_true, if_false, Nat.reduceAdd, Nat.reduceLeDiff, Bool.true_eq_false, Bool.false_bne, Bool.true_bne, Bool.not_true, Bool.not_false, ne_eq, not_true_eq_false, not_false_eq_true, reduceCtorEq, clean_pl, List.all_cons, List.all_nil, List.contains_cons, List.contains_nil, Nat.reduceBEq, Bool.and_self, and_self, and_true, true_and, wipeR, stepP, stepS, Option.map_some, if_and, if_or, if_tan, if_tor, Int.cast_ofNat_Int, decide_true, decide_false, Bool.true_and, Bool.and_true, Bool.or_false, Bool.false_or, Bool.and_false, Bool.false_and, in_cellsT, in_cellsL, shaped_cell, shaped_cellsL, shaped_cellsT, any_cells, untups_cells, List.length_map, few, all_ok O, canon_shade O, tupD_cells]
theorem shade_ok {F : Fl} (O : F.Ok) {l : List Dir} (h1 : l ≠ []) (h2 : l.length ≤ 6) {b : Int} (h3 : 0 ≤ b) (h4 : b ≤ 1000000000000000000) {d : Dir} (hd : l[(b % l.length).toNat]? = some d) :
    f_shade [flD F, .str (sunS l), .int b] = some (.list ((shadeOf F d).map cellD)) := by
  have len : fLen [.str (sunS l)] = some (.int l.length) := by
    rw [v_lenS (by rw [sun_len]; omega), sun_len]
  have pos : 0 < (l.length : Int) := by
    have := List.length_pos_iff.mpr h1
    omega
  have e := Int.emod_nonneg b (show (l.length : Int) ≠ 0 by omega)
  have ix := sun_ix (l := l) (by omega) hd
  rw [show (((b % l.length).toNat : Nat) : Int) = b % l.length by omega] at ix
  simp only [f_shade, m_shade, a_seq, a_skip, a_if, a_ret, a_retN, a_drop, a_never, a_break, a_cont, a_set, a_own, a_var, a_c, a_op, a_nil, a_cons, a_tup, a_lst, a_f, a_call, a_fn, a_isi, a_isi2, a_not, a_tru, a_tbl, a_tno, a_tan, a_to, a_and, a_or, a_chain, a_ifE, a_onone, a_osome, a_sl, a_ixL, a_ixV, a_lvar, a_inL, a_for, a_to2, a_as, a_rng, a_lcP, a_lc, a_lc2, a_sc, a_sortZ, a_setOf, a_xor, a_ownI, a_callL, a_mmNil, a_mmSh, a_mmOwn, a_par, a_tab, a_disp, a_vals0, a_vals1, a_goName, a_yes, a_fnP, a_fnR, a_mFnR, a_store, a_app, a_join, a_rep, k_tt, k_tl, k_ti, k_tb, k_ts, k_tn, k_ll, k_lt, k_li, k_lb, k_ls, k_ln, k_it, k_il, k_ii, k_ib, k_is, k_in, k_bt, k_bl, k_bi, k_bb, k_bs, k_bn, k_st, k_sl, k_si, k_sb, k_ss, k_sn, v_lenT, v_lenL, v_lenS, v_tupL, v_intI, v_intB, v_asL, v_asT, v_asS, v_truB, v_truL, v_add, v_sub, v_lt, v_le, v_gt, v_ge, v_mod, v_div, v_mul, v_isN, p_sh, p_no, p_own, p_par, p_plsh, p_plno, st_sh, st_no, st_own, st_par, f_ix0, f_ix1, f_ix2, f_ix3, c_ix0, c_ix1, q_ix0, q_ix1, q_ix2, q_sl, f_kt, c_kt, c_kl, q_kt, f_len, c_len, q_len, c_go, q_go, f_go, t_go, g_cons, g_nil, v_enumT, v_enumS, v_rng1, v_rngN, v_rng2, v_n40, v_n41, v_n42, v_n43, v_setR0, q_add, v_addT, f_sl3, f_sl2, q_cutc1, q_cutc2, q_cutp1, put_own, put_par, o_rt, o_nx, r_rt, r_nx, po_par, d_eqO, d_notin, v_pow18, v_mulS, v_addL, af_c, stepC, back, List.getD_cons_zero, List.getD_cons_succ, af_nx, af_ct, af_bk, af_rt, gixT, gixL, ix0, ix1, ix2, ix3, sl_t, sl_l, eq_int, eq_bool, Option.bind_some, Option.bind_none, List.map_cons, List.map_nil, List.getElem?_cons_zero, List.getElem?_cons_succ, List.set_cons_zero, List.set_cons_succ, List.length_cons, List.length_nil, List.cons_append, List.nil_append, List.replicate, ownAt, if_true, Bool.false_eq_true, if_false, Nat.reduceAdd, Nat.reduceLeDiff, Bool.true_eq_false, Bool.false_bne, Bool.true_bne, Bool.not_true, Bool.not_false, ne_eq, not_true_eq_false, not_false_eq_true, reduceCtorEq, clean_pl, List.all_cons, List.all_nil, List.contains_cons, List.contains_nil, Nat.reduceBEq, Bool.and_self, and_self, and_true, true_and, wipeR, stepP, stepS, Option.map_some, if_and, if_or, if_tan, if_tor, Int.cast_ofNat_Int, decide_true, decide_false, Bool.true_and, Bool.and_true, Bool.or_false, Bool.false_or, Bool.and_false, Bool.false_and, in_cellsT, in_cellsL, shaped_cell, shaped_cellsL, shaped_cellsT, any_cells, check_floor_ok O, check_sun_ok h1 h2, check_beats_ok h3 h4, len, v_mod pos, ix, shaded_ok O]
/-- the law's row of drawn numbers -/
def RowOk (rs : List PyData) : Prop := ∃ (xs : List Int) (a b c : Int), rs = [.list (xs.map PyData.int), .int a, .int b, .int c] ∧ 0 ≤ a ∧ 0 ≤ b ∧ b < 2147483647
theorem taken_ok {rs : List PyData} (h : RowOk rs) {n : Int} (hn : 0 < n) (hn2 : n < 2 ^ 64) : ∃ k rs', f__law_taken rs [.int n] = some (.int k, rs') ∧ RowOk rs' ∧ 0 ≤ k ∧ k < n := by
  obtain ⟨xs, a, b, c, rfl, ha, hb, hb2⟩ := h
  have nl : n.natAbs.log2 < 9000 := Nat.lt_trans (log2_le (k := 64) (by omega) (by decide)) (by decide)
  have md : ∀ x : Int, gMod (.int x) (.int n) = some (.int (x % n)) := fun x => v_mod hn
  have dv : ∀ x : Int, gDiv (.int x) (.int n) = some (.int (x / n)) := fun x => v_div hn nl
  have bd : ∀ x : Int, 0 ≤ x % n ∧ x % n < n := fun x => ⟨Int.emod_nonneg x (by omega), Int.emod_lt_of_pos x hn⟩
  have mu : gMulI (.int b) (.int 48271) = some (.int (b * 48271)) := by
    refine v_mul ?_
    have h1 := log2_le (n := b.natAbs) (k := 32) (by omega) (by decide)
    have h2 := log2_le (n := (48271 : Int).natAbs) (k := 32) (by decide) (by decide)
    omega
  have mp : ∀ x : Int, gMod (.int x) (.int 2147483647) = some (.int (x % 2147483647)) := fun x => v_mod (by decide)
  have d7 : ∀ x : Int, gDiv (.int x) (.int 7) = some (.int (x / 7)) := fun x => v_div (by decide) (by decide +kernel)
  have bb : ∀ x : Int, 0 ≤ x % 2147483647 ∧ x % 2147483647 < 2147483647 := fun x => ⟨Int.emod_nonneg x (by decide), Int.emod_lt_of_pos x (by decide)⟩
  by_cases hc : 0 < c
  · simp only [f__law_taken, m__law_taken, a_seq, a_skip, a_if, a_ret, a_retN, a_drop, a_never, a_break, a_cont, a_set, a_own, a_var, a_c, a_op, a_nil, a_cons, a_tup, a_lst, a_f, a_call, a_fn, a_isi, a_isi2, a_not, a_tru, a_tbl, a_tno, a_tan, a_to, a_and, a_or, a_chain, a_ifE, a_onone, a_osome, a_sl, a_ixL, a_ixV, a_lvar, a_inL, a_for, a_to2, a_as, a_rng, a_lcP, a_lc, a_lc2, a_sc, a_sortZ, a_setOf, a_xor, a_ownI, a_callL, a_mmNil, a_mmSh, a_mmOwn, a_par, a_tab, a_disp, a_vals0, a_vals1, a_goName, a_yes, a_fnP, a_fnR, a_mFnR, a_store, a_app, a_join, a_rep, k_tt, k_tl, k_ti, k_tb, k_ts, k_tn, k_ll, k_lt, k_li, k_lb, k_ls, k_ln, k_it, k_il, k_ii, k_ib, k_is, k_in, k_bt, k_bl, k_bi, k_bb, k_bs, k_bn, k_st, k_sl, k_si, k_sb, k_ss, k_sn, v_lenT, v_lenL, v_lenS, v_tupL, v_intI, v_intB, v_asL, v_asT, v_asS, v_truB, v_truL, v_add, v_sub, v_lt, v_le, v_gt, v_ge, v_mod, v_div, v_mul, v_isN, p_sh, p_no, p_own, p_par, p_plsh, p_plno, st_sh, st_no, st_own, st_par, f_ix0, f_ix1, f_ix2, f_ix3, c_ix0, c_ix1, q_ix0, q_ix1, q_ix2, q_sl, f_kt, c_kt, c_kl, q_kt, f_len, c_len, q_len, c_go, q_go, f_go, t_go, g_cons, g_nil, v_enumT, v_enumS, v_rng1, v_rngN, v_rng2, v_n40, v_n41, v_n42, v_n43, v_setR0, q_add, v_addT, f_sl3, f_sl2, q_cutc1, q_cutc2, q_cutp1, put_own, put_par, o_rt, o_nx, r_rt, r_nx, po_par, d_eqO, d_notin, v_pow18, v_mulS, v_addL, af_c, stepC, back, List.getD_cons_zero, List.getD_cons_succ, af_nx, af_ct, af_bk, af_rt, gixT, gixL, ix0, ix1, ix2, ix3, sl_t, sl_l, eq_int, eq_bool, Option.bind_some, Option.bind_none, List.map_cons, List.map_nil, List.getElem?_cons_zero, List.getElem?_cons_succ, List.set_cons_zero, List.set_cons_succ, List.length_cons, List.length_nil, List.cons_append, List.nil_append, List.replicate, ownAt, if_true, Bool.false_eq_true, if_false, Nat.reduceAdd, Nat.reduceLeDiff, Bool.true_eq_false, Bool.false_bne, Bool.true_bne, Bool.not_true, Bool.not_false, ne_eq, not_true_eq_false, not_false_eq_true, reduceCtorEq, clean_pl, List.all_cons, List.all_nil, List.contains_cons, List.contains_nil, Nat.reduceBEq, Bool.and_self, and_self, and_true, true_and, wipeR, stepP, stepS, Option.map_some, if_and, if_or, if_tan, if_tor, Int.cast_ofNat_Int, decide_true, decide_false, Bool.true_and, Bool.and_true, Bool.or_false, Bool.false_or, Bool.and_false, Bool.false_and, in_cellsT, in_cellsL, shaped_cell, shaped_cellsL, shaped_cellsT, any_cells, md, dv, hc]
    exact ⟨_, _, rfl, ⟨xs, a, b, _, rfl, ha, hb, hb2⟩, bd _⟩
  · by_cases hx : (xs.length : Int) < a + 1
    · simp only [f__law_taken, m__law_taken, a_seq, a_skip, a_if, a_ret, a_retN, a_drop, a_never, a_break, a_cont, a_set, a_own, a_var, a_c, a_op, a_nil, a_cons, a_tup, a_lst, a_f, a_call, a_fn, a_isi, a_isi2, a_not, a_tru, a_tbl, a_tno, a_tan, a_to, a_and, a_or, a_chain, a_ifE, a_onone, a_osome, a_sl, a_ixL, a_ixV, a_lvar, a_inL, a_for, a_to2, a_as, a_rng, a_lcP, a_lc, a_lc2, a_sc, a_sortZ, a_setOf, a_xor, a_ownI, a_callL, a_mmNil, a_mmSh, a_mmOwn, a_par, a_tab, a_disp, a_vals0, a_vals1, a_goName, a_yes, a_fnP, a_fnR, a_mFnR, a_store, a_app, a_join, a_rep, k_tt, k_tl, k_ti, k_tb, k_ts, k_tn, k_ll, k_lt, k_li, k_lb, k_ls, k_ln, k_it, k_il, k_ii, k_ib, k_is, k_in, k_bt, k_bl, k_bi, k_bb, k_bs, k_bn, k_st, k_sl, k_si, k_sb, k_ss, k_sn, v_lenT, v_lenL, v_lenS, v_tupL, v_intI, v_intB, v_asL, v_asT, v_asS, v_truB, v_truL, v_add, v_sub, v_lt, v_le, v_gt, v_ge, v_mod, v_div, v_mul, v_isN, p_sh, p_no, p_own, p_par, p_plsh, p_plno, st_sh, st_no, st_own, st_par, f_ix0, f_ix1, f_ix2, f_ix3, c_ix0, c_ix1, q_ix0, q_ix1, q_ix2, q_sl, f_kt, c_kt, c_kl, q_kt, f_len, c_len, q_len, c_go, q_go, f_go, t_go, g_cons, g_nil, v_enumT, v_enumS, v_rng1, v_rngN, v_rng2, v_n40, v_n41, v_n42, v_n43, v_setR0, q_add, v_addT, f_sl3, f_sl2, q_cutc1, q_cutc2, q_cutp1, put_own, put_par, o_rt, o_nx, r_rt, r_nx, po_par, d_eqO, d_notin, v_pow18, v_mulS, v_addL, af_c, stepC, back, List.getD_cons_zero, List.getD_cons_succ, af_nx, af_ct, af_bk, af_rt, gixT, gixL, ix0, ix1, ix2, ix3, sl_t, sl_l, eq_int, eq_bool, Option.bind_some, Option.bind_none, List.map_cons, List.map_nil, List.getElem?_cons_zero, List.getElem?_cons_succ, List.set_cons_zero, List.set_cons_succ, List.length_cons, List.length_nil, List.cons_append, List.nil_append, List.replicate, ownAt, if_true, Bool.false_eq_true, if_false, Nat.reduceAdd, Nat.reduceLeDiff, Bool.true_eq_false, Bool.false_bne, Bool.true_bne, Bool.not_true, Bool.not_false, ne_eq, not_true_eq_false, not_false_eq_true, reduceCtorEq, clean_pl, List.all_cons, List.all_nil, List.contains_cons, List.contains_nil, Nat.reduceBEq, Bool.and_self, and_self, and_true, true_and, wipeR, stepP, stepS, Option.map_some, if_and, if_or, if_tan, if_tor, Int.cast_ofNat_Int, decide_true, decide_false, Bool.true_and, Bool.and_true, Bool.or_false, Bool.false_or, Bool.and_false, Bool.false_and, in_cellsT, in_cellsL, shaped_cell, shaped_cellsL, shaped_cellsT, any_cells, md, dv, hc, List.length_map, hx, mu, mp, d7]
      exact ⟨_, _, rfl, ⟨xs, _, _, _, rfl, by omega, (bb _).1, (bb _).2⟩, bd _⟩
    · have hl : a.toNat < xs.length := by omega
      have ix : gIx (.list (xs.map PyData.int)) (.int (a + 1 - 1)) = some (.int xs[a.toNat]) := by
        have := atI_nat (xs := xs.map PyData.int) (i := a.toNat) (by rw [List.length_map]; exact hl)
        rw [gixL, show a + 1 - 1 = ((a.toNat : Nat) : Int) by omega, this, List.getElem?_map, List.getElem?_eq_getElem hl]
        rfl
      by_cases hb : (1000000000000000000 : Int) ≤ xs[a.toNat]
      · simp only [f__law_taken, m__law_taken, a_seq, a_skip, a_if, a_ret, a_retN, a_drop, a_never, a_break, a_cont, a_set, a_own, a_var, a_c, a_op, a_nil, a_cons, a_tup, a_lst, a_f, a_call, a_fn, a_isi, a_isi2, a_not, a_tru, a_tbl, a_tno, a_tan, a_to, a_and, a_or, a_chain, a_ifE, a_onone, a_osome, a_sl, a_ixL, a_ixV, a_lvar, a_inL, a_for, a_to2, a_as, a_rng, a_lcP, a_lc, a_lc2, a_sc, a_sortZ, a_setOf, a_xor, a_ownI, a_callL, a_mmNil, a_mmSh, a_mmOwn, a_par, a_tab, a_disp, a_vals0, a_vals1, a_goName, a_yes, a_fnP, a_fnR, a_mFnR, a_store, a_app, a_join, a_rep, k_tt, k_tl, k_ti, k_tb, k_ts, k_tn, k_ll, k_lt, k_li, k_lb, k_ls, k_ln, k_it, k_il, k_ii, k_ib, k_is, k_in, k_bt, k_bl, k_bi, k_bb, k_bs, k_bn, k_st, k_sl, k_si, k_sb, k_ss, k_sn, v_lenT, v_lenL, v_lenS, v_tupL, v_intI, v_intB, v_asL, v_asT, v_asS, v_truB, v_truL, v_add, v_sub, v_lt, v_le, v_gt, v_ge, v_mod, v_div, v_mul, v_isN, p_sh, p_no, p_own, p_par, p_plsh, p_plno, st_sh, st_no, st_own, st_par, f_ix0, f_ix1, f_ix2, f_ix3, c_ix0, c_ix1, q_ix0, q_ix1, q_ix2, q_sl, f_kt, c_kt, c_kl, q_kt, f_len, c_len, q_len, c_go, q_go, f_go, t_go, g_cons, g_nil, v_enumT, v_enumS, v_rng1, v_rngN, v_rng2, v_n40, v_n41, v_n42, v_n43, v_setR0, q_add, v_addT, f_sl3, f_sl2, q_cutc1, q_cutc2, q_cutp1, put_own, put_par, o_rt, o_nx, r_rt, r_nx, po_par, d_eqO, d_notin, v_pow18, v_mulS, v_addL, af_c, stepC, back, List.getD_cons_zero, List.getD_cons_succ, af_nx, af_ct, af_bk, af_rt, gixT, gixL, ix0, ix1, ix2, ix3, sl_t, sl_l, eq_int, eq_bool, Option.bind_some, Option.bind_none, List.map_cons, List.map_nil, List.getElem?_cons_zero, List.getElem?_cons_succ, List.set_cons_zero, List.set_cons_succ, List.length_cons, List.length_nil, List.cons_append, List.nil_append, List.replicate, ownAt, if_true, Bool.false_eq_true, if_false, Nat.reduceAdd, Nat.reduceLeDiff, Bool.true_eq_false, Bool.false_bne, Bool.true_bne, Bool.not_true, Bool.not_false, ne_eq, not_true_eq_false, not_false_eq_true, reduceCtorEq, clean_pl, List.all_cons, List.all_nil, List.contains_cons, List.contains_nil, Nat.reduceBEq, Bool.and_self, and_self, and_true, true_and, wipeR, stepP, stepS, Option.map_some, if_and, if_or, if_tan, if_tor, Int.cast_ofNat_Int, decide_true, decide_false, Bool.true_and, Bool.and_true, Bool.or_false, Bool.false_or, Bool.and_false, Bool.false_and, in_cellsT, in_cellsL, shaped_cell, shaped_cellsL, shaped_cellsT, any_cells, md, dv, hc, List.length_map, hx, mu, mp, d7, ix, hb]
        exact ⟨_, _, rfl, ⟨xs, _, _, _, rfl, by omega, (bb _).1, (bb _).2⟩, bd _⟩
      · simp only [f__law_taken, m__law_taken, a_seq, a_skip, a_if, a_ret, a_retN, a_drop, a_never, a_break, a_cont, a_set, a_own, a_var, a_c, a_op, a_nil, a_cons, a_tup, a_lst, a_f, a_call, a_fn, a_isi, a_isi2, a_not, a_tru, a_tbl, a_tno, a_tan, a_to, a_and, a_or, a_chain, a_ifE, a_onone, a_osome, a_sl, a_ixL, a_ixV, a_lvar, a_inL, a_for, a_to2, a_as, a_rng, a_lcP, a_lc, a_lc2, a_sc, a_sortZ, a_setOf, a_xor, a_ownI, a_callL, a_mmNil, a_mmSh, a_mmOwn, a_par, a_tab, a_disp, a_vals0, a_vals1, a_goName, a_yes, a_fnP, a_fnR, a_mFnR, a_store, a_app, a_join, a_rep, k_tt, k_tl, k_ti, k_tb, k_ts, k_tn, k_ll, k_lt, k_li, k_lb, k_ls, k_ln, k_it, k_il, k_ii, k_ib, k_is, k_in, k_bt, k_bl, k_bi, k_bb, k_bs, k_bn, k_st, k_sl, k_si, k_sb, k_ss, k_sn, v_lenT, v_lenL, v_lenS, v_tupL, v_intI, v_intB, v_asL, v_asT, v_asS, v_truB, v_truL, v_add, v_sub, v_lt, v_le, v_gt, v_ge, v_mod, v_div, v_mul, v_isN, p_sh, p_no, p_own, p_par, p_plsh, p_plno, st_sh, st_no, st_own, st_par, f_ix0, f_ix1, f_ix2, f_ix3, c_ix0, c_ix1, q_ix0, q_ix1, q_ix2, q_sl, f_kt, c_kt, c_kl, q_kt, f_len, c_len, q_len, c_go, q_go, f_go, t_go, g_cons, g_nil, v_enumT, v_enumS, v_rng1, v_rngN, v_rng2, v_n40, v_n41, v_n42, v_n43, v_setR0, q_add, v_addT, f_sl3, f_sl2, q_cutc1, q_cutc2, q_cutp1, put_own, put_par, o_rt, o_nx, r_rt, r_nx, po_par, d_eqO, d_notin, v_pow18, v_mulS, v_addL, af_c, stepC, back, List.getD_cons_zero, List.getD_cons_succ, af_nx, af_ct, af_bk, af_rt, gixT, gixL, ix0, ix1, ix2, ix3, sl_t, sl_l, eq_int, eq_bool, Option.bind_some, Option.bind_none, List.map_cons, List.map_nil, List.getElem?_cons_zero, List.getElem?_cons_succ, List.set_cons_zero, List.set_cons_succ, List.length_cons, List.length_nil, List.cons_append, List.nil_append, List.replicate, ownAt, if_true, Bool.false_eq_true, if_false, Nat.reduceAdd, Nat.reduceLeDiff, Bool.true_eq_false, Bool.false_bne, Bool.true_bne, Bool.not_true, Bool.not_false, ne_eq, not_true_eq_false, not_false_eq_true, reduceCtorEq, clean_pl, List.all_cons, List.all_nil, List.contains_cons, List.contains_nil, Nat.reduceBEq, Bool.and_self, and_self, and_true, true_and, wipeR, stepP, stepS, Option.map_some, if_and, if_or, if_tan, if_tor, Int.cast_ofNat_Int, decide_true, decide_false, Bool.true_and, Bool.and_true, Bool.or_false, Bool.false_or, Bool.and_false, Bool.false_and, in_cellsT, in_cellsL, shaped_cell, shaped_cellsL, shaped_cellsT, any_cells, md, dv, hc, List.length_map, hx, mu, mp, d7, ix, hb]
        exact ⟨_, _, rfl, ⟨xs, _, _, _, rfl, by omega, (bb _).1, (bb _).2⟩, bd _⟩
def PostsIn (R C : Int) (ps : List Post) : Prop := (∀ p, p ∈ ps → 0 ≤ p.1 ∧ p.1 < R ∧ 0 ≤ p.2.1 ∧ p.2.1 < C ∧ 1 ≤ p.2.2 ∧ p.2.2 ≤ 4) ∧ (ps.map pc).Nodup
def CellsIn (R C : Int) (cs : List Cell) : Prop := (∀ p, p ∈ cs → 0 ≤ p.1 ∧ p.1 < R ∧ 0 ≤ p.2 ∧ p.2 < C) ∧ cs.Nodup
theorem law_floor_ok {rs : List PyData} (h : RowOk rs) {n : Int} (hn : 1 ≤ n) (hn2 : n ≤ 5) : ∃ F rs', f__law_floor rs [.int n] = some (flD F, rs') ∧ RowOk rs' ∧ F.Ok ∧ F.rows ≤ n ∧ F.cols ≤ n := by
  obtain ⟨k1, rs1, e1, r1, a1, b1⟩ := taken_ok h (n := n) (by omega) (by omega)
  obtain ⟨k2, rs2, e2, r2, a2, b2⟩ := taken_ok r1 (n := n) (by omega) (by omega)
  obtain ⟨k3, rs3, e3, r3, a3, b3⟩ := taken_ok r2 (n := 4) (by omega) (by omega)
  have hr := v_rng1 (j := k3) a3 (by omega)
  simp only [f__law_floor, m__law_floor, a_seq, a_skip, a_if, a_ret, a_retN, a_drop, a_never, a_break, a_cont, a_set, a_own, a_var, a_c, a_op, a_nil, a_cons, a_tup, a_lst, a_f, a_call, a_fn, a_isi, a_isi2, a_not, a_tru, a_tbl, a_tno, a_tan, a_to, a_and, a_or, a_chain, a_ifE, a_onone, a_osome, a_sl, a_ixL, a_ixV, a_lvar, a_inL, a_for, a_to2, a_as, a_rng, a_lcP, a_lc, a_lc2, a_sc, a_sortZ, a_setOf, a_xor, a_ownI, a_callL, a_mmNil, a_mmSh, a_mmOwn, a_par, a_tab, a_disp, a_vals0, a_vals1, a_goName, a_yes, a_fnP, a_fnR, a_mFnR, a_store, a_app, a_join, a_rep, k_tt, k_tl, k_ti, k_tb, k_ts, k_tn, k_ll, k_lt, k_li, k_lb, k_ls, k_ln, k_it, k_il, k_ii, k_ib, k_is, k_in, k_bt, k_bl, k_bi, k_bb, k_bs, k_bn, k_st, k_sl, k_si, k_sb, k_ss, k_sn, v_lenT, v_lenL, v_lenS, v_tupL, v_intI, v_intB, v_asL, v_asT, v_asS, v_truB, v_truL, v_add, v_sub, v_lt, v_le, v_gt, v_ge, v_mod, v_div, v_mul, v_isN, p_sh, p_no, p_own, p_par, p_plsh, p_plno, st_sh, st_no, st_own, st_par, f_ix0, f_ix1, f_ix2, f_ix3, c_ix0, c_ix1, q_ix0, q_ix1, q_ix2, q_sl, f_kt, c_kt, c_kl, q_kt, f_len, c_len, q_len, c_go, q_go, f_go, t_go, g_cons, g_nil, v_enumT, v_enumS, v_rng1, v_rngN, v_rng2, v_n40, v_n41, v_n42, v_n43, v_setR0, q_add, v_addT, f_sl3, f_sl2, q_cutc1, q_cutc2, q_cutp1, put_own, put_par, o_rt, o_nx, r_rt, r_nx, po_par, d_eqO, d_notin, v_pow18, v_mulS, v_addL, af_c, stepC, back, List.getD_cons_zero, List.getD_cons_succ, af_nx, af_ct, af_bk, af_rt, gixT, gixL, ix0, ix1, ix2, ix3, sl_t, sl_l, eq_int, eq_bool, Option.bind_some, Option.bind_none, List.map_cons, List.map_nil, List.getElem?_cons_zero, List.getElem?_cons_succ, List.set_cons_zero, List.set_cons_succ, List.length_cons, List.length_nil, List.cons_append, List.nil_append, List.replicate, ownAt, if_true, Bool.false_eq_true, if_false, Nat.reduceAdd, Nat.reduceLeDiff, Bool.true_eq_false, Bool.false_bne, Bool.true_bne, Bool.not_true, Bool.not_false, ne_eq, not_true_eq_false, not_false_eq_true, reduceCtorEq, clean_pl, List.all_cons, List.all_nil, List.contains_cons, List.contains_nil, Nat.reduceBEq, Bool.and_self, and_self, and_true, true_and, wipeR, stepP, stepS, Option.map_some, if_and, if_or, if_tan, if_tor, Int.cast_ofNat_Int, decide_true, decide_false, Bool.true_and, Bool.and_true, Bool.or_false, Bool.false_or, Bool.and_false, Bool.false_and, in_cellsT, in_cellsL, shaped_cell, shaped_cellsL, shaped_cellsT, any_cells, e1, e2, e3, setR, hr, rngD_map]
  generalize hL : loopS _ _ _ _ = L
  obtain ⟨ρ1, rfl, ps, rs4, s6, s7, rfl, r4, p6, p7, hps, hpl⟩ := doneI hL (fun done ρ => ∃ ps rs s6 s7, ρ = [.par rs, .sh (.int n), .sh (.int (1 + k1)), .sh (.int (1 + k2)), .own (ps.map postD), .sh (.list []), s6, s7, .no] ∧ RowOk rs ∧ isPar s6 = false ∧ isPar s7 = false ∧ PostsIn (1 + k1) (1 + k2) ps ∧ ps.length ≤ done.length)
    ⟨[], rs3, .no, .no, rfl, r3, rfl, rfl, ⟨fun p hp => (by cases hp), List.nodup_nil⟩, Nat.le_refl _⟩ (fun done k rest ρ hd ⟨ps, rs, s6, s7, e, r, p6, p7, hps, hpl⟩ => by
      subst e
      obtain ⟨x, rsx, ex, rx, ax, bx⟩ := taken_ok r (n := 1 + k1) (by omega) (by omega)
      obtain ⟨y, rsy, ey, ry, ay, by_⟩ := taken_ok rx (n := 1 + k2) (by omega) (by omega)
      obtain ⟨z, rsz, ez, rz, az, bz⟩ := taken_ok ry (n := 4) (by omega) (by omega)
      have hl : ps.length ≤ 4 := by
        have := congrArg List.length hd
        rw [List.length_append, List.length_cons, List.length_range] at this
        omega
      have hl2 : ps.length < 16000000 := by omega
      simp only [a_seq, a_skip, a_if, a_ret, a_retN, a_drop, a_never, a_break, a_cont, a_set, a_own, a_var, a_c, a_op, a_nil, a_cons, a_tup, a_lst, a_f, a_call, a_fn, a_isi, a_isi2, a_not, a_tru, a_tbl, a_tno, a_tan, a_to, a_and, a_or, a_chain, a_ifE, a_onone, a_osome, a_sl, a_ixL, a_ixV, a_lvar, a_inL, a_for, a_to2, a_as, a_rng, a_lcP, a_lc, a_lc2, a_sc, a_sortZ, a_setOf, a_xor, a_ownI, a_callL, a_mmNil, a_mmSh, a_mmOwn, a_par, a_tab, a_disp, a_vals0, a_vals1, a_goName, a_yes, a_fnP, a_fnR, a_mFnR, a_store, a_app, a_join, a_rep, k_tt, k_tl, k_ti, k_tb, k_ts, k_tn, k_ll, k_lt, k_li, k_lb, k_ls, k_ln, k_it, k_il, k_ii, k_ib, k_is, k_in, k_bt, k_bl, k_bi, k_bb, k_bs, k_bn, k_st, k_sl, k_si, k_sb, k_ss, k_sn, v_lenT, v_lenL, v_lenS, v_tupL, v_intI, v_intB, v_asL, v_asT, v_asS, v_truB, v_truL, v_add, v_sub, v_lt, v_le, v_gt, v_ge, v_mod, v_div, v_mul, v_isN, p_sh, p_no, p_own, p_par, p_plsh, p_plno, st_sh, st_no, st_own, st_par, f_ix0, f_ix1, f_ix2, f_ix3, c_ix0, c_ix1, q_ix0, q_ix1, q_ix2, q_sl, f_kt, c_kt, c_kl, q_kt, f_len, c_len, q_len, c_go, q_go, f_go, t_go, g_cons, g_nil, v_enumT, v_enumS, v_rng1, v_rngN, v_rng2, v_n40, v_n41, v_n42, v_n43, v_setR0, q_add, v_addT, f_sl3, f_sl2, q_cutc1, q_cutc2, q_cutp1, put_own, put_par, o_rt, o_nx, r_rt, r_nx, po_par, d_eqO, d_notin, v_pow18, v_mulS, v_addL, af_c, stepC, back, List.getD_cons_zero, List.getD_cons_succ, af_nx, af_ct, af_bk, af_rt, gixT, gixL, ix0, ix1, ix2, ix3, sl_t, sl_l, eq_int, eq_bool, Option.bind_some, Option.bind_none, List.map_cons, List.map_nil, List.getElem?_cons_zero, List.getElem?_cons_succ, List.set_cons_zero, List.set_cons_succ, List.length_cons, List.length_nil, List.cons_append, List.nil_append, List.replicate, ownAt, if_true, Bool.false_eq_true, if_false, Nat.reduceAdd, Nat.reduceLeDiff, Bool.true_eq_false, Bool.false_bne, Bool.true_bne, Bool.not_true, Bool.not_false, ne_eq, not_true_eq_false, not_false_eq_true, reduceCtorEq, clean_pl, List.all_cons, List.all_nil, List.contains_cons, List.contains_nil, Nat.reduceBEq, Bool.and_self, and_self, and_true, true_and, wipeR, stepP, stepS, Option.map_some, if_and, if_or, if_tan, if_tor, Int.cast_ofNat_Int, decide_true, decide_false, Bool.true_and, Bool.and_true, Bool.or_false, Bool.false_or, Bool.and_false, Bool.false_and, in_cellsT, in_cellsL, shaped_cell, shaped_cellsL, shaped_cellsT, any_cells, p6, p7, ex, ey, cellD_mk, List.length_map, hl2]
      rw [loopP_map1 (h := fun p : Post => cellD (pc p)) _ (fun p hp => by simp only [a_seq, a_skip, a_if, a_ret, a_retN, a_drop, a_never, a_break, a_cont, a_set, a_own, a_var, a_c, a_op, a_nil, a_cons, a_tup, a_lst, a_f, a_call, a_fn, a_isi, a_isi2, a_not, a_tru, a_tbl, a_tno, a_tan, a_to, a_and, a_or, a_chain, a_ifE, a_onone, a_osome, a_sl, a_ixL, a_ixV, a_lvar, a_inL, a_for, a_to2, a_as, a_rng, a_lcP, a_lc, a_lc2, a_sc, a_sortZ, a_setOf, a_xor, a_ownI, a_callL, a_mmNil, a_mmSh, a_mmOwn, a_par, a_tab, a_disp, a_vals0, a_vals1, a_goName, a_yes, a_fnP, a_fnR, a_mFnR, a_store, a_app, a_join, a_rep, k_tt, k_tl, k_ti, k_tb, k_ts, k_tn, k_ll, k_lt, k_li, k_lb, k_ls, k_ln, k_it, k_il, k_ii, k_ib, k_is, k_in, k_bt, k_bl, k_bi, k_bb, k_bs, k_bn, k_st, k_sl, k_si, k_sb, k_ss, k_sn, v_lenT, v_lenL, v_lenS, v_tupL, v_intI, v_intB, v_asL, v_asT, v_asS, v_truB, v_truL, v_add, v_sub, v_lt, v_le, v_gt, v_ge, v_mod, v_div, v_mul, v_isN, p_sh, p_no, p_own, p_par, p_plsh, p_plno, st_sh, st_no, st_own, st_par, f_ix0, f_ix1, f_ix2, f_ix3, c_ix0, c_ix1, q_ix0, q_ix1, q_ix2, q_sl, f_kt, c_kt, c_kl, q_kt, f_len, c_len, q_len, c_go, q_go, f_go, t_go, g_cons, g_nil, v_enumT, v_enumS, v_rng1, v_rngN, v_rng2, v_n40, v_n41, v_n42, v_n43, v_setR0, q_add, v_addT, f_sl3, f_sl2, q_cutc1, q_cutc2, q_cutp1, put_own, put_par, o_rt, o_nx, r_rt, r_nx, po_par, d_eqO, d_notin, v_pow18, v_mulS, v_addL, af_c, stepC, back, List.getD_cons_zero, List.getD_cons_succ, af_nx, af_ct, af_bk, af_rt, gixT, gixL, ix0, ix1, ix2, ix3, sl_t, sl_l, eq_int, eq_bool, Option.bind_some, Option.bind_none, List.map_cons, List.map_nil, List.getElem?_cons_zero, List.getElem?_cons_succ, List.set_cons_zero, List.set_cons_succ, List.length_cons, List.length_nil, List.cons_append, List.nil_append, List.replicate, ownAt, if_true, Bool.false_eq_true, if_false, Nat.reduceAdd, Nat.reduceLeDiff, Bool.true_eq_false, Bool.false_bne, Bool.true_bne, Bool.not_true, Bool.not_false, ne_eq, not_true_eq_false, not_false_eq_true, reduceCtorEq, clean_pl, List.all_cons, List.all_nil, List.contains_cons, List.contains_nil, Nat.reduceBEq, Bool.and_self, and_self, and_true, true_and, wipeR, stepP, stepS, Option.map_some, if_and, if_or, if_tan, if_tor, Int.cast_ofNat_Int, decide_true, decide_false, Bool.true_and, Bool.and_true, Bool.or_false, Bool.false_or, Bool.and_false, Bool.false_and, in_cellsT, in_cellsL, shaped_cell, shaped_cellsL, shaped_cellsT, any_cells]), map_cells]
      simp only [a_seq, a_skip, a_if, a_ret, a_retN, a_drop, a_never, a_break, a_cont, a_set, a_own, a_var, a_c, a_op, a_nil, a_cons, a_tup, a_lst, a_f, a_call, a_fn, a_isi, a_isi2, a_not, a_tru, a_tbl, a_tno, a_tan, a_to, a_and, a_or, a_chain, a_ifE, a_onone, a_osome, a_sl, a_ixL, a_ixV, a_lvar, a_inL, a_for, a_to2, a_as, a_rng, a_lcP, a_lc, a_lc2, a_sc, a_sortZ, a_setOf, a_xor, a_ownI, a_callL, a_mmNil, a_mmSh, a_mmOwn, a_par, a_tab, a_disp, a_vals0, a_vals1, a_goName, a_yes, a_fnP, a_fnR, a_mFnR, a_store, a_app, a_join, a_rep, k_tt, k_tl, k_ti, k_tb, k_ts, k_tn, k_ll, k_lt, k_li, k_lb, k_ls, k_ln, k_it, k_il, k_ii, k_ib, k_is, k_in, k_bt, k_bl, k_bi, k_bb, k_bs, k_bn, k_st, k_sl, k_si, k_sb, k_ss, k_sn, v_lenT, v_lenL, v_lenS, v_tupL, v_intI, v_intB, v_asL, v_asT, v_asS, v_truB, v_truL, v_add, v_sub, v_lt, v_le, v_gt, v_ge, v_mod, v_div, v_mul, v_isN, p_sh, p_no, p_own, p_par, p_plsh, p_plno, st_sh, st_no, st_own, st_par, f_ix0, f_ix1, f_ix2, f_ix3, c_ix0, c_ix1, q_ix0, q_ix1, q_ix2, q_sl, f_kt, c_kt, c_kl, q_kt, f_len, c_len, q_len, c_go, q_go, f_go, t_go, g_cons, g_nil, v_enumT, v_enumS, v_rng1, v_rngN, v_rng2, v_n40, v_n41, v_n42, v_n43, v_setR0, q_add, v_addT, f_sl3, f_sl2, q_cutc1, q_cutc2, q_cutp1, put_own, put_par, o_rt, o_nx, r_rt, r_nx, po_par, d_eqO, d_notin, v_pow18, v_mulS, v_addL, af_c, stepC, back, List.getD_cons_zero, List.getD_cons_succ, af_nx, af_ct, af_bk, af_rt, gixT, gixL, ix0, ix1, ix2, ix3, sl_t, sl_l, eq_int, eq_bool, Option.bind_some, Option.bind_none, List.map_cons, List.map_nil, List.getElem?_cons_zero, List.getElem?_cons_succ, List.set_cons_zero, List.set_cons_succ, List.length_cons, List.length_nil, List.cons_append, List.nil_append, List.replicate, ownAt, if_true, Bool.false_eq_true, if_false, Nat.reduceAdd, Nat.reduceLeDiff, Bool.true_eq_false, Bool.false_bne, Bool.true_bne, Bool.not_true, Bool.not_false, ne_eq, not_true_eq_false, not_false_eq_true, reduceCtorEq, clean_pl, List.all_cons, List.all_nil, List.contains_cons, List.contains_nil, Nat.reduceBEq, Bool.and_self, and_self, and_true, true_and, wipeR, stepP, stepS, Option.map_some, if_and, if_or, if_tan, if_tor, Int.cast_ofNat_Int, decide_true, decide_false, Bool.true_and, Bool.and_true, Bool.or_false, Bool.false_or, Bool.and_false, Bool.false_and, in_cellsT, in_cellsL, shaped_cell, shaped_cellsL, shaped_cellsT, any_cells]
      by_cases hm : ((x, y) : Cell) ∈ ps.map pc
      · simp only [hm, a_seq, a_skip, a_if, a_ret, a_retN, a_drop, a_never, a_break, a_cont, a_set, a_own, a_var, a_c, a_op, a_nil, a_cons, a_tup, a_lst, a_f, a_call, a_fn, a_isi, a_isi2, a_not, a_tru, a_tbl, a_tno, a_tan, a_to, a_and, a_or, a_chain, a_ifE, a_onone, a_osome, a_sl, a_ixL, a_ixV, a_lvar, a_inL, a_for, a_to2, a_as, a_rng, a_lcP, a_lc, a_lc2, a_sc, a_sortZ, a_setOf, a_xor, a_ownI, a_callL, a_mmNil, a_mmSh, a_mmOwn, a_par, a_tab, a_disp, a_vals0, a_vals1, a_goName, a_yes, a_fnP, a_fnR, a_mFnR, a_store, a_app, a_join, a_rep, k_tt, k_tl, k_ti, k_tb, k_ts, k_tn, k_ll, k_lt, k_li, k_lb, k_ls, k_ln, k_it, k_il, k_ii, k_ib, k_is, k_in, k_bt, k_bl, k_bi, k_bb, k_bs, k_bn, k_st, k_sl, k_si, k_sb, k_ss, k_sn, v_lenT, v_lenL, v_lenS, v_tupL, v_intI, v_intB, v_asL, v_asT, v_asS, v_truB, v_truL, v_add, v_sub, v_lt, v_le, v_gt, v_ge, v_mod, v_div, v_mul, v_isN, p_sh, p_no, p_own, p_par, p_plsh, p_plno, st_sh, st_no, st_own, st_par, f_ix0, f_ix1, f_ix2, f_ix3, c_ix0, c_ix1, q_ix0, q_ix1, q_ix2, q_sl, f_kt, c_kt, c_kl, q_kt, f_len, c_len, q_len, c_go, q_go, f_go, t_go, g_cons, g_nil, v_enumT, v_enumS, v_rng1, v_rngN, v_rng2, v_n40, v_n41, v_n42, v_n43, v_setR0, q_add, v_addT, f_sl3, f_sl2, q_cutc1, q_cutc2, q_cutp1, put_own, put_par, o_rt, o_nx, r_rt, r_nx, po_par, d_eqO, d_notin, v_pow18, v_mulS, v_addL, af_c, stepC, back, List.getD_cons_zero, List.getD_cons_succ, af_nx, af_ct, af_bk, af_rt, gixT, gixL, ix0, ix1, ix2, ix3, sl_t, sl_l, eq_int, eq_bool, Option.bind_some, Option.bind_none, List.map_cons, List.map_nil, List.getElem?_cons_zero, List.getElem?_cons_succ, List.set_cons_zero, List.set_cons_succ, List.length_cons, List.length_nil, List.cons_append, List.nil_append, List.replicate, ownAt, if_true, Bool.false_eq_true, if_false, Nat.reduceAdd, Nat.reduceLeDiff, Bool.true_eq_false, Bool.false_bne, Bool.true_bne, Bool.not_true, Bool.not_false, ne_eq, not_true_eq_false, not_false_eq_true, reduceCtorEq, clean_pl, List.all_cons, List.all_nil, List.contains_cons, List.contains_nil, Nat.reduceBEq, Bool.and_self, and_self, and_true, true_and, wipeR, stepP, stepS, Option.map_some, if_and, if_or, if_tan, if_tor, Int.cast_ofNat_Int, decide_true, decide_false, Bool.true_and, Bool.and_true, Bool.or_false, Bool.false_or, Bool.and_false, Bool.false_and, in_cellsT, in_cellsL, shaped_cell, shaped_cellsL, shaped_cellsT, any_cells]
        exact ⟨ps, rsy, _, _, rfl, ry, rfl, rfl, hps, by rw [List.length_append]; omega⟩
      · simp only [hm, a_seq, a_skip, a_if, a_ret, a_retN, a_drop, a_never, a_break, a_cont, a_set, a_own, a_var, a_c, a_op, a_nil, a_cons, a_tup, a_lst, a_f, a_call, a_fn, a_isi, a_isi2, a_not, a_tru, a_tbl, a_tno, a_tan, a_to, a_and, a_or, a_chain, a_ifE, a_onone, a_osome, a_sl, a_ixL, a_ixV, a_lvar, a_inL, a_for, a_to2, a_as, a_rng, a_lcP, a_lc, a_lc2, a_sc, a_sortZ, a_setOf, a_xor, a_ownI, a_callL, a_mmNil, a_mmSh, a_mmOwn, a_par, a_tab, a_disp, a_vals0, a_vals1, a_goName, a_yes, a_fnP, a_fnR, a_mFnR, a_store, a_app, a_join, a_rep, k_tt, k_tl, k_ti, k_tb, k_ts, k_tn, k_ll, k_lt, k_li, k_lb, k_ls, k_ln, k_it, k_il, k_ii, k_ib, k_is, k_in, k_bt, k_bl, k_bi, k_bb, k_bs, k_bn, k_st, k_sl, k_si, k_sb, k_ss, k_sn, v_lenT, v_lenL, v_lenS, v_tupL, v_intI, v_intB, v_asL, v_asT, v_asS, v_truB, v_truL, v_add, v_sub, v_lt, v_le, v_gt, v_ge, v_mod, v_div, v_mul, v_isN, p_sh, p_no, p_own, p_par, p_plsh, p_plno, st_sh, st_no, st_own, st_par, f_ix0, f_ix1, f_ix2, f_ix3, c_ix0, c_ix1, q_ix0, q_ix1, q_ix2, q_sl, f_kt, c_kt, c_kl, q_kt, f_len, c_len, q_len, c_go, q_go, f_go, t_go, g_cons, g_nil, v_enumT, v_enumS, v_rng1, v_rngN, v_rng2, v_n40, v_n41, v_n42, v_n43, v_setR0, q_add, v_addT, f_sl3, f_sl2, q_cutc1, q_cutc2, q_cutp1, put_own, put_par, o_rt, o_nx, r_rt, r_nx, po_par, d_eqO, d_notin, v_pow18, v_mulS, v_addL, af_c, stepC, back, List.getD_cons_zero, List.getD_cons_succ, af_nx, af_ct, af_bk, af_rt, gixT, gixL, ix0, ix1, ix2, ix3, sl_t, sl_l, eq_int, eq_bool, Option.bind_some, Option.bind_none, List.map_cons, List.map_nil, List.getElem?_cons_zero, List.getElem?_cons_succ, List.set_cons_zero, List.set_cons_succ, List.length_cons, List.length_nil, List.cons_append, List.nil_append, List.replicate, ownAt, if_true, Bool.false_eq_true, if_false, Nat.reduceAdd, Nat.reduceLeDiff, Bool.true_eq_false, Bool.false_bne, Bool.true_bne, Bool.not_true, Bool.not_false, ne_eq, not_true_eq_false, not_false_eq_true, reduceCtorEq, clean_pl, List.all_cons, List.all_nil, List.contains_cons, List.contains_nil, Nat.reduceBEq, Bool.and_self, and_self, and_true, true_and, wipeR, stepP, stepS, Option.map_some, if_and, if_or, if_tan, if_tor, Int.cast_ofNat_Int, decide_true, decide_false, Bool.true_and, Bool.and_true, Bool.or_false, Bool.false_or, Bool.and_false, Bool.false_and, in_cellsT, in_cellsL, shaped_cell, shaped_cellsL, shaped_cellsT, any_cells, ez, List.length_map, hl2]
        refine ⟨ps ++ [(x, y, 1 + z)], rsz, .sh (.int (0 + (k : Int))), .sh (cellD (x, y)), ?_, rz, rfl, rfl, ⟨fun p hp => ?_, ?_⟩, ?_⟩
        · rw [List.map_append]; rfl
        · rcases List.mem_append.mp hp with w | w
          · exact hps.1 p w
          · cases List.mem_singleton.mp w
            exact ⟨ax, bx, ay, by_, by show 1 ≤ 1 + z; omega, by show 1 + z ≤ 4; omega⟩
        · rw [List.map_append]
          refine List.nodup_append.mpr ⟨hps.2, by simp, fun a ha b hb => ?_⟩
          cases List.mem_singleton.mp hb
          exact fun e => hm (by rw [← show a = (x, y) from e]; exact ha)
        · rw [List.length_append, List.length_append]
          simp
          omega)
  obtain ⟨k4, rs5, e5, r5, a5, b5⟩ := taken_ok r4 (n := 2) (by omega) (by omega)
  obtain ⟨m, hm, m1, m2⟩ : ∃ m, gIx (.list [.int 3, .int 9]) (.int k4) = some (.int m) ∧ 3 ≤ m ∧ m ≤ 9 := by
    have : k4 = 0 ∨ k4 = 1 := by omega
    rcases this with rfl | rfl
    · exact ⟨3, rfl, by decide, by decide⟩
    · exact ⟨9, rfl, by decide, by decide⟩
  obtain ⟨k6, rs6, e6, r6, a6, b6⟩ := taken_ok r5 (n := m) (by omega) (by omega)
  have hr2 := v_rng1 (j := k6) a6 (by omega)
  simp only [a_seq, a_skip, a_if, a_ret, a_retN, a_drop, a_never, a_break, a_cont, a_set, a_own, a_var, a_c, a_op, a_nil, a_cons, a_tup, a_lst, a_f, a_call, a_fn, a_isi, a_isi2, a_not, a_tru, a_tbl, a_tno, a_tan, a_to, a_and, a_or, a_chain, a_ifE, a_onone, a_osome, a_sl, a_ixL, a_ixV, a_lvar, a_inL, a_for, a_to2, a_as, a_rng, a_lcP, a_lc, a_lc2, a_sc, a_sortZ, a_setOf, a_xor, a_ownI, a_callL, a_mmNil, a_mmSh, a_mmOwn, a_par, a_tab, a_disp, a_vals0, a_vals1, a_goName, a_yes, a_fnP, a_fnR, a_mFnR, a_store, a_app, a_join, a_rep, k_tt, k_tl, k_ti, k_tb, k_ts, k_tn, k_ll, k_lt, k_li, k_lb, k_ls, k_ln, k_it, k_il, k_ii, k_ib, k_is, k_in, k_bt, k_bl, k_bi, k_bb, k_bs, k_bn, k_st, k_sl, k_si, k_sb, k_ss, k_sn, v_lenT, v_lenL, v_lenS, v_tupL, v_intI, v_intB, v_asL, v_asT, v_asS, v_truB, v_truL, v_add, v_sub, v_lt, v_le, v_gt, v_ge, v_mod, v_div, v_mul, v_isN, p_sh, p_no, p_own, p_par, p_plsh, p_plno, st_sh, st_no, st_own, st_par, f_ix0, f_ix1, f_ix2, f_ix3, c_ix0, c_ix1, q_ix0, q_ix1, q_ix2, q_sl, f_kt, c_kt, c_kl, q_kt, f_len, c_len, q_len, c_go, q_go, f_go, t_go, g_cons, g_nil, v_enumT, v_enumS, v_rng1, v_rngN, v_rng2, v_n40, v_n41, v_n42, v_n43, v_setR0, q_add, v_addT, f_sl3, f_sl2, q_cutc1, q_cutc2, q_cutp1, put_own, put_par, o_rt, o_nx, r_rt, r_nx, po_par, d_eqO, d_notin, v_pow18, v_mulS, v_addL, af_c, stepC, back, List.getD_cons_zero, List.getD_cons_succ, af_nx, af_ct, af_bk, af_rt, gixT, gixL, ix0, ix1, ix2, ix3, sl_t, sl_l, eq_int, eq_bool, Option.bind_some, Option.bind_none, List.map_cons, List.map_nil, List.getElem?_cons_zero, List.getElem?_cons_succ, List.set_cons_zero, List.set_cons_succ, List.length_cons, List.length_nil, List.cons_append, List.nil_append, List.replicate, ownAt, if_true, Bool.false_eq_true, if_false, Nat.reduceAdd, Nat.reduceLeDiff, Bool.true_eq_false, Bool.false_bne, Bool.true_bne, Bool.not_true, Bool.not_false, ne_eq, not_true_eq_false, not_false_eq_true, reduceCtorEq, clean_pl, List.all_cons, List.all_nil, List.contains_cons, List.contains_nil, Nat.reduceBEq, Bool.and_self, and_self, and_true, true_and, wipeR, stepP, stepS, Option.map_some, if_and, if_or, if_tan, if_tor, Int.cast_ofNat_Int, decide_true, decide_false, Bool.true_and, Bool.and_true, Bool.or_false, Bool.false_or, Bool.and_false, Bool.false_and, in_cellsT, in_cellsL, shaped_cell, shaped_cellsL, shaped_cellsT, any_cells, e5, e6, hm, hr2, rngD_map]
  generalize hL2 : loopS _ _ _ _ = L2
  obtain ⟨ρ2, rfl, cs, rs7, s6, s7, rfl, r7, q6, q7, hcs, hcl⟩ := doneI hL2 (fun done ρ => ∃ cs rs s6 s7, ρ = [.par rs, .sh (.int n), .sh (.int (1 + k1)), .sh (.int (1 + k2)), .own (ps.map postD), .sh (.list (cs.map cellD)), s6, s7, .no] ∧ RowOk rs ∧ isPar s6 = false ∧ isPar s7 = false ∧ CellsIn (1 + k1) (1 + k2) cs ∧ cs.length ≤ done.length)
    ⟨[], rs6, _, _, rfl, r6, p6, p7, ⟨fun p hp => (by cases hp), List.nodup_nil⟩, Nat.le_refl _⟩ (fun done k rest ρ hd ⟨cs, rs, s6, s7, e, r, p6, p7, hcs, hcl⟩ => by
      subst e
      obtain ⟨x, rsx, ex, rx, ax, bx⟩ := taken_ok r (n := 1 + k1) (by omega) (by omega)
      obtain ⟨y, rsy, ey, ry, ay, by_⟩ := taken_ok rx (n := 1 + k2) (by omega) (by omega)
      have hl : cs.length ≤ 8 := by
        have := congrArg List.length hd
        rw [List.length_append, List.length_cons, List.length_range] at this
        omega
      simp only [a_seq, a_skip, a_if, a_ret, a_retN, a_drop, a_never, a_break, a_cont, a_set, a_own, a_var, a_c, a_op, a_nil, a_cons, a_tup, a_lst, a_f, a_call, a_fn, a_isi, a_isi2, a_not, a_tru, a_tbl, a_tno, a_tan, a_to, a_and, a_or, a_chain, a_ifE, a_onone, a_osome, a_sl, a_ixL, a_ixV, a_lvar, a_inL, a_for, a_to2, a_as, a_rng, a_lcP, a_lc, a_lc2, a_sc, a_sortZ, a_setOf, a_xor, a_ownI, a_callL, a_mmNil, a_mmSh, a_mmOwn, a_par, a_tab, a_disp, a_vals0, a_vals1, a_goName, a_yes, a_fnP, a_fnR, a_mFnR, a_store, a_app, a_join, a_rep, k_tt, k_tl, k_ti, k_tb, k_ts, k_tn, k_ll, k_lt, k_li, k_lb, k_ls, k_ln, k_it, k_il, k_ii, k_ib, k_is, k_in, k_bt, k_bl, k_bi, k_bb, k_bs, k_bn, k_st, k_sl, k_si, k_sb, k_ss, k_sn, v_lenT, v_lenL, v_lenS, v_tupL, v_intI, v_intB, v_asL, v_asT, v_asS, v_truB, v_truL, v_add, v_sub, v_lt, v_le, v_gt, v_ge, v_mod, v_div, v_mul, v_isN, p_sh, p_no, p_own, p_par, p_plsh, p_plno, st_sh, st_no, st_own, st_par, f_ix0, f_ix1, f_ix2, f_ix3, c_ix0, c_ix1, q_ix0, q_ix1, q_ix2, q_sl, f_kt, c_kt, c_kl, q_kt, f_len, c_len, q_len, c_go, q_go, f_go, t_go, g_cons, g_nil, v_enumT, v_enumS, v_rng1, v_rngN, v_rng2, v_n40, v_n41, v_n42, v_n43, v_setR0, q_add, v_addT, f_sl3, f_sl2, q_cutc1, q_cutc2, q_cutp1, put_own, put_par, o_rt, o_nx, r_rt, r_nx, po_par, d_eqO, d_notin, v_pow18, v_mulS, v_addL, af_c, stepC, back, List.getD_cons_zero, List.getD_cons_succ, af_nx, af_ct, af_bk, af_rt, gixT, gixL, ix0, ix1, ix2, ix3, sl_t, sl_l, eq_int, eq_bool, Option.bind_some, Option.bind_none, List.map_cons, List.map_nil, List.getElem?_cons_zero, List.getElem?_cons_succ, List.set_cons_zero, List.set_cons_succ, List.length_cons, List.length_nil, List.cons_append, List.nil_append, List.replicate, ownAt, if_true, Bool.false_eq_true, if_false, Nat.reduceAdd, Nat.reduceLeDiff, Bool.true_eq_false, Bool.false_bne, Bool.true_bne, Bool.not_true, Bool.not_false, ne_eq, not_true_eq_false, not_false_eq_true, reduceCtorEq, clean_pl, List.all_cons, List.all_nil, List.contains_cons, List.contains_nil, Nat.reduceBEq, Bool.and_self, and_self, and_true, true_and, wipeR, stepP, stepS, Option.map_some, if_and, if_or, if_tan, if_tor, Int.cast_ofNat_Int, decide_true, decide_false, Bool.true_and, Bool.and_true, Bool.or_false, Bool.false_or, Bool.and_false, Bool.false_and, in_cellsT, in_cellsL, shaped_cell, shaped_cellsL, shaped_cellsT, any_cells, p6, p7, ex, ey, cellD_mk]
      by_cases hm : ((x, y) : Cell) ∈ cs
      · have ad := v_addL (xs := cs.map cellD) (ys := []) (by rw [List.length_map]; simp; omega)
        simp only [hm, a_seq, a_skip, a_if, a_ret, a_retN, a_drop, a_never, a_break, a_cont, a_set, a_own, a_var, a_c, a_op, a_nil, a_cons, a_tup, a_lst, a_f, a_call, a_fn, a_isi, a_isi2, a_not, a_tru, a_tbl, a_tno, a_tan, a_to, a_and, a_or, a_chain, a_ifE, a_onone, a_osome, a_sl, a_ixL, a_ixV, a_lvar, a_inL, a_for, a_to2, a_as, a_rng, a_lcP, a_lc, a_lc2, a_sc, a_sortZ, a_setOf, a_xor, a_ownI, a_callL, a_mmNil, a_mmSh, a_mmOwn, a_par, a_tab, a_disp, a_vals0, a_vals1, a_goName, a_yes, a_fnP, a_fnR, a_mFnR, a_store, a_app, a_join, a_rep, k_tt, k_tl, k_ti, k_tb, k_ts, k_tn, k_ll, k_lt, k_li, k_lb, k_ls, k_ln, k_it, k_il, k_ii, k_ib, k_is, k_in, k_bt, k_bl, k_bi, k_bb, k_bs, k_bn, k_st, k_sl, k_si, k_sb, k_ss, k_sn, v_lenT, v_lenL, v_lenS, v_tupL, v_intI, v_intB, v_asL, v_asT, v_asS, v_truB, v_truL, v_add, v_sub, v_lt, v_le, v_gt, v_ge, v_mod, v_div, v_mul, v_isN, p_sh, p_no, p_own, p_par, p_plsh, p_plno, st_sh, st_no, st_own, st_par, f_ix0, f_ix1, f_ix2, f_ix3, c_ix0, c_ix1, q_ix0, q_ix1, q_ix2, q_sl, f_kt, c_kt, c_kl, q_kt, f_len, c_len, q_len, c_go, q_go, f_go, t_go, g_cons, g_nil, v_enumT, v_enumS, v_rng1, v_rngN, v_rng2, v_n40, v_n41, v_n42, v_n43, v_setR0, q_add, v_addT, f_sl3, f_sl2, q_cutc1, q_cutc2, q_cutp1, put_own, put_par, o_rt, o_nx, r_rt, r_nx, po_par, d_eqO, d_notin, v_pow18, v_mulS, v_addL, af_c, stepC, back, List.getD_cons_zero, List.getD_cons_succ, af_nx, af_ct, af_bk, af_rt, gixT, gixL, ix0, ix1, ix2, ix3, sl_t, sl_l, eq_int, eq_bool, Option.bind_some, Option.bind_none, List.map_cons, List.map_nil, List.getElem?_cons_zero, List.getElem?_cons_succ, List.set_cons_zero, List.set_cons_succ, List.length_cons, List.length_nil, List.cons_append, List.nil_append, List.replicate, ownAt, if_true, Bool.false_eq_true, if_false, Nat.reduceAdd, Nat.reduceLeDiff, Bool.true_eq_false, Bool.false_bne, Bool.true_bne, Bool.not_true, Bool.not_false, ne_eq, not_true_eq_false, not_false_eq_true, reduceCtorEq, clean_pl, List.all_cons, List.all_nil, List.contains_cons, List.contains_nil, Nat.reduceBEq, Bool.and_self, and_self, and_true, true_and, wipeR, stepP, stepS, Option.map_some, if_and, if_or, if_tan, if_tor, Int.cast_ofNat_Int, decide_true, decide_false, Bool.true_and, Bool.and_true, Bool.or_false, Bool.false_or, Bool.and_false, Bool.false_and, in_cellsT, in_cellsL, shaped_cell, shaped_cellsL, shaped_cellsT, any_cells, List.flatten_nil, ad, List.append_nil, Int.reduceToNat, Int.reduceLE, Bool.bne_true, List.flatten]
        exact ⟨cs, rsy, _, _, rfl, ry, rfl, rfl, hcs, by rw [List.length_append]; omega⟩
      · have ad := v_addL (xs := cs.map cellD) (ys := [cellD (x, y)]) (by rw [List.length_map]; simp; omega)
        simp only [hm, a_seq, a_skip, a_if, a_ret, a_retN, a_drop, a_never, a_break, a_cont, a_set, a_own, a_var, a_c, a_op, a_nil, a_cons, a_tup, a_lst, a_f, a_call, a_fn, a_isi, a_isi2, a_not, a_tru, a_tbl, a_tno, a_tan, a_to, a_and, a_or, a_chain, a_ifE, a_onone, a_osome, a_sl, a_ixL, a_ixV, a_lvar, a_inL, a_for, a_to2, a_as, a_rng, a_lcP, a_lc, a_lc2, a_sc, a_sortZ, a_setOf, a_xor, a_ownI, a_callL, a_mmNil, a_mmSh, a_mmOwn, a_par, a_tab, a_disp, a_vals0, a_vals1, a_goName, a_yes, a_fnP, a_fnR, a_mFnR, a_store, a_app, a_join, a_rep, k_tt, k_tl, k_ti, k_tb, k_ts, k_tn, k_ll, k_lt, k_li, k_lb, k_ls, k_ln, k_it, k_il, k_ii, k_ib, k_is, k_in, k_bt, k_bl, k_bi, k_bb, k_bs, k_bn, k_st, k_sl, k_si, k_sb, k_ss, k_sn, v_lenT, v_lenL, v_lenS, v_tupL, v_intI, v_intB, v_asL, v_asT, v_asS, v_truB, v_truL, v_add, v_sub, v_lt, v_le, v_gt, v_ge, v_mod, v_div, v_mul, v_isN, p_sh, p_no, p_own, p_par, p_plsh, p_plno, st_sh, st_no, st_own, st_par, f_ix0, f_ix1, f_ix2, f_ix3, c_ix0, c_ix1, q_ix0, q_ix1, q_ix2, q_sl, f_kt, c_kt, c_kl, q_kt, f_len, c_len, q_len, c_go, q_go, f_go, t_go, g_cons, g_nil, v_enumT, v_enumS, v_rng1, v_rngN, v_rng2, v_n40, v_n41, v_n42, v_n43, v_setR0, q_add, v_addT, f_sl3, f_sl2, q_cutc1, q_cutc2, q_cutp1, put_own, put_par, o_rt, o_nx, r_rt, r_nx, po_par, d_eqO, d_notin, v_pow18, v_mulS, v_addL, af_c, stepC, back, List.getD_cons_zero, List.getD_cons_succ, af_nx, af_ct, af_bk, af_rt, gixT, gixL, ix0, ix1, ix2, ix3, sl_t, sl_l, eq_int, eq_bool, Option.bind_some, Option.bind_none, List.map_cons, List.map_nil, List.getElem?_cons_zero, List.getElem?_cons_succ, List.set_cons_zero, List.set_cons_succ, List.length_cons, List.length_nil, List.cons_append, List.nil_append, List.replicate, ownAt, if_true, Bool.false_eq_true, if_false, Nat.reduceAdd, Nat.reduceLeDiff, Bool.true_eq_false, Bool.false_bne, Bool.true_bne, Bool.not_true, Bool.not_false, ne_eq, not_true_eq_false, not_false_eq_true, reduceCtorEq, clean_pl, List.all_cons, List.all_nil, List.contains_cons, List.contains_nil, Nat.reduceBEq, Bool.and_self, and_self, and_true, true_and, wipeR, stepP, stepS, Option.map_some, if_and, if_or, if_tan, if_tor, Int.cast_ofNat_Int, decide_true, decide_false, Bool.true_and, Bool.and_true, Bool.or_false, Bool.false_or, Bool.and_false, Bool.false_and, in_cellsT, in_cellsL, shaped_cell, shaped_cellsL, shaped_cellsT, any_cells, ad, Int.reduceToNat, Int.reduceLE, List.flatten_cons, List.flatten_nil, List.flatten]
        refine ⟨cs ++ [(x, y)], rsy, .sh (.int (0 + (k : Int))), .sh (cellD (x, y)), ?_, ry, rfl, rfl, ⟨fun p hp => ?_, ?_⟩, ?_⟩
        · rw [List.map_append]; rfl
        · rcases List.mem_append.mp hp with w | w
          · exact hcs.1 p w
          · cases List.mem_singleton.mp w
            exact ⟨ax, bx, ay, by_⟩
        · refine List.nodup_append.mpr ⟨hcs.2, by simp, fun a ha b hb => ?_⟩
          cases List.mem_singleton.mp hb
          exact fun e => hm (by rw [← show a = (x, y) from e]; exact ha)
        · rw [List.length_append, List.length_append]
          simp
          omega)
  simp only [a_seq, a_skip, a_if, a_ret, a_retN, a_drop, a_never, a_break, a_cont, a_set, a_own, a_var, a_c, a_op, a_nil, a_cons, a_tup, a_lst, a_f, a_call, a_fn, a_isi, a_isi2, a_not, a_tru, a_tbl, a_tno, a_tan, a_to, a_and, a_or, a_chain, a_ifE, a_onone, a_osome, a_sl, a_ixL, a_ixV, a_lvar, a_inL, a_for, a_to2, a_as, a_rng, a_lcP, a_lc, a_lc2, a_sc, a_sortZ, a_setOf, a_xor, a_ownI, a_callL, a_mmNil, a_mmSh, a_mmOwn, a_par, a_tab, a_disp, a_vals0, a_vals1, a_goName, a_yes, a_fnP, a_fnR, a_mFnR, a_store, a_app, a_join, a_rep, k_tt, k_tl, k_ti, k_tb, k_ts, k_tn, k_ll, k_lt, k_li, k_lb, k_ls, k_ln, k_it, k_il, k_ii, k_ib, k_is, k_in, k_bt, k_bl, k_bi, k_bb, k_bs, k_bn, k_st, k_sl, k_si, k_sb, k_ss, k_sn, v_lenT, v_lenL, v_lenS, v_tupL, v_intI, v_intB, v_asL, v_asT, v_asS, v_truB, v_truL, v_add, v_sub, v_lt, v_le, v_gt, v_ge, v_mod, v_div, v_mul, v_isN, p_sh, p_no, p_own, p_par, p_plsh, p_plno, st_sh, st_no, st_own, st_par, f_ix0, f_ix1, f_ix2, f_ix3, c_ix0, c_ix1, q_ix0, q_ix1, q_ix2, q_sl, f_kt, c_kt, c_kl, q_kt, f_len, c_len, q_len, c_go, q_go, f_go, t_go, g_cons, g_nil, v_enumT, v_enumS, v_rng1, v_rngN, v_rng2, v_n40, v_n41, v_n42, v_n43, v_setR0, q_add, v_addT, f_sl3, f_sl2, q_cutc1, q_cutc2, q_cutp1, put_own, put_par, o_rt, o_nx, r_rt, r_nx, po_par, d_eqO, d_notin, v_pow18, v_mulS, v_addL, af_c, stepC, back, List.getD_cons_zero, List.getD_cons_succ, af_nx, af_ct, af_bk, af_rt, gixT, gixL, ix0, ix1, ix2, ix3, sl_t, sl_l, eq_int, eq_bool, Option.bind_some, Option.bind_none, List.map_cons, List.map_nil, List.getElem?_cons_zero, List.getElem?_cons_succ, List.set_cons_zero, List.set_cons_succ, List.length_cons, List.length_nil, List.cons_append, List.nil_append, List.replicate, ownAt, if_true, Bool.false_eq_true, if_false, Nat.reduceAdd, Nat.reduceLeDiff, Bool.true_eq_false, Bool.false_bne, Bool.true_bne, Bool.not_true, Bool.not_false, ne_eq, not_true_eq_false, not_false_eq_true, reduceCtorEq, clean_pl, List.all_cons, List.all_nil, List.contains_cons, List.contains_nil, Nat.reduceBEq, Bool.and_self, and_self, and_true, true_and, wipeR, stepP, stepS, Option.map_some, if_and, if_or, if_tan, if_tor, Int.cast_ofNat_Int, decide_true, decide_false, Bool.true_and, Bool.and_true, Bool.or_false, Bool.false_or, Bool.and_false, Bool.false_and, in_cellsT, in_cellsL, shaped_cell, shaped_cellsL, shaped_cellsT, any_cells]
  rw [List.length_range] at hpl hcl
  refine ⟨⟨1 + k1, 1 + k2, ps, cs⟩, rs7, rfl, r7, ⟨⟨by show 1 ≤ 1 + k1; omega, by show 1 + k1 ≤ 5; omega⟩, ⟨by show 1 ≤ 1 + k2; omega, by show 1 + k2 ≤ 5; omega⟩, by show ps.length ≤ 4; omega, fun p hp => ?_, hps.2, by show cs.length ≤ 8; omega, fun c hc => ?_, hcs.2⟩, by show 1 + k1 ≤ n; omega, by show 1 + k2 ≤ n; omega⟩
  · obtain ⟨h1, h2, h3, h4, h5, h6⟩ := hps.1 p hp
    exact ⟨Fl.has_iff.mpr ⟨h1, h2, h3, h4⟩, h5, h6⟩
  · exact Fl.has_iff.mpr (hcs.1 c hc)
theorem law_sun_ok {rs : List PyData} (h : RowOk rs) : ∃ l rs', f__law_sun rs [] = some (.str (sunS l), rs') ∧ RowOk rs' ∧ l ≠ [] ∧ l.length ≤ 6 := by
  obtain ⟨k1, rs1, e1, r1, a1, b1⟩ := taken_ok h (n := 2) (by omega) (by omega)
  obtain ⟨m, hm, m1, m2⟩ : ∃ m, gIx (.list [.int 2, .int 6]) (.int k1) = some (.int m) ∧ 2 ≤ m ∧ m ≤ 6 := by
    have : k1 = 0 ∨ k1 = 1 := by omega
    rcases this with rfl | rfl
    · exact ⟨2, rfl, by decide, by decide⟩
    · exact ⟨6, rfl, by decide, by decide⟩
  obtain ⟨k2, rs2, e2, r2, a2, b2⟩ := taken_ok r1 (n := m) (by omega) (by omega)
  have hr := v_rng1 (j := 1 + k2) (by omega) (by omega)
  simp only [f__law_sun, m__law_sun, a_seq, a_skip, a_if, a_ret, a_retN, a_drop, a_never, a_break, a_cont, a_set, a_own, a_var, a_c, a_op, a_nil, a_cons, a_tup, a_lst, a_f, a_call, a_fn, a_isi, a_isi2, a_not, a_tru, a_tbl, a_tno, a_tan, a_to, a_and, a_or, a_chain, a_ifE, a_onone, a_osome, a_sl, a_ixL, a_ixV, a_lvar, a_inL, a_for, a_to2, a_as, a_rng, a_lcP, a_lc, a_lc2, a_sc, a_sortZ, a_setOf, a_xor, a_ownI, a_callL, a_mmNil, a_mmSh, a_mmOwn, a_par, a_tab, a_disp, a_vals0, a_vals1, a_goName, a_yes, a_fnP, a_fnR, a_mFnR, a_store, a_app, a_join, a_rep, k_tt, k_tl, k_ti, k_tb, k_ts, k_tn, k_ll, k_lt, k_li, k_lb, k_ls, k_ln, k_it, k_il, k_ii, k_ib, k_is, k_in, k_bt, k_bl, k_bi, k_bb, k_bs, k_bn, k_st, k_sl, k_si, k_sb, k_ss, k_sn, v_lenT, v_lenL, v_lenS, v_tupL, v_intI, v_intB, v_asL, v_asT, v_asS, v_truB, v_truL, v_add, v_sub, v_lt, v_le, v_gt, v_ge, v_mod, v_div, v_mul, v_isN, p_sh, p_no, p_own, p_par, p_plsh, p_plno, st_sh, st_no, st_own, st_par, f_ix0, f_ix1, f_ix2, f_ix3, c_ix0, c_ix1, q_ix0, q_ix1, q_ix2, q_sl, f_kt, c_kt, c_kl, q_kt, f_len, c_len, q_len, c_go, q_go, f_go, t_go, g_cons, g_nil, v_enumT, v_enumS, v_rng1, v_rngN, v_rng2, v_n40, v_n41, v_n42, v_n43, v_setR0, q_add, v_addT, f_sl3, f_sl2, q_cutc1, q_cutc2, q_cutp1, put_own, put_par, o_rt, o_nx, r_rt, r_nx, po_par, d_eqO, d_notin, v_pow18, v_mulS, v_addL, af_c, stepC, back, List.getD_cons_zero, List.getD_cons_succ, af_nx, af_ct, af_bk, af_rt, gixT, gixL, ix0, ix1, ix2, ix3, sl_t, sl_l, eq_int, eq_bool, Option.bind_some, Option.bind_none, List.map_cons, List.map_nil, List.getElem?_cons_zero, List.getElem?_cons_succ, List.set_cons_zero, List.set_cons_succ, List.length_cons, List.length_nil, List.cons_append, List.nil_append, List.replicate, ownAt, if_true, Bool.false_eq_true, if_false, Nat.reduceAdd, Nat.reduceLeDiff, Bool.true_eq_false, Bool.false_bne, Bool.true_bne, Bool.not_true, Bool.not_false, ne_eq, not_true_eq_false, not_false_eq_true, reduceCtorEq, clean_pl, List.all_cons, List.all_nil, List.contains_cons, List.contains_nil, Nat.reduceBEq, Bool.and_self, and_self, and_true, true_and, wipeR, stepP, stepS, Option.map_some, if_and, if_or, if_tan, if_tor, Int.cast_ofNat_Int, decide_true, decide_false, Bool.true_and, Bool.and_true, Bool.or_false, Bool.false_or, Bool.and_false, Bool.false_and, in_cellsT, in_cellsL, shaped_cell, shaped_cellsL, shaped_cellsT, any_cells, e1, e2, hm, hr, rngD_map]
  generalize hL : loopC _ _ _ _ _ _ _ = L
  obtain ⟨acc, ρ1, rfl, l, rs3, rfl, rfl, r3, hl⟩ := doneC hL (fun done acc ρ => ∃ l rs, acc = l.map (fun d => .str (dirS d)) ∧ ρ = [.par rs, .no] ∧ RowOk rs ∧ l.length = done.length) ⟨[], rs2, rfl, rfl, r2, rfl⟩ (fun done k rest acc ρ hd ⟨l, rs, ea, e, r, hl⟩ => by
    subst e ea
    obtain ⟨x, rsx, ex, rx, ax, bx⟩ := taken_ok r (n := 5) (by omega) (by omega)
    obtain ⟨d, hx⟩ := ensow ax bx
    have hl2 : l.length < 16000000 := by
      have := congrArg List.length hd
      rw [List.length_append, List.length_cons, List.length_range] at this
      omega
    simp only [a_seq, a_skip, a_if, a_ret, a_retN, a_drop, a_never, a_break, a_cont, a_set, a_own, a_var, a_c, a_op, a_nil, a_cons, a_tup, a_lst, a_f, a_call, a_fn, a_isi, a_isi2, a_not, a_tru, a_tbl, a_tno, a_tan, a_to, a_and, a_or, a_chain, a_ifE, a_onone, a_osome, a_sl, a_ixL, a_ixV, a_lvar, a_inL, a_for, a_to2, a_as, a_rng, a_lcP, a_lc, a_lc2, a_sc, a_sortZ, a_setOf, a_xor, a_ownI, a_callL, a_mmNil, a_mmSh, a_mmOwn, a_par, a_tab, a_disp, a_vals0, a_vals1, a_goName, a_yes, a_fnP, a_fnR, a_mFnR, a_store, a_app, a_join, a_rep, k_tt, k_tl, k_ti, k_tb, k_ts, k_tn, k_ll, k_lt, k_li, k_lb, k_ls, k_ln, k_it, k_il, k_ii, k_ib, k_is, k_in, k_bt, k_bl, k_bi, k_bb, k_bs, k_bn, k_st, k_sl, k_si, k_sb, k_ss, k_sn, v_lenT, v_lenL, v_lenS, v_tupL, v_intI, v_intB, v_asL, v_asT, v_asS, v_truB, v_truL, v_add, v_sub, v_lt, v_le, v_gt, v_ge, v_mod, v_div, v_mul, v_isN, p_sh, p_no, p_own, p_par, p_plsh, p_plno, st_sh, st_no, st_own, st_par, f_ix0, f_ix1, f_ix2, f_ix3, c_ix0, c_ix1, q_ix0, q_ix1, q_ix2, q_sl, f_kt, c_kt, c_kl, q_kt, f_len, c_len, q_len, c_go, q_go, f_go, t_go, g_cons, g_nil, v_enumT, v_enumS, v_rng1, v_rngN, v_rng2, v_n40, v_n41, v_n42, v_n43, v_setR0, q_add, v_addT, f_sl3, f_sl2, q_cutc1, q_cutc2, q_cutp1, put_own, put_par, o_rt, o_nx, r_rt, r_nx, po_par, d_eqO, d_notin, v_pow18, v_mulS, v_addL, af_c, stepC, back, List.getD_cons_zero, List.getD_cons_succ, af_nx, af_ct, af_bk, af_rt, gixT, gixL, ix0, ix1, ix2, ix3, sl_t, sl_l, eq_int, eq_bool, Option.bind_some, Option.bind_none, List.map_cons, List.map_nil, List.getElem?_cons_zero, List.getElem?_cons_succ, List.set_cons_zero, List.set_cons_succ, List.length_cons, List.length_nil, List.cons_append, List.nil_append, List.replicate, ownAt, if_true, Bool.false_eq_true, if_false, Nat.reduceAdd, Nat.reduceLeDiff, Bool.true_eq_false, Bool.false_bne, Bool.true_bne, Bool.not_true, Bool.not_false, ne_eq, not_true_eq_false, not_false_eq_true, reduceCtorEq, clean_pl, List.all_cons, List.all_nil, List.contains_cons, List.contains_nil, Nat.reduceBEq, Bool.and_self, and_self, and_true, true_and, wipeR, stepP, stepS, Option.map_some, if_and, if_or, if_tan, if_tor, Int.cast_ofNat_Int, decide_true, decide_false, Bool.true_and, Bool.and_true, Bool.or_false, Bool.false_or, Bool.and_false, Bool.false_and, in_cellsT, in_cellsL, shaped_cell, shaped_cellsL, shaped_cellsT, any_cells, ex, hx, List.length_map, hl2]
    refine ⟨l ++ [d], rsx, ?_, rfl, rx, ?_⟩
    · rw [List.map_append]; rfl
    · rw [List.length_append, List.length_append, hl]; rfl)
  rw [List.length_range] at hl
  have hs : ((l.map dirS).map (·.length)).sum + (l.map dirS).length * ("" : Str).length ≤ 100000 := by
    rw [dirs_len, show ("" : Str).length = 0 by decide +kernel, Nat.mul_zero]
    omega
  simp only [a_seq, a_skip, a_if, a_ret, a_retN, a_drop, a_never, a_break, a_cont, a_set, a_own, a_var, a_c, a_op, a_nil, a_cons, a_tup, a_lst, a_f, a_call, a_fn, a_isi, a_isi2, a_not, a_tru, a_tbl, a_tno, a_tan, a_to, a_and, a_or, a_chain, a_ifE, a_onone, a_osome, a_sl, a_ixL, a_ixV, a_lvar, a_inL, a_for, a_to2, a_as, a_rng, a_lcP, a_lc, a_lc2, a_sc, a_sortZ, a_setOf, a_xor, a_ownI, a_callL, a_mmNil, a_mmSh, a_mmOwn, a_par, a_tab, a_disp, a_vals0, a_vals1, a_goName, a_yes, a_fnP, a_fnR, a_mFnR, a_store, a_app, a_join, a_rep, k_tt, k_tl, k_ti, k_tb, k_ts, k_tn, k_ll, k_lt, k_li, k_lb, k_ls, k_ln, k_it, k_il, k_ii, k_ib, k_is, k_in, k_bt, k_bl, k_bi, k_bb, k_bs, k_bn, k_st, k_sl, k_si, k_sb, k_ss, k_sn, v_lenT, v_lenL, v_lenS, v_tupL, v_intI, v_intB, v_asL, v_asT, v_asS, v_truB, v_truL, v_add, v_sub, v_lt, v_le, v_gt, v_ge, v_mod, v_div, v_mul, v_isN, p_sh, p_no, p_own, p_par, p_plsh, p_plno, st_sh, st_no, st_own, st_par, f_ix0, f_ix1, f_ix2, f_ix3, c_ix0, c_ix1, q_ix0, q_ix1, q_ix2, q_sl, f_kt, c_kt, c_kl, q_kt, f_len, c_len, q_len, c_go, q_go, f_go, t_go, g_cons, g_nil, v_enumT, v_enumS, v_rng1, v_rngN, v_rng2, v_n40, v_n41, v_n42, v_n43, v_setR0, q_add, v_addT, f_sl3, f_sl2, q_cutc1, q_cutc2, q_cutp1, put_own, put_par, o_rt, o_nx, r_rt, r_nx, po_par, d_eqO, d_notin, v_pow18, v_mulS, v_addL, af_c, stepC, back, List.getD_cons_zero, List.getD_cons_succ, af_nx, af_ct, af_bk, af_rt, gixT, gixL, ix0, ix1, ix2, ix3, sl_t, sl_l, eq_int, eq_bool, Option.bind_some, Option.bind_none, List.map_cons, List.map_nil, List.getElem?_cons_zero, List.getElem?_cons_succ, List.set_cons_zero, List.set_cons_succ, List.length_cons, List.length_nil, List.cons_append, List.nil_append, List.replicate, ownAt, if_true, Bool.false_eq_true, if_false, Nat.reduceAdd, Nat.reduceLeDiff, Bool.true_eq_false, Bool.false_bne, Bool.true_bne, Bool.not_true, Bool.not_false, ne_eq, not_true_eq_false, not_false_eq_true, reduceCtorEq, clean_pl, List.all_cons, List.all_nil, List.contains_cons, List.contains_nil, Nat.reduceBEq, Bool.and_self, and_self, and_true, true_and, wipeR, stepP, stepS, Option.map_some, if_and, if_or, if_tan, if_tor, Int.cast_ofNat_Int, decide_true, decide_false, Bool.true_and, Bool.and_true, Bool.or_false, Bool.false_or, Bool.and_false, Bool.false_and, in_cellsT, in_cellsL, shaped_cell, shaped_cellsL, shaped_cellsT, any_cells, txts_dirs, hs, sun_join]
  refine ⟨l, rs3, rfl, r3, fun z => ?_, by omega⟩
  subst z
  simp at hl
  omega
theorem shaded_mem {F : Fl} (O : F.Ok) {l : List Dir} (h1 : l ≠ []) (h2 : l.length ≤ 6) {b : Int} (h3 : 0 ≤ b) : ∃ d, l[(b % l.length).toNat]? = some d := by
  have pos := List.length_pos_iff.mpr h1
  have e := Int.emod_nonneg b (show (l.length : Int) ≠ 0 by omega)
  have e2 := Int.emod_lt_of_pos b (show 0 < (l.length : Int) by omega)
  exact ⟨_, List.getElem?_eq_getElem (by omega)⟩
def PartedOk : Prop := ∀ (F G : Fl) (l : List Dir), F.Ok → G.Ok → l ≠ [] → l.length ≤ 6 → f_parted [flD F, flD G, .str (sunS l)] = some (dueD (partOf F G l))
theorem parted_ok : PartedOk := by
  intro F G l OF OG l1 l2
  have cF := check_floor_ok OF
  have cG := check_floor_ok OG
  have cS := check_sun_ok l1 l2
  simp only [f_parted, m_parted, a_seq, a_skip, a_if, a_ret, a_retN, a_drop, a_never, a_break, a_cont, a_set, a_own, a_var, a_c, a_op, a_nil, a_cons, a_tup, a_lst, a_f, a_call, a_fn, a_isi, a_isi2, a_not, a_tru, a_tbl, a_tno, a_tan, a_to, a_and, a_or, a_chain, a_ifE, a_onone, a_osome, a_sl, a_ixL, a_ixV, a_lvar, a_inL, a_for, a_to2, a_as, a_rng, a_lcP, a_lc, a_lc2, a_sc, a_sortZ, a_setOf, a_xor, a_ownI, a_callL, a_mmNil, a_mmSh, a_mmOwn, a_par, a_tab, a_disp, a_vals0, a_vals1, a_goName, a_yes, a_fnP, a_fnR, a_mFnR, a_store, a_app, a_join, a_rep, k_tt, k_tl, k_ti, k_tb, k_ts, k_tn, k_ll, k_lt, k_li, k_lb, k_ls, k_ln, k_it, k_il, k_ii, k_ib, k_is, k_in, k_bt, k_bl, k_bi, k_bb, k_bs, k_bn, k_st, k_sl, k_si, k_sb, k_ss, k_sn, v_lenT, v_lenL, v_lenS, v_tupL, v_intI, v_intB, v_asL, v_asT, v_asS, v_truB, v_truL, v_add, v_sub, v_lt, v_le, v_gt, v_ge, v_mod, v_div, v_mul, v_isN, p_sh, p_no, p_own, p_par, p_plsh, p_plno, st_sh, st_no, st_own, st_par, f_ix0, f_ix1, f_ix2, f_ix3, c_ix0, c_ix1, q_ix0, q_ix1, q_ix2, q_sl, f_kt, c_kt, c_kl, q_kt, f_len, c_len, q_len, c_go, q_go, f_go, t_go, g_cons, g_nil, v_enumT, v_enumS, v_rng1, v_rngN, v_rng2, v_n40, v_n41, v_n42, v_n43, v_setR0, q_add, v_addT, f_sl3, f_sl2, q_cutc1, q_cutc2, q_cutp1, put_own, put_par, o_rt, o_nx, r_rt, r_nx, po_par, d_eqO, d_notin, v_pow18, v_mulS, v_addL, af_c, stepC, back, List.getD_cons_zero, List.getD_cons_succ, af_nx, af_ct, af_bk, af_rt, gixT, gixL, ix0, ix1, ix2, ix3, sl_t, sl_l, eq_int, eq_bool, Option.bind_some, Option.bind_none, List.map_cons, List.map_nil, List.getElem?_cons_zero, List.getElem?_cons_succ, List.set_cons_zero, List.set_cons_succ, List.length_cons, List.length_nil, List.cons_append, List.nil_append, List.replicate, ownAt, if_true, Bool.false_eq_true, if_false, Nat.reduceAdd, Nat.reduceLeDiff, Bool.true_eq_false, Bool.false_bne, Bool.true_bne, Bool.not_true, Bool.not_false, ne_eq, not_true_eq_false, not_false_eq_true, reduceCtorEq, clean_pl, List.all_cons, List.all_nil, List.contains_cons, List.contains_nil, Nat.reduceBEq, Bool.and_self, and_self, and_true, true_and, wipeR, stepP, stepS, Option.map_some, if_and, if_or, if_tan, if_tor, Int.cast_ofNat_Int, decide_true, decide_false, Bool.true_and, Bool.and_true, Bool.or_false, Bool.false_or, Bool.and_false, Bool.false_and, in_cellsT, in_cellsL, shaped_cell, shaped_cellsL, shaped_cellsT, any_cells, cF, cG, cS, sun_signs]
  generalize hL : loopS _ _ _ _ = L
  obtain ⟨o, rfl, ho⟩ := enumA hL (fun done ρ => ∃ s3 s4 s5, ρ = [.sh (flD F), .sh (flD G), .sh (.str (sunS l)), s3, s4, s5] ∧ isPar s3 = false ∧ isPar s4 = false ∧ isPar s5 = false ∧ partOf F G done = none)
    (fun o => match o with | .nx _ => partOf F G l = none | .rt v _ => v = dueD (partOf F G l) | _ => False) ⟨_, _, _, rfl, rfl, rfl, rfl, rfl⟩ (fun done d rest ρ hd ⟨s3, s4, s5, e, p3, p4, p5, hn⟩ => by
      subst e
      have sF := shaded_ok OF d
      have sG := shaded_ok OG d
      have nF := shade_len OF d
      have nG := shade_len OG d
      have of := once_few OF OG d
      have ao := apart_ok OF OG d
      have al := apart_list OF OG d
      have sn := partOf_snoc F G done d
      rw [hn, Option.none_or] at sn
      simp only [a_seq, a_skip, a_if, a_ret, a_retN, a_drop, a_never, a_break, a_cont, a_set, a_own, a_var, a_c, a_op, a_nil, a_cons, a_tup, a_lst, a_f, a_call, a_fn, a_isi, a_isi2, a_not, a_tru, a_tbl, a_tno, a_tan, a_to, a_and, a_or, a_chain, a_ifE, a_onone, a_osome, a_sl, a_ixL, a_ixV, a_lvar, a_inL, a_for, a_to2, a_as, a_rng, a_lcP, a_lc, a_lc2, a_sc, a_sortZ, a_setOf, a_xor, a_ownI, a_callL, a_mmNil, a_mmSh, a_mmOwn, a_par, a_tab, a_disp, a_vals0, a_vals1, a_goName, a_yes, a_fnP, a_fnR, a_mFnR, a_store, a_app, a_join, a_rep, k_tt, k_tl, k_ti, k_tb, k_ts, k_tn, k_ll, k_lt, k_li, k_lb, k_ls, k_ln, k_it, k_il, k_ii, k_ib, k_is, k_in, k_bt, k_bl, k_bi, k_bb, k_bs, k_bn, k_st, k_sl, k_si, k_sb, k_ss, k_sn, v_lenT, v_lenL, v_lenS, v_tupL, v_intI, v_intB, v_asL, v_asT, v_asS, v_truB, v_truL, v_add, v_sub, v_lt, v_le, v_gt, v_ge, v_mod, v_div, v_mul, v_isN, p_sh, p_no, p_own, p_par, p_plsh, p_plno, st_sh, st_no, st_own, st_par, f_ix0, f_ix1, f_ix2, f_ix3, c_ix0, c_ix1, q_ix0, q_ix1, q_ix2, q_sl, f_kt, c_kt, c_kl, q_kt, f_len, c_len, q_len, c_go, q_go, f_go, t_go, g_cons, g_nil, v_enumT, v_enumS, v_rng1, v_rngN, v_rng2, v_n40, v_n41, v_n42, v_n43, v_setR0, q_add, v_addT, f_sl3, f_sl2, q_cutc1, q_cutc2, q_cutp1, put_own, put_par, o_rt, o_nx, r_rt, r_nx, po_par, d_eqO, d_notin, v_pow18, v_mulS, v_addL, af_c, stepC, back, List.getD_cons_zero, List.getD_cons_succ, af_nx, af_ct, af_bk, af_rt, gixT, gixL, ix0, ix1, ix2, ix3, sl_t, sl_l, eq_int, eq_bool, Option.bind_some, Option.bind_none, List.map_cons, List.map_nil, List.getElem?_cons_zero, List.getElem?_cons_succ, List.set_cons_zero, List.set_cons_succ, List.length_cons, List.length_nil, List.cons_append, List.nil_append, List.replicate, ownAt, if_true, Bool.false_eq_true, if_false, Nat.reduceAdd, Nat.reduceLeDiff, Bool.true_eq_false, Bool.false_bne, Bool.true_bne, Bool.not_true, Bool.not_false, ne_eq, not_true_eq_false, not_false_eq_true, reduceCtorEq, clean_pl, List.all_cons, List.all_nil, List.contains_cons, List.contains_nil, Nat.reduceBEq, Bool.and_self, and_self, and_true, true_and, wipeR, stepP, stepS, Option.map_some, if_and, if_or, if_tan, if_tor, Int.cast_ofNat_Int, decide_true, decide_false, Bool.true_and, Bool.and_true, Bool.or_false, Bool.false_or, Bool.and_false, Bool.false_and, in_cellsT, in_cellsL, shaped_cell, shaped_cellsL, shaped_cellsT, any_cells, p3, p4, p5, sF, sG, untups_cells, List.length_map, nF, nG, of, ao, al, tupD_cells]
      cases hg : grid.filter (apart F G d) with
      | nil =>
        have hf : partAt F G d = none := by
          unfold partAt
          rw [← List.head?_filter, hg]
          rfl
        rw [hf] at sn
        simp only [a_seq, a_skip, a_if, a_ret, a_retN, a_drop, a_never, a_break, a_cont, a_set, a_own, a_var, a_c, a_op, a_nil, a_cons, a_tup, a_lst, a_f, a_call, a_fn, a_isi, a_isi2, a_not, a_tru, a_tbl, a_tno, a_tan, a_to, a_and, a_or, a_chain, a_ifE, a_onone, a_osome, a_sl, a_ixL, a_ixV, a_lvar, a_inL, a_for, a_to2, a_as, a_rng, a_lcP, a_lc, a_lc2, a_sc, a_sortZ, a_setOf, a_xor, a_ownI, a_callL, a_mmNil, a_mmSh, a_mmOwn, a_par, a_tab, a_disp, a_vals0, a_vals1, a_goName, a_yes, a_fnP, a_fnR, a_mFnR, a_store, a_app, a_join, a_rep, k_tt, k_tl, k_ti, k_tb, k_ts, k_tn, k_ll, k_lt, k_li, k_lb, k_ls, k_ln, k_it, k_il, k_ii, k_ib, k_is, k_in, k_bt, k_bl, k_bi, k_bb, k_bs, k_bn, k_st, k_sl, k_si, k_sb, k_ss, k_sn, v_lenT, v_lenL, v_lenS, v_tupL, v_intI, v_intB, v_asL, v_asT, v_asS, v_truB, v_truL, v_add, v_sub, v_lt, v_le, v_gt, v_ge, v_mod, v_div, v_mul, v_isN, p_sh, p_no, p_own, p_par, p_plsh, p_plno, st_sh, st_no, st_own, st_par, f_ix0, f_ix1, f_ix2, f_ix3, c_ix0, c_ix1, q_ix0, q_ix1, q_ix2, q_sl, f_kt, c_kt, c_kl, q_kt, f_len, c_len, q_len, c_go, q_go, f_go, t_go, g_cons, g_nil, v_enumT, v_enumS, v_rng1, v_rngN, v_rng2, v_n40, v_n41, v_n42, v_n43, v_setR0, q_add, v_addT, f_sl3, f_sl2, q_cutc1, q_cutc2, q_cutp1, put_own, put_par, o_rt, o_nx, r_rt, r_nx, po_par, d_eqO, d_notin, v_pow18, v_mulS, v_addL, af_c, stepC, back, List.getD_cons_zero, List.getD_cons_succ, af_nx, af_ct, af_bk, af_rt, gixT, gixL, ix0, ix1, ix2, ix3, sl_t, sl_l, eq_int, eq_bool, Option.bind_some, Option.bind_none, List.map_cons, List.map_nil, List.getElem?_cons_zero, List.getElem?_cons_succ, List.set_cons_zero, List.set_cons_succ, List.length_cons, List.length_nil, List.cons_append, List.nil_append, List.replicate, ownAt, if_true, Bool.false_eq_true, if_false, Nat.reduceAdd, Nat.reduceLeDiff, Bool.true_eq_false, Bool.false_bne, Bool.true_bne, Bool.not_true, Bool.not_false, ne_eq, not_true_eq_false, not_false_eq_true, reduceCtorEq, clean_pl, List.all_cons, List.all_nil, List.contains_cons, List.contains_nil, Nat.reduceBEq, Bool.and_self, and_self, and_true, true_and, wipeR, stepP, stepS, Option.map_some, if_and, if_or, if_tan, if_tor, Int.cast_ofNat_Int, decide_true, decide_false, Bool.true_and, Bool.and_true, Bool.or_false, Bool.false_or, Bool.and_false, Bool.false_and, in_cellsT, in_cellsL, shaped_cell, shaped_cellsL, shaped_cellsT, any_cells, List.isEmpty_nil]
        exact ⟨_, _, _, rfl, rfl, rfl, rfl, sn⟩
      | cons c cs =>
        have hf : partAt F G d = some c := by
          unfold partAt
          rw [← List.head?_filter, hg]
          rfl
        rw [hf] at sn
        have all : partOf F G l = some (done.length, c) := by
          rw [hd]
          have e : done ++ d :: rest = (done ++ [d]) ++ rest := by rw [List.append_assoc]; rfl
          rw [e]
          unfold partOf at sn ⊢
          rw [List.zipIdx_append, List.findSome?_append, sn]
          rfl
        simp only [a_seq, a_skip, a_if, a_ret, a_retN, a_drop, a_never, a_break, a_cont, a_set, a_own, a_var, a_c, a_op, a_nil, a_cons, a_tup, a_lst, a_f, a_call, a_fn, a_isi, a_isi2, a_not, a_tru, a_tbl, a_tno, a_tan, a_to, a_and, a_or, a_chain, a_ifE, a_onone, a_osome, a_sl, a_ixL, a_ixV, a_lvar, a_inL, a_for, a_to2, a_as, a_rng, a_lcP, a_lc, a_lc2, a_sc, a_sortZ, a_setOf, a_xor, a_ownI, a_callL, a_mmNil, a_mmSh, a_mmOwn, a_par, a_tab, a_disp, a_vals0, a_vals1, a_goName, a_yes, a_fnP, a_fnR, a_mFnR, a_store, a_app, a_join, a_rep, k_tt, k_tl, k_ti, k_tb, k_ts, k_tn, k_ll, k_lt, k_li, k_lb, k_ls, k_ln, k_it, k_il, k_ii, k_ib, k_is, k_in, k_bt, k_bl, k_bi, k_bb, k_bs, k_bn, k_st, k_sl, k_si, k_sb, k_ss, k_sn, v_lenT, v_lenL, v_lenS, v_tupL, v_intI, v_intB, v_asL, v_asT, v_asS, v_truB, v_truL, v_add, v_sub, v_lt, v_le, v_gt, v_ge, v_mod, v_div, v_mul, v_isN, p_sh, p_no, p_own, p_par, p_plsh, p_plno, st_sh, st_no, st_own, st_par, f_ix0, f_ix1, f_ix2, f_ix3, c_ix0, c_ix1, q_ix0, q_ix1, q_ix2, q_sl, f_kt, c_kt, c_kl, q_kt, f_len, c_len, q_len, c_go, q_go, f_go, t_go, g_cons, g_nil, v_enumT, v_enumS, v_rng1, v_rngN, v_rng2, v_n40, v_n41, v_n42, v_n43, v_setR0, q_add, v_addT, f_sl3, f_sl2, q_cutc1, q_cutc2, q_cutp1, put_own, put_par, o_rt, o_nx, r_rt, r_nx, po_par, d_eqO, d_notin, v_pow18, v_mulS, v_addL, af_c, stepC, back, List.getD_cons_zero, List.getD_cons_succ, af_nx, af_ct, af_bk, af_rt, gixT, gixL, ix0, ix1, ix2, ix3, sl_t, sl_l, eq_int, eq_bool, Option.bind_some, Option.bind_none, List.map_cons, List.map_nil, List.getElem?_cons_zero, List.getElem?_cons_succ, List.set_cons_zero, List.set_cons_succ, List.length_cons, List.length_nil, List.cons_append, List.nil_append, List.replicate, ownAt, if_true, Bool.false_eq_true, if_false, Nat.reduceAdd, Nat.reduceLeDiff, Bool.true_eq_false, Bool.false_bne, Bool.true_bne, Bool.not_true, Bool.not_false, ne_eq, not_true_eq_false, not_false_eq_true, reduceCtorEq, clean_pl, List.all_cons, List.all_nil, List.contains_cons, List.contains_nil, Nat.reduceBEq, Bool.and_self, and_self, and_true, true_and, wipeR, stepP, stepS, Option.map_some, if_and, if_or, if_tan, if_tor, Int.cast_ofNat_Int, decide_true, decide_false, Bool.true_and, Bool.and_true, Bool.or_false, Bool.false_or, Bool.and_false, Bool.false_and, in_cellsT, in_cellsL, shaped_cell, shaped_cellsL, shaped_cellsT, any_cells, List.isEmpty_cons]
        rw [all]
        rfl) (fun ρ ⟨_, _, _, _, _, _, _, h⟩ => h)
  cases o with
  | nx ρ =>
    have ho : partOf F G l = none := ho
    simp only [a_seq, a_skip, a_if, a_ret, a_retN, a_drop, a_never, a_break, a_cont, a_set, a_own, a_var, a_c, a_op, a_nil, a_cons, a_tup, a_lst, a_f, a_call, a_fn, a_isi, a_isi2, a_not, a_tru, a_tbl, a_tno, a_tan, a_to, a_and, a_or, a_chain, a_ifE, a_onone, a_osome, a_sl, a_ixL, a_ixV, a_lvar, a_inL, a_for, a_to2, a_as, a_rng, a_lcP, a_lc, a_lc2, a_sc, a_sortZ, a_setOf, a_xor, a_ownI, a_callL, a_mmNil, a_mmSh, a_mmOwn, a_par, a_tab, a_disp, a_vals0, a_vals1, a_goName, a_yes, a_fnP, a_fnR, a_mFnR, a_store, a_app, a_join, a_rep, k_tt, k_tl, k_ti, k_tb, k_ts, k_tn, k_ll, k_lt, k_li, k_lb, k_ls, k_ln, k_it, k_il, k_ii, k_ib, k_is, k_in, k_bt, k_bl, k_bi, k_bb, k_bs, k_bn, k_st, k_sl, k_si, k_sb, k_ss, k_sn, v_lenT, v_lenL, v_lenS, v_tupL, v_intI, v_intB, v_asL, v_asT, v_asS, v_truB, v_truL, v_add, v_sub, v_lt, v_le, v_gt, v_ge, v_mod, v_div, v_mul, v_isN, p_sh, p_no, p_own, p_par, p_plsh, p_plno, st_sh, st_no, st_own, st_par, f_ix0, f_ix1, f_ix2, f_ix3, c_ix0, c_ix1, q_ix0, q_ix1, q_ix2, q_sl, f_kt, c_kt, c_kl, q_kt, f_len, c_len, q_len, c_go, q_go, f_go, t_go, g_cons, g_nil, v_enumT, v_enumS, v_rng1, v_rngN, v_rng2, v_n40, v_n41, v_n42, v_n43, v_setR0, q_add, v_addT, f_sl3, f_sl2, q_cutc1, q_cutc2, q_cutp1, put_own, put_par, o_rt, o_nx, r_rt, r_nx, po_par, d_eqO, d_notin, v_pow18, v_mulS, v_addL, af_c, stepC, back, List.getD_cons_zero, List.getD_cons_succ, af_nx, af_ct, af_bk, af_rt, gixT, gixL, ix0, ix1, ix2, ix3, sl_t, sl_l, eq_int, eq_bool, Option.bind_some, Option.bind_none, List.map_cons, List.map_nil, List.getElem?_cons_zero, List.getElem?_cons_succ, List.set_cons_zero, List.set_cons_succ, List.length_cons, List.length_nil, List.cons_append, List.nil_append, List.replicate, ownAt, if_true, Bool.false_eq_true, if_false, Nat.reduceAdd, Nat.reduceLeDiff, Bool.true_eq_false, Bool.false_bne, Bool.true_bne, Bool.not_true, Bool.not_false, ne_eq, not_true_eq_false, not_false_eq_true, reduceCtorEq, clean_pl, List.all_cons, List.all_nil, List.contains_cons, List.contains_nil, Nat.reduceBEq, Bool.and_self, and_self, and_true, true_and, wipeR, stepP, stepS, Option.map_some, if_and, if_or, if_tan, if_tor, Int.cast_ofNat_Int, decide_true, decide_false, Bool.true_and, Bool.and_true, Bool.or_false, Bool.false_or, Bool.and_false, Bool.false_and, in_cellsT, in_cellsL, shaped_cell, shaped_cellsL, shaped_cellsT, any_cells]
    rw [ho]
    rfl
  | rt v ρ =>
    have ho : v = dueD (partOf F G l) := ho
    simp only [a_seq, a_skip, a_if, a_ret, a_retN, a_drop, a_never, a_break, a_cont, a_set, a_own, a_var, a_c, a_op, a_nil, a_cons, a_tup, a_lst, a_f, a_call, a_fn, a_isi, a_isi2, a_not, a_tru, a_tbl, a_tno, a_tan, a_to, a_and, a_or, a_chain, a_ifE, a_onone, a_osome, a_sl, a_ixL, a_ixV, a_lvar, a_inL, a_for, a_to2, a_as, a_rng, a_lcP, a_lc, a_lc2, a_sc, a_sortZ, a_setOf, a_xor, a_ownI, a_callL, a_mmNil, a_mmSh, a_mmOwn, a_par, a_tab, a_disp, a_vals0, a_vals1, a_goName, a_yes, a_fnP, a_fnR, a_mFnR, a_store, a_app, a_join, a_rep, k_tt, k_tl, k_ti, k_tb, k_ts, k_tn, k_ll, k_lt, k_li, k_lb, k_ls, k_ln, k_it, k_il, k_ii, k_ib, k_is, k_in, k_bt, k_bl, k_bi, k_bb, k_bs, k_bn, k_st, k_sl, k_si, k_sb, k_ss, k_sn, v_lenT, v_lenL, v_lenS, v_tupL, v_intI, v_intB, v_asL, v_asT, v_asS, v_truB, v_truL, v_add, v_sub, v_lt, v_le, v_gt, v_ge, v_mod, v_div, v_mul, v_isN, p_sh, p_no, p_own, p_par, p_plsh, p_plno, st_sh, st_no, st_own, st_par, f_ix0, f_ix1, f_ix2, f_ix3, c_ix0, c_ix1, q_ix0, q_ix1, q_ix2, q_sl, f_kt, c_kt, c_kl, q_kt, f_len, c_len, q_len, c_go, q_go, f_go, t_go, g_cons, g_nil, v_enumT, v_enumS, v_rng1, v_rngN, v_rng2, v_n40, v_n41, v_n42, v_n43, v_setR0, q_add, v_addT, f_sl3, f_sl2, q_cutc1, q_cutc2, q_cutp1, put_own, put_par, o_rt, o_nx, r_rt, r_nx, po_par, d_eqO, d_notin, v_pow18, v_mulS, v_addL, af_c, stepC, back, List.getD_cons_zero, List.getD_cons_succ, af_nx, af_ct, af_bk, af_rt, gixT, gixL, ix0, ix1, ix2, ix3, sl_t, sl_l, eq_int, eq_bool, Option.bind_some, Option.bind_none, List.map_cons, List.map_nil, List.getElem?_cons_zero, List.getElem?_cons_succ, List.set_cons_zero, List.set_cons_succ, List.length_cons, List.length_nil, List.cons_append, List.nil_append, List.replicate, ownAt, if_true, Bool.false_eq_true, if_false, Nat.reduceAdd, Nat.reduceLeDiff, Bool.true_eq_false, Bool.false_bne, Bool.true_bne, Bool.not_true, Bool.not_false, ne_eq, not_true_eq_false, not_false_eq_true, reduceCtorEq, clean_pl, List.all_cons, List.all_nil, List.contains_cons, List.contains_nil, Nat.reduceBEq, Bool.and_self, and_self, and_true, true_and, wipeR, stepP, stepS, Option.map_some, if_and, if_or, if_tan, if_tor, Int.cast_ofNat_Int, decide_true, decide_false, Bool.true_and, Bool.and_true, Bool.or_false, Bool.false_or, Bool.and_false, Bool.false_and, in_cellsT, in_cellsL, shaped_cell, shaped_cellsL, shaped_cellsT, any_cells, ho]
  | bk ρ => exact ho.elim
  | ct ρ => exact ho.elim
end Pr

set_option Elab.async false
set_option linter.all false
set_option maxRecDepth 100000
namespace Pr
open PySem PySem.Spec L2 Fn Mx
theorem a_sortL (m : ME) (ρ : Rho) : mSortL m ρ = (m ρ).bind fun p => match p.1 with | .list ds => (untups ds).bind fun ks => if ks.length < 63 ∧ (ks.all okPair) = true then some (.list ((msort ks).map tupD), p.2) else none | _ => none := (rfl)
theorem a_dct (i : Nat) (m : MD) (ρ : Rho) : mDct i m ρ = (m ρ).bind fun p => (p.2[i]?).bind fun s => if isPar s = true then none else some (.nx (p.2.set i (.dct p.1))) := (rfl)
theorem a_dget (i : Nat) (m : ME) (ρ : Rho) : mDget i m ρ = match ρ[i]? with | some (.dct ks) => (m ρ).bind fun p => (match p.1 with | .str z => (ks.lookup z).bind fun d => some (d, p.2) | _ => none) | _ => none := (rfl)
theorem p_dct (ks : List (Str × PyData)) : isPar (.dct ks) = false := (rfl)
def wayI (z : Bool) : Int := if z = true then 0 else 1
theorem law_turned_ok (z : Bool) {F : Fl} (O : F.Ok) : f__law_turned [flD F, .int (wayI z)] = some (flD (turnF z F)) := by
  have pl := O.pl
  have al := O.al
  have hl1 : F.posts.length < 16000000 := by omega
  have hl2 : F.aw.length < 16000000 := by omega
  cases z with
  | true =>
    simp only [f__law_turned, m__law_turned, a_seq, a_skip, a_if, a_ret, a_retN, a_drop, a_never, a_break, a_cont, a_set, a_own, a_var, a_c, a_op, a_nil, a_cons, a_tup, a_lst, a_f, a_call, a_fn, a_isi, a_isi2, a_not, a_tru, a_tbl, a_tno, a_tan, a_to, a_and, a_or, a_chain, a_ifE, a_onone, a_osome, a_sl, a_ixL, a_ixV, a_lvar, a_inL, a_for, a_to2, a_as, a_rng, a_lcP, a_lc, a_lc2, a_sc, a_sortZ, a_setOf, a_xor, a_ownI, a_callL, a_mmNil, a_mmSh, a_mmOwn, a_par, a_tab, a_disp, a_vals0, a_vals1, a_goName, a_yes, a_fnP, a_fnR, a_mFnR, a_store, a_app, a_join, a_rep, k_tt, k_tl, k_ti, k_tb, k_ts, k_tn, k_ll, k_lt, k_li, k_lb, k_ls, k_ln, k_it, k_il, k_ii, k_ib, k_is, k_in, k_bt, k_bl, k_bi, k_bb, k_bs, k_bn, k_st, k_sl, k_si, k_sb, k_ss, k_sn, v_lenT, v_lenL, v_lenS, v_tupL, v_intI, v_intB, v_asL, v_asT, v_asS, v_truB, v_truL, v_add, v_sub, v_lt, v_le, v_gt, v_ge, v_mod, v_div, v_mul, v_isN, p_sh, p_no, p_own, p_par, p_plsh, p_plno, st_sh, st_no, st_own, st_par, f_ix0, f_ix1, f_ix2, f_ix3, c_ix0, c_ix1, q_ix0, q_ix1, q_ix2, q_sl, f_kt, c_kt, c_kl, q_kt, f_len, c_len, q_len, c_go, q_go, f_go, t_go, g_cons, g_nil, v_enumT, v_enumS, v_rng1, v_rngN, v_rng2, v_n40, v_n41, v_n42, v_n43, v_setR0, q_add, v_addT, f_sl3, f_sl2, q_cutc1, q_cutc2, q_cutp1, put_own, put_par, o_rt, o_nx, r_rt, r_nx, po_par, d_eqO, d_notin, v_pow18, v_mulS, v_addL, af_c, stepC, back, List.getD_cons_zero, List.getD_cons_succ, af_nx, af_ct, af_bk, af_rt, gixT, gixL, ix0, ix1, ix2, ix3, sl_t, sl_l, eq_int, eq_bool, Option.bind_some, Option.bind_none, List.map_cons, List.map_nil, List.getElem?_cons_zero, List.getElem?_cons_succ, List.set_cons_zero, List.set_cons_succ, List.length_cons, List.length_nil, List.cons_append, List.nil_append, List.replicate, ownAt, if_true, Bool.false_eq_true, if_false, Nat.reduceAdd, Nat.reduceLeDiff, Bool.true_eq_false, Bool.false_bne, Bool.true_bne, Bool.not_true, Bool.not_false, ne_eq, not_true_eq_false, not_false_eq_true, reduceCtorEq, clean_pl, List.all_cons, List.all_nil, List.contains_cons, List.contains_nil, Nat.reduceBEq, Bool.and_self, and_self, and_true, true_and, wipeR, stepP, stepS, Option.map_some, if_and, if_or, if_tan, if_tor, Int.cast_ofNat_Int, decide_true, decide_false, Bool.true_and, Bool.and_true, Bool.or_false, Bool.false_or, Bool.and_false, Bool.false_and, in_cellsT, in_cellsL, shaped_cell, shaped_cellsL, shaped_cellsT, any_cells, show wayI true = 0 from rfl, List.length_map, hl1, hl2]
    rw [loopP_map1 (h := fun p : Post => postD (p.1, F.cols - 1 - p.2.1, p.2.2)) F.posts (fun c hc => by
      simp only [a_seq, a_skip, a_if, a_ret, a_retN, a_drop, a_never, a_break, a_cont, a_set, a_own, a_var, a_c, a_op, a_nil, a_cons, a_tup, a_lst, a_f, a_call, a_fn, a_isi, a_isi2, a_not, a_tru, a_tbl, a_tno, a_tan, a_to, a_and, a_or, a_chain, a_ifE, a_onone, a_osome, a_sl, a_ixL, a_ixV, a_lvar, a_inL, a_for, a_to2, a_as, a_rng, a_lcP, a_lc, a_lc2, a_sc, a_sortZ, a_setOf, a_xor, a_ownI, a_callL, a_mmNil, a_mmSh, a_mmOwn, a_par, a_tab, a_disp, a_vals0, a_vals1, a_goName, a_yes, a_fnP, a_fnR, a_mFnR, a_store, a_app, a_join, a_rep, k_tt, k_tl, k_ti, k_tb, k_ts, k_tn, k_ll, k_lt, k_li, k_lb, k_ls, k_ln, k_it, k_il, k_ii, k_ib, k_is, k_in, k_bt, k_bl, k_bi, k_bb, k_bs, k_bn, k_st, k_sl, k_si, k_sb, k_ss, k_sn, v_lenT, v_lenL, v_lenS, v_tupL, v_intI, v_intB, v_asL, v_asT, v_asS, v_truB, v_truL, v_add, v_sub, v_lt, v_le, v_gt, v_ge, v_mod, v_div, v_mul, v_isN, p_sh, p_no, p_own, p_par, p_plsh, p_plno, st_sh, st_no, st_own, st_par, f_ix0, f_ix1, f_ix2, f_ix3, c_ix0, c_ix1, q_ix0, q_ix1, q_ix2, q_sl, f_kt, c_kt, c_kl, q_kt, f_len, c_len, q_len, c_go, q_go, f_go, t_go, g_cons, g_nil, v_enumT, v_enumS, v_rng1, v_rngN, v_rng2, v_n40, v_n41, v_n42, v_n43, v_setR0, q_add, v_addT, f_sl3, f_sl2, q_cutc1, q_cutc2, q_cutp1, put_own, put_par, o_rt, o_nx, r_rt, r_nx, po_par, d_eqO, d_notin, v_pow18, v_mulS, v_addL, af_c, stepC, back, List.getD_cons_zero, List.getD_cons_succ, af_nx, af_ct, af_bk, af_rt, gixT, gixL, ix0, ix1, ix2, ix3, sl_t, sl_l, eq_int, eq_bool, Option.bind_some, Option.bind_none, List.map_cons, List.map_nil, List.getElem?_cons_zero, List.getElem?_cons_succ, List.set_cons_zero, List.set_cons_succ, List.length_cons, List.length_nil, List.cons_append, List.nil_append, List.replicate, ownAt, if_true, Bool.false_eq_true, if_false, Nat.reduceAdd, Nat.reduceLeDiff, Bool.true_eq_false, Bool.false_bne, Bool.true_bne, Bool.not_true, Bool.not_false, ne_eq, not_true_eq_false, not_false_eq_true, reduceCtorEq, clean_pl, List.all_cons, List.all_nil, List.contains_cons, List.contains_nil, Nat.reduceBEq, Bool.and_self, and_self, and_true, true_and, wipeR, stepP, stepS, Option.map_some, if_and, if_or, if_tan, if_tor, Int.cast_ofNat_Int, decide_true, decide_false, Bool.true_and, Bool.and_true, Bool.or_false, Bool.false_or, Bool.and_false, Bool.false_and, in_cellsT, in_cellsL, shaped_cell, shaped_cellsL, shaped_cellsT, any_cells]
      rfl)]
    simp only [a_seq, a_skip, a_if, a_ret, a_retN, a_drop, a_never, a_break, a_cont, a_set, a_own, a_var, a_c, a_op, a_nil, a_cons, a_tup, a_lst, a_f, a_call, a_fn, a_isi, a_isi2, a_not, a_tru, a_tbl, a_tno, a_tan, a_to, a_and, a_or, a_chain, a_ifE, a_onone, a_osome, a_sl, a_ixL, a_ixV, a_lvar, a_inL, a_for, a_to2, a_as, a_rng, a_lcP, a_lc, a_lc2, a_sc, a_sortZ, a_setOf, a_xor, a_ownI, a_callL, a_mmNil, a_mmSh, a_mmOwn, a_par, a_tab, a_disp, a_vals0, a_vals1, a_goName, a_yes, a_fnP, a_fnR, a_mFnR, a_store, a_app, a_join, a_rep, k_tt, k_tl, k_ti, k_tb, k_ts, k_tn, k_ll, k_lt, k_li, k_lb, k_ls, k_ln, k_it, k_il, k_ii, k_ib, k_is, k_in, k_bt, k_bl, k_bi, k_bb, k_bs, k_bn, k_st, k_sl, k_si, k_sb, k_ss, k_sn, v_lenT, v_lenL, v_lenS, v_tupL, v_intI, v_intB, v_asL, v_asT, v_asS, v_truB, v_truL, v_add, v_sub, v_lt, v_le, v_gt, v_ge, v_mod, v_div, v_mul, v_isN, p_sh, p_no, p_own, p_par, p_plsh, p_plno, st_sh, st_no, st_own, st_par, f_ix0, f_ix1, f_ix2, f_ix3, c_ix0, c_ix1, q_ix0, q_ix1, q_ix2, q_sl, f_kt, c_kt, c_kl, q_kt, f_len, c_len, q_len, c_go, q_go, f_go, t_go, g_cons, g_nil, v_enumT, v_enumS, v_rng1, v_rngN, v_rng2, v_n40, v_n41, v_n42, v_n43, v_setR0, q_add, v_addT, f_sl3, f_sl2, q_cutc1, q_cutc2, q_cutp1, put_own, put_par, o_rt, o_nx, r_rt, r_nx, po_par, d_eqO, d_notin, v_pow18, v_mulS, v_addL, af_c, stepC, back, List.getD_cons_zero, List.getD_cons_succ, af_nx, af_ct, af_bk, af_rt, gixT, gixL, ix0, ix1, ix2, ix3, sl_t, sl_l, eq_int, eq_bool, Option.bind_some, Option.bind_none, List.map_cons, List.map_nil, List.getElem?_cons_zero, List.getElem?_cons_succ, List.set_cons_zero, List.set_cons_succ, List.length_cons, List.length_nil, List.cons_append, List.nil_append, List.replicate, ownAt, if_true, Bool.false_eq_true, if_false, Nat.reduceAdd, Nat.reduceLeDiff, Bool.true_eq_false, Bool.false_bne, Bool.true_bne, Bool.not_true, Bool.not_false, ne_eq, not_true_eq_false, not_false_eq_true, reduceCtorEq, clean_pl, List.all_cons, List.all_nil, List.contains_cons, List.contains_nil, Nat.reduceBEq, Bool.and_self, and_self, and_true, true_and, wipeR, stepP, stepS, Option.map_some, if_and, if_or, if_tan, if_tor, Int.cast_ofNat_Int, decide_true, decide_false, Bool.true_and, Bool.and_true, Bool.or_false, Bool.false_or, Bool.and_false, Bool.false_and, in_cellsT, in_cellsL, shaped_cell, shaped_cellsL, shaped_cellsT, any_cells, List.length_map, hl1, hl2]
    rw [loopP_map1 (h := fun c : Cell => cellD (c.1, F.cols - 1 - c.2)) F.aw (fun c hc => by
      simp only [a_seq, a_skip, a_if, a_ret, a_retN, a_drop, a_never, a_break, a_cont, a_set, a_own, a_var, a_c, a_op, a_nil, a_cons, a_tup, a_lst, a_f, a_call, a_fn, a_isi, a_isi2, a_not, a_tru, a_tbl, a_tno, a_tan, a_to, a_and, a_or, a_chain, a_ifE, a_onone, a_osome, a_sl, a_ixL, a_ixV, a_lvar, a_inL, a_for, a_to2, a_as, a_rng, a_lcP, a_lc, a_lc2, a_sc, a_sortZ, a_setOf, a_xor, a_ownI, a_callL, a_mmNil, a_mmSh, a_mmOwn, a_par, a_tab, a_disp, a_vals0, a_vals1, a_goName, a_yes, a_fnP, a_fnR, a_mFnR, a_store, a_app, a_join, a_rep, k_tt, k_tl, k_ti, k_tb, k_ts, k_tn, k_ll, k_lt, k_li, k_lb, k_ls, k_ln, k_it, k_il, k_ii, k_ib, k_is, k_in, k_bt, k_bl, k_bi, k_bb, k_bs, k_bn, k_st, k_sl, k_si, k_sb, k_ss, k_sn, v_lenT, v_lenL, v_lenS, v_tupL, v_intI, v_intB, v_asL, v_asT, v_asS, v_truB, v_truL, v_add, v_sub, v_lt, v_le, v_gt, v_ge, v_mod, v_div, v_mul, v_isN, p_sh, p_no, p_own, p_par, p_plsh, p_plno, st_sh, st_no, st_own, st_par, f_ix0, f_ix1, f_ix2, f_ix3, c_ix0, c_ix1, q_ix0, q_ix1, q_ix2, q_sl, f_kt, c_kt, c_kl, q_kt, f_len, c_len, q_len, c_go, q_go, f_go, t_go, g_cons, g_nil, v_enumT, v_enumS, v_rng1, v_rngN, v_rng2, v_n40, v_n41, v_n42, v_n43, v_setR0, q_add, v_addT, f_sl3, f_sl2, q_cutc1, q_cutc2, q_cutp1, put_own, put_par, o_rt, o_nx, r_rt, r_nx, po_par, d_eqO, d_notin, v_pow18, v_mulS, v_addL, af_c, stepC, back, List.getD_cons_zero, List.getD_cons_succ, af_nx, af_ct, af_bk, af_rt, gixT, gixL, ix0, ix1, ix2, ix3, sl_t, sl_l, eq_int, eq_bool, Option.bind_some, Option.bind_none, List.map_cons, List.map_nil, List.getElem?_cons_zero, List.getElem?_cons_succ, List.set_cons_zero, List.set_cons_succ, List.length_cons, List.length_nil, List.cons_append, List.nil_append, List.replicate, ownAt, if_true, Bool.false_eq_true, if_false, Nat.reduceAdd, Nat.reduceLeDiff, Bool.true_eq_false, Bool.false_bne, Bool.true_bne, Bool.not_true, Bool.not_false, ne_eq, not_true_eq_false, not_false_eq_true, reduceCtorEq, clean_pl, List.all_cons, List.all_nil, List.contains_cons, List.contains_nil, Nat.reduceBEq, Bool.and_self, and_self, and_true, true_and, wipeR, stepP, stepS, Option.map_some, if_and, if_or, if_tan, if_tor, Int.cast_ofNat_Int, decide_true, decide_false, Bool.true_and, Bool.and_true, Bool.or_false, Bool.false_or, Bool.and_false, Bool.false_and, in_cellsT, in_cellsL, shaped_cell, shaped_cellsL, shaped_cellsT, any_cells]
      rfl)]
    simp only [a_seq, a_skip, a_if, a_ret, a_retN, a_drop, a_never, a_break, a_cont, a_set, a_own, a_var, a_c, a_op, a_nil, a_cons, a_tup, a_lst, a_f, a_call, a_fn, a_isi, a_isi2, a_not, a_tru, a_tbl, a_tno, a_tan, a_to, a_and, a_or, a_chain, a_ifE, a_onone, a_osome, a_sl, a_ixL, a_ixV, a_lvar, a_inL, a_for, a_to2, a_as, a_rng, a_lcP, a_lc, a_lc2, a_sc, a_sortZ, a_setOf, a_xor, a_ownI, a_callL, a_mmNil, a_mmSh, a_mmOwn, a_par, a_tab, a_disp, a_vals0, a_vals1, a_goName, a_yes, a_fnP, a_fnR, a_mFnR, a_store, a_app, a_join, a_rep, k_tt, k_tl, k_ti, k_tb, k_ts, k_tn, k_ll, k_lt, k_li, k_lb, k_ls, k_ln, k_it, k_il, k_ii, k_ib, k_is, k_in, k_bt, k_bl, k_bi, k_bb, k_bs, k_bn, k_st, k_sl, k_si, k_sb, k_ss, k_sn, v_lenT, v_lenL, v_lenS, v_tupL, v_intI, v_intB, v_asL, v_asT, v_asS, v_truB, v_truL, v_add, v_sub, v_lt, v_le, v_gt, v_ge, v_mod, v_div, v_mul, v_isN, p_sh, p_no, p_own, p_par, p_plsh, p_plno, st_sh, st_no, st_own, st_par, f_ix0, f_ix1, f_ix2, f_ix3, c_ix0, c_ix1, q_ix0, q_ix1, q_ix2, q_sl, f_kt, c_kt, c_kl, q_kt, f_len, c_len, q_len, c_go, q_go, f_go, t_go, g_cons, g_nil, v_enumT, v_enumS, v_rng1, v_rngN, v_rng2, v_n40, v_n41, v_n42, v_n43, v_setR0, q_add, v_addT, f_sl3, f_sl2, q_cutc1, q_cutc2, q_cutp1, put_own, put_par, o_rt, o_nx, r_rt, r_nx, po_par, d_eqO, d_notin, v_pow18, v_mulS, v_addL, af_c, stepC, back, List.getD_cons_zero, List.getD_cons_succ, af_nx, af_ct, af_bk, af_rt, gixT, gixL, ix0, ix1, ix2, ix3, sl_t, sl_l, eq_int, eq_bool, Option.bind_some, Option.bind_none, List.map_cons, List.map_nil, List.getElem?_cons_zero, List.getElem?_cons_succ, List.set_cons_zero, List.set_cons_succ, List.length_cons, List.length_nil, List.cons_append, List.nil_append, List.replicate, ownAt, if_true, Bool.false_eq_true, if_false, Nat.reduceAdd, Nat.reduceLeDiff, Bool.true_eq_false, Bool.false_bne, Bool.true_bne, Bool.not_true, Bool.not_false, ne_eq, not_true_eq_false, not_false_eq_true, reduceCtorEq, clean_pl, List.all_cons, List.all_nil, List.contains_cons, List.contains_nil, Nat.reduceBEq, Bool.and_self, and_self, and_true, true_and, wipeR, stepP, stepS, Option.map_some, if_and, if_or, if_tan, if_tor, Int.cast_ofNat_Int, decide_true, decide_false, Bool.true_and, Bool.and_true, Bool.or_false, Bool.false_or, Bool.and_false, Bool.false_and, in_cellsT, in_cellsL, shaped_cell, shaped_cellsL, shaped_cellsT, any_cells, List.length_map, hl1, hl2]
    show some (PyData.tuple [.int F.rows, .int F.cols, .tuple _, .tuple _]) = some (PyData.tuple [.int F.rows, .int F.cols, .tuple ((F.posts.map _).map postD), .tuple ((F.aw.map _).map cellD)])
    rw [List.map_map, List.map_map]
    rfl
  | false =>
    simp only [f__law_turned, m__law_turned, a_seq, a_skip, a_if, a_ret, a_retN, a_drop, a_never, a_break, a_cont, a_set, a_own, a_var, a_c, a_op, a_nil, a_cons, a_tup, a_lst, a_f, a_call, a_fn, a_isi, a_isi2, a_not, a_tru, a_tbl, a_tno, a_tan, a_to, a_and, a_or, a_chain, a_ifE, a_onone, a_osome, a_sl, a_ixL, a_ixV, a_lvar, a_inL, a_for, a_to2, a_as, a_rng, a_lcP, a_lc, a_lc2, a_sc, a_sortZ, a_setOf, a_xor, a_ownI, a_callL, a_mmNil, a_mmSh, a_mmOwn, a_par, a_tab, a_disp, a_vals0, a_vals1, a_goName, a_yes, a_fnP, a_fnR, a_mFnR, a_store, a_app, a_join, a_rep, k_tt, k_tl, k_ti, k_tb, k_ts, k_tn, k_ll, k_lt, k_li, k_lb, k_ls, k_ln, k_it, k_il, k_ii, k_ib, k_is, k_in, k_bt, k_bl, k_bi, k_bb, k_bs, k_bn, k_st, k_sl, k_si, k_sb, k_ss, k_sn, v_lenT, v_lenL, v_lenS, v_tupL, v_intI, v_intB, v_asL, v_asT, v_asS, v_truB, v_truL, v_add, v_sub, v_lt, v_le, v_gt, v_ge, v_mod, v_div, v_mul, v_isN, p_sh, p_no, p_own, p_par, p_plsh, p_plno, st_sh, st_no, st_own, st_par, f_ix0, f_ix1, f_ix2, f_ix3, c_ix0, c_ix1, q_ix0, q_ix1, q_ix2, q_sl, f_kt, c_kt, c_kl, q_kt, f_len, c_len, q_len, c_go, q_go, f_go, t_go, g_cons, g_nil, v_enumT, v_enumS, v_rng1, v_rngN, v_rng2, v_n40, v_n41, v_n42, v_n43, v_setR0, q_add, v_addT, f_sl3, f_sl2, q_cutc1, q_cutc2, q_cutp1, put_own, put_par, o_rt, o_nx, r_rt, r_nx, po_par, d_eqO, d_notin, v_pow18, v_mulS, v_addL, af_c, stepC, back, List.getD_cons_zero, List.getD_cons_succ, af_nx, af_ct, af_bk, af_rt, gixT, gixL, ix0, ix1, ix2, ix3, sl_t, sl_l, eq_int, eq_bool, Option.bind_some, Option.bind_none, List.map_cons, List.map_nil, List.getElem?_cons_zero, List.getElem?_cons_succ, List.set_cons_zero, List.set_cons_succ, List.length_cons, List.length_nil, List.cons_append, List.nil_append, List.replicate, ownAt, if_true, Bool.false_eq_true, if_false, Nat.reduceAdd, Nat.reduceLeDiff, Bool.true_eq_false, Bool.false_bne, Bool.true_bne, Bool.not_true, Bool.not_false, ne_eq, not_true_eq_false, not_false_eq_true, reduceCtorEq, clean_pl, List.all_cons, List.all_nil, List.contains_cons, List.contains_nil, Nat.reduceBEq, Bool.and_self, and_self, and_true, true_and, wipeR, stepP, stepS, Option.map_some, if_and, if_or, if_tan, if_tor, Int.cast_ofNat_Int, decide_true, decide_false, Bool.true_and, Bool.and_true, Bool.or_false, Bool.false_or, Bool.and_false, Bool.false_and, in_cellsT, in_cellsL, shaped_cell, shaped_cellsL, shaped_cellsT, any_cells, show wayI false = 1 from rfl, List.length_map, hl1, hl2, show decide ((1 : Int) = 0) = false from rfl]
    rw [loopP_map1 (h := fun p : Post => postD (p.2.1, p.1, p.2.2)) F.posts (fun c hc => by
      simp only [a_seq, a_skip, a_if, a_ret, a_retN, a_drop, a_never, a_break, a_cont, a_set, a_own, a_var, a_c, a_op, a_nil, a_cons, a_tup, a_lst, a_f, a_call, a_fn, a_isi, a_isi2, a_not, a_tru, a_tbl, a_tno, a_tan, a_to, a_and, a_or, a_chain, a_ifE, a_onone, a_osome, a_sl, a_ixL, a_ixV, a_lvar, a_inL, a_for, a_to2, a_as, a_rng, a_lcP, a_lc, a_lc2, a_sc, a_sortZ, a_setOf, a_xor, a_ownI, a_callL, a_mmNil, a_mmSh, a_mmOwn, a_par, a_tab, a_disp, a_vals0, a_vals1, a_goName, a_yes, a_fnP, a_fnR, a_mFnR, a_store, a_app, a_join, a_rep, k_tt, k_tl, k_ti, k_tb, k_ts, k_tn, k_ll, k_lt, k_li, k_lb, k_ls, k_ln, k_it, k_il, k_ii, k_ib, k_is, k_in, k_bt, k_bl, k_bi, k_bb, k_bs, k_bn, k_st, k_sl, k_si, k_sb, k_ss, k_sn, v_lenT, v_lenL, v_lenS, v_tupL, v_intI, v_intB, v_asL, v_asT, v_asS, v_truB, v_truL, v_add, v_sub, v_lt, v_le, v_gt, v_ge, v_mod, v_div, v_mul, v_isN, p_sh, p_no, p_own, p_par, p_plsh, p_plno, st_sh, st_no, st_own, st_par, f_ix0, f_ix1, f_ix2, f_ix3, c_ix0, c_ix1, q_ix0, q_ix1, q_ix2, q_sl, f_kt, c_kt, c_kl, q_kt, f_len, c_len, q_len, c_go, q_go, f_go, t_go, g_cons, g_nil, v_enumT, v_enumS, v_rng1, v_rngN, v_rng2, v_n40, v_n41, v_n42, v_n43, v_setR0, q_add, v_addT, f_sl3, f_sl2, q_cutc1, q_cutc2, q_cutp1, put_own, put_par, o_rt, o_nx, r_rt, r_nx, po_par, d_eqO, d_notin, v_pow18, v_mulS, v_addL, af_c, stepC, back, List.getD_cons_zero, List.getD_cons_succ, af_nx, af_ct, af_bk, af_rt, gixT, gixL, ix0, ix1, ix2, ix3, sl_t, sl_l, eq_int, eq_bool, Option.bind_some, Option.bind_none, List.map_cons, List.map_nil, List.getElem?_cons_zero, List.getElem?_cons_succ, List.set_cons_zero, List.set_cons_succ, List.length_cons, List.length_nil, List.cons_append, List.nil_append, List.replicate, ownAt, if_true, Bool.false_eq_true, if_false, Nat.reduceAdd, Nat.reduceLeDiff, Bool.true_eq_false, Bool.false_bne, Bool.true_bne, Bool.not_true, Bool.not_false, ne_eq, not_true_eq_false, not_false_eq_true, reduceCtorEq, clean_pl, List.all_cons, List.all_nil, List.contains_cons, List.contains_nil, Nat.reduceBEq, Bool.and_self, and_self, and_true, true_and, wipeR, stepP, stepS, Option.map_some, if_and, if_or, if_tan, if_tor, Int.cast_ofNat_Int, decide_true, decide_false, Bool.true_and, Bool.and_true, Bool.or_false, Bool.false_or, Bool.and_false, Bool.false_and, in_cellsT, in_cellsL, shaped_cell, shaped_cellsL, shaped_cellsT, any_cells]
      rfl)]
    simp only [a_seq, a_skip, a_if, a_ret, a_retN, a_drop, a_never, a_break, a_cont, a_set, a_own, a_var, a_c, a_op, a_nil, a_cons, a_tup, a_lst, a_f, a_call, a_fn, a_isi, a_isi2, a_not, a_tru, a_tbl, a_tno, a_tan, a_to, a_and, a_or, a_chain, a_ifE, a_onone, a_osome, a_sl, a_ixL, a_ixV, a_lvar, a_inL, a_for, a_to2, a_as, a_rng, a_lcP, a_lc, a_lc2, a_sc, a_sortZ, a_setOf, a_xor, a_ownI, a_callL, a_mmNil, a_mmSh, a_mmOwn, a_par, a_tab, a_disp, a_vals0, a_vals1, a_goName, a_yes, a_fnP, a_fnR, a_mFnR, a_store, a_app, a_join, a_rep, k_tt, k_tl, k_ti, k_tb, k_ts, k_tn, k_ll, k_lt, k_li, k_lb, k_ls, k_ln, k_it, k_il, k_ii, k_ib, k_is, k_in, k_bt, k_bl, k_bi, k_bb, k_bs, k_bn, k_st, k_sl, k_si, k_sb, k_ss, k_sn, v_lenT, v_lenL, v_lenS, v_tupL, v_intI, v_intB, v_asL, v_asT, v_asS, v_truB, v_truL, v_add, v_sub, v_lt, v_le, v_gt, v_ge, v_mod, v_div, v_mul, v_isN, p_sh, p_no, p_own, p_par, p_plsh, p_plno, st_sh, st_no, st_own, st_par, f_ix0, f_ix1, f_ix2, f_ix3, c_ix0, c_ix1, q_ix0, q_ix1, q_ix2, q_sl, f_kt, c_kt, c_kl, q_kt, f_len, c_len, q_len, c_go, q_go, f_go, t_go, g_cons, g_nil, v_enumT, v_enumS, v_rng1, v_rngN, v_rng2, v_n40, v_n41, v_n42, v_n43, v_setR0, q_add, v_addT, f_sl3, f_sl2, q_cutc1, q_cutc2, q_cutp1, put_own, put_par, o_rt, o_nx, r_rt, r_nx, po_par, d_eqO, d_notin, v_pow18, v_mulS, v_addL, af_c, stepC, back, List.getD_cons_zero, List.getD_cons_succ, af_nx, af_ct, af_bk, af_rt, gixT, gixL, ix0, ix1, ix2, ix3, sl_t, sl_l, eq_int, eq_bool, Option.bind_some, Option.bind_none, List.map_cons, List.map_nil, List.getElem?_cons_zero, List.getElem?_cons_succ, List.set_cons_zero, List.set_cons_succ, List.length_cons, List.length_nil, List.cons_append, List.nil_append, List.replicate, ownAt, if_true, Bool.false_eq_true, if_false, Nat.reduceAdd, Nat.reduceLeDiff, Bool.true_eq_false, Bool.false_bne, Bool.true_bne, Bool.not_true, Bool.not_false, ne_eq, not_true_eq_false, not_false_eq_true, reduceCtorEq, clean_pl, List.all_cons, List.all_nil, List.contains_cons, List.contains_nil, Nat.reduceBEq, Bool.and_self, and_self, and_true, true_and, wipeR, stepP, stepS, Option.map_some, if_and, if_or, if_tan, if_tor, Int.cast_ofNat_Int, decide_true, decide_false, Bool.true_and, Bool.and_true, Bool.or_false, Bool.false_or, Bool.and_false, Bool.false_and, in_cellsT, in_cellsL, shaped_cell, shaped_cellsL, shaped_cellsT, any_cells, List.length_map, hl1, hl2]
    rw [loopP_map1 (h := fun c : Cell => cellD (c.2, c.1)) F.aw (fun c hc => by
      simp only [a_seq, a_skip, a_if, a_ret, a_retN, a_drop, a_never, a_break, a_cont, a_set, a_own, a_var, a_c, a_op, a_nil, a_cons, a_tup, a_lst, a_f, a_call, a_fn, a_isi, a_isi2, a_not, a_tru, a_tbl, a_tno, a_tan, a_to, a_and, a_or, a_chain, a_ifE, a_onone, a_osome, a_sl, a_ixL, a_ixV, a_lvar, a_inL, a_for, a_to2, a_as, a_rng, a_lcP, a_lc, a_lc2, a_sc, a_sortZ, a_setOf, a_xor, a_ownI, a_callL, a_mmNil, a_mmSh, a_mmOwn, a_par, a_tab, a_disp, a_vals0, a_vals1, a_goName, a_yes, a_fnP, a_fnR, a_mFnR, a_store, a_app, a_join, a_rep, k_tt, k_tl, k_ti, k_tb, k_ts, k_tn, k_ll, k_lt, k_li, k_lb, k_ls, k_ln, k_it, k_il, k_ii, k_ib, k_is, k_in, k_bt, k_bl, k_bi, k_bb, k_bs, k_bn, k_st, k_sl, k_si, k_sb, k_ss, k_sn, v_lenT, v_lenL, v_lenS, v_tupL, v_intI, v_intB, v_asL, v_asT, v_asS, v_truB, v_truL, v_add, v_sub, v_lt, v_le, v_gt, v_ge, v_mod, v_div, v_mul, v_isN, p_sh, p_no, p_own, p_par, p_plsh, p_plno, st_sh, st_no, st_own, st_par, f_ix0, f_ix1, f_ix2, f_ix3, c_ix0, c_ix1, q_ix0, q_ix1, q_ix2, q_sl, f_kt, c_kt, c_kl, q_kt, f_len, c_len, q_len, c_go, q_go, f_go, t_go, g_cons, g_nil, v_enumT, v_enumS, v_rng1, v_rngN, v_rng2, v_n40, v_n41, v_n42, v_n43, v_setR0, q_add, v_addT, f_sl3, f_sl2, q_cutc1, q_cutc2, q_cutp1, put_own, put_par, o_rt, o_nx, r_rt, r_nx, po_par, d_eqO, d_notin, v_pow18, v_mulS, v_addL, af_c, stepC, back, List.getD_cons_zero, List.getD_cons_succ, af_nx, af_ct, af_bk, af_rt, gixT, gixL, ix0, ix1, ix2, ix3, sl_t, sl_l, eq_int, eq_bool, Option.bind_some, Option.bind_none, List.map_cons, List.map_nil, List.getElem?_cons_zero, List.getElem?_cons_succ, List.set_cons_zero, List.set_cons_succ, List.length_cons, List.length_nil, List.cons_append, List.nil_append, List.replicate, ownAt, if_true, Bool.false_eq_true, if_false, Nat.reduceAdd, Nat.reduceLeDiff, Bool.true_eq_false, Bool.false_bne, Bool.true_bne, Bool.not_true, Bool.not_false, ne_eq, not_true_eq_false, not_false_eq_true, reduceCtorEq, clean_pl, List.all_cons, List.all_nil, List.contains_cons, List.contains_nil, Nat.reduceBEq, Bool.and_self, and_self, and_true, true_and, wipeR, stepP, stepS, Option.map_some, if_and, if_or, if_tan, if_tor, Int.cast_ofNat_Int, decide_true, decide_false, Bool.true_and, Bool.and_true, Bool.or_false, Bool.false_or, Bool.and_false, Bool.false_and, in_cellsT, in_cellsL, shaped_cell, shaped_cellsL, shaped_cellsT, any_cells]
      rfl)]
    simp only [a_seq, a_skip, a_if, a_ret, a_retN, a_drop, a_never, a_break, a_cont, a_set, a_own, a_var, a_c, a_op, a_nil, a_cons, a_tup, a_lst, a_f, a_call, a_fn, a_isi, a_isi2, a_not, a_tru, a_tbl, a_tno, a_tan, a_to, a_and, a_or, a_chain, a_ifE, a_onone, a_osome, a_sl, a_ixL, a_ixV, a_lvar, a_inL, a_for, a_to2, a_as, a_rng, a_lcP, a_lc, a_lc2, a_sc, a_sortZ, a_setOf, a_xor, a_ownI, a_callL, a_mmNil, a_mmSh, a_mmOwn, a_par, a_tab, a_disp, a_vals0, a_vals1, a_goName, a_yes, a_fnP, a_fnR, a_mFnR, a_store, a_app, a_join, a_rep, k_tt, k_tl, k_ti, k_tb, k_ts, k_tn, k_ll, k_lt, k_li, k_lb, k_ls, k_ln, k_it, k_il, k_ii, k_ib, k_is, k_in, k_bt, k_bl, k_bi, k_bb, k_bs, k_bn, k_st, k_sl, k_si, k_sb, k_ss, k_sn, v_lenT, v_lenL, v_lenS, v_tupL, v_intI, v_intB, v_asL, v_asT, v_asS, v_truB, v_truL, v_add, v_sub, v_lt, v_le, v_gt, v_ge, v_mod, v_div, v_mul, v_isN, p_sh, p_no, p_own, p_par, p_plsh, p_plno, st_sh, st_no, st_own, st_par, f_ix0, f_ix1, f_ix2, f_ix3, c_ix0, c_ix1, q_ix0, q_ix1, q_ix2, q_sl, f_kt, c_kt, c_kl, q_kt, f_len, c_len, q_len, c_go, q_go, f_go, t_go, g_cons, g_nil, v_enumT, v_enumS, v_rng1, v_rngN, v_rng2, v_n40, v_n41, v_n42, v_n43, v_setR0, q_add, v_addT, f_sl3, f_sl2, q_cutc1, q_cutc2, q_cutp1, put_own, put_par, o_rt, o_nx, r_rt, r_nx, po_par, d_eqO, d_notin, v_pow18, v_mulS, v_addL, af_c, stepC, back, List.getD_cons_zero, List.getD_cons_succ, af_nx, af_ct, af_bk, af_rt, gixT, gixL, ix0, ix1, ix2, ix3, sl_t, sl_l, eq_int, eq_bool, Option.bind_some, Option.bind_none, List.map_cons, List.map_nil, List.getElem?_cons_zero, List.getElem?_cons_succ, List.set_cons_zero, List.set_cons_succ, List.length_cons, List.length_nil, List.cons_append, List.nil_append, List.replicate, ownAt, if_true, Bool.false_eq_true, if_false, Nat.reduceAdd, Nat.reduceLeDiff, Bool.true_eq_false, Bool.false_bne, Bool.true_bne, Bool.not_true, Bool.not_false, ne_eq, not_true_eq_false, not_false_eq_true, reduceCtorEq, clean_pl, List.all_cons, List.all_nil, List.contains_cons, List.contains_nil, Nat.reduceBEq, Bool.and_self, and_self, and_true, true_and, wipeR, stepP, stepS, Option.map_some, if_and, if_or, if_tan, if_tor, Int.cast_ofNat_Int, decide_true, decide_false, Bool.true_and, Bool.and_true, Bool.or_false, Bool.false_or, Bool.and_false, Bool.false_and, in_cellsT, in_cellsL, shaped_cell, shaped_cellsL, shaped_cellsT, any_cells, List.length_map, hl1, hl2]
    show some (PyData.tuple [.int F.cols, .int F.rows, .tuple _, .tuple _]) = some (PyData.tuple [.int F.cols, .int F.rows, .tuple ((F.posts.map _).map postD), .tuple ((F.aw.map _).map cellD)])
    rw [List.map_map, List.map_map]
    rfl
/-! the dict of the signs -/
def tabT (z : Bool) : List (Str × PyData) := (Zt.zipT "ensow" (if z = true then "wnsoe" else "sweon")).map fun q => (q.1, .str q.2)
theorem tab_look (z : Bool) (d : Dir) : (tabT z).lookup (dirS d) = some (.str (dirS (turnD z d))) := by
  cases z <;> cases d <;> kernel_rfl
theorem tab_ok (z : Bool) {ρ : Rho} (h : mVar 17 ρ = some (.int (wayI z), ρ)) : mDz (mC (.str "ensow")) (mOp gIx (mF (mLst (mCons (mC (.str "wnsoe")) (mCons (mC (.str "sweon")) mNil)))) (mVar 17)) ρ = some (tabT z, ρ) := by
  have k1 : (Zt.zipT "ensow" "wnsoe").length ≤ 64 ∧ ((Zt.zipT "ensow" "wnsoe").map (·.1)).Nodup := by decide +kernel
  have k2 : (Zt.zipT "ensow" "sweon").length ≤ 64 ∧ ((Zt.zipT "ensow" "sweon").map (·.1)).Nodup := by decide +kernel
  unfold mDz
  cases z with
  | true =>
    have h : mVar 17 ρ = some (.int 0, ρ) := h
    have e : mOp gIx (mF (mLst (mCons (mC (.str "wnsoe")) (mCons (mC (.str "sweon")) mNil)))) (mVar 17) ρ = some (.str "wnsoe", ρ) := by
      simp only [a_op, a_f, a_lst, a_cons, a_nil, a_c, Option.bind_some, List.length_cons, List.length_nil, Nat.reduceAdd, Nat.reduceLeDiff, if_true, h]
      rfl
    simp only [a_c, Option.bind_some, e]
    rw [if_pos k1]
    rfl
  | false =>
    have h : mVar 17 ρ = some (.int 1, ρ) := h
    have e : mOp gIx (mF (mLst (mCons (mC (.str "wnsoe")) (mCons (mC (.str "sweon")) mNil)))) (mVar 17) ρ = some (.str "sweon", ρ) := by
      simp only [a_op, a_f, a_lst, a_cons, a_nil, a_c, Option.bind_some, List.length_cons, List.length_nil, Nat.reduceAdd, Nat.reduceLeDiff, if_true, h]
      rfl
    simp only [a_c, Option.bind_some, e]
    rw [if_pos k2]
    rfl
theorem turn_at {l : List Dir} {z : Bool} {i : Nat} {d : Dir} (h : l[i]? = some d) : (l.map (turnD z))[i]? = some (turnD z d) := by rw [List.getElem?_map, h]; rfl
end Pr

set_option Elab.async false
set_option linter.all false
set_option maxRecDepth 100000
set_option maxHeartbeats 1000000
namespace Pr
open PySem PySem.Spec L2 Fn Mx
section
variable {s0 s1 s2 s3 s4 s5 s6 s7 s8 s9 s10 s11 s12 s13 s14 s15 s16 s17 s18 s19 s20 s21 s22 : Slot} {F : Fl} {l : List Dir} {rs : List PyData}
theorem tA (r : RowOk rs) (p3 : isPar s3 = false) (p4 : isPar s4 = false) (p5 : isPar s5 = false) : ∃ F l b rs', (mPar [3, 4, 5] (mmSh (mFnR f__law_floor 1 (mCons (mC (.int 5)) mNil)) (mmSh (mFnR f__law_sun 1 mNil) (mmSh (mFnR f__law_taken 1 (mCons (mOp gIx (mF (mLst (mCons (mC (.int 9)) (mCons (mOp gPow (mC (.int 10)) (mC (.int 18))) mNil)))) (mFnR f__law_taken 1 (mCons (mC (.int 2)) mNil))) mNil)) mmNil)))) [s0, .own rs, s2, s3, s4, s5, s6, s7, s8, s9, s10, s11, s12, s13, s14, s15, s16, s17, s18, s19, s20, s21, s22] = some (.nx [s0, .own rs', s2, .sh (flD F), .sh (.str (sunS l)), .sh (.int b), s6, s7, s8, s9, s10, s11, s12, s13, s14, s15, s16, s17, s18, s19, s20, s21, s22]) ∧ RowOk rs' ∧ F.Ok ∧ l ≠ [] ∧ l.length ≤ 6 ∧ 0 ≤ b ∧ b ≤ 1000000000000000000 := by
  obtain ⟨F, rs1, e1, r1, OF, -, -⟩ := law_floor_ok r (n := 5) (by omega) (by omega)
  obtain ⟨l, rs2, e2, r2, l1, l2⟩ := law_sun_ok r1
  obtain ⟨k, rs3, e3, r3, a3, c3⟩ := taken_ok r2 (n := 2) (by omega) (by omega)
  obtain ⟨m, hm, m1, m2⟩ : ∃ m, gIx (.list [.int 9, .int 1000000000000000000]) (.int k) = some (.int m) ∧ 0 < m ∧ m ≤ 1000000000000000000 := by
    have : k = 0 ∨ k = 1 := by omega
    rcases this with rfl | rfl
    · exact ⟨9, rfl, by decide, by decide⟩
    · exact ⟨1000000000000000000, rfl, by decide, by decide⟩
  obtain ⟨b, rs4, e4, r4, a4, c4⟩ := taken_ok r3 (n := m) m1 (by omega)
  refine ⟨F, l, b, rs4, ?_, r4, OF, l1, l2, a4, by omega⟩
  simp only [a_seq, a_skip, a_if, a_ret, a_retN, a_drop, a_never, a_break, a_cont, a_set, a_own, a_var, a_c, a_op, a_nil, a_cons, a_tup, a_lst, a_f, a_call, a_fn, a_isi, a_isi2, a_not, a_tru, a_tbl, a_tno, a_tan, a_to, a_and, a_or, a_chain, a_ifE, a_onone, a_osome, a_sl, a_ixL, a_ixV, a_lvar, a_inL, a_for, a_to2, a_as, a_rng, a_lcP, a_lc, a_lc2, a_sc, a_sortZ, a_setOf, a_xor, a_ownI, a_callL, a_mmNil, a_mmSh, a_mmOwn, a_par, a_tab, a_disp, a_vals0, a_vals1, a_goName, a_yes, a_fnP, a_fnR, a_mFnR, a_store, a_app, a_join, a_rep, k_tt, k_tl, k_ti, k_tb, k_ts, k_tn, k_ll, k_lt, k_li, k_lb, k_ls, k_ln, k_it, k_il, k_ii, k_ib, k_is, k_in, k_bt, k_bl, k_bi, k_bb, k_bs, k_bn, k_st, k_sl, k_si, k_sb, k_ss, k_sn, v_lenT, v_lenL, v_lenS, v_tupL, v_intI, v_intB, v_asL, v_asT, v_asS, v_truB, v_truL, v_add, v_sub, v_lt, v_le, v_gt, v_ge, v_mod, v_div, v_mul, v_isN, p_sh, p_no, p_own, p_par, p_plsh, p_plno, st_sh, st_no, st_own, st_par, f_ix0, f_ix1, f_ix2, f_ix3, c_ix0, c_ix1, q_ix0, q_ix1, q_ix2, q_sl, f_kt, c_kt, c_kl, q_kt, f_len, c_len, q_len, c_go, q_go, f_go, t_go, g_cons, g_nil, v_enumT, v_enumS, v_rng1, v_rngN, v_rng2, v_n40, v_n41, v_n42, v_n43, v_setR0, q_add, v_addT, f_sl3, f_sl2, q_cutc1, q_cutc2, q_cutp1, put_own, put_par, o_rt, o_nx, r_rt, r_nx, po_par, d_eqO, d_notin, v_pow18, v_mulS, v_addL, af_c, stepC, back, List.getD_cons_zero, List.getD_cons_succ, af_nx, af_ct, af_bk, af_rt, gixT, gixL, ix0, ix1, ix2, ix3, sl_t, sl_l, eq_int, eq_bool, Option.bind_some, Option.bind_none, List.map_cons, List.map_nil, List.getElem?_cons_zero, List.getElem?_cons_succ, List.set_cons_zero, List.set_cons_succ, List.length_cons, List.length_nil, List.cons_append, List.nil_append, List.replicate, ownAt, if_true, Bool.false_eq_true, if_false, Nat.reduceAdd, Nat.reduceLeDiff, Bool.true_eq_false, Bool.false_bne, Bool.true_bne, Bool.not_true, Bool.not_false, ne_eq, not_true_eq_false, not_false_eq_true, reduceCtorEq, clean_pl, List.all_cons, List.all_nil, List.contains_cons, List.contains_nil, Nat.reduceBEq, Bool.and_self, and_self, and_true, true_and, wipeR, stepP, stepS, Option.map_some, if_and, if_or, if_tan, if_tor, Int.cast_ofNat_Int, decide_true, decide_false, Bool.true_and, Bool.and_true, Bool.or_false, Bool.false_or, Bool.and_false, Bool.false_and, in_cellsT, in_cellsL, shaped_cell, shaped_cellsL, shaped_cellsT, any_cells, p3, p4, p5, setR, e1, e2, e3, hm, e4]
theorem tB (p6 : isPar s6 = false) (p7 : isPar s7 = false) (p8 : isPar s8 = false) (p9 : isPar s9 = false) : (mTo (mVar 3) (goTup 4 (goCons (goName 6) (goCons (goName 7) (goCons (goName 8) (goCons (goName 9) goNil)))))) [s0, s1, s2, .sh (flD F), s4, s5, s6, s7, s8, s9, s10, s11, s12, s13, s14, s15, s16, s17, s18, s19, s20, s21, s22] = some (.nx [s0, s1, s2, .sh (flD F), s4, s5, .sh (.int F.rows), .sh (.int F.cols), .sh (.tuple (F.posts.map postD)), .sh (.tuple (F.aw.map cellD)), s10, s11, s12, s13, s14, s15, s16, s17, s18, s19, s20, s21, s22]) := by
  simp only [a_seq, a_skip, a_if, a_ret, a_retN, a_drop, a_never, a_break, a_cont, a_set, a_own, a_var, a_c, a_op, a_nil, a_cons, a_tup, a_lst, a_f, a_call, a_fn, a_isi, a_isi2, a_not, a_tru, a_tbl, a_tno, a_tan, a_to, a_and, a_or, a_chain, a_ifE, a_onone, a_osome, a_sl, a_ixL, a_ixV, a_lvar, a_inL, a_for, a_to2, a_as, a_rng, a_lcP, a_lc, a_lc2, a_sc, a_sortZ, a_setOf, a_xor, a_ownI, a_callL, a_mmNil, a_mmSh, a_mmOwn, a_par, a_tab, a_disp, a_vals0, a_vals1, a_goName, a_yes, a_fnP, a_fnR, a_mFnR, a_store, a_app, a_join, a_rep, k_tt, k_tl, k_ti, k_tb, k_ts, k_tn, k_ll, k_lt, k_li, k_lb, k_ls, k_ln, k_it, k_il, k_ii, k_ib, k_is, k_in, k_bt, k_bl, k_bi, k_bb, k_bs, k_bn, k_st, k_sl, k_si, k_sb, k_ss, k_sn, v_lenT, v_lenL, v_lenS, v_tupL, v_intI, v_intB, v_asL, v_asT, v_asS, v_truB, v_truL, v_add, v_sub, v_lt, v_le, v_gt, v_ge, v_mod, v_div, v_mul, v_isN, p_sh, p_no, p_own, p_par, p_plsh, p_plno, st_sh, st_no, st_own, st_par, f_ix0, f_ix1, f_ix2, f_ix3, c_ix0, c_ix1, q_ix0, q_ix1, q_ix2, q_sl, f_kt, c_kt, c_kl, q_kt, f_len, c_len, q_len, c_go, q_go, f_go, t_go, g_cons, g_nil, v_enumT, v_enumS, v_rng1, v_rngN, v_rng2, v_n40, v_n41, v_n42, v_n43, v_setR0, q_add, v_addT, f_sl3, f_sl2, q_cutc1, q_cutc2, q_cutp1, put_own, put_par, o_rt, o_nx, r_rt, r_nx, po_par, d_eqO, d_notin, v_pow18, v_mulS, v_addL, af_c, stepC, back, List.getD_cons_zero, List.getD_cons_succ, af_nx, af_ct, af_bk, af_rt, gixT, gixL, ix0, ix1, ix2, ix3, sl_t, sl_l, eq_int, eq_bool, Option.bind_some, Option.bind_none, List.map_cons, List.map_nil, List.getElem?_cons_zero, List.getElem?_cons_succ, List.set_cons_zero, List.set_cons_succ, List.length_cons, List.length_nil, List.cons_append, List.nil_append, List.replicate, ownAt, if_true, Bool.false_eq_true, if_false, Nat.reduceAdd, Nat.reduceLeDiff, Bool.true_eq_false, Bool.false_bne, Bool.true_bne, Bool.not_true, Bool.not_false, ne_eq, not_true_eq_false, not_false_eq_true, reduceCtorEq, clean_pl, List.all_cons, List.all_nil, List.contains_cons, List.contains_nil, Nat.reduceBEq, Bool.and_self, and_self, and_true, true_and, wipeR, stepP, stepS, Option.map_some, if_and, if_or, if_tan, if_tor, Int.cast_ofNat_Int, decide_true, decide_false, Bool.true_and, Bool.and_true, Bool.or_false, Bool.false_or, Bool.and_false, Bool.false_and, in_cellsT, in_cellsL, shaped_cell, shaped_cellsL, shaped_cellsT, any_cells, p6, p7, p8, p9]
  try rfl
theorem tC (O : F.Ok) (l1 : l ≠ []) (l2 : l.length ≤ 6) {b : Int} (h3 : 0 ≤ b) (h4 : b ≤ 1000000000000000000) {d : Dir} (hd : l[(b % l.length).toNat]? = some d) (p10 : isPar s10 = false) (p11 : isPar s11 = false) :
    (mPar [10, 11] (mmSh (mFn f_shade (mCons (mVar 3) (mCons (mVar 4) (mCons (mVar 5) mNil)))) (mmSh (mF (mLst mNil)) mmNil))) [s0, s1, s2, .sh (flD F), .sh (.str (sunS l)), .sh (.int b), s6, s7, s8, s9, s10, s11, s12, s13, s14, s15, s16, s17, s18, s19, s20, s21, s22] = some (.nx [s0, s1, s2, .sh (flD F), .sh (.str (sunS l)), .sh (.int b), s6, s7, s8, s9, .sh (.list ((shadeOf F d).map cellD)), .sh (.list []), s12, s13, s14, s15, s16, s17, s18, s19, s20, s21, s22]) := by
  have e := shade_ok O l1 l2 h3 h4 hd
  simp only [a_seq, a_skip, a_if, a_ret, a_retN, a_drop, a_never, a_break, a_cont, a_set, a_own, a_var, a_c, a_op, a_nil, a_cons, a_tup, a_lst, a_f, a_call, a_fn, a_isi, a_isi2, a_not, a_tru, a_tbl, a_tno, a_tan, a_to, a_and, a_or, a_chain, a_ifE, a_onone, a_osome, a_sl, a_ixL, a_ixV, a_lvar, a_inL, a_for, a_to2, a_as, a_rng, a_lcP, a_lc, a_lc2, a_sc, a_sortZ, a_setOf, a_xor, a_ownI, a_callL, a_mmNil, a_mmSh, a_mmOwn, a_par, a_tab, a_disp, a_vals0, a_vals1, a_goName, a_yes, a_fnP, a_fnR, a_mFnR, a_store, a_app, a_join, a_rep, k_tt, k_tl, k_ti, k_tb, k_ts, k_tn, k_ll, k_lt, k_li, k_lb, k_ls, k_ln, k_it, k_il, k_ii, k_ib, k_is, k_in, k_bt, k_bl, k_bi, k_bb, k_bs, k_bn, k_st, k_sl, k_si, k_sb, k_ss, k_sn, v_lenT, v_lenL, v_lenS, v_tupL, v_intI, v_intB, v_asL, v_asT, v_asS, v_truB, v_truL, v_add, v_sub, v_lt, v_le, v_gt, v_ge, v_mod, v_div, v_mul, v_isN, p_sh, p_no, p_own, p_par, p_plsh, p_plno, st_sh, st_no, st_own, st_par, f_ix0, f_ix1, f_ix2, f_ix3, c_ix0, c_ix1, q_ix0, q_ix1, q_ix2, q_sl, f_kt, c_kt, c_kl, q_kt, f_len, c_len, q_len, c_go, q_go, f_go, t_go, g_cons, g_nil, v_enumT, v_enumS, v_rng1, v_rngN, v_rng2, v_n40, v_n41, v_n42, v_n43, v_setR0, q_add, v_addT, f_sl3, f_sl2, q_cutc1, q_cutc2, q_cutp1, put_own, put_par, o_rt, o_nx, r_rt, r_nx, po_par, d_eqO, d_notin, v_pow18, v_mulS, v_addL, af_c, stepC, back, List.getD_cons_zero, List.getD_cons_succ, af_nx, af_ct, af_bk, af_rt, gixT, gixL, ix0, ix1, ix2, ix3, sl_t, sl_l, eq_int, eq_bool, Option.bind_some, Option.bind_none, List.map_cons, List.map_nil, List.getElem?_cons_zero, List.getElem?_cons_succ, List.set_cons_zero, List.set_cons_succ, List.length_cons, List.length_nil, List.cons_append, List.nil_append, List.replicate, ownAt, if_true, Bool.false_eq_true, if_false, Nat.reduceAdd, Nat.reduceLeDiff, Bool.true_eq_false, Bool.false_bne, Bool.true_bne, Bool.not_true, Bool.not_false, ne_eq, not_true_eq_false, not_false_eq_true, reduceCtorEq, clean_pl, List.all_cons, List.all_nil, List.contains_cons, List.contains_nil, Nat.reduceBEq, Bool.and_self, and_self, and_true, true_and, wipeR, stepP, stepS, Option.map_some, if_and, if_or, if_tan, if_tor, Int.cast_ofNat_Int, decide_true, decide_false, Bool.true_and, Bool.and_true, Bool.or_false, Bool.false_or, Bool.and_false, Bool.false_and, in_cellsT, in_cellsL, shaped_cell, shaped_cellsL, shaped_cellsT, any_cells, p10, p11, setR, e]
theorem tF (O : F.Ok) {d : Dir} : (mIf (tBl (mOp (gEq true) (mVar 10) (mSortZ (mSetOf (mVar 11))))) (mSeq (mRet (mC (.bool false))) mSkip) mSkip) [s0, s1, s2, s3, s4, s5, s6, s7, s8, s9, .sh (.list ((shadeOf F d).map cellD)), .sh (.list ((foundOf F F.posts F.aw d).map cellD)), s12, s13, s14, s15, s16, s17, s18, s19, s20, s21, s22] = some (.nx [s0, s1, s2, s3, s4, s5, s6, s7, s8, s9, .sh (.list ((shadeOf F d).map cellD)), .sh (.list ((foundOf F F.posts F.aw d).map cellD)), s12, s13, s14, s15, s16, s17, s18, s19, s20, s21, s22]) := by
  have few := found_few O (fun _ h => h) (fun _ h => h) O.pl O.al d
  have ee := eq_cellsL true (shadeOf F d) (shadeOf F d)
  rw [decide_eq_true (rfl : shadeOf F d = shadeOf F d)] at ee
  simp only [a_seq, a_skip, a_if, a_ret, a_retN, a_drop, a_never, a_break, a_cont, a_set, a_own, a_var, a_c, a_op, a_nil, a_cons, a_tup, a_lst, a_f, a_call, a_fn, a_isi, a_isi2, a_not, a_tru, a_tbl, a_tno, a_tan, a_to, a_and, a_or, a_chain, a_ifE, a_onone, a_osome, a_sl, a_ixL, a_ixV, a_lvar, a_inL, a_for, a_to2, a_as, a_rng, a_lcP, a_lc, a_lc2, a_sc, a_sortZ, a_setOf, a_xor, a_ownI, a_callL, a_mmNil, a_mmSh, a_mmOwn, a_par, a_tab, a_disp, a_vals0, a_vals1, a_goName, a_yes, a_fnP, a_fnR, a_mFnR, a_store, a_app, a_join, a_rep, k_tt, k_tl, k_ti, k_tb, k_ts, k_tn, k_ll, k_lt, k_li, k_lb, k_ls, k_ln, k_it, k_il, k_ii, k_ib, k_is, k_in, k_bt, k_bl, k_bi, k_bb, k_bs, k_bn, k_st, k_sl, k_si, k_sb, k_ss, k_sn, v_lenT, v_lenL, v_lenS, v_tupL, v_intI, v_intB, v_asL, v_asT, v_asS, v_truB, v_truL, v_add, v_sub, v_lt, v_le, v_gt, v_ge, v_mod, v_div, v_mul, v_isN, p_sh, p_no, p_own, p_par, p_plsh, p_plno, st_sh, st_no, st_own, st_par, f_ix0, f_ix1, f_ix2, f_ix3, c_ix0, c_ix1, q_ix0, q_ix1, q_ix2, q_sl, f_kt, c_kt, c_kl, q_kt, f_len, c_len, q_len, c_go, q_go, f_go, t_go, g_cons, g_nil, v_enumT, v_enumS, v_rng1, v_rngN, v_rng2, v_n40, v_n41, v_n42, v_n43, v_setR0, q_add, v_addT, f_sl3, f_sl2, q_cutc1, q_cutc2, q_cutp1, put_own, put_par, o_rt, o_nx, r_rt, r_nx, po_par, d_eqO, d_notin, v_pow18, v_mulS, v_addL, af_c, stepC, back, List.getD_cons_zero, List.getD_cons_succ, af_nx, af_ct, af_bk, af_rt, gixT, gixL, ix0, ix1, ix2, ix3, sl_t, sl_l, eq_int, eq_bool, Option.bind_some, Option.bind_none, List.map_cons, List.map_nil, List.getElem?_cons_zero, List.getElem?_cons_succ, List.set_cons_zero, List.set_cons_succ, List.length_cons, List.length_nil, List.cons_append, List.nil_append, List.replicate, ownAt, if_true, Bool.false_eq_true, if_false, Nat.reduceAdd, Nat.reduceLeDiff, Bool.true_eq_false, Bool.false_bne, Bool.true_bne, Bool.not_true, Bool.not_false, ne_eq, not_true_eq_false, not_false_eq_true, reduceCtorEq, clean_pl, List.all_cons, List.all_nil, List.contains_cons, List.contains_nil, Nat.reduceBEq, Bool.and_self, and_self, and_true, true_and, wipeR, stepP, stepS, Option.map_some, if_and, if_or, if_tan, if_tor, Int.cast_ofNat_Int, decide_true, decide_false, Bool.true_and, Bool.and_true, Bool.or_false, Bool.false_or, Bool.and_false, Bool.false_and, in_cellsT, in_cellsL, shaped_cell, shaped_cellsL, shaped_cellsT, any_cells, untups_cells, List.length_map, few, found_all O, found_canon O, tupD_cells, ee]
theorem tG (r : RowOk rs) (O : F.Ok) (p13 : isPar s13 = false) : ∃ k rs', (mSet 13 (mFnR f__law_taken 1 (mCons (mOp gAdd (mCall fLen (mCons (mVar 9) mNil)) (mC (.int 1))) mNil))) [s0, .own rs, s2, s3, s4, s5, s6, s7, s8, .sh (.tuple (F.aw.map cellD)), s10, s11, s12, s13, s14, s15, s16, s17, s18, s19, s20, s21, s22] = some (.nx [s0, .own rs', s2, s3, s4, s5, s6, s7, s8, .sh (.tuple (F.aw.map cellD)), s10, s11, s12, .sh (.int k), s14, s15, s16, s17, s18, s19, s20, s21, s22]) ∧ RowOk rs' ∧ 0 ≤ k ∧ k ≤ F.aw.length := by
  have al := O.al
  obtain ⟨k, rs3, e3, r3, a3, c3⟩ := taken_ok r (n := (F.aw.length : Int) + 1) (by omega) (by omega)
  have len : fLen [.tuple (F.aw.map cellD)] = some (.int F.aw.length) := by
    rw [v_lenT, List.length_map]
    try (rw [List.length_map]; omega)
  refine ⟨k, rs3, ?_, r3, a3, by omega⟩
  simp only [a_seq, a_skip, a_if, a_ret, a_retN, a_drop, a_never, a_break, a_cont, a_set, a_own, a_var, a_c, a_op, a_nil, a_cons, a_tup, a_lst, a_f, a_call, a_fn, a_isi, a_isi2, a_not, a_tru, a_tbl, a_tno, a_tan, a_to, a_and, a_or, a_chain, a_ifE, a_onone, a_osome, a_sl, a_ixL, a_ixV, a_lvar, a_inL, a_for, a_to2, a_as, a_rng, a_lcP, a_lc, a_lc2, a_sc, a_sortZ, a_setOf, a_xor, a_ownI, a_callL, a_mmNil, a_mmSh, a_mmOwn, a_par, a_tab, a_disp, a_vals0, a_vals1, a_goName, a_yes, a_fnP, a_fnR, a_mFnR, a_store, a_app, a_join, a_rep, k_tt, k_tl, k_ti, k_tb, k_ts, k_tn, k_ll, k_lt, k_li, k_lb, k_ls, k_ln, k_it, k_il, k_ii, k_ib, k_is, k_in, k_bt, k_bl, k_bi, k_bb, k_bs, k_bn, k_st, k_sl, k_si, k_sb, k_ss, k_sn, v_lenT, v_lenL, v_lenS, v_tupL, v_intI, v_intB, v_asL, v_asT, v_asS, v_truB, v_truL, v_add, v_sub, v_lt, v_le, v_gt, v_ge, v_mod, v_div, v_mul, v_isN, p_sh, p_no, p_own, p_par, p_plsh, p_plno, st_sh, st_no, st_own, st_par, f_ix0, f_ix1, f_ix2, f_ix3, c_ix0, c_ix1, q_ix0, q_ix1, q_ix2, q_sl, f_kt, c_kt, c_kl, q_kt, f_len, c_len, q_len, c_go, q_go, f_go, t_go, g_cons, g_nil, v_enumT, v_enumS, v_rng1, v_rngN, v_rng2, v_n40, v_n41, v_n42, v_n43, v_setR0, q_add, v_addT, f_sl3, f_sl2, q_cutc1, q_cutc2, q_cutp1, put_own, put_par, o_rt, o_nx, r_rt, r_nx, po_par, d_eqO, d_notin, v_pow18, v_mulS, v_addL, af_c, stepC, back, List.getD_cons_zero, List.getD_cons_succ, af_nx, af_ct, af_bk, af_rt, gixT, gixL, ix0, ix1, ix2, ix3, sl_t, sl_l, eq_int, eq_bool, Option.bind_some, Option.bind_none, List.map_cons, List.map_nil, List.getElem?_cons_zero, List.getElem?_cons_succ, List.set_cons_zero, List.set_cons_succ, List.length_cons, List.length_nil, List.cons_append, List.nil_append, List.replicate, ownAt, if_true, Bool.false_eq_true, if_false, Nat.reduceAdd, Nat.reduceLeDiff, Bool.true_eq_false, Bool.false_bne, Bool.true_bne, Bool.not_true, Bool.not_false, ne_eq, not_true_eq_false, not_false_eq_true, reduceCtorEq, clean_pl, List.all_cons, List.all_nil, List.contains_cons, List.contains_nil, Nat.reduceBEq, Bool.and_self, and_self, and_true, true_and, wipeR, stepP, stepS, Option.map_some, if_and, if_or, if_tan, if_tor, Int.cast_ofNat_Int, decide_true, decide_false, Bool.true_and, Bool.and_true, Bool.or_false, Bool.false_or, Bool.and_false, Bool.false_and, in_cellsT, in_cellsL, shaped_cell, shaped_cellsL, shaped_cellsT, any_cells, p13, len, e3]
theorem cutP1 (ps : List Post) : Fn.cutD (ps.map postD) none (some 1) = (ps.take 1).map postD := by
  rw [List.map_take]
  exact cut_to (n := 1)
theorem cutCk (cs : List Cell) (k : Nat) : Fn.cutD (cs.map cellD) none (some (k : Int)) = (cs.take k).map cellD := by
  rw [List.map_take]
  exact cut_to (n := k)
theorem tH {k : Nat} (hk : k ≤ F.aw.length) (p14 : isPar s14 = false) : (mSet 14 (mTup (mCons (mVar 6) (mCons (mVar 7) (mCons (mSl (mVar 8) oNone (oSome (mC (.int 1)))) (mCons (mSl (mVar 9) oNone (oSome (mVar 13))) mNil)))))) [s0, s1, s2, s3, s4, s5, .sh (.int F.rows), .sh (.int F.cols), .sh (.tuple (F.posts.map postD)), .sh (.tuple (F.aw.map cellD)), s10, s11, s12, .sh (.int (k : Int)), s14, s15, s16, s17, s18, s19, s20, s21, s22] =
    some (.nx [s0, s1, s2, s3, s4, s5, .sh (.int F.rows), .sh (.int F.cols), .sh (.tuple (F.posts.map postD)), .sh (.tuple (F.aw.map cellD)), s10, s11, s12, .sh (.int (k : Int)), .sh (flD (partF F k)), s15, s16, s17, s18, s19, s20, s21, s22]) := by
  simp only [a_seq, a_skip, a_if, a_ret, a_retN, a_drop, a_never, a_break, a_cont, a_set, a_own, a_var, a_c, a_op, a_nil, a_cons, a_tup, a_lst, a_f, a_call, a_fn, a_isi, a_isi2, a_not, a_tru, a_tbl, a_tno, a_tan, a_to, a_and, a_or, a_chain, a_ifE, a_onone, a_osome, a_sl, a_ixL, a_ixV, a_lvar, a_inL, a_for, a_to2, a_as, a_rng, a_lcP, a_lc, a_lc2, a_sc, a_sortZ, a_setOf, a_xor, a_ownI, a_callL, a_mmNil, a_mmSh, a_mmOwn, a_par, a_tab, a_disp, a_vals0, a_vals1, a_goName, a_yes, a_fnP, a_fnR, a_mFnR, a_store, a_app, a_join, a_rep, k_tt, k_tl, k_ti, k_tb, k_ts, k_tn, k_ll, k_lt, k_li, k_lb, k_ls, k_ln, k_it, k_il, k_ii, k_ib, k_is, k_in, k_bt, k_bl, k_bi, k_bb, k_bs, k_bn, k_st, k_sl, k_si, k_sb, k_ss, k_sn, v_lenT, v_lenL, v_lenS, v_tupL, v_intI, v_intB, v_asL, v_asT, v_asS, v_truB, v_truL, v_add, v_sub, v_lt, v_le, v_gt, v_ge, v_mod, v_div, v_mul, v_isN, p_sh, p_no, p_own, p_par, p_plsh, p_plno, st_sh, st_no, st_own, st_par, f_ix0, f_ix1, f_ix2, f_ix3, c_ix0, c_ix1, q_ix0, q_ix1, q_ix2, q_sl, f_kt, c_kt, c_kl, q_kt, f_len, c_len, q_len, c_go, q_go, f_go, t_go, g_cons, g_nil, v_enumT, v_enumS, v_rng1, v_rngN, v_rng2, v_n40, v_n41, v_n42, v_n43, v_setR0, q_add, v_addT, f_sl3, f_sl2, q_cutc1, q_cutc2, q_cutp1, put_own, put_par, o_rt, o_nx, r_rt, r_nx, po_par, d_eqO, d_notin, v_pow18, v_mulS, v_addL, af_c, stepC, back, List.getD_cons_zero, List.getD_cons_succ, af_nx, af_ct, af_bk, af_rt, gixT, gixL, ix0, ix1, ix2, ix3, sl_t, sl_l, eq_int, eq_bool, Option.bind_some, Option.bind_none, List.map_cons, List.map_nil, List.getElem?_cons_zero, List.getElem?_cons_succ, List.set_cons_zero, List.set_cons_succ, List.length_cons, List.length_nil, List.cons_append, List.nil_append, List.replicate, ownAt, if_true, Bool.false_eq_true, if_false, Nat.reduceAdd, Nat.reduceLeDiff, Bool.true_eq_false, Bool.false_bne, Bool.true_bne, Bool.not_true, Bool.not_false, ne_eq, not_true_eq_false, not_false_eq_true, reduceCtorEq, clean_pl, List.all_cons, List.all_nil, List.contains_cons, List.contains_nil, Nat.reduceBEq, Bool.and_self, and_self, and_true, true_and, wipeR, stepP, stepS, Option.map_some, if_and, if_or, if_tan, if_tor, Int.cast_ofNat_Int, decide_true, decide_false, Bool.true_and, Bool.and_true, Bool.or_false, Bool.false_or, Bool.and_false, Bool.false_and, in_cellsT, in_cellsL, shaped_cell, shaped_cellsL, shaped_cellsT, any_cells, p14, cutP1, cutCk]
  rfl
theorem tI (p15 : isPar s15 = false) : (mSet 15 (mF (mLst mNil))) [s0, s1, s2, s3, s4, s5, s6, s7, s8, s9, s10, s11, s12, s13, s14, s15, s16, s17, s18, s19, s20, s21, s22] = some (.nx [s0, s1, s2, s3, s4, s5, s6, s7, s8, s9, s10, s11, s12, s13, s14, .sh (.list []), s16, s17, s18, s19, s20, s21, s22]) := by
  simp only [a_seq, a_skip, a_if, a_ret, a_retN, a_drop, a_never, a_break, a_cont, a_set, a_own, a_var, a_c, a_op, a_nil, a_cons, a_tup, a_lst, a_f, a_call, a_fn, a_isi, a_isi2, a_not, a_tru, a_tbl, a_tno, a_tan, a_to, a_and, a_or, a_chain, a_ifE, a_onone, a_osome, a_sl, a_ixL, a_ixV, a_lvar, a_inL, a_for, a_to2, a_as, a_rng, a_lcP, a_lc, a_lc2, a_sc, a_sortZ, a_setOf, a_xor, a_ownI, a_callL, a_mmNil, a_mmSh, a_mmOwn, a_par, a_tab, a_disp, a_vals0, a_vals1, a_goName, a_yes, a_fnP, a_fnR, a_mFnR, a_store, a_app, a_join, a_rep, k_tt, k_tl, k_ti, k_tb, k_ts, k_tn, k_ll, k_lt, k_li, k_lb, k_ls, k_ln, k_it, k_il, k_ii, k_ib, k_is, k_in, k_bt, k_bl, k_bi, k_bb, k_bs, k_bn, k_st, k_sl, k_si, k_sb, k_ss, k_sn, v_lenT, v_lenL, v_lenS, v_tupL, v_intI, v_intB, v_asL, v_asT, v_asS, v_truB, v_truL, v_add, v_sub, v_lt, v_le, v_gt, v_ge, v_mod, v_div, v_mul, v_isN, p_sh, p_no, p_own, p_par, p_plsh, p_plno, st_sh, st_no, st_own, st_par, f_ix0, f_ix1, f_ix2, f_ix3, c_ix0, c_ix1, q_ix0, q_ix1, q_ix2, q_sl, f_kt, c_kt, c_kl, q_kt, f_len, c_len, q_len, c_go, q_go, f_go, t_go, g_cons, g_nil, v_enumT, v_enumS, v_rng1, v_rngN, v_rng2, v_n40, v_n41, v_n42, v_n43, v_setR0, q_add, v_addT, f_sl3, f_sl2, q_cutc1, q_cutc2, q_cutp1, put_own, put_par, o_rt, o_nx, r_rt, r_nx, po_par, d_eqO, d_notin, v_pow18, v_mulS, v_addL, af_c, stepC, back, List.getD_cons_zero, List.getD_cons_succ, af_nx, af_ct, af_bk, af_rt, gixT, gixL, ix0, ix1, ix2, ix3, sl_t, sl_l, eq_int, eq_bool, Option.bind_some, Option.bind_none, List.map_cons, List.map_nil, List.getElem?_cons_zero, List.getElem?_cons_succ, List.set_cons_zero, List.set_cons_succ, List.length_cons, List.length_nil, List.cons_append, List.nil_append, List.replicate, ownAt, if_true, Bool.false_eq_true, if_false, Nat.reduceAdd, Nat.reduceLeDiff, Bool.true_eq_false, Bool.false_bne, Bool.true_bne, Bool.not_true, Bool.not_false, ne_eq, not_true_eq_false, not_false_eq_true, reduceCtorEq, clean_pl, List.all_cons, List.all_nil, List.contains_cons, List.contains_nil, Nat.reduceBEq, Bool.and_self, and_self, and_true, true_and, wipeR, stepP, stepS, Option.map_some, if_and, if_or, if_tan, if_tor, Int.cast_ofNat_Int, decide_true, decide_false, Bool.true_and, Bool.and_true, Bool.or_false, Bool.false_or, Bool.and_false, Bool.false_and, in_cellsT, in_cellsL, shaped_cell, shaped_cellsL, shaped_cellsT, any_cells, p15]
  try rfl
theorem tL (O : F.Ok) (l1 : l ≠ []) (l2 : l.length ≤ 6) : (mIf (tBl (mOp (gIs true) (mFn f_parted (mCons (mVar 3) (mCons (mVar 3) (mCons (mVar 4) mNil)))) (mC .none))) (mSeq (mRet (mC (.bool false))) mSkip) mSkip) [s0, s1, s2, .sh (flD F), .sh (.str (sunS l)), s5, s6, s7, s8, s9, s10, s11, s12, s13, s14, s15, s16, s17, s18, s19, s20, s21, s22] = some (.nx [s0, s1, s2, .sh (flD F), .sh (.str (sunS l)), s5, s6, s7, s8, s9, s10, s11, s12, s13, s14, s15, s16, s17, s18, s19, s20, s21, s22]) := by
  have h3 := parted_ok F F l O O l1 l2
  rw [partOf_self] at h3
  simp only [a_seq, a_skip, a_if, a_ret, a_retN, a_drop, a_never, a_break, a_cont, a_set, a_own, a_var, a_c, a_op, a_nil, a_cons, a_tup, a_lst, a_f, a_call, a_fn, a_isi, a_isi2, a_not, a_tru, a_tbl, a_tno, a_tan, a_to, a_and, a_or, a_chain, a_ifE, a_onone, a_osome, a_sl, a_ixL, a_ixV, a_lvar, a_inL, a_for, a_to2, a_as, a_rng, a_lcP, a_lc, a_lc2, a_sc, a_sortZ, a_setOf, a_xor, a_ownI, a_callL, a_mmNil, a_mmSh, a_mmOwn, a_par, a_tab, a_disp, a_vals0, a_vals1, a_goName, a_yes, a_fnP, a_fnR, a_mFnR, a_store, a_app, a_join, a_rep, k_tt, k_tl, k_ti, k_tb, k_ts, k_tn, k_ll, k_lt, k_li, k_lb, k_ls, k_ln, k_it, k_il, k_ii, k_ib, k_is, k_in, k_bt, k_bl, k_bi, k_bb, k_bs, k_bn, k_st, k_sl, k_si, k_sb, k_ss, k_sn, v_lenT, v_lenL, v_lenS, v_tupL, v_intI, v_intB, v_asL, v_asT, v_asS, v_truB, v_truL, v_add, v_sub, v_lt, v_le, v_gt, v_ge, v_mod, v_div, v_mul, v_isN, p_sh, p_no, p_own, p_par, p_plsh, p_plno, st_sh, st_no, st_own, st_par, f_ix0, f_ix1, f_ix2, f_ix3, c_ix0, c_ix1, q_ix0, q_ix1, q_ix2, q_sl, f_kt, c_kt, c_kl, q_kt, f_len, c_len, q_len, c_go, q_go, f_go, t_go, g_cons, g_nil, v_enumT, v_enumS, v_rng1, v_rngN, v_rng2, v_n40, v_n41, v_n42, v_n43, v_setR0, q_add, v_addT, f_sl3, f_sl2, q_cutc1, q_cutc2, q_cutp1, put_own, put_par, o_rt, o_nx, r_rt, r_nx, po_par, d_eqO, d_notin, v_pow18, v_mulS, v_addL, af_c, stepC, back, List.getD_cons_zero, List.getD_cons_succ, af_nx, af_ct, af_bk, af_rt, gixT, gixL, ix0, ix1, ix2, ix3, sl_t, sl_l, eq_int, eq_bool, Option.bind_some, Option.bind_none, List.map_cons, List.map_nil, List.getElem?_cons_zero, List.getElem?_cons_succ, List.set_cons_zero, List.set_cons_succ, List.length_cons, List.length_nil, List.cons_append, List.nil_append, List.replicate, ownAt, if_true, Bool.false_eq_true, if_false, Nat.reduceAdd, Nat.reduceLeDiff, Bool.true_eq_false, Bool.false_bne, Bool.true_bne, Bool.not_true, Bool.not_false, ne_eq, not_true_eq_false, not_false_eq_true, reduceCtorEq, clean_pl, List.all_cons, List.all_nil, List.contains_cons, List.contains_nil, Nat.reduceBEq, Bool.and_self, and_self, and_true, true_and, wipeR, stepP, stepS, Option.map_some, if_and, if_or, if_tan, if_tor, Int.cast_ofNat_Int, decide_true, decide_false, Bool.true_and, Bool.and_true, Bool.or_false, Bool.false_or, Bool.and_false, Bool.false_and, in_cellsT, in_cellsL, shaped_cell, shaped_cellsL, shaped_cellsT, any_cells, h3, dueD_none, Option.isNone_none]
end
end Pr

set_option Elab.async false
set_option linter.all false
set_option maxRecDepth 100000
set_option maxHeartbeats 1000000
namespace Pr
open PySem PySem.Spec L2 Fn Mx
section
variable {s0 s1 s2 s3 s4 s5 s6 s7 s8 s9 s10 s11 s12 s13 s14 s15 s16 s17 s18 s19 s20 s21 s22 : Slot} {F : Fl} {l : List Dir} {rs : List PyData}
theorem oneP_D (F : Fl) (p : Post) : PyData.tuple [.int F.rows, .int F.cols, .tuple [postD p], .tuple []] = flD (oneP F p) := rfl
theorem oneA_D (F : Fl) (c : Cell) : PyData.tuple [.int F.rows, .int F.cols, .tuple [], .tuple [cellD c]] = flD (oneA F c) := rfl
theorem foundP (F : Fl) (ps : List Post) (p : Post) (d : Dir) : foundOf F (ps ++ [p]) [] d = foundOf F ps [] d ++ shadeOf (oneP F p) d := by
  unfold foundOf
  simp
theorem foundA (F : Fl) (ps : List Post) (cs : List Cell) (c : Cell) (d : Dir) : foundOf F ps (cs ++ [c]) d = foundOf F ps cs d ++ shadeOf (oneA F c) d := by
  unfold foundOf
  simp
theorem tD (O : F.Ok) (l1 : l ≠ []) (l2 : l.length ≤ 6) {b : Int} (h3 : 0 ≤ b) (h4 : b ≤ 1000000000000000000) {d : Dir} (hd : l[(b % l.length).toNat]? = some d) (p12 : isPar s12 = false) :
    ∃ u12, (mFor (mAs asT (mVar 8)) (goName 12) (mSeq (mSet 11 (mOp gAdd (mVar 11) (mFn f_shade (mCons (mTup (mCons (mVar 6) (mCons (mVar 7) (mCons (mTup (mCons (mVar 12) mNil)) (mCons (mTup mNil) mNil))))) (mCons (mVar 4) (mCons (mVar 5) mNil)))))) mSkip)) [s0, s1, s2, s3, .sh (.str (sunS l)), .sh (.int b), .sh (.int F.rows), .sh (.int F.cols), .sh (.tuple (F.posts.map postD)), s9, s10, .sh (.list []), s12, s13, s14, s15, s16, s17, s18, s19, s20, s21, s22] =
      some (.nx [s0, s1, s2, s3, .sh (.str (sunS l)), .sh (.int b), .sh (.int F.rows), .sh (.int F.cols), .sh (.tuple (F.posts.map postD)), s9, s10, .sh (.list ((foundOf F F.posts [] d).map cellD)), u12, s13, s14, s15, s16, s17, s18, s19, s20, s21, s22]) ∧ isPar u12 = false := by
  have pl := O.pl
  simp only [a_seq, a_skip, a_if, a_ret, a_retN, a_drop, a_never, a_break, a_cont, a_set, a_own, a_var, a_c, a_op, a_nil, a_cons, a_tup, a_lst, a_f, a_call, a_fn, a_isi, a_isi2, a_not, a_tru, a_tbl, a_tno, a_tan, a_to, a_and, a_or, a_chain, a_ifE, a_onone, a_osome, a_sl, a_ixL, a_ixV, a_lvar, a_inL, a_for, a_to2, a_as, a_rng, a_lcP, a_lc, a_lc2, a_sc, a_sortZ, a_setOf, a_xor, a_ownI, a_callL, a_mmNil, a_mmSh, a_mmOwn, a_par, a_tab, a_disp, a_vals0, a_vals1, a_goName, a_yes, a_fnP, a_fnR, a_mFnR, a_store, a_app, a_join, a_rep, k_tt, k_tl, k_ti, k_tb, k_ts, k_tn, k_ll, k_lt, k_li, k_lb, k_ls, k_ln, k_it, k_il, k_ii, k_ib, k_is, k_in, k_bt, k_bl, k_bi, k_bb, k_bs, k_bn, k_st, k_sl, k_si, k_sb, k_ss, k_sn, v_lenT, v_lenL, v_lenS, v_tupL, v_intI, v_intB, v_asL, v_asT, v_asS, v_truB, v_truL, v_add, v_sub, v_lt, v_le, v_gt, v_ge, v_mod, v_div, v_mul, v_isN, p_sh, p_no, p_own, p_par, p_plsh, p_plno, st_sh, st_no, st_own, st_par, f_ix0, f_ix1, f_ix2, f_ix3, c_ix0, c_ix1, q_ix0, q_ix1, q_ix2, q_sl, f_kt, c_kt, c_kl, q_kt, f_len, c_len, q_len, c_go, q_go, f_go, t_go, g_cons, g_nil, v_enumT, v_enumS, v_rng1, v_rngN, v_rng2, v_n40, v_n41, v_n42, v_n43, v_setR0, q_add, v_addT, f_sl3, f_sl2, q_cutc1, q_cutc2, q_cutp1, put_own, put_par, o_rt, o_nx, r_rt, r_nx, po_par, d_eqO, d_notin, v_pow18, v_mulS, v_addL, af_c, stepC, back, List.getD_cons_zero, List.getD_cons_succ, af_nx, af_ct, af_bk, af_rt, gixT, gixL, ix0, ix1, ix2, ix3, sl_t, sl_l, eq_int, eq_bool, Option.bind_some, Option.bind_none, List.map_cons, List.map_nil, List.getElem?_cons_zero, List.getElem?_cons_succ, List.set_cons_zero, List.set_cons_succ, List.length_cons, List.length_nil, List.cons_append, List.nil_append, List.replicate, ownAt, if_true, Bool.false_eq_true, if_false, Nat.reduceAdd, Nat.reduceLeDiff, Bool.true_eq_false, Bool.false_bne, Bool.true_bne, Bool.not_true, Bool.not_false, ne_eq, not_true_eq_false, not_false_eq_true, reduceCtorEq, clean_pl, List.all_cons, List.all_nil, List.contains_cons, List.contains_nil, Nat.reduceBEq, Bool.and_self, and_self, and_true, true_and, wipeR, stepP, stepS, Option.map_some, if_and, if_or, if_tan, if_tor, Int.cast_ofNat_Int, decide_true, decide_false, Bool.true_and, Bool.and_true, Bool.or_false, Bool.false_or, Bool.and_false, Bool.false_and, in_cellsT, in_cellsL, shaped_cell, shaped_cellsL, shaped_cellsT, any_cells]
  generalize hL : loopS _ _ _ _ = L
  obtain ⟨ρ1, rfl, u12, rfl, q12⟩ := doneI hL (fun done ρ => ∃ u12, ρ = [s0, s1, s2, s3, .sh (.str (sunS l)), .sh (.int b), .sh (.int F.rows), .sh (.int F.cols), .sh (.tuple (F.posts.map postD)), s9, s10, .sh (.list ((foundOf F done [] d).map cellD)), u12, s13, s14, s15, s16, s17, s18, s19, s20, s21, s22] ∧ isPar u12 = false)
    ⟨s12, rfl, p12⟩ (fun done p rest ρ hq ⟨u12, e, q12⟩ => by
      subst e
      have hp : p ∈ F.posts := by rw [hq]; simp
      have sub : ∀ q, q ∈ done → q ∈ F.posts := fun q h => by rw [hq]; simp [h]
      have few := found_few O (cs := []) sub (fun _ h => by cases h) (by rw [hq] at pl; simp at pl; omega) (Nat.zero_le _) d
      have es := shade_ok (oneP_ok O hp) l1 l2 h3 h4 hd
      have fw := oneP_few O hp d
      have ad : gAdd (.list ((foundOf F done [] d).map cellD)) (.list ((shadeOf (oneP F p) d).map cellD)) = some (.list ((foundOf F (done ++ [p]) [] d).map cellD)) := by
        rw [v_addL, foundP, List.map_append]
        rw [List.length_map, List.length_map]
        omega
      simp only [a_seq, a_skip, a_if, a_ret, a_retN, a_drop, a_never, a_break, a_cont, a_set, a_own, a_var, a_c, a_op, a_nil, a_cons, a_tup, a_lst, a_f, a_call, a_fn, a_isi, a_isi2, a_not, a_tru, a_tbl, a_tno, a_tan, a_to, a_and, a_or, a_chain, a_ifE, a_onone, a_osome, a_sl, a_ixL, a_ixV, a_lvar, a_inL, a_for, a_to2, a_as, a_rng, a_lcP, a_lc, a_lc2, a_sc, a_sortZ, a_setOf, a_xor, a_ownI, a_callL, a_mmNil, a_mmSh, a_mmOwn, a_par, a_tab, a_disp, a_vals0, a_vals1, a_goName, a_yes, a_fnP, a_fnR, a_mFnR, a_store, a_app, a_join, a_rep, k_tt, k_tl, k_ti, k_tb, k_ts, k_tn, k_ll, k_lt, k_li, k_lb, k_ls, k_ln, k_it, k_il, k_ii, k_ib, k_is, k_in, k_bt, k_bl, k_bi, k_bb, k_bs, k_bn, k_st, k_sl, k_si, k_sb, k_ss, k_sn, v_lenT, v_lenL, v_lenS, v_tupL, v_intI, v_intB, v_asL, v_asT, v_asS, v_truB, v_truL, v_add, v_sub, v_lt, v_le, v_gt, v_ge, v_mod, v_div, v_mul, v_isN, p_sh, p_no, p_own, p_par, p_plsh, p_plno, st_sh, st_no, st_own, st_par, f_ix0, f_ix1, f_ix2, f_ix3, c_ix0, c_ix1, q_ix0, q_ix1, q_ix2, q_sl, f_kt, c_kt, c_kl, q_kt, f_len, c_len, q_len, c_go, q_go, f_go, t_go, g_cons, g_nil, v_enumT, v_enumS, v_rng1, v_rngN, v_rng2, v_n40, v_n41, v_n42, v_n43, v_setR0, q_add, v_addT, f_sl3, f_sl2, q_cutc1, q_cutc2, q_cutp1, put_own, put_par, o_rt, o_nx, r_rt, r_nx, po_par, d_eqO, d_notin, v_pow18, v_mulS, v_addL, af_c, stepC, back, List.getD_cons_zero, List.getD_cons_succ, af_nx, af_ct, af_bk, af_rt, gixT, gixL, ix0, ix1, ix2, ix3, sl_t, sl_l, eq_int, eq_bool, Option.bind_some, Option.bind_none, List.map_cons, List.map_nil, List.getElem?_cons_zero, List.getElem?_cons_succ, List.set_cons_zero, List.set_cons_succ, List.length_cons, List.length_nil, List.cons_append, List.nil_append, List.replicate, ownAt, if_true, Bool.false_eq_true, if_false, Nat.reduceAdd, Nat.reduceLeDiff, Bool.true_eq_false, Bool.false_bne, Bool.true_bne, Bool.not_true, Bool.not_false, ne_eq, not_true_eq_false, not_false_eq_true, reduceCtorEq, clean_pl, List.all_cons, List.all_nil, List.contains_cons, List.contains_nil, Nat.reduceBEq, Bool.and_self, and_self, and_true, true_and, wipeR, stepP, stepS, Option.map_some, if_and, if_or, if_tan, if_tor, Int.cast_ofNat_Int, decide_true, decide_false, Bool.true_and, Bool.and_true, Bool.or_false, Bool.false_or, Bool.and_false, Bool.false_and, in_cellsT, in_cellsL, shaped_cell, shaped_cellsL, shaped_cellsT, any_cells, q12, oneP_D, es, ad]
      exact ⟨_, rfl, rfl⟩)
  exact ⟨u12, rfl, q12⟩
theorem tE (O : F.Ok) (l1 : l ≠ []) (l2 : l.length ≤ 6) {b : Int} (h3 : 0 ≤ b) (h4 : b ≤ 1000000000000000000) {d : Dir} (hd : l[(b % l.length).toNat]? = some d) (p12 : isPar s12 = false) :
    ∃ u12, (mFor (mAs asT (mVar 9)) (goName 12) (mSeq (mSet 11 (mOp gAdd (mVar 11) (mFn f_shade (mCons (mTup (mCons (mVar 6) (mCons (mVar 7) (mCons (mTup mNil) (mCons (mTup (mCons (mVar 12) mNil)) mNil))))) (mCons (mVar 4) (mCons (mVar 5) mNil)))))) mSkip)) [s0, s1, s2, s3, .sh (.str (sunS l)), .sh (.int b), .sh (.int F.rows), .sh (.int F.cols), s8, .sh (.tuple (F.aw.map cellD)), s10, .sh (.list ((foundOf F F.posts [] d).map cellD)), s12, s13, s14, s15, s16, s17, s18, s19, s20, s21, s22] =
      some (.nx [s0, s1, s2, s3, .sh (.str (sunS l)), .sh (.int b), .sh (.int F.rows), .sh (.int F.cols), s8, .sh (.tuple (F.aw.map cellD)), s10, .sh (.list ((foundOf F F.posts F.aw d).map cellD)), u12, s13, s14, s15, s16, s17, s18, s19, s20, s21, s22]) ∧ isPar u12 = false := by
  have al := O.al
  simp only [a_seq, a_skip, a_if, a_ret, a_retN, a_drop, a_never, a_break, a_cont, a_set, a_own, a_var, a_c, a_op, a_nil, a_cons, a_tup, a_lst, a_f, a_call, a_fn, a_isi, a_isi2, a_not, a_tru, a_tbl, a_tno, a_tan, a_to, a_and, a_or, a_chain, a_ifE, a_onone, a_osome, a_sl, a_ixL, a_ixV, a_lvar, a_inL, a_for, a_to2, a_as, a_rng, a_lcP, a_lc, a_lc2, a_sc, a_sortZ, a_setOf, a_xor, a_ownI, a_callL, a_mmNil, a_mmSh, a_mmOwn, a_par, a_tab, a_disp, a_vals0, a_vals1, a_goName, a_yes, a_fnP, a_fnR, a_mFnR, a_store, a_app, a_join, a_rep, k_tt, k_tl, k_ti, k_tb, k_ts, k_tn, k_ll, k_lt, k_li, k_lb, k_ls, k_ln, k_it, k_il, k_ii, k_ib, k_is, k_in, k_bt, k_bl, k_bi, k_bb, k_bs, k_bn, k_st, k_sl, k_si, k_sb, k_ss, k_sn, v_lenT, v_lenL, v_lenS, v_tupL, v_intI, v_intB, v_asL, v_asT, v_asS, v_truB, v_truL, v_add, v_sub, v_lt, v_le, v_gt, v_ge, v_mod, v_div, v_mul, v_isN, p_sh, p_no, p_own, p_par, p_plsh, p_plno, st_sh, st_no, st_own, st_par, f_ix0, f_ix1, f_ix2, f_ix3, c_ix0, c_ix1, q_ix0, q_ix1, q_ix2, q_sl, f_kt, c_kt, c_kl, q_kt, f_len, c_len, q_len, c_go, q_go, f_go, t_go, g_cons, g_nil, v_enumT, v_enumS, v_rng1, v_rngN, v_rng2, v_n40, v_n41, v_n42, v_n43, v_setR0, q_add, v_addT, f_sl3, f_sl2, q_cutc1, q_cutc2, q_cutp1, put_own, put_par, o_rt, o_nx, r_rt, r_nx, po_par, d_eqO, d_notin, v_pow18, v_mulS, v_addL, af_c, stepC, back, List.getD_cons_zero, List.getD_cons_succ, af_nx, af_ct, af_bk, af_rt, gixT, gixL, ix0, ix1, ix2, ix3, sl_t, sl_l, eq_int, eq_bool, Option.bind_some, Option.bind_none, List.map_cons, List.map_nil, List.getElem?_cons_zero, List.getElem?_cons_succ, List.set_cons_zero, List.set_cons_succ, List.length_cons, List.length_nil, List.cons_append, List.nil_append, List.replicate, ownAt, if_true, Bool.false_eq_true, if_false, Nat.reduceAdd, Nat.reduceLeDiff, Bool.true_eq_false, Bool.false_bne, Bool.true_bne, Bool.not_true, Bool.not_false, ne_eq, not_true_eq_false, not_false_eq_true, reduceCtorEq, clean_pl, List.all_cons, List.all_nil, List.contains_cons, List.contains_nil, Nat.reduceBEq, Bool.and_self, and_self, and_true, true_and, wipeR, stepP, stepS, Option.map_some, if_and, if_or, if_tan, if_tor, Int.cast_ofNat_Int, decide_true, decide_false, Bool.true_and, Bool.and_true, Bool.or_false, Bool.false_or, Bool.and_false, Bool.false_and, in_cellsT, in_cellsL, shaped_cell, shaped_cellsL, shaped_cellsT, any_cells]
  generalize hL : loopS _ _ _ _ = L
  obtain ⟨ρ1, rfl, u12, rfl, q12⟩ := doneI hL (fun done ρ => ∃ u12, ρ = [s0, s1, s2, s3, .sh (.str (sunS l)), .sh (.int b), .sh (.int F.rows), .sh (.int F.cols), s8, .sh (.tuple (F.aw.map cellD)), s10, .sh (.list ((foundOf F F.posts done d).map cellD)), u12, s13, s14, s15, s16, s17, s18, s19, s20, s21, s22] ∧ isPar u12 = false)
    ⟨s12, rfl, p12⟩ (fun done p rest ρ hq ⟨u12, e, q12⟩ => by
      subst e
      have hp : p ∈ F.aw := by rw [hq]; simp
      have sub : ∀ q, q ∈ done → q ∈ F.aw := fun q h => by rw [hq]; simp [h]
      have few := found_few O (fun _ h => h) sub O.pl (by rw [hq] at al; simp at al; omega) d
      have es := shade_ok (oneA_ok O hp) l1 l2 h3 h4 hd
      have fw := oneA_few O hp d
      have ad : gAdd (.list ((foundOf F F.posts done d).map cellD)) (.list ((shadeOf (oneA F p) d).map cellD)) = some (.list ((foundOf F F.posts (done ++ [p]) d).map cellD)) := by
        rw [v_addL, foundA, List.map_append]
        rw [List.length_map, List.length_map]
        omega
      simp only [a_seq, a_skip, a_if, a_ret, a_retN, a_drop, a_never, a_break, a_cont, a_set, a_own, a_var, a_c, a_op, a_nil, a_cons, a_tup, a_lst, a_f, a_call, a_fn, a_isi, a_isi2, a_not, a_tru, a_tbl, a_tno, a_tan, a_to, a_and, a_or, a_chain, a_ifE, a_onone, a_osome, a_sl, a_ixL, a_ixV, a_lvar, a_inL, a_for, a_to2, a_as, a_rng, a_lcP, a_lc, a_lc2, a_sc, a_sortZ, a_setOf, a_xor, a_ownI, a_callL, a_mmNil, a_mmSh, a_mmOwn, a_par, a_tab, a_disp, a_vals0, a_vals1, a_goName, a_yes, a_fnP, a_fnR, a_mFnR, a_store, a_app, a_join, a_rep, k_tt, k_tl, k_ti, k_tb, k_ts, k_tn, k_ll, k_lt, k_li, k_lb, k_ls, k_ln, k_it, k_il, k_ii, k_ib, k_is, k_in, k_bt, k_bl, k_bi, k_bb, k_bs, k_bn, k_st, k_sl, k_si, k_sb, k_ss, k_sn, v_lenT, v_lenL, v_lenS, v_tupL, v_intI, v_intB, v_asL, v_asT, v_asS, v_truB, v_truL, v_add, v_sub, v_lt, v_le, v_gt, v_ge, v_mod, v_div, v_mul, v_isN, p_sh, p_no, p_own, p_par, p_plsh, p_plno, st_sh, st_no, st_own, st_par, f_ix0, f_ix1, f_ix2, f_ix3, c_ix0, c_ix1, q_ix0, q_ix1, q_ix2, q_sl, f_kt, c_kt, c_kl, q_kt, f_len, c_len, q_len, c_go, q_go, f_go, t_go, g_cons, g_nil, v_enumT, v_enumS, v_rng1, v_rngN, v_rng2, v_n40, v_n41, v_n42, v_n43, v_setR0, q_add, v_addT, f_sl3, f_sl2, q_cutc1, q_cutc2, q_cutp1, put_own, put_par, o_rt, o_nx, r_rt, r_nx, po_par, d_eqO, d_notin, v_pow18, v_mulS, v_addL, af_c, stepC, back, List.getD_cons_zero, List.getD_cons_succ, af_nx, af_ct, af_bk, af_rt, gixT, gixL, ix0, ix1, ix2, ix3, sl_t, sl_l, eq_int, eq_bool, Option.bind_some, Option.bind_none, List.map_cons, List.map_nil, List.getElem?_cons_zero, List.getElem?_cons_succ, List.set_cons_zero, List.set_cons_succ, List.length_cons, List.length_nil, List.cons_append, List.nil_append, List.replicate, ownAt, if_true, Bool.false_eq_true, if_false, Nat.reduceAdd, Nat.reduceLeDiff, Bool.true_eq_false, Bool.false_bne, Bool.true_bne, Bool.not_true, Bool.not_false, ne_eq, not_true_eq_false, not_false_eq_true, reduceCtorEq, clean_pl, List.all_cons, List.all_nil, List.contains_cons, List.contains_nil, Nat.reduceBEq, Bool.and_self, and_self, and_true, true_and, wipeR, stepP, stepS, Option.map_some, if_and, if_or, if_tan, if_tor, Int.cast_ofNat_Int, decide_true, decide_false, Bool.true_and, Bool.and_true, Bool.or_false, Bool.false_or, Bool.and_false, Bool.false_and, in_cellsT, in_cellsL, shaped_cell, shaped_cellsL, shaped_cellsT, any_cells, q12, oneA_D, es, ad]
      exact ⟨_, rfl, rfl⟩)
  exact ⟨u12, rfl, q12⟩
theorem at_dir {l : List Dir} {i : Nat} (h : i < l.length) : l[((i : Int) % (l.length : Int)).toNat]? = some l[i] := by
  rw [Int.emod_eq_of_lt (by omega) (by omega), Int.toNat_natCast, List.getElem?_eq_getElem h]
theorem tJ (O : F.Ok) (l1 : l ≠ []) (l2 : l.length ≤ 6) (k : Nat) (p16 : isPar s16 = false) :
    ∃ (u16 : Slot) (qs : List (Nat × Cell)), (mFor (mRng fRng1 (mCons (mCall fLen (mCons (mVar 4) mNil)) mNil)) (goName 16) (mSeq (mSet 15 (mOp gAdd (mVar 15) (mF (mLcP [20] [] (mAs asL (mFn f_shade (mCons (mVar 3) (mCons (mVar 4) (mCons (mVar 16) mNil))))) (goName 20) (tBl (mOp (gIn true) (mVar 20) (mFn f_shade (mCons (mVar 14) (mCons (mVar 4) (mCons (mVar 16) mNil)))))) (mTup (mCons (mVar 16) (mCons (mVar 20) mNil))))))) mSkip)) [s0, s1, s2, .sh (flD F), .sh (.str (sunS l)), s5, s6, s7, s8, s9, s10, s11, s12, s13, .sh (flD (partF F k)), .sh (.list []), s16, s17, s18, s19, .no, s21, s22] =
      some (.nx [s0, s1, s2, .sh (flD F), .sh (.str (sunS l)), s5, s6, s7, s8, s9, s10, s11, s12, s13, .sh (flD (partF F k)), .sh (.list (qs.map atD)), u16, s17, s18, s19, .no, s21, s22]) ∧ isPar u16 = false ∧ (pl s16 = true → pl u16 = true) ∧ qs.head? = partOf F (partF F k) l ∧ qs.length ≤ 150 := by
  have OG := partF_ok O k
  have len : fLen [.str (sunS l)] = some (.int l.length) := by
    rw [v_lenS (by rw [sun_len]; omega), sun_len]
  have hr := v_rngN (n := l.length) (by omega)
  simp only [a_seq, a_skip, a_if, a_ret, a_retN, a_drop, a_never, a_break, a_cont, a_set, a_own, a_var, a_c, a_op, a_nil, a_cons, a_tup, a_lst, a_f, a_call, a_fn, a_isi, a_isi2, a_not, a_tru, a_tbl, a_tno, a_tan, a_to, a_and, a_or, a_chain, a_ifE, a_onone, a_osome, a_sl, a_ixL, a_ixV, a_lvar, a_inL, a_for, a_to2, a_as, a_rng, a_lcP, a_lc, a_lc2, a_sc, a_sortZ, a_setOf, a_xor, a_ownI, a_callL, a_mmNil, a_mmSh, a_mmOwn, a_par, a_tab, a_disp, a_vals0, a_vals1, a_goName, a_yes, a_fnP, a_fnR, a_mFnR, a_store, a_app, a_join, a_rep, k_tt, k_tl, k_ti, k_tb, k_ts, k_tn, k_ll, k_lt, k_li, k_lb, k_ls, k_ln, k_it, k_il, k_ii, k_ib, k_is, k_in, k_bt, k_bl, k_bi, k_bb, k_bs, k_bn, k_st, k_sl, k_si, k_sb, k_ss, k_sn, v_lenT, v_lenL, v_lenS, v_tupL, v_intI, v_intB, v_asL, v_asT, v_asS, v_truB, v_truL, v_add, v_sub, v_lt, v_le, v_gt, v_ge, v_mod, v_div, v_mul, v_isN, p_sh, p_no, p_own, p_par, p_plsh, p_plno, st_sh, st_no, st_own, st_par, f_ix0, f_ix1, f_ix2, f_ix3, c_ix0, c_ix1, q_ix0, q_ix1, q_ix2, q_sl, f_kt, c_kt, c_kl, q_kt, f_len, c_len, q_len, c_go, q_go, f_go, t_go, g_cons, g_nil, v_enumT, v_enumS, v_rng1, v_rngN, v_rng2, v_n40, v_n41, v_n42, v_n43, v_setR0, q_add, v_addT, f_sl3, f_sl2, q_cutc1, q_cutc2, q_cutp1, put_own, put_par, o_rt, o_nx, r_rt, r_nx, po_par, d_eqO, d_notin, v_pow18, v_mulS, v_addL, af_c, stepC, back, List.getD_cons_zero, List.getD_cons_succ, af_nx, af_ct, af_bk, af_rt, gixT, gixL, ix0, ix1, ix2, ix3, sl_t, sl_l, eq_int, eq_bool, Option.bind_some, Option.bind_none, List.map_cons, List.map_nil, List.getElem?_cons_zero, List.getElem?_cons_succ, List.set_cons_zero, List.set_cons_succ, List.length_cons, List.length_nil, List.cons_append, List.nil_append, List.replicate, ownAt, if_true, Bool.false_eq_true, if_false, Nat.reduceAdd, Nat.reduceLeDiff, Bool.true_eq_false, Bool.false_bne, Bool.true_bne, Bool.not_true, Bool.not_false, ne_eq, not_true_eq_false, not_false_eq_true, reduceCtorEq, clean_pl, List.all_cons, List.all_nil, List.contains_cons, List.contains_nil, Nat.reduceBEq, Bool.and_self, and_self, and_true, true_and, wipeR, stepP, stepS, Option.map_some, if_and, if_or, if_tan, if_tor, Int.cast_ofNat_Int, decide_true, decide_false, Bool.true_and, Bool.and_true, Bool.or_false, Bool.false_or, Bool.and_false, Bool.false_and, in_cellsT, in_cellsL, shaped_cell, shaped_cellsL, shaped_cellsT, any_cells, len, hr, rngD_map]
  generalize hL : loopS _ _ _ _ = L
  obtain ⟨ρ1, rfl, u16, qs, rfl, q16, q16', qh, ql⟩ := doneI hL (fun done ρ => ∃ (u16 : Slot) (qs : List (Nat × Cell)), ρ = [s0, s1, s2, .sh (flD F), .sh (.str (sunS l)), s5, s6, s7, s8, s9, s10, s11, s12, s13, .sh (flD (partF F k)), .sh (.list (qs.map atD)), u16, s17, s18, s19, .no, s21, s22] ∧ isPar u16 = false ∧ (pl s16 = true → pl u16 = true) ∧ qs.head? = partOf F (partF F k) (l.take done.length) ∧ qs.length ≤ 25 * done.length)
    ⟨s16, [], by rfl, p16, fun h => h, rfl, Nat.zero_le _⟩ (fun done i rest ρ hd ⟨u16, qs, e, q16, q16', qh, ql⟩ => by
      subst e
      obtain ⟨hi, hi2, -⟩ := range_at hd
      have hdir := at_dir hi2
      have hdir2 : l[i]? = some l[i] := List.getElem?_eq_getElem hi2
      generalize l[i] = d at hdir hdir2
      have e1 := shade_ok O l1 l2 (b := (i : Int)) (by omega) (by omega) hdir
      have e2 := shade_ok OG l1 l2 (b := (i : Int)) (by omega) (by omega) hdir
      have nsh : ((shadeOf F d).map cellD).length < 16000000 := by
        rw [List.length_map]
        have := shade_len O d
        omega
      have lf := left_few O k d
      have lh := left_head O k d
      have ad : gAdd (.list (qs.map atD)) (.list ((leftOf F (partF F k) d).map fun c => atD (i, c))) = some (.list ((qs ++ (leftOf F (partF F k) d).map fun c => (i, c)).map atD)) := by
        rw [v_addL, List.map_append, List.map_map]
        · rfl
        · rw [List.length_map, List.length_map]
          omega
      simp only [a_seq, a_skip, a_if, a_ret, a_retN, a_drop, a_never, a_break, a_cont, a_set, a_own, a_var, a_c, a_op, a_nil, a_cons, a_tup, a_lst, a_f, a_call, a_fn, a_isi, a_isi2, a_not, a_tru, a_tbl, a_tno, a_tan, a_to, a_and, a_or, a_chain, a_ifE, a_onone, a_osome, a_sl, a_ixL, a_ixV, a_lvar, a_inL, a_for, a_to2, a_as, a_rng, a_lcP, a_lc, a_lc2, a_sc, a_sortZ, a_setOf, a_xor, a_ownI, a_callL, a_mmNil, a_mmSh, a_mmOwn, a_par, a_tab, a_disp, a_vals0, a_vals1, a_goName, a_yes, a_fnP, a_fnR, a_mFnR, a_store, a_app, a_join, a_rep, k_tt, k_tl, k_ti, k_tb, k_ts, k_tn, k_ll, k_lt, k_li, k_lb, k_ls, k_ln, k_it, k_il, k_ii, k_ib, k_is, k_in, k_bt, k_bl, k_bi, k_bb, k_bs, k_bn, k_st, k_sl, k_si, k_sb, k_ss, k_sn, v_lenT, v_lenL, v_lenS, v_tupL, v_intI, v_intB, v_asL, v_asT, v_asS, v_truB, v_truL, v_add, v_sub, v_lt, v_le, v_gt, v_ge, v_mod, v_div, v_mul, v_isN, p_sh, p_no, p_own, p_par, p_plsh, p_plno, st_sh, st_no, st_own, st_par, f_ix0, f_ix1, f_ix2, f_ix3, c_ix0, c_ix1, q_ix0, q_ix1, q_ix2, q_sl, f_kt, c_kt, c_kl, q_kt, f_len, c_len, q_len, c_go, q_go, f_go, t_go, g_cons, g_nil, v_enumT, v_enumS, v_rng1, v_rngN, v_rng2, v_n40, v_n41, v_n42, v_n43, v_setR0, q_add, v_addT, f_sl3, f_sl2, q_cutc1, q_cutc2, q_cutp1, put_own, put_par, o_rt, o_nx, r_rt, r_nx, po_par, d_eqO, d_notin, v_pow18, v_mulS, v_addL, af_c, stepC, back, List.getD_cons_zero, List.getD_cons_succ, af_nx, af_ct, af_bk, af_rt, gixT, gixL, ix0, ix1, ix2, ix3, sl_t, sl_l, eq_int, eq_bool, Option.bind_some, Option.bind_none, List.map_cons, List.map_nil, List.getElem?_cons_zero, List.getElem?_cons_succ, List.set_cons_zero, List.set_cons_succ, List.length_cons, List.length_nil, List.cons_append, List.nil_append, List.replicate, ownAt, if_true, Bool.false_eq_true, if_false, Nat.reduceAdd, Nat.reduceLeDiff, Bool.true_eq_false, Bool.false_bne, Bool.true_bne, Bool.not_true, Bool.not_false, ne_eq, not_true_eq_false, not_false_eq_true, reduceCtorEq, clean_pl, List.all_cons, List.all_nil, List.contains_cons, List.contains_nil, Nat.reduceBEq, Bool.and_self, and_self, and_true, true_and, wipeR, stepP, stepS, Option.map_some, if_and, if_or, if_tan, if_tor, Int.cast_ofNat_Int, decide_true, decide_false, Bool.true_and, Bool.and_true, Bool.or_false, Bool.false_or, Bool.and_false, Bool.false_and, in_cellsT, in_cellsL, shaped_cell, shaped_cellsL, shaped_cellsT, any_cells, q16, e1, Int.zero_add, nsh]
      rw [loopP_map (p := fun c => !decide (c ∈ shadeOf (partF F k) d)) (h := fun c => atD (i, c)) _ (fun c hc => by
        simp only [a_seq, a_skip, a_if, a_ret, a_retN, a_drop, a_never, a_break, a_cont, a_set, a_own, a_var, a_c, a_op, a_nil, a_cons, a_tup, a_lst, a_f, a_call, a_fn, a_isi, a_isi2, a_not, a_tru, a_tbl, a_tno, a_tan, a_to, a_and, a_or, a_chain, a_ifE, a_onone, a_osome, a_sl, a_ixL, a_ixV, a_lvar, a_inL, a_for, a_to2, a_as, a_rng, a_lcP, a_lc, a_lc2, a_sc, a_sortZ, a_setOf, a_xor, a_ownI, a_callL, a_mmNil, a_mmSh, a_mmOwn, a_par, a_tab, a_disp, a_vals0, a_vals1, a_goName, a_yes, a_fnP, a_fnR, a_mFnR, a_store, a_app, a_join, a_rep, k_tt, k_tl, k_ti, k_tb, k_ts, k_tn, k_ll, k_lt, k_li, k_lb, k_ls, k_ln, k_it, k_il, k_ii, k_ib, k_is, k_in, k_bt, k_bl, k_bi, k_bb, k_bs, k_bn, k_st, k_sl, k_si, k_sb, k_ss, k_sn, v_lenT, v_lenL, v_lenS, v_tupL, v_intI, v_intB, v_asL, v_asT, v_asS, v_truB, v_truL, v_add, v_sub, v_lt, v_le, v_gt, v_ge, v_mod, v_div, v_mul, v_isN, p_sh, p_no, p_own, p_par, p_plsh, p_plno, st_sh, st_no, st_own, st_par, f_ix0, f_ix1, f_ix2, f_ix3, c_ix0, c_ix1, q_ix0, q_ix1, q_ix2, q_sl, f_kt, c_kt, c_kl, q_kt, f_len, c_len, q_len, c_go, q_go, f_go, t_go, g_cons, g_nil, v_enumT, v_enumS, v_rng1, v_rngN, v_rng2, v_n40, v_n41, v_n42, v_n43, v_setR0, q_add, v_addT, f_sl3, f_sl2, q_cutc1, q_cutc2, q_cutp1, put_own, put_par, o_rt, o_nx, r_rt, r_nx, po_par, d_eqO, d_notin, v_pow18, v_mulS, v_addL, af_c, stepC, back, List.getD_cons_zero, List.getD_cons_succ, af_nx, af_ct, af_bk, af_rt, gixT, gixL, ix0, ix1, ix2, ix3, sl_t, sl_l, eq_int, eq_bool, Option.bind_some, Option.bind_none, List.map_cons, List.map_nil, List.getElem?_cons_zero, List.getElem?_cons_succ, List.set_cons_zero, List.set_cons_succ, List.length_cons, List.length_nil, List.cons_append, List.nil_append, List.replicate, ownAt, if_true, Bool.false_eq_true, if_false, Nat.reduceAdd, Nat.reduceLeDiff, Bool.true_eq_false, Bool.false_bne, Bool.true_bne, Bool.not_true, Bool.not_false, ne_eq, not_true_eq_false, not_false_eq_true, reduceCtorEq, clean_pl, List.all_cons, List.all_nil, List.contains_cons, List.contains_nil, Nat.reduceBEq, Bool.and_self, and_self, and_true, true_and, wipeR, stepP, stepS, Option.map_some, if_and, if_or, if_tan, if_tor, Int.cast_ofNat_Int, decide_true, decide_false, Bool.true_and, Bool.and_true, Bool.or_false, Bool.false_or, Bool.and_false, Bool.false_and, in_cellsT, in_cellsL, shaped_cell, shaped_cellsL, shaped_cellsT, any_cells, e2]
        exact some_if (!decide (c ∈ shadeOf (partF F k) d)) (atD (i, c)))]
      rw [show (shadeOf F d).filter (fun c => !decide (c ∈ shadeOf (partF F k) d)) = leftOf F (partF F k) d from rfl]
      simp only [a_seq, a_skip, a_if, a_ret, a_retN, a_drop, a_never, a_break, a_cont, a_set, a_own, a_var, a_c, a_op, a_nil, a_cons, a_tup, a_lst, a_f, a_call, a_fn, a_isi, a_isi2, a_not, a_tru, a_tbl, a_tno, a_tan, a_to, a_and, a_or, a_chain, a_ifE, a_onone, a_osome, a_sl, a_ixL, a_ixV, a_lvar, a_inL, a_for, a_to2, a_as, a_rng, a_lcP, a_lc, a_lc2, a_sc, a_sortZ, a_setOf, a_xor, a_ownI, a_callL, a_mmNil, a_mmSh, a_mmOwn, a_par, a_tab, a_disp, a_vals0, a_vals1, a_goName, a_yes, a_fnP, a_fnR, a_mFnR, a_store, a_app, a_join, a_rep, k_tt, k_tl, k_ti, k_tb, k_ts, k_tn, k_ll, k_lt, k_li, k_lb, k_ls, k_ln, k_it, k_il, k_ii, k_ib, k_is, k_in, k_bt, k_bl, k_bi, k_bb, k_bs, k_bn, k_st, k_sl, k_si, k_sb, k_ss, k_sn, v_lenT, v_lenL, v_lenS, v_tupL, v_intI, v_intB, v_asL, v_asT, v_asS, v_truB, v_truL, v_add, v_sub, v_lt, v_le, v_gt, v_ge, v_mod, v_div, v_mul, v_isN, p_sh, p_no, p_own, p_par, p_plsh, p_plno, st_sh, st_no, st_own, st_par, f_ix0, f_ix1, f_ix2, f_ix3, c_ix0, c_ix1, q_ix0, q_ix1, q_ix2, q_sl, f_kt, c_kt, c_kl, q_kt, f_len, c_len, q_len, c_go, q_go, f_go, t_go, g_cons, g_nil, v_enumT, v_enumS, v_rng1, v_rngN, v_rng2, v_n40, v_n41, v_n42, v_n43, v_setR0, q_add, v_addT, f_sl3, f_sl2, q_cutc1, q_cutc2, q_cutp1, put_own, put_par, o_rt, o_nx, r_rt, r_nx, po_par, d_eqO, d_notin, v_pow18, v_mulS, v_addL, af_c, stepC, back, List.getD_cons_zero, List.getD_cons_succ, af_nx, af_ct, af_bk, af_rt, gixT, gixL, ix0, ix1, ix2, ix3, sl_t, sl_l, eq_int, eq_bool, Option.bind_some, Option.bind_none, List.map_cons, List.map_nil, List.getElem?_cons_zero, List.getElem?_cons_succ, List.set_cons_zero, List.set_cons_succ, List.length_cons, List.length_nil, List.cons_append, List.nil_append, List.replicate, ownAt, if_true, Bool.false_eq_true, if_false, Nat.reduceAdd, Nat.reduceLeDiff, Bool.true_eq_false, Bool.false_bne, Bool.true_bne, Bool.not_true, Bool.not_false, ne_eq, not_true_eq_false, not_false_eq_true, reduceCtorEq, clean_pl, List.all_cons, List.all_nil, List.contains_cons, List.contains_nil, Nat.reduceBEq, Bool.and_self, and_self, and_true, true_and, wipeR, stepP, stepS, Option.map_some, if_and, if_or, if_tan, if_tor, Int.cast_ofNat_Int, decide_true, decide_false, Bool.true_and, Bool.and_true, Bool.or_false, Bool.false_or, Bool.and_false, Bool.false_and, in_cellsT, in_cellsL, shaped_cell, shaped_cellsL, shaped_cellsT, any_cells, ad]
      refine ⟨_, _, rfl, rfl, fun _ => rfl, ?_, ?_⟩
      · have tk : l.take (done ++ [i]).length = l.take done.length ++ [d] := by
          rw [List.length_append, List.length_singleton, List.take_add_one, ← hi, hdir2]
          rfl
        rw [tk, partOf_snoc, List.length_take, Nat.min_eq_left (by omega), List.head?_append, qh, List.head?_map, lh, ← hi]
      · rw [List.length_append, List.length_map, List.length_append, List.length_singleton]
        omega)
  rw [List.length_range] at qh ql
  rw [List.take_length] at qh
  exact ⟨u16, qs, rfl, q16, q16', qh, by omega⟩
theorem eq_due (q : Option (Nat × Cell)) : gEq true (dueD q) (dueD q) = some (.bool false) := by
  cases q with
  | none => rfl
  | some q =>
    unfold gEq
    rw [if_pos ⟨rfl, rfl⟩]
    simp [dueD, cellD, PyData.eqv, PyData.eqvAll]
theorem tK (O : F.Ok) (l1 : l ≠ []) (l2 : l.length ≤ 6) (k : Nat) {qs : List (Nat × Cell)} (qh : qs.head? = partOf F (partF F k) l) (ql : qs.length ≤ 150) : (mIf (tO (tBl (mOp (gEq true) (mFn f_parted (mCons (mVar 3) (mCons (mVar 14) (mCons (mVar 4) mNil)))) (mOp gIx (mOp gAdd (mVar 15) (mF (mLst (mCons (mC .none) mNil)))) (mC (.int 0))))) (tBl (mOp (gEq true) (mFn f_parted (mCons (mVar 14) (mCons (mVar 3) (mCons (mVar 4) mNil)))) (mOp gIx (mOp gAdd (mVar 15) (mF (mLst (mCons (mC .none) mNil)))) (mC (.int 0)))))) (mSeq (mRet (mC (.bool false))) mSkip) mSkip) [s0, s1, s2, .sh (flD F), .sh (.str (sunS l)), s5, s6, s7, s8, s9, s10, s11, s12, s13, .sh (flD (partF F k)), .sh (.list (qs.map atD)), s16, s17, s18, s19, s20, s21, s22] =
      some (.nx [s0, s1, s2, .sh (flD F), .sh (.str (sunS l)), s5, s6, s7, s8, s9, s10, s11, s12, s13, .sh (flD (partF F k)), .sh (.list (qs.map atD)), s16, s17, s18, s19, s20, s21, s22]) := by
  have OG := partF_ok O k
  have h1 := parted_ok F (partF F k) l O OG l1 l2
  have h2 := parted_ok (partF F k) F l OG O l1 l2
  rw [partOf_comm (partF F k) F] at h2
  have hh := due_head qh (by omega)
  have ad : gAdd (.list (qs.map atD)) (.list [.none]) = some (.list (qs.map atD ++ [.none])) := v_addL (by rw [List.length_map]; show qs.length + 1 ≤ _; omega)
  rw [ad] at hh
  have hh : gIx (.list (qs.map atD ++ [.none])) (.int 0) = some (dueD (partOf F (partF F k) l)) := hh
  have ee := eq_due (partOf F (partF F k) l)
  generalize dueD (partOf F (partF F k) l) = x at h1 h2 hh ee
  generalize qs.map atD ++ [.none] = ys at ad hh
  have hh2 := hh
  rw [gixL] at hh2
  simp only [a_seq, a_skip, a_if, a_ret, a_retN, a_drop, a_never, a_break, a_cont, a_set, a_own, a_var, a_c, a_op, a_nil, a_cons, a_tup, a_lst, a_f, a_call, a_fn, a_isi, a_isi2, a_not, a_tru, a_tbl, a_tno, a_tan, a_to, a_and, a_or, a_chain, a_ifE, a_onone, a_osome, a_sl, a_ixL, a_ixV, a_lvar, a_inL, a_for, a_to2, a_as, a_rng, a_lcP, a_lc, a_lc2, a_sc, a_sortZ, a_setOf, a_xor, a_ownI, a_callL, a_mmNil, a_mmSh, a_mmOwn, a_par, a_tab, a_disp, a_vals0, a_vals1, a_goName, a_yes, a_fnP, a_fnR, a_mFnR, a_store, a_app, a_join, a_rep, k_tt, k_tl, k_ti, k_tb, k_ts, k_tn, k_ll, k_lt, k_li, k_lb, k_ls, k_ln, k_it, k_il, k_ii, k_ib, k_is, k_in, k_bt, k_bl, k_bi, k_bb, k_bs, k_bn, k_st, k_sl, k_si, k_sb, k_ss, k_sn, v_lenT, v_lenL, v_lenS, v_tupL, v_intI, v_intB, v_asL, v_asT, v_asS, v_truB, v_truL, v_add, v_sub, v_lt, v_le, v_gt, v_ge, v_mod, v_div, v_mul, v_isN, p_sh, p_no, p_own, p_par, p_plsh, p_plno, st_sh, st_no, st_own, st_par, f_ix0, f_ix1, f_ix2, f_ix3, c_ix0, c_ix1, q_ix0, q_ix1, q_ix2, q_sl, f_kt, c_kt, c_kl, q_kt, f_len, c_len, q_len, c_go, q_go, f_go, t_go, g_cons, g_nil, v_enumT, v_enumS, v_rng1, v_rngN, v_rng2, v_n40, v_n41, v_n42, v_n43, v_setR0, q_add, v_addT, f_sl3, f_sl2, q_cutc1, q_cutc2, q_cutp1, put_own, put_par, o_rt, o_nx, r_rt, r_nx, po_par, d_eqO, d_notin, v_pow18, v_mulS, v_addL, af_c, stepC, back, List.getD_cons_zero, List.getD_cons_succ, af_nx, af_ct, af_bk, af_rt, gixT, gixL, ix0, ix1, ix2, ix3, sl_t, sl_l, eq_int, eq_bool, Option.bind_some, Option.bind_none, List.map_cons, List.map_nil, List.getElem?_cons_zero, List.getElem?_cons_succ, List.set_cons_zero, List.set_cons_succ, List.length_cons, List.length_nil, List.cons_append, List.nil_append, List.replicate, ownAt, if_true, Bool.false_eq_true, if_false, Nat.reduceAdd, Nat.reduceLeDiff, Bool.true_eq_false, Bool.false_bne, Bool.true_bne, Bool.not_true, Bool.not_false, ne_eq, not_true_eq_false, not_false_eq_true, reduceCtorEq, clean_pl, List.all_cons, List.all_nil, List.contains_cons, List.contains_nil, Nat.reduceBEq, Bool.and_self, and_self, and_true, true_and, wipeR, stepP, stepS, Option.map_some, if_and, if_or, if_tan, if_tor, Int.cast_ofNat_Int, decide_true, decide_false, Bool.true_and, Bool.and_true, Bool.or_false, Bool.false_or, Bool.and_false, Bool.false_and, in_cellsT, in_cellsL, shaped_cell, shaped_cellsL, shaped_cellsT, any_cells, h1, h2, ad, hh, hh2, ee]
end
end Pr

set_option Elab.async false
set_option linter.all false
set_option maxRecDepth 100000
set_option maxHeartbeats 1000000
namespace Pr
open PySem PySem.Spec L2 Fn Mx
section
variable {s0 s1 s2 s3 s4 s5 s6 s7 s8 s9 s10 s11 s12 s13 s14 s15 s16 s17 s18 s19 s20 s21 s22 : Slot} {F : Fl} {l : List Dir} {rs : List PyData}
theorem dirs_map (z : Bool) (l : List Dir) : (l.map fun d => PyData.str (dirS (turnD z d))) = (l.map (turnD z)).map fun d => .str (dirS d) := by rw [List.map_map]; rfl
theorem tM1 (O : F.Ok) (z : Bool) (l1 : l ≠ []) (l2 : l.length ≤ 6) {b : Int} (h3 : 0 ≤ b) (h4 : b ≤ 1000000000000000000) {d : Dir} (hd : l[(b % l.length).toNat]? = some d) (p16 : pl s16 = true) (p18 : isPar s18 = false) (p19 : isPar s19 = false) :
    (mSeq (mDct 18 (mDz (mC (.str "ensow")) (mOp gIx (mF (mLst (mCons (mC (.str "wnsoe")) (mCons (mC (.str "sweon")) mNil)))) (mVar 17)))) (mSeq (mSet 19 (mFn f_shade (mCons (mFn f__law_turned (mCons (mVar 3) (mCons (mVar 17) mNil))) (mCons (mJoin (mC (.str "")) (mF (mLcP [21] [] (mAs asS (mVar 4)) (goName 21) tYesM (mDget 18 (mVar 21))))) (mCons (mVar 5) mNil))))) (mSeq (mIf (tBl (mOp (gEq true) (mVar 19) (mSortL (mF (mLcP [22, 16] [] (mAs asL (mVar 10)) (goTup 2 (goCons (goName 22) (goCons (goName 16) goNil))) tYesM (mIfE (tBl (mOp (gEq false) (mVar 17) (mC (.int 0)))) (mTup (mCons (mVar 22) (mCons (mOp gMinus (mOp gMinus (mVar 7) (mC (.int 1))) (mVar 16)) mNil))) (mTup (mCons (mVar 16) (mCons (mVar 22) mNil))))))))) (mSeq (mRet (mC (.bool false))) mSkip) mSkip) mSkip))) [s0, s1, s2, .sh (flD F), .sh (.str (sunS l)), .sh (.int b), s6, .sh (.int F.cols), s8, s9, .sh (.list ((shadeOf F d).map cellD)), s11, s12, s13, s14, s15, s16, .sh (.int (wayI z)), s18, s19, s20, .no, .no] =
      some (.nx [s0, s1, s2, .sh (flD F), .sh (.str (sunS l)), .sh (.int b), s6, .sh (.int F.cols), s8, s9, .sh (.list ((shadeOf F d).map cellD)), s11, s12, s13, s14, s15, s16, .sh (.int (wayI z)), .dct (tabT z), .sh (.list ((shadeOf (turnF z F) (turnD z d)).map cellD)), s20, .no, .no]) := by
  have ht := law_turned_ok z O
  have n1 : l.map (turnD z) ≠ [] := fun e => l1 (List.map_eq_nil_iff.mp e)
  have n2 : (l.map (turnD z)).length ≤ 6 := by rw [List.length_map]; exact l2
  have hd2 : (l.map (turnD z))[(b % (l.map (turnD z)).length).toNat]? = some (turnD z d) := by rw [List.length_map]; exact turn_at hd
  have es := shade_ok (turn_ok z O) n1 n2 h3 h4 hd2
  have hs : (((l.map (turnD z)).map dirS).map (·.length)).sum + ((l.map (turnD z)).map dirS).length * ("" : Str).length ≤ 100000 := by
    rw [dirs_len, show ("" : Str).length = 0 by decide +kernel, Nat.mul_zero]
    omega
  have few := shade_len O d
  have few2 : ((shadeOf F d).map cellD).length < 16000000 := by
    rw [List.length_map]
    have := shade_len O d
    omega
  have lf : (l.map fun d => PyData.str (dirS d)).length < 16000000 := by rw [List.length_map]; omega
  have ee := eq_cellsL true (shadeOf (turnF z F) (turnD z d)) (shadeOf (turnF z F) (turnD z d))
  rw [decide_eq_true (rfl : shadeOf (turnF z F) (turnD z d) = shadeOf (turnF z F) (turnD z d))] at ee
  have p16' := isPar_pl p16
  have hA : (mDct 18 (mDz (mC (.str "ensow")) (mOp gIx (mF (mLst (mCons (mC (.str "wnsoe")) (mCons (mC (.str "sweon")) mNil)))) (mVar 17)))) [s0, s1, s2, .sh (flD F), .sh (.str (sunS l)), .sh (.int b), s6, .sh (.int F.cols), s8, s9, .sh (.list ((shadeOf F d).map cellD)), s11, s12, s13, s14, s15, s16, .sh (.int (wayI z)), s18, s19, s20, .no, .no] = some (.nx [s0, s1, s2, .sh (flD F), .sh (.str (sunS l)), .sh (.int b), s6, .sh (.int F.cols), s8, s9, .sh (.list ((shadeOf F d).map cellD)), s11, s12, s13, s14, s15, s16, .sh (.int (wayI z)), .dct (tabT z), s19, s20, .no, .no]) := by
    rw [a_dct, tab_ok z (by simp only [a_seq, a_skip, a_if, a_ret, a_retN, a_drop, a_never, a_break, a_cont, a_set, a_own, a_var, a_c, a_op, a_nil, a_cons, a_tup, a_lst, a_f, a_call, a_fn, a_isi, a_isi2, a_not, a_tru, a_tbl, a_tno, a_tan, a_to, a_and, a_or, a_chain, a_ifE, a_onone, a_osome, a_sl, a_ixL, a_ixV, a_lvar, a_inL, a_for, a_to2, a_as, a_rng, a_lcP, a_lc, a_lc2, a_sc, a_sortZ, a_setOf, a_xor, a_ownI, a_callL, a_mmNil, a_mmSh, a_mmOwn, a_par, a_tab, a_disp, a_vals0, a_vals1, a_goName, a_yes, a_fnP, a_fnR, a_mFnR, a_store, a_app, a_join, a_rep, k_tt, k_tl, k_ti, k_tb, k_ts, k_tn, k_ll, k_lt, k_li, k_lb, k_ls, k_ln, k_it, k_il, k_ii, k_ib, k_is, k_in, k_bt, k_bl, k_bi, k_bb, k_bs, k_bn, k_st, k_sl, k_si, k_sb, k_ss, k_sn, v_lenT, v_lenL, v_lenS, v_tupL, v_intI, v_intB, v_asL, v_asT, v_asS, v_truB, v_truL, v_add, v_sub, v_lt, v_le, v_gt, v_ge, v_mod, v_div, v_mul, v_isN, p_sh, p_no, p_own, p_par, p_plsh, p_plno, st_sh, st_no, st_own, st_par, f_ix0, f_ix1, f_ix2, f_ix3, c_ix0, c_ix1, q_ix0, q_ix1, q_ix2, q_sl, f_kt, c_kt, c_kl, q_kt, f_len, c_len, q_len, c_go, q_go, f_go, t_go, g_cons, g_nil, v_enumT, v_enumS, v_rng1, v_rngN, v_rng2, v_n40, v_n41, v_n42, v_n43, v_setR0, q_add, v_addT, f_sl3, f_sl2, q_cutc1, q_cutc2, q_cutp1, put_own, put_par, o_rt, o_nx, r_rt, r_nx, po_par, d_eqO, d_notin, v_pow18, v_mulS, v_addL, af_c, stepC, back, List.getD_cons_zero, List.getD_cons_succ, af_nx, af_ct, af_bk, af_rt, gixT, gixL, ix0, ix1, ix2, ix3, sl_t, sl_l, eq_int, eq_bool, Option.bind_some, Option.bind_none, List.map_cons, List.map_nil, List.getElem?_cons_zero, List.getElem?_cons_succ, List.set_cons_zero, List.set_cons_succ, List.length_cons, List.length_nil, List.cons_append, List.nil_append, List.replicate, ownAt, if_true, Bool.false_eq_true, if_false, Nat.reduceAdd, Nat.reduceLeDiff, Bool.true_eq_false, Bool.false_bne, Bool.true_bne, Bool.not_true, Bool.not_false, ne_eq, not_true_eq_false, not_false_eq_true, reduceCtorEq, clean_pl, List.all_cons, List.all_nil, List.contains_cons, List.contains_nil, Nat.reduceBEq, Bool.and_self, and_self, and_true, true_and, wipeR, stepP, stepS, Option.map_some, if_and, if_or, if_tan, if_tor, Int.cast_ofNat_Int, decide_true, decide_false, Bool.true_and, Bool.and_true, Bool.or_false, Bool.false_or, Bool.and_false, Bool.false_and, in_cellsT, in_cellsL, shaped_cell, shaped_cellsL, shaped_cellsT, any_cells])]
    simp only [a_seq, a_skip, a_if, a_ret, a_retN, a_drop, a_never, a_break, a_cont, a_set, a_own, a_var, a_c, a_op, a_nil, a_cons, a_tup, a_lst, a_f, a_call, a_fn, a_isi, a_isi2, a_not, a_tru, a_tbl, a_tno, a_tan, a_to, a_and, a_or, a_chain, a_ifE, a_onone, a_osome, a_sl, a_ixL, a_ixV, a_lvar, a_inL, a_for, a_to2, a_as, a_rng, a_lcP, a_lc, a_lc2, a_sc, a_sortZ, a_setOf, a_xor, a_ownI, a_callL, a_mmNil, a_mmSh, a_mmOwn, a_par, a_tab, a_disp, a_vals0, a_vals1, a_goName, a_yes, a_fnP, a_fnR, a_mFnR, a_store, a_app, a_join, a_rep, k_tt, k_tl, k_ti, k_tb, k_ts, k_tn, k_ll, k_lt, k_li, k_lb, k_ls, k_ln, k_it, k_il, k_ii, k_ib, k_is, k_in, k_bt, k_bl, k_bi, k_bb, k_bs, k_bn, k_st, k_sl, k_si, k_sb, k_ss, k_sn, v_lenT, v_lenL, v_lenS, v_tupL, v_intI, v_intB, v_asL, v_asT, v_asS, v_truB, v_truL, v_add, v_sub, v_lt, v_le, v_gt, v_ge, v_mod, v_div, v_mul, v_isN, p_sh, p_no, p_own, p_par, p_plsh, p_plno, st_sh, st_no, st_own, st_par, f_ix0, f_ix1, f_ix2, f_ix3, c_ix0, c_ix1, q_ix0, q_ix1, q_ix2, q_sl, f_kt, c_kt, c_kl, q_kt, f_len, c_len, q_len, c_go, q_go, f_go, t_go, g_cons, g_nil, v_enumT, v_enumS, v_rng1, v_rngN, v_rng2, v_n40, v_n41, v_n42, v_n43, v_setR0, q_add, v_addT, f_sl3, f_sl2, q_cutc1, q_cutc2, q_cutp1, put_own, put_par, o_rt, o_nx, r_rt, r_nx, po_par, d_eqO, d_notin, v_pow18, v_mulS, v_addL, af_c, stepC, back, List.getD_cons_zero, List.getD_cons_succ, af_nx, af_ct, af_bk, af_rt, gixT, gixL, ix0, ix1, ix2, ix3, sl_t, sl_l, eq_int, eq_bool, Option.bind_some, Option.bind_none, List.map_cons, List.map_nil, List.getElem?_cons_zero, List.getElem?_cons_succ, List.set_cons_zero, List.set_cons_succ, List.length_cons, List.length_nil, List.cons_append, List.nil_append, List.replicate, ownAt, if_true, Bool.false_eq_true, if_false, Nat.reduceAdd, Nat.reduceLeDiff, Bool.true_eq_false, Bool.false_bne, Bool.true_bne, Bool.not_true, Bool.not_false, ne_eq, not_true_eq_false, not_false_eq_true, reduceCtorEq, clean_pl, List.all_cons, List.all_nil, List.contains_cons, List.contains_nil, Nat.reduceBEq, Bool.and_self, and_self, and_true, true_and, wipeR, stepP, stepS, Option.map_some, if_and, if_or, if_tan, if_tor, Int.cast_ofNat_Int, decide_true, decide_false, Bool.true_and, Bool.and_true, Bool.or_false, Bool.false_or, Bool.and_false, Bool.false_and, in_cellsT, in_cellsL, shaped_cell, shaped_cellsL, shaped_cellsT, any_cells, p18]
  rw [seq_nx hA]
  simp only [a_seq, a_skip, a_if, a_ret, a_retN, a_drop, a_never, a_break, a_cont, a_set, a_own, a_var, a_c, a_op, a_nil, a_cons, a_tup, a_lst, a_f, a_call, a_fn, a_isi, a_isi2, a_not, a_tru, a_tbl, a_tno, a_tan, a_to, a_and, a_or, a_chain, a_ifE, a_onone, a_osome, a_sl, a_ixL, a_ixV, a_lvar, a_inL, a_for, a_to2, a_as, a_rng, a_lcP, a_lc, a_lc2, a_sc, a_sortZ, a_setOf, a_xor, a_ownI, a_callL, a_mmNil, a_mmSh, a_mmOwn, a_par, a_tab, a_disp, a_vals0, a_vals1, a_goName, a_yes, a_fnP, a_fnR, a_mFnR, a_store, a_app, a_join, a_rep, k_tt, k_tl, k_ti, k_tb, k_ts, k_tn, k_ll, k_lt, k_li, k_lb, k_ls, k_ln, k_it, k_il, k_ii, k_ib, k_is, k_in, k_bt, k_bl, k_bi, k_bb, k_bs, k_bn, k_st, k_sl, k_si, k_sb, k_ss, k_sn, v_lenT, v_lenL, v_lenS, v_tupL, v_intI, v_intB, v_asL, v_asT, v_asS, v_truB, v_truL, v_add, v_sub, v_lt, v_le, v_gt, v_ge, v_mod, v_div, v_mul, v_isN, p_sh, p_no, p_own, p_par, p_plsh, p_plno, st_sh, st_no, st_own, st_par, f_ix0, f_ix1, f_ix2, f_ix3, c_ix0, c_ix1, q_ix0, q_ix1, q_ix2, q_sl, f_kt, c_kt, c_kl, q_kt, f_len, c_len, q_len, c_go, q_go, f_go, t_go, g_cons, g_nil, v_enumT, v_enumS, v_rng1, v_rngN, v_rng2, v_n40, v_n41, v_n42, v_n43, v_setR0, q_add, v_addT, f_sl3, f_sl2, q_cutc1, q_cutc2, q_cutp1, put_own, put_par, o_rt, o_nx, r_rt, r_nx, po_par, d_eqO, d_notin, v_pow18, v_mulS, v_addL, af_c, stepC, back, List.getD_cons_zero, List.getD_cons_succ, af_nx, af_ct, af_bk, af_rt, gixT, gixL, ix0, ix1, ix2, ix3, sl_t, sl_l, eq_int, eq_bool, Option.bind_some, Option.bind_none, List.map_cons, List.map_nil, List.getElem?_cons_zero, List.getElem?_cons_succ, List.set_cons_zero, List.set_cons_succ, List.length_cons, List.length_nil, List.cons_append, List.nil_append, List.replicate, ownAt, if_true, Bool.false_eq_true, if_false, Nat.reduceAdd, Nat.reduceLeDiff, Bool.true_eq_false, Bool.false_bne, Bool.true_bne, Bool.not_true, Bool.not_false, ne_eq, not_true_eq_false, not_false_eq_true, reduceCtorEq, clean_pl, List.all_cons, List.all_nil, List.contains_cons, List.contains_nil, Nat.reduceBEq, Bool.and_self, and_self, and_true, true_and, wipeR, stepP, stepS, Option.map_some, if_and, if_or, if_tan, if_tor, Int.cast_ofNat_Int, decide_true, decide_false, Bool.true_and, Bool.and_true, Bool.or_false, Bool.false_or, Bool.and_false, Bool.false_and, in_cellsT, in_cellsL, shaped_cell, shaped_cellsL, shaped_cellsT, any_cells, ht, sun_signs, lf]
  rw [loopP_map1 (h := fun d => PyData.str (dirS (turnD z d))) l (fun c hc => by
    simp only [a_seq, a_skip, a_if, a_ret, a_retN, a_drop, a_never, a_break, a_cont, a_set, a_own, a_var, a_c, a_op, a_nil, a_cons, a_tup, a_lst, a_f, a_call, a_fn, a_isi, a_isi2, a_not, a_tru, a_tbl, a_tno, a_tan, a_to, a_and, a_or, a_chain, a_ifE, a_onone, a_osome, a_sl, a_ixL, a_ixV, a_lvar, a_inL, a_for, a_to2, a_as, a_rng, a_lcP, a_lc, a_lc2, a_sc, a_sortZ, a_setOf, a_xor, a_ownI, a_callL, a_mmNil, a_mmSh, a_mmOwn, a_par, a_tab, a_disp, a_vals0, a_vals1, a_goName, a_yes, a_fnP, a_fnR, a_mFnR, a_store, a_app, a_join, a_rep, k_tt, k_tl, k_ti, k_tb, k_ts, k_tn, k_ll, k_lt, k_li, k_lb, k_ls, k_ln, k_it, k_il, k_ii, k_ib, k_is, k_in, k_bt, k_bl, k_bi, k_bb, k_bs, k_bn, k_st, k_sl, k_si, k_sb, k_ss, k_sn, v_lenT, v_lenL, v_lenS, v_tupL, v_intI, v_intB, v_asL, v_asT, v_asS, v_truB, v_truL, v_add, v_sub, v_lt, v_le, v_gt, v_ge, v_mod, v_div, v_mul, v_isN, p_sh, p_no, p_own, p_par, p_plsh, p_plno, st_sh, st_no, st_own, st_par, f_ix0, f_ix1, f_ix2, f_ix3, c_ix0, c_ix1, q_ix0, q_ix1, q_ix2, q_sl, f_kt, c_kt, c_kl, q_kt, f_len, c_len, q_len, c_go, q_go, f_go, t_go, g_cons, g_nil, v_enumT, v_enumS, v_rng1, v_rngN, v_rng2, v_n40, v_n41, v_n42, v_n43, v_setR0, q_add, v_addT, f_sl3, f_sl2, q_cutc1, q_cutc2, q_cutp1, put_own, put_par, o_rt, o_nx, r_rt, r_nx, po_par, d_eqO, d_notin, v_pow18, v_mulS, v_addL, af_c, stepC, back, List.getD_cons_zero, List.getD_cons_succ, af_nx, af_ct, af_bk, af_rt, gixT, gixL, ix0, ix1, ix2, ix3, sl_t, sl_l, eq_int, eq_bool, Option.bind_some, Option.bind_none, List.map_cons, List.map_nil, List.getElem?_cons_zero, List.getElem?_cons_succ, List.set_cons_zero, List.set_cons_succ, List.length_cons, List.length_nil, List.cons_append, List.nil_append, List.replicate, ownAt, if_true, Bool.false_eq_true, if_false, Nat.reduceAdd, Nat.reduceLeDiff, Bool.true_eq_false, Bool.false_bne, Bool.true_bne, Bool.not_true, Bool.not_false, ne_eq, not_true_eq_false, not_false_eq_true, reduceCtorEq, clean_pl, List.all_cons, List.all_nil, List.contains_cons, List.contains_nil, Nat.reduceBEq, Bool.and_self, and_self, and_true, true_and, wipeR, stepP, stepS, Option.map_some, if_and, if_or, if_tan, if_tor, Int.cast_ofNat_Int, decide_true, decide_false, Bool.true_and, Bool.and_true, Bool.or_false, Bool.false_or, Bool.and_false, Bool.false_and, in_cellsT, in_cellsL, shaped_cell, shaped_cellsL, shaped_cellsT, any_cells, a_dget, tab_look])]
  simp only [a_seq, a_skip, a_if, a_ret, a_retN, a_drop, a_never, a_break, a_cont, a_set, a_own, a_var, a_c, a_op, a_nil, a_cons, a_tup, a_lst, a_f, a_call, a_fn, a_isi, a_isi2, a_not, a_tru, a_tbl, a_tno, a_tan, a_to, a_and, a_or, a_chain, a_ifE, a_onone, a_osome, a_sl, a_ixL, a_ixV, a_lvar, a_inL, a_for, a_to2, a_as, a_rng, a_lcP, a_lc, a_lc2, a_sc, a_sortZ, a_setOf, a_xor, a_ownI, a_callL, a_mmNil, a_mmSh, a_mmOwn, a_par, a_tab, a_disp, a_vals0, a_vals1, a_goName, a_yes, a_fnP, a_fnR, a_mFnR, a_store, a_app, a_join, a_rep, k_tt, k_tl, k_ti, k_tb, k_ts, k_tn, k_ll, k_lt, k_li, k_lb, k_ls, k_ln, k_it, k_il, k_ii, k_ib, k_is, k_in, k_bt, k_bl, k_bi, k_bb, k_bs, k_bn, k_st, k_sl, k_si, k_sb, k_ss, k_sn, v_lenT, v_lenL, v_lenS, v_tupL, v_intI, v_intB, v_asL, v_asT, v_asS, v_truB, v_truL, v_add, v_sub, v_lt, v_le, v_gt, v_ge, v_mod, v_div, v_mul, v_isN, p_sh, p_no, p_own, p_par, p_plsh, p_plno, st_sh, st_no, st_own, st_par, f_ix0, f_ix1, f_ix2, f_ix3, c_ix0, c_ix1, q_ix0, q_ix1, q_ix2, q_sl, f_kt, c_kt, c_kl, q_kt, f_len, c_len, q_len, c_go, q_go, f_go, t_go, g_cons, g_nil, v_enumT, v_enumS, v_rng1, v_rngN, v_rng2, v_n40, v_n41, v_n42, v_n43, v_setR0, q_add, v_addT, f_sl3, f_sl2, q_cutc1, q_cutc2, q_cutp1, put_own, put_par, o_rt, o_nx, r_rt, r_nx, po_par, d_eqO, d_notin, v_pow18, v_mulS, v_addL, af_c, stepC, back, List.getD_cons_zero, List.getD_cons_succ, af_nx, af_ct, af_bk, af_rt, gixT, gixL, ix0, ix1, ix2, ix3, sl_t, sl_l, eq_int, eq_bool, Option.bind_some, Option.bind_none, List.map_cons, List.map_nil, List.getElem?_cons_zero, List.getElem?_cons_succ, List.set_cons_zero, List.set_cons_succ, List.length_cons, List.length_nil, List.cons_append, List.nil_append, List.replicate, ownAt, if_true, Bool.false_eq_true, if_false, Nat.reduceAdd, Nat.reduceLeDiff, Bool.true_eq_false, Bool.false_bne, Bool.true_bne, Bool.not_true, Bool.not_false, ne_eq, not_true_eq_false, not_false_eq_true, reduceCtorEq, clean_pl, List.all_cons, List.all_nil, List.contains_cons, List.contains_nil, Nat.reduceBEq, Bool.and_self, and_self, and_true, true_and, wipeR, stepP, stepS, Option.map_some, if_and, if_or, if_tan, if_tor, Int.cast_ofNat_Int, decide_true, decide_false, Bool.true_and, Bool.and_true, Bool.or_false, Bool.false_or, Bool.and_false, Bool.false_and, in_cellsT, in_cellsL, shaped_cell, shaped_cellsL, shaped_cellsT, any_cells, a_sortL, dirs_map, txts_dirs, hs, sun_join, es, p19, few2, p16]
  rw [loopP_map1 (h := fun c => cellD (turnC z F.cols c)) (shadeOf F d) (fun c hc => by
    cases z with
    | true =>
      simp only [a_seq, a_skip, a_if, a_ret, a_retN, a_drop, a_never, a_break, a_cont, a_set, a_own, a_var, a_c, a_op, a_nil, a_cons, a_tup, a_lst, a_f, a_call, a_fn, a_isi, a_isi2, a_not, a_tru, a_tbl, a_tno, a_tan, a_to, a_and, a_or, a_chain, a_ifE, a_onone, a_osome, a_sl, a_ixL, a_ixV, a_lvar, a_inL, a_for, a_to2, a_as, a_rng, a_lcP, a_lc, a_lc2, a_sc, a_sortZ, a_setOf, a_xor, a_ownI, a_callL, a_mmNil, a_mmSh, a_mmOwn, a_par, a_tab, a_disp, a_vals0, a_vals1, a_goName, a_yes, a_fnP, a_fnR, a_mFnR, a_store, a_app, a_join, a_rep, k_tt, k_tl, k_ti, k_tb, k_ts, k_tn, k_ll, k_lt, k_li, k_lb, k_ls, k_ln, k_it, k_il, k_ii, k_ib, k_is, k_in, k_bt, k_bl, k_bi, k_bb, k_bs, k_bn, k_st, k_sl, k_si, k_sb, k_ss, k_sn, v_lenT, v_lenL, v_lenS, v_tupL, v_intI, v_intB, v_asL, v_asT, v_asS, v_truB, v_truL, v_add, v_sub, v_lt, v_le, v_gt, v_ge, v_mod, v_div, v_mul, v_isN, p_sh, p_no, p_own, p_par, p_plsh, p_plno, st_sh, st_no, st_own, st_par, f_ix0, f_ix1, f_ix2, f_ix3, c_ix0, c_ix1, q_ix0, q_ix1, q_ix2, q_sl, f_kt, c_kt, c_kl, q_kt, f_len, c_len, q_len, c_go, q_go, f_go, t_go, g_cons, g_nil, v_enumT, v_enumS, v_rng1, v_rngN, v_rng2, v_n40, v_n41, v_n42, v_n43, v_setR0, q_add, v_addT, f_sl3, f_sl2, q_cutc1, q_cutc2, q_cutp1, put_own, put_par, o_rt, o_nx, r_rt, r_nx, po_par, d_eqO, d_notin, v_pow18, v_mulS, v_addL, af_c, stepC, back, List.getD_cons_zero, List.getD_cons_succ, af_nx, af_ct, af_bk, af_rt, gixT, gixL, ix0, ix1, ix2, ix3, sl_t, sl_l, eq_int, eq_bool, Option.bind_some, Option.bind_none, List.map_cons, List.map_nil, List.getElem?_cons_zero, List.getElem?_cons_succ, List.set_cons_zero, List.set_cons_succ, List.length_cons, List.length_nil, List.cons_append, List.nil_append, List.replicate, ownAt, if_true, Bool.false_eq_true, if_false, Nat.reduceAdd, Nat.reduceLeDiff, Bool.true_eq_false, Bool.false_bne, Bool.true_bne, Bool.not_true, Bool.not_false, ne_eq, not_true_eq_false, not_false_eq_true, reduceCtorEq, clean_pl, List.all_cons, List.all_nil, List.contains_cons, List.contains_nil, Nat.reduceBEq, Bool.and_self, and_self, and_true, true_and, wipeR, stepP, stepS, Option.map_some, if_and, if_or, if_tan, if_tor, Int.cast_ofNat_Int, decide_true, decide_false, Bool.true_and, Bool.and_true, Bool.or_false, Bool.false_or, Bool.and_false, Bool.false_and, in_cellsT, in_cellsL, shaped_cell, shaped_cellsL, shaped_cellsT, any_cells, show wayI true = 0 from rfl, p16']
      rfl
    | false =>
      simp only [a_seq, a_skip, a_if, a_ret, a_retN, a_drop, a_never, a_break, a_cont, a_set, a_own, a_var, a_c, a_op, a_nil, a_cons, a_tup, a_lst, a_f, a_call, a_fn, a_isi, a_isi2, a_not, a_tru, a_tbl, a_tno, a_tan, a_to, a_and, a_or, a_chain, a_ifE, a_onone, a_osome, a_sl, a_ixL, a_ixV, a_lvar, a_inL, a_for, a_to2, a_as, a_rng, a_lcP, a_lc, a_lc2, a_sc, a_sortZ, a_setOf, a_xor, a_ownI, a_callL, a_mmNil, a_mmSh, a_mmOwn, a_par, a_tab, a_disp, a_vals0, a_vals1, a_goName, a_yes, a_fnP, a_fnR, a_mFnR, a_store, a_app, a_join, a_rep, k_tt, k_tl, k_ti, k_tb, k_ts, k_tn, k_ll, k_lt, k_li, k_lb, k_ls, k_ln, k_it, k_il, k_ii, k_ib, k_is, k_in, k_bt, k_bl, k_bi, k_bb, k_bs, k_bn, k_st, k_sl, k_si, k_sb, k_ss, k_sn, v_lenT, v_lenL, v_lenS, v_tupL, v_intI, v_intB, v_asL, v_asT, v_asS, v_truB, v_truL, v_add, v_sub, v_lt, v_le, v_gt, v_ge, v_mod, v_div, v_mul, v_isN, p_sh, p_no, p_own, p_par, p_plsh, p_plno, st_sh, st_no, st_own, st_par, f_ix0, f_ix1, f_ix2, f_ix3, c_ix0, c_ix1, q_ix0, q_ix1, q_ix2, q_sl, f_kt, c_kt, c_kl, q_kt, f_len, c_len, q_len, c_go, q_go, f_go, t_go, g_cons, g_nil, v_enumT, v_enumS, v_rng1, v_rngN, v_rng2, v_n40, v_n41, v_n42, v_n43, v_setR0, q_add, v_addT, f_sl3, f_sl2, q_cutc1, q_cutc2, q_cutp1, put_own, put_par, o_rt, o_nx, r_rt, r_nx, po_par, d_eqO, d_notin, v_pow18, v_mulS, v_addL, af_c, stepC, back, List.getD_cons_zero, List.getD_cons_succ, af_nx, af_ct, af_bk, af_rt, gixT, gixL, ix0, ix1, ix2, ix3, sl_t, sl_l, eq_int, eq_bool, Option.bind_some, Option.bind_none, List.map_cons, List.map_nil, List.getElem?_cons_zero, List.getElem?_cons_succ, List.set_cons_zero, List.set_cons_succ, List.length_cons, List.length_nil, List.cons_append, List.nil_append, List.replicate, ownAt, if_true, Bool.false_eq_true, if_false, Nat.reduceAdd, Nat.reduceLeDiff, Bool.true_eq_false, Bool.false_bne, Bool.true_bne, Bool.not_true, Bool.not_false, ne_eq, not_true_eq_false, not_false_eq_true, reduceCtorEq, clean_pl, List.all_cons, List.all_nil, List.contains_cons, List.contains_nil, Nat.reduceBEq, Bool.and_self, and_self, and_true, true_and, wipeR, stepP, stepS, Option.map_some, if_and, if_or, if_tan, if_tor, Int.cast_ofNat_Int, decide_true, decide_false, Bool.true_and, Bool.and_true, Bool.or_false, Bool.false_or, Bool.and_false, Bool.false_and, in_cellsT, in_cellsL, shaped_cell, shaped_cellsL, shaped_cellsT, any_cells, show wayI false = 1 from rfl, show decide ((1 : Int) = 0) = false from rfl, p16']
      rfl)]
  simp only [a_seq, a_skip, a_if, a_ret, a_retN, a_drop, a_never, a_break, a_cont, a_set, a_own, a_var, a_c, a_op, a_nil, a_cons, a_tup, a_lst, a_f, a_call, a_fn, a_isi, a_isi2, a_not, a_tru, a_tbl, a_tno, a_tan, a_to, a_and, a_or, a_chain, a_ifE, a_onone, a_osome, a_sl, a_ixL, a_ixV, a_lvar, a_inL, a_for, a_to2, a_as, a_rng, a_lcP, a_lc, a_lc2, a_sc, a_sortZ, a_setOf, a_xor, a_ownI, a_callL, a_mmNil, a_mmSh, a_mmOwn, a_par, a_tab, a_disp, a_vals0, a_vals1, a_goName, a_yes, a_fnP, a_fnR, a_mFnR, a_store, a_app, a_join, a_rep, k_tt, k_tl, k_ti, k_tb, k_ts, k_tn, k_ll, k_lt, k_li, k_lb, k_ls, k_ln, k_it, k_il, k_ii, k_ib, k_is, k_in, k_bt, k_bl, k_bi, k_bb, k_bs, k_bn, k_st, k_sl, k_si, k_sb, k_ss, k_sn, v_lenT, v_lenL, v_lenS, v_tupL, v_intI, v_intB, v_asL, v_asT, v_asS, v_truB, v_truL, v_add, v_sub, v_lt, v_le, v_gt, v_ge, v_mod, v_div, v_mul, v_isN, p_sh, p_no, p_own, p_par, p_plsh, p_plno, st_sh, st_no, st_own, st_par, f_ix0, f_ix1, f_ix2, f_ix3, c_ix0, c_ix1, q_ix0, q_ix1, q_ix2, q_sl, f_kt, c_kt, c_kl, q_kt, f_len, c_len, q_len, c_go, q_go, f_go, t_go, g_cons, g_nil, v_enumT, v_enumS, v_rng1, v_rngN, v_rng2, v_n40, v_n41, v_n42, v_n43, v_setR0, q_add, v_addT, f_sl3, f_sl2, q_cutc1, q_cutc2, q_cutp1, put_own, put_par, o_rt, o_nx, r_rt, r_nx, po_par, d_eqO, d_notin, v_pow18, v_mulS, v_addL, af_c, stepC, back, List.getD_cons_zero, List.getD_cons_succ, af_nx, af_ct, af_bk, af_rt, gixT, gixL, ix0, ix1, ix2, ix3, sl_t, sl_l, eq_int, eq_bool, Option.bind_some, Option.bind_none, List.map_cons, List.map_nil, List.getElem?_cons_zero, List.getElem?_cons_succ, List.set_cons_zero, List.set_cons_succ, List.length_cons, List.length_nil, List.cons_append, List.nil_append, List.replicate, ownAt, if_true, Bool.false_eq_true, if_false, Nat.reduceAdd, Nat.reduceLeDiff, Bool.true_eq_false, Bool.false_bne, Bool.true_bne, Bool.not_true, Bool.not_false, ne_eq, not_true_eq_false, not_false_eq_true, reduceCtorEq, clean_pl, List.all_cons, List.all_nil, List.contains_cons, List.contains_nil, Nat.reduceBEq, Bool.and_self, and_self, and_true, true_and, wipeR, stepP, stepS, Option.map_some, if_and, if_or, if_tan, if_tor, Int.cast_ofNat_Int, decide_true, decide_false, Bool.true_and, Bool.and_true, Bool.or_false, Bool.false_or, Bool.and_false, Bool.false_and, in_cellsT, in_cellsL, shaped_cell, shaped_cellsL, shaped_cellsT, any_cells, a_sortL, map_cells, untups_cells, List.length_map, few, turn_all z O, msort_turn z O, tupD_cells, ee]
theorem tM (O : F.Ok) (l1 : l ≠ []) (l2 : l.length ≤ 6) {b : Int} (h3 : 0 ≤ b) (h4 : b ≤ 1000000000000000000) {d : Dir} (hd : l[(b % l.length).toNat]? = some d) (p16 : pl s16 = true) (p17 : isPar s17 = false) (p18 : isPar s18 = false) (p19 : isPar s19 = false) :
    ∃ u17 u18 u19, (mFor (mRng fRng1 (mCons (mC (.int 2)) mNil)) (goName 17) (mSeq (mDct 18 (mDz (mC (.str "ensow")) (mOp gIx (mF (mLst (mCons (mC (.str "wnsoe")) (mCons (mC (.str "sweon")) mNil)))) (mVar 17)))) (mSeq (mSet 19 (mFn f_shade (mCons (mFn f__law_turned (mCons (mVar 3) (mCons (mVar 17) mNil))) (mCons (mJoin (mC (.str "")) (mF (mLcP [21] [] (mAs asS (mVar 4)) (goName 21) tYesM (mDget 18 (mVar 21))))) (mCons (mVar 5) mNil))))) (mSeq (mIf (tBl (mOp (gEq true) (mVar 19) (mSortL (mF (mLcP [22, 16] [] (mAs asL (mVar 10)) (goTup 2 (goCons (goName 22) (goCons (goName 16) goNil))) tYesM (mIfE (tBl (mOp (gEq false) (mVar 17) (mC (.int 0)))) (mTup (mCons (mVar 22) (mCons (mOp gMinus (mOp gMinus (mVar 7) (mC (.int 1))) (mVar 16)) mNil))) (mTup (mCons (mVar 16) (mCons (mVar 22) mNil))))))))) (mSeq (mRet (mC (.bool false))) mSkip) mSkip) mSkip)))) [s0, s1, s2, .sh (flD F), .sh (.str (sunS l)), .sh (.int b), s6, .sh (.int F.cols), s8, s9, .sh (.list ((shadeOf F d).map cellD)), s11, s12, s13, s14, s15, s16, s17, s18, s19, s20, .no, .no] =
      some (.nx [s0, s1, s2, .sh (flD F), .sh (.str (sunS l)), .sh (.int b), s6, .sh (.int F.cols), s8, s9, .sh (.list ((shadeOf F d).map cellD)), s11, s12, s13, s14, s15, s16, u17, u18, u19, s20, .no, .no]) ∧ isPar u17 = false ∧ isPar u18 = false ∧ isPar u19 = false := by
  have hr := v_rngN (n := 2) (by omega)
  have hr : fRng1 [.int 2] = some (rngD 0 2) := hr
  rw [a_for]
  simp only [a_rng, a_cons, a_nil, a_c, Option.bind_some, hr, rngD_map]
  generalize hL : loopS _ _ _ _ = L
  obtain ⟨ρ1, rfl, u17, u18, u19, rfl, q17, q18, q19⟩ := doneI hL (fun done ρ => ∃ u17 u18 u19, ρ = [s0, s1, s2, .sh (flD F), .sh (.str (sunS l)), .sh (.int b), s6, .sh (.int F.cols), s8, s9, .sh (.list ((shadeOf F d).map cellD)), s11, s12, s13, s14, s15, s16, u17, u18, u19, s20, .no, .no] ∧ isPar u17 = false ∧ isPar u18 = false ∧ isPar u19 = false)
    ⟨s17, s18, s19, rfl, p17, p18, p19⟩ (fun done k rest ρ hq ⟨u17, u18, u19, e, q17, q18, q19⟩ => by
      subst e
      have hk : k < 2 := by
        have : k ∈ List.range 2 := by rw [hq]; simp
        exact List.mem_range.mp this
      have ez : (0 : Int) + (k : Int) = wayI (decide (k = 0)) := by
        have : k = 0 ∨ k = 1 := by omega
        rcases this with rfl | rfl <;> rfl
      have h0 : goName 17 (.int (0 + (k : Int))) [s0, s1, s2, .sh (flD F), .sh (.str (sunS l)), .sh (.int b), s6, .sh (.int F.cols), s8, s9, .sh (.list ((shadeOf F d).map cellD)), s11, s12, s13, s14, s15, s16, u17, u18, u19, s20, .no, .no] = some [s0, s1, s2, .sh (flD F), .sh (.str (sunS l)), .sh (.int b), s6, .sh (.int F.cols), s8, s9, .sh (.list ((shadeOf F d).map cellD)), s11, s12, s13, s14, s15, s16, .sh (.int (wayI (decide (k = 0)))), u18, u19, s20, .no, .no] := by
        rw [ez]
        simp only [a_seq, a_skip, a_if, a_ret, a_retN, a_drop, a_never, a_break, a_cont, a_set, a_own, a_var, a_c, a_op, a_nil, a_cons, a_tup, a_lst, a_f, a_call, a_fn, a_isi, a_isi2, a_not, a_tru, a_tbl, a_tno, a_tan, a_to, a_and, a_or, a_chain, a_ifE, a_onone, a_osome, a_sl, a_ixL, a_ixV, a_lvar, a_inL, a_for, a_to2, a_as, a_rng, a_lcP, a_lc, a_lc2, a_sc, a_sortZ, a_setOf, a_xor, a_ownI, a_callL, a_mmNil, a_mmSh, a_mmOwn, a_par, a_tab, a_disp, a_vals0, a_vals1, a_goName, a_yes, a_fnP, a_fnR, a_mFnR, a_store, a_app, a_join, a_rep, k_tt, k_tl, k_ti, k_tb, k_ts, k_tn, k_ll, k_lt, k_li, k_lb, k_ls, k_ln, k_it, k_il, k_ii, k_ib, k_is, k_in, k_bt, k_bl, k_bi, k_bb, k_bs, k_bn, k_st, k_sl, k_si, k_sb, k_ss, k_sn, v_lenT, v_lenL, v_lenS, v_tupL, v_intI, v_intB, v_asL, v_asT, v_asS, v_truB, v_truL, v_add, v_sub, v_lt, v_le, v_gt, v_ge, v_mod, v_div, v_mul, v_isN, p_sh, p_no, p_own, p_par, p_plsh, p_plno, st_sh, st_no, st_own, st_par, f_ix0, f_ix1, f_ix2, f_ix3, c_ix0, c_ix1, q_ix0, q_ix1, q_ix2, q_sl, f_kt, c_kt, c_kl, q_kt, f_len, c_len, q_len, c_go, q_go, f_go, t_go, g_cons, g_nil, v_enumT, v_enumS, v_rng1, v_rngN, v_rng2, v_n40, v_n41, v_n42, v_n43, v_setR0, q_add, v_addT, f_sl3, f_sl2, q_cutc1, q_cutc2, q_cutp1, put_own, put_par, o_rt, o_nx, r_rt, r_nx, po_par, d_eqO, d_notin, v_pow18, v_mulS, v_addL, af_c, stepC, back, List.getD_cons_zero, List.getD_cons_succ, af_nx, af_ct, af_bk, af_rt, gixT, gixL, ix0, ix1, ix2, ix3, sl_t, sl_l, eq_int, eq_bool, Option.bind_some, Option.bind_none, List.map_cons, List.map_nil, List.getElem?_cons_zero, List.getElem?_cons_succ, List.set_cons_zero, List.set_cons_succ, List.length_cons, List.length_nil, List.cons_append, List.nil_append, List.replicate, ownAt, if_true, Bool.false_eq_true, if_false, Nat.reduceAdd, Nat.reduceLeDiff, Bool.true_eq_false, Bool.false_bne, Bool.true_bne, Bool.not_true, Bool.not_false, ne_eq, not_true_eq_false, not_false_eq_true, reduceCtorEq, clean_pl, List.all_cons, List.all_nil, List.contains_cons, List.contains_nil, Nat.reduceBEq, Bool.and_self, and_self, and_true, true_and, wipeR, stepP, stepS, Option.map_some, if_and, if_or, if_tan, if_tor, Int.cast_ofNat_Int, decide_true, decide_false, Bool.true_and, Bool.and_true, Bool.or_false, Bool.false_or, Bool.and_false, Bool.false_and, in_cellsT, in_cellsL, shaped_cell, shaped_cellsL, shaped_cellsT, any_cells, q17]
      unfold stepS
      rw [h0, Option.bind_some, tM1 O (decide (k = 0)) l1 l2 h3 h4 hd p16 q18 q19]
      exact ⟨_, _, _, rfl, rfl, rfl, rfl⟩)
  exact ⟨u17, u18, u19, rfl, q17, q18, q19⟩
end
end Pr

set_option Elab.async false
set_option linter.all false
set_option maxRecDepth 100000
set_option maxHeartbeats 1000000
namespace Pr
open PySem PySem.Spec L2 Fn Mx
section
variable {s0 s1 s2 s3 s4 s5 s6 s7 s8 s9 s10 s11 s12 s13 s14 s15 s16 s17 s18 s19 s20 s21 s22 : Slot} {rs : List PyData}
theorem law_turn (r : RowOk rs) (k : Int) (p2 : isPar s2 = false) (p3 : isPar s3 = false) (p4 : isPar s4 = false) (p5 : isPar s5 = false) (p6 : isPar s6 = false) (p7 : isPar s7 = false) (p8 : isPar s8 = false) (p9 : isPar s9 = false) (p10 : isPar s10 = false) (p11 : isPar s11 = false) (p12 : isPar s12 = false) (p13 : isPar s13 = false) (p14 : isPar s14 = false) (p15 : isPar s15 = false) (p16 : isPar s16 = false) (p17 : isPar s17 = false) (p18 : isPar s18 = false) (p19 : isPar s19 = false) (pp : pl s16 = true) :
    ∃ rs' u2 u3 u4 u5 u6 u7 u8 u9 u10 u11 u12 u13 u14 u15 u16 u17 u18 u19, stepS (goName 2) (mSeq (mPar [3, 4, 5] (mmSh (mFnR f__law_floor 1 (mCons (mC (.int 5)) mNil)) (mmSh (mFnR f__law_sun 1 mNil) (mmSh (mFnR f__law_taken 1 (mCons (mOp gIx (mF (mLst (mCons (mC (.int 9)) (mCons (mOp gPow (mC (.int 10)) (mC (.int 18))) mNil)))) (mFnR f__law_taken 1 (mCons (mC (.int 2)) mNil))) mNil)) mmNil)))) (mSeq (mTo (mVar 3) (goTup 4 (goCons (goName 6) (goCons (goName 7) (goCons (goName 8) (goCons (goName 9) goNil)))))) (mSeq (mPar [10, 11] (mmSh (mFn f_shade (mCons (mVar 3) (mCons (mVar 4) (mCons (mVar 5) mNil)))) (mmSh (mF (mLst mNil)) mmNil))) (mSeq (mFor (mAs asT (mVar 8)) (goName 12) (mSeq (mSet 11 (mOp gAdd (mVar 11) (mFn f_shade (mCons (mTup (mCons (mVar 6) (mCons (mVar 7) (mCons (mTup (mCons (mVar 12) mNil)) (mCons (mTup mNil) mNil))))) (mCons (mVar 4) (mCons (mVar 5) mNil)))))) mSkip)) (mSeq (mFor (mAs asT (mVar 9)) (goName 12) (mSeq (mSet 11 (mOp gAdd (mVar 11) (mFn f_shade (mCons (mTup (mCons (mVar 6) (mCons (mVar 7) (mCons (mTup mNil) (mCons (mTup (mCons (mVar 12) mNil)) mNil))))) (mCons (mVar 4) (mCons (mVar 5) mNil)))))) mSkip)) (mSeq (mIf (tBl (mOp (gEq true) (mVar 10) (mSortZ (mSetOf (mVar 11))))) (mSeq (mRet (mC (.bool false))) mSkip) mSkip) (mSeq (mSet 13 (mFnR f__law_taken 1 (mCons (mOp gAdd (mCall fLen (mCons (mVar 9) mNil)) (mC (.int 1))) mNil))) (mSeq (mSet 14 (mTup (mCons (mVar 6) (mCons (mVar 7) (mCons (mSl (mVar 8) oNone (oSome (mC (.int 1)))) (mCons (mSl (mVar 9) oNone (oSome (mVar 13))) mNil)))))) (mSeq (mSet 15 (mF (mLst mNil))) (mSeq (mFor (mRng fRng1 (mCons (mCall fLen (mCons (mVar 4) mNil)) mNil)) (goName 16) (mSeq (mSet 15 (mOp gAdd (mVar 15) (mF (mLcP [20] [] (mAs asL (mFn f_shade (mCons (mVar 3) (mCons (mVar 4) (mCons (mVar 16) mNil))))) (goName 20) (tBl (mOp (gIn true) (mVar 20) (mFn f_shade (mCons (mVar 14) (mCons (mVar 4) (mCons (mVar 16) mNil)))))) (mTup (mCons (mVar 16) (mCons (mVar 20) mNil))))))) mSkip)) (mSeq (mIf (tO (tBl (mOp (gEq true) (mFn f_parted (mCons (mVar 3) (mCons (mVar 14) (mCons (mVar 4) mNil)))) (mOp gIx (mOp gAdd (mVar 15) (mF (mLst (mCons (mC .none) mNil)))) (mC (.int 0))))) (tBl (mOp (gEq true) (mFn f_parted (mCons (mVar 14) (mCons (mVar 3) (mCons (mVar 4) mNil)))) (mOp gIx (mOp gAdd (mVar 15) (mF (mLst (mCons (mC .none) mNil)))) (mC (.int 0)))))) (mSeq (mRet (mC (.bool false))) mSkip) mSkip) (mSeq (mIf (tBl (mOp (gIs true) (mFn f_parted (mCons (mVar 3) (mCons (mVar 3) (mCons (mVar 4) mNil)))) (mC .none))) (mSeq (mRet (mC (.bool false))) mSkip) mSkip) (mSeq (mFor (mRng fRng1 (mCons (mC (.int 2)) mNil)) (goName 17) (mSeq (mDct 18 (mDz (mC (.str "ensow")) (mOp gIx (mF (mLst (mCons (mC (.str "wnsoe")) (mCons (mC (.str "sweon")) mNil)))) (mVar 17)))) (mSeq (mSet 19 (mFn f_shade (mCons (mFn f__law_turned (mCons (mVar 3) (mCons (mVar 17) mNil))) (mCons (mJoin (mC (.str "")) (mF (mLcP [21] [] (mAs asS (mVar 4)) (goName 21) tYesM (mDget 18 (mVar 21))))) (mCons (mVar 5) mNil))))) (mSeq (mIf (tBl (mOp (gEq true) (mVar 19) (mSortL (mF (mLcP [22, 16] [] (mAs asL (mVar 10)) (goTup 2 (goCons (goName 22) (goCons (goName 16) goNil))) tYesM (mIfE (tBl (mOp (gEq false) (mVar 17) (mC (.int 0)))) (mTup (mCons (mVar 22) (mCons (mOp gMinus (mOp gMinus (mVar 7) (mC (.int 1))) (mVar 16)) mNil))) (mTup (mCons (mVar 16) (mCons (mVar 22) mNil))))))))) (mSeq (mRet (mC (.bool false))) mSkip) mSkip) mSkip)))) mSkip))))))))))))) (.int k) [s0, .own rs, s2, s3, s4, s5, s6, s7, s8, s9, s10, s11, s12, s13, s14, s15, s16, s17, s18, s19, .no, .no, .no] = some (.nx [s0, .own rs', u2, u3, u4, u5, u6, u7, u8, u9, u10, u11, u12, u13, u14, u15, u16, u17, u18, u19, .no, .no, .no]) ∧ RowOk rs' ∧ isPar u2 = false ∧ isPar u3 = false ∧ isPar u4 = false ∧ isPar u5 = false ∧ isPar u6 = false ∧ isPar u7 = false ∧ isPar u8 = false ∧ isPar u9 = false ∧ isPar u10 = false ∧ isPar u11 = false ∧ isPar u12 = false ∧ isPar u13 = false ∧ isPar u14 = false ∧ isPar u15 = false ∧ isPar u16 = false ∧ isPar u17 = false ∧ isPar u18 = false ∧ isPar u19 = false ∧ pl u16 = true := by
  have h0 : goName 2 (.int k) [s0, .own rs, s2, s3, s4, s5, s6, s7, s8, s9, s10, s11, s12, s13, s14, s15, s16, s17, s18, s19, .no, .no, .no] = some [s0, .own rs, .sh (.int k), s3, s4, s5, s6, s7, s8, s9, s10, s11, s12, s13, s14, s15, s16, s17, s18, s19, .no, .no, .no] := by
    simp only [a_seq, a_skip, a_if, a_ret, a_retN, a_drop, a_never, a_break, a_cont, a_set, a_own, a_var, a_c, a_op, a_nil, a_cons, a_tup, a_lst, a_f, a_call, a_fn, a_isi, a_isi2, a_not, a_tru, a_tbl, a_tno, a_tan, a_to, a_and, a_or, a_chain, a_ifE, a_onone, a_osome, a_sl, a_ixL, a_ixV, a_lvar, a_inL, a_for, a_to2, a_as, a_rng, a_lcP, a_lc, a_lc2, a_sc, a_sortZ, a_setOf, a_xor, a_ownI, a_callL, a_mmNil, a_mmSh, a_mmOwn, a_par, a_tab, a_disp, a_vals0, a_vals1, a_goName, a_yes, a_fnP, a_fnR, a_mFnR, a_store, a_app, a_join, a_rep, k_tt, k_tl, k_ti, k_tb, k_ts, k_tn, k_ll, k_lt, k_li, k_lb, k_ls, k_ln, k_it, k_il, k_ii, k_ib, k_is, k_in, k_bt, k_bl, k_bi, k_bb, k_bs, k_bn, k_st, k_sl, k_si, k_sb, k_ss, k_sn, v_lenT, v_lenL, v_lenS, v_tupL, v_intI, v_intB, v_asL, v_asT, v_asS, v_truB, v_truL, v_add, v_sub, v_lt, v_le, v_gt, v_ge, v_mod, v_div, v_mul, v_isN, p_sh, p_no, p_own, p_par, p_plsh, p_plno, st_sh, st_no, st_own, st_par, f_ix0, f_ix1, f_ix2, f_ix3, c_ix0, c_ix1, q_ix0, q_ix1, q_ix2, q_sl, f_kt, c_kt, c_kl, q_kt, f_len, c_len, q_len, c_go, q_go, f_go, t_go, g_cons, g_nil, v_enumT, v_enumS, v_rng1, v_rngN, v_rng2, v_n40, v_n41, v_n42, v_n43, v_setR0, q_add, v_addT, f_sl3, f_sl2, q_cutc1, q_cutc2, q_cutp1, put_own, put_par, o_rt, o_nx, r_rt, r_nx, po_par, d_eqO, d_notin, v_pow18, v_mulS, v_addL, af_c, stepC, back, List.getD_cons_zero, List.getD_cons_succ, af_nx, af_ct, af_bk, af_rt, gixT, gixL, ix0, ix1, ix2, ix3, sl_t, sl_l, eq_int, eq_bool, Option.bind_some, Option.bind_none, List.map_cons, List.map_nil, List.getElem?_cons_zero, List.getElem?_cons_succ, List.set_cons_zero, List.set_cons_succ, List.length_cons, List.length_nil, List.cons_append, List.nil_append, List.replicate, ownAt, if_true, Bool.false_eq_true, if_false, Nat.reduceAdd, Nat.reduceLeDiff, Bool.true_eq_false, Bool.false_bne, Bool.true_bne, Bool.not_true, Bool.not_false, ne_eq, not_true_eq_false, not_false_eq_true, reduceCtorEq, clean_pl, List.all_cons, List.all_nil, List.contains_cons, List.contains_nil, Nat.reduceBEq, Bool.and_self, and_self, and_true, true_and, wipeR, stepP, stepS, Option.map_some, if_and, if_or, if_tan, if_tor, Int.cast_ofNat_Int, decide_true, decide_false, Bool.true_and, Bool.and_true, Bool.or_false, Bool.false_or, Bool.and_false, Bool.false_and, in_cellsT, in_cellsL, shaped_cell, shaped_cellsL, shaped_cellsT, any_cells, p2]
  have hA0 : ∃ (F : Fl) (l : List Dir) (b : Int) (rs1 : List PyData), (mPar [3, 4, 5] (mmSh (mFnR f__law_floor 1 (mCons (mC (.int 5)) mNil)) (mmSh (mFnR f__law_sun 1 mNil) (mmSh (mFnR f__law_taken 1 (mCons (mOp gIx (mF (mLst (mCons (mC (.int 9)) (mCons (mOp gPow (mC (.int 10)) (mC (.int 18))) mNil)))) (mFnR f__law_taken 1 (mCons (mC (.int 2)) mNil))) mNil)) mmNil)))) [s0, .own rs, .sh (.int k), s3, s4, s5, s6, s7, s8, s9, s10, s11, s12, s13, s14, s15, s16, s17, s18, s19, .no, .no, .no] = some (.nx [s0, .own rs1, .sh (.int k), .sh (flD F), .sh (.str (sunS l)), .sh (.int b), s6, s7, s8, s9, s10, s11, s12, s13, s14, s15, s16, s17, s18, s19, .no, .no, .no]) ∧ RowOk rs1 ∧ F.Ok ∧ l ≠ [] ∧ l.length ≤ 6 ∧ 0 ≤ b ∧ b ≤ 1000000000000000000 := tA r p3 p4 p5
  obtain ⟨F, l, b, rs1, hA, r1, O, l1, l2, h3, h4⟩ := hA0
  obtain ⟨d, hd⟩ := shaded_mem O l1 l2 h3
  have hB : (mTo (mVar 3) (goTup 4 (goCons (goName 6) (goCons (goName 7) (goCons (goName 8) (goCons (goName 9) goNil)))))) [s0, .own rs1, .sh (.int k), .sh (flD F), .sh (.str (sunS l)), .sh (.int b), s6, s7, s8, s9, s10, s11, s12, s13, s14, s15, s16, s17, s18, s19, .no, .no, .no] = some (.nx [s0, .own rs1, .sh (.int k), .sh (flD F), .sh (.str (sunS l)), .sh (.int b), .sh (.int F.rows), .sh (.int F.cols), .sh (.tuple (F.posts.map postD)), .sh (.tuple (F.aw.map cellD)), s10, s11, s12, s13, s14, s15, s16, s17, s18, s19, .no, .no, .no]) := tB p6 p7 p8 p9
  have hC : (mPar [10, 11] (mmSh (mFn f_shade (mCons (mVar 3) (mCons (mVar 4) (mCons (mVar 5) mNil)))) (mmSh (mF (mLst mNil)) mmNil))) [s0, .own rs1, .sh (.int k), .sh (flD F), .sh (.str (sunS l)), .sh (.int b), .sh (.int F.rows), .sh (.int F.cols), .sh (.tuple (F.posts.map postD)), .sh (.tuple (F.aw.map cellD)), s10, s11, s12, s13, s14, s15, s16, s17, s18, s19, .no, .no, .no] = some (.nx [s0, .own rs1, .sh (.int k), .sh (flD F), .sh (.str (sunS l)), .sh (.int b), .sh (.int F.rows), .sh (.int F.cols), .sh (.tuple (F.posts.map postD)), .sh (.tuple (F.aw.map cellD)), .sh (.list ((shadeOf F d).map cellD)), .sh (.list []), s12, s13, s14, s15, s16, s17, s18, s19, .no, .no, .no]) := tC O l1 l2 h3 h4 hd p10 p11
  have hD0 : ∃ (u12 : Slot), (mFor (mAs asT (mVar 8)) (goName 12) (mSeq (mSet 11 (mOp gAdd (mVar 11) (mFn f_shade (mCons (mTup (mCons (mVar 6) (mCons (mVar 7) (mCons (mTup (mCons (mVar 12) mNil)) (mCons (mTup mNil) mNil))))) (mCons (mVar 4) (mCons (mVar 5) mNil)))))) mSkip)) [s0, .own rs1, .sh (.int k), .sh (flD F), .sh (.str (sunS l)), .sh (.int b), .sh (.int F.rows), .sh (.int F.cols), .sh (.tuple (F.posts.map postD)), .sh (.tuple (F.aw.map cellD)), .sh (.list ((shadeOf F d).map cellD)), .sh (.list []), s12, s13, s14, s15, s16, s17, s18, s19, .no, .no, .no] = some (.nx [s0, .own rs1, .sh (.int k), .sh (flD F), .sh (.str (sunS l)), .sh (.int b), .sh (.int F.rows), .sh (.int F.cols), .sh (.tuple (F.posts.map postD)), .sh (.tuple (F.aw.map cellD)), .sh (.list ((shadeOf F d).map cellD)), .sh (.list ((foundOf F F.posts [] d).map cellD)), u12, s13, s14, s15, s16, s17, s18, s19, .no, .no, .no]) ∧ isPar u12 = false := tD O l1 l2 h3 h4 hd p12
  obtain ⟨u12, hD, q12⟩ := hD0
  have hE0 : ∃ (v12 : Slot), (mFor (mAs asT (mVar 9)) (goName 12) (mSeq (mSet 11 (mOp gAdd (mVar 11) (mFn f_shade (mCons (mTup (mCons (mVar 6) (mCons (mVar 7) (mCons (mTup mNil) (mCons (mTup (mCons (mVar 12) mNil)) mNil))))) (mCons (mVar 4) (mCons (mVar 5) mNil)))))) mSkip)) [s0, .own rs1, .sh (.int k), .sh (flD F), .sh (.str (sunS l)), .sh (.int b), .sh (.int F.rows), .sh (.int F.cols), .sh (.tuple (F.posts.map postD)), .sh (.tuple (F.aw.map cellD)), .sh (.list ((shadeOf F d).map cellD)), .sh (.list ((foundOf F F.posts [] d).map cellD)), u12, s13, s14, s15, s16, s17, s18, s19, .no, .no, .no] = some (.nx [s0, .own rs1, .sh (.int k), .sh (flD F), .sh (.str (sunS l)), .sh (.int b), .sh (.int F.rows), .sh (.int F.cols), .sh (.tuple (F.posts.map postD)), .sh (.tuple (F.aw.map cellD)), .sh (.list ((shadeOf F d).map cellD)), .sh (.list ((foundOf F F.posts F.aw d).map cellD)), v12, s13, s14, s15, s16, s17, s18, s19, .no, .no, .no]) ∧ isPar v12 = false := tE O l1 l2 h3 h4 hd q12
  obtain ⟨v12, hE, w12⟩ := hE0
  have hF : (mIf (tBl (mOp (gEq true) (mVar 10) (mSortZ (mSetOf (mVar 11))))) (mSeq (mRet (mC (.bool false))) mSkip) mSkip) [s0, .own rs1, .sh (.int k), .sh (flD F), .sh (.str (sunS l)), .sh (.int b), .sh (.int F.rows), .sh (.int F.cols), .sh (.tuple (F.posts.map postD)), .sh (.tuple (F.aw.map cellD)), .sh (.list ((shadeOf F d).map cellD)), .sh (.list ((foundOf F F.posts F.aw d).map cellD)), v12, s13, s14, s15, s16, s17, s18, s19, .no, .no, .no] = some (.nx [s0, .own rs1, .sh (.int k), .sh (flD F), .sh (.str (sunS l)), .sh (.int b), .sh (.int F.rows), .sh (.int F.cols), .sh (.tuple (F.posts.map postD)), .sh (.tuple (F.aw.map cellD)), .sh (.list ((shadeOf F d).map cellD)), .sh (.list ((foundOf F F.posts F.aw d).map cellD)), v12, s13, s14, s15, s16, s17, s18, s19, .no, .no, .no]) := tF O
  have hG0 : ∃ (j : Int) (rs2 : List PyData), (mSet 13 (mFnR f__law_taken 1 (mCons (mOp gAdd (mCall fLen (mCons (mVar 9) mNil)) (mC (.int 1))) mNil))) [s0, .own rs1, .sh (.int k), .sh (flD F), .sh (.str (sunS l)), .sh (.int b), .sh (.int F.rows), .sh (.int F.cols), .sh (.tuple (F.posts.map postD)), .sh (.tuple (F.aw.map cellD)), .sh (.list ((shadeOf F d).map cellD)), .sh (.list ((foundOf F F.posts F.aw d).map cellD)), v12, s13, s14, s15, s16, s17, s18, s19, .no, .no, .no] = some (.nx [s0, .own rs2, .sh (.int k), .sh (flD F), .sh (.str (sunS l)), .sh (.int b), .sh (.int F.rows), .sh (.int F.cols), .sh (.tuple (F.posts.map postD)), .sh (.tuple (F.aw.map cellD)), .sh (.list ((shadeOf F d).map cellD)), .sh (.list ((foundOf F F.posts F.aw d).map cellD)), v12, .sh (.int j), s14, s15, s16, s17, s18, s19, .no, .no, .no]) ∧ RowOk rs2 ∧ 0 ≤ j ∧ j ≤ F.aw.length := tG r1 O p13
  obtain ⟨j, rs2, hG, r2, j0, j1⟩ := hG0
  obtain ⟨n, rfl⟩ := Int.eq_ofNat_of_zero_le j0
  have hH : (mSet 14 (mTup (mCons (mVar 6) (mCons (mVar 7) (mCons (mSl (mVar 8) oNone (oSome (mC (.int 1)))) (mCons (mSl (mVar 9) oNone (oSome (mVar 13))) mNil)))))) [s0, .own rs2, .sh (.int k), .sh (flD F), .sh (.str (sunS l)), .sh (.int b), .sh (.int F.rows), .sh (.int F.cols), .sh (.tuple (F.posts.map postD)), .sh (.tuple (F.aw.map cellD)), .sh (.list ((shadeOf F d).map cellD)), .sh (.list ((foundOf F F.posts F.aw d).map cellD)), v12, .sh (.int (n : Int)), s14, s15, s16, s17, s18, s19, .no, .no, .no] = some (.nx [s0, .own rs2, .sh (.int k), .sh (flD F), .sh (.str (sunS l)), .sh (.int b), .sh (.int F.rows), .sh (.int F.cols), .sh (.tuple (F.posts.map postD)), .sh (.tuple (F.aw.map cellD)), .sh (.list ((shadeOf F d).map cellD)), .sh (.list ((foundOf F F.posts F.aw d).map cellD)), v12, .sh (.int (n : Int)), .sh (flD (partF F n)), s15, s16, s17, s18, s19, .no, .no, .no]) := tH (by omega) p14
  have hI : (mSet 15 (mF (mLst mNil))) [s0, .own rs2, .sh (.int k), .sh (flD F), .sh (.str (sunS l)), .sh (.int b), .sh (.int F.rows), .sh (.int F.cols), .sh (.tuple (F.posts.map postD)), .sh (.tuple (F.aw.map cellD)), .sh (.list ((shadeOf F d).map cellD)), .sh (.list ((foundOf F F.posts F.aw d).map cellD)), v12, .sh (.int (n : Int)), .sh (flD (partF F n)), s15, s16, s17, s18, s19, .no, .no, .no] = some (.nx [s0, .own rs2, .sh (.int k), .sh (flD F), .sh (.str (sunS l)), .sh (.int b), .sh (.int F.rows), .sh (.int F.cols), .sh (.tuple (F.posts.map postD)), .sh (.tuple (F.aw.map cellD)), .sh (.list ((shadeOf F d).map cellD)), .sh (.list ((foundOf F F.posts F.aw d).map cellD)), v12, .sh (.int (n : Int)), .sh (flD (partF F n)), .sh (.list []), s16, s17, s18, s19, .no, .no, .no]) := tI p15
  have hJ0 : ∃ (u16 : Slot) (qs : List (Nat × Cell)), (mFor (mRng fRng1 (mCons (mCall fLen (mCons (mVar 4) mNil)) mNil)) (goName 16) (mSeq (mSet 15 (mOp gAdd (mVar 15) (mF (mLcP [20] [] (mAs asL (mFn f_shade (mCons (mVar 3) (mCons (mVar 4) (mCons (mVar 16) mNil))))) (goName 20) (tBl (mOp (gIn true) (mVar 20) (mFn f_shade (mCons (mVar 14) (mCons (mVar 4) (mCons (mVar 16) mNil)))))) (mTup (mCons (mVar 16) (mCons (mVar 20) mNil))))))) mSkip)) [s0, .own rs2, .sh (.int k), .sh (flD F), .sh (.str (sunS l)), .sh (.int b), .sh (.int F.rows), .sh (.int F.cols), .sh (.tuple (F.posts.map postD)), .sh (.tuple (F.aw.map cellD)), .sh (.list ((shadeOf F d).map cellD)), .sh (.list ((foundOf F F.posts F.aw d).map cellD)), v12, .sh (.int (n : Int)), .sh (flD (partF F n)), .sh (.list []), s16, s17, s18, s19, .no, .no, .no] = some (.nx [s0, .own rs2, .sh (.int k), .sh (flD F), .sh (.str (sunS l)), .sh (.int b), .sh (.int F.rows), .sh (.int F.cols), .sh (.tuple (F.posts.map postD)), .sh (.tuple (F.aw.map cellD)), .sh (.list ((shadeOf F d).map cellD)), .sh (.list ((foundOf F F.posts F.aw d).map cellD)), v12, .sh (.int (n : Int)), .sh (flD (partF F n)), .sh (.list (qs.map atD)), u16, s17, s18, s19, .no, .no, .no]) ∧ isPar u16 = false ∧ (pl s16 = true → pl u16 = true) ∧ qs.head? = partOf F (partF F n) l ∧ qs.length ≤ 150 := tJ O l1 l2 n p16
  obtain ⟨u16, qs, hJ, q16, q16p, qh, ql⟩ := hJ0
  have hK : (mIf (tO (tBl (mOp (gEq true) (mFn f_parted (mCons (mVar 3) (mCons (mVar 14) (mCons (mVar 4) mNil)))) (mOp gIx (mOp gAdd (mVar 15) (mF (mLst (mCons (mC .none) mNil)))) (mC (.int 0))))) (tBl (mOp (gEq true) (mFn f_parted (mCons (mVar 14) (mCons (mVar 3) (mCons (mVar 4) mNil)))) (mOp gIx (mOp gAdd (mVar 15) (mF (mLst (mCons (mC .none) mNil)))) (mC (.int 0)))))) (mSeq (mRet (mC (.bool false))) mSkip) mSkip) [s0, .own rs2, .sh (.int k), .sh (flD F), .sh (.str (sunS l)), .sh (.int b), .sh (.int F.rows), .sh (.int F.cols), .sh (.tuple (F.posts.map postD)), .sh (.tuple (F.aw.map cellD)), .sh (.list ((shadeOf F d).map cellD)), .sh (.list ((foundOf F F.posts F.aw d).map cellD)), v12, .sh (.int (n : Int)), .sh (flD (partF F n)), .sh (.list (qs.map atD)), u16, s17, s18, s19, .no, .no, .no] = some (.nx [s0, .own rs2, .sh (.int k), .sh (flD F), .sh (.str (sunS l)), .sh (.int b), .sh (.int F.rows), .sh (.int F.cols), .sh (.tuple (F.posts.map postD)), .sh (.tuple (F.aw.map cellD)), .sh (.list ((shadeOf F d).map cellD)), .sh (.list ((foundOf F F.posts F.aw d).map cellD)), v12, .sh (.int (n : Int)), .sh (flD (partF F n)), .sh (.list (qs.map atD)), u16, s17, s18, s19, .no, .no, .no]) := tK O l1 l2 n qh ql
  have hL : (mIf (tBl (mOp (gIs true) (mFn f_parted (mCons (mVar 3) (mCons (mVar 3) (mCons (mVar 4) mNil)))) (mC .none))) (mSeq (mRet (mC (.bool false))) mSkip) mSkip) [s0, .own rs2, .sh (.int k), .sh (flD F), .sh (.str (sunS l)), .sh (.int b), .sh (.int F.rows), .sh (.int F.cols), .sh (.tuple (F.posts.map postD)), .sh (.tuple (F.aw.map cellD)), .sh (.list ((shadeOf F d).map cellD)), .sh (.list ((foundOf F F.posts F.aw d).map cellD)), v12, .sh (.int (n : Int)), .sh (flD (partF F n)), .sh (.list (qs.map atD)), u16, s17, s18, s19, .no, .no, .no] = some (.nx [s0, .own rs2, .sh (.int k), .sh (flD F), .sh (.str (sunS l)), .sh (.int b), .sh (.int F.rows), .sh (.int F.cols), .sh (.tuple (F.posts.map postD)), .sh (.tuple (F.aw.map cellD)), .sh (.list ((shadeOf F d).map cellD)), .sh (.list ((foundOf F F.posts F.aw d).map cellD)), v12, .sh (.int (n : Int)), .sh (flD (partF F n)), .sh (.list (qs.map atD)), u16, s17, s18, s19, .no, .no, .no]) := tL O l1 l2
  have hM0 : ∃ (u17 u18 u19 : Slot), (mFor (mRng fRng1 (mCons (mC (.int 2)) mNil)) (goName 17) (mSeq (mDct 18 (mDz (mC (.str "ensow")) (mOp gIx (mF (mLst (mCons (mC (.str "wnsoe")) (mCons (mC (.str "sweon")) mNil)))) (mVar 17)))) (mSeq (mSet 19 (mFn f_shade (mCons (mFn f__law_turned (mCons (mVar 3) (mCons (mVar 17) mNil))) (mCons (mJoin (mC (.str "")) (mF (mLcP [21] [] (mAs asS (mVar 4)) (goName 21) tYesM (mDget 18 (mVar 21))))) (mCons (mVar 5) mNil))))) (mSeq (mIf (tBl (mOp (gEq true) (mVar 19) (mSortL (mF (mLcP [22, 16] [] (mAs asL (mVar 10)) (goTup 2 (goCons (goName 22) (goCons (goName 16) goNil))) tYesM (mIfE (tBl (mOp (gEq false) (mVar 17) (mC (.int 0)))) (mTup (mCons (mVar 22) (mCons (mOp gMinus (mOp gMinus (mVar 7) (mC (.int 1))) (mVar 16)) mNil))) (mTup (mCons (mVar 16) (mCons (mVar 22) mNil))))))))) (mSeq (mRet (mC (.bool false))) mSkip) mSkip) mSkip)))) [s0, .own rs2, .sh (.int k), .sh (flD F), .sh (.str (sunS l)), .sh (.int b), .sh (.int F.rows), .sh (.int F.cols), .sh (.tuple (F.posts.map postD)), .sh (.tuple (F.aw.map cellD)), .sh (.list ((shadeOf F d).map cellD)), .sh (.list ((foundOf F F.posts F.aw d).map cellD)), v12, .sh (.int (n : Int)), .sh (flD (partF F n)), .sh (.list (qs.map atD)), u16, s17, s18, s19, .no, .no, .no] = some (.nx [s0, .own rs2, .sh (.int k), .sh (flD F), .sh (.str (sunS l)), .sh (.int b), .sh (.int F.rows), .sh (.int F.cols), .sh (.tuple (F.posts.map postD)), .sh (.tuple (F.aw.map cellD)), .sh (.list ((shadeOf F d).map cellD)), .sh (.list ((foundOf F F.posts F.aw d).map cellD)), v12, .sh (.int (n : Int)), .sh (flD (partF F n)), .sh (.list (qs.map atD)), u16, u17, u18, u19, .no, .no, .no]) ∧ isPar u17 = false ∧ isPar u18 = false ∧ isPar u19 = false := tM O l1 l2 h3 h4 hd (q16p pp) p17 p18 p19
  obtain ⟨u17, u18, u19, hM, q17, q18, q19⟩ := hM0
  refine ⟨rs2, .sh (.int k), .sh (flD F), .sh (.str (sunS l)), .sh (.int b), .sh (.int F.rows), .sh (.int F.cols), .sh (.tuple (F.posts.map postD)), .sh (.tuple (F.aw.map cellD)), .sh (.list ((shadeOf F d).map cellD)), .sh (.list ((foundOf F F.posts F.aw d).map cellD)), v12, .sh (.int (n : Int)), .sh (flD (partF F n)), .sh (.list (qs.map atD)), u16, u17, u18, u19, ?_, r2, rfl, rfl, rfl, rfl, rfl, rfl, rfl, rfl, rfl, rfl, w12, rfl, rfl, rfl, q16, q17, q18, q19, q16p pp⟩
  unfold stepS
  rw [h0, Option.bind_some, seq_nx hA, seq_nx hB, seq_nx hC, seq_nx hD, seq_nx hE, seq_nx hF, seq_nx hG, seq_nx hH, seq_nx hI, seq_nx hJ, seq_nx hK, seq_nx hL, seq_nx hM]
  rfl
end
theorem law_ok (xs : List Int) : f_law [.list (xs.map PyData.int)] = some (.bool true) := by
  have r0 : RowOk [.list (xs.map PyData.int), .int 0, .int 0, .int 0] := ⟨xs, 0, 0, 0, rfl, by omega, by omega, by omega⟩
  have hr : fRng1 [.int 3] = some (rngD 0 3) := v_rngN (n := 3) (by omega)
  simp only [f_law, m_law, a_seq, a_skip, a_if, a_ret, a_retN, a_drop, a_never, a_break, a_cont, a_set, a_own, a_var, a_c, a_op, a_nil, a_cons, a_tup, a_lst, a_f, a_call, a_fn, a_isi, a_isi2, a_not, a_tru, a_tbl, a_tno, a_tan, a_to, a_and, a_or, a_chain, a_ifE, a_onone, a_osome, a_sl, a_ixL, a_ixV, a_lvar, a_inL, a_for, a_to2, a_as, a_rng, a_lcP, a_lc, a_lc2, a_sc, a_sortZ, a_setOf, a_xor, a_ownI, a_callL, a_mmNil, a_mmSh, a_mmOwn, a_par, a_tab, a_disp, a_vals0, a_vals1, a_goName, a_yes, a_fnP, a_fnR, a_mFnR, a_store, a_app, a_join, a_rep, k_tt, k_tl, k_ti, k_tb, k_ts, k_tn, k_ll, k_lt, k_li, k_lb, k_ls, k_ln, k_it, k_il, k_ii, k_ib, k_is, k_in, k_bt, k_bl, k_bi, k_bb, k_bs, k_bn, k_st, k_sl, k_si, k_sb, k_ss, k_sn, v_lenT, v_lenL, v_lenS, v_tupL, v_intI, v_intB, v_asL, v_asT, v_asS, v_truB, v_truL, v_add, v_sub, v_lt, v_le, v_gt, v_ge, v_mod, v_div, v_mul, v_isN, p_sh, p_no, p_own, p_par, p_plsh, p_plno, st_sh, st_no, st_own, st_par, f_ix0, f_ix1, f_ix2, f_ix3, c_ix0, c_ix1, q_ix0, q_ix1, q_ix2, q_sl, f_kt, c_kt, c_kl, q_kt, f_len, c_len, q_len, c_go, q_go, f_go, t_go, g_cons, g_nil, v_enumT, v_enumS, v_rng1, v_rngN, v_rng2, v_n40, v_n41, v_n42, v_n43, v_setR0, q_add, v_addT, f_sl3, f_sl2, q_cutc1, q_cutc2, q_cutp1, put_own, put_par, o_rt, o_nx, r_rt, r_nx, po_par, d_eqO, d_notin, v_pow18, v_mulS, v_addL, af_c, stepC, back, List.getD_cons_zero, List.getD_cons_succ, af_nx, af_ct, af_bk, af_rt, gixT, gixL, ix0, ix1, ix2, ix3, sl_t, sl_l, eq_int, eq_bool, Option.bind_some, Option.bind_none, List.map_cons, List.map_nil, List.getElem?_cons_zero, List.getElem?_cons_succ, List.set_cons_zero, List.set_cons_succ, List.length_cons, List.length_nil, List.cons_append, List.nil_append, List.replicate, ownAt, if_true, Bool.false_eq_true, if_false, Nat.reduceAdd, Nat.reduceLeDiff, Bool.true_eq_false, Bool.false_bne, Bool.true_bne, Bool.not_true, Bool.not_false, ne_eq, not_true_eq_false, not_false_eq_true, reduceCtorEq, clean_pl, List.all_cons, List.all_nil, List.contains_cons, List.contains_nil, Nat.reduceBEq, Bool.and_self, and_self, and_true, true_and, wipeR, stepP, stepS, Option.map_some, if_and, if_or, if_tan, if_tor, Int.cast_ofNat_Int, decide_true, decide_false, Bool.true_and, Bool.and_true, Bool.or_false, Bool.false_or, Bool.and_false, Bool.false_and, in_cellsT, in_cellsL, shaped_cell, shaped_cellsL, shaped_cellsT, any_cells, hr, rngD_map]
  generalize hL : loopS _ _ _ _ = L
  obtain ⟨ρ1, rfl, -⟩ := doneI hL (fun done ρ => ∃ rs u2 u3 u4 u5 u6 u7 u8 u9 u10 u11 u12 u13 u14 u15 u16 u17 u18 u19, ρ = [.sh (.list (xs.map PyData.int)), .own rs, u2, u3, u4, u5, u6, u7, u8, u9, u10, u11, u12, u13, u14, u15, u16, u17, u18, u19, .no, .no, .no] ∧ RowOk rs ∧ isPar u2 = false ∧ isPar u3 = false ∧ isPar u4 = false ∧ isPar u5 = false ∧ isPar u6 = false ∧ isPar u7 = false ∧ isPar u8 = false ∧ isPar u9 = false ∧ isPar u10 = false ∧ isPar u11 = false ∧ isPar u12 = false ∧ isPar u13 = false ∧ isPar u14 = false ∧ isPar u15 = false ∧ isPar u16 = false ∧ isPar u17 = false ∧ isPar u18 = false ∧ isPar u19 = false ∧ pl u16 = true)
    ⟨_, .no, .no, .no, .no, .no, .no, .no, .no, .no, .no, .no, .no, .no, .no, .no, .no, .no, .no, rfl, r0, rfl, rfl, rfl, rfl, rfl, rfl, rfl, rfl, rfl, rfl, rfl, rfl, rfl, rfl, rfl, rfl, rfl, rfl, rfl⟩ (fun done k rest ρ hd ⟨rs, u2, u3, u4, u5, u6, u7, u8, u9, u10, u11, u12, u13, u14, u15, u16, u17, u18, u19, e, r, p2, p3, p4, p5, p6, p7, p8, p9, p10, p11, p12, p13, p14, p15, p16, p17, p18, p19, pp⟩ => by
      subst e
      obtain ⟨rs', v2, v3, v4, v5, v6, v7, v8, v9, v10, v11, v12, v13, v14, v15, v16, v17, v18, v19, e, h⟩ := law_turn (s0 := .sh (.list (xs.map PyData.int))) r (0 + (k : Int)) p2 p3 p4 p5 p6 p7 p8 p9 p10 p11 p12 p13 p14 p15 p16 p17 p18 p19 pp
      rw [e]
      exact ⟨rs', v2, v3, v4, v5, v6, v7, v8, v9, v10, v11, v12, v13, v14, v15, v16, v17, v18, v19, rfl, h⟩)
  simp only [a_seq, a_skip, a_if, a_ret, a_retN, a_drop, a_never, a_break, a_cont, a_set, a_own, a_var, a_c, a_op, a_nil, a_cons, a_tup, a_lst, a_f, a_call, a_fn, a_isi, a_isi2, a_not, a_tru, a_tbl, a_tno, a_tan, a_to, a_and, a_or, a_chain, a_ifE, a_onone, a_osome, a_sl, a_ixL, a_ixV, a_lvar, a_inL, a_for, a_to2, a_as, a_rng, a_lcP, a_lc, a_lc2, a_sc, a_sortZ, a_setOf, a_xor, a_ownI, a_callL, a_mmNil, a_mmSh, a_mmOwn, a_par, a_tab, a_disp, a_vals0, a_vals1, a_goName, a_yes, a_fnP, a_fnR, a_mFnR, a_store, a_app, a_join, a_rep, k_tt, k_tl, k_ti, k_tb, k_ts, k_tn, k_ll, k_lt, k_li, k_lb, k_ls, k_ln, k_it, k_il, k_ii, k_ib, k_is, k_in, k_bt, k_bl, k_bi, k_bb, k_bs, k_bn, k_st, k_sl, k_si, k_sb, k_ss, k_sn, v_lenT, v_lenL, v_lenS, v_tupL, v_intI, v_intB, v_asL, v_asT, v_asS, v_truB, v_truL, v_add, v_sub, v_lt, v_le, v_gt, v_ge, v_mod, v_div, v_mul, v_isN, p_sh, p_no, p_own, p_par, p_plsh, p_plno, st_sh, st_no, st_own, st_par, f_ix0, f_ix1, f_ix2, f_ix3, c_ix0, c_ix1, q_ix0, q_ix1, q_ix2, q_sl, f_kt, c_kt, c_kl, q_kt, f_len, c_len, q_len, c_go, q_go, f_go, t_go, g_cons, g_nil, v_enumT, v_enumS, v_rng1, v_rngN, v_rng2, v_n40, v_n41, v_n42, v_n43, v_setR0, q_add, v_addT, f_sl3, f_sl2, q_cutc1, q_cutc2, q_cutp1, put_own, put_par, o_rt, o_nx, r_rt, r_nx, po_par, d_eqO, d_notin, v_pow18, v_mulS, v_addL, af_c, stepC, back, List.getD_cons_zero, List.getD_cons_succ, af_nx, af_ct, af_bk, af_rt, gixT, gixL, ix0, ix1, ix2, ix3, sl_t, sl_l, eq_int, eq_bool, Option.bind_some, Option.bind_none, List.map_cons, List.map_nil, List.getElem?_cons_zero, List.getElem?_cons_succ, List.set_cons_zero, List.set_cons_succ, List.length_cons, List.length_nil, List.cons_append, List.nil_append, List.replicate, ownAt, if_true, Bool.false_eq_true, if_false, Nat.reduceAdd, Nat.reduceLeDiff, Bool.true_eq_false, Bool.false_bne, Bool.true_bne, Bool.not_true, Bool.not_false, ne_eq, not_true_eq_false, not_false_eq_true, reduceCtorEq, clean_pl, List.all_cons, List.all_nil, List.contains_cons, List.contains_nil, Nat.reduceBEq, Bool.and_self, and_self, and_true, true_and, wipeR, stepP, stepS, Option.map_some, if_and, if_or, if_tan, if_tor, Int.cast_ofNat_Int, decide_true, decide_false, Bool.true_and, Bool.and_true, Bool.or_false, Bool.false_or, Bool.and_false, Bool.false_and, in_cellsT, in_cellsL, shaped_cell, shaped_cellsL, shaped_cellsT, any_cells]
end Pr

set_option Elab.async false
set_option linter.all false
set_option maxRecDepth 100000
set_option maxHeartbeats 1000000
namespace Pr
open PySem PySem.Spec L2 Fn
open PyProof.Rows hiding St
/-! ### the end -/
theorem all_mk {l : PySem.W.OpenLaw} {w : World} {K : PySem.W.Frag} {h : Heap} {mg : Str → Option Value} {fa : Addr} (X : K.In h) (G : h.Ns mainGlobals mg) (hfa : mg "law" = some (.ref fa))
    {f0 : Addr} {od0 an0 : Option Addr} {sl0 : Array (Option Value)} {oc0 kV0 dc0 pm0 cd0 ct0 : Value}
    (a0 : PySem.W.nsIn K mainGlobals "_law_taken" = some (some (.ref f0))) (l0 : K.lookup f0 = some ⟨oc0, od0, .func (PySem.W.fnOf "_law_taken" "_law_taken" (defArgs s__law_taken) (defBody s__law_taken) (defScope s__law_taken) .none kV0 dc0 pm0 an0 cd0 ct0), sl0⟩) (c0 : PySem.W.codeIn K cd0 "_law_taken" = true) (k0 : PySem.W.keepIn K (.ref f0) = true)
    {f1 : Addr} {od1 an1 : Option Addr} {sl1 : Array (Option Value)} {oc1 kV1 dc1 pm1 cd1 ct1 : Value}
    (a1 : PySem.W.nsIn K mainGlobals "_law_floor" = some (some (.ref f1))) (l1 : K.lookup f1 = some ⟨oc1, od1, .func (PySem.W.fnOf "_law_floor" "_law_floor" (defArgs s__law_floor) (defBody s__law_floor) (defScope s__law_floor) .none kV1 dc1 pm1 an1 cd1 ct1), sl1⟩) (c1 : PySem.W.codeIn K cd1 "_law_floor" = true) (k1 : PySem.W.keepIn K (.ref f1) = true)
    {f2 : Addr} {od2 an2 : Option Addr} {sl2 : Array (Option Value)} {oc2 kV2 dc2 pm2 cd2 ct2 : Value}
    (a2 : PySem.W.nsIn K mainGlobals "_law_sun" = some (some (.ref f2))) (l2 : K.lookup f2 = some ⟨oc2, od2, .func (PySem.W.fnOf "_law_sun" "_law_sun" (defArgs s__law_sun) (defBody s__law_sun) (defScope s__law_sun) .none kV2 dc2 pm2 an2 cd2 ct2), sl2⟩) (c2 : PySem.W.codeIn K cd2 "_law_sun" = true) (k2 : PySem.W.keepIn K (.ref f2) = true)
    {f3 : Addr} {od3 an3 : Option Addr} {sl3 : Array (Option Value)} {oc3 kV3 dc3 pm3 cd3 ct3 : Value}
    (a3 : PySem.W.nsIn K mainGlobals "_law_turned" = some (some (.ref f3))) (l3 : K.lookup f3 = some ⟨oc3, od3, .func (PySem.W.fnOf "_law_turned" "_law_turned" (defArgs s__law_turned) (defBody s__law_turned) (defScope s__law_turned) .none kV3 dc3 pm3 an3 cd3 ct3), sl3⟩) (c3 : PySem.W.codeIn K cd3 "_law_turned" = true) (k3 : PySem.W.keepIn K (.ref f3) = true)
    {f4 : Addr} {od4 an4 : Option Addr} {sl4 : Array (Option Value)} {oc4 kV4 dc4 pm4 cd4 ct4 : Value}
    (a4 : PySem.W.nsIn K mainGlobals "is_tuple_of" = some (some (.ref f4))) (l4 : K.lookup f4 = some ⟨oc4, od4, .func (PySem.W.fnOf "is_tuple_of" "is_tuple_of" (defArgs s_is_tuple_of) (defBody s_is_tuple_of) (defScope s_is_tuple_of) .none kV4 dc4 pm4 an4 cd4 ct4), sl4⟩) (c4 : PySem.W.codeIn K cd4 "is_tuple_of" = true) (k4 : PySem.W.keepIn K (.ref f4) = true)
    {f5 : Addr} {od5 an5 : Option Addr} {sl5 : Array (Option Value)} {oc5 kV5 dc5 pm5 cd5 ct5 : Value}
    (a5 : PySem.W.nsIn K mainGlobals "is_whole" = some (some (.ref f5))) (l5 : K.lookup f5 = some ⟨oc5, od5, .func (PySem.W.fnOf "is_whole" "is_whole" (defArgs s_is_whole) (defBody s_is_whole) (defScope s_is_whole) .none kV5 dc5 pm5 an5 cd5 ct5), sl5⟩) (c5 : PySem.W.codeIn K cd5 "is_whole" = true) (k5 : PySem.W.keepIn K (.ref f5) = true)
    {f6 : Addr} {od6 an6 : Option Addr} {sl6 : Array (Option Value)} {oc6 kV6 dc6 pm6 cd6 ct6 : Value}
    (a6 : PySem.W.nsIn K mainGlobals "is_cell" = some (some (.ref f6))) (l6 : K.lookup f6 = some ⟨oc6, od6, .func (PySem.W.fnOf "is_cell" "is_cell" (defArgs s_is_cell) (defBody s_is_cell) (defScope s_is_cell) .none kV6 dc6 pm6 an6 cd6 ct6), sl6⟩) (c6 : PySem.W.codeIn K cd6 "is_cell" = true) (k6 : PySem.W.keepIn K (.ref f6) = true)
    {f7 : Addr} {od7 an7 : Option Addr} {sl7 : Array (Option Value)} {oc7 kV7 dc7 pm7 cd7 ct7 : Value}
    (a7 : PySem.W.nsIn K mainGlobals "check_awnings" = some (some (.ref f7))) (l7 : K.lookup f7 = some ⟨oc7, od7, .func (PySem.W.fnOf "check_awnings" "check_awnings" (defArgs s_check_awnings) (defBody s_check_awnings) (defScope s_check_awnings) .none kV7 dc7 pm7 an7 cd7 ct7), sl7⟩) (c7 : PySem.W.codeIn K cd7 "check_awnings" = true) (k7 : PySem.W.keepIn K (.ref f7) = true)
    {f8 : Addr} {od8 an8 : Option Addr} {sl8 : Array (Option Value)} {oc8 kV8 dc8 pm8 cd8 ct8 : Value}
    (a8 : PySem.W.nsIn K mainGlobals "is_post" = some (some (.ref f8))) (l8 : K.lookup f8 = some ⟨oc8, od8, .func (PySem.W.fnOf "is_post" "is_post" (defArgs s_is_post) (defBody s_is_post) (defScope s_is_post) .none kV8 dc8 pm8 an8 cd8 ct8), sl8⟩) (c8 : PySem.W.codeIn K cd8 "is_post" = true) (k8 : PySem.W.keepIn K (.ref f8) = true)
    {f9 : Addr} {od9 an9 : Option Addr} {sl9 : Array (Option Value)} {oc9 kV9 dc9 pm9 cd9 ct9 : Value}
    (a9 : PySem.W.nsIn K mainGlobals "check_posts" = some (some (.ref f9))) (l9 : K.lookup f9 = some ⟨oc9, od9, .func (PySem.W.fnOf "check_posts" "check_posts" (defArgs s_check_posts) (defBody s_check_posts) (defScope s_check_posts) .none kV9 dc9 pm9 an9 cd9 ct9), sl9⟩) (c9 : PySem.W.codeIn K cd9 "check_posts" = true) (k9 : PySem.W.keepIn K (.ref f9) = true)
    {f10 : Addr} {od10 an10 : Option Addr} {sl10 : Array (Option Value)} {oc10 kV10 dc10 pm10 cd10 ct10 : Value}
    (a10 : PySem.W.nsIn K mainGlobals "check_floor" = some (some (.ref f10))) (l10 : K.lookup f10 = some ⟨oc10, od10, .func (PySem.W.fnOf "check_floor" "check_floor" (defArgs s_check_floor) (defBody s_check_floor) (defScope s_check_floor) .none kV10 dc10 pm10 an10 cd10 ct10), sl10⟩) (c10 : PySem.W.codeIn K cd10 "check_floor" = true) (k10 : PySem.W.keepIn K (.ref f10) = true)
    {f11 : Addr} {od11 an11 : Option Addr} {sl11 : Array (Option Value)} {oc11 kV11 dc11 pm11 cd11 ct11 : Value}
    (a11 : PySem.W.nsIn K mainGlobals "check_sun" = some (some (.ref f11))) (l11 : K.lookup f11 = some ⟨oc11, od11, .func (PySem.W.fnOf "check_sun" "check_sun" (defArgs s_check_sun) (defBody s_check_sun) (defScope s_check_sun) .none kV11 dc11 pm11 an11 cd11 ct11), sl11⟩) (c11 : PySem.W.codeIn K cd11 "check_sun" = true) (k11 : PySem.W.keepIn K (.ref f11) = true)
    {f12 : Addr} {od12 an12 : Option Addr} {sl12 : Array (Option Value)} {oc12 kV12 dc12 pm12 cd12 ct12 : Value}
    (a12 : PySem.W.nsIn K mainGlobals "awning_shade" = some (some (.ref f12))) (l12 : K.lookup f12 = some ⟨oc12, od12, .func (PySem.W.fnOf "awning_shade" "awning_shade" (defArgs s_awning_shade) (defBody s_awning_shade) (defScope s_awning_shade) .none kV12 dc12 pm12 an12 cd12 ct12), sl12⟩) (c12 : PySem.W.codeIn K cd12 "awning_shade" = true) (k12 : PySem.W.keepIn K (.ref f12) = true)
    {f13 : Addr} {od13 an13 : Option Addr} {sl13 : Array (Option Value)} {oc13 kV13 dc13 pm13 cd13 ct13 : Value}
    (a13 : PySem.W.nsIn K mainGlobals "post_shade" = some (some (.ref f13))) (l13 : K.lookup f13 = some ⟨oc13, od13, .func (PySem.W.fnOf "post_shade" "post_shade" (defArgs s_post_shade) (defBody s_post_shade) (defScope s_post_shade) .none kV13 dc13 pm13 an13 cd13 ct13), sl13⟩) (c13 : PySem.W.codeIn K cd13 "post_shade" = true) (k13 : PySem.W.keepIn K (.ref f13) = true)
    {f14 : Addr} {od14 an14 : Option Addr} {sl14 : Array (Option Value)} {oc14 kV14 dc14 pm14 cd14 ct14 : Value}
    (a14 : PySem.W.nsIn K mainGlobals "shaded" = some (some (.ref f14))) (l14 : K.lookup f14 = some ⟨oc14, od14, .func (PySem.W.fnOf "shaded" "shaded" (defArgs s_shaded) (defBody s_shaded) (defScope s_shaded) .none kV14 dc14 pm14 an14 cd14 ct14), sl14⟩) (c14 : PySem.W.codeIn K cd14 "shaded" = true) (k14 : PySem.W.keepIn K (.ref f14) = true)
    {f15 : Addr} {od15 an15 : Option Addr} {sl15 : Array (Option Value)} {oc15 kV15 dc15 pm15 cd15 ct15 : Value}
    (a15 : PySem.W.nsIn K mainGlobals "parted" = some (some (.ref f15))) (l15 : K.lookup f15 = some ⟨oc15, od15, .func (PySem.W.fnOf "parted" "parted" (defArgs s_parted) (defBody s_parted) (defScope s_parted) .none kV15 dc15 pm15 an15 cd15 ct15), sl15⟩) (c15 : PySem.W.codeIn K cd15 "parted" = true) (k15 : PySem.W.keepIn K (.ref f15) = true)
    {f16 : Addr} {od16 an16 : Option Addr} {sl16 : Array (Option Value)} {oc16 kV16 dc16 pm16 cd16 ct16 : Value}
    (a16 : PySem.W.nsIn K mainGlobals "check_beats" = some (some (.ref f16))) (l16 : K.lookup f16 = some ⟨oc16, od16, .func (PySem.W.fnOf "check_beats" "check_beats" (defArgs s_check_beats) (defBody s_check_beats) (defScope s_check_beats) .none kV16 dc16 pm16 an16 cd16 ct16), sl16⟩) (c16 : PySem.W.codeIn K cd16 "check_beats" = true) (k16 : PySem.W.keepIn K (.ref f16) = true)
    {f17 : Addr} {od17 an17 : Option Addr} {sl17 : Array (Option Value)} {oc17 kV17 dc17 pm17 cd17 ct17 : Value}
    (a17 : PySem.W.nsIn K mainGlobals "shade" = some (some (.ref f17))) (l17 : K.lookup f17 = some ⟨oc17, od17, .func (PySem.W.fnOf "shade" "shade" (defArgs s_shade) (defBody s_shade) (defScope s_shade) .none kV17 dc17 pm17 an17 cd17 ct17), sl17⟩) (c17 : PySem.W.codeIn K cd17 "shade" = true) (k17 : PySem.W.keepIn K (.ref f17) = true)
    {f18 : Addr} {od18 an18 : Option Addr} {sl18 : Array (Option Value)} {oc18 kV18 dc18 pm18 cd18 ct18 : Value}
    (a18 : PySem.W.nsIn K mainGlobals "law" = some (some (.ref f18))) (l18 : K.lookup f18 = some ⟨oc18, od18, .func (PySem.W.fnOf "law" "law" (defArgs s_law) (defBody s_law) (defScope s_law) .none kV18 dc18 pm18 an18 cd18 ct18), sl18⟩) (c18 : PySem.W.codeIn K cd18 "law" = true) (k18 : PySem.W.keepIn K (.ref f18) = true)
    (z_bool : PySem.W.nsIn K mainGlobals "bool" = some none)
    (z_dict : PySem.W.nsIn K mainGlobals "dict" = some none)
    (z_enumerate : PySem.W.nsIn K mainGlobals "enumerate" = some none)
    (z_int : PySem.W.nsIn K mainGlobals "int" = some none)
    (z_isinstance : PySem.W.nsIn K mainGlobals "isinstance" = some none)
    (z_len : PySem.W.nsIn K mainGlobals "len" = some none)
    (z_range : PySem.W.nsIn K mainGlobals "range" = some none)
    (z_set : PySem.W.nsIn K mainGlobals "set" = some none)
    (z_sorted : PySem.W.nsIn K mainGlobals "sorted" = some none)
    (z_str : PySem.W.nsIn K mainGlobals "str" = some none)
    (z_tuple : PySem.W.nsIn K mainGlobals "tuple" = some none)
    (z_zip : PySem.W.nsIn K mainGlobals "zip" = some none)
    {t_HIGHEST_POST : Tok} (g_HIGHEST_POST : PySem.W.nsIn K mainGlobals "HIGHEST_POST" = some (some (.int 4 t_HIGHEST_POST)))
    {t_LONGEST_SIDE : Tok} (g_LONGEST_SIDE : PySem.W.nsIn K mainGlobals "LONGEST_SIDE" = some (some (.int 5 t_LONGEST_SIDE)))
    {t_MOST_AWNINGS : Tok} (g_MOST_AWNINGS : PySem.W.nsIn K mainGlobals "MOST_AWNINGS" = some (some (.int 8 t_MOST_AWNINGS)))
    {t_MOST_POSTS : Tok} (g_MOST_POSTS : PySem.W.nsIn K mainGlobals "MOST_POSTS" = some (some (.int 4 t_MOST_POSTS)))
    {t_MOST_SIGNS : Tok} (g_MOST_SIGNS : PySem.W.nsIn K mainGlobals "MOST_SIGNS" = some (some (.int 6 t_MOST_SIGNS)))
    {t_SIGNS : Tok} (g_SIGNS : PySem.W.nsIn K mainGlobals "SIGNS" = some (some (.str "neswo" t_SIGNS)))
    {p_STEPS : Addr} {es_STEPS : Array DictEntry} {n_STEPS : Nat} (g_STEPS : PySem.W.nsIn K mainGlobals "STEPS" = some (some (.ref p_STEPS))) (o_STEPS : K.lookup p_STEPS = some ⟨.type "dict", none, .dict es_STEPS n_STEPS, #[]⟩) (y_STEPS : PySem.W.KeysLit w.params es_STEPS.toList)
    {q_STEPS_0 : Addr} {w_STEPS_0 : Option Addr} {its_STEPS_0 : Array Value} {m_STEPS_0 : Nat} {v_STEPS_0 : Array (Option Value)} (i_STEPS_0 : PySem.W.nsIn K p_STEPS "n" = some (some (.ref q_STEPS_0))) (j_STEPS_0 : K.lookup q_STEPS_0 = some ⟨.type "tuple", w_STEPS_0, .seq its_STEPS_0 m_STEPS_0, v_STEPS_0⟩) (r_STEPS_0 : Vals [.int (-1), .int 0] its_STEPS_0.toList) (h_STEPS_0 : its_STEPS_0.size ≤ sizeLine)
    {q_STEPS_1 : Addr} {w_STEPS_1 : Option Addr} {its_STEPS_1 : Array Value} {m_STEPS_1 : Nat} {v_STEPS_1 : Array (Option Value)} (i_STEPS_1 : PySem.W.nsIn K p_STEPS "e" = some (some (.ref q_STEPS_1))) (j_STEPS_1 : K.lookup q_STEPS_1 = some ⟨.type "tuple", w_STEPS_1, .seq its_STEPS_1 m_STEPS_1, v_STEPS_1⟩) (r_STEPS_1 : Vals [.int 0, .int 1] its_STEPS_1.toList) (h_STEPS_1 : its_STEPS_1.size ≤ sizeLine)
    {q_STEPS_2 : Addr} {w_STEPS_2 : Option Addr} {its_STEPS_2 : Array Value} {m_STEPS_2 : Nat} {v_STEPS_2 : Array (Option Value)} (i_STEPS_2 : PySem.W.nsIn K p_STEPS "s" = some (some (.ref q_STEPS_2))) (j_STEPS_2 : K.lookup q_STEPS_2 = some ⟨.type "tuple", w_STEPS_2, .seq its_STEPS_2 m_STEPS_2, v_STEPS_2⟩) (r_STEPS_2 : Vals [.int 1, .int 0] its_STEPS_2.toList) (h_STEPS_2 : its_STEPS_2.size ≤ sizeLine)
    {q_STEPS_3 : Addr} {w_STEPS_3 : Option Addr} {its_STEPS_3 : Array Value} {m_STEPS_3 : Nat} {v_STEPS_3 : Array (Option Value)} (i_STEPS_3 : PySem.W.nsIn K p_STEPS "w" = some (some (.ref q_STEPS_3))) (j_STEPS_3 : K.lookup q_STEPS_3 = some ⟨.type "tuple", w_STEPS_3, .seq its_STEPS_3 m_STEPS_3, v_STEPS_3⟩) (r_STEPS_3 : Vals [.int 0, .int (-1)] its_STEPS_3.toList) (h_STEPS_3 : its_STEPS_3.size ≤ sizeLine)
    {q_STEPS_4 : Addr} {w_STEPS_4 : Option Addr} {its_STEPS_4 : Array Value} {m_STEPS_4 : Nat} {v_STEPS_4 : Array (Option Value)} (i_STEPS_4 : PySem.W.nsIn K p_STEPS "o" = some (some (.ref q_STEPS_4))) (j_STEPS_4 : K.lookup q_STEPS_4 = some ⟨.type "tuple", w_STEPS_4, .seq its_STEPS_4 m_STEPS_4, v_STEPS_4⟩) (r_STEPS_4 : Vals [.int 0, .int 0] its_STEPS_4.toList) (h_STEPS_4 : its_STEPS_4.size ≤ sizeLine)
    : ∃ fd : FuncData, (∀ (s : Shared) (v : Value), BindsTo s fd ⟨[v], []⟩ [("_law_script", v)]) ∧ ∀ base : Heap, K.In base → base.Ns mainGlobals mg → FnOk l.prog w K mg base CX0 7 fa fd ["_law_script"] (spP K f_law) := by
  have e := hfa.symm.trans (PySem.W.mg_of X G a18)
  cases e
  have T : Tp K w mg := {
    n_bool := PySem.W.mg_none_of X G z_bool,
    n_dict := PySem.W.mg_none_of X G z_dict,
    n_enumerate := PySem.W.mg_none_of X G z_enumerate,
    n_int := PySem.W.mg_none_of X G z_int,
    n_isinstance := PySem.W.mg_none_of X G z_isinstance,
    n_len := PySem.W.mg_none_of X G z_len,
    n_range := PySem.W.mg_none_of X G z_range,
    n_set := PySem.W.mg_none_of X G z_set,
    n_sorted := PySem.W.mg_none_of X G z_sorted,
    n_str := PySem.W.mg_none_of X G z_str,
    n_tuple := PySem.W.mg_none_of X G z_tuple,
    n_zip := PySem.W.mg_none_of X G z_zip,
    c_HIGHEST_POST := ⟨_, PySem.W.mg_of X G g_HIGHEST_POST⟩,
    c_LONGEST_SIDE := ⟨_, PySem.W.mg_of X G g_LONGEST_SIDE⟩,
    c_MOST_AWNINGS := ⟨_, PySem.W.mg_of X G g_MOST_AWNINGS⟩,
    c_MOST_POSTS := ⟨_, PySem.W.mg_of X G g_MOST_POSTS⟩,
    c_MOST_SIGNS := ⟨_, PySem.W.mg_of X G g_MOST_SIGNS⟩,
    c_SIGNS := ⟨_, PySem.W.mg_of X G g_SIGNS⟩,
    t_STEPS := by
      refine ⟨p_STEPS, PySem.W.mg_of X G g_STEPS, fun z d e => ?_⟩
      have key : ∀ (q : Addr) (xs : List Int) (z : Str) (o : Obj) (its : Array Value) (m : Nat), PySem.W.nsIn K p_STEPS z = some (some (.ref q)) → K.lookup q = some o → o.cls = .type "tuple" → o.data = .seq its m → its.size ≤ sizeLine → Vals (xs.map V.int) its.toList → ∃ v, KDct K w p_STEPS z v ∧ Dp K (fun _ => none) v (tupD xs) :=
        fun q xs z o its m g1 g2 g3 g4 g5 g6 => ⟨.ref q, ⟨es_STEPS, n_STEPS, _, o_STEPS, y_STEPS, g1, rfl⟩, tupD_dp (.inr ⟨o, its, m, g2, g3, g4, g5, g6⟩)⟩
      unfold tab_STEPS at e
      by_cases hz : z = ("n" : Str)
      · subst hz; cases e; exact key q_STEPS_0 [(-1), 0] _ _ _ _ i_STEPS_0 j_STEPS_0 rfl rfl h_STEPS_0 r_STEPS_0
      rw [List.lookup_cons, beq_eq_false_iff_ne.mpr hz] at e
      by_cases hz : z = ("e" : Str)
      · subst hz; cases e; exact key q_STEPS_1 [0, 1] _ _ _ _ i_STEPS_1 j_STEPS_1 rfl rfl h_STEPS_1 r_STEPS_1
      rw [List.lookup_cons, beq_eq_false_iff_ne.mpr hz] at e
      by_cases hz : z = ("s" : Str)
      · subst hz; cases e; exact key q_STEPS_2 [1, 0] _ _ _ _ i_STEPS_2 j_STEPS_2 rfl rfl h_STEPS_2 r_STEPS_2
      rw [List.lookup_cons, beq_eq_false_iff_ne.mpr hz] at e
      by_cases hz : z = ("w" : Str)
      · subst hz; cases e; exact key q_STEPS_3 [0, (-1)] _ _ _ _ i_STEPS_3 j_STEPS_3 rfl rfl h_STEPS_3 r_STEPS_3
      rw [List.lookup_cons, beq_eq_false_iff_ne.mpr hz] at e
      by_cases hz : z = ("o" : Str)
      · subst hz; cases e; exact key q_STEPS_4 [0, 0] _ _ _ _ i_STEPS_4 j_STEPS_4 rfl rfl h_STEPS_4 r_STEPS_4
      rw [List.lookup_cons, beq_eq_false_iff_ne.mpr hz] at e
      cases e
  }
  refine ⟨PySem.W.fnOf "law" "law" (defArgs s_law) (defBody s_law) (defScope s_law) .none kV18 dc18 pm18 an18 cd18 ct18, fun s v => .of_eq rfl, fun base _ _ => ?_⟩
  have D__law_taken : Df l.prog w K mg base "_law_taken" 1 ["_law_row", "_law_many"] (spR K f__law_taken) := d__law_taken T  (fun_mk (st := s__law_taken) l0 c0 k0) (PySem.W.mg_of X G a0)
  have D__law_floor : Df l.prog w K mg base "_law_floor" 2 ["_law_row", "_law_size"] (spR K f__law_floor) := d__law_floor T D__law_taken (fun_mk (st := s__law_floor) l1 c1 k1) (PySem.W.mg_of X G a1)
  have D__law_sun : Df l.prog w K mg base "_law_sun" 2 ["_law_row"] (spR K f__law_sun) := d__law_sun T D__law_taken (fun_mk (st := s__law_sun) l2 c2 k2) (PySem.W.mg_of X G a2)
  have D__law_turned : Df l.prog w K mg base "_law_turned" 1 ["_law_floor_here", "_law_way"] (spP K f__law_turned) := d__law_turned T  (fun_mk (st := s__law_turned) l3 c3 k3) (PySem.W.mg_of X G a3)
  have D_is_tuple_of : Df l.prog w K mg base "is_tuple_of" 1 ["thing", "many"] (spP K f_is_tuple_of) := d_is_tuple_of T  (fun_mk (st := s_is_tuple_of) l4 c4 k4) (PySem.W.mg_of X G a4)
  have D_is_whole : Df l.prog w K mg base "is_whole" 1 ["thing", "low", "high"] (spP K f_is_whole) := d_is_whole T  (fun_mk (st := s_is_whole) l5 c5 k5) (PySem.W.mg_of X G a5)
  have D_is_cell : Df l.prog w K mg base "is_cell" 2 ["thing", "floor"] (spP K f_is_cell) := d_is_cell T D_is_tuple_of D_is_whole (fun_mk (st := s_is_cell) l6 c6 k6) (PySem.W.mg_of X G a6)
  have D_check_awnings : Df l.prog w K mg base "check_awnings" 3 ["floor"] (spP K f_check_awnings) := d_check_awnings T D_is_cell (fun_mk (st := s_check_awnings) l7 c7 k7) (PySem.W.mg_of X G a7)
  have D_is_post : Df l.prog w K mg base "is_post" 3 ["thing", "floor"] (spP K f_is_post) := d_is_post T D_is_cell D_is_tuple_of D_is_whole (fun_mk (st := s_is_post) l8 c8 k8) (PySem.W.mg_of X G a8)
  have D_check_posts : Df l.prog w K mg base "check_posts" 4 ["floor"] (spP K f_check_posts) := d_check_posts T D_is_post (fun_mk (st := s_check_posts) l9 c9 k9) (PySem.W.mg_of X G a9)
  have D_check_floor : Df l.prog w K mg base "check_floor" 5 ["floor"] (spP K f_check_floor) := d_check_floor T D_check_awnings D_check_posts D_is_tuple_of D_is_whole (fun_mk (st := s_check_floor) l10 c10 k10) (PySem.W.mg_of X G a10)
  have D_check_sun : Df l.prog w K mg base "check_sun" 1 ["sun"] (spP K f_check_sun) := d_check_sun T  (fun_mk (st := s_check_sun) l11 c11 k11) (PySem.W.mg_of X G a11)
  have D_awning_shade : Df l.prog w K mg base "awning_shade" 1 ["awnings", "sign"] (spP K f_awning_shade) := d_awning_shade T  (fun_mk (st := s_awning_shade) l12 c12 k12) (PySem.W.mg_of X G a12)
  have D_post_shade : Df l.prog w K mg base "post_shade" 1 ["posts", "sign"] (spP K f_post_shade) := d_post_shade T  (fun_mk (st := s_post_shade) l13 c13 k13) (PySem.W.mg_of X G a13)
  have D_shaded : Df l.prog w K mg base "shaded" 2 ["floor", "sign"] (spP K f_shaded) := d_shaded T D_awning_shade D_post_shade (fun_mk (st := s_shaded) l14 c14 k14) (PySem.W.mg_of X G a14)
  have D_parted : Df l.prog w K mg base "parted" 6 ["floor", "other", "sun"] (spP K f_parted) := d_parted T D_check_floor D_check_sun D_shaded (fun_mk (st := s_parted) l15 c15 k15) (PySem.W.mg_of X G a15)
  have D_check_beats : Df l.prog w K mg base "check_beats" 2 ["many"] (spP K f_check_beats) := d_check_beats T D_is_whole (fun_mk (st := s_check_beats) l16 c16 k16) (PySem.W.mg_of X G a16)
  have D_shade : Df l.prog w K mg base "shade" 6 ["floor", "sun", "beat"] (spP K f_shade) := d_shade T D_check_beats D_check_floor D_check_sun D_shaded (fun_mk (st := s_shade) l17 c17 k17) (PySem.W.mg_of X G a17)
  exact ok_law T D__law_floor D__law_sun D__law_taken D__law_turned D_parted D_shade (fun_mk (st := s_law) l18 c18 k18)
end Pr
set_option maxHeartbeats 0
theorem PySem.Challenge.cw_shadeseats_k18_whole_shades_of_parts_holds : PySem.Challenge.rw_shadeseats_k18_whole_shades_of_parts.Holds := by
  w_on; o_law; k_head; (case hw => w_witness2)
  k_fill
  refine L2.walk_ofK (l := PySem.Challenge.rw_shadeseats_k18_whole_shades_of_parts) (n := 63) (k := 7) (x := "_law_script") (CX := L2.CX0) (sp := fun K => Fn.spP K Pr.f_law) rfl (by decide) rfl ⟨rfl, by decide, by decide⟩ (fun w h Y => by first | exact PySem.W.kIn_of Y | exact PySem.W.km_in_of Y) ?F ?S (fun _ _ _ _ h => h)
  case S =>
    intro K H a ns hn ho hl
    refine ⟨[], [.list (ns.map PyData.int)], .bool true, Pr.law_ok ns, fun p hp => (by cases hp), .cons (.lst ?_ (Fn.dp_ofInts ns)) .nil, fun v H' s d => Fn.dp_bl d⟩
    rw [Fn.hide_nil]
    exact hl
  case F =>
    intro w mg fa h KX G hmg
    refine' Pr.all_mk KX G hmg (a0 := ?a0) (l0 := ?l0) (c0 := ?c0) (k0 := ?k0) (a1 := ?a1) (l1 := ?l1) (c1 := ?c1) (k1 := ?k1) (a2 := ?a2) (l2 := ?l2) (c2 := ?c2) (k2 := ?k2) (a3 := ?a3) (l3 := ?l3) (c3 := ?c3) (k3 := ?k3) (a4 := ?a4) (l4 := ?l4) (c4 := ?c4) (k4 := ?k4) (a5 := ?a5) (l5 := ?l5) (c5 := ?c5) (k5 := ?k5) (a6 := ?a6) (l6 := ?l6) (c6 := ?c6) (k6 := ?k6) (a7 := ?a7) (l7 := ?l7) (c7 := ?c7) (k7 := ?k7) (a8 := ?a8) (l8 := ?l8) (c8 := ?c8) (k8 := ?k8) (a9 := ?a9) (l9 := ?l9) (c9 := ?c9) (k9 := ?k9) (a10 := ?a10) (l10 := ?l10) (c10 := ?c10) (k10 := ?k10) (a11 := ?a11) (l11 := ?l11) (c11 := ?c11) (k11 := ?k11) (a12 := ?a12) (l12 := ?l12) (c12 := ?c12) (k12 := ?k12) (a13 := ?a13) (l13 := ?l13) (c13 := ?c13) (k13 := ?k13) (a14 := ?a14) (l14 := ?l14) (c14 := ?c14) (k14 := ?k14) (a15 := ?a15) (l15 := ?l15) (c15 := ?c15) (k15 := ?k15) (a16 := ?a16) (l16 := ?l16) (c16 := ?c16) (k16 := ?k16) (a17 := ?a17) (l17 := ?l17) (c17 := ?c17) (k17 := ?k17) (a18 := ?a18) (l18 := ?l18) (c18 := ?c18) (k18 := ?k18) (z_bool := ?z_bool) (z_dict := ?z_dict) (z_enumerate := ?z_enumerate) (z_int := ?z_int) (z_isinstance := ?z_isinstance) (z_len := ?z_len) (z_range := ?z_range) (z_set := ?z_set) (z_sorted := ?z_sorted) (z_str := ?z_str) (z_tuple := ?z_tuple) (z_zip := ?z_zip) (g_HIGHEST_POST := ?g_HIGHEST_POST) (g_LONGEST_SIDE := ?g_LONGEST_SIDE) (g_MOST_AWNINGS := ?g_MOST_AWNINGS) (g_MOST_POSTS := ?g_MOST_POSTS) (g_MOST_SIGNS := ?g_MOST_SIGNS) (g_SIGNS := ?g_SIGNS) (g_STEPS := ?g_STEPS) (o_STEPS := ?o_STEPS) (y_STEPS := ?y_STEPS) (i_STEPS_0 := ?i_STEPS_0) (j_STEPS_0 := ?j_STEPS_0) (i_STEPS_1 := ?i_STEPS_1) (j_STEPS_1 := ?j_STEPS_1) (i_STEPS_2 := ?i_STEPS_2) (j_STEPS_2 := ?j_STEPS_2) (i_STEPS_3 := ?i_STEPS_3) (j_STEPS_3 := ?j_STEPS_3) (i_STEPS_4 := ?i_STEPS_4) (j_STEPS_4 := ?j_STEPS_4)  (r_STEPS_0 := ?r_STEPS_0) (h_STEPS_0 := ?h_STEPS_0) (r_STEPS_1 := ?r_STEPS_1) (h_STEPS_1 := ?h_STEPS_1) (r_STEPS_2 := ?r_STEPS_2) (h_STEPS_2 := ?h_STEPS_2) (r_STEPS_3 := ?r_STEPS_3) (h_STEPS_3 := ?h_STEPS_3) (r_STEPS_4 := ?r_STEPS_4) (h_STEPS_4 := ?h_STEPS_4) 
    (case a0 => k_is)
    (case l0 => k_is)
    (case c0 => k_is)
    (case k0 => k_is)
    (case a1 => k_is)
    (case l1 => k_is)
    (case c1 => k_is)
    (case k1 => k_is)
    (case a2 => k_is)
    (case l2 => k_is)
    (case c2 => k_is)
    (case k2 => k_is)
    (case a3 => k_is)
    (case l3 => k_is)
    (case c3 => k_is)
    (case k3 => k_is)
    (case a4 => k_is)
    (case l4 => k_is)
    (case c4 => k_is)
    (case k4 => k_is)
    (case a5 => k_is)
    (case l5 => k_is)
    (case c5 => k_is)
    (case k5 => k_is)
    (case a6 => k_is)
    (case l6 => k_is)
    (case c6 => k_is)
    (case k6 => k_is)
    (case a7 => k_is)
    (case l7 => k_is)
    (case c7 => k_is)
    (case k7 => k_is)
    (case a8 => k_is)
    (case l8 => k_is)
    (case c8 => k_is)
    (case k8 => k_is)
    (case a9 => k_is)
    (case l9 => k_is)
    (case c9 => k_is)
    (case k9 => k_is)
    (case a10 => k_is)
    (case l10 => k_is)
    (case c10 => k_is)
    (case k10 => k_is)
    (case a11 => k_is)
    (case l11 => k_is)
    (case c11 => k_is)
    (case k11 => k_is)
    (case a12 => k_is)
    (case l12 => k_is)
    (case c12 => k_is)
    (case k12 => k_is)
    (case a13 => k_is)
    (case l13 => k_is)
    (case c13 => k_is)
    (case k13 => k_is)
    (case a14 => k_is)
    (case l14 => k_is)
    (case c14 => k_is)
    (case k14 => k_is)
    (case a15 => k_is)
    (case l15 => k_is)
    (case c15 => k_is)
    (case k15 => k_is)
    (case a16 => k_is)
    (case l16 => k_is)
    (case c16 => k_is)
    (case k16 => k_is)
    (case a17 => k_is)
    (case l17 => k_is)
    (case c17 => k_is)
    (case k17 => k_is)
    (case a18 => k_is)
    (case l18 => k_is)
    (case c18 => k_is)
    (case k18 => k_is)
    (case z_bool => k_is)
    (case z_dict => k_is)
    (case z_enumerate => k_is)
    (case z_int => k_is)
    (case z_isinstance => k_is)
    (case z_len => k_is)
    (case z_range => k_is)
    (case z_set => k_is)
    (case z_sorted => k_is)
    (case z_str => k_is)
    (case z_tuple => k_is)
    (case z_zip => k_is)
    (case g_HIGHEST_POST => k_is)
    (case g_LONGEST_SIDE => k_is)
    (case g_MOST_AWNINGS => k_is)
    (case g_MOST_POSTS => k_is)
    (case g_MOST_SIGNS => k_is)
    (case g_SIGNS => k_is)
    (case g_STEPS => k_is)
    (case o_STEPS => k_is)
    (case y_STEPS => repeat (first | exact True.intro | exact ⟨⟨_, _, rfl, rfl⟩, True.intro⟩ | refine ⟨⟨_, _, rfl, rfl⟩, ?_⟩))
    (case i_STEPS_0 => k_is)
    (case j_STEPS_0 => k_is)
    (case i_STEPS_1 => k_is)
    (case j_STEPS_1 => k_is)
    (case i_STEPS_2 => k_is)
    (case j_STEPS_2 => k_is)
    (case i_STEPS_3 => k_is)
    (case j_STEPS_3 => k_is)
    (case i_STEPS_4 => k_is)
    (case j_STEPS_4 => k_is)
    (case r_STEPS_0 => exact (.cons ⟨_, rfl⟩ (.cons ⟨_, rfl⟩ .nil)))
    (case h_STEPS_0 => decide)
    (case r_STEPS_1 => exact (.cons ⟨_, rfl⟩ (.cons ⟨_, rfl⟩ .nil)))
    (case h_STEPS_1 => decide)
    (case r_STEPS_2 => exact (.cons ⟨_, rfl⟩ (.cons ⟨_, rfl⟩ .nil)))
    (case h_STEPS_2 => decide)
    (case r_STEPS_3 => exact (.cons ⟨_, rfl⟩ (.cons ⟨_, rfl⟩ .nil)))
    (case h_STEPS_3 => decide)
    (case r_STEPS_4 => exact (.cons ⟨_, rfl⟩ (.cons ⟨_, rfl⟩ .nil)))
    (case h_STEPS_4 => decide)
