import PyProof.Rows.All
import Wide.All
import OpenK.AllK
import Wide.FinOn
import HandS.ForMost
import HandS.Deep
import HandS.Flow
import HandS.Style
import HandS.IsInst
import HandS.TupAny
import HandS.Zip
import HandS.NoneIn
import KE.GoesMore
import HandS.More
import PyProof.SeqIndex
import KE.GoesEnum
import HandS.WordsExc
import HandS.ExcIs
import HandS.ExcOwn
import HandS.TryOnly
import PyProof.EqAt
import HandS.FStr
import PyProof.StrBlock2
import PyProof.Rows.StrJoinRep
import HandS.ExcInit
import HandS.ExcSuper
import KE.KExcSuper
import HandS.ClsMeth
import KE.KSuperObj
import HandS.ExcField
import HandS.StrMore
import HandS.FStrTup
import PyProof.FitsInt
import HandS.TryMany
import KE.KExcStr
import HandS.ExcValue
import PySem.Challenge.RW_fewturns_k02_texts_of_no_grids
set_option Elab.async false
set_option linter.all false
set_option maxRecDepth 100000
set_option maxHeartbeats 4000000
/-! A calculus over plain data: what a piece of the program does to the values of its names, heaps left behind. -/
namespace DL
open PySem PySem.Spec PyProof.Rows L2

abbrev Sg := L2.St
abbrev Fp := Addr → Nat
def z0 : Fp := fun _ => 0
def padd (m n : Fp) : Fp := fun a => m a + n a
def one (p : Addr) : Fp := fun a => if a = p then 1 else 0
theorem padd_z (m : Fp) : padd m z0 = m := rfl
theorem z_padd (m : Fp) : padd z0 m = m := by funext a; exact Nat.zero_add _
theorem padd_assoc (a b c : Fp) : padd (padd a b) c = padd a (padd b c) := by funext x; exact Nat.add_assoc _ _ _

/-! ### frozen data -/
section
variable {K : PySem.W.Frag} {H H' : Hp}
theorem same_t {a : Addr} {xs : List V} (e : Same H H') (h : SqT K H a xs) : SqT K H' a xs := by
  rcases h with (h | ⟨o, h⟩) | h
  · exact .inl (.inl (e _ _ h))
  · exact .inl (.inr ⟨o, e _ _ h⟩)
  · exact .inr h
mutual
theorem dpm (e : Same H H') : ∀ (d : PyData) (v : V), Dp K H v d → Dp K H' v d
  | .none, _, h => by cases h; exact .non
  | .bool b, _, h => by cases h; exact .bl b
  | .int i, _, h => by cases h; exact .int i
  | .str x, _, h => by cases h; exact .str x
  | .list ds, _, h => by
    cases h with
    | lst hs ha => exact .lst (e.seq hs) (dpam e ds _ ha)
  | .tuple ds, _, h => by
    cases h with
    | tup hs ha => exact .tup (same_t e hs) (dpam e ds _ ha)
  | .dict _, _, h => by cases h
theorem dpam (e : Same H H') : ∀ (ds : List PyData) (vs : List V), DpAll K H vs ds → DpAll K H' vs ds
  | [], _, h => by cases h; exact .nil
  | d :: ds, _, h => by
    cases h with
    | cons h1 h2 => exact .cons (dpm e d _ h1) (dpam e ds _ h2)
end
end
end DL
namespace L2
open PySem
section
variable {K : PySem.W.Frag} {H : Hp}
theorem DpAll.length : ∀ {vs : List V} {ds : List PyData}, DpAll K H vs ds → vs.length = ds.length
  | _, _, .nil => rfl
  | _, _, .cons _ h => by rw [List.length_cons, List.length_cons, DpAll.length h]
theorem DpAll.get : ∀ {vs : List V} {ds : List PyData} {i : Nat} {d : PyData}, DpAll K H vs ds → ds[i]? = some d → ∃ v, vs[i]? = some v ∧ Dp K H v d
  | _, _, _, _, .nil, e => by simp at e
  | _, _, 0, _, .cons h _, e => by simp at e; subst e; exact ⟨_, rfl, h⟩
  | _, _, i + 1, _, .cons _ h, e => by
    obtain ⟨v, h1, h2⟩ := DpAll.get (i := i) h (by simpa using e)
    exact ⟨v, by simpa using h1, h2⟩
theorem DpAll.getV : ∀ {vs : List V} {ds : List PyData} {i : Nat} {v : V}, DpAll K H vs ds → vs[i]? = some v → ∃ d, ds[i]? = some d ∧ Dp K H v d
  | _, _, _, _, .nil, e => by simp at e
  | _, _, 0, _, .cons h _, e => by simp at e; subst e; exact ⟨_, rfl, h⟩
  | _, _, i + 1, _, .cons _ h, e => by
    obtain ⟨v, h1, h2⟩ := DpAll.getV (i := i) h (by simpa using e)
    exact ⟨v, by simpa using h1, h2⟩
theorem DpAll.append : ∀ {vs ws : List V} {ds es : List PyData}, DpAll K H vs ds → DpAll K H ws es → DpAll K H (vs ++ ws) (ds ++ es)
  | _, _, _, _, .nil, s => s
  | _, _, _, _, .cons r t, s => .cons r (DpAll.append t s)
theorem DpAll.set {d : PyData} {v : V} (r : Dp K H v d) : ∀ {vs : List V} {ds : List PyData} (i : Nat), DpAll K H vs ds → DpAll K H (vs.set i v) (ds.set i d)
  | _, _, _, .nil => .nil
  | _, _, 0, .cons _ t => .cons r t
  | _, _, i + 1, .cons q t => .cons q (DpAll.set r i t)
theorem DpAll.take : ∀ {vs : List V} {ds : List PyData} (n : Nat), DpAll K H vs ds → DpAll K H (vs.take n) (ds.take n)
  | _, _, 0, _ => .nil
  | _, _, _ + 1, .nil => .nil
  | _, _, n + 1, .cons r t => .cons r (DpAll.take n t)
theorem DpAll.drop : ∀ {vs : List V} {ds : List PyData} (n : Nat), DpAll K H vs ds → DpAll K H (vs.drop n) (ds.drop n)
  | _, _, 0, r => r
  | _, _, _ + 1, .nil => .nil
  | _, _, n + 1, .cons _ t => DpAll.drop n t
theorem DpAll.reverse : ∀ {vs : List V} {ds : List PyData}, DpAll K H vs ds → DpAll K H vs.reverse ds.reverse
  | _, _, .nil => .nil
  | _, _, .cons r t => by
    rw [List.reverse_cons, List.reverse_cons]
    exact DpAll.append (DpAll.reverse t) (.cons r .nil)
end
end L2
namespace DL
open PySem PySem.Spec PyProof.Rows L2

/-! ### exceptions that were caught -/
/-- at a: an exception object of the class cls, its dict at d -/
def exK (a : Addr) (cls : Value) (d : Option Addr) : HO := .ext fun h => ∃ oe vs, h.get? a = some oe ∧ oe.cls = cls ∧ oe.dict = d ∧ oe.data = .fields vs
/-- v is an exception of the module's class n, which keeps k -/
def ExcT (K : PySem.W.Frag) (F : Hp) (n : Str) (k : Option (Str × PyData)) (v : V) : Prop := ∃ a C d, v = .ref a ∧ PySem.W.nsIn K mainGlobals n = some (some (.ref C)) ∧ F a = some (exK a (.ref C) d) ∧ match k with
  | none => d = none
  | some (f, y) => ∃ dd u, d = some dd ∧ F dd = some (.xd [(f, u)]) ∧ Dp K F u y
theorem ExcT.kp {K : PySem.W.Frag} {F F' : Hp} {n : Str} {k : Option (Str × PyData)} {v : V} (x : ExcT K F n k v) (e : Same F F') : ExcT K F' n k v := by
  obtain ⟨a, C, d, h1, h2, h3, h4⟩ := x
  refine ⟨a, C, d, h1, h2, e _ _ h3, ?_⟩
  cases k with
  | none => exact h4
  | some p =>
    obtain ⟨dd, u, g1, g2, g3⟩ := h4
    exact ⟨dd, u, g1, e _ _ g2, dpm e _ _ g3⟩
/-! ### dicts -/
inductive DD where
  | dk (es : List (L2.Key × PyData))
  | dt (es : List (List L2.Key × PyData))
  | dd (ess : List (List L2.Key × List (List L2.Key × PyData)))
/-- what stands at a dict -/
def HoT (K : PySem.W.Frag) (F : Hp) : DD → HO → Prop
  | .dk es, o => ∃ kvs : List (L2.Key × V), o = .dK kvs ∧ kvs.map (·.1) = es.map (·.1) ∧ DpAll K F (kvs.map (·.2)) (es.map (·.2))
  | .dt es, o => ∃ kvs : List (List L2.Key × V), o = .dT kvs ∧ kvs.map (·.1) = es.map (·.1) ∧ DpAll K F (kvs.map (·.2)) (es.map (·.2))
  | .dd ess, o => ∃ kvs : List (List L2.Key × V), o = .dT kvs ∧ kvs.map (·.1) = ess.map (·.1) ∧ ∀ (i : Nat) v es, (kvs.map (·.2))[i]? = some v → (ess.map (·.2))[i]? = some es →
      ∃ a js, v = .ref a ∧ F a = some (.dT js) ∧ js.map (·.1) = es.map (·.1) ∧ DpAll K F (js.map (·.2)) (es.map (·.2))
theorem HoT.kp {K : PySem.W.Frag} {F F' : Hp} {t : DD} {o : HO} (h : HoT K F t o) (e : Same F F') : HoT K F' t o := by
  cases t with
  | dk es => obtain ⟨kvs, h1, h2, h3⟩ := h; exact ⟨kvs, h1, h2, dpam e _ _ h3⟩
  | dt es => obtain ⟨kvs, h1, h2, h3⟩ := h; exact ⟨kvs, h1, h2, dpam e _ _ h3⟩
  | dd ess =>
    obtain ⟨kvs, h1, h2, h3⟩ := h
    refine ⟨kvs, h1, h2, fun i v es a b => ?_⟩
    obtain ⟨q, js, e1, e2, e3, e4⟩ := h3 i v es a b
    exact ⟨q, js, e1, e _ _ e2, e3, dpam e _ _ e4⟩
def FxT (K : PySem.W.Frag) (F : Hp) (t : DD) (v : V) : Prop := ∃ a o, v = .ref a ∧ F a = some o ∧ HoT K F t o
theorem FxT.kp {K : PySem.W.Frag} {F F' : Hp} {t : DD} {v : V} (h : FxT K F t v) (e : Same F F') : FxT K F' t v := let ⟨a, o, h1, h2, h3⟩ := h; ⟨a, o, h1, e _ _ h2, h3.kp e⟩
/-! ### values of names: frozen data, or an own list -/
inductive OT where
  | fz (d : PyData)
  | lst (p : Addr) (ds : List PyData)
  | lls (p : Addr) (dss : List (List PyData))
  | vv (v : V)
  | exc (n : Str) (k : Option (Str × PyData))
  | fx (t : DD)
  | ox (p : Addr) (t : DD)
def OT.data : OT → Option PyData
  | .fz d => some d
  | .lst _ ds => some (.list ds)
  | .lls _ dss => some (.list (dss.map .list))
  | .vv _ => none
  | .exc _ _ => none
  | .fx _ => none
  | .ox _ _ => none
def OwnT (K : PySem.W.Frag) (F H : Hp) : OT → V → Fp → Prop
  | .fz d, v, m => Dp K F v d ∧ m = z0
  | .lst p ds, v, m => ∃ vs, v = .ref p ∧ H p = some (.lst vs) ∧ DpAll K F vs ds ∧ m = one p
  | .lls p dss, v, m => ∃ (ps : List Addr), v = .ref p ∧ H p = some (.lst (ps.map V.ref)) ∧ ps.length = dss.length ∧ (∀ (i : Nat) q ds, ps[i]? = some q → dss[i]? = some ds → ∃ vs, H q = some (.lst vs) ∧ DpAll K F vs ds) ∧ (p :: ps).Nodup ∧ m = fun a => (p :: ps).count a
  | .vv v', v, m => v = v' ∧ m = z0
  | .exc n k, v, m => ExcT K F n k v ∧ m = z0
  | .fx t, v, m => FxT K F t v ∧ m = z0
  | .ox p t, v, m => (∃ o, v = .ref p ∧ H p = some o ∧ HoT K F t o) ∧ m = one p
abbrev Rho := List (Option OT)
inductive OwnS (K : PySem.W.Frag) (F H : Hp) : Rho → Sg → Fp → Prop
  | nil : OwnS K F H [] [] z0
  | un {ρ : Rho} {σ : Sg} {m : Fp} {x : Option V} : OwnS K F H ρ σ m → OwnS K F H (none :: ρ) (x :: σ) m
  | sm {ρ : Rho} {σ : Sg} {m n : Fp} {t : OT} {v : V} : OwnT K F H t v m → OwnS K F H ρ σ n → OwnS K F H (some t :: ρ) (some v :: σ) (padd m n)
structure SI (K : PySem.W.Frag) (F H : Hp) (σ : Sg) (ρ : Rho) (fr : Fp) : Prop where
  ex : Same F H
  own : ∃ m, OwnS K F H ρ σ m ∧ ∀ a, m a + fr a ≤ 1 ∧ (m a + fr a ≠ 0 → F a = none ∧ H a ≠ none)
structure Kp (F H : Hp) (fr : Fp) (F' H' : Hp) : Prop where
  exF : Same F F'
  keep : ∀ a, fr a ≠ 0 → H' a = H a
  grow : ∀ a, H a ≠ none → H' a ≠ none
theorem Kp.refl {F H : Hp} {fr : Fp} : Kp F H fr F H := ⟨Same.refl F, fun _ _ => rfl, fun _ h => h⟩
theorem Kp.trans {F H F1 H1 F2 H2 : Hp} {fr : Fp} (a : Kp F H fr F1 H1) (b : Kp F1 H1 fr F2 H2) : Kp F H fr F2 H2 :=
  ⟨a.exF.trans b.exF, fun x h => (b.keep x h).trans (a.keep x h), fun x h => b.grow x (a.grow x h)⟩
theorem Kp.less {F H F1 H1 : Hp} {fr fr' : Fp} (a : Kp F H fr F1 H1) (h : ∀ x, fr' x ≠ 0 → fr x ≠ 0) : Kp F H fr' F1 H1 := ⟨a.exF, fun x q => a.keep x (h x q), a.grow⟩
theorem Kp.left {F H F1 H1 : Hp} {fr m : Fp} (a : Kp F H (padd fr m) F1 H1) : Kp F H fr F1 H1 := a.less fun x h => by unfold padd; omega
inductive RV where
  | tm (t : OT)
  | sl (i : Nat)
abbrev RV.fz (d : PyData) : RV := .tm (.fz d)
def look : Rho → Nat → Option OT
  | [], _ => none
  | x :: _, 0 => x
  | _ :: r, n + 1 => look r n
def RV.ot (ρ : Rho) : RV → Option OT
  | .tm t => some t
  | .sl i => look ρ i
def RV.dat (ρ : Rho) (r : RV) : Option PyData := (r.ot ρ).bind OT.data
def RVok (K : PySem.W.Frag) (F H : Hp) (σ : Sg) : RV → V → Fp → Prop
  | .tm t, v, m => OwnT K F H t v m
  | .sl i, v, m => m = z0 ∧ σ[i]? = some (some v)

section
variable {K : PySem.W.Frag} {F H F' H' : Hp} {σ : Sg} {ρ : Rho} {fr m : Fp} {t : OT} {v : V} {r : RV} {d : PyData}
theorem OwnT.dp (o : OwnT K F H t v m) (e : Same F H) (h : t.data = some d) : Dp K H v d := by
  cases t with
  | fz x => cases h; exact dpm e _ _ o.1
  | lst p ds =>
    cases h
    obtain ⟨vs, rfl, hp, ha, _⟩ := o
    exact .lst (SqL.of hp) (dpam e _ _ ha)
  | lls p dss =>
    cases h
    obtain ⟨ps, rfl, hp, hl, hi, _, _⟩ := o
    refine .lst (SqL.of hp) ?_
    have : ∀ (ps : List Addr) (dss : List (List PyData)), ps.length = dss.length → (∀ (i : Nat) q ds, ps[i]? = some q → dss[i]? = some ds → ∃ vs, H q = some (.lst vs) ∧ DpAll K F vs ds) → DpAll K H (ps.map V.ref) (dss.map PyData.list) := by
      intro ps
      induction ps with
      | nil => intro dss hl _; cases dss with
        | nil => exact .nil
        | cons _ _ => cases hl
      | cons q ps ih => intro dss hl hi; cases dss with
        | nil => cases hl
        | cons ds dss =>
          obtain ⟨vs, h1, h2⟩ := hi 0 q ds rfl rfl
          exact .cons (.lst (SqL.of h1) (dpam e _ _ h2)) (ih dss (by simpa using hl) fun i q ds a b => hi (i + 1) q ds (by simpa using a) (by simpa using b))
    exact this ps dss hl hi
  | vv _ => cases h
  | exc _ _ => cases h
  | fx _ => cases h
  | ox _ _ => cases h
theorem OwnT.kp (o : OwnT K F H t v m) (e : Same F F') (h : ∀ a, m a ≠ 0 → H' a = H a) : OwnT K F' H' t v m := by
  cases t with
  | fz x => exact ⟨dpm e _ _ o.1, o.2⟩
  | lst p ds =>
    obtain ⟨vs, rfl, hp, ha, rfl⟩ := o
    exact ⟨vs, rfl, (h p (by simp [one])).trans hp, dpam e _ _ ha, rfl⟩
  | lls p dss =>
    obtain ⟨ps, rfl, hp, hl, hi, nd, rfl⟩ := o
    refine ⟨ps, rfl, (h p (by simp)).trans hp, hl, fun i q ds a b => ?_, nd, rfl⟩
    obtain ⟨vs, h1, h2⟩ := hi i q ds a b
    have hm : q ∈ p :: ps := List.mem_cons_of_mem _ (List.mem_of_getElem? a)
    exact ⟨vs, (h q (by have := List.count_pos_iff.mpr hm; show List.count q (p :: ps) ≠ 0; omega)).trans h1, dpam e _ _ h2⟩
  | vv _ => exact o
  | exc n k => exact ⟨o.1.kp e, o.2⟩
  | fx t => exact ⟨o.1.kp e, o.2⟩
  | ox p t =>
    obtain ⟨⟨ho, rfl, hp, ha⟩, rfl⟩ := o
    exact ⟨⟨ho, rfl, (h p (by simp [one])).trans hp, ha.kp e⟩, rfl⟩
theorem OwnS.kp (o : OwnS K F H ρ σ m) (e : Same F F') (h : ∀ a, m a ≠ 0 → H' a = H a) : OwnS K F' H' ρ σ m := by
  induction o with
  | nil => exact .nil
  | un _ ih => exact .un (ih h)
  | sm ht _ ih => exact .sm (ht.kp e fun a q => h a (by unfold padd; omega)) (ih fun a q => h a (by unfold padd; omega))
theorem OwnS.len (o : OwnS K F H ρ σ m) : σ.length = ρ.length := by
  induction o with
  | nil => rfl
  | un _ ih => simp [ih]
  | sm _ _ ih => simp [ih]
/-- a slot taken out, another value put there -/
theorem OwnS.at (o : OwnS K F H ρ σ m) {i : Nat} (hi : i < ρ.length) : ∃ m1 m2, m = padd m1 m2 ∧
    (∀ t, look ρ i = some t → ∃ v, σ[i]? = some (some v) ∧ OwnT K F H t v m1) ∧ (look ρ i = none → m1 = z0) ∧
    (∀ x, OwnS K F H (ρ.set i none) (σ.set i x) m2) ∧ OwnS K F H (ρ.set i none) σ m2 ∧
    (∀ t' v' m', OwnT K F H t' v' m' → ∃ m'', OwnS K F H (ρ.set i (some t')) (σ.set i (some v')) m'' ∧ ∀ a, m'' a = m' a + m2 a) := by
  induction o generalizing i with
  | nil => cases hi
  | @un ρ σ m x o ih =>
    cases i with
    | zero => exact ⟨z0, m, (z_padd m).symm, fun t e => (by cases e), fun _ => rfl, fun x => .un o, .un o, fun t' v' m' h => ⟨_, .sm h o, fun a => rfl⟩⟩
    | succ i =>
      obtain ⟨m1, m2, e, h1, h0, h2, h2', h3⟩ := ih (i := i) (by simpa using hi)
      refine ⟨m1, m2, e, fun t e => ?_, h0, fun x => .un (h2 x), .un h2', fun t' v' m' h => ?_⟩
      · obtain ⟨v, a, b⟩ := h1 t e
        exact ⟨v, by simpa using a, b⟩
      · obtain ⟨m'', a, b⟩ := h3 t' v' m' h
        exact ⟨m'', .un a, b⟩
  | @sm ρ σ m n t v ht o ih =>
    cases i with
    | zero => exact ⟨m, n, rfl, fun t' e => (by cases e; exact ⟨v, rfl, ht⟩), fun e => (by cases e), fun x => .un o, .un o, fun t' v' m' h => ⟨_, .sm h o, fun a => rfl⟩⟩
    | succ i =>
      obtain ⟨m1, m2, e, h1, h0, h2, h2', h3⟩ := ih (i := i) (by simpa using hi)
      refine ⟨m1, padd m m2, ?_, fun t e => ?_, h0, fun x => .sm ht (h2 x), .sm ht h2', fun t' v' m' h => ?_⟩
      · subst e; funext a; unfold padd; omega
      · obtain ⟨v, a, b⟩ := h1 t e
        exact ⟨v, by simpa using a, b⟩
      · obtain ⟨m'', a, b⟩ := h3 t' v' m' h
        exact ⟨padd m m'', .sm ht a, fun a => by unfold padd; rw [b a]; omega⟩
theorem look_lt : ∀ {ρ : Rho} {i : Nat} {t : OT}, look ρ i = some t → i < ρ.length
  | [], _, _, h => by cases h
  | _ :: _, 0, _, _ => by simp
  | _ :: r, i + 1, _, h => by have := look_lt (ρ := r) h; simpa using this
/-- less is framed -/
theorem SI.less (S : SI K F H σ ρ fr) {fr' : Fp} (h : ∀ a, fr' a ≤ fr a) : SI K F H σ ρ fr' := by
  obtain ⟨m, o, q⟩ := S.own
  refine ⟨S.ex, m, o, fun a => ?_⟩
  obtain ⟨q1, q2⟩ := q a
  have := h a
  exact ⟨by omega, fun n => q2 (by omega)⟩
theorem SI.left (S : SI K F H σ ρ (padd fr m)) : SI K F H σ ρ fr := S.less fun a => by unfold padd; omega
theorem SI.slot (S : SI K F H σ ρ fr) {i : Nat} (h : look ρ i = some t) : ∃ v m1, σ[i]? = some (some v) ∧ OwnT K F H t v m1 := by
  obtain ⟨m, o, _⟩ := S.own
  obtain ⟨m1, m2, _, h1, _⟩ := o.at (look_lt h)
  obtain ⟨v, a, b⟩ := h1 t h
  exact ⟨v, m1, a, b⟩
/-- what a value is, to be read at once -/
theorem RVok.dp (o : RVok K F H σ r v m) (S : SI K F H σ ρ fr) (h : r.dat ρ = some d) : Dp K H v d := by
  cases r with
  | tm t => exact OwnT.dp o S.ex h
  | sl i =>
    obtain ⟨_, hv⟩ := o
    have h' : (look ρ i).bind OT.data = some d := h
    cases e : look ρ i with
    | none => rw [e] at h'; cases h'
    | some t =>
      rw [e] at h'
      obtain ⟨v', m1, e1, e2⟩ := S.slot e
      rw [hv] at e1
      cases e1
      exact OwnT.dp e2 S.ex h'
/-- kept while something else is reckoned -/
theorem RVok.kp (o : RVok K F H σ r v m) (k : Kp F H (padd fr m) F' H') : RVok K F' H' σ r v m := by
  cases r with
  | tm t => exact OwnT.kp o k.exF fun a q => k.keep a (by unfold padd; omega)
  | sl i => exact o
end

/-- two ways -/
def bmt (b : Bool) (A B : Prop) : Prop := match b with
  | true => A
  | false => B
theorem bm {b : Bool} {A B : Prop} (h1 : b = true → A) (h0 : b = false → B) : bmt b A B := by
  cases b with
  | true => exact h1 rfl
  | false => exact h0 rfl
theorem bmd {p : Prop} [Decidable p] {A B : Prop} (h1 : p → A) (h0 : ¬ p → B) : bmt (decide p) A B := bm (fun h => h1 (of_decide_eq_true h)) fun h => h0 (of_decide_eq_false h)
theorem bmn {p : Prop} [Decidable p] {A B : Prop} (h1 : ¬ p → A) (h0 : p → B) : bmt (!decide p) A B := by
  refine bm (fun h => h1 fun q => ?_) fun h => h0 ?_
  · rw [decide_eq_true q] at h; cases h
  · exact Decidable.byContradiction fun q => by rw [decide_eq_false q] at h; cases h
theorem bmt_and {p : Prop} [Decidable p] {A : Prop} (h : bmt (decide p) A False) : p ∧ A := by
  by_cases q : p
  · rw [decide_eq_true q] at h
    exact ⟨q, h⟩
  · rw [decide_eq_false q] at h
    exact h.elim
/-! ### expressions -/
abbrev WE := Rho → (RV → Rho → Prop) → Prop
abbrev WT := Rho → (Bool → Rho → Prop) → Prop
abbrev WA := Rho → (List RV → Rho → Prop) → Prop
structure DE (X : Cx) (e : Expr) (w : WE) : Prop where
  run : ∃ t : TE, PE X e t ∧ ∀ (σ : Sg) (H F : Hp) (ρ : Rho) (fr : Fp) (Q : RV → Rho → Prop) (Q' : VK), SI X.K F H σ ρ fr → w ρ Q →
    (∀ v H' F' ρ' r m, Q r ρ' → RVok X.K F' H' σ r v m → SI X.K F' H' σ ρ' (padd fr m) → Kp F H fr F' H' → Q' v H') → t σ H Q'
structure DT (X : Cx) (e : Expr) (w : WT) : Prop where
  run : ∃ t : TT, PT X e t ∧ ∀ (σ : Sg) (H F : Hp) (ρ : Rho) (fr : Fp) (Q : Bool → Rho → Prop) (Q' : Bool → Hp → Prop), SI X.K F H σ ρ fr → w ρ Q →
    (∀ b H' F' ρ', Q b ρ' → SI X.K F' H' σ ρ' fr → Kp F H fr F' H' → Q' b H') → t σ H Q'
/-- arguments, all at once -/
inductive RVsOk (K : PySem.W.Frag) (F H : Hp) (σ : Sg) : List RV → List V → Fp → Prop
  | nil : RVsOk K F H σ [] [] z0
  | cons {r : RV} {v : V} {m n : Fp} {rs : List RV} {vs : List V} : RVok K F H σ r v m → RVsOk K F H σ rs vs n → RVsOk K F H σ (r :: rs) (v :: vs) (padd m n)
structure DA (X : Cx) (es : List Expr) (w : WA) : Prop where
  run : ∃ t : TA, PA X es t ∧ ∀ (σ : Sg) (H F : Hp) (ρ : Rho) (fr : Fp) (Q : List RV → Rho → Prop) (Q' : List V → Hp → Prop), SI X.K F H σ ρ fr → w ρ Q →
    (∀ vs H' F' ρ' rs m, Q rs ρ' → RVsOk X.K F' H' σ rs vs m → SI X.K F' H' σ ρ' (padd fr m) → Kp F H fr F' H' → Q' vs H') → t σ H Q'

def wC (d : PyData) : WE := fun ρ Q => Q (.fz d) ρ
def wVar (i : Nat) : WE := fun ρ Q => match look ρ i with
  | some (.fz d) => Q (.fz d) ρ
  | some (.vv v) => Q (.tm (.vv v)) ρ
  | some (.exc n k) => Q (.tm (.exc n k)) ρ
  | some (.fx t) => Q (.tm (.fx t)) ρ
  | some (.ox _ _) => Q (.sl i) ρ
  | some (.lst _ _) => Q (.sl i) ρ
  | some (.lls _ _) => Q (.sl i) ρ
  | none => False
section
variable {X : Cx}
theorem de_c {e : Expr} {v : V} {d : PyData} (h : PE X e (tC v)) (hd : ∀ F : Hp, Dp X.K F v d) : DE X e (wC d) :=
  ⟨_, h, fun σ H F ρ fr Q Q' S hw k => k v H F ρ (.fz d) z0 hw ⟨hd F, rfl⟩ S Kp.refl⟩
theorem de_int {i : Int} {j : Nat} {pos : Pos} : DE X (.Constant (.int i) j pos) (wC (.int i)) := de_c pe_int fun _ => .int i
theorem de_bl {b : Bool} {j : Nat} {pos : Pos} : DE X (.Constant (.bool b) j pos) (wC (.bool b)) := de_c pe_bl fun _ => .bl b
theorem de_non {j : Nat} {pos : Pos} : DE X (.Constant .none j pos) (wC .none) := de_c pe_non fun _ => .non
theorem de_str {x : Str} {j : Nat} {pos : Pos} : DE X (.Constant (.str x) j pos) (wC (.str x)) := de_c pe_str fun _ => .str x
theorem de_var (i : Nat) {x : Str} {pos : Pos} (hN : X.N[i]? = some x := by rfl) (hv : Vis X.env.scope x := by first | exact Or.inl rfl | exact Or.inr (Or.inl rfl) | exact Or.inr (Or.inr rfl)) (hd : (x == ("__debug__" : Str)) = false := by decide)
    (hcd : (x == ("__classdict__" : Str)) = false := by decide) : DE X (.Name x pos) (wVar i) := by
  refine ⟨_, pe_var hN hv hd hcd, fun σ H F ρ fr Q Q' S hw k => ?_⟩
  unfold wVar at hw
  cases e : look ρ i with
  | none => rw [e] at hw; exact hw.elim
  | some t =>
    rw [e] at hw
    obtain ⟨v, m1, e1, o⟩ := S.slot e
    refine ⟨v, e1, ?_⟩
    cases t with
    | fz d => exact k v H F ρ (.fz d) z0 hw (by rw [← o.2]; exact o) S Kp.refl
    | vv u => exact k v H F ρ (.tm (.vv u)) z0 hw (by rw [← o.2]; exact o) S Kp.refl
    | exc n y => exact k v H F ρ (.tm (.exc n y)) z0 hw (by rw [← o.2]; exact o) S Kp.refl
    | fx t => exact k v H F ρ (.tm (.fx t)) z0 hw (by rw [← o.2]; exact o) S Kp.refl
    | ox p t => exact k v H F ρ (.sl i) z0 hw ⟨rfl, e1⟩ S Kp.refl
    | lst p ds => exact k v H F ρ (.sl i) z0 hw ⟨rfl, e1⟩ S Kp.refl
    | lls p ds => exact k v H F ρ (.sl i) z0 hw ⟨rfl, e1⟩ S Kp.refl
/-- a value without a heap -/
inductive Sc : V → PyData → Prop
  | non : Sc .non .none
  | bl (b : Bool) : Sc (.bl b) (.bool b)
  | int (i : Int) : Sc (.int i) (.int i)
  | str (x : Str) : Sc (.str x) (.str x)
theorem Sc.dp {K : PySem.W.Frag} {F : Hp} {v : V} {d : PyData} (h : Sc v d) : Dp K F v d := by
  cases h with
  | non => exact .non
  | bl b => exact .bl b
  | int i => exact .int i
  | str x => exact .str x
/-- two values read -/
def dat2 (r1 r2 : RV) (ρ : Rho) (k : PyData → PyData → Prop) : Prop := match r1.dat ρ, r2.dat ρ with
  | some d, some e => k d e
  | _, _ => False
theorem dat2_iff {r1 r2 : RV} {ρ : Rho} {k : PyData → PyData → Prop} (h : dat2 r1 r2 ρ k) : ∃ d e, r1.dat ρ = some d ∧ r2.dat ρ = some e ∧ k d e := by
  unfold dat2 at h
  split at h
  · rename_i d e h1 h2
    exact ⟨d, e, h1, h2, h⟩
  · exact h.elim
abbrev G2 := PyData → PyData → (PyData → Prop) → Prop
def wOp2 (g : G2) (wa wb : WE) : WE := fun ρ Q => wa ρ fun r1 ρ1 => wb ρ1 fun r2 ρ2 => dat2 r1 r2 ρ2 fun d e => g d e fun d' => Q (.fz d') ρ2
/-- an operation whose answer is no object -/
def Op2 (K : PySem.W.Frag) (r : R2) (g : G2) : Prop := ∀ (x y : V) (d e : PyData) (H : Hp) (G : PyData → Prop) (Q : VK), Dp K H x d → Dp K H y e → g d e G → (∀ v d', Sc v d' → G d' → Q v H) → r x y H Q
theorem op2_run {a b : Expr} {wa wb : WE} {ta tb : TE} {r : R2} {g : G2} (ho : Op2 X.K r g)
    (ha : ∀ (σ : Sg) (H F : Hp) (ρ : Rho) (fr : Fp) (Q : RV → Rho → Prop) (Q' : VK), SI X.K F H σ ρ fr → wa ρ Q → (∀ v H' F' ρ' r m, Q r ρ' → RVok X.K F' H' σ r v m → SI X.K F' H' σ ρ' (padd fr m) → Kp F H fr F' H' → Q' v H') → ta σ H Q')
    (hb : ∀ (σ : Sg) (H F : Hp) (ρ : Rho) (fr : Fp) (Q : RV → Rho → Prop) (Q' : VK), SI X.K F H σ ρ fr → wb ρ Q → (∀ v H' F' ρ' r m, Q r ρ' → RVok X.K F' H' σ r v m → SI X.K F' H' σ ρ' (padd fr m) → Kp F H fr F' H' → Q' v H') → tb σ H Q') :
    ∀ (σ : Sg) (H F : Hp) (ρ : Rho) (fr : Fp) (Q : RV → Rho → Prop) (Q' : VK), SI X.K F H σ ρ fr → wOp2 g wa wb ρ Q → (∀ v H' F' ρ' d, Q (.fz d) ρ' → Sc v d → SI X.K F' H' σ ρ' fr → Kp F H fr F' H' → Q' v H') → tOp r ta tb σ H Q' := by
  intro σ H F ρ fr Q Q' S hw k
  refine ha σ H F ρ fr _ _ S hw fun v1 H1 F1 ρ1 r1 m1 hw o1 S1 k1 => ?_
  refine hb σ H1 F1 ρ1 _ _ _ S1 hw fun v2 H2 F2 ρ2 r2 m2 hw o2 S2 k2 => ?_
  obtain ⟨d, e, e1, e2, hg⟩ := dat2_iff hw
  refine ho v1 v2 d e H2 _ _ ((o1.kp k2).dp S2 e1) (o2.dp S2 e2) hg fun v d' sc q => ?_
  exact k v H2 F2 ρ2 d' q sc S2.left.left (k1.trans k2.left)
theorem de_op2 {a b : Expr} {wa wb : WE} {op : Operator} {r : R2} {g : G2} {pos : Pos} (hr : OpR X (binaryOp op) r) (ho : Op2 X.K r g) (ha : DE X a wa) (hb : DE X b wb) : DE X (.BinOp a op b pos) (wOp2 g wa wb) := by
  obtain ⟨ta, pa, ra⟩ := ha
  obtain ⟨tb, pb, rb⟩ := hb
  refine ⟨_, pe_op hr pa pb, fun σ H F ρ fr Q Q' S hw k => ?_⟩
  exact op2_run (a := a) (b := b) ho ra rb σ H F ρ fr Q Q' S hw fun v H' F' ρ' d q sc S' k' => k v H' F' ρ' (.fz d) z0 q ⟨sc.dp, rfl⟩ S' k'
theorem de_cmp {a b : Expr} {wa wb : WE} {op : CmpOp} {r : R2} {g : G2} {pos : Pos} (hr : OpR X (compareOp op) r) (ho : Op2 X.K r g) (ha : DE X a wa) (hb : DE X b wb) (hm : behindInMarks op b = false) : DE X (.Compare a [op] [b] pos) (wOp2 g wa wb) := by
  obtain ⟨ta, pa, ra⟩ := ha
  obtain ⟨tb, pb, rb⟩ := hb
  refine ⟨_, pe_cmpR hr pa pb hm, fun σ H F ρ fr Q Q' S hw k => ?_⟩
  exact op2_run (a := a) (b := b) ho ra rb σ H F ρ fr Q Q' S hw fun v H' F' ρ' d q sc S' k' => k v H' F' ρ' (.fz d) z0 q ⟨sc.dp, rfl⟩ S' k'
/-- a value as a test -/
def asB (r : RV) (ρ : Rho) (k : Bool → Prop) : Prop := match r.dat ρ with
  | some (.bool b) => k b
  | _ => False
def wTst (wa : WE) : WT := fun ρ Q => wa ρ fun r ρ1 => asB r ρ1 fun b => Q b ρ1
theorem dt_cmp {a b : Expr} {wa wb : WE} {op : CmpOp} {r : R2} {g : G2} {pos : Pos} (hr : OpR X (compareOp op) r) (ho : Op2 X.K r g) (ha : DE X a wa) (hb : DE X b wb) (hm : behindInMarks op b = false) : DT X (.Compare a [op] [b] pos) (wTst (wOp2 g wa wb)) := by
  obtain ⟨ta, pa, ra⟩ := ha
  obtain ⟨tb, pb, rb⟩ := hb
  refine ⟨_, pt_cmpR hr pa pb hm, fun σ H F ρ fr Q Q' S hw k => ?_⟩
  refine op2_run (a := a) (b := b) ho ra rb σ H F ρ fr _ _ S hw fun v H' F' ρ' d q sc S' k' => ?_
  cases sc with
  | bl b => exact ⟨b, rfl, k b H' F' ρ' q S' k'⟩
  | non => exact q.elim
  | int _ => exact q.elim
  | str _ => exact q.elim
theorem dt_val {e : Expr} {wa : WE} (ha : DE X e wa) (he : ∀ whole, isTrue e X.env whole = (do let v ← whole; standAt e.pos; holding [v] (truthy v)) := by intro _; rfl) : DT X e (wTst wa) := by
  obtain ⟨ta, pa, ra⟩ := ha
  refine ⟨_, pt_val pa he, fun σ H F ρ fr Q Q' S hw k => ?_⟩
  refine ra σ H F ρ fr _ _ S hw fun v H' F' ρ' r m q o S' k' => ?_
  unfold asB at q
  split at q
  · rename_i b hb
    have := o.dp S' hb
    cases this
    exact ⟨b, rfl, k b H' F' ρ' q S'.left k'⟩
  · exact q.elim
end
end DL

namespace DL
open PySem PySem.Spec PyProof.Rows L2

abbrev RE (K : PySem.W.Frag) (t : TE) (w : WE) : Prop := ∀ (σ : Sg) (H F : Hp) (ρ : Rho) (fr : Fp) (Q : RV → Rho → Prop) (Q' : VK), SI K F H σ ρ fr → w ρ Q →
    (∀ v H' F' ρ' r m, Q r ρ' → RVok K F' H' σ r v m → SI K F' H' σ ρ' (padd fr m) → Kp F H fr F' H' → Q' v H') → t σ H Q'
abbrev RT (K : PySem.W.Frag) (t : TT) (w : WT) : Prop := ∀ (σ : Sg) (H F : Hp) (ρ : Rho) (fr : Fp) (Q : Bool → Rho → Prop) (Q' : Bool → Hp → Prop), SI K F H σ ρ fr → w ρ Q →
    (∀ b H' F' ρ', Q b ρ' → SI K F' H' σ ρ' fr → Kp F H fr F' H' → Q' b H') → t σ H Q'

/-! ### and, or, not, a if t else b -/
structure DW (X : Cx) (e : Expr) (w : WT) : Prop where
  run : ∃ t : TT, PW X e t ∧ RT X.K t w
def wAnd (w1 w2 : WT) : WT := fun ρ Q => w1 ρ fun b ρ1 => bmt b (w2 ρ1 Q) (Q false ρ1)
def wOr (w1 w2 : WT) : WT := fun ρ Q => w1 ρ fun b ρ1 => bmt b (Q true ρ1) (w2 ρ1 Q)
def wNot (w1 : WT) : WT := fun ρ Q => w1 ρ fun b ρ1 => Q (!b) ρ1
def wAndV (wa wb : WE) : WE := fun ρ Q => wa ρ fun r ρ1 => asB r ρ1 fun b => bmt b (wb ρ1 Q) (Q (.fz (.bool false)) ρ1)
def wOrV (wa wb : WE) : WE := fun ρ Q => wa ρ fun r ρ1 => asB r ρ1 fun b => bmt b (Q (.fz (.bool true)) ρ1) (wb ρ1 Q)
def wNotV (wa : WE) : WE := fun ρ Q => wa ρ fun r ρ1 => asB r ρ1 fun b => Q (.fz (.bool (!b))) ρ1
def wIf (wt : WT) (wa wb : WE) : WE := fun ρ Q => wt ρ fun b ρ1 => bmt b (wa ρ1 Q) (wb ρ1 Q)
section
variable {X : Cx} {a b c : Expr} {rest : List Expr} {pos : Pos} {w1 w2 : WT} {wa wb : WE}
theorem DW.dt (h : DW X a w1) : DT X a w1 := let ⟨t, p, r⟩ := h; ⟨t, p.pt, r⟩
theorem dw_and1 (h : DT X a w1) : DW X (.BoolOp .And [a] pos) w1 := let ⟨⟨t, p, r⟩⟩ := h; ⟨t, pw_and1 p, r⟩
theorem dw_or1 (h : DT X a w1) : DW X (.BoolOp .Or [a] pos) w1 := let ⟨⟨t, p, r⟩⟩ := h; ⟨t, pw_or1 p, r⟩
theorem dw_and (ha : DT X a w1) (hb : DW X (.BoolOp .And (b :: rest) pos) w2) : DW X (.BoolOp .And (a :: b :: rest) pos) (wAnd w1 w2) := by
  obtain ⟨⟨t, p, r⟩⟩ := ha
  obtain ⟨⟨u, q, r2⟩⟩ := hb
  refine ⟨⟨_, pw_and p q, fun σ H F ρ fr Q Q' S hw k => ?_⟩⟩
  refine r σ H F ρ fr _ _ S hw fun b H1 F1 ρ1 hw S1 k1 => ?_
  cases b with
  | true => exact r2 σ H1 F1 ρ1 fr _ _ S1 hw fun b H2 F2 ρ2 q S2 k2 => k b H2 F2 ρ2 q S2 (k1.trans k2)
  | false => exact k false H1 F1 ρ1 hw S1 k1
theorem dw_or (ha : DT X a w1) (hb : DW X (.BoolOp .Or (b :: rest) pos) w2) : DW X (.BoolOp .Or (a :: b :: rest) pos) (wOr w1 w2) := by
  obtain ⟨⟨t, p, r⟩⟩ := ha
  obtain ⟨⟨u, q, r2⟩⟩ := hb
  refine ⟨⟨_, pw_or p q, fun σ H F ρ fr Q Q' S hw k => ?_⟩⟩
  refine r σ H F ρ fr _ _ S hw fun b H1 F1 ρ1 hw S1 k1 => ?_
  cases b with
  | false => exact r2 σ H1 F1 ρ1 fr _ _ S1 hw fun b H2 F2 ρ2 q S2 k2 => k b H2 F2 ρ2 q S2 (k1.trans k2)
  | true => exact k true H1 F1 ρ1 hw S1 k1
theorem dt_not (ha : DT X a w1) : DT X (.UnaryOp .Not a pos) (wNot w1) := by
  obtain ⟨⟨t, p, r⟩⟩ := ha
  exact ⟨⟨_, pt_not p, fun σ H F ρ fr Q Q' S hw k => r σ H F ρ fr _ _ S hw fun b H1 F1 ρ1 hw S1 k1 => k (!b) H1 F1 ρ1 hw S1 k1⟩⟩
theorem asB_dp {K : PySem.W.Frag} {F H : Hp} {σ : Sg} {r : RV} {v : V} {m fr : Fp} {ρ : Rho} {k : Bool → Prop} (h : asB r ρ k) (o : RVok K F H σ r v m) (S : SI K F H σ ρ fr) : ∃ b, v = .bl b ∧ k b := by
  unfold asB at h
  split at h
  · rename_i b hb
    have := o.dp S hb
    cases this
    exact ⟨b, rfl, h⟩
  · exact h.elim
theorem de_one {op : BoolOp} (h : DE X a wa) : DE X (.BoolOp op [a] pos) wa := by
  obtain ⟨⟨t, p, r⟩⟩ := h
  exact ⟨⟨_, pe_one p, r⟩⟩
theorem de_and (ha : DE X a wa) (hb : DE X (.BoolOp .And (b :: rest) pos) wb) : DE X (.BoolOp .And (a :: b :: rest) pos) (wAndV wa wb) := by
  obtain ⟨⟨t, p, r⟩⟩ := ha
  obtain ⟨⟨u, q, r2⟩⟩ := hb
  refine ⟨⟨_, pe_and p q, fun σ H F ρ fr Q Q' S hw k => ?_⟩⟩
  refine r σ H F ρ fr _ _ S hw fun v H1 F1 ρ1 r1 m1 hw o1 S1 k1 => ?_
  obtain ⟨b, rfl, hw⟩ := asB_dp hw o1 S1
  refine ⟨b, rfl, ?_⟩
  cases b with
  | true => exact r2 σ H1 F1 ρ1 fr _ _ S1.left hw fun v H2 F2 ρ2 r m q o S2 k2 => k v H2 F2 ρ2 r m q o S2 (k1.trans k2)
  | false => exact k _ H1 F1 ρ1 (.fz (.bool false)) z0 hw ⟨.bl false, rfl⟩ S1.left k1
theorem de_or (ha : DE X a wa) (hb : DE X (.BoolOp .Or (b :: rest) pos) wb) : DE X (.BoolOp .Or (a :: b :: rest) pos) (wOrV wa wb) := by
  obtain ⟨⟨t, p, r⟩⟩ := ha
  obtain ⟨⟨u, q, r2⟩⟩ := hb
  refine ⟨⟨_, pe_or p q, fun σ H F ρ fr Q Q' S hw k => ?_⟩⟩
  refine r σ H F ρ fr _ _ S hw fun v H1 F1 ρ1 r1 m1 hw o1 S1 k1 => ?_
  obtain ⟨b, rfl, hw⟩ := asB_dp hw o1 S1
  refine ⟨b, rfl, ?_⟩
  cases b with
  | false => exact r2 σ H1 F1 ρ1 fr _ _ S1.left hw fun v H2 F2 ρ2 r m q o S2 k2 => k v H2 F2 ρ2 r m q o S2 (k1.trans k2)
  | true => exact k _ H1 F1 ρ1 (.fz (.bool true)) z0 hw ⟨.bl true, rfl⟩ S1.left k1
theorem de_not (ha : DE X a wa) : DE X (.UnaryOp .Not a pos) (wNotV wa) := by
  obtain ⟨⟨t, p, r⟩⟩ := ha
  refine ⟨⟨_, pe_not p, fun σ H F ρ fr Q Q' S hw k => ?_⟩⟩
  refine r σ H F ρ fr _ _ S hw fun v H1 F1 ρ1 r1 m1 hw o1 S1 k1 => ?_
  obtain ⟨b, rfl, hw⟩ := asB_dp hw o1 S1
  exact ⟨b, rfl, k _ H1 F1 ρ1 (.fz (.bool (!b))) z0 hw ⟨.bl _, rfl⟩ S1.left k1⟩
theorem de_if (hc : DT X c w1) (ha : DE X a wa) (hb : DE X b wb) : DE X (.IfExp c a b pos) (wIf w1 wa wb) := by
  obtain ⟨⟨t, p, r⟩⟩ := hc
  obtain ⟨⟨ta, pa, ra⟩⟩ := ha
  obtain ⟨⟨tb, pb, rb⟩⟩ := hb
  refine ⟨⟨_, pe_ifExp p pa pb, fun σ H F ρ fr Q Q' S hw k => ?_⟩⟩
  refine r σ H F ρ fr _ _ S hw fun b H1 F1 ρ1 hw S1 k1 => ?_
  cases b with
  | true => exact ra σ H1 F1 ρ1 fr _ _ S1 hw fun v H2 F2 ρ2 r m q o S2 k2 => k v H2 F2 ρ2 r m q o S2 (k1.trans k2)
  | false => exact rb σ H1 F1 ρ1 fr _ _ S1 hw fun v H2 F2 ρ2 r m q o S2 k2 => k v H2 F2 ρ2 r m q o S2 (k1.trans k2)
end

/-! ### a < b < c -/
/-- two values read, a third later -/
def wChain (g g' : G2) (wa wb wc : WE) : WE := fun ρ Q => wa ρ fun r1 ρ1 => wb ρ1 fun r2 ρ2 => dat2 r1 r2 ρ2 fun d e => g d e fun d' => asB (.fz d') ρ2 fun k => bmt k (wc ρ2 fun r3 ρ3 => dat2 r2 r3 ρ3 fun d e => g' d e fun d' => Q (.fz d') ρ3) (Q (.fz (.bool false)) ρ2)
section
variable {X : Cx} {a b c : Expr} {pos : Pos} {wa wb wc : WE} {op op' : CmpOp} {r r' : R2} {g g' : G2}
theorem chain_run {ta tb tc : TE} (ho : Op2 X.K r g) (ho' : Op2 X.K r' g') (ra : RE X.K ta wa) (rb : RE X.K tb wb) (rc : RE X.K tc wc) : ∀ (σ : Sg) (H F : Hp) (ρ : Rho) (fr : Fp) (Q : RV → Rho → Prop) (Q' : VK), SI X.K F H σ ρ fr → wChain g g' wa wb wc ρ Q →
    (∀ v H' F' ρ' d, Q (.fz d) ρ' → Sc v d → SI X.K F' H' σ ρ' fr → Kp F H fr F' H' → Q' v H') → tChain r r' ta tb tc σ H Q' := by
  intro σ H F ρ fr Q Q' S hw k
  refine ra σ H F ρ fr _ _ S hw fun v1 H1 F1 ρ1 r1 m1 hw o1 S1 k1 => ?_
  refine rb σ H1 F1 ρ1 _ _ _ S1 hw fun v2 H2 F2 ρ2 r2 m2 hw o2 S2 k2 => ?_
  obtain ⟨d, e, e1, e2, hg⟩ := dat2_iff hw
  refine ho v1 v2 d e H2 _ _ ((o1.kp k2).dp S2 e1) (o2.dp S2 e2) hg fun v d' sc q => ?_
  have S2' : SI X.K F2 H2 σ ρ2 (padd fr m2) := S2.less fun a => by unfold padd; omega
  cases sc with
  | bl z =>
    refine ⟨z, rfl, ?_⟩
    cases z with
    | true =>
      refine rc σ H2 F2 ρ2 _ _ _ S2' q fun v3 H3 F3 ρ3 r3 m3 hw o3 S3 k3 => ?_
      obtain ⟨d, e, e1, e2, hg⟩ := dat2_iff hw
      refine ho' v2 v3 d e H3 _ _ ((o2.kp k3).dp S3 e1) (o3.dp S3 e2) hg fun v d' sc q => ?_
      exact k v H3 F3 ρ3 d' q sc S3.left.left ((k1.trans k2.left).trans k3.left)
    | false => exact k _ H2 F2 ρ2 (.bool false) q (.bl false) S2'.left (k1.trans k2.left)
  | non => exact q.elim
  | int _ => exact q.elim
  | str _ => exact q.elim
theorem de_chain (hr : OpR X (compareOp op) r) (ho : Op2 X.K r g) (hr' : OpR X (compareOp op') r') (ho' : Op2 X.K r' g') (ha : DE X a wa) (hb : DE X b wb) (hc : DE X c wc)
    (hm : lastMarks [op, op'] [b, c] = false := by with_unfolding_all rfl) : DE X (.Compare a [op, op'] [b, c] pos) (wChain g g' wa wb wc) := by
  obtain ⟨⟨ta, pa, ra⟩⟩ := ha
  obtain ⟨⟨tb, pb, rb⟩⟩ := hb
  obtain ⟨⟨tc, pc, rc⟩⟩ := hc
  exact ⟨⟨_, pe_chain hr hr' pa pb pc hm, fun σ H F ρ fr Q Q' S hw k => chain_run ho ho' ra rb rc σ H F ρ fr Q Q' S hw fun v H' F' ρ' d q sc S' k' => k v H' F' ρ' (.fz d) z0 q ⟨sc.dp, rfl⟩ S' k'⟩⟩
theorem dt_chain (hr : OpR X (compareOp op) r) (ho : Op2 X.K r g) (hr' : OpR X (compareOp op') r') (ho' : Op2 X.K r' g') (ha : DE X a wa) (hb : DE X b wb) (hc : DE X c wc)
    (hm : lastMarks [op, op'] [b, c] = false := by with_unfolding_all rfl) : DT X (.Compare a [op, op'] [b, c] pos) (wTst (wChain g g' wa wb wc)) := by
  obtain ⟨⟨ta, pa, ra⟩⟩ := ha
  obtain ⟨⟨tb, pb, rb⟩⟩ := hb
  obtain ⟨⟨tc, pc, rc⟩⟩ := hc
  refine ⟨⟨_, pt_chain hr hr' pa pb pc hm, fun σ H F ρ fr Q Q' S hw k => ?_⟩⟩
  refine chain_run ho ho' ra rb rc σ H F ρ fr _ _ S hw fun v H' F' ρ' d q sc S' k' => ?_
  cases sc with
  | bl z => exact ⟨z, rfl, k z H' F' ρ' q S' k'⟩
  | non => exact q.elim
  | int _ => exact q.elim
  | str _ => exact q.elim
end

/-! ### the operators' data -/
def gI (f : Int → Int → PyData) (C : Int → Int → Prop) : G2
  | .int i, .int j, G => C i j ∧ G (f i j)
  | _, _, _ => False
def gI0 (f : Int → Int → PyData) : G2
  | .int i, .int j, G => G (f i j)
  | _, _, _ => False
section
variable {K : PySem.W.Frag}
theorem o_I {f : Int → Int → PyData} {f' : Int → Int → V} {C : Int → Int → Prop} (h : ∀ i j, Sc (f' i j) (f i j)) : Op2 K (rI C f') (gI f C) := by
  intro x y d e H G Q hx hy hg k
  unfold gI at hg
  split at hg
  · rename_i i j
    cases hx
    cases hy
    exact ⟨i, j, rfl, rfl, hg.1, k _ _ (h i j) hg.2⟩
  · exact hg.elim
theorem o_I0 {f : Int → Int → PyData} {f' : Int → Int → V} (h : ∀ i j, Sc (f' i j) (f i j)) : Op2 K (rI0 f') (gI0 f) := by
  intro x y d e H G Q hx hy hg k
  unfold gI0 at hg
  split at hg
  · rename_i i j
    cases hx
    cases hy
    exact ⟨i, j, rfl, rfl, k _ _ (h i j) hg⟩
  · exact hg.elim
/-- + of ints, of texts -/
def gAdd : G2
  | .int i, .int j, G => G (.int (i + j))
  | .str i, .str j, G => i.length + j.length ≤ sizeLine ∧ G (.str (i ++ j))
  | _, _, _ => False
def rAddA : R2 := fun x y H Q => (∃ i j, x = V.int i ∧ y = V.int j ∧ Q (.int (i + j)) H) ∨ (∃ i j, x = V.str i ∧ y = V.str j ∧ i.length + j.length ≤ sizeLine ∧ Q (.str (i ++ j)) H)
theorem op_addA {X : Cx} : OpR X (binaryOp .Add) rAddA := op_add.or op_add_str
theorem o_add : Op2 K rAddA gAdd := by
  intro x y d e H G Q hx hy hg k
  unfold gAdd at hg
  split at hg
  · rename_i i j
    cases hx
    cases hy
    exact .inl ⟨i, j, rfl, rfl, k _ _ (.int _) hg⟩
  · rename_i i j
    cases hx
    cases hy
    exact .inr ⟨i, j, rfl, rfl, hg.1, k _ _ (.str _) hg.2⟩
  · exact hg.elim
/-- == and != of data -/
def gEq : G2
  | .int i, .int j, G => G (.bool (decide (i = j)))
  | .str i, .str j, G => G (.bool (decide (i = j)))
  | d, e, G => SeqAt.shaped d = true ∧ SeqAt.shaped e = true ∧ G (.bool (PyData.eqv d e))
def gNe : G2
  | .int i, .int j, G => G (.bool (!decide (i = j)))
  | .str i, .str j, G => G (.bool (!decide (i = j)))
  | d, e, G => SeqAt.shaped d = true ∧ SeqAt.shaped e = true ∧ G (.bool (!PyData.eqv d e))
def rEqA (K : PySem.W.Frag) : R2 := fun x y H Q => rEq x y H Q ∨ rEqD K x y H Q
def rNeA (K : PySem.W.Frag) : R2 := fun x y H Q => rNe x y H Q ∨ rNeD K x y H Q
theorem op_eqA {X : Cx} (hu : X.A.units + 64 < cLine) : OpR X (compareOp .Eq) (rEqA X.K) := op_eq.or (op_eqD hu)
theorem op_neA {X : Cx} (hu : X.A.units + 64 < cLine) : OpR X (compareOp .NotEq) (rNeA X.K) := op_ne.or (op_neD hu)
theorem o_eq : Op2 K (rEqA K) gEq := by
  intro x y d e H G Q hx hy hg k
  unfold gEq at hg
  split at hg
  · cases hx
    cases hy
    exact .inl ⟨rfl, k _ _ (.bl _) (by rw [dec_int, Bool.beq_eq_decide_eq]; exact hg)⟩
  · cases hx
    cases hy
    exact .inl ⟨rfl, k _ _ (.bl _) (by rw [dec_str, Bool.beq_eq_decide_eq]; exact hg)⟩
  · exact .inr ⟨_, _, hx, hy, hg.1, hg.2.1, k _ _ (.bl _) hg.2.2⟩
theorem o_ne : Op2 K (rNeA K) gNe := by
  intro x y d e H G Q hx hy hg k
  unfold gNe at hg
  split at hg
  · cases hx
    cases hy
    exact .inl ⟨rfl, k _ _ (.bl _) (by rw [dec_int, Bool.beq_eq_decide_eq]; exact hg)⟩
  · cases hx
    cases hy
    exact .inl ⟨rfl, k _ _ (.bl _) (by rw [dec_str, Bool.beq_eq_decide_eq]; exact hg)⟩
  · exact .inr ⟨_, _, hx, hy, hg.1, hg.2.1, k _ _ (.bl _) hg.2.2⟩
def rIsNone : R2 := fun x y H Q => y = .non ∧ Q (.bl (decide (x = .non))) H
def isNone : PyData → Bool
  | .none => true
  | _ => false
def gIsN : G2
  | d, .none, G => G (.bool (isNone d))
  | _, _, _ => False
def gNotN : G2
  | d, .none, G => G (.bool (!isNone d))
  | _, _, _ => False
theorem isNone_dp {H : Hp} {x : V} {d : PyData} (h : Dp K H x d) : decide (x = .non) = isNone d := by cases h <;> rfl
theorem o_isN : Op2 K (fun x y H Q => y = .non ∧ Q (.bl (decide (x = .non))) H) gIsN := by
  intro x y d e H G Q hx hy hg k
  unfold gIsN at hg
  split at hg
  · cases hy
    refine ⟨rfl, ?_⟩
    rw [isNone_dp hx]
    exact k _ _ (.bl _) hg
  · exact hg.elim
theorem o_notN : Op2 K (fun x y H Q => y = .non ∧ Q (.bl (!decide (x = .non))) H) gNotN := by
  intro x y d e H G Q hx hy hg k
  unfold gNotN at hg
  split at hg
  · cases hy
    refine ⟨rfl, ?_⟩
    rw [isNone_dp hx]
    exact k _ _ (.bl _) hg
  · exact hg.elim
/-- x in a list, a tuple of data -/
def itemsOf : PyData → Option (List PyData)
  | .list ds => some ds
  | .tuple ds => some ds
  | _ => none
end

/-! ### arguments, displays -/
def wNil : WA := fun ρ Q => Q [] ρ
def wCons (wa : WE) (ws : WA) : WA := fun ρ Q => wa ρ fun r ρ1 => ws ρ1 fun rs ρ2 => Q (r :: rs) ρ2
/-- frozen from now on -/
def frz (r : RV) (ρ : Rho) (k : PyData → Rho → Prop) : Prop := match r with
  | .tm t => (match t.data with | some d => k d ρ | none => False)
  | .sl i => (match look ρ i with
    | some t => (match t.data with | some d => k d (ρ.set i (some (.fz d))) | none => False)
    | none => False)
def frzs : List RV → Rho → (List PyData → Rho → Prop) → Prop
  | [], ρ, k => k [] ρ
  | r :: rs, ρ, k => frz r ρ fun d ρ1 => frzs rs ρ1 fun ds ρ2 => k (d :: ds) ρ2
section
variable {X : Cx} {e : Expr} {es : List Expr} {wa : WE} {ws : WA} {pos : Pos} {K : PySem.W.Frag} {F H : Hp} {σ : Sg} {ρ : Rho} {fr m : Fp} {r : RV} {v : V}
theorem da_nil : DA X [] wNil := ⟨⟨_, pa_nil, fun σ H F ρ fr Q Q' S hw k => k [] H F ρ [] z0 hw .nil S Kp.refl⟩⟩
theorem RVsOk.kp {F' H' : Hp} {rs : List RV} {vs : List V} (o : RVsOk K F H σ rs vs m) (k : Kp F H (padd fr m) F' H') : RVsOk K F' H' σ rs vs m := by
  induction o generalizing fr with
  | nil => exact .nil
  | @cons r v m n rs vs h _ ih =>
    refine .cons (h.kp (fr := padd fr n) (k.less fun a q => ?_)) (ih (fr := padd fr m) (k.less fun a q => ?_))
    · unfold padd at q ⊢; omega
    · unfold padd at q ⊢; omega
theorem da_cons (ha : DE X e wa) (hs : DA X es ws) (hst : starEach (e :: es) X.env = (false, eval e X.env) :: starEach es X.env := by rfl) : DA X (e :: es) (wCons wa ws) := by
  obtain ⟨⟨ta, pa, ra⟩⟩ := ha
  obtain ⟨⟨ts, ps, rs⟩⟩ := hs
  refine ⟨⟨_, pa_cons pa ps hst, fun σ H F ρ fr Q Q' S hw k => ?_⟩⟩
  refine ra σ H F ρ fr _ _ S hw fun v1 H1 F1 ρ1 r1 m1 hw o1 S1 k1 => ?_
  refine rs σ H1 F1 ρ1 _ _ _ S1 hw fun vs H2 F2 ρ2 rs m2 hw o2 S2 k2 => ?_
  refine k _ H2 F2 ρ2 _ _ hw (.cons (o1.kp k2) o2) ?_ (k1.trans k2.left)
  rw [← padd_assoc]
  exact S2
theorem OwnT.frz {t : OT} {d : PyData} (o : OwnT K F H t v m) (e : Same F H) (hm : ∀ a, m a ≠ 0 → F a = none) (h : t.data = some d) : Same F (fun a => if m a ≠ 0 then H a else F a) ∧ Dp K (fun a => if m a ≠ 0 then H a else F a) v d := by
  have s : Same F (fun a => if m a ≠ 0 then H a else F a) := fun b o q => by
    show (if m b ≠ 0 then H b else F b) = some o
    split
    · exact e b o q
    · exact q
  refine ⟨s, ?_⟩
  cases t with
  | fz x => cases h; exact dpm s _ _ o.1
  | lst p ds =>
    cases h
    obtain ⟨vs, rfl, hp, ha, rfl⟩ := o
    refine .lst (SqL.of ?_) (dpam s _ _ ha)
    show (if one p p ≠ 0 then H p else F p) = _
    rw [if_pos (by simp [one]), hp]
  | lls p dss =>
    have o' : OwnT K F H (.lls p dss) v m := o
    cases h
    obtain ⟨ps, rfl, hp, hl, hi, nd, rfl⟩ := o
    have o2 : OwnT K (fun a => if List.count a (p :: ps) ≠ 0 then H a else F a) (fun a => if List.count a (p :: ps) ≠ 0 then H a else F a) (.lls p dss) (.ref p) (fun a => List.count a (p :: ps)) :=
      OwnT.kp o' s fun a q => if_pos q
    exact OwnT.dp o2 (Same.refl _) rfl
  | vv _ => cases h
  | exc _ _ => cases h
  | fx _ => cases h
  | ox _ _ => cases h
theorem frz_ok {k : PyData → Rho → Prop} (S : SI K F H σ ρ fr) (o : RVok K F H σ r v m) (hm : ∀ a, m a ≤ fr a) (h : frz r ρ k) :
    ∃ d ρ' F', k d ρ' ∧ Dp K F' v d ∧ Same F F' ∧ SI K F' H σ ρ' (fun a => fr a - m a) := by
  unfold frz at h
  cases r with
  | tm t =>
    simp only at h
    split at h
    · rename_i d hd
      obtain ⟨m0, ow, hq⟩ := S.own
      have hF : ∀ a, m a ≠ 0 → F a = none := fun a z => ((hq a).2 (by have := hm a; omega)).1
      obtain ⟨s, dp⟩ := OwnT.frz o S.ex hF hd
      refine ⟨d, ρ, _, h, dp, s, ⟨fun b ob q => ?_, m0, ow.kp s fun a _ => rfl, fun a => ?_⟩⟩
      · have q' : (if m b ≠ 0 then H b else F b) = some ob := q
        split at q'
        · exact q'
        · exact S.ex b ob q'
      · obtain ⟨q1, q2⟩ := hq a
        have := hm a
        refine ⟨by omega, fun z => ?_⟩
        have z' : m a = 0 := by omega
        show (if m a ≠ 0 then H a else F a) = none ∧ _
        rw [if_neg (by omega)]
        exact q2 (by omega)
    · exact h.elim
  | sl i =>
    simp only at h
    obtain ⟨rfl, hv⟩ := o
    cases e : look ρ i with
    | none => rw [e] at h; exact h.elim
    | some t =>
      rw [e] at h
      simp only at h
      split at h
      · rename_i d hd
        obtain ⟨m0, ow, hq⟩ := S.own
        obtain ⟨m1, m2, em, h1, _, h2, h2', h3⟩ := ow.at (look_lt e)
        obtain ⟨v', e1, o1⟩ := h1 t e
        rw [hv] at e1
        cases e1
        have hF : ∀ a, m1 a ≠ 0 → F a = none := fun a z => ((hq a).2 (by rw [em]; unfold padd; omega)).1
        obtain ⟨s, dp⟩ := OwnT.frz o1 S.ex hF hd
        obtain ⟨m3, ow3, em3⟩ := h3 (.vv v) v z0 ⟨rfl, rfl⟩
        have ow4 := ow3.kp (H' := H) s fun a _ => rfl
        have ow5 : OwnS K (fun a => if m1 a ≠ 0 then H a else F a) H (ρ.set i (some (.fz d))) σ m3 := by
          obtain ⟨n1, n2, en, g1, _, _, _, g3⟩ := ow4.at (i := i) (by rw [List.length_set]; exact look_lt e)
          obtain ⟨m5, ow5, em5⟩ := g3 (.fz d) v z0 ⟨dp, rfl⟩
          rw [List.set_set, List.set_set] at ow5
          have hlk : ∀ (ρ : Rho) (i : Nat) (x : Option OT), i < ρ.length → look (ρ.set i x) i = x := by
            intro ρ
            induction ρ with
            | nil => intro i x h; cases h
            | cons y r ih => intro i x h; cases i with
              | zero => rfl
              | succ i => exact ih i x (by simpa using h)
          obtain ⟨v'', _, o''⟩ := g1 (.vv v) (hlk ρ i _ (look_lt e))
          have : m5 = m3 := by
            funext a
            rw [em5 a, en, o''.2]
            rfl
          rw [this] at ow5
          have hσ : σ.set i (some v) = σ := by
            apply List.ext_getElem?
            intro j
            by_cases hj : i = j
            · subst hj
              rw [List.getElem?_set_self (List.getElem?_eq_some_iff.mp hv).1, hv]
            · rw [List.getElem?_set_ne hj]
          rw [hσ] at ow5
          exact ow5
        refine ⟨d, _, _, h, dp, s, ⟨fun b ob q => ?_, m3, ow5, fun a => ?_⟩⟩
        · have q' : (if m1 b ≠ 0 then H b else F b) = some ob := q
          split at q'
          · exact q'
          · exact S.ex b ob q'
        · obtain ⟨q1, q2⟩ := hq a
          have e3 : m3 a = m2 a := by rw [em3 a]; show 0 + m2 a = m2 a; omega
          rw [em] at q1 q2
          unfold padd at q1 q2
          show m3 a + (fr a - 0) ≤ 1 ∧ (m3 a + (fr a - 0) ≠ 0 → _)
          rw [e3]
          refine ⟨by omega, fun z => ?_⟩
          show (if m1 a ≠ 0 then H a else F a) = none ∧ _
          rw [if_neg (by omega)]
          exact q2 (by omega)
      · exact h.elim
theorem frzs_ok {vs : List V} : ∀ {rs : List RV} {vs : List V} {F : Hp} {ρ : Rho} {fr m : Fp} {k : List PyData → Rho → Prop}, SI K F H σ ρ fr → RVsOk K F H σ rs vs m → (∀ a, m a ≤ fr a) → frzs rs ρ k →
    ∃ ds ρ' F', k ds ρ' ∧ DpAll K F' vs ds ∧ Same F F' ∧ SI K F' H σ ρ' (fun a => fr a - m a)
  | _, _, F, ρ, fr, _, k, S, .nil, hm, h => ⟨[], ρ, F, h, .nil, Same.refl _, S⟩
  | _, _, F, ρ, fr, _, k, S, .cons (m := m) (n := n) o os, hm, h => by
    obtain ⟨d, ρ1, F1, h, dp, s1, S1⟩ := frz_ok S o (fun a => Nat.le_trans (Nat.le_add_right _ _) (hm a)) h
    have os1 : RVsOk K F1 H σ _ _ n := os.kp (fr := z0) ⟨s1, fun _ _ => rfl, fun _ q => q⟩
    obtain ⟨ds, ρ2, F2, h, dps, s2, S2⟩ := frzs_ok (vs := vs) S1 os1 (fun a => by have := hm a; unfold padd at this; omega) h
    refine ⟨d :: ds, ρ2, F2, h, .cons (dpm s2 _ _ dp) dps, s1.trans s2, S2.less fun a => ?_⟩
    unfold padd
    omega
end
end DL

namespace DL
open PySem PySem.Spec PyProof.Rows L2

section
variable {K : PySem.W.Frag} {F H : Hp} {σ : Sg} {ρ : Rho} {fr m : Fp} {p : Addr} {o : HO}
theorem SI.free (S : SI K F H σ ρ fr) (h : H p = none) : F p = none := by
  cases e : F p with
  | none => rfl
  | some u => rw [S.ex p u e] at h; cases h
theorem SI.zero (S : SI K F H σ ρ fr) (h : H p = none) : fr p = 0 := by
  obtain ⟨m, _, q⟩ := S.own
  obtain ⟨q1, q2⟩ := q p
  by_cases z : m p + fr p = 0
  · omega
  · exact absurd h (q2 z).2
theorem SI.newF (S : SI K F H σ ρ fr) (h : H p = none) : SI K (upd F p o) (upd H p o) σ ρ fr ∧ Same F (upd F p o) ∧ Kp F H fr (upd F p o) (upd H p o) := by
  have hF := S.free h
  have s : Same F (upd F p o) := fun b u e => by rw [upd_ne (ne_of_none e hF)]; exact e
  obtain ⟨m, ow, q⟩ := S.own
  have hz : m p + fr p = 0 := by
    by_cases z : m p + fr p = 0
    · exact z
    · exact absurd h ((q p).2 z).2
  refine ⟨⟨fun b u e => ?_, m, ow.kp s fun a z => ?_, fun a => ⟨(q a).1, fun z => ?_⟩⟩, s, ⟨s, fun a z => ?_, fun a z => ?_⟩⟩
  · by_cases hb : b = p
    · subst hb
      rw [upd_same] at e ⊢
      exact e
    · rw [upd_ne hb] at e ⊢
      exact S.ex b u e
  · exact upd_ne fun e => by subst e; omega
  · have hap : a ≠ p := fun e => by subst e; omega
    rw [upd_ne hap, upd_ne hap]
    exact (q a).2 z
  · exact upd_ne fun e => by subst e; omega
  · by_cases hb : a = p
    · subst hb; rw [upd_same]; simp
    · rw [upd_ne hb]; exact z
theorem SI.newL (S : SI K F H σ ρ fr) (h : H p = none) : SI K F (upd H p o) σ ρ (padd fr (one p)) ∧ Kp F H fr F (upd H p o) := by
  have hF := S.free h
  obtain ⟨m, ow, q⟩ := S.own
  have hz : m p + fr p = 0 := by
    by_cases z : m p + fr p = 0
    · exact z
    · exact absurd h ((q p).2 z).2
  refine ⟨⟨fun b u e => ?_, m, ow.kp (Same.refl _) fun a z => ?_, fun a => ?_⟩, ⟨Same.refl _, fun a z => ?_, fun a z => ?_⟩⟩
  · rw [upd_ne (ne_of_none (S.ex b u e) h)]
    exact S.ex b u e
  · exact upd_ne fun e => by subst e; omega
  · by_cases ha : a = p
    · subst ha
      refine ⟨by unfold padd one; simp; omega, fun _ => ⟨hF, by rw [upd_same]; simp⟩⟩
    · have e1 : padd fr (one p) a = fr a := by unfold padd one; rw [if_neg ha]; omega
      rw [e1, upd_ne ha]
      exact q a
  · exact upd_ne fun e => by subst e; omega
  · by_cases hb : a = p
    · subst hb; rw [upd_same]; simp
    · rw [upd_ne hb]; exact z
theorem Kp.ofF {F' : Hp} (s : Same F F') : Kp F H fr F' H := ⟨s, fun _ _ => rfl, fun _ h => h⟩
end

/-! ### displays -/
def wTup (ws : WA) : WE := fun ρ Q => ws ρ fun rs ρ1 => frzs rs ρ1 fun ds ρ2 => bmt (decide (ds.length ≤ sizeLine)) (Q (.fz (.tuple ds)) ρ2) False
def wLst (ws : WA) : WE := fun ρ Q => ws ρ fun rs ρ1 => frzs rs ρ1 fun ds ρ2 => bmt (decide (ds.length ≤ sizeLine)) (∀ p, Q (.tm (.lst p ds)) ρ2) False
section
variable {X : Cx} {e : Expr} {es : List Expr} {wa wb : WE} {ws : WA} {pos : Pos}
theorem de_tup {x1 : Nat} (h : DA X es ws) : DE X (.Tuple es x1 pos) (wTup ws) := by
  obtain ⟨⟨t, p, r⟩⟩ := h
  refine ⟨⟨_, pe_tup p, fun σ H F ρ fr Q Q' S hw k => ?_⟩⟩
  refine r σ H F ρ fr _ _ S hw fun vs H1 F1 ρ1 rs m hw o S1 k1 => ?_
  obtain ⟨ds, ρ2, F2, hw, dp, s, S2⟩ := frzs_ok (vs := vs) S1 o (fun a => by unfold padd; omega) hw
  have S2' : SI X.K F2 H1 σ ρ2 fr := S2.less fun a => by unfold padd; omega
  have hw := bmt_and hw
  refine ⟨by rw [dp.length]; exact hw.1, fun q hq => ?_⟩
  obtain ⟨S3, s3, k3⟩ := S2'.newF (o := .tup vs) hq
  exact k _ _ _ ρ2 _ z0 hw.2 ⟨.tup (SqT.of upd_same) (dpam s3 _ _ dp), rfl⟩ S3 ((k1.trans (Kp.ofF s)).trans k3)
theorem de_lst (h : DA X es ws) : DE X (.List es pos) (wLst ws) := by
  obtain ⟨⟨t, p, r⟩⟩ := h
  refine ⟨⟨_, pe_lst p, fun σ H F ρ fr Q Q' S hw k => ?_⟩⟩
  refine r σ H F ρ fr _ _ S hw fun vs H1 F1 ρ1 rs m hw o S1 k1 => ?_
  obtain ⟨ds, ρ2, F2, hw, dp, s, S2⟩ := frzs_ok (vs := vs) S1 o (fun a => by unfold padd; omega) hw
  have S2' : SI X.K F2 H1 σ ρ2 fr := S2.less fun a => by unfold padd; omega
  have hw := bmt_and hw
  refine ⟨by rw [dp.length]; exact hw.1, fun q hq => ?_⟩
  obtain ⟨S3, k3⟩ := S2'.newL (o := .lst vs) hq
  exact k _ _ _ ρ2 _ (one q) (hw.2 q) ⟨vs, rfl, upd_same, dp, rfl⟩ S3 ((k1.trans (Kp.ofF s)).trans k3)
end

/-! ### a[i] -/
def ixD : OT → PyData → (PyData → Prop) → Prop
  | .fz (.list ds), .int i, G => (match atI ds i with | some d => G d | none => False)
  | .fz (.tuple ds), .int i, G => (match atI ds i with | some d => G d | none => False)
  | .fz (.str z), .int i, G => z.length ≤ sizeLine ∧ (match atI z.cps.toList i with | some c => G (.str ⟨#[c]⟩) | none => False)
  | .lst _ ds, .int i, G => (match atI ds i with | some d => G d | none => False)
  | _, _, _ => False
def otd (r1 r2 : RV) (ρ : Rho) (k : OT → PyData → Prop) : Prop := match r1.ot ρ, r2.dat ρ with
  | some t, some e => k t e
  | _, _ => False
def wIx (wa wb : WE) : WE := fun ρ Q => wa ρ fun r1 ρ1 => wb ρ1 fun r2 ρ2 => otd r1 r2 ρ2 fun t e => ixD t e fun d' => Q (.fz d') ρ2
section
variable {K : PySem.W.Frag} {F H : Hp} {σ : Sg} {ρ : Rho} {fr m : Fp} {r : RV} {v : V}
theorem RVok.own (o : RVok K F H σ r v m) (S : SI K F H σ ρ fr) {t : OT} (h : r.ot ρ = some t) : ∃ m', OwnT K F H t v m' := by
  cases r with
  | tm t' => cases h; exact ⟨m, o⟩
  | sl i =>
    obtain ⟨v', m1, e1, o1⟩ := S.slot h
    rw [o.2] at e1
    cases e1
    exact ⟨m1, o1⟩
theorem ix_get {vs : List V} {ds : List PyData} {i : Int} {d : PyData} (h : DpAll K F vs ds) (e : atI ds i = some d) : ∃ v, atI vs i = some v ∧ Dp K F v d := by
  unfold atI at e ⊢
  rw [h.length]
  cases q : ixN ds.length i with
  | none => rw [q] at e; cases e
  | some j =>
    rw [q] at e
    exact h.get (i := j) e
end
section
variable {X : Cx} {a b : Expr} {wa wb : WE} {pos : Pos}
theorem de_ix (ha : DE X a wa) (hb : DE X b wb) (hs : PlainIx b := by exact fun _ _ => rfl) : DE X (.Subscript a b pos) (wIx wa wb) := by
  obtain ⟨⟨ta, pa, ra⟩⟩ := ha
  obtain ⟨⟨tb, pb, rb⟩⟩ := hb
  refine ⟨⟨_, pe_ix ix_seq pa pb hs, fun σ H F ρ fr Q Q' S hw k => ?_⟩⟩
  refine ra σ H F ρ fr _ _ S hw fun v1 H1 F1 ρ1 r1 m1 hw o1 S1 k1 => ?_
  refine rb σ H1 F1 ρ1 _ _ _ S1 hw fun v2 H2 F2 ρ2 r2 m2 hw o2 S2 k2 => ?_
  unfold otd at hw
  split at hw
  · rename_i t e h1 h2
    obtain ⟨m', o1'⟩ := (o1.kp k2).own S2 h1
    have d2 := o2.dp S2 h2
    have fin : ∀ v d, Dp X.K F2 v d → Q (.fz d) ρ2 → Q' v H2 := fun v d h q => k v H2 F2 ρ2 (.fz d) z0 q ⟨h, rfl⟩ S2.left.left (k1.trans k2.left)
    unfold ixD at hw
    split at hw
    · cases d2
      obtain ⟨o1', _⟩ := o1'
      cases o1' with
      | lst hs ha =>
        split at hw
        · rename_i d hd
          obtain ⟨v, e1, e2⟩ := ix_get ha hd
          exact .inl ⟨_, _, _, v, rfl, rfl, Same.seq S2.ex hs, e1, fin v d e2 hw⟩
        · exact hw.elim
    · cases d2
      obtain ⟨o1', _⟩ := o1'
      cases o1' with
      | tup hs ha =>
        split at hw
        · rename_i d hd
          obtain ⟨v, e1, e2⟩ := ix_get ha hd
          exact .inr (.inl ⟨_, _, _, v, rfl, rfl, same_t S2.ex hs, e1, fin v d e2 hw⟩)
        · exact hw.elim
    · cases d2
      obtain ⟨o1', _⟩ := o1'
      cases o1' with
      | str z' =>
        obtain ⟨hz, hw⟩ := hw
        split at hw
        · rename_i c hc
          exact .inr (.inr ⟨_, _, c, rfl, rfl, hz, hc, fin _ _ (.str _) hw⟩)
        · exact hw.elim
    · cases d2
      obtain ⟨vs, rfl, hp, ha, _⟩ := o1'
      split at hw
      · rename_i d hd
        obtain ⟨v, e1, e2⟩ := ix_get ha hd
        exact .inl ⟨_, _, _, v, rfl, rfl, SqL.of hp, e1, fin v d e2 hw⟩
      · exact hw.elim
    · exact hw.elim
  · exact hw.elim
end

/-! ### a[i][j] of an own list of own lists -/
def ix2D : OT → PyData → PyData → (PyData → Prop) → Prop
  | .lls _ dss, .int i, .int j, G => (match atI dss i with | some ds => (match atI ds j with | some d => G d | none => False) | none => False)
  | _, _, _, _ => False
/-- of an index nothing is changed -/
structure DEp (X : Cx) (e : Expr) (g : Rho → (PyData → Prop) → Prop) : Prop where
  run : ∃ t : TE, PE X e t ∧ ∀ (σ : Sg) (H F : Hp) (ρ : Rho) (fr : Fp) (Q : PyData → Prop) (Q' : VK), SI X.K F H σ ρ fr → g ρ Q →
    (∀ v d H' F', Q d → Dp X.K F' v d → SI X.K F' H' σ ρ fr → Same F F' → Same H H' → Q' v H') → t σ H Q'
def wIx2 (i : Nat) (ga gb : Rho → (PyData → Prop) → Prop) : WE := fun ρ Q => ga ρ fun d => gb ρ fun e => match look ρ i with
  | some t => ix2D t d e fun d' => Q (.fz d') ρ
  | none => False
def gpV (i : Nat) : Rho → (PyData → Prop) → Prop := fun ρ Q => match look ρ i with
  | some t => (match t.data with | some d => Q d | none => False)
  | none => False
section
variable {X : Cx} {a b : Expr} {pos : Pos}
theorem same_kp {F H F' H' : Hp} {fr : Fp} {K : PySem.W.Frag} {σ : Sg} {ρ : Rho} (S : SI K F H σ ρ fr) (s : Same F F') (s' : Same H H') : Kp F H fr F' H' := by
  refine ⟨s, fun a z => ?_, fun a z => ?_⟩
  · obtain ⟨m, _, q⟩ := S.own
    have := ((q a).2 (by omega)).2
    cases e : H a with
    | none => exact absurd e this
    | some o => exact s' a o e
  · cases e : H a with
    | none => exact absurd e z
    | some o => rw [s' a o e]; simp
end

/-! ### built-ins of values -/
abbrev GN := List PyData → (PyData → Prop) → Prop
def dats : List RV → Rho → (List PyData → Prop) → Prop
  | [], _, k => k []
  | r :: rs, ρ, k => match r.dat ρ with
    | some d => dats rs ρ fun ds => k (d :: ds)
    | none => False
def wCB (g : GN) (ws : WA) : WE := fun ρ Q => ws ρ fun rs ρ1 => dats rs ρ1 fun ds => g ds fun d' => Q (.fz d') ρ1
def OpN (K : PySem.W.Frag) (r : List V → Hp → VK → Prop) (g : GN) : Prop := ∀ (xs : List V) (ds : List PyData) (H : Hp) (G : PyData → Prop) (Q : VK), DpAll K H xs ds → g ds G → (∀ v d', Sc v d' → G d' → Q v H) → r xs H Q
theorem dats_ok {K : PySem.W.Frag} {F H : Hp} {σ : Sg} {ρ : Rho} : ∀ {rs : List RV} {vs : List V} {m fr : Fp} {k : List PyData → Prop}, SI K F H σ ρ fr → RVsOk K F H σ rs vs m → dats rs ρ k → ∃ ds, DpAll K H vs ds ∧ k ds
  | _, _, _, _, k, _, .nil, h => ⟨[], .nil, h⟩
  | r :: rs, _, _, fr, k, S, .cons o os, h => by
    unfold dats at h
    split at h
    · rename_i d hd
      obtain ⟨ds, h1, h2⟩ := dats_ok S os h
      exact ⟨d :: ds, .cons (o.dp S hd) h1, h2⟩
    · exact h.elim
section
variable {X : Cx} {e : Expr} {es : List Expr} {ws : WA} {pos p : Pos} {x : Str} {id : String} {r : List V → Hp → VK → Prop} {g : GN}
theorem opN_run {t : TA} (ho : OpN X.K r g) (ra : ∀ (σ : Sg) (H F : Hp) (ρ : Rho) (fr : Fp) (Q : List RV → Rho → Prop) (Q' : List V → Hp → Prop), SI X.K F H σ ρ fr → ws ρ Q →
    (∀ vs H' F' ρ' rs m, Q rs ρ' → RVsOk X.K F' H' σ rs vs m → SI X.K F' H' σ ρ' (padd fr m) → Kp F H fr F' H' → Q' vs H') → t σ H Q') : RE X.K (tCB r t) (wCB g ws) := by
  intro σ H F ρ fr Q Q' S hw k
  refine ra σ H F ρ fr _ _ S hw fun vs H1 F1 ρ1 rs m1 hw o1 S1 k1 => ?_
  obtain ⟨ds, h1, h2⟩ := dats_ok S1 o1 hw
  exact ho vs ds H1 _ _ h1 h2 fun v d' sc q => k v H1 F1 ρ1 (.fz d') z0 q ⟨sc.dp, rfl⟩ S1.left k1
theorem de_b (hr : CallR X (.builtin id) r) (ho : OpN X.K r g) (hg : Gl X x) (hm : X.mg x = none) (hv : bootBuiltins x = some (.builtin id)) (ha : DA X (e :: es) ws)
    (hn : x ≠ "__name__" := by decide) (hdb : (x == ("__debug__" : Str)) = false := by decide)
    (he : starEach (e :: es) X.env = (false, eval e X.env) :: starEach es X.env := by rfl) (hpl : (backTo pos (starEach es X.env)).any (·.1) = false := by rfl) : DE X (.Call (.Name x p) (e :: es) [] pos) (wCB g ws) := by
  obtain ⟨⟨ta, pa, ra⟩⟩ := ha
  exact ⟨⟨_, pe_callB hr hg hm hv pa hn hdb he hpl, opN_run ho ra⟩⟩
theorem de_ty {T : String} (hr : CallR X (.type T) r) (ho : OpN X.K r g) (hg : Gl X x) (hm : X.mg x = none) (hv : bootBuiltins x = some (.type T)) (ha : DA X (e :: es) ws)
    (hn : x ≠ "__name__" := by decide) (hdb : (x == ("__debug__" : Str)) = false := by decide)
    (he : starEach (e :: es) X.env = (false, eval e X.env) :: starEach es X.env := by rfl) (hpl : (backTo pos (starEach es X.env)).any (·.1) = false := by rfl) : DE X (.Call (.Name x p) (e :: es) [] pos) (wCB g ws) := by
  obtain ⟨⟨ta, pa, ra⟩⟩ := ha
  exact ⟨⟨_, pe_callTy hr hg hm hv pa hn hdb he hpl, opN_run ho ra⟩⟩
end
def gLen : GN
  | [.list ds], G => G (.int ds.length)
  | [.tuple ds], G => G (.int ds.length)
  | [.str z], G => z.length ≤ sizeLine ∧ G (.int z.length)
  | _, _ => False
def gInt : GN
  | [.int i], G => G (.int i)
  | [.bool b], G => G (.int (if b then 1 else 0))
  | _, _ => False
/-- a list of ints -/
def intsOf : List PyData → Option (List Int)
  | [] => some []
  | .int i :: r => (intsOf r).map (i :: ·)
  | _ => none
theorem intsOf_dp {K : PySem.W.Frag} {H : Hp} : ∀ {ds : List PyData} {vs : List V} {ns : List Int}, DpAll K H vs ds → intsOf ds = some ns → vs = ns.map V.int
  | [], _, _, .nil, e => by cases e; rfl
  | d :: ds, _, _, .cons h t, e => by
    cases h with
    | int i =>
      unfold intsOf at e
      cases q : intsOf ds with
      | none => rw [q] at e; cases e
      | some ms =>
        rw [q] at e
        cases e
        rw [List.map_cons, intsOf_dp t q]
    | _ => cases e
def gSum : GN
  | [.list ds], G => (match intsOf ds with | some ns => G (.int ns.sum) | none => False)
  | _, _ => False
def gMax : GN
  | [.int i, .int j], G => G (.int (if j > i then j else i))
  | _, _ => False
def gMin : GN
  | [.int i, .int j], G => G (.int (if j < i then j else i))
  | _, _ => False
section
variable {K : PySem.W.Frag}
theorem o_len : OpN K (fun xs H Q => ∃ x n, xs = [x] ∧ LenV K x H n ∧ Q (.int n) H) gLen := by
  intro xs ds H G Q hx hg k
  unfold gLen at hg
  split at hg
  · cases hx with
    | cons h t =>
      cases t
      cases h with
      | lst hs ha => exact ⟨_, _, rfl, .inl ⟨_, hs, ha.length.symm⟩, k _ _ (.int _) hg⟩
  · cases hx with
    | cons h t =>
      cases t
      cases h with
      | tup hs ha => exact ⟨_, _, rfl, .inr ⟨_, hs, ha.length.symm⟩, k _ _ (.int _) hg⟩
  · cases hx with
    | cons h t =>
      cases t
      cases h
      exact ⟨_, _, rfl, ⟨hg.1, rfl⟩, k _ _ (.int _) hg.2⟩
  · exact hg.elim
theorem o_int : OpN K (fun xs H Q => (∃ i, xs = [V.int i] ∧ Q (.int i) H) ∨ ∃ k, xs = [V.bl k] ∧ Q (.int (if k then 1 else 0)) H) gInt := by
  intro xs ds H G Q hx hg k
  unfold gInt at hg
  split at hg
  · cases hx with
    | cons h t =>
      cases t
      cases h
      exact .inl ⟨_, rfl, k _ _ (.int _) hg⟩
  · cases hx with
    | cons h t =>
      cases t
      cases h
      exact .inr ⟨_, rfl, k _ _ (.int _) hg⟩
  · exact hg.elim
theorem o_sum : OpN K (rSum K) gSum := by
  intro xs ds H G Q hx hg k
  unfold gSum at hg
  split at hg
  · cases hx with
    | cons h t =>
      cases t
      cases h with
      | lst hs ha =>
        split at hg
        · rename_i ns e
          have := intsOf_dp ha e
          subst this
          exact ⟨_, ns, rfl, hs, k _ _ (.int _) hg⟩
        · exact hg.elim
  · exact hg.elim
theorem o_max : OpN K (fun xs H Q => ∃ i j, xs = [V.int i, V.int j] ∧ Q (.int (if j > i then j else i)) H) gMax := by
  intro xs ds H G Q hx hg k
  unfold gMax at hg
  split at hg
  · cases hx with
    | cons h t =>
      cases h
      cases t with
      | cons h t =>
        cases h
        cases t
        exact ⟨_, _, rfl, k _ _ (.int _) hg⟩
  · exact hg.elim
theorem o_min : OpN K (fun xs H Q => ∃ i j, xs = [V.int i, V.int j] ∧ Q (.int (if j < i then j else i)) H) gMin := by
  intro xs ds H G Q hx hg k
  unfold gMin at hg
  split at hg
  · cases hx with
    | cons h t =>
      cases h
      cases t with
      | cons h t =>
        cases h
        cases t
        exact ⟨_, _, rfl, k _ _ (.int _) hg⟩
  · exact hg.elim
end

/-! ### slices -/
abbrev WO := Rho → (Option Int → Rho → Prop) → Prop
structure DO (X : Cx) (e : Option Expr) (w : WO) : Prop where
  run : ∃ t : TO, PO X e t ∧ ∀ (σ : Sg) (H F : Hp) (ρ : Rho) (fr : Fp) (Q : Option Int → Rho → Prop) (Q' : Option Int → Hp → Prop), SI X.K F H σ ρ fr → w ρ Q →
    (∀ o H' F' ρ', Q o ρ' → SI X.K F' H' σ ρ' fr → Kp F H fr F' H' → Q' o H') → t σ H Q'
def wPart (wa : WE) : WO := fun ρ Q => wa ρ fun r ρ1 => match r.dat ρ1 with
  | some (.int i) => Q (some i) ρ1
  | _ => False
def wNoPart : WO := fun ρ Q => Q none ρ
def cutD (ds : List PyData) (lo hi : Option Int) : List PyData := (ds.drop (HT.sIx ds.length 0 lo)).take (HT.sIx ds.length ds.length hi - HT.sIx ds.length 0 lo)
/-- a new own list; a text; a tuple -/
def wSl (wa : WE) (w1 w2 : WO) : WE := fun ρ Q => wa ρ fun r ρ1 => w1 ρ1 fun lo ρ2 => w2 ρ2 fun hi ρ3 => match r.ot ρ3 with
  | some (.fz (.list ds)) => ∀ p, Q (.tm (.lst p (cutD ds lo hi))) ρ3
  | some (.lst _ ds) => ∀ p, Q (.tm (.lst p (cutD ds lo hi))) ρ3
  | some (.fz (.str z)) => z.length ≤ sizeLine ∧ Q (.fz (.str (cutS z lo hi))) ρ3
  | some (.fz (.tuple ds)) => Q (.fz (.tuple (cutD ds lo hi))) ρ3
  | _ => False
section
variable {X : Cx} {e : Expr} {wa : WE} {pos p2 : Pos} {lo hi : Option Expr} {w1 w2 : WO}
theorem do_none : DO X none wNoPart := ⟨⟨_, po_none, fun σ H F ρ fr Q Q' S hw k => k none H F ρ hw S Kp.refl⟩⟩
theorem do_some (h : DE X e wa) : DO X (some e) (wPart wa) := by
  obtain ⟨⟨ta, pa, ra⟩⟩ := h
  refine ⟨⟨_, po_some pa, fun σ H F ρ fr Q Q' S hw k => ?_⟩⟩
  refine ra σ H F ρ fr _ _ S hw fun v1 H1 F1 ρ1 r1 m1 hw o1 S1 k1 => ?_
  split at hw
  · rename_i i hd
    have := o1.dp S1 hd
    cases this
    exact ⟨i, rfl, k _ H1 F1 ρ1 hw S1.left k1⟩
  · exact hw.elim
theorem dpa_cut {K : PySem.W.Frag} {H : Hp} {vs : List V} {ds : List PyData} (h : DpAll K H vs ds) (lo hi : Option Int) : DpAll K H (cutV vs lo hi) (cutD ds lo hi) := by
  unfold cutV cutD
  rw [h.length]
  exact (h.drop _).take _
theorem de_sl (ha : DE X e wa) (hl : DO X lo w1) (hu : DO X hi w2) : DE X (.Subscript e (.Slice lo hi none p2) pos) (wSl wa w1 w2) := by
  obtain ⟨⟨ta, pa, ra⟩⟩ := ha
  obtain ⟨⟨tl, pl, rl⟩⟩ := hl
  obtain ⟨⟨tu, pu, ru⟩⟩ := hu
  refine ⟨⟨_, pe_slice (sl_list.or (sl_str.or sl_tupA)) pa pl pu, fun σ H F ρ fr Q Q' S hw k => ?_⟩⟩
  refine ra σ H F ρ fr _ _ S hw fun v1 H1 F1 ρ1 r1 m1 hw o1 S1 k1 => ?_
  refine rl σ H1 F1 ρ1 _ _ _ S1 hw fun l H2 F2 ρ2 hw S2 k2 => ?_
  refine ru σ H2 F2 ρ2 _ _ _ S2 hw fun u H3 F3 ρ3 hw S3 k3 => ?_
  have o3 := (o1.kp k2).kp k3
  have kk : Kp F H fr F3 H3 := (k1.trans k2.left).trans k3.left
  have S3' := S3.left
  split at hw
  · rename_i ds hd
    obtain ⟨m', o'⟩ := o3.own S3 hd
    obtain ⟨o', _⟩ := o'
    cases o' with
    | lst hs ha =>
      refine .inl ⟨_, _, rfl, S3.ex.seq hs, fun p hp => ?_⟩
      obtain ⟨S4, k4⟩ := S3'.newL (o := .lst (cutV _ l u)) hp
      exact k _ _ _ ρ3 _ (one p) (hw p) ⟨_, rfl, upd_same, dpa_cut ha l u, rfl⟩ S4 (kk.trans k4)
  · rename_i p0 ds hd
    obtain ⟨m', o'⟩ := o3.own S3 hd
    obtain ⟨vs, rfl, h0, ha, _⟩ := o'
    refine .inl ⟨_, _, rfl, SqL.of h0, fun p hp => ?_⟩
    obtain ⟨S4, k4⟩ := S3'.newL (o := .lst (cutV _ l u)) hp
    exact k _ _ _ ρ3 _ (one p) (hw p) ⟨_, rfl, upd_same, dpa_cut ha l u, rfl⟩ S4 (kk.trans k4)
  · rename_i z hd
    obtain ⟨m', o'⟩ := o3.own S3 hd
    obtain ⟨o', _⟩ := o'
    cases o'
    exact .inr (.inl ⟨z, rfl, hw.1, k _ H3 F3 ρ3 _ z0 hw.2 ⟨.str _, rfl⟩ S3' kk⟩)
  · rename_i ds hd
    obtain ⟨m', o'⟩ := o3.own S3 hd
    obtain ⟨o', _⟩ := o'
    cases o' with
    | tup hs ha =>
      refine .inr (.inr ⟨_, _, rfl, same_t S3.ex hs, fun hwh => ?_, fun _ p hp => ?_⟩)
      · have e1 : cutD ds l u = ds := by
          unfold cutD
          rw [← ha.length, hwh.1, hwh.2, ha.length]
          exact List.take_length
        rw [e1] at hw
        exact k _ H3 F3 ρ3 _ z0 hw ⟨.tup hs ha, rfl⟩ S3' kk
      · obtain ⟨S4, s4, k4⟩ := S3'.newF (o := .tup (cutV _ l u)) hp
        exact k _ _ _ ρ3 _ z0 hw ⟨.tup (SqT.of upd_same) (dpam s4 _ _ (dpa_cut ha l u)), rfl⟩ S4 (kk.trans k4)
  · exact hw.elim
end
end DL

namespace DL
open PySem PySem.Spec PyProof.Rows L2

/-! ### statements -/
structure DEnds where
  nx : Rho → Prop
  rt : RV → Rho → Prop
  bk : Rho → Prop := fun _ => False
  ct : Rho → Prop := fun _ => False
  ex : Str → Option (Str × PyData) → Rho → Prop := fun _ _ _ => False
def DEnds.seq (d : DEnds) (k : Rho → Prop) : DEnds := ⟨k, d.rt, d.bk, d.ct, d.ex⟩
def DEnds.loop (d : DEnds) (k : Rho → Prop) : DEnds := ⟨k, d.rt, d.nx, k, d.ex⟩
abbrev WS := DEnds → Rho → Prop
structure EndsOk (K : PySem.W.Frag) (F H : Hp) (fr : Fp) (d : DEnds) (e : Ends) : Prop where
  nx : ∀ σ' H' F' ρ', d.nx ρ' → SI K F' H' σ' ρ' fr → Kp F H fr F' H' → e.nx σ' H'
  bk : ∀ σ' H' F' ρ', d.bk ρ' → SI K F' H' σ' ρ' fr → Kp F H fr F' H' → e.bk σ' H'
  ct : ∀ σ' H' F' ρ', d.ct ρ' → SI K F' H' σ' ρ' fr → Kp F H fr F' H' → e.ct σ' H'
  rt : ∀ v H' F' σ' ρ' r m, d.rt r ρ' → RVok K F' H' σ' r v m → SI K F' H' σ' ρ' (padd fr m) → Kp F H fr F' H' → e.rt v H'
theorem EndsOk.go {K : PySem.W.Frag} {F H F1 H1 : Hp} {fr : Fp} {d : DEnds} {e : Ends} (E : EndsOk K F H fr d e) (k : Kp F H fr F1 H1) : EndsOk K F1 H1 fr d e :=
  ⟨fun σ' H' F' ρ' a b c => E.nx σ' H' F' ρ' a b (k.trans c), fun σ' H' F' ρ' a b c => E.bk σ' H' F' ρ' a b (k.trans c), fun σ' H' F' ρ' a b c => E.ct σ' H' F' ρ' a b (k.trans c),
    fun v H' F' σ' ρ' r m a b c x => E.rt v H' F' σ' ρ' r m a b c (k.trans x)⟩
abbrev RS (K : PySem.W.Frag) (t : TS) (w : WS) : Prop := ∀ (σ : Sg) (H F : Hp) (ρ : Rho) (fr : Fp) (d : DEnds) (e : Ends), SI K F H σ ρ fr → EndsOk K F H fr d e → w d ρ → t e σ H
structure DS (X : Cx) (st : Stmt) (w : WS) : Prop where
  run : ∃ t : TS, PS X st t ∧ RS X.K t w
structure DSs (X : Cx) (st : List Stmt) (w : WS) : Prop where
  run : ∃ t : TS, PSs X st t ∧ RS X.K t w
def wNext : WS := fun d ρ => d.nx ρ
def wBrk : WS := fun d ρ => d.bk ρ
def wCnt : WS := fun d ρ => d.ct ρ
def wSeq (w1 w2 : WS) : WS := fun d ρ => w1 (d.seq (w2 d)) ρ
def wDrop (wa : WE) : WS := fun d ρ => wa ρ fun _ ρ1 => d.nx ρ1
def wRet (wa : WE) : WS := fun d ρ => wa ρ d.rt
def wRetN : WS := fun d ρ => d.rt (.fz .none) ρ
def wIfS (wt : WT) (w1 w2 : WS) : WS := fun d ρ => wt ρ fun b ρ1 => bmt b (w1 d ρ1) (w2 d ρ1)
/-- name = value -/
def toSlot (i : Nat) (r : RV) (ρ : Rho) (k : Rho → Prop) : Prop := match r with
  | .tm t => k (ρ.set i (some t))
  | .sl j => frz (.sl j) ρ fun d ρ2 => k (ρ2.set i (some (.fz d)))
def wSet (wa : WE) (i : Nat) : WS := fun d ρ => wa ρ fun r ρ1 => toSlot i r ρ1 d.nx
section
variable {K : PySem.W.Frag} {F H : Hp} {σ : Sg} {ρ : Rho} {fr m : Fp} {t : OT} {v : V}
theorem SI.set (S : SI K F H σ ρ (padd fr m)) (o : OwnT K F H t v m) (i : Nat) : SI K F H (σ.set i (some v)) (ρ.set i (some t)) fr := by
  by_cases hi : i < ρ.length
  · obtain ⟨m0, ow, q⟩ := S.own
    obtain ⟨m1, m2, em, _, _, _, _, h3⟩ := ow.at hi
    obtain ⟨m3, o3, e3⟩ := h3 t v m o
    refine ⟨S.ex, m3, o3, fun a => ?_⟩
    obtain ⟨q1, q2⟩ := q a
    rw [em] at q1 q2
    unfold padd at q1 q2
    rw [e3 a]
    exact ⟨by omega, fun z => q2 (by omega)⟩
  · obtain ⟨m0, ow, q⟩ := S.own
    have hl := ow.len
    rw [List.set_eq_of_length_le (by omega), List.set_eq_of_length_le (by omega)]
    exact S.left
theorem SI.setF (S : SI K F H σ ρ fr) {d : PyData} (o : Dp K F v d) (i : Nat) : SI K F H (σ.set i (some v)) (ρ.set i (some (.fz d))) fr :=
  SI.set (m := z0) (t := .fz d) S ⟨o, rfl⟩ i
theorem toSlot_ok {r : RV} {i : Nat} {k : Rho → Prop} (S : SI K F H σ ρ (padd fr m)) (o : RVok K F H σ r v m) (h : toSlot i r ρ k) : ∃ ρ' F', k ρ' ∧ SI K F' H (σ.set i (some v)) ρ' fr ∧ Same F F' := by
  cases r with
  | tm t => exact ⟨_, F, h, S.set o i, Same.refl _⟩
  | sl j =>
    obtain ⟨d, ρ2, F2, h, dp, s, S2⟩ := frz_ok (r := .sl j) (k := fun d ρ2 => k (ρ2.set i (some (.fz d)))) S o (fun a => by unfold padd; omega) h
    refine ⟨_, F2, h, SI.setF (S2.less fun a => ?_) dp i, s⟩
    unfold padd
    omega
end
section
variable {X : Cx} {st : Stmt} {sts : List Stmt} {w1 w2 : WS} {wa wb : WE} {wt : WT} {e c : Expr} {pos pos' : Pos}
theorem dss_nil : DSs X [] wNext := ⟨⟨_, pss_nil, fun σ H F ρ fr d e S E h => E.nx σ H F ρ h S Kp.refl⟩⟩
theorem dss_cons (h1 : DS X st w1) (h2 : DSs X sts w2) : DSs X (st :: sts) (wSeq w1 w2) := by
  obtain ⟨⟨t, p, r⟩⟩ := h1
  obtain ⟨⟨u, q, r2⟩⟩ := h2
  refine ⟨⟨_, pss_cons p q, fun σ H F ρ fr d e S E h => ?_⟩⟩
  exact r σ H F ρ fr (d.seq (w2 d)) { e with nx := u e } S ⟨fun σ' H' F' ρ' a b c => r2 σ' H' F' ρ' fr d e b (E.go c) a, E.bk, E.ct, E.rt⟩ h
theorem dss_one (h1 : DS X st w1) : DSs X [st] w1 := let ⟨⟨t, p, r⟩⟩ := h1; ⟨⟨_, pss_one p, r⟩⟩
theorem ds_pass : DS X (.Pass pos) wNext := ⟨⟨_, ps_pass, fun σ H F ρ fr d e S E h => E.nx σ H F ρ h S Kp.refl⟩⟩
theorem ds_doc {x : Str} {j : Nat} : DS X (.Expr (.Constant (.str x) j pos) pos') wNext := ⟨⟨_, ps_doc, fun σ H F ρ fr d e S E h => E.nx σ H F ρ h S Kp.refl⟩⟩
theorem ds_break : DS X (.Break pos) wBrk := ⟨⟨_, ps_break, fun σ H F ρ fr d e S E h => E.bk σ H F ρ h S Kp.refl⟩⟩
theorem ds_continue : DS X (.Continue pos) wCnt := ⟨⟨_, ps_continue, fun σ H F ρ fr d e S E h => E.ct σ H F ρ h S Kp.refl⟩⟩
theorem ds_expr (h : DE X e wa) (hs : swapsWith e none pos.line X.env = pure false := by rfl) : DS X (.Expr e pos) (wDrop wa) := by
  obtain ⟨⟨t, p, r⟩⟩ := h
  refine ⟨⟨_, ps_expr p hs, fun σ H F ρ fr d e S E h => ?_⟩⟩
  exact r σ H F ρ fr _ _ S h fun v H' F' ρ' r m a b c k => E.nx σ H' F' ρ' a c.left k
theorem ds_ret (h : DE X e wa) : DS X (.Return (some e) pos) (wRet wa) := by
  obtain ⟨⟨t, p, r⟩⟩ := h
  refine ⟨⟨_, ps_ret p, fun σ H F ρ fr d e S E h => ?_⟩⟩
  exact r σ H F ρ fr _ _ S h fun v H' F' ρ' r m a b c k => E.rt v H' F' σ ρ' r m a b c k
theorem ds_retN : DS X (.Return none pos) wRetN := ⟨⟨_, ps_retN, fun σ H F ρ fr d e S E h => E.rt .non H F σ ρ (.fz .none) z0 h ⟨.non, rfl⟩ S Kp.refl⟩⟩
theorem ds_if {a b : List Stmt} (hc : DT X c wt) (ha : DSs X a w1) (hb : DSs X b w2) : DS X (.If c a b pos) (wIfS wt w1 w2) := by
  obtain ⟨⟨t, p, r⟩⟩ := hc
  obtain ⟨⟨t1, p1, r1⟩⟩ := ha
  obtain ⟨⟨t2, p2, r2⟩⟩ := hb
  refine ⟨⟨_, ps_if p p1 p2, fun σ H F ρ fr d e S E h => ?_⟩⟩
  refine r σ H F ρ fr _ _ S h fun b H' F' ρ' a S' k => ?_
  cases b with
  | true => exact r1 σ H' F' ρ' fr d e S' (E.go k) a
  | false => exact r2 σ H' F' ρ' fr d e S' (E.go k) a
theorem ds_set {i : Nat} {x : Str} (hN : X.N.Nodup) (hi : X.N[i]? = some x) (hx : Loc X.env.scope x) (he : DE X e wa) (hs : swapsWith e (some (.Name x pos')) pos.line X.env = pure false := by rfl)
    (hf : X.fn x = true ∨ X.env.scope.names.lookup x = some .local := by first | exact .inl rfl | exact .inr rfl | assumption) : DS X (.Assign [.Name x pos'] e pos) (wSet wa i) := by
  obtain ⟨⟨t, p, r⟩⟩ := he
  refine ⟨⟨_, ps_set hN hi hx p hs hf, fun σ H F ρ fr d e S E h => ?_⟩⟩
  refine r σ H F ρ fr _ _ S h fun v H' F' ρ' r m a b c k => ?_
  obtain ⟨ρ2, F2, q, S2, s⟩ := toSlot_ok c b a
  exact E.nx _ H' F2 ρ2 q S2 (k.trans (Kp.ofF s))

/-! targets of frozen data -/
abbrev WG := PyData → Rho → (Rho → Prop) → Prop
structure DG (X : Cx) (tg : Expr) (w : WG) : Prop where
  run : ∃ t : TG, PG X tg t ∧ ∀ (σ : Sg) (H F : Hp) (ρ : Rho) (fr : Fp) (x : PyData) (v : V) (Q : Rho → Prop) (Q' : Sg → Hp → Prop), SI X.K F H σ ρ fr → Dp X.K F v x → w x ρ Q →
    (∀ σ' H' F' ρ', Q ρ' → SI X.K F' H' σ' ρ' fr → Kp F H fr F' H' → Q' σ' H') → t v σ H Q'
abbrev WGs := List PyData → Rho → (Rho → Prop) → Prop
structure DGs (X : Cx) (tgs : List Expr) (w : WGs) : Prop where
  run : ∃ t : TGs, PGs X tgs t ∧ ∀ (σ : Sg) (H F : Hp) (ρ : Rho) (fr : Fp) (xs : List PyData) (vs : List V) (Q : Rho → Prop) (Q' : Sg → Hp → Prop), SI X.K F H σ ρ fr → DpAll X.K F vs xs → w xs ρ Q →
    (∀ σ' H' F' ρ', Q ρ' → SI X.K F' H' σ' ρ' fr → Kp F H fr F' H' → Q' σ' H') → t vs σ H Q'
def gvName (i : Nat) : WG := fun x ρ Q => Q (ρ.set i (some (.fz x)))
def gvNil : WGs := fun xs ρ Q => match xs with
  | [] => Q ρ
  | _ => False
def gvCons (g : WG) (gs : WGs) : WGs := fun xs ρ Q => match xs with
  | x :: r => g x ρ fun ρ1 => gs r ρ1 Q
  | [] => False
def gvTup (n : Nat) (gs : WGs) : WG := fun x ρ Q => match x with
  | .tuple xs => bmt (decide (xs.length = n)) (gs xs ρ Q) False
  | _ => False
theorem dg_name {i : Nat} {x : Str} (hN : X.N.Nodup) (hi : X.N[i]? = some x) (hx : Loc X.env.scope x) (hf : X.fn x = true ∨ X.env.scope.names.lookup x = some .local := by first | exact .inl rfl | exact .inr rfl | assumption) : DG X (.Name x pos) (gvName i) :=
  ⟨⟨_, pg_name hN hi hx hf, fun σ H F ρ fr x v Q Q' S dp h k => k _ H F _ h (S.setF dp i) Kp.refl⟩⟩
theorem dgs_nil : DGs X [] gvNil := by
  refine ⟨⟨_, pgs_nil, fun σ H F ρ fr xs vs Q Q' S dp h k => ?_⟩⟩
  cases dp with
  | nil => exact ⟨rfl, k σ H F ρ h S Kp.refl⟩
  | cons _ _ => exact h.elim
theorem dgs_cons {g : WG} {gs : WGs} {es : List Expr} (h1 : DG X e g) (h2 : DGs X es gs) (hs : (assignEach (e :: es) X.env).map (·.2) = assign e X.env :: (assignEach es X.env).map (·.2) := by rfl) : DGs X (e :: es) (gvCons g gs) := by
  obtain ⟨⟨t, p, r⟩⟩ := h1
  obtain ⟨⟨u, q, r2⟩⟩ := h2
  refine ⟨⟨_, pgs_cons p q hs, fun σ H F ρ fr xs vs Q Q' S dp h k => ?_⟩⟩
  cases dp with
  | nil => exact h.elim
  | cons d1 d2 => exact ⟨_, _, rfl, r σ H F ρ fr _ _ _ _ S d1 h fun σ' H' F' ρ' a S' k' => r2 σ' H' F' ρ' fr _ _ _ _ S' (dpam k'.exF _ _ d2) a fun σ2 H2 F2 ρ2 a S2 k2 => k σ2 H2 F2 ρ2 a S2 (k'.trans k2)⟩
theorem dg_tup {gs : WGs} {es : List Expr} {k n : Nat} (hc : X.calm = true) (h : DGs X es gs) (hn : (assignEach es X.env).length = n := by rfl) (hst : (assignEach es X.env).findIdx? (·.1) = none := by rfl) : DG X (.Tuple es k pos) (gvTup n gs) := by
  obtain ⟨⟨u, q, r2⟩⟩ := h
  refine ⟨⟨_, pg_tup hc q hn hst, fun σ H F ρ fr xs vs Q Q' S dp h k => ?_⟩⟩
  cases dp with
  | tup hs ha => have h := bmt_and h; exact ⟨_, _, rfl, same_t S.ex hs, by rw [ha.length]; exact h.1, r2 σ H F ρ fr _ _ Q Q' S ha h.2 k⟩
  | _ => exact h.elim
/-- targets = value -/
def wAsg (wa : WE) (g : WG) : WS := fun d ρ => wa ρ fun r ρ1 => frz r ρ1 fun x ρ2 => g x ρ2 d.nx
theorem ds_asg {tg : Expr} {g : WG} (he : DE X e wa) (hg : DG X tg g) (hs : swapsWithSole [tg] e pos.line X.env = pure false := by rfl) (hw : swappedStores [tg] e X.env = pure none := by rfl)
    (h1 : (assignEach [tg] X.env).map (·.2) = [assign tg X.env] := by rfl) : DS X (.Assign [tg] e pos) (wAsg wa g) := by
  obtain ⟨⟨t, p, r⟩⟩ := he
  obtain ⟨⟨u, q, r2⟩⟩ := hg
  refine ⟨⟨_, ps_asg p q hs hw h1, fun σ H F ρ fr d e S E h => ?_⟩⟩
  refine r σ H F ρ fr _ _ S h fun v H' F' ρ' r m a b c k => ?_
  obtain ⟨x, ρ2, F2, a, dp, s, S2⟩ := frz_ok c b (fun a => by unfold padd; omega) a
  have S2' : SI X.K F2 H' σ ρ2 fr := S2.less fun a => by unfold padd; omega
  exact r2 σ H' F2 ρ2 fr x v _ _ S2' dp a fun σ3 H3 F3 ρ3 a S3 k3 => E.nx σ3 H3 F3 ρ3 a S3 ((k.trans (Kp.ofF s)).trans k3)
/-- unpacking a list -/
def gvUnl (n : Nat) (gs : WGs) : WG := fun x ρ Q => match x with
  | .list xs => bmt (decide (xs.length = n)) (gs xs ρ Q) False
  | _ => False
theorem dg_unl {gs : WGs} {es : List Expr} {k n : Nat} (hc : X.calm = true) (h : DGs X es gs) (hn : (assignEach es X.env).length = n := by rfl) (hst : (assignEach es X.env).findIdx? (·.1) = none := by rfl) : DG X (.Tuple es k pos) (gvUnl n gs) := by
  obtain ⟨⟨u, q, r2⟩⟩ := h
  refine ⟨⟨_, pg_unl hc q hn hst, fun σ H F ρ fr xs vs Q Q' S dp h k => ?_⟩⟩
  cases dp with
  | lst hs ha => have h := bmt_and h; exact ⟨_, _, rfl, S.ex.seq hs, by rw [ha.length]; exact h.1, r2 σ H F ρ fr _ _ Q Q' S ha h.2 k⟩
  | _ => exact h.elim
/-- a, b = x, y -/
def wPar (i j : Nat) (ws : WA) : WS := fun d ρ => ws ρ fun rs ρ1 => frzs rs ρ1 fun ds ρ2 => match ds with
  | [x, y] => d.nx ((ρ2.set i (some (.fz x))).set j (some (.fz y)))
  | _ => False
theorem ds_par {i j : Nat} {x y : Str} {a b : Expr} {ws : WA} {px py pt : Pos} {kt k2 : Nat} {pt2 : Pos} (hc : X.calm = true) (hN : X.N.Nodup) (hi : X.N[i]? = some x) (hj : X.N[j]? = some y) (hij : i ≠ j)
    (hx : X.env.scope.names.lookup x = some .local) (hy : X.env.scope.names.lookup y = some .local) (ha : DA X [a, b] ws)
    (hw : swappedStores [.Tuple [.Name x px, .Name y py] kt pt] (.Tuple [a, b] k2 pt2) X.env = pure (some [x, y]))
    (hs : swapsWithSole [.Tuple [.Name x px, .Name y py] kt pt] (.Tuple [a, b] k2 pt2) pos.line X.env = pure false := by rfl) :
    DS X (.Assign [.Tuple [.Name x px, .Name y py] kt pt] (.Tuple [a, b] k2 pt2) pos) (wPar i j ws) := by
  obtain ⟨⟨t, p, r⟩⟩ := ha
  refine ⟨⟨_, ps_par hc hN hi hj hij hx hy p hw hs, fun σ H F ρ fr d e S E h => ?_⟩⟩
  refine r σ H F ρ fr _ _ S h fun vs H1 F1 ρ1 rs m hw o S1 k1 => ?_
  obtain ⟨ds, ρ2, F2, hw, dp, s, S2⟩ := frzs_ok (vs := vs) S1 o (fun a => by unfold padd; omega) hw
  have S2' : SI X.K F2 H1 σ ρ2 fr := S2.less fun a => by unfold padd; omega
  cases dp with
  | nil => exact hw.elim
  | cons d1 t1 =>
    cases t1 with
    | nil => exact hw.elim
    | cons d2 t2 =>
      cases t2 with
      | cons _ _ => exact hw.elim
      | nil => exact ⟨_, _, rfl, E.nx _ H1 F2 _ hw ((S2'.setF d1 i).setF d2 j) (k1.trans (Kp.ofF s))⟩
end

/-! ### own lists that change -/
section
variable {K : PySem.W.Frag} {F H : Hp} {σ : Sg} {ρ : Rho} {fr : Fp} {ds : List PyData} {i : Nat}
/-- the own list of a slot, and what comes of another one put in its place -/
theorem SI.lst {p : Addr} (S : SI K F H σ ρ fr) (h : look ρ i = some (.lst p ds)) : ∃ vs, σ[i]? = some (some (.ref p)) ∧ H p = some (.lst vs) ∧ DpAll K F vs ds ∧
    ∀ vs' ds', DpAll K F vs' ds' → SI K F (upd H p (.lst vs')) σ (ρ.set i (some (.lst p ds'))) fr ∧ Kp F H fr F (upd H p (.lst vs')) := by
  obtain ⟨m, ow, q⟩ := S.own
  obtain ⟨m1, m2, em, h1, _, _, h2, h3⟩ := ow.at (look_lt h)
  obtain ⟨v, e1, vs, rfl, hp, ha, rfl⟩ := h1 _ h
  refine ⟨vs, e1, hp, ha, fun vs' ds' ha' => ?_⟩
  have q1 := q p
  rw [em] at q1
  have h1p : one p p = 1 := by simp [one]
  have hz : m2 p + fr p = 0 := by have := q1.1; unfold padd at this; omega
  have hFp : F p = none := (q1.2 (by unfold padd; omega)).1
  have o' : OwnT K F (upd H p (.lst vs')) (.lst p ds') (.ref p) (one p) := ⟨vs', rfl, upd_same, ha', rfl⟩
  have ow2 : OwnS K F (upd H p (.lst vs')) (ρ.set i none) σ m2 := h2.kp (Same.refl _) fun a z => upd_ne fun e => by subst e; omega
  obtain ⟨n1, n2, en, g1, g0, _, _, g3⟩ := ow2.at (i := i) (by rw [List.length_set]; exact look_lt h)
  have hlk : ∀ (ρ : Rho) (i : Nat) (x : Option OT), i < ρ.length → look (ρ.set i x) i = x := by
    intro ρ
    induction ρ with
    | nil => intro i x h; cases h
    | cons y r ih => intro i x h; cases i with
      | zero => rfl
      | succ i => exact ih i x (by simpa using h)
  have en1 : n1 = z0 := g0 (hlk ρ i none (look_lt h))
  obtain ⟨m3, o3, e3⟩ := g3 _ _ _ o'
  rw [List.set_set] at o3
  have hσ : σ.set i (some (.ref p)) = σ := by
    apply List.ext_getElem?
    intro j
    by_cases hj : i = j
    · subst hj
      rw [List.getElem?_set_self (List.getElem?_eq_some_iff.mp e1).1, e1]
    · rw [List.getElem?_set_ne hj]
  rw [hσ] at o3
  refine ⟨⟨fun b u e => ?_, m3, o3, fun a => ?_⟩, Same.refl _, fun a z => upd_ne fun e => by subst e; omega, fun a z => ?_⟩
  · rw [upd_ne fun e' => by subst e'; rw [hFp] at e; cases e]
    exact S.ex b u e
  · have e4 : m3 a = m a := by
      rw [e3 a, em]
      unfold padd
      have : m2 a = n2 a := by rw [en, en1]; exact Nat.zero_add _
      omega
    rw [e4]
    refine ⟨(q a).1, fun z => ⟨((q a).2 z).1, ?_⟩⟩
    by_cases hb : a = p
    · subst hb; rw [upd_same]; simp
    · rw [upd_ne hb]; exact ((q a).2 z).2
  · by_cases hb : a = p
    · subst hb; rw [upd_same]; simp
    · rw [upd_ne hb]; exact z
end
/-- x.append(e) of an own list, the answer dropped -/
def isOwn (ρ : Rho) (i : Nat) (k : Prop) : Prop := match look ρ i with
  | some (.lst _ _) => k
  | _ => False
theorem isOwn_iff {ρ : Rho} {i : Nat} {k : Prop} (h : isOwn ρ i k) : (∃ q ds, look ρ i = some (.lst q ds)) ∧ k := by
  unfold isOwn at h
  split at h
  · exact ⟨⟨_, _, by assumption⟩, h⟩
  · exact h.elim
def wApp (i : Nat) (wa : WE) : WS := fun d ρ => isOwn ρ i <| wa ρ fun r ρ1 => frz r ρ1 fun x ρ2 => match look ρ2 i with
  | some (.lst p ds) => ds.length < sizeLine ∧ d.nx (ρ2.set i (some (.lst p (ds ++ [x]))))
  | _ => False
/-- x[k] = e of an own list -/
def wSub (i : Nat) (wk wa : WE) : WS := fun d ρ => wa ρ fun r ρ1 => frz r ρ1 fun x ρ2 => isOwn ρ2 i <| wk ρ2 fun rk ρ3 => match look ρ3 i, rk.dat ρ3 with
  | some (.lst p ds), some (.int k) => (match ixN ds.length k with
    | some j => d.nx (ρ3.set i (some (.lst p (ds.set j x))))
    | none => False)
  | _, _ => False
section
variable {X : Cx} {e k : Expr} {wa wk : WE} {pos apos cpos p0 tpos : Pos} {x : Str} {i : Nat}
theorem ds_app (hN : X.N[i]? = some x) (hv : Vis X.env.scope x) (ha : DE X e wa)
    (hd : (x == ("__debug__" : Str)) = false := by decide) (hcd : (x == ("__classdict__" : Str)) = false := by decide)
    (hbase : attributeBase (.Name x p0) "append" X.env (eval (.Name x p0) X.env) = eval (.Name x p0) X.env := by rfl)
    (hfew : ((backTo cpos (starEach [e] X.env)).all (fun x => !x.1) && (backToKw cpos (keywordEach [] X.env)).all (fun x => x.1.isSome)
      && decide ([e].length + ([] : List Keyword).length + (if ([] : List Keyword).isEmpty then 0 else 1) < 30)) = true := by rfl)
    (hline : (apos.endLine == cpos.line) = true := by rfl) (hs : starEach (e :: []) X.env = (false, eval e X.env) :: starEach [] X.env := by rfl) (hplain : (backTo cpos (starEach [] X.env)).any (·.1) = false := by rfl)
    (hsw : swapsWith (.Call (.Attribute (.Name x p0) "append" apos) [e] [] cpos) none pos.line X.env = pure false := by rfl) :
    DS X (.Expr (.Call (.Attribute (.Name x p0) "append" apos) [e] [] cpos) pos) (wApp i wa) := by
  obtain ⟨⟨t, p, r⟩⟩ := ha
  refine ⟨⟨_, ps_expr (pe_bm PySem.F.plainAttrs_list PySem.F.slot_list_append PySem.F.type_list_append mt_append (pe_var hN hv hd hcd) (pa_cons p pa_nil hs) hbase hfew hline hs hplain) hsw, fun σ H F ρ fr d e S E h => ?_⟩⟩
  obtain ⟨⟨q, ds0, e0⟩, h⟩ := isOwn_iff h
  obtain ⟨vs, e1, hp, _, _⟩ := S.lst e0
  refine ⟨.ref q, e1, .inl ⟨rfl, _, SqL.of hp⟩, ?_⟩
  refine r σ H F ρ fr _ _ S h fun v H1 F1 ρ1 r1 m a b c k1 => ?_
  obtain ⟨y, ρ2, F2, a, dp, s, S2⟩ := frz_ok c b (fun a => by unfold padd; omega) a
  have S2' : SI X.K F2 H1 σ ρ2 fr := S2.less fun a => by unfold padd; omega
  split at a
  · rename_i q' ds e2
    obtain ⟨vs', e1', hp', ha', fin⟩ := S2'.lst e2
    rw [e1] at e1'
    cases e1'
    obtain ⟨S3, k3⟩ := fin (vs' ++ [v]) (ds ++ [y]) (ha'.append (.cons dp .nil))
    exact ⟨q, vs', v, rfl, rfl, hp', by rw [ha'.length]; exact a.1, E.nx σ _ F2 _ a.2 S3 ((k1.trans (Kp.ofF s)).trans k3)⟩
  · exact a.elim
theorem ds_sub (hN : X.N[i]? = some x) (hv : Vis X.env.scope x) (hk : DE X k wk) (ha : DE X e wa)
    (hd : (x == ("__debug__" : Str)) = false := by decide) (hcd : (x == ("__classdict__" : Str)) = false := by decide)
    (h2 : ∀ v, assign (.Subscript (.Name x p0) k tpos) X.env v = (do
      let ov ← holding [v] (eval (.Name x p0) X.env)
      let iv ← holding [v, ov] (eval k X.env)
      standAt tpos
      holding [v, ov, iv] (setItem ov iv v)
      release [v, ov, iv] []) := by intro _; rfl)
    (hs : swapsWithSole [.Subscript (.Name x p0) k tpos] e pos.line X.env = pure false := by rfl) (hw : swappedStores [.Subscript (.Name x p0) k tpos] e X.env = pure none := by rfl)
    (h1 : (assignEach [.Subscript (.Name x p0) k tpos] X.env).map (·.2) = [assign (.Subscript (.Name x p0) k tpos) X.env] := by rfl) :
    DS X (.Assign [.Subscript (.Name x p0) k tpos] e pos) (wSub i wk wa) := by
  obtain ⟨⟨t, p, r⟩⟩ := ha
  obtain ⟨⟨tk, pk, rk⟩⟩ := hk
  refine ⟨⟨_, ps_asg p (pg_sub (pe_var hN hv hd hcd) pk set_list h2) hs hw h1, fun σ H F ρ fr d e S E h => ?_⟩⟩
  refine r σ H F ρ fr _ _ S h fun v H1 F1 ρ1 r1 m a b c k1 => ?_
  obtain ⟨y, ρ2, F2, a, dp, s, S2⟩ := frz_ok c b (fun a => by unfold padd; omega) a
  have S2' : SI X.K F2 H1 σ ρ2 fr := S2.less fun a => by unfold padd; omega
  obtain ⟨⟨q, ds0, e0⟩, a⟩ := isOwn_iff a
  obtain ⟨vs, e1, hp, _, _⟩ := S2'.lst e0
  refine ⟨.ref q, e1, ?_⟩
  refine rk σ H1 F2 ρ2 fr _ _ S2' a fun vk H3 F3 ρ3 r3 m3 a o3 S3 k3 => ?_
  split at a
  · rename_i q' ds kk e2 e3
    have := o3.dp S3 e3
    cases this
    obtain ⟨vs', e1', hp', ha', fin⟩ := S3.left.lst e2
    rw [e1] at e1'
    cases e1'
    split at a
    · rename_i j hj
      obtain ⟨S4, k4⟩ := fin (vs'.set j v) (ds.set j y) (ha'.set (dpm k3.exF _ _ dp) j)
      exact ⟨q, vs', _, j, rfl, rfl, hp', by rw [ha'.length]; exact hj, E.nx σ _ F3 _ a S4 (((k1.trans (Kp.ofF s)).trans k3).trans k4)⟩
    · exact a.elim
  · exact a.elim
end

/-! ### loops -/
/-- what is walked: the data xs -/
def JOk (K : PySem.W.Frag) (F1 : Hp) (J : It) (xs : List PyData) : Prop := ∀ (i : Nat) (F' H' : Hp), Same F1 F' → Same F' H' →
  (xs.length ≤ i → J.stop i H') ∧ ∀ d, xs[i]? = some d → J.go i H' ∧ ∀ x H'', J.yld i H' x H'' →
    (H'' = H' ∧ Dp K F' x d) ∨ (∃ p u, H' p = none ∧ H'' = upd H' p u ∧ Dp K (upd F' p u) x d)
abbrev WI := Rho → (List PyData → Rho → Prop) → Prop
structure DI (X : Cx) (tg iter : Expr) (w : WI) : Prop where
  run : ∃ t : TI, PI X tg iter t ∧ ∀ (σ : Sg) (H F : Hp) (ρ : Rho) (fr : Fp) (Q : List PyData → Rho → Prop) (R : It → Hp → Prop), SI X.K F H σ ρ fr → w ρ Q →
    (∀ xs H' F' ρ' J, Q xs ρ' → SI X.K F' H' σ ρ' fr → Kp F H fr F' H' → JOk X.K F' J xs → R J H') → t σ H R
/-- a loop, by what holds ahead of each turn -/
def wFor (wi : WI) (g : WG) (wb : WS) : WS := fun d ρ => wi ρ fun xs ρ1 => ∃ I : Nat → Rho → Prop, I 0 ρ1 ∧
  (∀ i x ρ2, xs[i]? = some x → I i ρ2 → g x ρ2 fun ρ3 => wb (d.loop (I (i + 1))) ρ3) ∧ ∀ ρ2, I xs.length ρ2 → d.nx ρ2
def wWhile (wt : WT) (wb : WS) : WS := fun d ρ => ∃ I : Nat → Rho → Prop, (∃ m, I m ρ) ∧ ∀ m ρ1, I m ρ1 → wt ρ1 fun b ρ2 => bmt b (wb (d.loop fun ρ' => ∃ m', m' < m ∧ I m' ρ') ρ2) (d.nx ρ2)
section
variable {X : Cx} {tg iter c : Expr} {body : List Stmt} {wi : WI} {g : WG} {wb : WS} {wt : WT} {pos : Pos}
theorem ds_for (hp : PassesOwn (model X.prog X.w) X.A X.env X.xe) (hc : X.calm = true) (hi : DI X tg iter wi) (hg : DG X tg g) (hb : DSs X body wb) (hs : ∀ x, foldedSetIterable iter X.env x = pure x := by intro _; rfl) : DS X (.For tg iter body [] pos) (wFor wi g wb) := by
  obtain ⟨⟨ti, pi, ri⟩⟩ := hi
  obtain ⟨⟨tg', pg, rg⟩⟩ := hg
  obtain ⟨⟨tb, pb, rb⟩⟩ := hb
  refine ⟨⟨_, ps_for hp hc pi pg pb hs, fun σ H F ρ fr d e S E h => ?_⟩⟩
  refine ri σ H F ρ fr _ _ S h fun xs H1 F1 ρ1 J a S1 k1 hJ => ?_
  obtain ⟨I, i0, it, ie⟩ := a
  refine ⟨fun i m σ' H' => m = xs.length - i ∧ i ≤ xs.length ∧ ∃ ρ' F', I i ρ' ∧ SI X.K F' H' σ' ρ' fr ∧ Kp F1 H1 fr F' H', ⟨xs.length, by simp, Nat.zero_le _, ρ1, F1, i0, S1, Kp.refl⟩, ?_⟩
  rintro i m σ2 H2 ⟨rfl, hi, ρ2, F2, i2, S2, k2⟩
  obtain ⟨jstop, jgo⟩ := hJ i F2 H2 k2.exF S2.ex
  by_cases hlt : i < xs.length
  · obtain ⟨x, hx⟩ : ∃ x, xs[i]? = some x := ⟨xs[i], by simp [hlt]⟩
    obtain ⟨go, yl⟩ := jgo x hx
    refine .inr ⟨go, fun σ' H' => ∃ ρ' F', I (i + 1) ρ' ∧ SI X.K F' H' σ' ρ' fr ∧ Kp F1 H1 fr F' H', fun σ' H' n => ⟨xs.length - (i + 1), by omega, rfl, hlt, n⟩, fun v H3 y => ?_⟩
    have main : ∀ F3, SI X.K F3 H3 σ2 ρ2 fr → Kp F1 H1 fr F3 H3 → Dp X.K F3 v x → tg' v σ2 H3 fun σ4 H4 => tb { nx := fun σ' H' => ∃ ρ' F', I (i + 1) ρ' ∧ SI X.K F' H' σ' ρ' fr ∧ Kp F1 H1 fr F' H', rt := e.rt, bk := e.nx, ct := fun σ' H' => ∃ ρ' F', I (i + 1) ρ' ∧ SI X.K F' H' σ' ρ' fr ∧ Kp F1 H1 fr F' H' } σ4 H4 := by
      intro F3 S3 k3 dp
      refine rg σ2 H3 F3 ρ2 fr x v _ _ S3 dp (it i x ρ2 hx i2) fun σ4 H4 F4 ρ4 a S4 k4 => ?_
      have E4 : EndsOk X.K F4 H4 fr d e := (E.go k1).go (k3.trans k4)
      refine rb σ4 H4 F4 ρ4 fr (d.loop (I (i + 1))) _ S4 ⟨fun σ' H' F' ρ' a b c => ⟨ρ', F', a, b, (k3.trans k4).trans c⟩, E4.nx, fun σ' H' F' ρ' a b c => ⟨ρ', F', a, b, (k3.trans k4).trans c⟩, E4.rt⟩ a
    rcases yl v H3 y with ⟨rfl, dp⟩ | ⟨p, u, hp, rfl, dp⟩
    · exact main F2 S2 k2 dp
    · obtain ⟨S3, _, k3⟩ := S2.newF (o := u) hp
      exact main _ S3 (k2.trans k3) dp
  · have e' : i = xs.length := by omega
    subst e'
    exact .inl ⟨jstop (Nat.le_refl _), E.nx σ2 H2 F2 ρ2 (ie ρ2 i2) S2 (k1.trans k2)⟩
theorem ds_while (hp : PassesOwn (model X.prog X.w) X.A X.env X.xe) (hc : DT X c wt) (hb : DSs X body wb) : DS X (.While c body [] pos) (wWhile wt wb) := by
  obtain ⟨⟨tc, pc, rc⟩⟩ := hc
  obtain ⟨⟨tb, pb, rb⟩⟩ := hb
  refine ⟨⟨_, ps_while hp pc pb, fun σ H F ρ fr d e S E h => ?_⟩⟩
  obtain ⟨I, ⟨m0, i0⟩, it⟩ := h
  refine ⟨fun m σ' H' => ∃ ρ' F', I m ρ' ∧ SI X.K F' H' σ' ρ' fr ∧ Kp F H fr F' H', ⟨m0, ρ, F, i0, S, Kp.refl⟩, ?_⟩
  rintro m σ1 H1 ⟨ρ1, F1, i1, S1, k1⟩
  refine rc σ1 H1 F1 ρ1 fr _ _ S1 (it m ρ1 i1) fun b H2 F2 ρ2 a S2 k2 => ?_
  have E2 : EndsOk X.K F2 H2 fr d e := E.go (k1.trans k2)
  cases b with
  | false => exact E2.nx σ1 H2 F2 ρ2 a S2 Kp.refl
  | true =>
    refine ⟨fun σ' H' => ∃ m', m' < m ∧ ∃ ρ' F', I m' ρ' ∧ SI X.K F' H' σ' ρ' fr ∧ Kp F H fr F' H', fun σ' H' n => n, ?_⟩
    refine rb σ1 H2 F2 ρ2 fr (d.loop fun ρ' => ∃ m', m' < m ∧ I m' ρ') _ S2 ⟨fun σ' H' F' ρ' a b c => ?_, E2.nx, fun σ' H' F' ρ' a b c => ?_, E2.rt⟩ a
    · obtain ⟨m', hm, a⟩ := a
      exact ⟨m', hm, ρ', F', a, b, (k1.trans k2).trans c⟩
    · obtain ⟨m', hm, a⟩ := a
      exact ⟨m', hm, ρ', F', a, b, (k1.trans k2).trans c⟩
end

/-! what is walked -/
/-- the signs of a text -/
def signsD (z : Str) : List PyData := z.cps.toList.map fun c => .str ⟨#[c]⟩
def wIter (wa : WE) : WI := fun ρ Q => wa ρ fun r ρ1 => frz r ρ1 fun d ρ2 => match d with
  | .list ds => Q ds ρ2
  | _ => False
def wIterT (wa : WE) : WI := fun ρ Q => wa ρ fun r ρ1 => frz r ρ1 fun d ρ2 => match d with
  | .tuple ds => Q ds ρ2
  | _ => False
def wIterS (wa : WE) : WI := fun ρ Q => wa ρ fun r ρ1 => frz r ρ1 fun d ρ2 => match d with
  | .str z => Q (signsD z) ρ2
  | _ => False
def rng (lo : Int) (n : Nat) : List PyData := (List.range n).map fun k => .int (lo + (k : Nat))
def wRng1 (ws : WA) : WI := fun ρ Q => ws ρ fun rs ρ1 => dats rs ρ1 fun ds => match ds with
  | [.int j] => (-(2 ^ 62) ≤ j ∧ j < 2 ^ 62) ∧ Q (rng 0 j.toNat) ρ1
  | _ => False
def wRng2 (ws : WA) : WI := fun ρ Q => ws ρ fun rs ρ1 => dats rs ρ1 fun ds => match ds with
  | [.int i, .int j] => (-(2 ^ 62) ≤ i ∧ i < 2 ^ 62 ∧ -(2 ^ 62) ≤ j ∧ j < 2 ^ 62) ∧ Q (rng i (j - i).toNat) ρ1
  | _ => False
section
variable {X : Cx} {tg a b : Expr} {wa : WE} {ws : WA} {p pos : Pos} {K : PySem.W.Frag} {F1 : Hp}
theorem j_list {a : Addr} {vs : List V} {ds : List PyData} (hs : SqL K F1 a vs) (ha : DpAll K F1 vs ds) : JOk K F1 (Itl K a) ds := by
  intro i F' H' s s'
  have h' : SqL K H' a vs := (s.trans s').seq hs
  refine ⟨fun h => ⟨vs, h', by rw [ha.length]; exact h⟩, fun d hd => ?_⟩
  obtain ⟨v, hv, dp⟩ := ha.get hd
  refine ⟨⟨vs, v, h', hv⟩, fun x H'' y => .inl ⟨y.1, ?_⟩⟩
  have := y.2 vs h'
  rw [hv] at this
  cases this
  exact dpm s _ _ dp
theorem j_tup {a : Addr} {vs : List V} {ds : List PyData} (hs : SqT K F1 a vs) (ha : DpAll K F1 vs ds) : JOk K F1 (Itt K a) ds := by
  intro i F' H' s s'
  have h' : SqT K H' a vs := same_t (s.trans s') hs
  refine ⟨fun h => ⟨vs, h', by rw [ha.length]; exact h⟩, fun d hd => ?_⟩
  obtain ⟨v, hv, dp⟩ := ha.get hd
  refine ⟨⟨vs, v, h', hv⟩, fun x H'' y => .inl ⟨y.1, ?_⟩⟩
  have := y.2 vs h'
  rw [hv] at this
  cases this
  exact dpm s _ _ dp
theorem j_str {z : Str} : JOk K F1 (Its z) (signsD z) := by
  intro i F' H' s s'
  refine ⟨fun h => ?_, fun d hd => ?_⟩
  · have : z.cps.size ≤ i := by simpa [signsD] using h
    exact this
  · unfold signsD at hd
    rw [List.getElem?_map] at hd
    cases e : z.cps.toList[i]? with
    | none => rw [e] at hd; cases hd
    | some c =>
      rw [e] at hd
      cases hd
      have hi : i < z.cps.size := by
        have := (List.getElem?_eq_some_iff.mp e).1
        simpa using this
      refine ⟨hi, fun x H'' y => .inl ⟨y.1, ?_⟩⟩
      obtain ⟨_, c', e', rfl⟩ := y
      have : c' = c := by
        have e2 : z.cps[i]? = some c := by rw [← Array.getElem?_toList]; exact e
        rw [e'] at e2
        exact Option.some.inj e2
      subst this
      exact .str _
theorem j_rng {lo : Int} {n : Nat} : JOk K F1 (Itr lo n) (rng lo n) := by
  intro i F' H' s s'
  refine ⟨fun h => ?_, fun d hd => ?_⟩
  · have : n ≤ i := by simpa [rng] using h
    exact this
  · unfold rng at hd
    rw [List.getElem?_map] at hd
    cases e : (List.range n)[i]? with
    | none => rw [e] at hd; cases hd
    | some c =>
      rw [e] at hd
      cases hd
      obtain ⟨h1, h2⟩ := List.getElem?_eq_some_iff.mp e
      have h1' : i < n := by simpa using h1
      have : c = i := by rw [← h2]; simp
      subst this
      refine ⟨h1', fun x H'' y => .inl ⟨y.1, ?_⟩⟩
      obtain ⟨_, rfl⟩ := y
      exact .int _
theorem di_list (ha : DE X a wa) : DI X tg a (wIter wa) := by
  obtain ⟨⟨t, p, r⟩⟩ := ha
  refine ⟨⟨_, pi_list p, fun σ H F ρ fr Q R S h k => ?_⟩⟩
  refine r σ H F ρ fr _ _ S h fun v H1 F1 ρ1 r1 m a b c k1 => ?_
  obtain ⟨y, ρ2, F2, a, dp, s, S2⟩ := frz_ok c b (fun a => by unfold padd; omega) a
  have S2' : SI X.K F2 H1 σ ρ2 fr := S2.less fun a => by unfold padd; omega
  split at a
  · cases dp with
    | lst hs ha => exact ⟨_, rfl, ⟨_, S2'.ex.seq hs⟩, k _ H1 F2 ρ2 _ a S2' (k1.trans (Kp.ofF s)) (j_list hs ha)⟩
  · exact a.elim
theorem di_tup (ha : DE X a wa) : DI X tg a (wIterT wa) := by
  obtain ⟨⟨t, p, r⟩⟩ := ha
  refine ⟨⟨_, pi_tup p, fun σ H F ρ fr Q R S h k => ?_⟩⟩
  refine r σ H F ρ fr _ _ S h fun v H1 F1 ρ1 r1 m a b c k1 => ?_
  obtain ⟨y, ρ2, F2, a, dp, s, S2⟩ := frz_ok c b (fun a => by unfold padd; omega) a
  have S2' : SI X.K F2 H1 σ ρ2 fr := S2.less fun a => by unfold padd; omega
  split at a
  · cases dp with
    | tup hs ha => exact ⟨_, rfl, ⟨_, same_t S2'.ex hs⟩, k _ H1 F2 ρ2 _ a S2' (k1.trans (Kp.ofF s)) (j_tup hs ha)⟩
  · exact a.elim
theorem di_str (ha : DE X a wa) : DI X tg a (wIterS wa) := by
  obtain ⟨⟨t, p, r⟩⟩ := ha
  refine ⟨⟨_, pi_str p, fun σ H F ρ fr Q R S h k => ?_⟩⟩
  refine r σ H F ρ fr _ _ S h fun v H1 F1 ρ1 r1 m a b c k1 => ?_
  obtain ⟨y, ρ2, F2, a, dp, s, S2⟩ := frz_ok c b (fun a => by unfold padd; omega) a
  have S2' : SI X.K F2 H1 σ ρ2 fr := S2.less fun a => by unfold padd; omega
  split at a
  · cases dp
    exact ⟨_, rfl, k _ H1 F2 ρ2 _ a S2' (k1.trans (Kp.ofF s)) j_str⟩
  · exact a.elim
theorem di_rng1 (hg : Gl X "range") (hm : X.mg "range" = none) (ha : DA X [a] ws) (hs : starEach [a] X.env = [(false, eval a X.env)] := by rfl) : DI X tg (.Call (.Name "range" p) [a] [] pos) (wRng1 ws) := by
  obtain ⟨⟨t, p, r⟩⟩ := ha
  refine ⟨⟨_, pi_range1 hg hm p hs, fun σ H F ρ fr Q R S h k => ?_⟩⟩
  refine r σ H F ρ fr _ _ S h fun vs H1 F1 ρ1 rs m hw o S1 k1 => ?_
  obtain ⟨ds, h1, h2⟩ := dats_ok S1 o hw
  split at h2
  · cases h1 with
    | cons a b =>
      cases a
      cases b
      exact ⟨_, rfl, h2.1.1, h2.1.2, k _ H1 F1 ρ1 _ h2.2 S1.left k1 j_rng⟩
  · exact h2.elim
theorem di_rng2 (hg : Gl X "range") (hm : X.mg "range" = none) (ha : DA X [a, b] ws) (hs : starEach [a, b] X.env = [(false, eval a X.env), (false, eval b X.env)] := by rfl) (hs2 : starEach [b] X.env = [(false, eval b X.env)] := by rfl) : DI X tg (.Call (.Name "range" p) [a, b] [] pos) (wRng2 ws) := by
  obtain ⟨⟨t, p, r⟩⟩ := ha
  refine ⟨⟨_, pi_range2 hg hm p hs hs2, fun σ H F ρ fr Q R S h k => ?_⟩⟩
  refine r σ H F ρ fr _ _ S h fun vs H1 F1 ρ1 rs m hw o S1 k1 => ?_
  obtain ⟨ds, h1, h2⟩ := dats_ok S1 o hw
  split at h2
  · cases h1 with
    | cons a b =>
      cases a
      cases b with
      | cons a b =>
        cases a
        cases b
        exact ⟨_, _, rfl, h2.1, k _ H1 F1 ρ1 _ h2.2 S1.left k1 j_rng⟩
  · exact h2.elim
end
end DL

namespace DL
open PySem PySem.Spec PyProof.Rows L2

/-! ### what a def promises, over data -/
inductive OwnTs (K : PySem.W.Frag) (F H : Hp) : List OT → List V → Fp → Prop
  | nil : OwnTs K F H [] [] z0
  | cons {t : OT} {v : V} {m n : Fp} {ts : List OT} {vs : List V} : OwnT K F H t v m → OwnTs K F H ts vs n → OwnTs K F H (t :: ts) (v :: vs) (padd m n)
abbrev FS := List OT → (OT → List OT → Prop) → Prop
structure FreeOk (F H : Hp) (m : Fp) : Prop where
  ok : ∀ a, m a ≤ 1 ∧ (m a ≠ 0 → F a = none ∧ H a ≠ none)
structure CallEnd (K : PySem.W.Frag) (F H : Hp) (m : Fp) (F' H' : Hp) (n : Fp) : Prop where
  sF : Same F F'
  ex : Same F' H'
  ok : ∀ a, n a ≤ 1 ∧ (n a ≠ 0 → F' a = none ∧ H' a ≠ none)
  keep : ∀ a, H a ≠ none → F a = none → m a = 0 → H' a = H a ∧ n a = 0 ∧ F' a = none
  grow : ∀ a, H a ≠ none → H' a ≠ none
def spD (K : PySem.W.Frag) (np : Nat) (φ : FS) : Sp := fun vs H Q _ => vs.length = np ∧ ∃ F ts m, Same F H ∧ OwnTs K F H ts vs m ∧ FreeOk F H m ∧
  ∃ Q0, φ ts Q0 ∧ ∀ r ts', Q0 r ts' → ∀ v H' F' mv m', OwnT K F' H' r v mv → OwnTs K F' H' ts' vs m' → CallEnd K F H m F' H' (padd mv m') → Q v H'
theorem OwnTs.kp {K : PySem.W.Frag} {F H F' H' : Hp} {ts : List OT} {vs : List V} {m : Fp} (o : OwnTs K F H ts vs m) (e : Same F F') (h : ∀ a, m a ≠ 0 → H' a = H a) : OwnTs K F' H' ts vs m := by
  induction o with
  | nil => exact .nil
  | cons ht _ ih => exact .cons (ht.kp e fun a q => h a (by unfold padd; omega)) (ih fun a q => h a (by unfold padd; omega))
theorem own_fz {K : PySem.W.Frag} {F H : Hp} {v : V} {d : PyData} (h : Dp K F v d) : OwnT K F H (.fz d) v z0 := ⟨h, rfl⟩
theorem own_vv {K : PySem.W.Frag} {F H : Hp} {u v : V} (h : v = u) : OwnT K F H (.vv u) v z0 := ⟨h, rfl⟩
theorem own_exc {K : PySem.W.Frag} {F H : Hp} {n : Str} {y : Option (Str × PyData)} {v : V} (h : ExcT K F n y v) : OwnT K F H (.exc n y) v z0 := ⟨h, rfl⟩
theorem own_fx {K : PySem.W.Frag} {F H : Hp} {t : DD} {v : V} (h : FxT K F t v) : OwnT K F H (.fx t) v z0 := ⟨h, rfl⟩
theorem own_lst {K : PySem.W.Frag} {F H : Hp} {p : Addr} {vs : List V} {ds : List PyData} {m : Fp} (h : H p = some (.lst vs)) (a : DpAll K F vs ds) (e : m = one p) : OwnT K F H (.lst p ds) (.ref p) m := ⟨vs, rfl, h, a, e⟩
/-! the start of a def's body -/
def startR (n : Nat) (ts : List OT) : Rho := ts.map some ++ List.replicate (n - ts.length) none
theorem ownS_none {K : PySem.W.Frag} {F H : Hp} : ∀ n : Nat, OwnS K F H (List.replicate n none) (List.replicate n none) z0
  | 0 => .nil
  | n + 1 => by rw [List.replicate_succ, List.replicate_succ]; exact .un (ownS_none n)
theorem OwnTs.len {K : PySem.W.Frag} {F H : Hp} {ts : List OT} {vs : List V} {m : Fp} (o : OwnTs K F H ts vs m) : vs.length = ts.length := by
  induction o with
  | nil => rfl
  | cons _ _ ih => simp [ih]
theorem OwnTs.start {K : PySem.W.Frag} {F H : Hp} {ts : List OT} {vs : List V} {m : Fp} (o : OwnTs K F H ts vs m) (k : Nat) : OwnS K F H (ts.map some ++ List.replicate k none) (vs.map some ++ List.replicate k none) m := by
  induction o with
  | nil => exact ownS_none k
  | cons h _ ih => exact .sm h ih
/-- the arguments behind the body: own lists as they stand, frozen things as they were -/
def backs : List OT → Rho → (List OT → Prop) → Prop
  | [], _, k => k []
  | .lst p _ :: ts, some (.lst q ds) :: ρ, k => p = q ∧ backs ts ρ fun ts' => k (.lst q ds :: ts')
  | .fz d :: ts, _ :: ρ, k => backs ts ρ fun ts' => k (.fz d :: ts')
  | .vv v :: ts, _ :: ρ, k => backs ts ρ fun ts' => k (.vv v :: ts')
  | .exc n y :: ts, _ :: ρ, k => backs ts ρ fun ts' => k (.exc n y :: ts')
  | .fx d :: ts, _ :: ρ, k => backs ts ρ fun ts' => k (.fx d :: ts')
  | _, _, _ => False
theorem backs_ok {K : PySem.W.Frag} {F H F' H' : Hp} (s : Same F F') : ∀ {ts : List OT} {vs : List V} {m : Fp} {ρ : Rho} {σ : Sg} {n : Fp} {k : List OT → Prop}, OwnTs K F H ts vs m → OwnS K F' H' ρ σ n → backs ts ρ k →
    ∃ ts' m', OwnTs K F' H' ts' vs m' ∧ (∀ a, m' a ≤ n a) ∧ k ts'
  | _, _, _, ρ, σ, n, k, .nil, _, h => ⟨[], z0, .nil, fun a => Nat.zero_le _, h⟩
  | .fz d :: ts, _, _, x :: ρ, _, n, k, .cons o os, w, h => by
    have h' : backs ts ρ fun ts' => k (.fz d :: ts') := by cases x with
      | none => exact h
      | some t => cases t <;> exact h
    cases w with
    | un w =>
      obtain ⟨ts', m', a, b, c⟩ := backs_ok s os w h'
      exact ⟨_, padd z0 m', .cons (own_fz (dpm s _ _ o.1)) a, fun x => by unfold padd z0; have := b x; omega, c⟩
    | sm _ w =>
      obtain ⟨ts', m', a, b, c⟩ := backs_ok s os w h'
      exact ⟨_, padd z0 m', .cons (own_fz (dpm s _ _ o.1)) a, fun x => by unfold padd z0; have := b x; omega, c⟩
  | .vv d :: ts, _, _, x :: ρ, _, n, k, .cons o os, w, h => by
    have h' : backs ts ρ fun ts' => k (.vv d :: ts') := by cases x with
      | none => exact h
      | some t => cases t <;> exact h
    cases w with
    | un w =>
      obtain ⟨ts', m', a, b, c⟩ := backs_ok s os w h'
      exact ⟨_, padd z0 m', .cons (own_vv o.1) a, fun x => by unfold padd z0; have := b x; omega, c⟩
    | sm _ w =>
      obtain ⟨ts', m', a, b, c⟩ := backs_ok s os w h'
      exact ⟨_, padd z0 m', .cons (own_vv o.1) a, fun x => by unfold padd z0; have := b x; omega, c⟩
  | .exc d y :: ts, _, _, x :: ρ, _, n, k, .cons o os, w, h => by
    have h' : backs ts ρ fun ts' => k (.exc d y :: ts') := by cases x with
      | none => exact h
      | some t => cases t <;> exact h
    cases w with
    | un w =>
      obtain ⟨ts', m', a, b, c⟩ := backs_ok s os w h'
      exact ⟨_, padd z0 m', .cons (own_exc (o.1.kp s)) a, fun x => by unfold padd z0; have := b x; omega, c⟩
    | sm _ w =>
      obtain ⟨ts', m', a, b, c⟩ := backs_ok s os w h'
      exact ⟨_, padd z0 m', .cons (own_exc (o.1.kp s)) a, fun x => by unfold padd z0; have := b x; omega, c⟩
  | .fx d :: ts, _, _, x :: ρ, _, n, k, .cons o os, w, h => by
    have h' : backs ts ρ fun ts' => k (.fx d :: ts') := by cases x with
      | none => exact h
      | some t => cases t <;> exact h
    cases w with
    | un w =>
      obtain ⟨ts', m', a, b, c⟩ := backs_ok s os w h'
      exact ⟨_, padd z0 m', .cons (own_fx (o.1.kp s)) a, fun x => by unfold padd z0; have := b x; omega, c⟩
    | sm _ w =>
      obtain ⟨ts', m', a, b, c⟩ := backs_ok s os w h'
      exact ⟨_, padd z0 m', .cons (own_fx (o.1.kp s)) a, fun x => by unfold padd z0; have := b x; omega, c⟩
  | .lst p es :: ts, _, _, some (.lst q ds) :: ρ, _, n, k, .cons o os, w, h => by
    obtain ⟨rfl, h⟩ := h
    cases w with
    | sm w0 w =>
      obtain ⟨ts', m', a, b, c⟩ := backs_ok s os w h
      obtain ⟨vs, rfl, _⟩ := o
      obtain ⟨vs', rfl, e1, e2, e3⟩ := w0
      exact ⟨_, padd _ m', .cons (own_lst e1 e2 e3) a, fun x => by unfold padd; have := b x; omega, c⟩
  | .lst _ _ :: _, _, _, [], _, _, _, _, _, h => by cases h
  | .lst _ _ :: _, _, _, none :: _, _, _, _, _, _, h => by cases h
  | .lst _ _ :: _, _, _, some (.fz _) :: _, _, _, _, _, _, h => by cases h
  | .lst _ _ :: _, _, _, some (.lls _ _) :: _, _, _, _, _, _, h => by cases h
  | .lst _ _ :: _, _, _, some (.vv _) :: _, _, _, _, _, _, h => by cases h
  | .lst _ _ :: _, _, _, some (.exc _ _) :: _, _, _, _, _, _, h => by cases h
  | .lst _ _ :: _, _, _, some (.fx _) :: _, _, _, _, _, _, h => by cases h
  | .lst _ _ :: _, _, _, some (.ox _ _) :: _, _, _, _, _, _, h => by cases h
  | .fx _ :: _, _, _, [], _, _, _, _, _, h => by cases h
  | .ox _ _ :: _, _, _, [], _, _, _, _, _, h => by cases h
  | .ox _ _ :: _, _, _, _ :: _, _, _, _, _, _, h => by cases h
  | .fz _ :: _, _, _, [], _, _, _, _, _, h => by cases h
  | .vv _ :: _, _, _, [], _, _, _, _, _, h => by cases h
  | .exc _ _ :: _, _, _, [], _, _, _, _, _, h => by cases h
  | .lls _ _ :: _, _, _, [], _, _, _, _, _, h => by cases h
  | .lls _ _ :: _, _, _, _ :: _, _, _, _, _, _, h => by cases h
/-- what a return hands back -/
def outD (r : RV) (ρ : Rho) (k : OT → Rho → Prop) : Prop := match r with
  | .tm t => k t ρ
  | .sl i => frz (.sl i) ρ fun d ρ2 => k (.fz d) ρ2
def endsF (n : Nat) (ts : List OT) (Q : OT → List OT → Prop) : DEnds where
  nx := fun ρ => backs ts ρ fun ts' => Q (.fz .none) ts'
  rt := fun r ρ => outD r ρ fun t ρ' => backs ts ρ' fun ts' => Q t ts'
def frO (F H : Hp) (m : Fp) : Fp := fun a => if (H a).isSome && (F a).isNone && decide (m a = 0) then 1 else 0
theorem frO_one {F H : Hp} {m : Fp} {a : Addr} (h1 : H a ≠ none) (h2 : F a = none) (h3 : m a = 0) : frO F H m a = 1 := by
  unfold frO
  have i1 : (H a).isSome = true := by cases e : H a with
    | none => exact absurd e h1
    | some _ => rfl
  rw [i1, h2, h3]
  rfl
theorem frO_cases (F H : Hp) (m : Fp) (a : Addr) : frO F H m a = 0 ∨ (frO F H m a = 1 ∧ H a ≠ none ∧ F a = none ∧ m a = 0) := by
  unfold frO
  cases e1 : H a with
  | none => exact .inl rfl
  | some o =>
    cases e2 : F a with
    | some _ => exact .inl rfl
    | none =>
      by_cases h : m a = 0
      · exact .inr ⟨by rw [h]; rfl, by simp, rfl, h⟩
      · exact .inl (by simp [h])
/-- THE RULE for a def -/
theorem fnD {P : Program} {w : World} {K : PySem.W.Frag} {mg : Str → Option Value} {base : Heap} {x qual : Str} {st : Stmt} {f : Addr} {fd : FuncData} {N ps : List Str} {k : Nat} {φ : FS} (F : Fun K x qual st f fd) (S : FnScope N ps (defScope st))
    (h : ∀ (cdv : Value) (A : Around) (outer : List Env) (s : Shared) (H : Hp) (E : XK), Room k (A.deeper (envOfC qual (defScope st) s.heap.objs.size f cdv)) →
      ∃ w', DSs (cxOf CX0 P w K mg base N qual (defScope st) f cdv A outer s H E).nox (defBody st) w' ∧ ∀ ts Q, ts.length = ps.length → φ ts Q → w' (endsF N.length ts Q) (startR N.length ts)) :
    FnOk P w K mg base CX0 (k + 1) f fd ps (spD K ps.length φ) := by
  refine F.ok S (fun vs H Q E h => h.1) (fun cdv A outer s H vs Q E hr hs => ?_)
  obtain ⟨w', ⟨⟨t, p, r⟩⟩, hw⟩ := h cdv A outer s H E hr
  refine ⟨t, p, ?_⟩
  obtain ⟨hl, F0, ts, m, sF, ow, fo, Q0, hφ, hQ0⟩ := hs
  have el := ow.len
  have e2 : start N vs = vs.map some ++ List.replicate (N.length - vs.length) none := rfl
  have e3 : startR N.length ts = ts.map some ++ List.replicate (N.length - vs.length) none := by unfold startR; rw [el]
  have hst : OwnS K F0 H (startR N.length ts) (start N vs) m := by rw [e2, e3]; exact ow.start _
  have fin : ∀ (v : V) (H' F' : Hp) (t : OT) (mv n : Fp) (ρ' : Rho) (σ' : Sg), OwnT K F' H' t v mv → OwnS K F' H' ρ' σ' n → Same F' H' → (∀ a, n a + (padd (frO F0 H m) mv) a ≤ 1 ∧ (n a + (padd (frO F0 H m) mv) a ≠ 0 → F' a = none ∧ H' a ≠ none)) →
      Kp F0 H (frO F0 H m) F' H' → (backs ts ρ' fun ts' => Q0 t ts') → Q v H' := by
    intro v H' F' t mv n ρ' σ' o1 o2 ex q kp hb
    obtain ⟨ts', m', a, b, c⟩ := backs_ok kp.exF ow o2 hb
    refine hQ0 _ _ c v H' F' mv m' o1 a ⟨kp.exF, ex, fun a => ?_, fun a h1 h2 h3 => ?_, kp.grow⟩
    · obtain ⟨q1, q2⟩ := q a
      have := b a
      unfold padd at q1 q2 ⊢
      exact ⟨by omega, fun z => q2 (by omega)⟩
    · have e1 := frO_one h1 h2 h3
      obtain ⟨q1, q2⟩ := q a
      have := b a
      unfold padd at q1 q2 ⊢
      rw [e1] at q1 q2
      exact ⟨kp.keep a (by rw [e1]; decide), by omega, (q2 (by omega)).1⟩
  refine r (start N vs) H F0 (startR N.length ts) (frO F0 H m) (endsF N.length ts Q0) _ ⟨sF, m, hst, fun a => ?_⟩ ⟨fun σ' H' F' ρ' a b c => ?_, fun _ _ _ _ a => a.elim, fun _ _ _ _ a => a.elim, fun v H' F' σ' ρ' r m1 a b c kp => ?_⟩ (hw ts Q0 (by rw [← el, hl]) hφ)
  · obtain ⟨q1, q2⟩ := fo.ok a
    rcases frO_cases F0 H m a with e | ⟨e, e1, e2, e3⟩
    · rw [e]; exact ⟨by omega, fun z => q2 (by omega)⟩
    · rw [e]; exact ⟨by omega, fun _ => ⟨e2, e1⟩⟩
  · obtain ⟨n, o2, q⟩ := b.own
    exact fin .non H' F' (.fz .none) z0 n ρ' σ' ⟨.non, rfl⟩ o2 b.ex q c a
  · have a' : outD r ρ' fun t ρ' => backs ts ρ' fun ts' => Q0 t ts' := a
    cases r with
    | tm t =>
      obtain ⟨n, o2, q⟩ := c.own
      exact fin v H' F' t m1 n ρ' σ' b o2 c.ex q kp a'
    | sl i =>
      obtain ⟨d, ρ2, F2, a2, dp, s, S2⟩ := frz_ok (r := .sl i) (k := fun d ρ' => backs ts ρ' fun ts' => Q0 (.fz d) ts') c b (fun a => by unfold padd; omega) a'
      obtain ⟨n, o2, q⟩ := S2.own
      refine fin v H' F2 (.fz d) z0 n ρ2 σ' ⟨dp, rfl⟩ o2 S2.ex (fun a => ?_) (kp.trans (Kp.ofF s)) a2
      obtain ⟨q1, q2⟩ := q a
      have hm : m1 a = 0 := by rw [b.1]; rfl
      unfold padd at q1 q2 ⊢
      show _ + (_ + 0) ≤ 1 ∧ (_ + (_ + 0) ≠ 0 → _)
      exact ⟨by omega, fun z => q2 (by omega)⟩

/-! ### calls -/
def frzV (r : RV) (ρ : Rho) (k : OT → Rho → Prop) : Prop := match r with
  | .tm (.vv v) => k (.vv v) ρ
  | .tm (.exc n y) => k (.exc n y) ρ
  | .tm (.fx t) => k (.fx t) ρ
  | r => frz r ρ fun d ρ1 => k (.fz d) ρ1
/-- bs: which arguments are handed over as own lists -/
def argsD : List Bool → List RV → Rho → (List OT → List (Option Nat) → Rho → Prop) → Prop
  | _, [], ρ, k => k [] [] ρ
  | true :: bs, .sl i :: rs, ρ, k => (match look ρ i with
    | some t => argsD bs rs (ρ.set i none) fun ts is ρ' => k (t :: ts) (some i :: is) ρ'
    | none => False)
  | bs, r :: rs, ρ, k => frzV r ρ fun t ρ1 => argsD bs.tail rs ρ1 fun ts is ρ' => k (t :: ts) (none :: is) ρ'
def putB : List (Option Nat) → List OT → Rho → Rho
  | some i :: is, t :: ts, ρ => putB is ts (ρ.set i (some t))
  | none :: is, _ :: ts, ρ => putB is ts ρ
  | _, _, ρ => ρ
def wCall (np : Nat) (bs : List Bool) (φ : FS) (ws : WA) : WE := fun ρ Q => ws ρ fun rs ρ1 => bmt (decide (rs.length = np)) (argsD bs rs ρ1 fun ts is ρ2 => φ ts fun r ts' => Q (.tm r) (putB is ts' ρ2)) False
inductive Als (σ : Sg) : List (Option Nat) → List V → Prop
  | nil : Als σ [] []
  | no {is : List (Option Nat)} {vs : List V} {v : V} : Als σ is vs → Als σ (none :: is) (v :: vs)
  | yes {is : List (Option Nat)} {vs : List V} {v : V} {i : Nat} : σ[i]? = some (some v) → Als σ is vs → Als σ (some i :: is) (v :: vs)
section
variable {K : PySem.W.Frag} {F H : Hp} {σ : Sg}
theorem set_self {i : Nat} {v : V} (h : σ[i]? = some (some v)) : σ.set i (some v) = σ := by
  apply List.ext_getElem?
  intro j
  by_cases hj : i = j
  · subst hj
    rw [List.getElem?_set_self (List.getElem?_eq_some_iff.mp h).1, h]
  · rw [List.getElem?_set_ne hj]
theorem frzV_ok {ρ : Rho} {fr m : Fp} {r : RV} {v : V} {k : OT → Rho → Prop} (S : SI K F H σ ρ fr) (o : RVok K F H σ r v m) (hm : ∀ a, m a ≤ fr a) (h : frzV r ρ k) :
    ∃ t ρ' F', k t ρ' ∧ OwnT K F' H t v z0 ∧ Same F F' ∧ SI K F' H σ ρ' (fun a => fr a - m a) := by
  unfold frzV at h
  split at h
  · exact ⟨_, ρ, F, h, ⟨o.1, rfl⟩, Same.refl _, S.less fun a => Nat.sub_le _ _⟩
  · exact ⟨_, ρ, F, h, own_exc o.1, Same.refl _, S.less fun a => Nat.sub_le _ _⟩
  · exact ⟨_, ρ, F, h, own_fx o.1, Same.refl _, S.less fun a => Nat.sub_le _ _⟩
  · obtain ⟨d, ρ', F', a, dp, s, S'⟩ := frz_ok S o hm h
    exact ⟨.fz d, ρ', F', a, ⟨dp, rfl⟩, s, S'⟩
theorem argsD_nil {bs : List Bool} {ρ : Rho} {k : List OT → List (Option Nat) → Rho → Prop} (h : argsD bs [] ρ k) : k [] [] ρ := by
  cases bs with
  | nil => exact h
  | cons b bs => cases b <;> exact h
theorem argsD_cons {bs : List Bool} {r : RV} {rs : List RV} {ρ : Rho} {k : List OT → List (Option Nat) → Rho → Prop} (h : argsD bs (r :: rs) ρ k) :
    (∃ i t, r = .sl i ∧ look ρ i = some t ∧ argsD bs.tail rs (ρ.set i none) fun ts is ρ' => k (t :: ts) (some i :: is) ρ') ∨ (frzV r ρ fun t ρ1 => argsD bs.tail rs ρ1 fun ts is ρ' => k (t :: ts) (none :: is) ρ') := by
  cases bs with
  | nil => refine .inr ?_; cases r <;> exact h
  | cons b bs =>
    cases b with
    | false => refine .inr ?_; cases r <;> exact h
    | true =>
      cases r with
      | tm t => exact .inr h
      | sl i =>
        have h' : (match look ρ i with
          | some t => argsD bs rs (ρ.set i none) fun ts is ρ' => k (t :: ts) (some i :: is) ρ'
          | none => False) := h
        cases e : look ρ i with
        | none => rw [e] at h'; exact h'.elim
        | some t => rw [e] at h'; exact .inl ⟨i, t, rfl, e, h'⟩
theorem argsD_ok : ∀ {rs : List RV} {bs : List Bool} {vs : List V} {F : Hp} {ρ : Rho} {fr m : Fp} {k : List OT → List (Option Nat) → Rho → Prop}, SI K F H σ ρ (padd fr m) → RVsOk K F H σ rs vs m → argsD bs rs ρ k →
    ∃ ts is ρ' F' n, k ts is ρ' ∧ OwnTs K F' H ts vs n ∧ Same F F' ∧ SI K F' H σ ρ' (padd fr n) ∧ Als σ is vs := by
  intro rs
  induction rs with
  | nil =>
    intro bs vs F ρ fr m k S o h
    cases o
    exact ⟨[], [], ρ, F, z0, argsD_nil h, .nil, Same.refl _, S, .nil⟩
  | cons r rs ih =>
    intro bs vs F ρ fr m k S o h
    cases o with
    | @cons _ v m n _ vs o os =>
    rcases argsD_cons h with ⟨i, t, rfl, hl, h⟩ | h
    · obtain ⟨rfl, hv⟩ := o
      obtain ⟨m0, ow, q⟩ := S.own
      obtain ⟨m1, m2, em, h1, _, _, h2, _⟩ := ow.at (look_lt hl)
      obtain ⟨v', e1, o1⟩ := h1 t hl
      rw [hv] at e1
      cases e1
      have S1 : SI K F H σ (ρ.set i none) (padd (padd fr m1) n) := ⟨S.ex, m2, h2, fun a => by
        have := q a
        rw [em] at this
        unfold padd at this ⊢
        have hz : z0 a = 0 := rfl
        simp only [hz] at this
        exact ⟨by omega, fun z => this.2 (by omega)⟩⟩
      obtain ⟨ts, is, ρ', F', n', a, b, c, d, e⟩ := ih S1 os h
      refine ⟨t :: ts, some i :: is, ρ', F', padd m1 n', a, .cons (o1.kp c fun _ _ => rfl) b, c, ?_, .yes hv e⟩
      rw [← padd_assoc]
      exact d
    · obtain ⟨t, ρ1, F1, a, ot, s, S1⟩ := frzV_ok S o (fun a => by unfold padd; omega) h
      have os' : RVsOk K F1 H σ rs vs n := os.kp (fr := z0) ⟨s, fun _ _ => rfl, fun _ z => z⟩
      have S1' : SI K F1 H σ ρ1 (padd fr n) := S1.less fun a => by unfold padd; omega
      obtain ⟨ts, is, ρ', F', n', a, b, c, d, e⟩ := ih S1' os' a
      exact ⟨t :: ts, none :: is, ρ', F', padd z0 n', a, .cons (ot.kp c fun _ _ => rfl) b, s.trans c, by rw [z_padd]; exact d, .no e⟩
theorem putB_ok : ∀ {is : List (Option Nat)} {ts : List OT} {vs : List V} {ρ : Rho} {m n : Fp}, Als σ is vs → OwnTs K F H ts vs m → OwnS K F H ρ σ n → ∃ n', OwnS K F H (putB is ts ρ) σ n' ∧ ∀ a, n' a ≤ m a + n a := by
  intro is
  induction is with
  | nil => intro ts vs ρ m n a o w; exact ⟨n, w, fun x => Nat.le_add_left _ _⟩
  | cons i is ih =>
    intro ts vs ρ m n a o w
    cases a with
    | no a =>
      cases o with
      | cons o os =>
        obtain ⟨n', h1, h2⟩ := ih a os w
        exact ⟨n', h1, fun x => by have := h2 x; unfold padd; omega⟩
    | @yes _ _ v i hv a =>
      cases o with
      | @cons t _ m n2 ts _ o os =>
        by_cases hi : i < ρ.length
        · obtain ⟨m1, m2, em, _, _, _, _, h3⟩ := w.at hi
          obtain ⟨m3, w3, e3⟩ := h3 t v m o
          rw [set_self hv] at w3
          obtain ⟨n', h1, h2⟩ := ih a os w3
          refine ⟨n', h1, fun x => ?_⟩
          have := h2 x
          have := e3 x
          rw [em]
          unfold padd
          omega
        · obtain ⟨n', h1, h2⟩ := ih a os w
          refine ⟨n', ?_, fun x => by have := h2 x; unfold padd; omega⟩
          show OwnS K F H (putB is ts (ρ.set i (some t))) σ n'
          rw [List.set_eq_of_length_le (by omega)]
          exact h1
end
section
variable {X : Cx} {k np : Nat} {f : Addr} {fd : FuncData} {ps : List Str} {φ : FS} {x : Str} {p pos : Pos} {e : Expr} {es : List Expr} {ws : WA} {bs : List Bool}
theorem RVsOk.len {K : PySem.W.Frag} {F H : Hp} {σ : Sg} {rs : List RV} {vs : List V} {m : Fp} (o : RVsOk K F H σ rs vs m) : vs.length = rs.length := by
  induction o with
  | nil => rfl
  | cons _ _ ih => simp [ih]
theorem call_run {K : PySem.W.Frag} {t : TA} (ra : ∀ (σ : Sg) (H F : Hp) (ρ : Rho) (fr : Fp) (Q : List RV → Rho → Prop) (Q' : List V → Hp → Prop), SI K F H σ ρ fr → ws ρ Q →
    (∀ vs H' F' ρ' rs m, Q rs ρ' → RVsOk K F' H' σ rs vs m → SI K F' H' σ ρ' (padd fr m) → Kp F H fr F' H' → Q' vs H') → t σ H Q') : RE K (tCall (spD K np φ) [] E0 t) (wCall np bs φ ws) := by
  intro σ H F ρ fr Q Q' S hw k
  refine ra σ H F ρ fr _ _ S hw fun vs H1 F1 ρ1 rs m hw o S1 k1 => ?_
  obtain ⟨hl, hw⟩ := bmt_and hw
  obtain ⟨ts, is, ρ2, F2, n, hw, ot, s, S2, al⟩ := argsD_ok S1 o hw
  rw [List.append_nil]
  obtain ⟨m2, w2, q⟩ := S2.own
  refine ⟨o.len.trans hl, F2, ts, n, S2.ex, ot, ⟨fun a => ?_⟩, _, hw, ?_⟩
  · obtain ⟨q1, q2⟩ := q a
    unfold padd at q1 q2
    exact ⟨by omega, fun z => q2 (by omega)⟩
  · -- behind the call
    intro r ts' hq v H' F' mv m' o1 o2 ce
    have w3 : OwnS K F' H' ρ2 σ m2 := w2.kp ce.sF fun a z => by
      obtain ⟨q1, q2⟩ := q a
      obtain ⟨e1, e2⟩ := q2 (by unfold padd; omega)
      unfold padd at q1
      exact (ce.keep a e2 e1 (by omega)).1
    obtain ⟨m4, w4, e4⟩ := putB_ok al o2 w3
    have S4 : SI K F' H' σ (putB is ts' ρ2) (padd fr mv) := by
      refine ⟨ce.ex, m4, w4, fun a => ?_⟩
      obtain ⟨q1, q2⟩ := q a
      obtain ⟨c1, c2⟩ := ce.ok a
      have e4 := e4 a
      unfold padd at q1 q2 c1 c2 ⊢
      by_cases hz : m2 a + fr a = 0
      · exact ⟨by omega, fun z => c2 (by omega)⟩
      · obtain ⟨e1, e2⟩ := q2 (by omega)
        have ck := ce.keep a e2 e1 (by omega)
        unfold padd at ck
        obtain ⟨k1, k2, k3⟩ := ck
        exact ⟨by omega, fun _ => ⟨k3, by rw [k1]; exact e2⟩⟩
    refine k v H' F' _ (.tm r) mv hq o1 S4 ((k1.trans (Kp.ofF s)).trans ⟨ce.sF, fun a z => ?_, ce.grow⟩)
    obtain ⟨q1, q2⟩ := q a
    obtain ⟨e1, e2⟩ := q2 (by unfold padd; omega)
    unfold padd at q1
    exact (ce.keep a e2 e1 (by omega)).1
end
end DL

namespace DL
open PySem PySem.Spec PyProof.Rows L2
section
variable {X : Cx} {k np : Nat} {f : Addr} {fd : FuncData} {ps : List Str} {φ : FS} {x : Str} {p pos : Pos} {e : Expr} {es : List Expr} {ws : WA} {bs : List Bool}
theorem de_call (F : FnOk X.prog X.w X.K X.mg X.base CX0 k f fd ps (spD X.K np φ)) (hr : Room k X.A) (hg : Gl X x) (hm : X.mg x = some (.ref f)) (hk : PySem.W.keepIn X.K (.ref f) = true) (hb : Binds X.K fd ps []) (bs : List Bool)
    (ha : DA X (e :: es) ws) (hdb : (x == ("__debug__" : Str)) = false := by decide) (he : starEach (e :: es) X.env = (false, eval e X.env) :: starEach es X.env := by rfl) (hpl : (backTo pos (starEach es X.env)).any (·.1) = false := by rfl) :
    DE X (.Call (.Name x p) (e :: es) [] pos) (wCall np bs φ ws) := by
  obtain ⟨⟨t, pa, ra⟩⟩ := ha
  exact ⟨⟨_, pe_call F hr hg hm hk hb .nil pass0 pa hdb he hpl, call_run ra⟩⟩
end

/-! ### comprehensions -/
def wipeR (ρ : Rho) : List Nat → Rho
  | [] => ρ
  | v :: vs => (wipeR ρ vs).set v none
/-- the slots vs as they stood in ρ0: nothing own -/
def still (ρ0 : Rho) : List Nat → Prop
  | [] => True
  | v :: vs => (match look ρ0 v with
    | none => True
    | some (.fz _) => True
    | some (.vv _) => True
    | some (.exc _ _) => True
    | some (.fx _) => True
    | _ => False) ∧ still ρ0 vs
def restR (ρ0 ρ : Rho) : List Nat → Rho
  | [] => ρ
  | v :: vs => restR ρ0 (ρ.set v (look ρ0 v)) vs
/-- a comprehension: I says what is made so far -/
def wLc (vs : List Nat) (wi : WI) (g : WG) (wt : WT) (we : WE) : WE := fun ρ Q => wi ρ fun xs ρ1 => still ρ1 vs ∧ ∃ I : Nat → List PyData → Rho → Prop, I 0 [] (wipeR ρ1 vs) ∧
  (∀ i x ds ρ2, xs[i]? = some x → I i ds ρ2 → g x (wipeR ρ2 vs) fun ρ3 => wt ρ3 fun b ρ4 => bmt b (we ρ4 fun r ρ5 => frz r ρ5 fun y ρ6 => ds.length < sizeLine ∧ I (i + 1) (ds ++ [y]) ρ6) (I (i + 1) ds ρ4)) ∧
  ∀ ds ρ2, I xs.length ds ρ2 → ∀ p, Q (.tm (.lst p ds)) (restR ρ1 (wipeR ρ2 vs) vs)
structure DTs (X : Cx) (ifs : List Expr) (w : WT) : Prop where
  run : ∃ t : TT, PTs X ifs t ∧ RT X.K t w
def wYes : WT := fun ρ Q => Q true ρ
section
variable {K : PySem.W.Frag} {F H : Hp} {σ : Sg} {ρ : Rho} {fr m : Fp}
theorem OwnS.unset {ρ : Rho} {m : Fp} (o : OwnS K F H ρ σ m) : ∀ (i : Nat), ∃ m', OwnS K F H (ρ.set i none) (σ.set i none) m' ∧ ∀ a, m' a ≤ m a := by
  intro i
  by_cases hi : i < ρ.length
  · obtain ⟨m1, m2, em, _, _, h2, _⟩ := o.at hi
    exact ⟨m2, h2 none, fun a => by rw [em]; unfold padd; omega⟩
  · have := o.len
    rw [List.set_eq_of_length_le (by omega), List.set_eq_of_length_le (by omega)]
    exact ⟨m, o, fun _ => Nat.le_refl _⟩
theorem OwnS.wipe (o : OwnS K F H ρ σ m) : ∀ vs : List Nat, ∃ m', OwnS K F H (wipeR ρ vs) (L2.wipe σ vs) m' ∧ ∀ a, m' a ≤ m a
  | [] => ⟨m, o, fun _ => Nat.le_refl _⟩
  | v :: vs => by
    obtain ⟨m1, o1, h1⟩ := o.wipe vs
    obtain ⟨m2, o2, h2⟩ := o1.unset v
    exact ⟨m2, o2, fun a => Nat.le_trans (h2 a) (h1 a)⟩
theorem SI.wipe (S : SI K F H σ ρ fr) (vs : List Nat) : SI K F H (L2.wipe σ vs) (wipeR ρ vs) fr := by
  obtain ⟨m, o, q⟩ := S.own
  obtain ⟨m', o', h⟩ := OwnS.wipe o vs
  refine ⟨S.ex, m', o', fun a => ?_⟩
  have := h a
  obtain ⟨q1, q2⟩ := q a
  exact ⟨by omega, fun z => q2 (by omega)⟩
/-- a wiped slot filled again with what is not own -/
theorem OwnS.fill {τ : Sg} : ∀ {ρ : Rho} {τ : Sg} {m : Fp} {i : Nat} {x : Option OT}, OwnS K F H ρ (τ.set i none) m → (x = none ∨ ∃ t u, x = some t ∧ τ[i]? = some (some u) ∧ OwnT K F H t u z0) → OwnS K F H (ρ.set i x) τ m := by
  intro ρ
  induction ρ with
  | nil =>
    intro τ m i x o h
    cases τ with
    | nil => exact o
    | cons y τ => cases i <;> cases o
  | cons r ρ ih =>
    intro τ m i x o h
    cases τ with
    | nil => cases o
    | cons y τ =>
      cases i with
      | zero =>
        rw [List.set_cons_zero] at o ⊢
        cases o with
        | un o =>
          rcases h with rfl | ⟨t, u, rfl, hu, ot⟩
          · exact .un o
          · have hy : y = some u := by simpa using hu
            subst hy
            have := OwnS.sm ot o
            rw [z_padd] at this
            exact this
      | succ i =>
        rw [List.set_cons_succ] at o ⊢
        have h' : x = none ∨ ∃ t u, x = some t ∧ τ[i]? = some (some u) ∧ OwnT K F H t u z0 := by
          rcases h with h | ⟨t, u, a, b, c⟩
          · exact .inl h
          · exact .inr ⟨t, u, a, by simpa using b, c⟩
        cases o with
        | un o => exact .un (ih o h')
        | sm a o => exact .sm a (ih o h')
/-- the wiped slots restored -/
theorem OwnS.rest {ρ0 : Rho} : ∀ {vs : List Nat} {ρ : Rho} {m : Fp}, OwnS K F H ρ (L2.wipe σ vs) m → (∀ i, i ∈ vs → look ρ0 i = none ∨ ∃ t u, look ρ0 i = some t ∧ σ[i]? = some (some u) ∧ OwnT K F H t u z0) → vs.Nodup →
    ∃ ρ', OwnS K F H ρ' σ m ∧ ρ' = restR ρ0 ρ vs := by
  intro vs
  induction vs with
  | nil => intro ρ m o h _; exact ⟨ρ, o, rfl⟩
  | cons v vs ih =>
    intro ρ m o h nd
    have hv : v ∉ vs := (List.nodup_cons.mp nd).1
    have o1 : OwnS K F H (ρ.set v (look ρ0 v)) (L2.wipe σ vs) m := by
      refine OwnS.fill (τ := L2.wipe σ vs) o ?_
      rcases h v (by simp) with e | ⟨t, u, e1, e2, e3⟩
      · exact .inl e
      · exact .inr ⟨t, u, e1, by rw [wipe_out hv]; exact e2, e3⟩
    exact ih o1 (fun i hi => h i (by simp [hi])) (List.nodup_cons.mp nd).2
theorem still_ok (S : SI K F H σ ρ fr) : ∀ {vs : List Nat}, still ρ vs → ∀ i, i ∈ vs → look ρ i = none ∨ ∃ t u, look ρ i = some t ∧ σ[i]? = some (some u) ∧ OwnT K F H t u z0
  | v :: vs, h, i, hi => by
    rcases List.mem_cons.mp hi with rfl | hi
    · cases e : look ρ i with
      | none => exact .inl rfl
      | some t =>
        obtain ⟨u, m1, e1, o⟩ := S.slot e
        have h1 := h.1
        rw [e] at h1
        refine .inr ⟨t, u, rfl, e1, ?_⟩
        cases t with
        | fz d => exact ⟨o.1, rfl⟩
        | vv v => exact ⟨o.1, rfl⟩
        | exc n y => exact ⟨o.1, rfl⟩
        | fx t => exact ⟨o.1, rfl⟩
        | ox _ _ => exact h1.elim
        | lst _ _ => exact h1.elim
        | lls _ _ => exact h1.elim
    · exact still_ok S h.2 i hi
theorem OwnT.z (o : OwnT K F H t v z0) {F' H' : Hp} (e : Same F F') : OwnT K F' H' t v z0 := o.kp e fun a z => absurd rfl z
end
section
variable {X : Cx} {elt tg iter : Expr} {ifs : List Expr} {scope : Scope} {own : List (Str × Nat)} {pos : Pos} {wi : WI} {g : WG} {wt : WT} {we : WE}
theorem dts_nil : DTs X [] wYes := ⟨⟨_, pts_nil, fun σ H F ρ fr Q Q' S h k => k true H F ρ h S Kp.refl⟩⟩
theorem dts_one {c : Expr} (h : DT X c wt) : DTs X [c] wt := let ⟨⟨t, p, r⟩⟩ := h; ⟨⟨_, pts_one p, r⟩⟩
theorem wipe_set : ∀ (vs : List Nat) (σ : Sg) (i : Nat) (v : Option V), i ∈ vs → L2.wipe (σ.set i v) vs = L2.wipe σ vs := by
  intro vs
  induction vs with
  | nil => intro σ i v h; cases h
  | cons w vs ih =>
    intro σ i v h
    show (L2.wipe (σ.set i v) vs).set w none = (L2.wipe σ vs).set w none
    by_cases hm : i ∈ vs
    · rw [ih σ i v hm]
    · have e : i = w := by
        rcases List.mem_cons.mp h with e | e
        · exact e
        · exact absurd e hm
      subst e
      have out : ∀ (vs : List Nat) (σ : Sg), i ∉ vs → L2.wipe (σ.set i v) vs = (L2.wipe σ vs).set i v := by
        intro vs
        induction vs with
        | nil => intro σ _; rfl
        | cons w vs ih =>
          intro σ h
          show (L2.wipe (σ.set i v) vs).set w none = ((L2.wipe σ vs).set w none).set i v
          rw [ih σ (fun z => h (by simp [z]))]
          exact List.set_comm _ _ (fun z => h (by simp [z]))
      rw [out vs σ hm, List.set_set]
theorem wipe_wipe : ∀ (ws vs : List Nat) (σ : Sg), (∀ i ∈ ws, i ∈ vs) → L2.wipe (L2.wipe σ ws) vs = L2.wipe σ vs := by
  intro ws
  induction ws with
  | nil => intro vs σ _; rfl
  | cons w ws ih =>
    intro vs σ hs
    show L2.wipe ((L2.wipe σ ws).set w none) vs = L2.wipe σ vs
    rw [wipe_set _ _ _ _ (hs w (by simp)), ih vs σ fun i hi => hs i (by simp [hi])]
/-- a comprehension's targets -/
structure DGW (X : Cx) (vs : List Nat) (tg : Expr) (w : WG) : Prop where
  run : ∃ t : TG, PG X tg t ∧ ∀ (σ : Sg) (H F : Hp) (ρ : Rho) (fr : Fp) (x : PyData) (v : V) (Q : Rho → Prop) (Q' : Sg → Hp → Prop), SI X.K F H σ ρ fr → Dp X.K F v x → w x ρ Q →
    (∀ σ' H' F' ρ', Q ρ' → L2.wipe σ' vs = L2.wipe σ vs → SI X.K F' H' σ' ρ' fr → Kp F H fr F' H' → Q' σ' H') → t v σ H Q'
structure DGWs (X : Cx) (vs : List Nat) (tgs : List Expr) (w : WGs) : Prop where
  run : ∃ t : TGs, PGs X tgs t ∧ ∀ (σ : Sg) (H F : Hp) (ρ : Rho) (fr : Fp) (xs : List PyData) (us : List V) (Q : Rho → Prop) (Q' : Sg → Hp → Prop), SI X.K F H σ ρ fr → DpAll X.K F us xs → w xs ρ Q →
    (∀ σ' H' F' ρ', Q ρ' → L2.wipe σ' vs = L2.wipe σ vs → SI X.K F' H' σ' ρ' fr → Kp F H fr F' H' → Q' σ' H') → t us σ H Q'
theorem dgw_name {i : Nat} {x : Str} {vs : List Nat} (hm : i ∈ vs) (hN : X.N.Nodup) (hi : X.N[i]? = some x) (hx : Loc X.env.scope x) (hf : X.fn x = true ∨ X.env.scope.names.lookup x = some .local := by first | exact .inl rfl | exact .inr rfl | assumption) : DGW X vs (.Name x pos) (gvName i) :=
  ⟨⟨_, pg_name hN hi hx hf, fun σ H F ρ fr x v Q Q' S dp h k => k _ H F _ h (wipe_set vs σ i _ hm) (S.setF dp i) Kp.refl⟩⟩
theorem dgws_nil {vs : List Nat} : DGWs X vs [] gvNil := by
  refine ⟨⟨_, pgs_nil, fun σ H F ρ fr xs us Q Q' S dp h k => ?_⟩⟩
  cases dp with
  | nil => exact ⟨rfl, k σ H F ρ h rfl S Kp.refl⟩
  | cons _ _ => exact h.elim
theorem dgws_cons {vs : List Nat} {e : Expr} {gs : WGs} {es : List Expr} (h1 : DGW X vs e g) (h2 : DGWs X vs es gs) (hs : (assignEach (e :: es) X.env).map (·.2) = assign e X.env :: (assignEach es X.env).map (·.2) := by rfl) : DGWs X vs (e :: es) (gvCons g gs) := by
  obtain ⟨⟨t, p, r⟩⟩ := h1
  obtain ⟨⟨u, q, r2⟩⟩ := h2
  refine ⟨⟨_, pgs_cons p q hs, fun σ H F ρ fr xs us Q Q' S dp h k => ?_⟩⟩
  cases dp with
  | nil => exact h.elim
  | cons d1 d2 => exact ⟨_, _, rfl, r σ H F ρ fr _ _ _ _ S d1 h fun σ' H' F' ρ' a w1 S' k' => r2 σ' H' F' ρ' fr _ _ _ _ S' (dpam k'.exF _ _ d2) a fun σ2 H2 F2 ρ2 a w2 S2 k2 => k σ2 H2 F2 ρ2 a (w2.trans w1) S2 (k'.trans k2)⟩
theorem dgw_tup {vs : List Nat} {gs : WGs} {es : List Expr} {k n : Nat} (hc : X.calm = true) (h : DGWs X vs es gs) (hn : (assignEach es X.env).length = n := by rfl) (hst : (assignEach es X.env).findIdx? (·.1) = none := by rfl) : DGW X vs (.Tuple es k pos) (gvTup n gs) := by
  obtain ⟨⟨u, q, r2⟩⟩ := h
  refine ⟨⟨_, pg_tup hc q hn hst, fun σ H F ρ fr xs us Q Q' S dp h k => ?_⟩⟩
  cases dp with
  | tup hs ha => have h := bmt_and h; exact ⟨_, _, rfl, same_t S.ex hs, by rw [ha.length]; exact h.1, r2 σ H F ρ fr _ _ Q Q' S ha h.2 k⟩
  | _ => exact h.elim
/-- the reading of a comprehension -/
theorem lc_run {K : PySem.W.Frag} {vs : List Nat} {ti : TI} {tg : TG} {tt : TT} {te : TE} (nd : vs.Nodup)
    (ri : ∀ (σ : Sg) (H F : Hp) (ρ : Rho) (fr : Fp) (Q : List PyData → Rho → Prop) (R : It → Hp → Prop), SI K F H σ ρ fr → wi ρ Q → (∀ xs H' F' ρ' J, Q xs ρ' → SI K F' H' σ ρ' fr → Kp F H fr F' H' → JOk K F' J xs → R J H') → ti σ H R)
    (rg : ∀ (σ : Sg) (H F : Hp) (ρ : Rho) (fr : Fp) (x : PyData) (v : V) (Q : Rho → Prop) (Q' : Sg → Hp → Prop), SI K F H σ ρ fr → Dp K F v x → g x ρ Q → (∀ σ' H' F' ρ', Q ρ' → L2.wipe σ' vs = L2.wipe σ vs → SI K F' H' σ' ρ' fr → Kp F H fr F' H' → Q' σ' H') → tg v σ H Q')
    (rt : RT K tt wt) (re : RE K te we) : RE K (tLc ti tg tt te vs) (wLc vs wi g wt we) := by
  intro σ H F ρ fr Q Q' S hw k
  refine ri σ H F ρ fr _ _ S hw fun xs H1 F1 ρ1 J a S1 k1 hJ => ?_
  obtain ⟨hst, I, i0, it, ie⟩ := a
  intro D hD
  obtain ⟨S2, k2⟩ := S1.newL (o := .lst []) hD
  -- what stands ahead of turn i
  refine ⟨fun i m H' => m = xs.length - i ∧ i ≤ xs.length ∧ ∃ ρ' F' acc ds, I i ds ρ' ∧ SI K F' H' (L2.wipe σ vs) (wipeR ρ' vs) (padd fr (one D)) ∧ Kp F1 H1 fr F' H' ∧ H' D = some (.lst acc) ∧ DpAll K F' acc ds, ⟨xs.length, by simp, Nat.zero_le _, wipeR ρ1 vs, F1, [], [], i0, ?_, k2, upd_same, .nil⟩, ?_⟩
  · have := (S2.wipe vs).wipe vs
    rw [wipe_wipe vs vs σ fun i hi => hi] at this
    exact this
  · rintro i m H2 ⟨rfl, hi, ρ2, F2, acc, ds, i2, S3, k3, hDl, dpa⟩
    obtain ⟨jstop, jgo⟩ := hJ i F2 H2 k3.exF S3.ex
    by_cases hlt : i < xs.length
    · obtain ⟨x, hx⟩ : ∃ x, xs[i]? = some x := ⟨xs[i], by simp [hlt]⟩
      obtain ⟨go, yl⟩ := jgo x hx
      refine .inr ⟨go, fun H' => ∃ ρ' F' acc ds, I (i + 1) ds ρ' ∧ SI K F' H' (L2.wipe σ vs) (wipeR ρ' vs) (padd fr (one D)) ∧ Kp F1 H1 fr F' H' ∧ H' D = some (.lst acc) ∧ DpAll K F' acc ds, fun H' n => ⟨xs.length - (i + 1), by omega, rfl, hlt, n⟩, fun v H3 y => ?_⟩
      have main : ∀ F3, SI K F3 H3 (L2.wipe σ vs) (wipeR ρ2 vs) (padd fr (one D)) → Kp F1 H1 fr F3 H3 → H3 D = some (.lst acc) → Same F2 F3 → Dp K F3 v x → tg v (L2.wipe σ vs) H3 fun σ2 H2 => L2.wipe σ2 vs = L2.wipe σ vs ∧ tt σ2 H2 fun b H3 =>
          if b = true then te σ2 H3 fun y H4 => ∃ acc, H4 D = some (.lst acc) ∧ acc.length < sizeLine ∧ (∃ ρ' F' acc' ds, I (i + 1) ds ρ' ∧ SI K F' (upd H4 D (.lst (acc ++ [y]))) (L2.wipe σ vs) (wipeR ρ' vs) (padd fr (one D)) ∧ Kp F1 H1 fr F' (upd H4 D (.lst (acc ++ [y]))) ∧ (upd H4 D (.lst (acc ++ [y]))) D = some (.lst acc') ∧ DpAll K F' acc' ds)
          else (∃ ρ' F' acc ds, I (i + 1) ds ρ' ∧ SI K F' H3 (L2.wipe σ vs) (wipeR ρ' vs) (padd fr (one D)) ∧ Kp F1 H1 fr F' H3 ∧ H3 D = some (.lst acc) ∧ DpAll K F' acc ds) := by
        intro F3 S4 k4 hD3 sF dp
        have frD : ∀ {F H F' H' : Hp}, Kp F H (padd fr (one D)) F' H' → H' D = H D := fun k => k.keep D (by unfold padd one; simp)
        refine rg (L2.wipe σ vs) H3 F3 _ _ x v _ _ S4 dp (it i x ds ρ2 hx i2) fun σ5 H5 F5 ρ5 a w5 S5 k5 => ?_
        rw [wipe_wipe vs vs σ fun i hi => hi] at w5
        refine ⟨w5, ?_⟩
        refine rt σ5 H5 F5 ρ5 _ _ _ S5 a fun b H6 F6 ρ6 a S6 k6 => ?_
        cases b with
        | true =>
          rw [if_pos rfl]
          refine re σ5 H6 F6 ρ6 _ _ _ S6 a fun yv H7 F7 ρ7 r7 m7 a o7 S7 k7 => ?_
          obtain ⟨y, ρ8, F8, a, dp8, s8, S8⟩ := frz_ok S7 o7 (fun a => by unfold padd; omega) a
          have S8' : SI K F8 H7 σ5 ρ8 (padd fr (one D)) := S8.less fun a => by unfold padd; omega
          have hD7 : H7 D = some (.lst acc) := (frD k7).trans ((frD k6).trans ((frD k5).trans hD3))
          have kk : Kp F1 H1 fr F8 H7 := (((k4.trans k5.left).trans k6.left).trans k7.left).trans (Kp.ofF s8)
          have dpa8 : DpAll K F8 acc ds := dpam (sF.trans (((k5.exF.trans k6.exF).trans k7.exF).trans s8)) _ _ dpa
          obtain ⟨m9, w9, q9⟩ := (S8'.wipe vs).own
          rw [w5] at w9
          have hz : m9 D = 0 ∧ fr D = 0 := by
            have := (q9 D).1
            have e1 : one D D = 1 := by unfold one; rw [if_pos rfl]
            unfold padd at this
            omega
          have hFD : F8 D = none := ((q9 D).2 (by unfold padd one; simp)).1
          refine ⟨acc, hD7, by rw [dpa8.length]; exact a.1, ρ8, F8, acc ++ [yv], ds ++ [y], a.2, ⟨fun b u e => ?_, m9, w9.kp (Same.refl _) fun c z => upd_ne fun e => by subst e; omega, fun c => ⟨(q9 c).1, fun z => ⟨((q9 c).2 z).1, ?_⟩⟩⟩, ⟨kk.exF, fun c z => ?_, fun c z => ?_⟩, upd_same, dpa8.append (.cons dp8 .nil)⟩
          · rw [upd_ne fun e' => by subst e'; rw [hFD] at e; cases e]
            exact S8'.ex b u e
          · by_cases hc : c = D
            · subst hc; rw [upd_same]; simp
            · rw [upd_ne hc]; exact ((q9 c).2 z).2
          · rw [upd_ne fun e => by subst e; omega]
            exact kk.keep c z
          · by_cases hc : c = D
            · subst hc; rw [upd_same]; simp
            · rw [upd_ne hc]; exact kk.grow c z
        | false =>
          rw [if_neg Bool.false_ne_true]
          refine ⟨ρ6, F6, acc, ds, a, ?_, (k4.trans k5.left).trans k6.left, (frD k6).trans ((frD k5).trans hD3), dpam (sF.trans (k5.exF.trans k6.exF)) _ _ dpa⟩
          have := S6.wipe vs
          rw [w5] at this
          exact this
      rcases yl v H3 y with ⟨rfl, dp⟩ | ⟨p, u, hp, rfl, dp⟩
      · exact main F2 S3 k3 hDl (Same.refl _) dp
      · obtain ⟨S4, s4, k4⟩ := S3.newF (o := u) hp
        have hne : D ≠ p := fun e => by subst e; rw [hDl] at hp; cases hp
        exact main _ S4 (k3.trans k4.left) (by rw [upd_ne hne]; exact hDl) s4 dp
    · have e' : i = xs.length := by omega
      subst e'
      refine .inl ⟨jstop (Nat.le_refl _), ?_⟩
      obtain ⟨m9, w9, q9⟩ := S3.own
      obtain ⟨ρ', w10, rfl⟩ := OwnS.rest (ρ0 := ρ1) w9 (fun i hi => by
        rcases still_ok S1 hst i hi with e | ⟨t, u, e1, e2, e3⟩
        · exact .inl e
        · exact .inr ⟨t, u, e1, e2, OwnT.z e3 k3.exF⟩) nd
      exact k _ H2 F2 _ _ (one D) (ie ds ρ2 i2 D) (own_lst hDl dpa rfl) ⟨S3.ex, m9, w10, q9⟩ (k1.trans k3)
/-- one reading for all blocks -/
theorem pe_all {I : Type} {Xs : I → Cx} {e : Expr} {K : PySem.W.Frag} {w : WE} (hK : ∀ i, (Xs i).K = K) (h : ∀ i, DE (Xs i) e w) : ∃ t : TE, (∀ i, PE (Xs i) e t) ∧ RE K t w := by
  have h' : ∀ i, ∃ t, PE (Xs i) e t ∧ RE K t w := fun i => by
    obtain ⟨t, p, r⟩ := (h i).run
    rw [hK i] at r
    exact ⟨t, p, r⟩
  exact ⟨fun σ H Q => ∀ i, Classical.choose (h' i) σ H Q, fun i => ⟨fun pins s σ H Q I hw => (Classical.choose_spec (h' i)).1.run pins s σ H Q I (hw i)⟩, fun σ H F ρ fr Q Q' S hw k i => (Classical.choose_spec (h' i)).2 σ H F ρ fr Q Q' S hw k⟩
theorem pts_all {I : Type} {Xs : I → Cx} {ifs : List Expr} {K : PySem.W.Frag} {w : WT} (hK : ∀ i, (Xs i).K = K) (h : ∀ i, DTs (Xs i) ifs w) : ∃ t : TT, (∀ i, PTs (Xs i) ifs t) ∧ RT K t w := by
  have h' : ∀ i, ∃ t, PTs (Xs i) ifs t ∧ RT K t w := fun i => by
    obtain ⟨t, p, r⟩ := (h i).run
    rw [hK i] at r
    exact ⟨t, p, r⟩
  exact ⟨fun σ H Q => ∀ i, Classical.choose (h' i) σ H Q, fun i => ⟨fun pins s σ H Q I hw => (Classical.choose_spec (h' i)).1.run pins s σ H Q I (hw i)⟩, fun σ H F ρ fr Q Q' S hw k i => (Classical.choose_spec (h' i)).2 σ H F ρ fr Q Q' S hw k⟩
abbrev RGW (K : PySem.W.Frag) (vs : List Nat) (t : TG) (w : WG) : Prop := ∀ (σ : Sg) (H F : Hp) (ρ : Rho) (fr : Fp) (x : PyData) (v : V) (Q : Rho → Prop) (Q' : Sg → Hp → Prop), SI K F H σ ρ fr → Dp K F v x → w x ρ Q → (∀ σ' H' F' ρ', Q ρ' → L2.wipe σ' vs = L2.wipe σ vs → SI K F' H' σ' ρ' fr → Kp F H fr F' H' → Q' σ' H') → t v σ H Q'
theorem pg_all {I : Type} {Xs : I → Cx} {tg : Expr} {K : PySem.W.Frag} {w : WG} {vs : List Nat} (hK : ∀ i, (Xs i).K = K) (h : ∀ i, DGW (Xs i) vs tg w) : ∃ t : TG, (∀ i, PG (Xs i) tg t) ∧ RGW K vs t w := by
  have h' : ∀ i, ∃ t, PG (Xs i) tg t ∧ RGW K vs t w := fun i => by
    obtain ⟨t, p, r⟩ := (h i).run
    rw [hK i] at r
    exact ⟨t, p, r⟩
  exact ⟨fun v σ H Q => ∀ i, Classical.choose (h' i) v σ H Q, fun i => ⟨fun pins s σ H v u Q I r hw => (Classical.choose_spec (h' i)).1.run pins s σ H v u Q I r (hw i)⟩, fun σ H F ρ fr x v Q Q' S dp hw k i => (Classical.choose_spec (h' i)).2 σ H F ρ fr x v Q Q' S dp hw k⟩
abbrev BIx := Shared × Hp × Addr × List (Str × Addr) × List Addr
theorem lc_parts {vs : List Nat} (hg : ∀ (s : Shared) (H : Hp) (C : Addr) (cl : List (Str × Addr)) (fp : List Addr), DGW (X.blk s H scope (compEnvC scope cl C X.env) fp) vs tg g) (ht : ∀ (s : Shared) (H : Hp) (C : Addr) (cl : List (Str × Addr)) (fp : List Addr), DTs (X.blk s H scope (compEnvC scope cl C X.env) fp) ifs wt)
    (he : ∀ (s : Shared) (H : Hp) (C : Addr) (cl : List (Str × Addr)) (fp : List Addr), DE (X.blk s H scope (compEnvC scope cl C X.env) fp) elt we) : ∃ (tg' : TG) (tt : TT) (te : TE), (∀ (s : Shared) (H : Hp) (C : Addr) (cl : List (Str × Addr)) (fp : List Addr), PG (X.blk s H scope (compEnvC scope cl C X.env) fp) tg tg') ∧
      (∀ (s : Shared) (H : Hp) (C : Addr) (cl : List (Str × Addr)) (fp : List Addr), PTs (X.blk s H scope (compEnvC scope cl C X.env) fp) ifs tt) ∧ (∀ (s : Shared) (H : Hp) (C : Addr) (cl : List (Str × Addr)) (fp : List Addr), PE (X.blk s H scope (compEnvC scope cl C X.env) fp) elt te) ∧
      (∀ (σ : Sg) (H F : Hp) (ρ : Rho) (fr : Fp) (x : PyData) (v : V) (Q : Rho → Prop) (Q' : Sg → Hp → Prop), SI X.K F H σ ρ fr → Dp X.K F v x → g x ρ Q → (∀ σ' H' F' ρ', Q ρ' → L2.wipe σ' vs = L2.wipe σ vs → SI X.K F' H' σ' ρ' fr → Kp F H fr F' H' → Q' σ' H') → tg' v σ H Q') ∧ RT X.K tt wt ∧ RE X.K te we := by
  obtain ⟨a, a1, a2⟩ := pg_all (I := BIx) (Xs := fun i => X.blk i.1 i.2.1 scope (compEnvC scope i.2.2.2.1 i.2.2.1 X.env) i.2.2.2.2) (K := X.K) (fun _ => rfl) (fun i => hg i.1 i.2.1 i.2.2.1 i.2.2.2.1 i.2.2.2.2)
  obtain ⟨b, b1, b2⟩ := pts_all (I := BIx) (Xs := fun i => X.blk i.1 i.2.1 scope (compEnvC scope i.2.2.2.1 i.2.2.1 X.env) i.2.2.2.2) (K := X.K) (fun _ => rfl) (fun i => ht i.1 i.2.1 i.2.2.1 i.2.2.2.1 i.2.2.2.2)
  obtain ⟨c, c1, c2⟩ := pe_all (I := BIx) (Xs := fun i => X.blk i.1 i.2.1 scope (compEnvC scope i.2.2.2.1 i.2.2.1 X.env) i.2.2.2.2) (K := X.K) (fun _ => rfl) (fun i => he i.1 i.2.1 i.2.2.1 i.2.2.2.1 i.2.2.2.2)
  exact ⟨a, b, c, fun s H C cl fp => a1 (s, H, C, cl, fp), fun s H C cl fp => b1 (s, H, C, cl, fp), fun s H C cl fp => c1 (s, H, C, cl, fp), a2, b2, c2⟩
theorem de_lc {vs : List Nat} (hvs : own.map (·.2) = vs) (nd : vs.Nodup) (hc : X.calm = true) (hN : X.N.Nodup) (hi : DI X tg iter wi) (ok : BlkOk X.N X.env.scope scope own)
    (hg : ∀ (s : Shared) (H : Hp) (C : Addr) (cl : List (Str × Addr)) (fp : List Addr), DGW (X.blk s H scope (compEnvC scope cl C X.env) fp) vs tg g) (ht : ∀ (s : Shared) (H : Hp) (C : Addr) (cl : List (Str × Addr)) (fp : List Addr), DTs (X.blk s H scope (compEnvC scope cl C X.env) fp) ifs wt)
    (he : ∀ (s : Shared) (H : Hp) (C : Addr) (cl : List (Str × Addr)) (fp : List Addr), DE (X.blk s H scope (compEnvC scope cl C X.env) fp) elt we) (hs : ∀ x, foldedSetIterable iter X.env x = pure x := by intro _; rfl) :
    DE X (.ListComp elt [⟨tg, iter, ifs, 0⟩] scope pos) (wLc vs wi g wt we) := by
  subst hvs
  obtain ⟨⟨ti, pi, ri⟩⟩ := hi
  obtain ⟨a, b, c, pa, pb, pc, ra, rb, rc⟩ := lc_parts hg ht he
  exact ⟨⟨_, pe_lc hc hN pi ok pa pb pc hs, lc_run nd ri ra rb rc⟩⟩
theorem ds_setLc {vs : List Nat} {i : Nat} {y : Str} {py spos : Pos} (hvs : own.map (·.2) = vs) (nd : vs.Nodup) (hc : X.calm = true) (hN : X.N.Nodup) (hy : X.N[i]? = some y) (hyl : X.env.scope.names.lookup y = some .local)
    (hsw : swapsWith (.ListComp elt [⟨tg, iter, ifs, 0⟩] scope pos) (some (.Name y py)) spos.line X.env = pure true) (hi : DI X tg iter wi) (ok : BlkOk X.N X.env.scope scope own)
    (hg : ∀ (s : Shared) (H : Hp) (C : Addr) (cl : List (Str × Addr)) (fp : List Addr), DGW (X.blk s H scope (compEnvC scope cl C X.env) fp) vs tg g) (ht : ∀ (s : Shared) (H : Hp) (C : Addr) (cl : List (Str × Addr)) (fp : List Addr), DTs (X.blk s H scope (compEnvC scope cl C X.env) fp) ifs wt)
    (he : ∀ (s : Shared) (H : Hp) (C : Addr) (cl : List (Str × Addr)) (fp : List Addr), DE (X.blk s H scope (compEnvC scope cl C X.env) fp) elt we) (hs : ∀ x, foldedSetIterable iter X.env x = pure x := by intro _; rfl) :
    DS X (.Assign [.Name y py] (.ListComp elt [⟨tg, iter, ifs, 0⟩] scope pos) spos) (wSet (wLc vs wi g wt we) i) := by
  subst hvs
  obtain ⟨⟨ti, pi, ri⟩⟩ := hi
  obtain ⟨a, b, c, pa, pb, pc, ra, rb, rc⟩ := lc_parts hg ht he
  refine ⟨⟨_, ps_setLc hc hN hy hyl hsw pi ok pa pb pc hs, fun σ H F ρ fr d e S E h => ?_⟩⟩
  refine lc_run nd ri ra rb rc σ H F ρ fr _ _ S h fun v H' F' ρ' r m a b c k => ?_
  obtain ⟨ρ2, F2, q, S2, s⟩ := toSlot_ok c b a
  exact E.nx _ H' F2 ρ2 q S2 (k.trans (Kp.ofF s))
end
end DL

namespace DL
open PySem PySem.Spec PyProof.Rows L2

/-! ### x[::-1] -/
def revS (z : Str) : Str := ⟨z.cps.toList.reverse.toArray⟩
theorem revS_slice (z : Str) : ((Builtin.Str.strSliceIndices none none (-1) z.length).filterMap (z.cps[·]?)) = z.cps.toList.reverse := by
  rw [picked_rev, PySem.W.krv_range, List.filterMap_reverse]
  exact congrArg List.reverse (PySem.W.krv_all z.cps)
def tRevA (K : PySem.W.Frag) (te : TE) : TE := fun σ H Q => te σ H fun x H1 => (∃ a xs, x = .ref a ∧ SqL K H1 a xs ∧ ∀ p, H1 p = none → Q (.ref p) (upd H1 p (.lst xs.reverse))) ∨ (∃ z, x = .str z ∧ z.length ≤ sizeLine ∧ Q (.str (revS z)) H1)
section
variable {X : Cx} {e : Expr} {wa wb : WE} {k : Nat} {p1 p2 p3 pos : Pos}
theorem pe_revA {te : TE} (he : PE X e te) : PE X (.Subscript e (.Slice none none (some (.UnaryOp .USub (.Constant (.int 1) k p1) p2)) p3) pos) (tRevA X.K te) := by
  refine ⟨fun pins s σ H Q I h => ?_⟩
  refine Subscript_ (thn (he.run pins s σ H _ I h) fun v s1 ⟨x, H1, I1, r1, q1⟩ => ?_)
  have hst : PO X (some (.UnaryOp .USub (.Constant (.int 1) k p1) p2)) (tPart (tUn (rU fun i => .int (-i)) (tC (.int 1)))) := po_some (pe_un un_neg pe_int)
  refine wpAny_Slice (thn (po_none.run pins s1 σ H1 (fun o H2 => o = none ∧ H2 = H1) I1 ⟨rfl, rfl⟩) fun vl s2 ⟨l, H2, I2, pl, el, e2⟩ => ?_)
  subst el e2
  refine thn (po_none.run pins s2 σ H2 (fun o H3 => o = none ∧ H3 = H2) I2 ⟨rfl, rfl⟩) fun vu s3 ⟨u, H3, I3, pu, eu, e3⟩ => ?_
  subst eu e3
  refine thn (hst.run pins s3 σ H3 (fun o H4 => o = some (-1) ∧ H4 = H3) I3 ⟨1, rfl, -1, rfl, rfl, rfl⟩) fun vs s4 ⟨o, H4, I4, ps, eo, e4⟩ => ?_
  subst eo e4
  have I5 : Inv X pins σ H4 { s4 with heap := s4.heap.push { cls := .type "slice", data := .fields #[vl, vu, vs] } } := I4.kept (t' := s4.toks) fun b ob q => Heap.get?_push_of_some _ q
  show wpAny (model X.prog X.w) X.A (subscriptTail e (.Slice none none (some (.UnaryOp .USub (.Constant (.int 1) k p1) p2)) p3) v (.ref s4.heap.objs.size)) (EP X pins σ Q) X.xe { s4 with heap := s4.heap.push { cls := .type "slice", data := .fields #[vl, vu, vs] } }
  rcases q1 with ⟨a, xs, rfl, hx, q⟩ | ⟨z, rfl, hz, q⟩
  · cases r1
    obtain ⟨its, r, ht, hz⟩ := I5.list hx
    have hlen := r.length
    refine tail_any (ops := [.ref a, .ref s4.heap.objs.size]) ht.isList.typeIs (PySem.slot_list_getitem.lookup) ?_ (by with_unfolding_all rfl)
    refine wpAny_getItem_list_slice ht.isList (Heap.IsSliceOf.new _ vl vu vs) pl pu ps (by decide) ?_ (by rw [List.size_toArray]; omega)
    rw [PySem.W.krv_pick]
    refine ⟨.ref _, _, I5.laid (t' := s4.toks) (o := .lst xs.reverse) (fun b ob q => Heap.get?_push_of_some _ q) (Nat.le_refl _) ?_, rfl, q _ (I5.hok.fresh (Nat.le_refl _))⟩
    exact ⟨by rw [List.length_reverse]; exact hz, _, 0, r.reverse, Heap.get?_push_size _ rfl⟩
  · obtain ⟨t, rfl⟩ := r1
    obtain ⟨l, rfl, el⟩ := IsPart.raw pl
    obtain ⟨u, rfl, eu⟩ := IsPart.raw pu
    obtain ⟨st, rfl, es⟩ := IsPart.raw ps
    refine tail_any (ops := [.str z t, .ref s4.heap.objs.size]) (typeIs_str _ z t) F.slot_str_getitem.lookup ?_ (by with_unfolding_all rfl)
    refine wpAny_getItem_str_slice (l := l) (u := u) (st := st) ⟨_, Heap.get?_push_size _ rfl, rfl, rfl⟩ (by rw [es]; rfl) ?_
    show Made.post (if (((st.map (·.1)).getD 1 == 1) && (Builtin.Str.strSliceIndices (l.map (·.1)) (u.map (·.1)) ((st.map (·.1)).getD 1) z.length).length == z.length) = true then Made.val (.str z t)
      else Made.str ⟨((Builtin.Str.strSliceIndices (l.map (·.1)) (u.map (·.1)) ((st.map (·.1)).getD 1) z.length).filterMap (z.cps[·]?)).toArray⟩) (EP X pins σ Q) _
    rw [el, eu, es]
    show Made.post (if (((-1 : Int) == 1) && (Builtin.Str.strSliceIndices none none (-1) z.length).length == z.length) = true then Made.val (.str z t)
      else Made.str ⟨((Builtin.Str.strSliceIndices none none (-1) z.length).filterMap (z.cps[·]?)).toArray⟩) (EP X pins σ Q) _
    rw [if_neg (by rw [show ((-1 : Int) == 1) = false by decide, Bool.false_and]; exact Bool.false_ne_true), revS_slice]
    refine ⟨?_, .str (revS z), _, I5.tok _, ⟨_, rfl⟩, q⟩
    show z.cps.toList.reverse.toArray.size ≤ sizeLine
    rw [List.size_toArray, List.length_reverse, Array.length_toList]
    exact hz
def wRev (wa : WE) : WE := fun ρ Q => wa ρ fun r ρ1 => match r.ot ρ1 with
  | some (.fz (.list ds)) => ∀ p, Q (.tm (.lst p ds.reverse)) ρ1
  | some (.lst _ ds) => ∀ p, Q (.tm (.lst p ds.reverse)) ρ1
  | some (.fz (.str z)) => z.length ≤ sizeLine ∧ Q (.fz (.str (revS z))) ρ1
  | _ => False
theorem de_rev (ha : DE X e wa) : DE X (.Subscript e (.Slice none none (some (.UnaryOp .USub (.Constant (.int 1) k p1) p2)) p3) pos) (wRev wa) := by
  obtain ⟨⟨t, p, r⟩⟩ := ha
  refine ⟨⟨_, pe_revA p, fun σ H F ρ fr Q Q' S hw kk => ?_⟩⟩
  refine r σ H F ρ fr _ _ S hw fun v1 H1 F1 ρ1 r1 m1 hw o1 S1 k1 => ?_
  split at hw
  · rename_i ds hd
    obtain ⟨m', o'⟩ := o1.own S1 hd
    obtain ⟨o', _⟩ := o'
    cases o' with
    | lst hs ha =>
      refine .inl ⟨_, _, rfl, S1.ex.seq hs, fun p hp => ?_⟩
      obtain ⟨S4, k4⟩ := S1.left.newL (o := .lst _) hp
      exact kk _ _ _ ρ1 _ (one p) (hw p) (own_lst upd_same ha.reverse rfl) S4 (k1.trans k4)
  · rename_i p0 ds hd
    obtain ⟨m', o'⟩ := o1.own S1 hd
    obtain ⟨vs, rfl, h0, ha, _⟩ := o'
    refine .inl ⟨_, _, rfl, SqL.of h0, fun p hp => ?_⟩
    obtain ⟨S4, k4⟩ := S1.left.newL (o := .lst _) hp
    exact kk _ _ _ ρ1 _ (one p) (hw p) (own_lst upd_same ha.reverse rfl) S4 (k1.trans k4)
  · rename_i z hd
    obtain ⟨m', o'⟩ := o1.own S1 hd
    obtain ⟨o', _⟩ := o'
    cases o'
    exact .inr ⟨z, rfl, hw.1, kk _ H1 F1 ρ1 _ z0 hw.2 ⟨.str _, rfl⟩ S1.left k1⟩
  · exact hw.elim

/-! ### own lists joined, repeated -/
def ownL (r : RV) (ρ : Rho) : Option (List PyData) := match r.ot ρ with
  | some (.lst _ ds) => some ds
  | _ => none
def wCat (wa wb : WE) : WE := fun ρ Q => wa ρ fun r1 ρ1 => wb ρ1 fun r2 ρ2 => match ownL r1 ρ2, ownL r2 ρ2 with
  | some ds, some es => ds.length + es.length ≤ sizeLine ∧ ∀ p, Q (.tm (.lst p (ds ++ es))) ρ2
  | _, _ => False
def repD (k : Nat) (ds : List PyData) : List PyData := (List.replicate k ds).flatten
def wRep (wa wb : WE) : WE := fun ρ Q => wa ρ fun r1 ρ1 => wb ρ1 fun r2 ρ2 => match ownL r1 ρ2, r2.dat ρ2 with
  | some ds, some (.int k) => (-(2 ^ 63) ≤ k ∧ k < 2 ^ 63 ∧ ds.length * k.toNat ≤ sizeLine) ∧ ∀ p, Q (.tm (.lst p (repD k.toNat ds))) ρ2
  | _, _ => False
theorem ownL_ok {K : PySem.W.Frag} {F H : Hp} {σ : Sg} {ρ : Rho} {fr m : Fp} {r : RV} {v : V} {ds : List PyData} (o : RVok K F H σ r v m) (S : SI K F H σ ρ fr) (h : ownL r ρ = some ds) : ∃ p vs, v = .ref p ∧ H p = some (.lst vs) ∧ DpAll K F vs ds := by
  unfold ownL at h
  split at h
  · rename_i p ds' hd
    cases h
    obtain ⟨m', o'⟩ := o.own S hd
    obtain ⟨vs, rfl, h0, ha, _⟩ := o'
    exact ⟨_, vs, rfl, h0, ha⟩
  · cases h
theorem de_cat {a b : Expr} (ha : DE X a wa) (hb : DE X b wb) : DE X (.BinOp a .Add b pos) (wCat wa wb) := by
  obtain ⟨⟨ta, pa, ra⟩⟩ := ha
  obtain ⟨⟨tb, pb, rb⟩⟩ := hb
  refine ⟨⟨_, pe_op op_cat pa pb, fun σ H F ρ fr Q Q' S hw k => ?_⟩⟩
  refine ra σ H F ρ fr _ _ S hw fun v1 H1 F1 ρ1 r1 m1 hw o1 S1 k1 => ?_
  refine rb σ H1 F1 ρ1 _ _ _ S1 hw fun v2 H2 F2 ρ2 r2 m2 hw o2 S2 k2 => ?_
  split at hw
  · rename_i ds es h1 h2
    obtain ⟨p1, vs, rfl, e1, d1⟩ := ownL_ok (o1.kp k2) S2 h1
    obtain ⟨p2, ws, rfl, e2, d2⟩ := ownL_ok o2 S2 h2
    refine ⟨_, _, _, _, rfl, rfl, e1, e2, by rw [d1.length, d2.length]; exact hw.1, fun p hp => ?_⟩
    obtain ⟨S3, k3⟩ := S2.left.left.newL (o := .lst _) hp
    exact k _ _ _ ρ2 _ (one p) (hw.2 p) (own_lst upd_same (d1.append d2) rfl) S3 ((k1.trans k2.left).trans k3)
  · exact hw.elim
theorem dpa_rep {K : PySem.W.Frag} {F : Hp} {vs : List V} {ds : List PyData} (h : DpAll K F vs ds) : ∀ n : Nat, DpAll K F (List.replicate n vs).flatten (repD n ds)
  | 0 => .nil
  | n + 1 => by
    unfold repD
    rw [List.replicate_succ, List.replicate_succ, List.flatten_cons, List.flatten_cons]
    exact h.append (dpa_rep h n)
theorem de_rep {a b : Expr} (ha : DE X a wa) (hb : DE X b wb) : DE X (.BinOp a .Mult b pos) (wRep wa wb) := by
  obtain ⟨⟨ta, pa, ra⟩⟩ := ha
  obtain ⟨⟨tb, pb, rb⟩⟩ := hb
  refine ⟨⟨_, pe_op op_rep pa pb, fun σ H F ρ fr Q Q' S hw k => ?_⟩⟩
  refine ra σ H F ρ fr _ _ S hw fun v1 H1 F1 ρ1 r1 m1 hw o1 S1 k1 => ?_
  refine rb σ H1 F1 ρ1 _ _ _ S1 hw fun v2 H2 F2 ρ2 r2 m2 hw o2 S2 k2 => ?_
  split at hw
  · rename_i ds n h1 h2
    obtain ⟨p1, vs, rfl, e1, d1⟩ := ownL_ok (o1.kp k2) S2 h1
    have := o2.dp S2 h2
    cases this
    obtain ⟨⟨q1, q2, q3⟩, hw⟩ := hw
    refine ⟨_, n, _, rfl, rfl, e1, q1, q2, by rw [d1.length]; exact q3, fun p hp => ?_⟩
    obtain ⟨S3, k3⟩ := S2.left.left.newL (o := .lst _) hp
    exact k _ _ _ ρ2 _ (one p) (hw p) (own_lst upd_same (dpa_rep d1 _) rfl) S3 ((k1.trans k2.left).trans k3)
  · exact hw.elim
end

/-! ### sep.join(texts), tuple(x), list(x) -/
def strsOf : List PyData → Option (List Str)
  | [] => some []
  | .str i :: r => (strsOf r).map (i :: ·)
  | _ => none
theorem strsOf_dp {K : PySem.W.Frag} {H : Hp} : ∀ {ds : List PyData} {vs : List V} {ns : List Str}, DpAll K H vs ds → strsOf ds = some ns → vs = ns.map V.str
  | [], _, _, .nil, e => by cases e; rfl
  | d :: ds, _, _, .cons h t, e => by
    cases h with
    | str i =>
      unfold strsOf at e
      cases q : strsOf ds with
      | none => rw [q] at e; cases e
      | some ms =>
        rw [q] at e
        cases e
        rw [List.map_cons, strsOf_dp t q]
    | _ => cases e
def joinOk (a : Str) (ys : List Str) : Prop := (ys.map (·.length)).sum + ys.length * a.length ≤ 16777216
def wJoin (wo wa : WE) : WE := fun ρ Q => wo ρ fun r1 ρ1 => match r1.dat ρ1 with
  | some (.str a) => wa ρ1 fun r2 ρ2 => (match r2.dat ρ2 with
    | some (.list ds) => (match strsOf ds with | some ys => joinOk a ys ∧ Q (.fz (.str (Txt.join a ys))) ρ2 | none => False)
    | some (.tuple ds) => (match strsOf ds with | some ys => joinOk a ys ∧ Q (.fz (.str (Txt.join a ys))) ρ2 | none => False)
    | _ => False)
  | _ => False
def wTupOf (ws : WA) : WE := fun ρ Q => ws ρ fun rs ρ1 => match rs with
  | [r] => (match r.ot ρ1 with
    | some (.fz (.list ds)) => Q (.fz (.tuple ds)) ρ1
    | some (.lst _ ds) => Q (.fz (.tuple ds)) ρ1
    | some (.fz (.tuple ds)) => Q (.fz (.tuple ds)) ρ1
    | _ => False)
  | _ => False
def wLstOf (ws : WA) : WE := fun ρ Q => ws ρ fun rs ρ1 => match rs with
  | [r] => (match r.ot ρ1 with
    | some (.fz (.list ds)) => ∀ p, Q (.tm (.lst p ds)) ρ1
    | some (.lst _ ds) => ∀ p, Q (.tm (.lst p ds)) ρ1
    | some (.fz (.tuple ds)) => ∀ p, Q (.tm (.lst p ds)) ρ1
    | _ => False)
  | _ => False
section
variable {X : Cx} {o e : Expr} {es : List Expr} {wo wa : WE} {ws : WA} {pos apos p : Pos} {x : Str}
theorem de_join (ho : DE X o wo) (he : DE X e wa) (hs : starEach [e] X.env = [(false, eval e X.env)] := by rfl) (hbase : attributeBase o "join" X.env (eval o X.env) = eval o X.env := by rfl) (hline : (apos.endLine == pos.line) = true := by rfl) :
    DE X (.Call (.Attribute o "join" apos) [e] [] pos) (wJoin wo wa) := by
  obtain ⟨⟨ta, pa, ra⟩⟩ := ho
  obtain ⟨⟨tb, pb, rb⟩⟩ := he
  refine ⟨⟨_, pe_join pa pb hs hbase hline, fun σ H F ρ fr Q Q' S hw k => ?_⟩⟩
  refine ra σ H F ρ fr _ _ S hw fun v1 H1 F1 ρ1 r1 m1 hw o1 S1 k1 => ?_
  split at hw
  · rename_i a ha
    have := o1.dp S1 ha
    cases this
    refine ⟨⟨a, rfl⟩, ?_⟩
    refine rb σ H1 F1 ρ1 _ _ _ S1 hw fun v2 H2 F2 ρ2 r2 m2 hw o2 S2 k2 => ?_
    split at hw
    · rename_i ds hd
      have := o2.dp S2 hd
      cases this with
      | lst hs ha =>
        split at hw
        · rename_i ys hy
          have := strsOf_dp ha hy
          subst this
          exact ⟨a, _, ys, rfl, rfl, .inl hs, hw.1, k _ H2 F2 ρ2 _ z0 hw.2 ⟨.str _, rfl⟩ S2.left.left (k1.trans k2.left)⟩
        · exact hw.elim
    · rename_i ds hd
      have := o2.dp S2 hd
      cases this with
      | tup hs ha =>
        split at hw
        · rename_i ys hy
          have := strsOf_dp ha hy
          subst this
          exact ⟨a, _, ys, rfl, rfl, .inr hs, hw.1, k _ H2 F2 ρ2 _ z0 hw.2 ⟨.str _, rfl⟩ S2.left.left (k1.trans k2.left)⟩
        · exact hw.elim
    · exact hw.elim
  · exact hw.elim
theorem de_tupOf (hg : Gl X x) (hm : X.mg x = none) (hv : bootBuiltins x = some (.type "tuple")) (ha : DA X (e :: es) ws)
    (hn : x ≠ "__name__" := by decide) (hdb : (x == ("__debug__" : Str)) = false := by decide)
    (he : starEach (e :: es) X.env = (false, eval e X.env) :: starEach es X.env := by rfl) (hpl : (backTo pos (starEach es X.env)).any (·.1) = false := by rfl) : DE X (.Call (.Name x p) (e :: es) [] pos) (wTupOf ws) := by
  obtain ⟨⟨ta, pa, ra⟩⟩ := ha
  refine ⟨⟨_, pe_callTy call_tuple_of hg hm hv pa hn hdb he hpl, fun σ H F ρ fr Q Q' S hw k => ?_⟩⟩
  refine ra σ H F ρ fr _ _ S hw fun vs H1 F1 ρ1 rs m hw o S1 k1 => ?_
  split at hw
  · rename_i r
    cases o with
    | cons o os =>
      cases os
      split at hw
      · rename_i ds hd
        obtain ⟨m', o', _⟩ := o.own S1 hd
        cases o' with
        | lst hs ha =>
          refine ⟨_, _, rfl, .inl ⟨S1.ex.seq hs, fun l hl => ?_⟩⟩
          obtain ⟨S2, s2, k2⟩ := S1.left.newF (o := .tup _) hl
          exact k _ _ _ ρ1 _ z0 hw ⟨.tup (SqT.of upd_same) (dpam s2 _ _ ha), rfl⟩ S2 (k1.trans k2)
      · rename_i p0 ds hd
        obtain ⟨m', vs, rfl, h0, ha, _⟩ := o.own S1 hd
        refine ⟨_, _, rfl, .inl ⟨SqL.of h0, fun l hl => ?_⟩⟩
        obtain ⟨S2, s2, k2⟩ := S1.left.newF (o := .tup _) hl
        exact k _ _ _ ρ1 _ z0 hw ⟨.tup (SqT.of upd_same) (dpam s2 _ _ ha), rfl⟩ S2 (k1.trans k2)
      · rename_i ds hd
        obtain ⟨m', o', _⟩ := o.own S1 hd
        cases o' with
        | tup hs ha => exact ⟨_, _, rfl, .inr ⟨same_t S1.ex hs, k _ H1 F1 ρ1 _ z0 hw ⟨.tup hs ha, rfl⟩ S1.left k1⟩⟩
      · exact hw.elim
  · exact hw.elim
theorem de_lstOf (hg : Gl X x) (hm : X.mg x = none) (hv : bootBuiltins x = some (.type "list")) (ha : DA X (e :: es) ws)
    (hn : x ≠ "__name__" := by decide) (hdb : (x == ("__debug__" : Str)) = false := by decide)
    (he : starEach (e :: es) X.env = (false, eval e X.env) :: starEach es X.env := by rfl) (hpl : (backTo pos (starEach es X.env)).any (·.1) = false := by rfl) : DE X (.Call (.Name x p) (e :: es) [] pos) (wLstOf ws) := by
  obtain ⟨⟨ta, pa, ra⟩⟩ := ha
  refine ⟨⟨_, pe_callTy call_list_of hg hm hv pa hn hdb he hpl, fun σ H F ρ fr Q Q' S hw k => ?_⟩⟩
  refine ra σ H F ρ fr _ _ S hw fun vs H1 F1 ρ1 rs m hw o S1 k1 => ?_
  split at hw
  · rename_i r
    cases o with
    | cons o os =>
      cases os
      split at hw
      · rename_i ds hd
        obtain ⟨m', o', _⟩ := o.own S1 hd
        cases o' with
        | lst hs ha =>
          refine ⟨_, _, rfl, .inl (S1.ex.seq hs), fun l hl => ?_⟩
          obtain ⟨S2, k2⟩ := S1.left.newL (o := .lst _) hl
          exact k _ _ _ ρ1 _ (one l) (hw l) (own_lst upd_same ha rfl) S2 (k1.trans k2)
      · rename_i p0 ds hd
        obtain ⟨m', vs, rfl, h0, ha, _⟩ := o.own S1 hd
        refine ⟨_, _, rfl, .inl (SqL.of h0), fun l hl => ?_⟩
        obtain ⟨S2, k2⟩ := S1.left.newL (o := .lst _) hl
        exact k _ _ _ ρ1 _ (one l) (hw l) (own_lst upd_same ha rfl) S2 (k1.trans k2)
      · rename_i ds hd
        obtain ⟨m', o', _⟩ := o.own S1 hd
        cases o' with
        | tup hs ha =>
          refine ⟨_, _, rfl, .inr (same_t S1.ex hs), fun l hl => ?_⟩
          obtain ⟨S2, k2⟩ := S1.left.newL (o := .lst _) hl
          exact k _ _ _ ρ1 _ (one l) (hw l) (own_lst upd_same ha rfl) S2 (k1.trans k2)
      · exact hw.elim
  · exact hw.elim
end

/-! ### isinstance(x, T), T a built-in type -/
def tyOf : PyData → Option String
  | .none => some "NoneType"
  | .bool _ => some "bool"
  | .int _ => some "int"
  | .str _ => some "str"
  | .list _ => some "list"
  | .tuple _ => some "tuple"
  | .dict _ => none
theorem tyOf_dp {K : PySem.W.Frag} {H : Hp} {v : V} {d : PyData} {T : String} (h : Dp K H v d) (e : tyOf d = some T) : TyX K H v (.type T) := by
  cases h with
  | non => cases e; exact .base .non
  | bl b => cases e; exact .base (.bl b)
  | int i => cases e; exact .base (.int i)
  | str x => cases e; exact .base (.str x)
  | lst hs _ =>
    cases e
    rcases hs with (h | ⟨o, h⟩) | ⟨o, its, n, h, hc, _⟩
    · exact .base (.lst h)
    · exact .base (.frz h)
    · exact .kList h hc
  | tup hs _ =>
    cases e
    rcases hs with (h | ⟨o, h⟩) | ⟨o, its, n, h, hc, _⟩
    · exact .base (.tup h)
    · exact .fTuple h
    · exact .kTuple h hc
def wIsi (T : String) (wa : WE) : WE := fun ρ Q => wa ρ fun r ρ1 => match r.dat ρ1 with
  | some d => (match tyOf d with
    | some S => (match kitB S T with | some b => Q (.fz (.bool b)) ρ1 | none => False)
    | none => False)
  | none => False
section
variable {X : Cx} {e : Expr} {wa : WE} {pos p p2 : Pos} {y : Str} {T : String}
theorem de_isi (hg : Gl X "isinstance") (hm : X.mg "isinstance" = none) (hgT : Gl X y) (hmT : X.mg y = none) (hT : bootBuiltins y = some (.type T)) (ha : DE X e wa)
    (hv : bootBuiltins "isinstance" = some (.builtin "isinstance") := by decide +kernel) (hny : y ≠ "__name__" := by decide) (hdy : (y == ("__debug__" : Str)) = false := by decide)
    (h1 : starEach [e, .Name y p2] X.env = (false, eval e X.env) :: starEach [.Name y p2] X.env := by rfl) (h2 : starEach [.Name y p2] X.env = (false, eval (.Name y p2) X.env) :: starEach [] X.env := by rfl)
    (hpl : (backTo pos (starEach [.Name y p2] X.env)).any (·.1) = false := by rfl) : DE X (.Call (.Name "isinstance" p) [e, .Name y p2] [] pos) (wIsi T wa) := by
  obtain ⟨⟨ta, pa, ra⟩⟩ := ha
  refine ⟨⟨_, pe_callB call_isi hg hm hv (pa_cons pa (pa_cons (pe_bltn (v := .ty T) hgT hmT hT rfl hny hdy) pa_nil h2) h1) (by decide) (by decide) h1 hpl, fun σ H F ρ fr Q Q' S hw k => ?_⟩⟩
  refine ra σ H F ρ fr _ _ S hw fun v1 H1 F1 ρ1 r1 m1 hw o1 S1 k1 => ?_
  split at hw
  · rename_i d hd
    split at hw
    · rename_i S' hS
      split at hw
      · rename_i b hb
        exact ⟨v1, .ty T, .type S', .type T, b, rfl, .ty T, tyOf_dp (o1.dp S1 hd) hS, kit_ty hb, k _ H1 F1 ρ1 _ z0 hw ⟨.bl b, rfl⟩ S1.left k1⟩
      · exact hw.elim
    · exact hw.elim
  · exact hw.elim
end
end DL

namespace DL
open PySem PySem.Spec PyProof.Rows L2

theorem fresh_F {F H : Hp} {p : Addr} (s : Same F H) (h : H p = none) : F p = none := s.free h
/-! ### a list, a tuple or a text walked -/
theorem pi_or {X : Cx} {tg e : Expr} {t u : TI} (h : PI X tg e t) (h' : PI X tg e u) : PI X tg e (fun σ H R => t σ H R ∨ u σ H R) := ⟨fun pins s σ H R I q => by
  rcases q with q | q
  · exact h.run pins s σ H R I q
  · exact h'.run pins s σ H R I q⟩
/-- an iterable's parts: what it yields -/
def tMulti (te : TE) (k : V → Hp → (It → Hp → Prop) → Prop) : TI := fun σ H R => te σ H fun x H1 => k x H1 R
def wIterA (wa : WE) : WI := fun ρ Q => wa ρ fun r ρ1 => frz r ρ1 fun d ρ2 => match d with
  | .list ds => Q ds ρ2
  | .tuple ds => Q ds ρ2
  | .str z => Q (signsD z) ρ2
  | _ => False
theorem pi_multi {X : Cx} {tg l : Expr} {tl : TE} (hl : PE X l tl) : PI X tg l (fun σ H R => tl σ H fun x H1 => (∃ a, x = .ref a ∧ (∃ xs, SqL X.K H1 a xs) ∧ R (Itl X.K a) H1) ∨ (∃ a, x = .ref a ∧ (∃ xs, SqT X.K H1 a xs) ∧ R (Itt X.K a) H1) ∨ (∃ z, x = .str z ∧ R (Its z) H1)) := by
  refine ⟨fun pins s σ H R I h => ?_⟩
  refine thn (hl.run pins s σ H _ I h) fun v s1 ⟨x, H1, I1, r1, q1⟩ => ?_
  rcases q1 with ⟨a, e, ⟨xs, hq⟩, q⟩ | ⟨a, e, ⟨xs, hq⟩, q⟩ | ⟨z, e, q⟩
  · subst e
    cases r1
    obtain ⟨its, rv, p, hz⟩ := I1.list hq
    refine wpAny_pyIter_list p.isList ?_
    refine ⟨s1.heap.objs.size, [s1.heap.objs.size], _, _, H1, rfl, I1.kept (t' := s1.toks) fun b o e => Heap.get?_push_of_some _ e, turn_list a _, ⟨_, Heap.get?_push_size _ rfl, rfl, rfl⟩, fun b hb => ?_, q⟩
    have e : b = s1.heap.objs.size := by simpa using hb
    subst e
    exact I1.fpOk (Nat.le_refl _) (I1.hok.fresh (Nat.le_refl _))
  · subst e
    cases r1
    obtain ⟨its, rv, p, hz⟩ := I1.tuple hq
    refine wpAny_pyIter_tuple (show s1.heap.IsTuple a its.toArray from p) ?_
    refine ⟨s1.heap.objs.size, [s1.heap.objs.size], _, _, H1, rfl, I1.kept (t' := s1.toks) fun b o e => Heap.get?_push_of_some _ e, turn_tuple a _, ⟨_, Heap.get?_push_size _ rfl, rfl, rfl⟩, fun b hb => ?_, q⟩
    have e : b = s1.heap.objs.size := by simpa using hb
    subst e
    exact I1.fpOk (Nat.le_refl _) (I1.hok.fresh (Nat.le_refl _))
  · subst e
    obtain ⟨t, rfl⟩ := r1
    cases ha : z.cps.all (· < 128)
    · exact wpAny_pyIter_wide ha (pi_one (tk := s1.toks) I1 _ (turn_str _ z t "str_iterator" (.inr rfl)) ⟨_, Heap.get?_push_size _ rfl, rfl, rfl⟩ q)
    · exact wpAny_pyIter_ascii ha (pi_one (tk := s1.toks) I1 _ (turn_str _ z t "str_ascii_iterator" (.inl rfl)) ⟨_, Heap.get?_push_size _ rfl, rfl, rfl⟩ q)
theorem di_any {X : Cx} {tg a : Expr} {wa : WE} (ha : DE X a wa) : DI X tg a (wIterA wa) := by
  obtain ⟨⟨t, p, r⟩⟩ := ha
  refine ⟨⟨_, pi_multi p, fun σ H F ρ fr Q R S h k => ?_⟩⟩
  refine r σ H F ρ fr _ _ S h fun v H1 F1 ρ1 r1 m a b c k1 => ?_
  obtain ⟨y, ρ2, F2, a, dp, s, S2⟩ := frz_ok c b (fun a => by unfold padd; omega) a
  have S2' : SI X.K F2 H1 σ ρ2 fr := S2.less fun a => by unfold padd; omega
  split at a
  · cases dp with
    | lst hs ha => exact .inl ⟨_, rfl, ⟨_, S2'.ex.seq hs⟩, k _ H1 F2 ρ2 _ a S2' (k1.trans (Kp.ofF s)) (j_list hs ha)⟩
  · cases dp with
    | tup hs ha => exact .inr (.inl ⟨_, rfl, ⟨_, same_t S2'.ex hs⟩, k _ H1 F2 ρ2 _ a S2' (k1.trans (Kp.ofF s)) (j_tup hs ha)⟩)
  · cases dp
    exact .inr (.inr ⟨_, rfl, k _ H1 F2 ρ2 _ a S2' (k1.trans (Kp.ofF s)) j_str⟩)
  · exact a.elim
/-! ### enumerate(a list) -/
def enumD (i : Nat) : List PyData → List PyData
  | [] => []
  | d :: ds => .tuple [.int i, d] :: enumD (i + 1) ds
theorem enumD_len : ∀ (i : Nat) (ds : List PyData), (enumD i ds).length = ds.length
  | _, [] => rfl
  | i, d :: ds => by
    show (enumD (i + 1) ds).length + 1 = ds.length + 1
    rw [enumD_len]
theorem enumD_get : ∀ (ds : List PyData) (i k : Nat), (enumD i ds)[k]? = (ds[k]?).map fun d => .tuple [.int ((i + k : Nat) : Int), d]
  | [], _, _ => by simp [enumD]
  | d :: ds, i, 0 => by simp [enumD]
  | d :: ds, i, k + 1 => by
    show (enumD (i + 1) ds)[k]? = _
    rw [enumD_get ds (i + 1) k]
    have : i + 1 + k = i + (k + 1) := by omega
    rw [this]
    simp
def wEnumerate (ws : WA) : WI := fun ρ Q => ws ρ fun rs ρ1 => frzs rs ρ1 fun ds ρ2 => match ds with
  | [.list es] => Q (enumD 0 es) ρ2
  | _ => False
theorem di_enumerate {X : Cx} {e : Expr} {ws : WA} {p pos tpos : Pos} {elts : List Expr} {kk : Nat} (hg : Gl X "enumerate") (hm : X.mg "enumerate" = none) (ha : DA X [e] ws) (hs : starEach [e] X.env = [(false, eval e X.env)] := by rfl) :
    DI X (.Tuple elts kk tpos) (.Call (.Name "enumerate" p) [e] [] pos) (wEnumerate ws) := by
  obtain ⟨⟨t, p, r⟩⟩ := ha
  refine ⟨⟨_, pi_enum hg hm p hs, fun σ H F ρ fr Q R S h k => ?_⟩⟩
  refine r σ H F ρ fr _ _ S h fun vs H1 F1 ρ1 rs m hw o S1 k1 => ?_
  obtain ⟨ds, ρ2, F2, hw, dp, s, S2⟩ := frzs_ok (vs := vs) S1 o (fun a => by unfold padd; omega) hw
  have S2' : SI X.K F2 H1 σ ρ2 fr := S2.less fun a => by unfold padd; omega
  split at hw
  · rename_i es
    cases dp with
    | cons d1 d2 =>
      cases d2
      cases d1 with
      | @lst a xs _ hs ha =>
        refine ⟨a, xs, rfl, S2'.ex.seq hs, k _ H1 F2 ρ2 _ hw S2' (k1.trans (Kp.ofF s)) ?_⟩
        intro i F' H' s1 s2
        have h' : SqL X.K H' a xs := (s1.trans s2).seq hs
        refine ⟨fun hl => ⟨xs, h', by rw [enumD_len] at hl; rw [ha.length]; exact hl⟩, fun d hd => ?_⟩
        rw [enumD_get] at hd
        cases e : es[i]? with
        | none => rw [e] at hd; cases hd
        | some d0 =>
          rw [e] at hd
          cases hd
          obtain ⟨v, hv, dv⟩ := ha.get e
          refine ⟨⟨xs, v, h', hv⟩, fun x H'' y => .inr ?_⟩
          obtain ⟨T, x1, rfl, nT, rfl, f1⟩ := y
          have e1 : x1 = v := Option.some.inj ((f1 _ h').symm.trans hv)
          subst e1
          refine ⟨T, _, nT, rfl, .tup (SqT.of upd_same) (.cons ?_ (.cons ?_ .nil))⟩
          · rw [Nat.zero_add]
            exact .int _
          · exact dpm (fun b u q => by rw [upd_ne (ne_of_none q (fresh_F s2 nT))]; exact q) _ _ (dpm s1 _ _ dv)
  · exact hw.elim
end DL

namespace DL
open PySem PySem.Spec PyProof.Rows L2

/-! ### all(a list of truths), text.split(sep), a way that is never gone, -n -/
def boolsOf : List PyData → Option (List Bool)
  | [] => some []
  | .bool i :: r => (boolsOf r).map (i :: ·)
  | _ => none
theorem boolsOf_dp {K : PySem.W.Frag} {H : Hp} : ∀ {ds : List PyData} {vs : List V} {ns : List Bool}, DpAll K H vs ds → boolsOf ds = some ns → vs = ns.map V.bl
  | [], _, _, .nil, e => by cases e; rfl
  | d :: ds, _, _, .cons h t, e => by
    cases h with
    | bl i =>
      unfold boolsOf at e
      cases q : boolsOf ds with
      | none => rw [q] at e; cases e
      | some ms =>
        rw [q] at e
        cases e
        rw [List.map_cons, boolsOf_dp t q]
    | _ => cases e
def gAll : GN
  | [.list ds], G => (match boolsOf ds with | some ns => G (.bool (ns.all id)) | none => False)
  | _, _ => False
theorem o_all {K : PySem.W.Frag} : OpN K (rAll K) gAll := by
  intro xs ds H G Q hx hg k
  unfold gAll at hg
  split at hg
  · cases hx with
    | cons h t =>
      cases t
      cases h with
      | lst hs ha =>
        split at hg
        · rename_i ns e
          have := boolsOf_dp ha e
          subst this
          exact ⟨_, ns, rfl, hs, k _ _ (.bl _) hg⟩
        · exact hg.elim
  · exact hg.elim
def wM_split (wo : WE) (ws : WA) : WE := fun ρ Q => wo ρ fun r1 ρ1 => match r1.dat ρ1 with
  | some (.str a) => ws ρ1 fun rs ρ2 => dats rs ρ2 fun ds => (match ds with
    | [.str b] => ((b.length == 0) = false ∧ a.length + 2 ≤ sizeLine) ∧ ∀ p, Q (.tm (.lst p ((Txt.split a b).map .str))) ρ2
    | _ => False)
  | _ => False
theorem dpa_strs {K : PySem.W.Frag} {H : Hp} : ∀ ys : List Str, DpAll K H (ys.map V.str) (ys.map .str)
  | [] => .nil
  | y :: ys => .cons (.str y) (dpa_strs ys)
section
variable {X : Cx} {o e : Expr} {wo wa : WE} {ws : WA} {pos apos p : Pos}
theorem de_m_split (ho : DE X o wo) (he : DA X [e] ws) (hs : starEach [e] X.env = [(false, eval e X.env)] := by rfl) (hbase : attributeBase o "split" X.env (eval o X.env) = eval o X.env := by rfl) (hline : (apos.endLine == pos.line) = true := by rfl)
    (hfew : ((backTo pos (starEach (e :: []) X.env)).all (fun x => !x.1) && (backToKw pos (keywordEach [] X.env)).all (fun x => x.1.isSome) && decide ((e :: []).length + ([] : List Keyword).length + (if ([] : List Keyword).isEmpty then 0 else 1) < 30)) = true := by rfl)
    (hs2 : starEach (e :: []) X.env = (false, eval e X.env) :: starEach [] X.env := by rfl) (hplain : (backTo pos (starEach [] X.env)).any (·.1) = false := by rfl) :
    DE X (.Call (.Attribute o "split" apos) [e] [] pos) (wM_split wo ws) := by
  obtain ⟨⟨ta, pa, ra⟩⟩ := ho
  obtain ⟨⟨tb, pb, rb⟩⟩ := he
  refine ⟨⟨_, pe_bm PySem.F.plainAttrs_str PySem.F.slot_str_split PySem.F.type_str_split mt_split pa pb hbase hfew hline hs2 hplain, fun σ H F ρ fr Q Q' S hw k => ?_⟩⟩
  refine ra σ H F ρ fr _ _ S hw fun v1 H1 F1 ρ1 r1 m1 hw o1 S1 k1 => ?_
  split at hw
  · rename_i a ha
    have := o1.dp S1 ha
    cases this
    refine ⟨rfl, ?_⟩
    refine rb σ H1 F1 ρ1 _ _ _ S1 hw fun vs H2 F2 ρ2 rs m2 hw o2 S2 k2 => ?_
    obtain ⟨ds, dp, hw⟩ := dats_ok S2 o2 hw
    split at hw
    · rename_i b
      cases dp with
      | cons d1 d2 =>
        cases d2
        cases d1
        refine ⟨a, b, rfl, rfl, hw.1.1, hw.1.2, fun q hq => ?_⟩
        obtain ⟨S3, k3⟩ := S2.left.left.newL (o := .lst _) hq
        exact k _ _ _ ρ2 _ (one q) (hw.2 q) (own_lst upd_same (dpa_strs _) rfl) S3 ((k1.trans k2.left).trans k3)
    · exact hw.elim
  · exact hw.elim
def wNever : WS := fun _ _ => False
theorem ds_never {st : Stmt} : DS X st wNever := ⟨⟨_, ps_never, fun _ _ _ _ _ _ _ _ _ h => h.elim⟩⟩
def wNeg (wa : WE) : WE := fun ρ Q => wa ρ fun r ρ1 => match r.dat ρ1 with
  | some (.int i) => Q (.fz (.int (-i))) ρ1
  | _ => False
theorem de_neg (ha : DE X o wa) : DE X (.UnaryOp .USub o pos) (wNeg wa) := by
  obtain ⟨⟨ta, pa, ra⟩⟩ := ha
  refine ⟨⟨_, pe_un un_neg pa, fun σ H F ρ fr Q Q' S hw k => ?_⟩⟩
  refine ra σ H F ρ fr _ _ S hw fun v1 H1 F1 ρ1 r1 m1 hw o1 S1 k1 => ?_
  split at hw
  · rename_i i hi
    have := o1.dp S1 hi
    cases this
    exact ⟨i, rfl, k _ H1 F1 ρ1 _ z0 hw ⟨.int _, rfl⟩ S1.left k1⟩
  · exact hw.elim
end

/-! ### own lists of own lists -/
def wLcL (vs : List Nat) (wi : WI) (g : WG) (wt : WT) (we : WE) : WE := fun ρ Q => wi ρ fun xs ρ1 => still ρ1 vs ∧ ∃ I : Nat → List (List PyData) → Rho → Prop, I 0 [] (wipeR ρ1 vs) ∧
  (∀ i x ds ρ2, xs[i]? = some x → I i ds ρ2 → g x (wipeR ρ2 vs) fun ρ3 => wt ρ3 fun b ρ4 => bmt b (we ρ4 fun r ρ5 => match r with
    | .tm (.lst _ y) => ds.length < sizeLine ∧ I (i + 1) (ds ++ [y]) ρ5
    | _ => False) (I (i + 1) ds ρ4)) ∧
  ∀ ds ρ2, I xs.length ds ρ2 → ∀ p, Q (.tm (.lls p ds)) (restR ρ1 (wipeR ρ2 vs) vs)
section
variable {wi : WI} {g : WG} {wt : WT} {we : WE}
/-- a list of lists, its objects -/
structure LLs (K : PySem.W.Frag) (F H : Hp) (D : Addr) (acc : List V) (dss : List (List PyData)) (m : Fp) : Prop where
  ex : ∃ ps : List Addr, acc = ps.map V.ref ∧ ps.length = dss.length ∧ (∀ (i : Nat) q ds, ps[i]? = some q → dss[i]? = some ds → ∃ vs, H q = some (.lst vs) ∧ DpAll K F vs ds) ∧ (D :: ps).Nodup ∧ m = fun a => (D :: ps).count a
theorem lcL_run {K : PySem.W.Frag} {vs : List Nat} {ti : TI} {tg : TG} {tt : TT} {te : TE} (nd : vs.Nodup)
    (ri : ∀ (σ : Sg) (H F : Hp) (ρ : Rho) (fr : Fp) (Q : List PyData → Rho → Prop) (R : It → Hp → Prop), SI K F H σ ρ fr → wi ρ Q → (∀ xs H' F' ρ' J, Q xs ρ' → SI K F' H' σ ρ' fr → Kp F H fr F' H' → JOk K F' J xs → R J H') → ti σ H R)
    (rg : RGW K vs tg g) (rt : RT K tt wt) (re : RE K te we) : RE K (tLc ti tg tt te vs) (wLcL vs wi g wt we) := by
  intro σ H F ρ fr Q Q' S hw k
  refine ri σ H F ρ fr _ _ S hw fun xs H1 F1 ρ1 J a S1 k1 hJ => ?_
  obtain ⟨hst, I, i0, it, ie⟩ := a
  intro D hD
  obtain ⟨S2, k2⟩ := S1.newL (o := .lst []) hD
  have frD : ∀ {F H F' H' : Hp} {m : Fp}, m D = 1 → Kp F H (padd fr m) F' H' → H' D = H D := fun e k => k.keep D (by unfold padd; omega)
  refine ⟨fun i m H' => m = xs.length - i ∧ i ≤ xs.length ∧ ∃ ρ' F' acc ds mD, I i ds ρ' ∧ SI K F' H' (L2.wipe σ vs) (wipeR ρ' vs) (padd fr mD) ∧ Kp F1 H1 fr F' H' ∧ H' D = some (.lst acc) ∧ LLs K F' H' D acc ds mD, ⟨xs.length, by simp, Nat.zero_le _, wipeR ρ1 vs, F1, [], [], one D, i0, ?_, k2, upd_same, ⟨[], rfl, rfl, fun i q ds e => by simp at e, by simp, ?_⟩⟩, ?_⟩
  · have := (S2.wipe vs).wipe vs
    rw [wipe_wipe vs vs σ fun i hi => hi] at this
    exact this
  · funext a
    unfold one
    by_cases h : a = D
    · subst h; simp
    · rw [if_neg h, List.count_cons, List.count_nil, if_neg (by simpa using fun e => h e.symm)]
  · rintro i m H2 ⟨rfl, hi, ρ2, F2, acc, ds, mD, i2, S3, k3, hDl, ll⟩
    obtain ⟨jstop, jgo⟩ := hJ i F2 H2 k3.exF S3.ex
    have mDD : mD D = 1 := by
      obtain ⟨ps, _, _, _, n, e⟩ := ll.ex
      rw [e]
      show List.count D (D :: ps) = 1
      rw [List.count_cons_self, List.count_eq_zero.mpr (List.nodup_cons.mp n).1]
    by_cases hlt : i < xs.length
    · obtain ⟨x, hx⟩ : ∃ x, xs[i]? = some x := ⟨xs[i], by simp [hlt]⟩
      obtain ⟨go, yl⟩ := jgo x hx
      refine .inr ⟨go, fun H' => ∃ ρ' F' acc ds mD, I (i + 1) ds ρ' ∧ SI K F' H' (L2.wipe σ vs) (wipeR ρ' vs) (padd fr mD) ∧ Kp F1 H1 fr F' H' ∧ H' D = some (.lst acc) ∧ LLs K F' H' D acc ds mD, fun H' n => ⟨xs.length - (i + 1), by omega, rfl, hlt, n⟩, fun v H3 y => ?_⟩
      have llk : ∀ {F H F' H' : Hp}, LLs K F H D acc ds mD → Kp F H (padd fr mD) F' H' → LLs K F' H' D acc ds mD := by
        intro F H F' H' l k
        obtain ⟨ps, e1, e2, e3, e4, e5⟩ := l.ex
        refine ⟨ps, e1, e2, fun i q ds a b => ?_, e4, e5⟩
        obtain ⟨vs, h1, h2⟩ := e3 i q ds a b
        refine ⟨vs, (k.keep q ?_).trans h1, dpam k.exF _ _ h2⟩
        have hm : q ∈ D :: ps := List.mem_cons_of_mem _ (List.mem_of_getElem? a)
        have := List.count_pos_iff.mpr hm
        unfold padd
        rw [e5]
        show fr q + List.count q (D :: ps) ≠ 0
        omega
      have main : ∀ F3, SI K F3 H3 (L2.wipe σ vs) (wipeR ρ2 vs) (padd fr mD) → Kp F1 H1 fr F3 H3 → H3 D = some (.lst acc) → LLs K F3 H3 D acc ds mD → Dp K F3 v x → tg v (L2.wipe σ vs) H3 fun σ2 H2 => L2.wipe σ2 vs = L2.wipe σ vs ∧ tt σ2 H2 fun b H3 =>
          if b = true then te σ2 H3 fun y H4 => ∃ acc, H4 D = some (.lst acc) ∧ acc.length < sizeLine ∧ (∃ ρ' F' acc' ds mD, I (i + 1) ds ρ' ∧ SI K F' (upd H4 D (.lst (acc ++ [y]))) (L2.wipe σ vs) (wipeR ρ' vs) (padd fr mD) ∧ Kp F1 H1 fr F' (upd H4 D (.lst (acc ++ [y]))) ∧ (upd H4 D (.lst (acc ++ [y]))) D = some (.lst acc') ∧ LLs K F' (upd H4 D (.lst (acc ++ [y]))) D acc' ds mD)
          else (∃ ρ' F' acc ds mD, I (i + 1) ds ρ' ∧ SI K F' H3 (L2.wipe σ vs) (wipeR ρ' vs) (padd fr mD) ∧ Kp F1 H1 fr F' H3 ∧ H3 D = some (.lst acc) ∧ LLs K F' H3 D acc ds mD) := by
        intro F3 S4 k4 hD3 l3 dp
        refine rg (L2.wipe σ vs) H3 F3 _ _ x v _ _ S4 dp (it i x ds ρ2 hx i2) fun σ5 H5 F5 ρ5 a w5 S5 k5 => ?_
        rw [wipe_wipe vs vs σ fun i hi => hi] at w5
        refine ⟨w5, ?_⟩
        refine rt σ5 H5 F5 ρ5 _ _ _ S5 a fun b H6 F6 ρ6 a S6 k6 => ?_
        cases b with
        | true =>
          rw [if_pos rfl]
          refine re σ5 H6 F6 ρ6 _ _ _ S6 a fun yv H7 F7 ρ7 r7 m7 a o7 S7 k7 => ?_
          have l7 : LLs K F7 H7 D acc ds mD := llk (llk (llk l3 k5) k6) k7
          have hD7 : H7 D = some (.lst acc) := (frD mDD k7).trans ((frD mDD k6).trans ((frD mDD k5).trans hD3))
          have kk : Kp F1 H1 fr F7 H7 := ((k4.trans k5.left).trans k6.left).trans k7.left
          split at a
          · rename_i q y
            obtain ⟨vs', rfl, hq, dq, rfl⟩ := o7
            obtain ⟨ps, e1, e2, e3, e4, e5⟩ := l7.ex
            obtain ⟨m9, w9, q9⟩ := (S7.wipe vs).own
            rw [w5] at w9
            have oneq : one q q = 1 := by unfold one; rw [if_pos rfl]
            have hnq : q ∉ D :: ps := fun hm => by
              have := List.count_pos_iff.mpr hm
              have q1 := (q9 q).1
              unfold padd at q1
              have e6 : mD q = List.count q (D :: ps) := by rw [e5]
              omega
            have hqD : q ≠ D := fun e => hnq (by simp [e])
            have hz : m9 D = 0 ∧ fr D = 0 := by
              have := (q9 D).1
              unfold padd at this
              omega
            have hFD : F7 D = none := ((q9 D).2 (by unfold padd; omega)).1
            have nm : (fun a => List.count a (D :: (ps ++ [q]))) = padd mD (one q) := by
              funext a
              unfold padd
              rw [e5]
              show List.count a (D :: (ps ++ [q])) = List.count a (D :: ps) + one q a
              rw [show D :: (ps ++ [q]) = (D :: ps) ++ [q] from rfl, List.count_append]
              congr 1
              unfold one
              by_cases h : a = q
              · subst h; simp
              · rw [if_neg h, List.count_cons, List.count_nil, if_neg (by simpa using fun e => h e.symm)]
            refine ⟨acc, hD7, by rw [e1, List.length_map, e2]; exact a.1, ρ7, F7, acc ++ [.ref q], ds ++ [y], padd mD (one q), a.2, ⟨fun b u e => ?_, m9, w9.kp (Same.refl _) fun c z => upd_ne fun e => by subst e; omega, fun c => ?_⟩, ⟨kk.exF, fun c z => ?_, fun c z => ?_⟩, upd_same, ⟨ps ++ [q], by rw [e1, List.map_append]; rfl, by simp [e2], fun j r es a b => ?_, ?_, nm.symm⟩⟩
            · rw [upd_ne fun e' => by subst e'; rw [hFD] at e; cases e]
              exact S7.ex b u e
            · have e7 : padd fr (padd mD (one q)) c = padd (padd fr mD) (one q) c := by unfold padd; omega
              rw [e7]
              refine ⟨(q9 c).1, fun z => ⟨((q9 c).2 z).1, ?_⟩⟩
              by_cases hc : c = D
              · subst hc; rw [upd_same]; simp
              · rw [upd_ne hc]; exact ((q9 c).2 z).2
            · rw [upd_ne fun e => by subst e; omega]
              exact kk.keep c z
            · by_cases hc : c = D
              · subst hc; rw [upd_same]; simp
              · rw [upd_ne hc]; exact kk.grow c z
            · have hr : r ≠ D := by
                rcases List.mem_append.mp (List.mem_of_getElem? a) with h | h
                · exact fun e => (List.nodup_cons.mp e4).1 (e ▸ h)
                · rw [List.mem_singleton.mp h]; exact hqD
              rw [upd_ne hr]
              by_cases hj : j < ps.length
              · rw [List.getElem?_append_left hj] at a
                rw [List.getElem?_append_left (by omega)] at b
                exact e3 j r es a b
              · have hj2 : j = ps.length := by
                  have := (List.getElem?_eq_some_iff.mp a).1
                  simp at this
                  omega
                subst hj2
                rw [List.getElem?_append_right (Nat.le_refl _)] at a
                rw [e2, List.getElem?_append_right (Nat.le_refl _)] at b
                simp at a b
                subst a b
                exact ⟨vs', hq, dq⟩
            · rw [show D :: (ps ++ [q]) = (D :: ps) ++ [q] from rfl]
              exact List.nodup_append.mpr ⟨e4, by simp, fun a ha b hb e => by rw [List.mem_singleton.mp hb] at e; subst e; exact hnq ha⟩
          · exact a.elim
        | false =>
          rw [if_neg Bool.false_ne_true]
          refine ⟨ρ6, F6, acc, ds, mD, a, ?_, (k4.trans k5.left).trans k6.left, (frD mDD k6).trans ((frD mDD k5).trans hD3), llk (llk l3 k5) k6⟩
          have := S6.wipe vs
          rw [w5] at this
          exact this
      rcases yl v H3 y with ⟨rfl, dp⟩ | ⟨p, u, hp, rfl, dp⟩
      · exact main F2 S3 k3 hDl ll dp
      · obtain ⟨S4, s4, k4⟩ := S3.newF (o := u) hp
        have hne : D ≠ p := fun e => by subst e; rw [hDl] at hp; cases hp
        exact main _ S4 (k3.trans k4.left) (by rw [upd_ne hne]; exact hDl) (llk ll k4) dp
    · have e' : i = xs.length := by omega
      subst e'
      refine .inl ⟨jstop (Nat.le_refl _), ?_⟩
      obtain ⟨m9, w9, q9⟩ := S3.own
      obtain ⟨ρ', w10, rfl⟩ := OwnS.rest (ρ0 := ρ1) w9 (fun i hi => by
        rcases still_ok S1 hst i hi with e | ⟨t, u, e1, e2, e3⟩
        · exact .inl e
        · exact .inr ⟨t, u, e1, e2, OwnT.z e3 k3.exF⟩) nd
      obtain ⟨ps, rfl, e2, e3, e4, e5⟩ := ll.ex
      refine k _ H2 F2 _ _ mD (ie ds ρ2 i2 D) ?_ ⟨S3.ex, m9, w10, q9⟩ (k1.trans k3)
      exact ⟨ps, rfl, hDl, e2, e3, e4, e5⟩
end
section
variable {X : Cx} {elt tg iter : Expr} {ifs : List Expr} {scope : Scope} {own : List (Str × Nat)} {pos : Pos} {wi : WI} {g : WG} {wt : WT} {we : WE}
theorem ds_setLcL {vs : List Nat} {i : Nat} {y : Str} {py spos : Pos} (hvs : own.map (·.2) = vs) (nd : vs.Nodup) (hc : X.calm = true) (hN : X.N.Nodup) (hy : X.N[i]? = some y) (hyl : X.env.scope.names.lookup y = some .local)
    (hsw : swapsWith (.ListComp elt [⟨tg, iter, ifs, 0⟩] scope pos) (some (.Name y py)) spos.line X.env = pure true) (hi : DI X tg iter wi) (ok : BlkOk X.N X.env.scope scope own)
    (hg : ∀ (s : Shared) (H : Hp) (C : Addr) (cl : List (Str × Addr)) (fp : List Addr), DGW (X.blk s H scope (compEnvC scope cl C X.env) fp) vs tg g) (ht : ∀ (s : Shared) (H : Hp) (C : Addr) (cl : List (Str × Addr)) (fp : List Addr), DTs (X.blk s H scope (compEnvC scope cl C X.env) fp) ifs wt)
    (he : ∀ (s : Shared) (H : Hp) (C : Addr) (cl : List (Str × Addr)) (fp : List Addr), DE (X.blk s H scope (compEnvC scope cl C X.env) fp) elt we) (hs : ∀ x, foldedSetIterable iter X.env x = pure x := by intro _; rfl) :
    DS X (.Assign [.Name y py] (.ListComp elt [⟨tg, iter, ifs, 0⟩] scope pos) spos) (wSet (wLcL vs wi g wt we) i) := by
  subst hvs
  obtain ⟨⟨ti, pi, ri⟩⟩ := hi
  obtain ⟨a, b, c, pa, pb, pc, ra, rb, rc⟩ := lc_parts hg ht he
  refine ⟨⟨_, ps_setLc hc hN hy hyl hsw pi ok pa pb pc hs, fun σ H F ρ fr d e S E h => ?_⟩⟩
  refine lcL_run nd ri ra rb rc σ H F ρ fr _ _ S h fun v H' F' ρ' r m a b c k => ?_
  obtain ⟨ρ2, F2, q, S2, s⟩ := toSlot_ok c b a
  exact E.nx _ H' F2 ρ2 q S2 (k.trans (Kp.ofF s))
end
end DL

namespace DL
open PySem PySem.Spec PyProof.Rows L2

def isLL (ρ : Rho) (i : Nat) (k : Prop) : Prop := match look ρ i with
  | some (.lls _ _) => k
  | _ => False
theorem isLL_iff {ρ : Rho} {i : Nat} {k : Prop} (h : isLL ρ i k) : (∃ q ds, look ρ i = some (.lls q ds)) ∧ k := by
  unfold isLL at h
  split at h
  · exact ⟨⟨_, _, by assumption⟩, h⟩
  · exact h.elim
def wIxx (i : Nat) (wa wb : WE) : WE := fun ρ Q => isLL ρ i <| wa ρ fun ra ρ1 => match look ρ1 i, ra.dat ρ1 with
  | some (.lls p dss), some (.int k) => (match atI dss k with
    | some ds => wb (ρ1.set i none) fun rb ρ2 => (match rb.dat ρ2 with
      | some (.int j) => (match atI ds j with
        | some d => Q (.fz d) (ρ2.set i (some (.lls p dss)))
        | none => False)
      | _ => False)
    | none => False)
  | _, _ => False
def wSubb (i : Nat) (w1 w2 wa : WE) : WS := fun d ρ => wa ρ fun r ρ1 => frz r ρ1 fun x ρ2 => isLL ρ2 i <| w1 ρ2 fun ra ρ3 => match look ρ3 i, ra.dat ρ3 with
  | some (.lls p dss), some (.int k) => (match ixN dss.length k with
    | some kk => (match dss[kk]? with
      | some ds => w2 (ρ3.set i none) fun rb ρ4 => (match rb.dat ρ4 with
        | some (.int j) => (match ixN ds.length j with
          | some jj => d.nx (ρ4.set i (some (.lls p (dss.set kk (ds.set jj x)))))
          | none => False)
        | _ => False)
      | none => False)
    | none => False)
  | _, _ => False
section
variable {K : PySem.W.Frag} {F H F' H' : Hp} {σ : Sg} {ρ : Rho} {fr : Fp} {i : Nat} {t : OT}
/-- a slot taken out, its things framed -/
theorem SI.out (S : SI K F H σ ρ fr) (h : look ρ i = some t) : ∃ v m1, σ[i]? = some (some v) ∧ OwnT K F H t v m1 ∧ SI K F H σ (ρ.set i none) (padd fr m1) := by
  obtain ⟨m, ow, q⟩ := S.own
  obtain ⟨m1, m2, em, h1, _, _, h2, _⟩ := ow.at (look_lt h)
  obtain ⟨v, e1, o1⟩ := h1 t h
  refine ⟨v, m1, e1, o1, S.ex, m2, h2, fun a => ?_⟩
  have := q a
  rw [em] at this
  unfold padd at this ⊢
  exact ⟨by omega, fun z => this.2 (by omega)⟩
/-- .. and back -/
theorem SI.inn {m1 : Fp} {v : V} (S : SI K F H σ ρ (padd fr m1)) (o : OwnT K F H t v m1) (hv : σ[i]? = some (some v)) : SI K F H σ (ρ.set i (some t)) fr := by
  have := S.set o i
  rw [set_self hv] at this
  exact this
theorem lls_at {p : Addr} {dss : List (List PyData)} {v : V} {m : Fp} {k : Int} {ds : List PyData} (o : OwnT K F H (.lls p dss) v m) (e : atI dss k = some ds) :
    ∃ vs q ws, v = .ref p ∧ H p = some (.lst vs) ∧ atI vs k = some (.ref q) ∧ H q = some (.lst ws) ∧ DpAll K F ws ds ∧ m q ≠ 0 := by
  obtain ⟨ps, rfl, hp, hl, hi, nd, rfl⟩ := o
  unfold atI at e
  cases q : ixN dss.length k with
  | none => rw [q] at e; cases e
  | some j =>
    rw [q] at e
    have e : dss[j]? = some ds := e
    have hj : j < ps.length := by rw [hl]; exact (List.getElem?_eq_some_iff.mp e).1
    obtain ⟨ws, h1, h2⟩ := hi j ps[j] ds (List.getElem?_eq_getElem hj) e
    refine ⟨ps.map V.ref, ps[j], ws, rfl, hp, ?_, h1, h2, ?_⟩
    · unfold atI
      rw [List.length_map, hl, q]
      show (ps.map V.ref)[j]? = _
      rw [List.getElem?_map, List.getElem?_eq_getElem hj]
      rfl
    · have := List.count_pos_iff.mpr (List.mem_cons_of_mem p (List.getElem_mem hj))
      show List.count ps[j] (p :: ps) ≠ 0
      omega
end
section
variable {X : Cx} {a b e : Expr} {wa wb we w1 w2 : WE} {pos pos2 p0 tpos : Pos} {x : Str} {i : Nat}
theorem de_ix2 (hN : X.N[i]? = some x) (hv : Vis X.env.scope x) (ha : DE X a wa) (hb : DE X b wb) (hs : PlainIx a := by exact fun _ _ => rfl) (hs2 : PlainIx b := by exact fun _ _ => rfl)
    (hd : (x == ("__debug__" : Str)) = false := by decide) (hcd : (x == ("__classdict__" : Str)) = false := by decide) : DE X (.Subscript (.Subscript (.Name x p0) a pos2) b pos) (wIxx i wa wb) := by
  obtain ⟨⟨ta, pa, ra⟩⟩ := ha
  obtain ⟨⟨tb, pb, rb⟩⟩ := hb
  refine ⟨⟨_, pe_ix ix_seq (pe_ix ix_seq (pe_var hN hv hd hcd) pa hs) pb hs2, fun σ H F ρ fr Q Q' S hw k => ?_⟩⟩
  obtain ⟨⟨q0, ds0, e0⟩, hw⟩ := isLL_iff hw
  obtain ⟨v0, _, ev, _⟩ := S.slot e0
  refine ⟨v0, ev, ?_⟩
  refine ra σ H F ρ fr _ _ S hw fun v1 H1 F1 ρ1 r1 m1 hw o1 S1 k1 => ?_
  split at hw
  · rename_i p dss kk e1 e2
    have := o1.dp S1 e2
    cases this
    split at hw
    · rename_i ds e3
      obtain ⟨v, m2, ev2, o2, S2⟩ := S1.left.out e1
      rw [ev] at ev2
      cases ev2
      obtain ⟨vs, q, ws, rfl, hp, hq, hq2, dws, mq⟩ := lls_at o2 e3
      refine .inl ⟨p, vs, kk, .ref q, rfl, rfl, SqL.of hp, hq, ?_⟩
      refine rb σ H1 F1 _ _ _ _ S2 hw fun v3 H3 F3 ρ3 r3 m3 hw o3 S3 k3 => ?_
      split at hw
      · rename_i j e4
        have := o3.dp S3 e4
        cases this
        split at hw
        · rename_i dd e5
          have hq3 : H3 q = some (.lst ws) := (k3.keep q (by unfold padd; omega)).trans hq2
          obtain ⟨u, e6, du⟩ := ix_get (dpam k3.exF _ _ dws) e5
          have o4 : OwnT X.K F3 H3 (.lls p dss) (.ref p) m2 := o2.kp k3.exF fun a z => k3.keep a (by unfold padd; omega)
          exact .inl ⟨q, ws, j, u, rfl, rfl, SqL.of hq3, e6, k u H3 F3 _ (.fz dd) z0 hw ⟨du, rfl⟩ (S3.left.inn o4 ev) (k1.trans k3.left)⟩
        · exact hw.elim
      · exact hw.elim
    · exact hw.elim
  · exact hw.elim
theorem ds_sub2 (hN : X.N[i]? = some x) (hv : Vis X.env.scope x) (ha : DE X a w1) (hb : DE X b w2) (he : DE X e we) (hs1 : PlainIx a := by exact fun _ _ => rfl)
    (hd : (x == ("__debug__" : Str)) = false := by decide) (hcd : (x == ("__classdict__" : Str)) = false := by decide)
    (h2 : ∀ v, assign (.Subscript (.Subscript (.Name x p0) a pos2) b tpos) X.env v = (do
      let ov ← holding [v] (eval (.Subscript (.Name x p0) a pos2) X.env)
      let iv ← holding [v, ov] (eval b X.env)
      standAt tpos
      holding [v, ov, iv] (setItem ov iv v)
      release [v, ov, iv] []) := by intro _; rfl)
    (hs : swapsWithSole [.Subscript (.Subscript (.Name x p0) a pos2) b tpos] e pos.line X.env = pure false := by rfl) (hw : swappedStores [.Subscript (.Subscript (.Name x p0) a pos2) b tpos] e X.env = pure none := by rfl)
    (h1 : (assignEach [.Subscript (.Subscript (.Name x p0) a pos2) b tpos] X.env).map (·.2) = [assign (.Subscript (.Subscript (.Name x p0) a pos2) b tpos) X.env] := by rfl) :
    DS X (.Assign [.Subscript (.Subscript (.Name x p0) a pos2) b tpos] e pos) (wSubb i w1 w2 we) := by
  obtain ⟨⟨ta, pa, ra⟩⟩ := ha
  obtain ⟨⟨tb, pb, rb⟩⟩ := hb
  obtain ⟨⟨te, pe, re⟩⟩ := he
  refine ⟨⟨_, ps_asg pe (pg_sub (pe_ix ix_seq (pe_var hN hv hd hcd) pa hs1) pb set_list h2) hs hw h1, fun σ H F ρ fr d e S E h => ?_⟩⟩
  refine re σ H F ρ fr _ _ S h fun v H1 F1 ρ1 r1 m hw oo cc k1 => ?_
  obtain ⟨y, ρ2, F2, hw, dp, s, S2⟩ := frz_ok cc oo (fun a => by unfold padd; omega) hw
  have S2' : SI X.K F2 H1 σ ρ2 fr := S2.less fun a => by unfold padd; omega
  obtain ⟨⟨q0, ds0, e0⟩, hw⟩ := isLL_iff hw
  obtain ⟨v0, _, ev, _⟩ := S2'.slot e0
  refine ⟨v0, ev, ?_⟩
  refine ra σ H1 F2 ρ2 fr _ _ S2' hw fun v1 H3 F3 ρ3 r3 m3 hw o3 S3 k3 => ?_
  split at hw
  · rename_i p dss kk e1 e2
    have := o3.dp S3 e2
    cases this
    split at hw
    · rename_i kn en
      split at hw
      · rename_i ds e3
        obtain ⟨vv, m2, ev2, o2, S4⟩ := S3.left.out e1
        rw [ev] at ev2
        cases ev2
        have e3' : atI dss kk = some ds := by unfold atI; rw [en]; exact e3
        obtain ⟨ps, rfl, hp, hl, hi, nd, hm⟩ := id o2
        have hj : kn < ps.length := by rw [hl]; exact (List.getElem?_eq_some_iff.mp e3).1
        obtain ⟨ws, hq2, dws⟩ := hi kn ps[kn] ds (List.getElem?_eq_getElem hj) e3
        have hq : atI (ps.map V.ref) kk = some (.ref ps[kn]) := by
          unfold atI
          rw [List.length_map, hl, en]
          show (ps.map V.ref)[kn]? = _
          rw [List.getElem?_map, List.getElem?_eq_getElem hj]
          rfl
        have mq : m2 ps[kn] ≠ 0 := by
          have := List.count_pos_iff.mpr (List.mem_cons_of_mem p (List.getElem_mem hj))
          rw [hm]
          show List.count ps[kn] (p :: ps) ≠ 0
          omega
        refine .inl ⟨p, _, kk, .ref ps[kn], rfl, rfl, SqL.of hp, hq, ?_⟩
        refine rb σ H3 F3 _ _ _ _ S4 hw fun v5 H5 F5 ρ5 r5 m5 hw o5 S5 k5 => ?_
        split at hw
        · rename_i j e4
          have := o5.dp S5 e4
          cases this
          split at hw
          · rename_i jj e5
            have kp5 : ∀ a, m2 a ≠ 0 → H5 a = H3 a := fun a z => k5.keep a (by unfold padd; omega)
            have hq3 : H5 ps[kn] = some (.lst ws) := (kp5 _ mq).trans hq2
            refine ⟨ps[kn], ws, j, jj, rfl, rfl, hq3, by rw [dws.length]; exact e5, ?_⟩
            -- the list written
            have hpn : p ∉ ps := (List.nodup_cons.mp nd).1
            have hne : p ≠ ps[kn] := fun e => hpn (e ▸ List.getElem_mem hj)
            have nps : ps.Nodup := (List.nodup_cons.mp nd).2
            have mp : m2 p ≠ 0 := by
              rw [hm]
              show List.count p (p :: ps) ≠ 0
              rw [List.count_cons_self]
              omega
            have o6 : OwnT X.K F5 (upd H5 ps[kn] (.lst (ws.set jj v))) (.lls p (dss.set kn (ds.set jj y))) (.ref p) m2 := by
              refine ⟨ps, rfl, by rw [upd_ne hne]; exact (kp5 p mp).trans hp, by rw [List.length_set]; exact hl, fun b r es hb hes => ?_, nd, hm⟩
              by_cases hbk : b = kn
              · subst hbk
                rw [List.getElem?_eq_getElem hj] at hb
                cases hb
                rw [List.getElem?_set_self (by rw [← hl]; exact hj)] at hes
                cases hes
                exact ⟨_, upd_same, (dpam k5.exF _ _ dws).set (dpm (k3.exF.trans k5.exF) _ _ dp) jj⟩
              · rw [List.getElem?_set_ne (Ne.symm hbk)] at hes
                obtain ⟨us, h1, h2⟩ := hi b r es hb hes
                have hr : r ≠ ps[kn] := fun e => hbk (by
                  obtain ⟨hb1, hb2⟩ := List.getElem?_eq_some_iff.mp hb
                  exact (List.getElem_inj nps).mp (hb2.trans e))
                have mr : m2 r ≠ 0 := by
                  have := List.count_pos_iff.mpr (List.mem_cons_of_mem p (List.mem_of_getElem? hb))
                  rw [hm]
                  show List.count r (p :: ps) ≠ 0
                  omega
                exact ⟨us, by rw [upd_ne hr]; exact (kp5 r mr).trans h1, dpam k5.exF _ _ h2⟩
            obtain ⟨m9, w9, q9⟩ := S5.left.own
            have zq : m9 ps[kn] = 0 ∧ fr ps[kn] = 0 := by
              have := (q9 ps[kn]).1
              unfold padd at this
              omega
            have hFq : F5 ps[kn] = none := ((q9 ps[kn]).2 (by unfold padd; omega)).1
            have S6 : SI X.K F5 (upd H5 ps[kn] (.lst (ws.set jj v))) σ ρ5 (padd fr m2) := by
              refine ⟨fun b u e => ?_, m9, w9.kp (Same.refl _) fun c z => upd_ne fun e => by subst e; omega, fun c => ⟨(q9 c).1, fun z => ⟨((q9 c).2 z).1, ?_⟩⟩⟩
              · rw [upd_ne fun e' => by subst e'; rw [hFq] at e; cases e]
                exact S5.ex b u e
              · by_cases hc : c = ps[kn]
                · subst hc; rw [upd_same]; simp
                · rw [upd_ne hc]; exact ((q9 c).2 z).2
            refine E.nx σ _ F5 _ hw (S6.inn o6 ev) ((((k1.trans (Kp.ofF s)).trans k3).trans k5.left).trans ⟨Same.refl _, fun c z => upd_ne fun e => by subst e; omega, fun c z => ?_⟩)
            by_cases hc : c = ps[kn]
            · subst hc; rw [upd_same]; simp
            · rw [upd_ne hc]; exact z
          · exact hw.elim
        · exact hw.elim
      · exact hw.elim
    · exact hw.elim
  · exact hw.elim
end
end DL

namespace DL
open PySem PySem.Spec PyProof.Rows L2
/-! ### x in l, x not in l: l a list or a tuple of data -/
def inSeq (f : Bool → Bool) (d : PyData) (ds : List PyData) (G : PyData → Prop) : Prop := SeqAt.shaped d = true ∧ SeqAt.shaped (.list ds) = true ∧ G (.bool (f (ds.any fun z => PyData.eqv z d)))
def gInF (f : Bool → Bool) : G2 := fun d e G => match e with
  | .list ds => inSeq f d ds G
  | .tuple ds => inSeq f d ds G
  | _ => False
def gIn : G2 := gInF fun b => b
def gNotIn : G2 := gInF fun b => !b
def rInF (f : Bool → Bool) (K : PySem.W.Frag) : R2 := fun x y H Q => ∃ d e, Dp K H x d ∧ Dp K H y e ∧ gInF f d e fun d' => ∃ k, d' = .bool k ∧ Q (.bl k) H
theorem o_inF {f : Bool → Bool} {K : PySem.W.Frag} : Op2 K (rInF f K) (gInF f) := by
  intro x y d e H G Q hx hy hg k
  refine ⟨d, e, hx, hy, ?_⟩
  unfold gInF at hg ⊢
  split at hg
  · exact ⟨hg.1, hg.2.1, _, rfl, k _ _ (.bl _) hg.2.2⟩
  · exact ⟨hg.1, hg.2.1, _, rfl, k _ _ (.bl _) hg.2.2⟩
  · exact hg.elim
section
variable {X : Cx}
theorem op_inA (hu : X.A.units + 65 < cLine) : OpR X (compareOp .In) (rInF (fun b => b) X.K) := by
  intro pins s σ H x y v u Q I rx ry h
  obtain ⟨d, e, hd, he, q⟩ := h
  obtain ⟨as, r1⟩ := Dp.reads I d x v hd rx
  obtain ⟨bs, r2⟩ := Dp.reads I e y u he ry
  unfold gInF at q
  split at q
  · obtain ⟨sd, se, k, e, q⟩ := q
    cases e
    exact SeqAt.in_list_reads r2 r1 (SeqAt.canLay_of_shaped se) (SeqAt.canLay_of_shaped sd) (room_in_shaped sd hu) ⟨.bl _, H, I, rfl, q⟩
  · obtain ⟨sd, se, k, e, q⟩ := q
    cases e
    exact SeqAt.in_tuple_reads r2 r1 (SeqAt.canLay_of_shaped se) (SeqAt.canLay_of_shaped sd) (room_in_shaped sd hu) ⟨.bl _, H, I, rfl, q⟩
  · exact q.elim
theorem op_notInA (hu : X.A.units + 65 < cLine) : OpR X (compareOp .NotIn) (rInF (fun b => !b) X.K) := by
  intro pins s σ H x y v u Q I rx ry h
  obtain ⟨d, e, hd, he, q⟩ := h
  obtain ⟨as, r1⟩ := Dp.reads I d x v hd rx
  obtain ⟨bs, r2⟩ := Dp.reads I e y u he ry
  unfold gInF at q
  split at q
  · obtain ⟨sd, se, k, e, q⟩ := q
    cases e
    exact SeqAt.notIn_list_reads r2 r1 (SeqAt.canLay_of_shaped se) (SeqAt.canLay_of_shaped sd) (room_in_shaped sd hu) ⟨.bl _, H, I, rfl, q⟩
  · obtain ⟨sd, se, k, e, q⟩ := q
    cases e
    exact SeqAt.notIn_tuple_reads r2 r1 (SeqAt.canLay_of_shaped se) (SeqAt.canLay_of_shaped sd) (room_in_shaped sd hu) ⟨.bl _, H, I, rfl, q⟩
  · exact q.elim
variable {a b : Expr} {wa wb : WE} {pos : Pos} {k : Nat}
theorem units65 {A : Around} (r : Room k A) : A.units + 65 < cLine := by
  have := r.un
  omega
theorem de_in (hr : Room k X.A) (ha : DE X a wa) (hb : DE X b wb) (hm : behindInMarks .In b = false := by rfl) : DE X (.Compare a [.In] [b] pos) (wOp2 gIn wa wb) := de_cmp (op_inA (units65 hr)) o_inF ha hb hm
theorem de_notIn (hr : Room k X.A) (ha : DE X a wa) (hb : DE X b wb) (hm : behindInMarks .NotIn b = false := by rfl) : DE X (.Compare a [.NotIn] [b] pos) (wOp2 gNotIn wa wb) := de_cmp (op_notInA (units65 hr)) o_inF ha hb hm
theorem dt_in (hr : Room k X.A) (ha : DE X a wa) (hb : DE X b wb) (hm : behindInMarks .In b = false := by rfl) : DT X (.Compare a [.In] [b] pos) (wTst (wOp2 gIn wa wb)) := dt_cmp (op_inA (units65 hr)) o_inF ha hb hm
theorem dt_notIn (hr : Room k X.A) (ha : DE X a wa) (hb : DE X b wb) (hm : behindInMarks .NotIn b = false := by rfl) : DT X (.Compare a [.NotIn] [b] pos) (wTst (wOp2 gNotIn wa wb)) := dt_cmp (op_notInA (units65 hr)) o_inF ha hb hm
end
end DL

namespace DL
open PySem PySem.Spec PyProof.Rows L2
/-! ### l.extend(a list made just now) -/
def wExt (i : Nat) (wa : WE) : WS := fun d ρ => isOwn ρ i <| wa ρ fun r ρ1 => match look ρ1 i, ownL r ρ1 with
  | some (.lst p ds), some es => ds.length + es.length ≤ sizeLine ∧ d.nx (ρ1.set i (some (.lst p (ds ++ es))))
  | _, _ => False
section
variable {X : Cx} {e : Expr} {wa : WE} {pos apos cpos p0 : Pos} {x : Str} {i : Nat}
theorem ds_ext (hN : X.N[i]? = some x) (hv : Vis X.env.scope x) (ha : DE X e wa)
    (hd : (x == ("__debug__" : Str)) = false := by decide) (hcd : (x == ("__classdict__" : Str)) = false := by decide)
    (hbase : attributeBase (.Name x p0) "extend" X.env (eval (.Name x p0) X.env) = eval (.Name x p0) X.env := by rfl)
    (hfew : ((backTo cpos (starEach [e] X.env)).all (fun x => !x.1) && (backToKw cpos (keywordEach [] X.env)).all (fun x => x.1.isSome)
      && decide ([e].length + ([] : List Keyword).length + (if ([] : List Keyword).isEmpty then 0 else 1) < 30)) = true := by rfl)
    (hline : (apos.endLine == cpos.line) = true := by rfl) (hs : starEach (e :: []) X.env = (false, eval e X.env) :: starEach [] X.env := by rfl) (hplain : (backTo cpos (starEach [] X.env)).any (·.1) = false := by rfl)
    (hsw : swapsWith (.Call (.Attribute (.Name x p0) "extend" apos) [e] [] cpos) none pos.line X.env = pure false := by rfl) :
    DS X (.Expr (.Call (.Attribute (.Name x p0) "extend" apos) [e] [] cpos) pos) (wExt i wa) := by
  obtain ⟨⟨t, p, r⟩⟩ := ha
  refine ⟨⟨_, ps_expr (pe_bm PySem.F.plainAttrs_list PySem.F.slot_list_extend PySem.F.type_list_extend mt_extend (pe_var hN hv hd hcd) (pa_cons p pa_nil hs) hbase hfew hline hs hplain) hsw, fun σ H F ρ fr d e S E h => ?_⟩⟩
  obtain ⟨⟨q, ds0, e0⟩, h⟩ := isOwn_iff h
  obtain ⟨vs, e1, hp, _, _⟩ := S.lst e0
  refine ⟨.ref q, e1, .inl ⟨rfl, _, SqL.of hp⟩, ?_⟩
  refine r σ H F ρ fr _ _ S h fun v H1 F1 ρ1 r1 m a b c k1 => ?_
  split at a
  · rename_i q' ds es e2 e3
    obtain ⟨pz, zs, rfl, hz, hza⟩ := ownL_ok b c e3
    have c' : SI X.K F1 H1 σ ρ1 fr := c.less fun a => by unfold padd; omega
    obtain ⟨vs', e1', hp', ha', fin⟩ := c'.lst e2
    rw [e1] at e1'
    cases e1'
    obtain ⟨S3, k3⟩ := fin (vs' ++ zs) (ds ++ es) (ha'.append hza)
    exact ⟨q, pz, vs', zs, rfl, rfl, hp', hz, by rw [ha'.length, hza.length]; exact a.1, E.nx σ _ F1 _ a.2 S3 (k1.trans k3)⟩
  · exact a.elim
end
/-! ### zip of two lists, of two tuples -/
def zipD : List PyData → List PyData → List PyData
  | d :: ds, e :: es => .tuple [d, e] :: zipD ds es
  | _, _ => []
theorem zipD_len : ∀ xs ys : List PyData, (zipD xs ys).length = min xs.length ys.length
  | [], _ => by simp [zipD]
  | _ :: _, [] => by simp [zipD]
  | d :: ds, e :: es => by
    show (zipD ds es).length + 1 = _
    rw [zipD_len ds es]
    simp only [List.length_cons]
    omega
theorem zipD_get : ∀ (xs ys : List PyData) (i : Nat) (z : PyData), (zipD xs ys)[i]? = some z → ∃ d e, xs[i]? = some d ∧ ys[i]? = some e ∧ z = .tuple [d, e]
  | [], _, _, _, h => by simp [zipD] at h
  | _ :: _, [], _, _, h => by simp [zipD] at h
  | d :: ds, e :: es, 0, z, h => by
    cases h
    exact ⟨d, e, rfl, rfl, rfl⟩
  | d :: ds, e :: es, i + 1, z, h => by
    obtain ⟨d', e', h1, h2, h3⟩ := zipD_get ds es i z (by simpa [zipD] using h)
    exact ⟨d', e', by simpa using h1, by simpa using h2, h3⟩
theorem tup_in {K : PySem.W.Frag} {F H : Hp} {a : Addr} {xs : List V} (s : ∀ b o, F b = some o → H b = some o) (h : SqT K F a xs) : SqT K H a xs := by
  rcases h with (h | ⟨o, h⟩) | h
  · exact Or.inl (Or.inl (s _ _ h))
  · exact Or.inl (Or.inr ⟨o, s _ _ h⟩)
  · exact Or.inr h
def wZip (ws : WA) : WI := fun ρ Q => ws ρ fun rs ρ1 => frzs rs ρ1 fun ds ρ2 => match ds with
  | [.list xs, .list ys] => Q (zipD xs ys) ρ2
  | [.tuple xs, .tuple ys] => Q (zipD xs ys) ρ2
  | _ => False
theorem di_zip {X : Cx} {e e2 : Expr} {ws : WA} {p pos tpos : Pos} {elts : List Expr} {kk : Nat} (hg : Gl X "zip") (hm : X.mg "zip" = none) (ha : DA X [e, e2] ws)
    (hs : starEach [e, e2] X.env = (false, eval e X.env) :: starEach [e2] X.env := by rfl) (hpl : (backTo pos (starEach [e2] X.env)).any (·.1) = false := by rfl) :
    DI X (.Tuple elts kk tpos) (.Call (.Name "zip" p) [e, e2] [] pos) (wZip ws) := by
  obtain ⟨⟨t, pp, r⟩⟩ := ha
  refine ⟨⟨_, RZ.pi_zipA hg hm pp hs hpl, fun σ H F ρ fr Q R S h k => ?_⟩⟩
  refine r σ H F ρ fr _ _ S h fun vs H1 F1 ρ1 rs m hw o S1 k1 => ?_
  obtain ⟨ds, ρ2, F2, hw, dp, s, S2⟩ := frzs_ok (vs := vs) S1 o (fun a => by unfold padd; omega) hw
  have S2' : SI X.K F2 H1 σ ρ2 fr := S2.less fun a => by unfold padd; omega
  split at hw
  · rename_i xd yd
    cases dp with
    | cons d1 d2 =>
    cases d2 with
    | cons d2 d3 =>
    cases d3
    cases d1 with
    | @lst a xs _ hs ha =>
    cases d2 with
    | @lst b ys _ hs' ha' =>
    refine ⟨a, b, xs, ys, rfl, .inl ⟨S2'.ex.seq hs, S2'.ex.seq hs', k _ H1 F2 ρ2 _ hw S2' (k1.trans (Kp.ofF s)) ?_⟩⟩
    intro i F' H' s1 s2
    have h1 : SqL X.K H' a xs := (s1.trans s2).seq hs
    have h2 : SqL X.K H' b ys := (s1.trans s2).seq hs'
    refine ⟨fun hl => ⟨xs, ys, h1, h2, by rw [zipD_len] at hl; rw [ha.length, ha'.length]; omega⟩, fun d hd => ?_⟩
    obtain ⟨dx, dy, ex, ey, rfl⟩ := zipD_get _ _ _ _ hd
    obtain ⟨v, hv, dv⟩ := ha.get ex
    obtain ⟨u, hu, du⟩ := ha'.get ey
    refine ⟨⟨xs, ys, v, u, h1, h2, hv, hu⟩, fun x H'' y => .inr ?_⟩
    obtain ⟨T, x1, y1, rfl, nT, rfl, f1, f2⟩ := y
    have e1 : x1 = v := Option.some.inj ((f1 _ h1).symm.trans hv)
    have e2 : y1 = u := Option.some.inj ((f2 _ h2).symm.trans hu)
    subst e1 e2
    refine ⟨T, _, nT, rfl, .tup (SqT.of upd_same) (.cons ?_ (.cons ?_ .nil))⟩
    · exact dpm (fun b u q => by rw [upd_ne (ne_of_none q (fresh_F s2 nT))]; exact q) _ _ (dpm s1 _ _ dv)
    · exact dpm (fun b u q => by rw [upd_ne (ne_of_none q (fresh_F s2 nT))]; exact q) _ _ (dpm s1 _ _ du)
  · rename_i xd yd
    cases dp with
    | cons d1 d2 =>
    cases d2 with
    | cons d2 d3 =>
    cases d3
    cases d1 with
    | @tup a xs _ hs ha =>
    cases d2 with
    | @tup b ys _ hs' ha' =>
    refine ⟨a, b, xs, ys, rfl, .inr ⟨tup_in S2'.ex hs, tup_in S2'.ex hs', k _ H1 F2 ρ2 _ hw S2' (k1.trans (Kp.ofF s)) ?_⟩⟩
    intro i F' H' s1 s2
    have h1 : SqT X.K H' a xs := tup_in (s1.trans s2) hs
    have h2 : SqT X.K H' b ys := tup_in (s1.trans s2) hs'
    refine ⟨fun hl => ⟨xs, ys, h1, h2, by rw [zipD_len] at hl; rw [ha.length, ha'.length]; omega⟩, fun d hd => ?_⟩
    obtain ⟨dx, dy, ex, ey, rfl⟩ := zipD_get _ _ _ _ hd
    obtain ⟨v, hv, dv⟩ := ha.get ex
    obtain ⟨u, hu, du⟩ := ha'.get ey
    refine ⟨⟨xs, ys, v, u, h1, h2, hv, hu⟩, fun x H'' y => .inr ?_⟩
    obtain ⟨T, x1, y1, rfl, nT, rfl, f1, f2⟩ := y
    have e1 : x1 = v := Option.some.inj ((f1 _ h1).symm.trans hv)
    have e2 : y1 = u := Option.some.inj ((f2 _ h2).symm.trans hu)
    subst e1 e2
    refine ⟨T, _, nT, rfl, .tup (SqT.of upd_same) (.cons ?_ (.cons ?_ .nil))⟩
    · exact dpm (fun b u q => by rw [upd_ne (ne_of_none q (fresh_F s2 nT))]; exact q) _ _ (dpm s1 _ _ dv)
    · exact dpm (fun b u q => by rw [upd_ne (ne_of_none q (fresh_F s2 nT))]; exact q) _ _ (dpm s1 _ _ du)
  · exact hw.elim
end DL

namespace DL
open PySem PySem.Spec PyProof.Rows L2

/-! ### a written dict of the module: texts to data -/
/-- the name x of the module holds a written dict with just the entries tab, in this order -/
structure GDict (K : PySem.W.Frag) (w : World) (mg : Str → Option Value) (x : Str) (tab : List (Str × PyData)) : Prop where
  at_ : ∃ d es n, mg x = some (.ref d) ∧ KDict K w d es n ∧ es.size = tab.length ∧ (∀ (i : Nat) z dat, tab[i]? = some (z, dat) → ∃ en t, es[i]? = some en ∧ en.key = .str z t) ∧
    (∀ z dat, tab.lookup z = some dat → ∃ u v, PySem.W.nsIn K d z = some (some u) ∧ RelV v u ∧ ∀ H : Hp, Dp K H v dat)
def wGdIx (tab : List (Str × PyData)) (wb : WE) : WE := fun ρ Q => wb ρ fun r ρ1 => match r.dat ρ1 with
  | some (.str z) => (match tab.lookup z with | some d => Q (.fz d) ρ1 | none => False)
  | _ => False
section
variable {X : Cx} {b : Expr} {wb : WE} {x : Str} {pos p : Pos} {tab : List (Str × PyData)}
theorem de_gdIx (hg : Gl X x) (G : GDict X.K X.w X.mg x tab) (hb : DE X b wb) (hd : (x == ("__debug__" : Str)) = false := by decide) (hs : PlainIx b := by exact fun _ _ => rfl) : DE X (.Subscript (.Name x p) b pos) (wGdIx tab wb) := by
  obtain ⟨⟨tb, pb, rb⟩⟩ := hb
  obtain ⟨d, es, n, hm, KD, hsz, hk, hv⟩ := G.at_
  refine ⟨⟨_, pe_ix ix_kdict (pe_glob hg hm (show RelV (.ref d) (.ref d) from rfl) hd) pb hs, fun σ H F ρ fr Q Q' S hw k => ?_⟩⟩
  refine rb σ H F ρ fr _ _ S hw fun v2 H2 F2 ρ2 r2 m2 hw o2 S2 k2 => ?_
  split at hw
  · rename_i z e2
    have d2 := o2.dp S2 e2
    cases d2
    split at hw
    · rename_i dat e
      obtain ⟨u, v, h1, h2, h3⟩ := hv z dat e
      exact ⟨d, z, v, rfl, rfl, ⟨es, n, u, KD.at_, KD.lit, h1, h2⟩, k v H2 F2 ρ2 (.fz dat) z0 hw ⟨h3 F2, rfl⟩ S2.left k2⟩
    · exact hw.elim
  · exact hw.elim
end
/-- its keys -/
def Itg (zs : List Str) : It := ⟨fun i _ => i < zs.length, fun i H x H' => H' = H ∧ ∃ z, zs[i]? = some z ∧ x = .str z, fun i _ => zs.length ≤ i⟩
theorem turn_kd {P : Program} {w : World} {K : PySem.W.Frag} {tg : Expr} {d : Addr} {es : Array DictEntry} {n : Nat} {zs : List Str} (it : Addr) (KD : KDict K w d es n) (hsz : es.size = zs.length)
    (hk : ∀ (i : Nat) z, zs[i]? = some z → ∃ en t, es[i]? = some en ∧ en.key = .str z t) : Turn P w K tg (Itg zs) [it] it (fun i h => h.IsKeyIter it d i zs.length n) where
  mem := by simp
  obj := fun i h st b hb => by
    have e : b = it := by simpa using hb
    subst e
    obtain ⟨oi, e, c, dd⟩ := st
    exact ⟨oi, e, fun v z => by rw [dd] at z; cases z⟩
  keep := fun i h h' st k => st.at fun oi e => k it (by simp) oi e
  item := by
    intro X hP hw hK hc i pins s σ H E I hf st hg
    subst hP hw hK
    obtain ⟨f0, f1, f2, f3, f4, f5⟩ := hf it (by simp)
    have hi : i < zs.length := hg
    obtain ⟨z, hz⟩ : ∃ z, zs[i]? = some z := ⟨zs[i], List.getElem?_eq_getElem hi⟩
    obtain ⟨en, t, he, hkey⟩ := hk i z hz
    have hod := I.kIn d _ KD.at_
    refine next_key_item st hod rfl hsz he fun h' st' sb => ?_
    have I1 : Inv X pins σ H { s with heap := h' } := I.turned (t' := s.toks) (fun b ob hb e => (sb.2 b hb).trans e) f0 f1 f3 f4 f5
    obtain ⟨oi, e, c, dd⟩ := id st'
    exact ⟨en.key, rfl, go_of (s := { s with heap := h' }) e c dd (by decide) ⟨.str z, H, I1, ⟨t, hkey⟩, ⟨rfl, z, hz, rfl⟩, st', fun b hb => (hf b hb).1⟩⟩
  done := by
    intro X hP hw hK hc i pins s σ H E I hf st hg
    subst hP hw hK
    obtain ⟨f0, f1, f2, f3, f4, f5⟩ := hf it (by simp)
    have hi : zs.length ≤ i := hg
    exact next_key_end (I.ok.hd hc) st (I.kIn d _ KD.at_) rfl hsz hi fun h' eb => ⟨rfl, I.turned (t' := s.toks) (fun b ob hb e => eb b ob hb e) f0 f1 f3 f4 f5⟩
  self := fun A i s Q E st h => wpAny_pyIter_keyiter st h
def wGdKeys (tab : List (Str × PyData)) : WI := fun ρ Q => Q (tab.map fun e => .str e.1) ρ
section
variable {X : Cx} {tg : Expr} {x : Str} {p : Pos} {tab : List (Str × PyData)}
theorem pi_kd {d : Addr} {es : Array DictEntry} {n : Nat} {zs : List Str} (hg : Gl X x) (hm : X.mg x = some (.ref d)) (KD : KDict X.K X.w d es n) (hsz : es.size = zs.length)
    (hk : ∀ (i : Nat) z, zs[i]? = some z → ∃ en t, es[i]? = some en ∧ en.key = .str z t) (hd : (x == ("__debug__" : Str)) = false) : PI X tg (.Name x p) (fun σ H R => R (Itg zs) H) := by
  refine ⟨fun pins s σ H R I h => ?_⟩
  refine ld_glob I hg hm ?_ hd
  have hod := I.kIn d _ KD.at_
  refine iter_keys KD.low hod ⟨rfl, rfl, rfl⟩ rfl (pi_one (tk := s.toks) I _ (turn_kd _ KD hsz hk) ⟨_, Heap.get?_push_size _ rfl, rfl, ?_⟩ h)
  rw [hsz] <;> rfl
theorem di_gdKeys (hg : Gl X x) (G : GDict X.K X.w X.mg x tab) (hd : (x == ("__debug__" : Str)) = false := by decide) : DI X tg (.Name x p) (wGdKeys tab) := by
  obtain ⟨d, es, n, hm, KD, hsz, hk, hv⟩ := G.at_
  have hk' : ∀ (i : Nat) z, (tab.map (·.1))[i]? = some z → ∃ en t, es[i]? = some en ∧ en.key = .str z t := by
    intro i z e
    rw [List.getElem?_map] at e
    cases q : tab[i]? with
    | none => rw [q] at e; cases e
    | some p =>
      rw [q] at e
      cases e
      exact hk i p.1 p.2 q
  refine ⟨⟨_, pi_kd (zs := tab.map (·.1)) hg hm KD (by rw [List.length_map]; exact hsz) hk' hd, fun σ H F ρ fr Q R S h k => ?_⟩⟩
  refine k _ H F ρ _ h S Kp.refl ?_
  intro i F' H' s s'
  refine ⟨fun hl => ?_, fun dd hdd => ?_⟩
  · show (tab.map (·.1)).length ≤ i
    rw [List.length_map] at hl ⊢
    exact hl
  · rw [List.getElem?_map] at hdd
    cases q : tab[i]? with
    | none => rw [q] at hdd; cases hdd
    | some pr =>
      rw [q] at hdd
      cases hdd
      have hlt := (List.getElem?_eq_some_iff.mp q).1
      refine ⟨?_, fun v H'' y => .inl ⟨y.1, ?_⟩⟩
      · show i < (tab.map (·.1)).length
        rw [List.length_map]
        exact hlt
      · obtain ⟨_, z, hz, rfl⟩ := y
        rw [List.getElem?_map, q] at hz
        cases hz
        exact .str _
/-- z in D -/
def wGdIn (f : Bool → Bool) (tab : List (Str × PyData)) (wb : WE) : WE := fun ρ Q => wb ρ fun r ρ1 => match r.dat ρ1 with
  | some (.str z) => Q (.fz (.bool (f (tab.lookup z).isSome))) ρ1
  | _ => False
end

/-! ### a tuple's own index -/
/-- the first place of an equal one -/
def ixOf (d : PyData) : List PyData → Option Nat
  | [] => none
  | z :: zs => if PyData.eqv z d = true then some 0 else (ixOf d zs).map (· + 1)
theorem ixOf_some {d : PyData} : ∀ {zs : List PyData} {j : Nat}, ixOf d zs = some j → ∃ z, zs[j]? = some z ∧ PyData.eqv z d = true ∧ ∀ (m : Nat) z', m < j → zs[m]? = some z' → PyData.eqv z' d = false
  | [], _, h => by cases h
  | z :: zs, j, h => by
    unfold ixOf at h
    split at h
    · rename_i q
      cases h
      exact ⟨z, rfl, q, fun m z' hm => absurd hm (Nat.not_lt_zero _)⟩
    · rename_i q
      cases e : ixOf d zs with
      | none => rw [e] at h; cases h
      | some i =>
        rw [e] at h
        cases h
        obtain ⟨w, h1, h2, h3⟩ := ixOf_some e
        refine ⟨w, by simpa using h1, h2, fun m z' hm hz => ?_⟩
        cases m with
        | zero =>
          simp only [List.getElem?_cons_zero, Option.some.injEq] at hz
          subst hz
          exact Bool.eq_false_iff.mpr q
        | succ m => exact h3 m z' (Nat.lt_of_succ_lt_succ hm) (by simpa using hz)
def tTix (K : PySem.W.Frag) (t : TA) (te : TE) : TE := fun σ H Q => t σ H fun xs H1 => xs.length ≤ sizeLine ∧ ∀ p, H1 p = none → te σ (upd H1 p (.tup xs)) fun x H2 =>
  ∃ y, [x] = [y] ∧ ∃ d ds j, Dp K H2 (.ref p) (.tuple ds) ∧ Dp K H2 y d ∧ SeqAt.shaped (.tuple ds) = true ∧ SeqAt.shaped d = true ∧ ixOf d ds = some j ∧ Q (.int (j : Nat)) H2
section
variable {X : Cx} {es : List Expr} {e : Expr} {t : TA} {te : TE} {k : Nat} {tpos apos cpos : Pos}
theorem pe_tix (hu : X.A.units + 65 < cLine) (hs0 : PA X es t) (ha : PE X e te)
    (hbase : attributeBase (.Tuple es k tpos) "index" X.env (eval (.Tuple es k tpos) X.env) = eval (.Tuple es k tpos) X.env := by rfl)
    (hfew : ((backTo cpos (starEach [e] X.env)).all (fun x => !x.1) && (backToKw cpos (keywordEach [] X.env)).all (fun x => x.1.isSome)
      && decide ([e].length + ([] : List Keyword).length + (if ([] : List Keyword).isEmpty then 0 else 1) < 30)) = true := by rfl)
    (hline : (apos.endLine == cpos.line) = true := by rfl) (hs : starEach (e :: []) X.env = (false, eval e X.env) :: starEach [] X.env := by rfl) (hplain : (backTo cpos (starEach [] X.env)).any (·.1) = false := by rfl) :
    PE X (.Call (.Attribute (.Tuple es k tpos) "index" apos) [e] [] cpos) (tTix X.K t te) := by
  refine ⟨fun pins s σ H Q I h => ?_⟩
  refine wpAny_Call_method_late hbase hfew hline rfl (wpAny_Tuple_spliced (thn (hs0.run tpos pins s σ H _ I h) fun us s1 ⟨xs, H1, I1, r1, z, q1⟩ => ⟨by rw [← r1.length]; exact z, ?_⟩))
  have hf : H1 s1.heap.objs.size = none := I1.hok.fresh (Nat.le_refl _)
  have hgt : (s1.heap.push { cls := .type "tuple", data := .seq us.toArray }).get? s1.heap.objs.size = some { cls := .type "tuple", data := .seq us.toArray } := Heap.get?_push_size _ rfl
  have I2 : Inv X pins σ (upd H1 s1.heap.objs.size (.tup xs)) { s1 with heap := s1.heap.push { cls := .type "tuple", data := .seq us.toArray } } :=
    I1.laid (t' := s1.toks) (fun b u e => Heap.get?_push_of_some _ e) (Nat.le_refl _) ⟨z, us, r1, ⟨_, hgt, rfl, _, rfl⟩⟩
  refine ⟨"tuple", "tuple.index", PySem.F.plainAttrs_tuple, PySem.F.slot_tuple_index, PySem.F.type_tuple_index, ⟨_, hgt, rfl⟩, fun a ea => by cases ea; exact ⟨_, hgt, rfl⟩, ?_⟩
  have hA := (pa_cons ha pa_nil hs).run cpos pins _ σ _ (fun vs H' => ∃ y, vs = [y] ∧ ∃ d ds j, Dp X.K H' (.ref s1.heap.objs.size) (.tuple ds) ∧ Dp X.K H' y d ∧ SeqAt.shaped (.tuple ds) = true ∧ SeqAt.shaped d = true ∧ ixOf d ds = some j ∧ Q (.int (j : Nat)) H') I2 ?_
  · rw [hs] at hA ⊢
    refine Calls.callWith_builtin (by show (false || (backTo cpos (starEach [] X.env)).any (·.1)) = false; rw [hplain] <;> rfl) (Calls.evalArgs_plain ?_)
    refine thn hA fun us2 s2 ⟨vs, H2, I3, r2, y, ev, d, ds, j, h1, h2, h3, h4, h5, q⟩ => ?_
    subst ev
    cases r2 with
    | @cons _ uy _ ut ry rt =>
      cases rt
      obtain ⟨z', hz, hzj, hno⟩ := ixOf_some h5
      obtain ⟨bs, rb⟩ := Dp.reads I3 d y uy h2 ry
      have hxs : PyData.canLayAll0 ds = true := SeqAt.canLay_of_shaped (d := .tuple ds) h3
      have hroom : X.A.units + 1 + min (PyData.depthAll ds) d.depth < cLine := room_in_shaped h4 hu
      cases h1 with
      | tup hs ha =>
        obtain ⟨its, rv, ⟨⟨cls, dd, data, sls⟩, ho, hc, n, hdt⟩, hlen⟩ := I3.tuple hs
        simp only at hc hdt
        subst hc hdt
        obtain ⟨as, h4'⟩ := Dp.readsAll I3 ds _ its ha rv
        have hn : its.length = ds.length := SeqAt.ReadsAll.length ds its as h4'
        have hmap : its.map (SeqAt.readOf s2.heap) = ds := SeqAt.readsAll_map ds its as hxs h4'
        have hvl := rv.length
        have hsl := sizeLine_eq
        obtain ⟨hjd, _⟩ := List.getElem?_eq_some_iff.mp hz
        have hjl : j < its.length := by omega
        have hj : j < its.toArray.size := by simpa using hjl
        have at_ : ∀ (m : Nat) (hm : m < its.toArray.size) (z' : PyData), ds[m]? = some z' → SeqAt.readOf s2.heap its.toArray[m] = z' := by
          intro m hm z' hz'
          have hml : m < its.length := by simpa using hm
          rw [← hmap, List.getElem?_map, List.getElem?_eq_getElem hml] at hz'
          have e1 : SeqAt.readOf s2.heap its[m] = z' := Option.some.inj (show some (SeqAt.readOf s2.heap its[m]) = some z' from hz')
          simpa using e1
        refine call_meets PySem.F.slot_tuple_index ⟨_, ho, rfl⟩ PySem.F.entry_tuple_index (PySem.F.args_tuple_index_2 _ _)
          (PySem.SeqAt.tuple_index2_found s1.heap.objs.size its.toArray n dd sls uy (fun m => (ds[m]?.map fun z => PyData.eqv z d).getD false) j hj (Nat.zero_le _) hj ?_ ?_) ⟨ho, ?_, ?_⟩
        · show (ds[j]?.map _).getD false = true
          rw [hz]
          exact hzj
        · intro m hm _ hmj
          have hmd : m < ds.length := by have : m < its.length := by simpa using hm
                                         omega
          have hz' : ds[m]? = some ds[m] := List.getElem?_eq_getElem hmd
          show (ds[m]?.map _).getD false = false
          rw [hz']
          exact hno m _ hmj hz'
        · intro m hm
          have hmd : m < ds.length := by have : m < its.length := by simpa using hm
                                         omega
          have hz' : ds[m]? = some ds[m] := List.getElem?_eq_getElem hmd
          have := SeqAt.items_eqAt (A := X.A) (vs := its.toArray) (show ReadsAll s2.heap its.toArray.toList ds as from h4') rb hxs (SeqAt.canLay_of_shaped h4) hroom its.toArray[m] (Array.getElem_mem hm)
          rw [at_ m hm _ hz'] at this
          rw [hz']
          exact this
        · exact ⟨.int (j : Nat), H2, I3.tok _, ⟨_, rfl⟩, q⟩
  · exact q1 _ hf
end
end DL

namespace DL
open PySem PySem.Spec PyProof.Rows L2

/-! ### (..).index(x) -/
def wTix (ws : WA) (wa : WE) : WE := fun ρ Q => ws ρ fun rs ρ1 => frzs rs ρ1 fun ds ρ2 => ds.length ≤ sizeLine ∧ wa ρ2 fun r ρ3 => match r.dat ρ3 with
  | some d => SeqAt.shaped (.tuple ds) = true ∧ SeqAt.shaped d = true ∧ (match ixOf d ds with | some j => Q (.fz (.int (j : Nat))) ρ3 | none => False)
  | none => False
section
variable {X : Cx} {es : List Expr} {e : Expr} {ws : WA} {wa : WE} {k n : Nat} {tpos apos cpos : Pos}
theorem de_tix (hr : Room n X.A) (hs0 : DA X es ws) (ha : DE X e wa)
    (hbase : attributeBase (.Tuple es k tpos) "index" X.env (eval (.Tuple es k tpos) X.env) = eval (.Tuple es k tpos) X.env := by rfl)
    (hfew : ((backTo cpos (starEach [e] X.env)).all (fun x => !x.1) && (backToKw cpos (keywordEach [] X.env)).all (fun x => x.1.isSome)
      && decide ([e].length + ([] : List Keyword).length + (if ([] : List Keyword).isEmpty then 0 else 1) < 30)) = true := by rfl)
    (hline : (apos.endLine == cpos.line) = true := by rfl) (hs : starEach (e :: []) X.env = (false, eval e X.env) :: starEach [] X.env := by rfl) (hplain : (backTo cpos (starEach [] X.env)).any (·.1) = false := by rfl) :
    DE X (.Call (.Attribute (.Tuple es k tpos) "index" apos) [e] [] cpos) (wTix ws wa) := by
  obtain ⟨⟨t, p, r⟩⟩ := hs0
  obtain ⟨⟨te, pe, re⟩⟩ := ha
  refine ⟨⟨_, pe_tix (units65 hr) p pe hbase hfew hline hs hplain, fun σ H F ρ fr Q Q' S hw k => ?_⟩⟩
  refine r σ H F ρ fr _ _ S hw fun vs H1 F1 ρ1 rs m hw o S1 k1 => ?_
  obtain ⟨ds, ρ2, F2, hw, dp, s, S2⟩ := frzs_ok (vs := vs) S1 o (fun a => by unfold padd; omega) hw
  have S2' : SI X.K F2 H1 σ ρ2 fr := S2.less fun a => by unfold padd; omega
  refine ⟨by rw [dp.length]; exact hw.1, fun q hq => ?_⟩
  obtain ⟨S3, s3, k3⟩ := S2'.newF (o := .tup vs) hq
  have dt : Dp X.K (upd F2 q (.tup vs)) (.ref q) (.tuple ds) := .tup (SqT.of upd_same) (dpam s3 _ _ dp)
  refine re σ _ _ ρ2 fr _ _ S3 hw.2 fun v H4 F4 ρ4 r4 m4 hw o4 S4 k4 => ?_
  split at hw
  · rename_i d e4
    have dd := o4.dp S4 e4
    obtain ⟨h1, h2, hw⟩ := hw
    split at hw
    · rename_i j hj
      exact ⟨v, rfl, d, ds, j, dpm S4.ex _ _ (dpm k4.exF _ _ dt), dd, h1, h2, hj, k _ H4 F4 ρ4 (.fz (.int (j : Nat))) z0 hw ⟨.int _, rfl⟩ S4.left (((k1.trans (Kp.ofF s)).trans k3).trans k4)⟩
    · exact hw.elim
  · exact hw.elim
end

/-! ### l[i] as a target of data -/
def gvSub (i : Nat) (wk : WE) : WG := fun y ρ Q => isOwn ρ i <| wk ρ fun r3 ρ3 => match look ρ3 i, r3.dat ρ3 with
  | some (.lst q ds), some (.int kk) => (match ixN ds.length kk with | some j => Q (ρ3.set i (some (.lst q (ds.set j y)))) | none => False)
  | _, _ => False
section
variable {X : Cx} {k : Expr} {wk : WE} {tpos p0 : Pos} {x : Str} {i : Nat}
theorem dg_sub (hN : X.N[i]? = some x) (hv : Vis X.env.scope x) (hk : DE X k wk)
    (hd : (x == ("__debug__" : Str)) = false := by decide) (hcd : (x == ("__classdict__" : Str)) = false := by decide)
    (h2 : ∀ v, assign (.Subscript (.Name x p0) k tpos) X.env v = (do
      let ov ← holding [v] (eval (.Name x p0) X.env)
      let iv ← holding [v, ov] (eval k X.env)
      standAt tpos
      holding [v, ov, iv] (setItem ov iv v)
      release [v, ov, iv] []) := by intro _; rfl) : DG X (.Subscript (.Name x p0) k tpos) (gvSub i wk) := by
  obtain ⟨⟨tk, pk, rk⟩⟩ := hk
  refine ⟨⟨_, pg_sub (pe_var hN hv hd hcd) pk set_list h2, fun σ H F ρ fr y v Q Q' S dp a kk => ?_⟩⟩
  obtain ⟨⟨q, ds0, e0⟩, a⟩ := isOwn_iff a
  obtain ⟨vs, e1, hp, _, _⟩ := S.lst e0
  refine ⟨.ref q, e1, ?_⟩
  refine rk σ H F ρ fr _ _ S a fun vk H3 F3 ρ3 r3 m3 a o3 S3 k3 => ?_
  split at a
  · rename_i q' ds kk' e2 e3
    have := o3.dp S3 e3
    cases this
    obtain ⟨vs', e1', hp', ha', fin⟩ := S3.left.lst e2
    rw [e1] at e1'
    cases e1'
    split at a
    · rename_i j hj
      obtain ⟨S4, k4⟩ := fin (vs'.set j v) (ds.set j y) (ha'.set (dpm k3.exF _ _ dp) j)
      exact ⟨q, vs', _, j, rfl, rfl, hp', by rw [ha'.length]; exact hj, kk σ _ F3 _ a S4 (k3.trans k4)⟩
    · exact a.elim
  · exact a.elim
end

/-! ### enumerate: a list, a tuple, a text -/
def Itet (K : PySem.W.Frag) (a : Addr) : It :=
  ⟨fun i H => ∃ (xs : List V) (x : V), SqT K H a xs ∧ xs[i]? = some x, fun i H v H' => ∃ T x, v = .ref T ∧ H T = none ∧ H' = upd H T (.tup [.int (i : Nat), x]) ∧ ∀ xs, SqT K H a xs → xs[i]? = some x, fun i H => ∃ xs : List V, SqT K H a xs ∧ xs.length ≤ i⟩
theorem turn_enumT {P : Program} {w : World} {K : PySem.W.Frag} {elts : List Expr} {kk : Nat} {tpos : Pos} (a e it : Addr) :
    Turn P w K (.Tuple elts kk tpos) (Itet K a) [e, it] e (fun i h => (∃ old, IsEnum h e it ((i : Nat) : Int) old) ∧ h.IsTupleIter it a i ∧ e ≠ it) where
  mem := by simp
  obj := fun i h st b hb => by
    obtain ⟨⟨old, he⟩, ⟨o, ho, hc, hd⟩, _⟩ := st
    have e' : b = e ∨ b = it := by simpa using hb
    rcases e' with z | z
    · rw [z]; exact ⟨_, he, fun v q => nomatch q⟩
    · rw [z]; exact ⟨o, ho, fun v q => by rw [hd] at q; cases q⟩
  keep := fun i h h' st k => let ⟨⟨old, he⟩, hi, hne⟩ := st; ⟨⟨old, k e (by simp) _ he⟩, hi.at fun o q => k it (by simp) o q, hne⟩
  item := by
    intro X hP hw hK hc i pins s σ H E I hf st hg
    subst hP hw hK
    obtain ⟨⟨old, he⟩, hit, hne⟩ := st
    obtain ⟨xs, x, hq, hx⟩ := hg
    obtain ⟨its, rv, p, hz⟩ := I.tuple hq
    obtain ⟨u, hu, ru⟩ := rv.get hx
    have hel : e < s.heap.objs.size := Heap.lt_size he
    have hil : it < s.heap.objs.size := by obtain ⟨_, q, _⟩ := hit; exact Heap.lt_size q
    have hai : a ≠ it := fun z => by
      obtain ⟨o1, g1, c1, _⟩ := hit
      obtain ⟨o2, g2, c2, _⟩ := p
      rw [z, g1] at g2
      cases g2
      rw [c1] at c2
      exact absurd (Value.type.inj c2) (by decide)
    have hae : a ≠ e := fun z => by
      obtain ⟨o2, g2, c2, _⟩ := p
      have he' : s.heap.get? e = some _ := he
      rw [z, he'] at g2
      cases g2
      exact absurd (Value.type.inj c2) (by decide)
    have hlt : i < its.toArray.size := by
      have := (List.getElem?_eq_some_iff.mp hu).1
      simpa using this
    refine wpAny_pyNext_enum_itemD (Draws.tuple (prog := X.prog) (w := X.w) (A := X.A.in1) (show X.A.in1.handled = none from I.ok.hd hc) it a hai its.toArray) he ⟨hit, p⟩ hlt hne (by simp [hne, Ne.symm hae]) fun x' h' tk hx' ho st' hT hsz hk => ?_
    have ex' : x' = u := by
      have h1 : its[i]? = some x' := by simpa using hx'
      rw [hu] at h1
      exact (Option.some.inj h1).symm
    subst ex'
    refine ⟨_, rfl, wpAny_letOwnedTupleGo_enum (s := { s with heap := h', toks := tk + 1 }) ho fun h'' he' sb => ?_⟩
    have hT2 : h''.get? s.heap.objs.size = some { cls := .type "tuple", data := .seq #[.int i tk, x'] } := (sb.2 _ (Nat.ne_of_gt hel)).trans hT
    have new : ObjOk X.prog X.w (upd H s.heap.objs.size (.tup [.int (i : Nat), x])) h'' s.heap.objs.size (.tup [.int (i : Nat), x]) :=
      ⟨by show 2 ≤ sizeLine; decide, [.int i tk, x'], .cons ⟨_, rfl⟩ (.cons ru .nil), ⟨_, hT2, rfl, _, rfl⟩⟩
    have I1 : Inv X pins σ (upd H s.heap.objs.size (.tup [.int (i : Nat), x])) { s with heap := h'', toks := tk + 1 } :=
      I.turnedNew (ch := [e, it]) (fun b ob hb q => (sb.2 b (fun z => hb (by simp [z]))).trans (hk b ob (fun z => hb (by simp [z])) (fun z => hb (by simp [z])) q)) hf (Nat.le_refl _) new
    refine ⟨.ref s.heap.objs.size, _, I1, rfl, ⟨_, x, rfl, I.hok.fresh (Nat.le_refl _), rfl, fun ys hy => by rw [I.tuple_inj hy hq]; exact hx⟩, ⟨⟨x', ?_⟩, st'.1.at fun o q => (sb.2 it (Ne.symm hne)).trans q, hne⟩, fun b hb => ?_⟩
    · have e1 : ((i + 1 : Nat) : Int) = (i : Int) + 1 := by omega
      rw [e1]; exact he'
    · have hb' : b < s.heap.objs.size := by
        have e' : b = e ∨ b = it := by simpa using hb
        rcases e' with z | z
        · rw [z]; exact hel
        · rw [z]; exact hil
      rw [upd_ne (Nat.ne_of_lt hb')]
      exact (hf b hb).1
  done := by
    intro X hP hw hK hc i pins s σ H E I hf st hg
    subst hP hw hK
    obtain ⟨⟨old, he⟩, hit, hne⟩ := st
    obtain ⟨xs, hq, hx⟩ := hg
    obtain ⟨its, rv, p, hz⟩ := I.tuple hq
    obtain ⟨f0, f1, f2, f3, f4, f5⟩ := hf it (by simp)
    have hl := rv.length
    have hT : s.TypeIs (.ref e) "enumerate" := ⟨_, he, rfl⟩
    unfold pyNext
    refine wpAny_bind (wpAny_attempt (wpAny_callSpecial?_slot (name := Str.ofString "__next__") hT F.slot_enumerate_next
      (wpAny_call_entry F.slot_enumerate_next hT F.entry_enumerate_next ?_ (F.args_enumerate_next_1 _))))
    show wpAny _ _ (field (.ref e) 2 >>= _) _ _ _
    refine wpAny_bind (wpAny_field he rfl (x := .ref it) rfl ?_)
    refine wpAny_bind (wpAny_nextOf_tuple_end (I.ok.hd hc) hit p (by simp; omega) fun h' x he' hx' => ?_)
    obtain ⟨o, ho, hc⟩ := hx'
    refine wpAny_bind (wpAny_isInstance (T := "StopIteration") (b := true) ⟨o, ho, hc⟩ isSubtype_stop ?_)
    exact wpAny_pure ⟨rfl, I.turned (t' := s.toks) (fun b o hb q => he' b o hb q) f0 f1 f3 f4 f5⟩
  self := fun A i s Q E st h => let ⟨⟨_, he⟩, _⟩ := st; wpAny_pyIter_enum he h
end DL

namespace DL
open PySem PySem.Spec PyProof.Rows L2
theorem meets_enumerate_newG {v : Value} {o : Obj} {H : Heap → Prop} (B : Begins v o H) :
    Meets (Builtin.«enumerate.__new__» ⟨[.type "enumerate", v], []⟩) (fun _ R s => H s.heap ∧
      R (.ok (.ret (.ref (s.heap.push o).objs.size))) { s with heap := (s.heap.push o).push { cls := .type "enumerate", data := .fields #[.none, .bool false, .ref s.heap.objs.size, rawInt 0, .none, .none] } }) :=
  .of_wp fun prog w A R s h => by
    obtain ⟨hp, g, d, tk, os⟩ := s; obtain ⟨h1, h⟩ := h
    have hsub := sub_enumerate
    have q1 : ∀ {A' : Around} {E : Value → Shared → Prop} {Q : Value → Shared → Prop}, Q (.ref hp.objs.size) ⟨hp.push o, g, d, tk, os⟩ → wpAny (model prog w) A' (pyIter v) Q E ⟨hp, g, d, tk, os⟩ :=
      fun q => B.iter prog w _ _ ⟨hp, g, d, tk, os⟩ _ h1 q
    wp_walk using q1
    refine wpAny_stack_any fun st => wpAny_pure ?_
    split
    · rename_i c _ _ _ _ _
      cases (c == Value.type "enumerate")
      · wp_walk using q1
        exact ⟨_, rfl, h⟩
      · wp_walk using q1
        exact ⟨_, rfl, h⟩
    · wp_walk using q1
      exact ⟨_, rfl, h⟩
theorem enum_beginsG {prog : Program} {w : World} {A : Around} {E : Value → Shared → Prop} {s : Shared} {v : Value} {o : Obj} {H : Heap → Prop} {Q : Value → Shared → Prop} (B : Begins v o H) (h1 : H s.heap)
    (h : ∀ h', IsEnum h' (s.heap.objs.size + 1) s.heap.objs.size 0 .none → h'.get? s.heap.objs.size = some o → h'.objs.size = s.heap.objs.size + 2 →
      (∀ b o, s.heap.get? b = some o → h'.get? b = some o) → Q (.ref (s.heap.objs.size + 1)) { s with heap := h' }) :
    wpAny (model prog w) A (call (.type "enumerate") [v]) Q E s := by
  refine callType_new F.called_enumerate (by decide) (F.typeCall_enumerate_1 _) (F.newCall_enumerate_1 _) (fun obj => F.args_object_init_2 obj _) F.entry_enumerate_new
    (meets_enumerate_newG B) ⟨h1, ?_⟩
  have hz : (s.heap.push o).objs.size = s.heap.objs.size + 1 := Heap.size_push ..
  show _ ∧ _
  rw [hz]
  have he : IsEnum ((s.heap.push o).push { cls := .type "enumerate", data := .fields #[.none, .bool false, .ref s.heap.objs.size, rawInt 0, .none, .none] }) (s.heap.objs.size + 1) s.heap.objs.size 0 .none := by
    have := Heap.get?_push_size (s.heap.push o) (o := { cls := .type "enumerate", data := .fields #[.none, .bool false, .ref s.heap.objs.size, rawInt 0, .none, .none] }) rfl
    rw [hz] at this; exact this
  refine ⟨⟨_, he, rfl⟩, h _ he (Heap.get?_push_of_some _ (Heap.get?_push_size _ B.free)) (by rw [Heap.size_push, hz]) fun b o x => Heap.get?_push_of_some _ (Heap.get?_push_of_some _ x)⟩
/-- a text's signs, each in a new pair -/
def Ites (x : Str) : It := ⟨fun i _ => i < x.cps.size, fun i H v H' => ∃ T c, v = .ref T ∧ H T = none ∧ H' = upd H T (.tup [.int (i : Nat), .str ⟨#[c]⟩]) ∧ x.cps[i]? = some c, fun i _ => x.cps.size ≤ i⟩
theorem turn_enumS {P : Program} {w : World} {K : PySem.W.Frag} {elts : List Expr} {kk : Nat} {tpos : Pos} (x : Str) (t : Tok) (e it : Addr) :
    Turn P w K (.Tuple elts kk tpos) (Ites x) [e, it] e (fun i h => i ≤ x.cps.size ∧ (∃ old, IsEnum h e it ((i : Nat) : Int) old) ∧ h.IsStrIter it (strIterType x) x t i ∧ e ≠ it) where
  mem := by simp
  obj := fun i h st b hb => by
    obtain ⟨_, ⟨old, he⟩, ⟨o, ho, hc, hd⟩, _⟩ := st
    have e' : b = e ∨ b = it := by simpa using hb
    rcases e' with z | z
    · rw [z]; exact ⟨_, he, fun v q => nomatch q⟩
    · rw [z]; exact ⟨o, ho, fun v q => by rw [hd] at q; cases q⟩
  keep := fun i h h' st k => let ⟨hl, ⟨old, he⟩, hi, hne⟩ := st; ⟨hl, ⟨old, k e (by simp) _ he⟩, let ⟨o, ho, r⟩ := hi; ⟨o, k it (by simp) o ho, r⟩, hne⟩
  item := by
    intro X hP hw hK hc i pins s σ H E I hf st hg
    subst hP hw hK
    obtain ⟨_, ⟨old, he⟩, hit, hne⟩ := st
    have hlt : i < x.cps.size := hg
    have hel : e < s.heap.objs.size := Heap.lt_size he
    have hil : it < s.heap.objs.size := by obtain ⟨_, q, _⟩ := hit; exact Heap.lt_size q
    refine wpAny_pyNext_enum_itemD (Draws.text (prog := X.prog) (w := X.w) (A := X.A.in1) (show X.A.in1.handled = none from I.ok.hd hc) it x t) he hit hlt hne (by simp [hne]) fun x' h' tk hx' ho st' hT hsz hk => ?_
    obtain ⟨c, u, hcx, rfl⟩ := hx'
    refine ⟨_, rfl, wpAny_letOwnedTupleGo_enum (s := { s with heap := h', toks := tk + 1 }) ho fun h'' he' sb => ?_⟩
    have hT2 : h''.get? s.heap.objs.size = some { cls := .type "tuple", data := .seq #[.int i tk, .str ⟨#[c]⟩ u] } := (sb.2 _ (Nat.ne_of_gt hel)).trans hT
    have new : ObjOk X.prog X.w (upd H s.heap.objs.size (.tup [.int (i : Nat), .str ⟨#[c]⟩])) h'' s.heap.objs.size (.tup [.int (i : Nat), .str ⟨#[c]⟩]) :=
      ⟨by show 2 ≤ sizeLine; decide, [.int i tk, .str ⟨#[c]⟩ u], .cons ⟨_, rfl⟩ (.cons ⟨_, rfl⟩ .nil), ⟨_, hT2, rfl, _, rfl⟩⟩
    have I1 : Inv X pins σ (upd H s.heap.objs.size (.tup [.int (i : Nat), .str ⟨#[c]⟩])) { s with heap := h'', toks := tk + 1 } :=
      I.turnedNew (ch := [e, it]) (fun b ob hb q => (sb.2 b (fun z => hb (by simp [z]))).trans (hk b ob (fun z => hb (by simp [z])) (fun z => hb (by simp [z])) q)) hf (Nat.le_refl _) new
    refine ⟨.ref s.heap.objs.size, _, I1, rfl, ⟨_, c, rfl, I.hok.fresh (Nat.le_refl _), rfl, hcx⟩, ⟨hlt, ⟨.str ⟨#[c]⟩ u, ?_⟩, ?_, hne⟩, fun b hb => ?_⟩
    · have e1 : ((i + 1 : Nat) : Int) = (i : Int) + 1 := by omega
      rw [e1]; exact he'
    · obtain ⟨o, ho, r⟩ := st'
      exact ⟨o, (sb.2 it (Ne.symm hne)).trans ho, r⟩
    · have hb' : b < s.heap.objs.size := by
        have e' : b = e ∨ b = it := by simpa using hb
        rcases e' with z | z
        · rw [z]; exact hel
        · rw [z]; exact hil
      rw [upd_ne (Nat.ne_of_lt hb')]
      exact (hf b hb).1
  done := by
    intro X hP hw hK hc i pins s σ H E I hf st hg
    subst hP hw hK
    obtain ⟨hle, ⟨old, he⟩, hit, hne⟩ := st
    obtain ⟨f0, f1, f2, f3, f4, f5⟩ := hf it (by simp)
    have hi : i = x.cps.size := Nat.le_antisymm hle hg
    subst hi
    exact wpAny_pyNext_enum_endD (Draws.text (prog := X.prog) (w := X.w) (A := X.A.in1) (show X.A.in1.handled = none from I.ok.hd hc) it x t) he hit fun h' eb => ⟨rfl, I.turned (t' := s.toks) (fun b o hb q => eb b o hb q) f0 f1 f3 f4 f5⟩
  self := fun A i s Q E st h => let ⟨_, ⟨_, he⟩, _⟩ := st; wpAny_pyIter_enum he h
def iEnumA (K : PySem.W.Frag) (ta : TA) : TI := fun σ H R => ta σ H fun vs H1 => (∃ a xs, vs = [.ref a] ∧ SqL K H1 a xs ∧ R (Ite K a) H1) ∨ (∃ a xs, vs = [.ref a] ∧ SqT K H1 a xs ∧ R (Itet K a) H1) ∨ (∃ z, vs = [.str z] ∧ R (Ites z) H1)
theorem pi_enumA {X : Cx} {e : Expr} {ta : TA} {p pos tpos : Pos} {elts : List Expr} {kk : Nat} (hg : Gl X "enumerate") (hm : X.mg "enumerate" = none) (ha : PA X [e] ta) (hs : starEach [e] X.env = [(false, eval e X.env)] := by rfl) :
    PI X (.Tuple elts kk tpos) (.Call (.Name "enumerate" p) [e] [] pos) (iEnumA X.K ta) := by
  refine ⟨fun pins s σ H R I h => ?_⟩
  refine Call_ (ld_blt I hg hm boot_enumerate (PyProof.Rows.callWith_type1 (thn (ha.run pos pins s σ H _ I h) fun us s1 ⟨vs, H1, I1, r1, q1⟩ => ?_) hs rfl))
  have fp2 : ∀ b ∈ [s1.heap.objs.size + 1, s1.heap.objs.size], FpOk X pins H1 b := fun b hb => by
    have e' : b = s1.heap.objs.size + 1 ∨ b = s1.heap.objs.size := by simpa using hb
    have hle : s1.heap.objs.size ≤ b := by
      rcases e' with z | z
      · rw [z]; exact Nat.le_add_right _ _
      · rw [z]; exact Nat.le_refl _
    exact I1.fpOk hle (I1.hok.fresh hle)
  rcases q1 with ⟨a, xs, ex, hq, q⟩ | ⟨a, xs, ex, hq, q⟩ | ⟨z, ex, q⟩
  · subst ex
    cases r1 with
    | cons r rr =>
      cases rr
      cases r
      obtain ⟨its, rv, p', hz⟩ := I1.list hq
      refine call_enumerate_list p'.isList fun h' he hit hsz hk => wpAny_pyIter_enum he ?_
      exact ⟨s1.heap.objs.size + 1, [s1.heap.objs.size + 1, s1.heap.objs.size], _, _, H1, rfl, I1.kept (t' := s1.toks) hk, turn_enum a (s1.heap.objs.size + 1) s1.heap.objs.size, ⟨⟨.none, he⟩, hit, Nat.succ_ne_self _⟩, fp2, q⟩
  · subst ex
    cases r1 with
    | cons r rr =>
      cases rr
      cases r
      obtain ⟨its, rv, p', hz⟩ := I1.tuple hq
      refine enum_beginsG (begins_tuple a its.toArray) p' fun h' he hit hsz hk => wpAny_pyIter_enum he ?_
      exact ⟨s1.heap.objs.size + 1, [s1.heap.objs.size + 1, s1.heap.objs.size], _, _, H1, rfl, I1.kept (t' := s1.toks) hk, turn_enumT a (s1.heap.objs.size + 1) s1.heap.objs.size, ⟨⟨.none, he⟩, ⟨_, hit, rfl, rfl⟩, Nat.succ_ne_self _⟩, fp2, q⟩
  · subst ex
    cases r1 with
    | cons r rr =>
      cases rr
      obtain ⟨t, rfl⟩ := r
      refine enum_beginsG (begins_text z t) trivial fun h' he hit hsz hk => wpAny_pyIter_enum he ?_
      exact ⟨s1.heap.objs.size + 1, [s1.heap.objs.size + 1, s1.heap.objs.size], _, _, H1, rfl, I1.kept (t' := s1.toks) hk, turn_enumS z t (s1.heap.objs.size + 1) s1.heap.objs.size, ⟨Nat.zero_le _, ⟨.none, he⟩, ⟨_, hit, rfl, rfl⟩, Nat.succ_ne_self _⟩, fp2, q⟩
def wEnumA (ws : WA) : WI := fun ρ Q => ws ρ fun rs ρ1 => frzs rs ρ1 fun ds ρ2 => match ds with
  | [.list es] => Q (enumD 0 es) ρ2
  | [.tuple es] => Q (enumD 0 es) ρ2
  | [.str z] => Q (enumD 0 (signsD z)) ρ2
  | _ => False
theorem signsD_get {z : Str} {i : Nat} {d : PyData} (h : (signsD z)[i]? = some d) : ∃ c, z.cps[i]? = some c ∧ d = .str ⟨#[c]⟩ := by
  unfold signsD at h
  rw [List.getElem?_map] at h
  cases e : z.cps.toList[i]? with
  | none => rw [e] at h; cases h
  | some c =>
    rw [e] at h
    cases h
    exact ⟨c, by rw [← Array.getElem?_toList]; exact e, rfl⟩
theorem di_enumA {X : Cx} {e : Expr} {ws : WA} {p pos tpos : Pos} {elts : List Expr} {kk : Nat} (hg : Gl X "enumerate") (hm : X.mg "enumerate" = none) (ha : DA X [e] ws) (hs : starEach [e] X.env = [(false, eval e X.env)] := by rfl) :
    DI X (.Tuple elts kk tpos) (.Call (.Name "enumerate" p) [e] [] pos) (wEnumA ws) := by
  obtain ⟨⟨t, p, r⟩⟩ := ha
  refine ⟨⟨_, pi_enumA hg hm p hs, fun σ H F ρ fr Q R S h k => ?_⟩⟩
  refine r σ H F ρ fr _ _ S h fun vs H1 F1 ρ1 rs m hw o S1 k1 => ?_
  obtain ⟨ds, ρ2, F2, hw, dp, s, S2⟩ := frzs_ok (vs := vs) S1 o (fun a => by unfold padd; omega) hw
  have S2' : SI X.K F2 H1 σ ρ2 fr := S2.less fun a => by unfold padd; omega
  split at hw
  · rename_i es
    cases dp with
    | cons d1 d2 =>
      cases d2
      cases d1 with
      | @lst a xs _ hs ha =>
        refine .inl ⟨a, xs, rfl, S2'.ex.seq hs, k _ H1 F2 ρ2 _ hw S2' (k1.trans (Kp.ofF s)) ?_⟩
        intro i F' H' s1 s2
        have h' : SqL X.K H' a xs := (s1.trans s2).seq hs
        refine ⟨fun hl => ⟨xs, h', by rw [enumD_len] at hl; rw [ha.length]; exact hl⟩, fun d hd => ?_⟩
        rw [enumD_get] at hd
        cases e : es[i]? with
        | none => rw [e] at hd; cases hd
        | some d0 =>
          rw [e] at hd
          cases hd
          obtain ⟨v, hv, dv⟩ := ha.get e
          refine ⟨⟨xs, v, h', hv⟩, fun x H'' y => .inr ?_⟩
          obtain ⟨T, x1, rfl, nT, rfl, f1⟩ := y
          have e1 : x1 = v := Option.some.inj ((f1 _ h').symm.trans hv)
          subst e1
          refine ⟨T, _, nT, rfl, .tup (SqT.of upd_same) (.cons ?_ (.cons ?_ .nil))⟩
          · rw [Nat.zero_add]
            exact .int _
          · exact dpm (fun b u q => by rw [upd_ne (ne_of_none q (fresh_F s2 nT))]; exact q) _ _ (dpm s1 _ _ dv)
  · rename_i es
    cases dp with
    | cons d1 d2 =>
      cases d2
      cases d1 with
      | @tup a xs _ hs ha =>
        refine .inr (.inl ⟨a, xs, rfl, same_t S2'.ex hs, k _ H1 F2 ρ2 _ hw S2' (k1.trans (Kp.ofF s)) ?_⟩)
        intro i F' H' s1 s2
        have h' : SqT X.K H' a xs := same_t (s1.trans s2) hs
        refine ⟨fun hl => ⟨xs, h', by rw [enumD_len] at hl; rw [ha.length]; exact hl⟩, fun d hd => ?_⟩
        rw [enumD_get] at hd
        cases e : es[i]? with
        | none => rw [e] at hd; cases hd
        | some d0 =>
          rw [e] at hd
          cases hd
          obtain ⟨v, hv, dv⟩ := ha.get e
          refine ⟨⟨xs, v, h', hv⟩, fun x H'' y => .inr ?_⟩
          obtain ⟨T, x1, rfl, nT, rfl, f1⟩ := y
          have e1 : x1 = v := Option.some.inj ((f1 _ h').symm.trans hv)
          subst e1
          refine ⟨T, _, nT, rfl, .tup (SqT.of upd_same) (.cons ?_ (.cons ?_ .nil))⟩
          · rw [Nat.zero_add]
            exact .int _
          · exact dpm (fun b u q => by rw [upd_ne (ne_of_none q (fresh_F s2 nT))]; exact q) _ _ (dpm s1 _ _ dv)
  · rename_i z
    cases dp with
    | cons d1 d2 =>
      cases d2
      cases d1
      refine .inr (.inr ⟨z, rfl, k _ H1 F2 ρ2 _ hw S2' (k1.trans (Kp.ofF s)) ?_⟩)
      intro i F' H' s1 s2
      refine ⟨fun hl => ?_, fun d hd => ?_⟩
      · rw [enumD_len] at hl
        show z.cps.size ≤ i
        simpa [signsD] using hl
      · rw [enumD_get] at hd
        cases e : (signsD z)[i]? with
        | none => rw [e] at hd; cases hd
        | some d0 =>
          rw [e] at hd
          cases hd
          obtain ⟨c, hc, rfl⟩ := signsD_get e
          have hlt : i < z.cps.size := by
            rw [Array.getElem?_eq_some_iff] at hc
            exact hc.1
          refine ⟨hlt, fun x H'' y => .inr ?_⟩
          obtain ⟨T, c', rfl, nT, rfl, f1⟩ := y
          rw [hc] at f1
          cases f1
          refine ⟨T, _, nT, rfl, .tup (SqT.of upd_same) (.cons ?_ (.cons (.str _) .nil))⟩
          rw [Nat.zero_add]
          exact .int _
  · exact hw.elim
end DL
namespace DL
open PySem PySem.Spec PyProof.Rows L2
/-- a written pair of whole numbers -/
def KPair (o : Obj) (i j : Int) : Prop := o.cls = .type "tuple" ∧ ∃ its n, o.data = .seq its n ∧ its.size ≤ sizeLine ∧ Vals [.int i, .int j] its.toList
theorem dp_kpair {K : PySem.W.Frag} {a : Addr} {o : Obj} {i j : Int} (l : K.lookup a = some o) (t : KPair o i j) (H : Hp) : Dp K H (.ref a) (.tuple [.int i, .int j]) := by
  obtain ⟨h1, its, n, h2, h3, h4⟩ := t
  exact .tup (.inr ⟨o, its, n, l, h1, h2, h3, h4⟩) (.cons (.int _) (.cons (.int _) .nil))
def GEnt (K : PySem.W.Frag) (d : Addr) (e : Str × PyData) : Prop := ∃ u v, PySem.W.nsIn K d e.1 = some (some u) ∧ RelV v u ∧ ∀ H : Hp, Dp K H v e.2
theorem gent_pair {K : PySem.W.Frag} {d a : Addr} {z : Str} {o : Obj} {i j : Int} (q : PySem.W.nsIn K d z = some (some (.ref a))) (l : K.lookup a = some o) (t : KPair o i j) : GEnt K d (z, .tuple [.int i, .int j]) :=
  ⟨_, .ref a, q, rfl, dp_kpair l t⟩
theorem gdict_mk {K : PySem.W.Frag} {w : World} {mg : Str → Option Value} {x : Str} {tab : List (Str × PyData)} {d : Addr} {es : Array DictEntry} {n : Nat} (hm : mg x = some (.ref d)) (l : K.lookup d = some ⟨.type "dict", none, .dict es n, #[]⟩)
    (lit : PySem.W.KeysLit w.params es.toList) (low : (d == sysModules) = false) (hk : es.toList.map (fun e => match e.key with | .str z _ => some z | _ => none) = tab.map (fun e => some e.1)) (he : ∀ e ∈ tab, GEnt K d e) : GDict K w mg x tab := by
  refine ⟨d, es, n, hm, ⟨l, lit, low⟩, ?_, fun i z dat h => ?_, fun z dat h => ?_⟩
  · have := congrArg List.length hk
    simpa using this
  · have h1 := congrArg (fun l => l[i]?) hk
    simp only [List.getElem?_map, h, Option.map_some] at h1
    cases e : es.toList[i]? with
    | none => rw [e] at h1; cases h1
    | some en =>
      rw [e] at h1
      simp only [Option.map_some, Option.some.injEq] at h1
      refine ⟨en, ?_⟩
      split at h1
      · rename_i z' t hz
        cases h1
        exact ⟨t, by rw [← Array.getElem?_toList]; exact e, hz⟩
      · cases h1
  · have : (z, dat) ∈ tab := by
      clear hk he
      induction tab with
      | nil => cases h
      | cons p r ih =>
        obtain ⟨y, d'⟩ := p
        rw [List.lookup_cons] at h
        split at h
        · rename_i e
          cases h
          rw [eq_of_beq e]
          exact List.mem_cons_self
        · exact List.mem_cons_of_mem _ (ih h)
    exact he _ this
end DL

namespace DL
open PySem PySem.Spec PyProof.Rows L2
/-! ### is True, is False -/
def gIsB : G2
  | .bool a, .bool b, G => G (.bool (decide (a = b)))
  | _, _, _ => False
def gNotB : G2
  | .bool a, .bool b, G => G (.bool (!decide (a = b)))
  | _, _, _ => False
theorem o_isB {K : PySem.W.Frag} : Op2 K rIsB gIsB := by
  intro x y d e H G Q hx hy hg k
  unfold gIsB at hg
  split at hg
  · cases hx
    cases hy
    exact ⟨_, _, rfl, rfl, k _ _ (.bl _) hg⟩
  · exact hg.elim
theorem o_notB {K : PySem.W.Frag} : Op2 K rNotB gNotB := by
  intro x y d e H G Q hx hy hg k
  unfold gNotB at hg
  split at hg
  · cases hx
    cases hy
    exact ⟨_, _, rfl, rfl, k _ _ (.bl _) hg⟩
  · exact hg.elim
end DL

namespace DL
open PySem PySem.Spec PyProof.Rows L2
/-! ### an exception that was caught is kept in hand -/
section
variable {X : Cx} {pins : List (Addr × Obj)} {σ : L2.St} {H : Hp} {s : Shared} {a : Addr} {o : HO}
theorem inv_track (I : Inv X pins σ H s) (hex : X.ex = []) (hn : H a = none) (h0 : X.s_0.heap.get? a = none) (hL : a ≠ X.env.locals) (hp : ∀ p ∈ X.pn ++ pins, p.1 ≠ a) (hc : ∀ x c, X.env.cells.lookup x = some c → c ≠ a)
    (new : ObjOk X.prog X.w (upd H a o) s.heap a o) : Inv X pins σ (upd H a o) s where
  ok := I.ok
  os := I.os
  bare := I.bare
  base := {
    keep := I.base.keep
    slot := I.base.slot
    free := fun b u q n hx => by
      rw [upd_ne (fun z => by rw [z, h0] at q; cases q)]
      exact I.base.free b u q n hx
    there := I.base.there
    tups := fun b xs q => by
      have := I.base.tups b xs q
      rw [upd_ne (ne_of_none this hn)]
      exact this
    frzs := fun b u xs q => by
      have := I.base.frzs b u xs q
      rw [upd_ne (ne_of_none this hn)]
      exact this
    tbls := fun b ps q => by
      obtain ⟨m, this⟩ := I.base.tbls b ps q
      exact ⟨m, by rw [upd_ne (ne_of_none this hn)]; exact this⟩ }
  loc := I.loc
  cell := I.cell
  free := by rw [upd_ne (Ne.symm hL)]; exact I.free
  freeC := fun x c e => by rw [upd_ne (hc x c e)]; exact I.freeC x c e
  pin := fun p hm => by
    obtain ⟨h1, h2, h3⟩ := I.pin p hm
    exact ⟨h1, by rw [upd_ne (hp p hm)]; exact h2, h3⟩
  hok := fun b u e => by
    by_cases hb : b = a
    · subst hb
      rw [upd_same] at e
      cases e
      exact new
    · rw [upd_ne hb] at e
      exact (I.hok b u e).stay (fun c v _ q => q) (fun c q => by rw [upd_ne (ne_of_none q hn)]; exact q) fun c xs q => by rw [upd_ne (ne_of_none q hn)]; exact q
  len := I.len
theorem exK_ok {P : Program} {w : World} {H : Hp} {h : Heap} {cls : Value} {d : Option Addr} {oe : Obj} {vs : Array Value} (e : h.get? a = some oe) (h1 : oe.cls = cls) (h2 : oe.dict = d) (h3 : oe.data = .fields vs) : ObjOk P w H h a (exK a cls d) :=
  ⟨⟨oe, vs, e, h1, h2, h3⟩, ⟨oe, e⟩, fun _ _ ⟨oe', vs', q, r⟩ k => ⟨oe', vs', k _ q, r⟩⟩
theorem exK_at {P : Program} {w : World} {H : Hp} {h : Heap} {cls : Value} {d : Option Addr} (hok : HOk P w H h) (e : H a = some (exK a cls d)) : ∃ oe vs, h.get? a = some oe ∧ oe.cls = cls ∧ oe.dict = d ∧ oe.data = .fields vs :=
  (show ObjOk P w H h a (exK a cls d) from hok a _ e).1
end
/-- what the clause 'except x as n: m = n' wishes of an exception of the body -/
def wCatch (K : PySem.W.Frag) (c : Value) (i j : Nat) (D : Ends) : WX := fun cls d σ H =>
  PySem.W.exmOne K cls c = some true ∧ ∀ a, H a = none → D.nx ((σ.set j (some (.ref a))).set i none) (upd H a (exK a cls d))
section
variable {X : Cx} {x n m : Str} {c : Value} {i j : Nat} {body : List Stmt} {np mp np2 pos pos' apos : Pos}
theorem set_comm' {σ : L2.St} {i j : Nat} {u v : Option V} (h : i ≠ j) : (σ.set i u).set j v = (σ.set j v).set i u := List.set_comm _ _ h
theorem ps_try_catch (hs : X.stack = X.env :: X.outer) (hf : X.env.frame = some X.env.locals) (hex : X.ex = []) (hN : X.N.Nodup) (hi : X.N[i]? = some n) (hj : X.N[j]? = some m) (hij : i ≠ j) (hln : X.env.kindOf n = some .local) (hlm : X.env.kindOf m = some .local) (hc : Names X x c)
    (hnd : (n == ("__debug__" : Str)) = false := by decide) (hnc : (n == ("__classdict__" : Str)) = false := by decide)
    (hsw : ∀ a oe pn, swapsWith (.Name n np2) (some (.Name m mp)) apos.line (X.suite a ((a, oe) :: pn)).env = pure false := by intro _ _ _; rfl) :
    PS X (.Try body [.ExceptHandler (some (.Name x np)) (some n) [.Assign [.Name m mp] (.Name n np2) apos] pos'] [] [] pos)
      (fun D σ H => ∀ pn xe, Takes (X.tr pn xe) (wCatch X.K c i j D) → PassesOwn (model X.prog X.w) X.A X.env xe → ∃ t, PSs (X.tr pn xe) body t ∧ t D σ H) := by
  refine ⟨fun pins s σ H D I h => ?_⟩
  have ok := I.ok
  have hfr : X.A.frames = some (X.env :: X.outer) := by rw [ok.frames, hs]
  have hloc : Loc X.env.scope n := .inl hln
  refine wpAny_Try_except ?_
  have tk : Takes (X.tr (X.pn ++ pins) (fun e s₁ => wpAny (model X.prog X.w) X.A (noteFrame e X.env) (fun _ s₂ => wpAny (model X.prog X.w) X.A (setFlight e none) (fun _ s₃ =>
    wpAny (model X.prog X.w) X.A (handleBy e X.env [.ExceptHandler (some (.Name x np)) (some n) [.Assign [.Name m mp] (.Name n np2) apos] pos']) (SP X pins D) X.xe s₃) X.xe s₂) X.xe s₁)) (wCatch X.K c i j D) := by
    intro u s' xx
    obtain ⟨a, B, sI, pins', σ', H', cls, d, rfl, J', nb, up, sky, na, os, ag, hb1, hyes⟩ := xx
    have J : Inv X pins σ' H' sI := J'.ofTry ok
    have sky' : Sky B (X.env :: X.outer) a (Zc cls d) X.env.locals s'.heap := by rw [← hs]; exact sky
    show wpAny (model X.prog X.w) X.A (noteFrame (.ref a) X.env) _ _ _
    refine Sky.land Zc.steady hfr hf sky' fun h3 fl3 up3 => ?_
    have J3 : Inv X pins σ' H' { s' with heap := h3 } := J.landed nb fl3.1 (up.trans up3) os ag
    obtain ⟨oe3, vs3, he3, hz3, hd3⟩ := fl3.there
    have notFr : ∀ {h : Heap} {o : Obj} {vs : Array Value}, h.FunFrames B (X.env :: X.outer) → h.get? a = some o → o.data = .fields vs → a ∉ frs (X.env :: X.outer) := fun {h o vs} ff e dd hm => by
      obtain ⟨_, o', e', hnf⟩ := ff.mem hm
      rw [e] at e'; cases e'
      exact hnf _ dd
    have nfr := notFr fl3.2.2.1 he3 hd3
    have nL : a ≠ X.env.locals := fun z => nfr (List.mem_filterMap.mpr ⟨X.env, List.mem_cons_self, by rw [hf, z]⟩)
    have nF : a ∉ X.fs := fun hm => by
      obtain ⟨e, he, q⟩ := List.mem_filterMap.mp hm
      exact nfr (List.mem_filterMap.mpr ⟨e, List.mem_cons_of_mem _ he, q⟩)
    -- it is new
    have nI : sI.heap.get? a = none := by
      cases q : sI.heap.get? a with
      | none => rfl
      | some u =>
        have := nb a u q (by rw [hs]; exact nfr)
        rw [fl3.2.1] at this
        cases this
    have n0 : X.s_0.heap.get? a = none := by
      cases q : X.s_0.heap.get? a with
      | none => rfl
      | some u =>
        obtain ⟨o', e'⟩ := J.base.there a u q (by rw [hex]; simp)
        rw [nI] at e'
        cases e'
    have nP : ∀ p ∈ X.pn ++ pins, p.1 ≠ a := fun p hp z => by
      have := (J.pin p hp).1
      rw [z, nI] at this
      cases this
    have S3 := J3.suite he3 hd3 na nL nF
    refine wpAny_handleBy_cons (codeAny_handlers_test ?_) (by intro q; cases q)
    have LT : PySem.W.Looks (model X.prog X.w) h3 (typeOf (.ref a)) cls := fun A Q E s k q => wpAny_typeOf_ref (k _ _ he3) (by rw [hz3.1]; exact q)
    have LM := PySem.W.exm_one (M := model X.prog X.w) (J3.kIn) LT hb1
    have test : ∀ {Q : Value → Shared → Prop} {E : Value → Shared → Prop}, Q c { s' with heap := h3 } → wpAny (model X.prog X.w) (X.A.mark (some (.ref a))) (eval (.Name x np) X.env) Q E { s' with heap := h3 } := fun {Q E} q => by
      obtain ⟨hg, hdbg, hm | ⟨hm, hv, hnn⟩⟩ := hc
      · exact ld_glob (X := X.suite a ((a, oe3) :: (X.pn ++ pins))) S3 hg hm q hdbg
      · exact ld_blt (X := X.suite a ((a, oe3) :: (X.pn ++ pins))) S3 hg hm hv q hnn hdbg
    refine test (LM.here ?_)
    refine codeAny_handlers_suite_as ?_
    refine HandSPX.lands_againZ fl3 fun h4 fl4 up4 => ?_
    have J4 : Inv X pins σ' H' { s' with heap := h4 } := J.landed nb fl4.1 ((up.trans up3).trans up4) os ag
    obtain ⟨oe4, vs4, he4, hz4, hd4⟩ := fl4.there
    have S4 := J4.suite he4 hd4 na nL nF
    refine store_ok (X := X.suite a ((a, oe4) :: (X.pn ++ pins))) (v := .ref a) S4 hN hi hloc rfl (fun s5 S5 => ?_) (.inr hln)
    have hsu : PSs (X.suite a ((a, oe4) :: (X.pn ++ pins))) [.Assign [.Name m mp] (.Name n np2) apos] (fun D σ H => tVar i σ H fun v H1 => D.nx (σ.set j (some v)) H1) :=
      pss_one (ps_set (X := X.suite a ((a, oe4) :: (X.pn ++ pins))) (i := j) hN hj (.inl hlm) (pe_var (X := X.suite a ((a, oe4) :: (X.pn ++ pins))) hi (.inl hln) hnd hnc) (hsw a oe4 _) (.inr hlm))
    have hlt : i < σ'.length := by
      rw [J4.len]
      exact (List.getElem?_eq_some_iff.mp hi).1
    refine wpAny_mono (hsu.run [] s5 _ H' { nx := fun σ6 H6 => σ6 = (σ'.set i (some (.ref a))).set j (some (.ref a)) ∧ H6 = H', rt := fun _ _ => False, bk := fun _ _ => False, ct := fun _ _ => False } S5 ⟨.ref a, by rw [List.getElem?_set_self hlt], rfl, rfl⟩) (fun f s6 hsp => ?_) (fun _ _ z => False.elim z)
    cases f with
    | next =>
      obtain ⟨σ6, H6, S6, rfl, rfl⟩ := hsp
      have S6' : Inv X ((a, oe4) :: pins) _ _ s6 := ⟨ok, S6.os, S6.bare, S6.base, S6.loc, S6.cell, S6.free, S6.freeC, fun p hp => S6.pin p (by
        rw [List.append_nil]
        rcases List.mem_append.mp hp with h | h
        · exact List.mem_cons_of_mem _ (List.mem_append_left _ h)
        · rcases List.mem_cons.mp h with h | h
          · rw [h]; exact List.mem_cons_self
          · exact List.mem_cons_of_mem _ (List.mem_append_right _ h)), S6.hok, S6.len⟩
      refine gone_ok S6' hN hi hln fun s7 J7 => ?_
      obtain ⟨g1, g2, g3, g4, g5⟩ := J7.pin (a, oe4) (List.mem_append_right _ List.mem_cons_self)
      have J7' : Inv X pins _ _ s7 := J7.pins_of fun p hp => J7.pin p (List.mem_append_right _ (List.mem_cons_of_mem _ hp))
      refine ⟨_, _, inv_track (a := a) (o := exK a cls d) J7' hex na n0 nL nP (fun y cc hy z => ?_) (exK_ok g1 hz4.1 hz4.2 hd4), ?_⟩
      · obtain ⟨v, o, ho, hv⟩ := J7'.cell y cc hy
        rw [z, g1] at ho
        cases ho
        exact g5 _ hv
      · have := hyes a na
        rw [show (((σ'.set i (some (V.ref a))).set j (some (V.ref a))).set i none) = (σ'.set j (some (V.ref a))).set i none by rw [List.set_comm _ _ hij, List.set_set]]
        exact this
    | brk =>
      obtain ⟨σ6, H6, S6, q6⟩ := hsp
      exact q6.elim
    | cont =>
      obtain ⟨σ6, H6, S6, q6⟩ := hsp
      exact q6.elim
    | ret u =>
      obtain ⟨v6, σ6, H6, S6, r6, q6⟩ := hsp
      exact q6.elim
  obtain ⟨t, pt, ht⟩ := h _ _ tk PassesOwn.looking
  refine wpAny_mono (pt.run [] s σ H D (I.toTry _) ht) (fun f s1 hsp => ?_) (fun e s1 he => he)
  cases f with
  | next =>
    obtain ⟨σ', H', J', q⟩ := hsp
    exact wpAny_execs_nil ⟨σ', H', J'.ofTry ok, q⟩
  | brk =>
    obtain ⟨σ', H', J', q⟩ := hsp
    exact ⟨σ', H', J'.ofTry ok, q⟩
  | cont =>
    obtain ⟨σ', H', J', q⟩ := hsp
    exact ⟨σ', H', J'.ofTry ok, q⟩
  | ret u =>
    obtain ⟨v, σ', H', J', r, q⟩ := hsp
    exact ⟨v, σ', H', J'.ofTry ok, r, q⟩
end
end DL

namespace DL
open PySem PySem.Spec PyProof.Rows L2
/-! ### code that may raise -/
abbrev Kpt := Option (Str × PyData)
abbrev PK := Str → Kpt → Rho → Prop
def ExcD (K : PySem.W.Frag) (F : Hp) (n : Str) (y : Kpt) (cls : Value) (d : Option Addr) : Prop := ∃ C, cls = .ref C ∧ PySem.W.nsIn K mainGlobals n = some (some (.ref C)) ∧ match y with
  | none => d = none
  | some (f, x) => ∃ dd u, d = some dd ∧ F dd = some (.xd [(f, u)]) ∧ Dp K F u x
theorem ExcD.t {K : PySem.W.Frag} {F F' : Hp} {n : Str} {y : Kpt} {cls : Value} {d : Option Addr} {a : Addr} (x : ExcD K F n y cls d) (s : Same F F') (h : F' a = some (exK a cls d)) : ExcT K F' n y (.ref a) := by
  obtain ⟨C, h1, h2, h3⟩ := x
  refine ⟨a, C, d, rfl, h2, by rw [← h1]; exact h, ?_⟩
  cases y with
  | none => exact h3
  | some p =>
    obtain ⟨dd, u, g1, g2, g3⟩ := h3
    exact ⟨dd, u, g1, s _ _ g2, dpm s _ _ g3⟩
structure ExOk (K : PySem.W.Frag) (F H : Hp) (fr : Fp) (P : PK) (W : WX) : Prop where
  ex : ∀ n y σ' H' F' ρ' cls dd, P n y ρ' → ExcD K F' n y cls dd → SI K F' H' σ' ρ' fr → Kp F H fr F' H' → W cls dd σ' H'
theorem ExOk.go {K : PySem.W.Frag} {F H F1 H1 : Hp} {fr : Fp} {P : PK} {W : WX} (E : ExOk K F H fr P W) (k : Kp F H fr F1 H1) : ExOk K F1 H1 fr P W :=
  ⟨fun n y σ' H' F' ρ' cls dd a b c x => E.ex n y σ' H' F' ρ' cls dd a b c (k.trans x)⟩
abbrev RSX (K : PySem.W.Frag) (W : WX) (t : TS) (w : WS) : Prop := ∀ (σ : Sg) (H F : Hp) (ρ : Rho) (fr : Fp) (d : DEnds) (e : Ends), SI K F H σ ρ fr → EndsOk K F H fr d e → ExOk K F H fr d.ex W → w d ρ → t e σ H
structure DSX (X : Cx) (W : WX) (st : Stmt) (w : WS) : Prop where
  run : ∃ t : TS, PS X st t ∧ RSX X.K W t w
structure DSsX (X : Cx) (W : WX) (st : List Stmt) (w : WS) : Prop where
  run : ∃ t : TS, PSs X st t ∧ RSX X.K W t w
theorem PS.nox {X : Cx} {st : Stmt} {t : TS} (h : PS X.nox st t) : PS X st t := ⟨fun pins s σ H D I hw =>
  wpAny_mono (h.run pins s σ H D (I.wish _) hw) (fun _ _ q => q.unwish) fun _ _ z => False.elim z⟩
section
variable {X : Cx} {W : WX} {st : Stmt} {sts : List Stmt} {w1 w2 : WS} {wt : WT} {e c tg iter : Expr} {pos pos' : Pos} {wi : WI} {g : WG} {wb : WS}
theorem dsx_pure (h : DS X.nox st w1) : DSX X W st w1 := by
  obtain ⟨⟨t, p, r⟩⟩ := h
  exact ⟨⟨t, PS.nox p, fun σ H F ρ fr d e S E _ h => r σ H F ρ fr d e S E h⟩⟩
theorem dssx_nil : DSsX X W [] wNext := ⟨⟨_, pss_nil, fun σ H F ρ fr d e S E _ h => E.nx σ H F ρ h S Kp.refl⟩⟩
theorem dssx_cons (h1 : DSX X W st w1) (h2 : DSsX X W sts w2) : DSsX X W (st :: sts) (wSeq w1 w2) := by
  obtain ⟨⟨t, p, r⟩⟩ := h1
  obtain ⟨⟨u, q, r2⟩⟩ := h2
  refine ⟨⟨_, pss_cons p q, fun σ H F ρ fr d e S E Ex h => ?_⟩⟩
  exact r σ H F ρ fr (d.seq (w2 d)) { e with nx := u e } S ⟨fun σ' H' F' ρ' a b c => r2 σ' H' F' ρ' fr d e b (E.go c) (Ex.go c) a, E.bk, E.ct, E.rt⟩ Ex h
theorem dssx_one (h1 : DSX X W st w1) : DSsX X W [st] w1 := let ⟨⟨t, p, r⟩⟩ := h1; ⟨⟨_, pss_one p, r⟩⟩
theorem dsx_if {a b : List Stmt} (hc : DT X c wt) (ha : DSsX X W a w1) (hb : DSsX X W b w2) : DSX X W (.If c a b pos) (wIfS wt w1 w2) := by
  obtain ⟨⟨t, p, r⟩⟩ := hc
  obtain ⟨⟨t1, p1, r1⟩⟩ := ha
  obtain ⟨⟨t2, p2, r2⟩⟩ := hb
  refine ⟨⟨_, ps_if p p1 p2, fun σ H F ρ fr d e S E Ex h => ?_⟩⟩
  refine r σ H F ρ fr _ _ S h fun b H' F' ρ' a S' k => ?_
  cases b with
  | true => exact r1 σ H' F' ρ' fr d e S' (E.go k) (Ex.go k) a
  | false => exact r2 σ H' F' ρ' fr d e S' (E.go k) (Ex.go k) a
theorem dsx_for {body : List Stmt} (hp : PassesOwn (model X.prog X.w) X.A X.env X.xe) (hc : X.calm = true) (hi : DI X tg iter wi) (hg : DG X tg g) (hb : DSsX X W body wb) (hs : ∀ x, foldedSetIterable iter X.env x = pure x := by intro _; rfl) : DSX X W (.For tg iter body [] pos) (wFor wi g wb) := by
  obtain ⟨⟨ti, pi, ri⟩⟩ := hi
  obtain ⟨⟨tg', pg, rg⟩⟩ := hg
  obtain ⟨⟨tb, pb, rb⟩⟩ := hb
  refine ⟨⟨_, ps_for hp hc pi pg pb hs, fun σ H F ρ fr d e S E Ex h => ?_⟩⟩
  refine ri σ H F ρ fr _ _ S h fun xs H1 F1 ρ1 J a S1 k1 hJ => ?_
  obtain ⟨I, i0, it, ie⟩ := a
  refine ⟨fun i m σ' H' => m = xs.length - i ∧ i ≤ xs.length ∧ ∃ ρ' F', I i ρ' ∧ SI X.K F' H' σ' ρ' fr ∧ Kp F1 H1 fr F' H', ⟨xs.length, by simp, Nat.zero_le _, ρ1, F1, i0, S1, Kp.refl⟩, ?_⟩
  rintro i m σ2 H2 ⟨rfl, hi, ρ2, F2, i2, S2, k2⟩
  obtain ⟨jstop, jgo⟩ := hJ i F2 H2 k2.exF S2.ex
  by_cases hlt : i < xs.length
  · obtain ⟨x, hx⟩ : ∃ x, xs[i]? = some x := ⟨xs[i], by simp [hlt]⟩
    obtain ⟨go, yl⟩ := jgo x hx
    refine .inr ⟨go, fun σ' H' => ∃ ρ' F', I (i + 1) ρ' ∧ SI X.K F' H' σ' ρ' fr ∧ Kp F1 H1 fr F' H', fun σ' H' n => ⟨xs.length - (i + 1), by omega, rfl, hlt, n⟩, fun v H3 y => ?_⟩
    have main : ∀ F3, SI X.K F3 H3 σ2 ρ2 fr → Kp F1 H1 fr F3 H3 → Dp X.K F3 v x → tg' v σ2 H3 fun σ4 H4 => tb { nx := fun σ' H' => ∃ ρ' F', I (i + 1) ρ' ∧ SI X.K F' H' σ' ρ' fr ∧ Kp F1 H1 fr F' H', rt := e.rt, bk := e.nx, ct := fun σ' H' => ∃ ρ' F', I (i + 1) ρ' ∧ SI X.K F' H' σ' ρ' fr ∧ Kp F1 H1 fr F' H' } σ4 H4 := by
      intro F3 S3 k3 dp
      refine rg σ2 H3 F3 ρ2 fr x v _ _ S3 dp (it i x ρ2 hx i2) fun σ4 H4 F4 ρ4 a S4 k4 => ?_
      have E4 : EndsOk X.K F4 H4 fr d e := (E.go k1).go (k3.trans k4)
      refine rb σ4 H4 F4 ρ4 fr (d.loop (I (i + 1))) _ S4 ⟨fun σ' H' F' ρ' a b c => ⟨ρ', F', a, b, (k3.trans k4).trans c⟩, E4.nx, fun σ' H' F' ρ' a b c => ⟨ρ', F', a, b, (k3.trans k4).trans c⟩, E4.rt⟩ ((Ex.go k1).go (k3.trans k4)) a
    rcases yl v H3 y with ⟨rfl, dp⟩ | ⟨p, u, hp, rfl, dp⟩
    · exact main F2 S2 k2 dp
    · obtain ⟨S3, _, k3⟩ := S2.newF (o := u) hp
      exact main _ S3 (k2.trans k3) dp
  · have e' : i = xs.length := by omega
    subst e'
    exact .inl ⟨jstop (Nat.le_refl _), E.nx σ2 H2 F2 ρ2 (ie ρ2 i2) S2 (k1.trans k2)⟩
end

/-! ### defs that may raise -/
abbrev FSX := List OT → (OT → List OT → Prop) → (Str → Kpt → List OT → Prop) → Prop
def spX (K : PySem.W.Frag) (np : Nat) (φ : FSX) : Sp := fun vs H Q E => vs.length = np ∧ ∃ F ts m, Same F H ∧ OwnTs K F H ts vs m ∧ FreeOk F H m ∧
  ∃ Q0 X0, φ ts Q0 X0 ∧ (∀ r ts', Q0 r ts' → ∀ v H' F' mv m', OwnT K F' H' r v mv → OwnTs K F' H' ts' vs m' → CallEnd K F H m F' H' (padd mv m') → Q v H') ∧
    ∀ n y ts', X0 n y ts' → ∀ cls dd H' F' m', ExcD K F' n y cls dd → OwnTs K F' H' ts' vs m' → CallEnd K F H m F' H' m' → E cls dd H'
def endsFX (n : Nat) (ts : List OT) (Q : OT → List OT → Prop) (Xx : Str → Kpt → List OT → Prop) : DEnds where
  nx := fun ρ => backs ts ρ fun ts' => Q (.fz .none) ts'
  rt := fun r ρ => outD r ρ fun t ρ' => backs ts ρ' fun ts' => Q t ts'
  ex := fun nm y ρ => backs ts ρ fun ts' => Xx nm y ts'
/-- THE RULE for a def that may raise -/
theorem fnX {P : Program} {w : World} {K : PySem.W.Frag} {mg : Str → Option Value} {base : Heap} {x qual : Str} {st : Stmt} {f : Addr} {fd : FuncData} {N ps : List Str} {k : Nat} {φ : FSX} (F : Fun K x qual st f fd) (S : FnScope N ps (defScope st))
    (h : ∀ (cdv : Value) (A : Around) (outer : List Env) (s : Shared) (H : Hp) (E : XK), Room k (A.deeper (envOfC qual (defScope st) s.heap.objs.size f cdv)) →
      ∃ w', DSsX (cxOf (L2.CX P w) P w K mg base N qual (defScope st) f cdv A outer s H E) (fun cls d _ H => E cls d H) (defBody st) w' ∧ ∀ ts Q Xx, ts.length = ps.length → φ ts Q Xx → w' (endsFX N.length ts Q Xx) (startR N.length ts)) :
    FnOk P w K mg base (L2.CX P w) (k + 1) f fd ps (spX K ps.length φ) := by
  refine F.okX S (fun vs H Q E h => h.1) (fun cdv A outer s H vs Q E hr hs => ?_)
  obtain ⟨w', ⟨⟨t, p, r⟩⟩, hw⟩ := h cdv A outer s H E hr
  refine ⟨t, p, ?_⟩
  obtain ⟨hl, F0, ts, m, sF, ow, fo, Q0, X0, hφ, hQ0, hX0⟩ := hs
  have el := ow.len
  have e2 : start N vs = vs.map some ++ List.replicate (N.length - vs.length) none := rfl
  have e3 : startR N.length ts = ts.map some ++ List.replicate (N.length - vs.length) none := by unfold startR; rw [el]
  have hst : OwnS K F0 H (startR N.length ts) (start N vs) m := by rw [e2, e3]; exact ow.start _
  have fin : ∀ (v : V) (H' F' : Hp) (t : OT) (mv n : Fp) (ρ' : Rho) (σ' : Sg), OwnT K F' H' t v mv → OwnS K F' H' ρ' σ' n → Same F' H' → (∀ a, n a + (padd (frO F0 H m) mv) a ≤ 1 ∧ (n a + (padd (frO F0 H m) mv) a ≠ 0 → F' a = none ∧ H' a ≠ none)) →
      Kp F0 H (frO F0 H m) F' H' → (backs ts ρ' fun ts' => Q0 t ts') → Q v H' := by
    intro v H' F' t mv n ρ' σ' o1 o2 ex q kp hb
    obtain ⟨ts', m', a, b, c⟩ := backs_ok kp.exF ow o2 hb
    refine hQ0 _ _ c v H' F' mv m' o1 a ⟨kp.exF, ex, fun a => ?_, fun a h1 h2 h3 => ?_, kp.grow⟩
    · obtain ⟨q1, q2⟩ := q a
      have := b a
      unfold padd at q1 q2 ⊢
      exact ⟨by omega, fun z => q2 (by omega)⟩
    · have e1 := frO_one h1 h2 h3
      obtain ⟨q1, q2⟩ := q a
      have := b a
      unfold padd at q1 q2 ⊢
      rw [e1] at q1 q2
      exact ⟨kp.keep a (by rw [e1]; decide), by omega, (q2 (by omega)).1⟩
  refine r (start N vs) H F0 (startR N.length ts) (frO F0 H m) (endsFX N.length ts Q0 X0) _ ⟨sF, m, hst, fun a => ?_⟩ ⟨fun σ' H' F' ρ' a b c => ?_, fun _ _ _ _ a => a.elim, fun _ _ _ _ a => a.elim, fun v H' F' σ' ρ' r m1 a b c kp => ?_⟩ ⟨fun nm y σ' H' F' ρ' cls dd a b c kp => ?_⟩ (hw ts Q0 X0 (by rw [← el, hl]) hφ)
  · obtain ⟨q1, q2⟩ := fo.ok a
    rcases frO_cases F0 H m a with e | ⟨e, e1, e2, e3⟩
    · rw [e]; exact ⟨by omega, fun z => q2 (by omega)⟩
    · rw [e]; exact ⟨by omega, fun _ => ⟨e2, e1⟩⟩
  · obtain ⟨n, o2, q⟩ := b.own
    exact fin .non H' F' (.fz .none) z0 n ρ' σ' ⟨.non, rfl⟩ o2 b.ex q c a
  · have a' : outD r ρ' fun t ρ' => backs ts ρ' fun ts' => Q0 t ts' := a
    cases r with
    | tm t =>
      obtain ⟨n, o2, q⟩ := c.own
      exact fin v H' F' t m1 n ρ' σ' b o2 c.ex q kp a'
    | sl i =>
      obtain ⟨d, ρ2, F2, a2, dp, s, S2⟩ := frz_ok (r := .sl i) (k := fun d ρ' => backs ts ρ' fun ts' => Q0 (.fz d) ts') c b (fun a => by unfold padd; omega) a'
      obtain ⟨n, o2, q⟩ := S2.own
      refine fin v H' F2 (.fz d) z0 n ρ2 σ' ⟨dp, rfl⟩ o2 S2.ex (fun a => ?_) (kp.trans (Kp.ofF s)) a2
      obtain ⟨q1, q2⟩ := q a
      have hm : m1 a = 0 := by rw [b.1]; rfl
      unfold padd at q1 q2 ⊢
      show _ + (_ + 0) ≤ 1 ∧ (_ + (_ + 0) ≠ 0 → _)
      exact ⟨by omega, fun z => q2 (by omega)⟩
  · obtain ⟨n, o2, q⟩ := c.own
    have a' : backs ts ρ' fun ts' => X0 nm y ts' := a
    obtain ⟨ts', m', a1, b1, c1⟩ := backs_ok kp.exF ow o2 a'
    refine hX0 nm y ts' c1 cls dd H' F' m' b a1 ⟨kp.exF, c.ex, fun a => ?_, fun a h1 h2 h3 => ?_, kp.grow⟩
    · obtain ⟨q1, q2⟩ := q a
      have := b1 a
      exact ⟨by omega, fun z => q2 (by omega)⟩
    · have e1 := frO_one h1 h2 h3
      obtain ⟨q1, q2⟩ := q a
      have := b1 a
      rw [e1] at q1 q2
      exact ⟨kp.keep a (by rw [e1]; decide), by omega, (q2 (by omega)).1⟩

/-! ### calls of such defs -/
abbrev WEX := Rho → (RV → Rho → Prop) → PK → Prop
abbrev REX (K : PySem.W.Frag) (W : WX) (t : TE) (w : WEX) : Prop := ∀ (σ : Sg) (H F : Hp) (ρ : Rho) (fr : Fp) (Q : RV → Rho → Prop) (P : PK) (Q' : VK), SI K F H σ ρ fr → ExOk K F H fr P W → w ρ Q P →
    (∀ v H' F' ρ' r m, Q r ρ' → RVok K F' H' σ r v m → SI K F' H' σ ρ' (padd fr m) → Kp F H fr F' H' → Q' v H') → t σ H Q'
structure DEX (X : Cx) (W : WX) (e : Expr) (w : WEX) : Prop where
  run : ∃ t : TE, PE X e t ∧ REX X.K W t w
def wCallX (np : Nat) (bs : List Bool) (φ : FSX) (ws : WA) : WEX := fun ρ Q P => ws ρ fun rs ρ1 => bmt (decide (rs.length = np)) (argsD bs rs ρ1 fun ts is ρ2 => φ ts (fun r ts' => Q (.tm r) (putB is ts' ρ2)) fun n y ts' => P n y (putB is ts' ρ2)) False
section
variable {X : Cx} {W : WX} {k np : Nat} {f : Addr} {fd : FuncData} {ps : List Str} {φ : FSX} {x : Str} {p pos : Pos} {e : Expr} {es : List Expr} {ws : WA} {bs : List Bool}
theorem callX_run {K : PySem.W.Frag} {t : TA} (ra : ∀ (σ : Sg) (H F : Hp) (ρ : Rho) (fr : Fp) (Q : List RV → Rho → Prop) (Q' : List V → Hp → Prop), SI K F H σ ρ fr → ws ρ Q →
    (∀ vs H' F' ρ' rs m, Q rs ρ' → RVsOk K F' H' σ rs vs m → SI K F' H' σ ρ' (padd fr m) → Kp F H fr F' H' → Q' vs H') → t σ H Q') : REX K W (tCallS (spX K np φ) (L2.WE W) t) (wCallX np bs φ ws) := by
  intro σ H F ρ fr Q P Q' S Ex hw k
  refine ra σ H F ρ fr _ _ S hw fun vs H1 F1 ρ1 rs m hw o S1 k1 => ?_
  obtain ⟨hl, hw⟩ := bmt_and hw
  obtain ⟨ts, is, ρ2, F2, n, hw, ot, s, S2, al⟩ := argsD_ok S1 o hw
  obtain ⟨m2, w2, q⟩ := S2.own
  have back : ∀ (ts' : List OT) (H' F' : Hp) (mv m' : Fp), OwnTs K F' H' ts' vs m' → CallEnd K F2 H1 n F' H' (padd mv m') → SI K F' H' σ (putB is ts' ρ2) (padd fr mv) ∧ Kp F H fr F' H' := by
    intro ts' H' F' mv m' o2 ce
    have w3 : OwnS K F' H' ρ2 σ m2 := w2.kp ce.sF fun a z => by
      obtain ⟨q1, q2⟩ := q a
      obtain ⟨e1, e2⟩ := q2 (by unfold padd; omega)
      unfold padd at q1
      exact (ce.keep a e2 e1 (by omega)).1
    obtain ⟨m4, w4, e4⟩ := putB_ok al o2 w3
    refine ⟨⟨ce.ex, m4, w4, fun a => ?_⟩, ?_⟩
    · obtain ⟨q1, q2⟩ := q a
      obtain ⟨c1, c2⟩ := ce.ok a
      have e4 := e4 a
      unfold padd at q1 q2 c1 c2 ⊢
      by_cases hz : m2 a + fr a = 0
      · exact ⟨by omega, fun z => c2 (by omega)⟩
      · obtain ⟨e1, e2⟩ := q2 (by omega)
        have ck := ce.keep a e2 e1 (by omega)
        have hk0 : mv a + m' a = 0 := ck.2.1
        refine ⟨by omega, fun _ => ⟨ck.2.2, ?_⟩⟩
        rw [ck.1]
        exact e2
    · refine (k1.trans (Kp.ofF s)).trans ⟨ce.sF, fun a z => ?_, ce.grow⟩
      obtain ⟨q1, q2⟩ := q a
      obtain ⟨e1, e2⟩ := q2 (by unfold padd; omega)
      unfold padd at q1
      exact (ce.keep a e2 e1 (by omega)).1
  refine ⟨o.len.trans hl, F2, ts, n, S2.ex, ot, ⟨fun a => ?_⟩, _, _, hw, ?_, ?_⟩
  · obtain ⟨q1, q2⟩ := q a
    unfold padd at q1 q2
    exact ⟨by omega, fun z => q2 (by omega)⟩
  · intro r ts' hq v H' F' mv m' o1 o2 ce
    obtain ⟨S4, kk⟩ := back ts' H' F' mv m' o2 ce
    exact k v H' F' _ (.tm r) mv hq o1 S4 kk
  · intro nm y ts' hq cls dd H' F' m' xd o2 ce
    obtain ⟨S4, kk⟩ := back ts' H' F' z0 m' o2 (by rw [z_padd]; exact ce)
    exact Ex.ex nm y σ H' F' _ cls dd hq xd S4 kk
theorem dex_call (G : FnOk X.prog X.w X.K X.mg X.base (L2.CX X.prog X.w) k f fd ps (spX X.K np φ)) (tk : Takes X W) (hr : Room k X.A) (hg : Gl X x) (hm : X.mg x = some (.ref f)) (hk : PySem.W.keepIn X.K (.ref f) = true) (hb : Binds X.K fd ps []) (bs : List Bool) (ha : DA X (e :: es) ws)
    (hdb : (x == ("__debug__" : Str)) = false := by decide) (he : starEach (e :: es) X.env = (false, eval e X.env) :: starEach es X.env := by rfl) (hpl : (backTo pos (starEach es X.env)).any (·.1) = false := by rfl) :
    DEX X W (.Call (.Name x p) (e :: es) [] pos) (wCallX np bs φ ws) := by
  obtain ⟨⟨t, pa, ra⟩⟩ := ha
  exact ⟨⟨_, pe_callS G hr hg hm hk hb (fun σ => passAt tk σ) pa hdb he hpl, callX_run ra⟩⟩
/-- .. where it doesn't raise -/
def wCallN (np : Nat) (bs : List Bool) (φ : FSX) (ws : WA) : WE := fun ρ Q => wCallX np bs φ ws ρ Q fun _ _ _ => False
end
end DL

namespace DL
open PySem PySem.Spec PyProof.Rows L2
section
variable {X : Cx} {W : WX} {k np : Nat} {f : Addr} {fd : FuncData} {ps : List Str} {φ : FSX} {x : Str} {p pos pos' apos cpos p0 : Pos} {e : Expr} {es : List Expr} {ws : WA} {bs : List Bool} {i : Nat} {wa : WE}
/-- anything, where one never comes -/
def wNo : WE := fun _ _ => False
theorem de_no : DE X e wNo := ⟨⟨fun _ _ _ => False, ⟨fun _ _ _ _ _ _ h => h.elim⟩, fun σ H F ρ fr Q Q' S hw k => hw.elim⟩⟩
theorem dex_no {w : WEX} (hw : ∀ ρ Q P, ¬ w ρ Q P) : DEX X W e w := ⟨⟨fun _ _ _ => False, ⟨fun _ _ _ _ _ _ h => h.elim⟩, fun σ H F ρ fr Q P Q' S Ex h k => hw _ _ _ h⟩⟩
/-- a def that may raise, called where it doesn't -/
theorem de_callN (G : FnOk X.prog X.w X.K X.mg X.base (L2.CX X.prog X.w) k f fd ps (spX X.K np φ)) (hr : Room k X.A) (hg : Gl X x) (hm : X.mg x = some (.ref f)) (hk : PySem.W.keepIn X.K (.ref f) = true) (hb : Binds X.K fd ps []) (bs : List Bool) (ha : DA X (e :: es) ws)
    (hdb : (x == ("__debug__" : Str)) = false := by decide) (he : starEach (e :: es) X.env = (false, eval e X.env) :: starEach es X.env := by rfl) (hpl : (backTo pos (starEach es X.env)).any (·.1) = false := by rfl) :
    DE X (.Call (.Name x p) (e :: es) [] pos) (wCallN np bs φ ws) := by
  obtain ⟨⟨t, pa, ra⟩⟩ := dex_call (W := fun _ _ _ _ => False) G takes0 hr hg hm hk hb bs ha hdb he hpl
  exact ⟨⟨t, pa, fun σ H F ρ fr Q Q' S hw k => ra σ H F ρ fr Q (fun _ _ _ => False) Q' S ⟨fun _ _ _ _ _ _ _ _ h => h.elim⟩ hw k⟩⟩
/-! statements with such a call on top -/
def wDropX (wx : WEX) : WS := fun d ρ => wx ρ (fun _ ρ1 => d.nx ρ1) d.ex
def wRetX (wx : WEX) : WS := fun d ρ => wx ρ d.rt d.ex
def wSetX (wx : WEX) (i : Nat) : WS := fun d ρ => wx ρ (fun r ρ1 => toSlot i r ρ1 d.nx) d.ex
variable {wx : WEX}
theorem dsx_expr (h : DEX X W e wx) (hs : swapsWith e none pos.line X.env = pure false := by rfl) : DSX X W (.Expr e pos) (wDropX wx) := by
  obtain ⟨⟨t, p, r⟩⟩ := h
  refine ⟨⟨_, ps_expr p hs, fun σ H F ρ fr d e S E Ex h => ?_⟩⟩
  exact r σ H F ρ fr _ _ _ S Ex h fun v H' F' ρ' r m a b c k => E.nx σ H' F' ρ' a c.left k
theorem dsx_ret (h : DEX X W e wx) : DSX X W (.Return (some e) pos) (wRetX wx) := by
  obtain ⟨⟨t, p, r⟩⟩ := h
  refine ⟨⟨_, ps_ret p, fun σ H F ρ fr d e S E Ex h => ?_⟩⟩
  exact r σ H F ρ fr _ _ _ S Ex h fun v H' F' ρ' r m a b c k => E.rt v H' F' σ ρ' r m a b c k
theorem dsx_set (hN : X.N.Nodup) (hi : X.N[i]? = some x) (hx : Loc X.env.scope x) (he : DEX X W e wx) (hs : swapsWith e (some (.Name x pos')) pos.line X.env = pure false := by rfl)
    (hf : X.fn x = true ∨ X.env.scope.names.lookup x = some .local := by first | exact .inl rfl | exact .inr rfl | assumption) : DSX X W (.Assign [.Name x pos'] e pos) (wSetX wx i) := by
  obtain ⟨⟨t, p, r⟩⟩ := he
  refine ⟨⟨_, ps_set hN hi hx p hs hf, fun σ H F ρ fr d e S E Ex h => ?_⟩⟩
  refine r σ H F ρ fr _ _ _ S Ex h fun v H' F' ρ' r m a b c k => ?_
  obtain ⟨ρ2, F2, q, S2, s⟩ := toSlot_ok c b a
  exact E.nx _ H' F2 ρ2 q S2 (k.trans (Kp.ofF s))
/-- l.append(f(..)) -/
def wAppX (i : Nat) (wx : WEX) : WS := fun d ρ => isOwn ρ i <| wx ρ (fun r ρ1 => frz r ρ1 fun x ρ2 => match look ρ2 i with
  | some (.lst p ds) => ds.length < sizeLine ∧ d.nx (ρ2.set i (some (.lst p (ds ++ [x]))))
  | _ => False) d.ex
theorem dsx_app (hN : X.N[i]? = some x) (hv : Vis X.env.scope x) (ha : DEX X W e wx)
    (hd : (x == ("__debug__" : Str)) = false := by decide) (hcd : (x == ("__classdict__" : Str)) = false := by decide)
    (hbase : attributeBase (.Name x p0) "append" X.env (eval (.Name x p0) X.env) = eval (.Name x p0) X.env := by rfl)
    (hfew : ((backTo cpos (starEach [e] X.env)).all (fun x => !x.1) && (backToKw cpos (keywordEach [] X.env)).all (fun x => x.1.isSome)
      && decide ([e].length + ([] : List Keyword).length + (if ([] : List Keyword).isEmpty then 0 else 1) < 30)) = true := by rfl)
    (hline : (apos.endLine == cpos.line) = true := by rfl) (hs : starEach (e :: []) X.env = (false, eval e X.env) :: starEach [] X.env := by rfl) (hplain : (backTo cpos (starEach [] X.env)).any (·.1) = false := by rfl)
    (hsw : swapsWith (.Call (.Attribute (.Name x p0) "append" apos) [e] [] cpos) none pos.line X.env = pure false := by rfl) :
    DSX X W (.Expr (.Call (.Attribute (.Name x p0) "append" apos) [e] [] cpos) pos) (wAppX i wx) := by
  obtain ⟨⟨t, p, r⟩⟩ := ha
  refine ⟨⟨_, ps_expr (pe_bm PySem.F.plainAttrs_list PySem.F.slot_list_append PySem.F.type_list_append mt_append (pe_var hN hv hd hcd) (pa_cons p pa_nil hs) hbase hfew hline hs hplain) hsw, fun σ H F ρ fr d e S E Ex h => ?_⟩⟩
  obtain ⟨⟨q, ds0, e0⟩, h⟩ := isOwn_iff h
  obtain ⟨vs, e1, hp, _, _⟩ := S.lst e0
  refine ⟨.ref q, e1, .inl ⟨rfl, _, SqL.of hp⟩, ?_⟩
  refine r σ H F ρ fr _ _ _ S Ex h fun v H1 F1 ρ1 r1 m a b c k1 => ?_
  obtain ⟨y, ρ2, F2, a, dp, s, S2⟩ := frz_ok c b (fun a => by unfold padd; omega) a
  have S2' : SI X.K F2 H1 σ ρ2 fr := S2.less fun a => by unfold padd; omega
  split at a
  · rename_i q' ds e2
    obtain ⟨vs', e1', hp', ha', fin⟩ := S2'.lst e2
    rw [e1] at e1'
    cases e1'
    obtain ⟨S3, k3⟩ := fin (vs' ++ [v]) (ds ++ [y]) (ha'.append (.cons dp .nil))
    exact ⟨q, vs', v, rfl, rfl, hp', by rw [ha'.length]; exact a.1, E.nx σ _ F2 _ a.2 S3 ((k1.trans (Kp.ofF s)).trans k3)⟩
  · exact a.elim
end

/-! ### raise, of a class without its own __init__ -/
abbrev veMro : List Value := [.type "ValueError", .type "Exception", .type "BaseException", .type "object"]
structure XPlain (K : PySem.W.Frag) (mg : Str → Option Value) (n : Str) : Prop where
  ex : ∃ C, mg n = some (.ref C) ∧ PySem.W.nsIn K mainGlobals n = some (some (.ref C)) ∧ PySem.W.excIn K C veMro "ValueError.__new__" = true ∧ PySem.W.keepIn K (.ref C) = true ∧
    PySem.W.subIn K (.ref C) (.type "BaseException") = some true ∧ PySem.W.typeIn K (.ref C) = some (.type "type")
def wRaise (n : Str) : WS := fun d ρ => d.ex n none ρ
section
variable {X : Cx} {W : WX} {n m : Str} {j : Nat} {p p2 pos cpos : Pos}
theorem dsx_raise (hc : X.calm = true) (tk : Takes X W) (T : XPlain X.K X.mg n) (hg : Gl X n) (hdb : (n == ("__debug__" : Str)) = false := by decide) :
    DSX X W (.Raise (some (.Call (.Name n p) [.Constant (.str m) j p2] [] cpos)) none pos) (wRaise n) := by
  obtain ⟨C, h1, h2, h3, h4, h5, h6⟩ := T.ex
  refine ⟨⟨_, ps_raise hc tk (pmk_own PySem.F.excBase_ValueError h3 h1 h4 (raises_own h5 h6) hg hdb), fun σ H F ρ fr d e S E Ex h => ?_⟩⟩
  exact Ex.ex n none σ H F ρ (.ref C) none h ⟨C, rfl, h2, rfl⟩ S Kp.refl
end

/-! ### try: .. except T as n: m = n -/
def wTry (cat : Str → Bool) (i j : Nat) (wb : WS) : WS := fun d ρ => wb { d with ex := fun nm y ρ' => cat nm = true ∧ d.nx ((ρ'.set j (some (.exc nm y))).set i none) } ρ
section
variable {X : Cx} {x n m : Str} {c : Value} {i j : Nat} {body : List Stmt} {np mp np2 pos pos' apos : Pos} {wb : WS} {cat : Str → Bool}
theorem SI.unset {K : PySem.W.Frag} {F H : Hp} {σ : Sg} {ρ : Rho} {fr : Fp} (S : SI K F H σ ρ fr) (i : Nat) : SI K F H (σ.set i none) (ρ.set i none) fr := by
  obtain ⟨m, o, q⟩ := S.own
  obtain ⟨m', o', h⟩ := OwnS.unset o i
  refine ⟨S.ex, m', o', fun a => ?_⟩
  obtain ⟨q1, q2⟩ := q a
  have := h a
  exact ⟨by omega, fun z => q2 (by omega)⟩
theorem ds_try (hs : X.stack = X.env :: X.outer) (hf : X.env.frame = some X.env.locals) (hex : X.ex = []) (hN : X.N.Nodup) (hi : X.N[i]? = some n) (hj : X.N[j]? = some m) (hij : i ≠ j) (hln : X.env.kindOf n = some .local) (hlm : X.env.kindOf m = some .local) (hc : Names X x c)
    (hcat : ∀ nm C, cat nm = true → PySem.W.nsIn X.K mainGlobals nm = some (some (.ref C)) → PySem.W.exmOne X.K (.ref C) c = some true)
    (hb : ∀ (W : WX) pn xe, Takes (X.tr pn xe) W → PassesOwn (model X.prog X.w) X.A X.env xe → DSsX (X.tr pn xe) W body wb)
    (hnd : (n == ("__debug__" : Str)) = false := by decide) (hnc : (n == ("__classdict__" : Str)) = false := by decide)
    (hsw : ∀ a oe pn, swapsWith (.Name n np2) (some (.Name m mp)) apos.line (X.suite a ((a, oe) :: pn)).env = pure false := by intro _ _ _; rfl) :
    DS X (.Try body [.ExceptHandler (some (.Name x np)) (some n) [.Assign [.Name m mp] (.Name n np2) apos] pos'] [] [] pos) (wTry cat i j wb) := by
  refine ⟨⟨_, ps_try_catch hs hf hex hN hi hj hij hln hlm hc hnd hnc hsw, fun σ H F ρ fr d e S E h => ?_⟩⟩
  intro pn xe tk po
  obtain ⟨⟨t, p, r⟩⟩ := hb _ pn xe tk po
  refine ⟨t, p, r σ H F ρ fr { d with ex := fun nm y ρ' => cat nm = true ∧ d.nx ((ρ'.set j (some (.exc nm y))).set i none) } e S ⟨E.nx, E.bk, E.ct, E.rt⟩ ⟨fun nm y σ' H' F' ρ' cls dd a xd S' k => ?_⟩ h⟩
  obtain ⟨a1, a2⟩ := a
  obtain ⟨C, e1, e2, e3⟩ := id xd
  refine ⟨by rw [e1]; exact hcat nm C a1 e2, fun a ha => ?_⟩
  obtain ⟨S2, s2, k2⟩ := S'.newF (o := exK a cls dd) ha
  have S3 := SI.set (m := z0) (t := .exc nm y) S2 (own_exc (xd.t s2 upd_same)) j
  exact E.nx _ _ _ _ a2 (S3.unset i) (k.trans k2)
end

/-! ### a caught exception asked -/
def exSub (n c : Str) : Option Bool := if n = "NoWay" then some (decide (c = "NoWay" ∨ c = "TurnError" ∨ c = "ValueError")) else none
/-- the class c, told by cv, and those that are asked of it -/
def XIs (K : PySem.W.Frag) (c : Str) (cv : Value) : Prop := ∀ n b, exSub n c = some b → ∃ D, PySem.W.nsIn K mainGlobals n = some (some (.ref D)) ∧ ExcC K D ∧ PySem.W.kitOne K (.ref D) cv = some b
def wIsX (c : Str) (wa : WE) : WE := fun ρ Q => wa ρ fun r ρ1 => match r.ot ρ1 with
  | some (.exc n none) => (match exSub n c with | some b => Q (.fz (.bool b)) ρ1 | none => False)
  | _ => False
/-- isinstance(x, c) of a caught exception without fields -/
def rIsX (K : PySem.W.Frag) : List V → Hp → VK → Prop := fun xs H Q => ∃ (a D : Addr) (c : V) (cv : Value) (b : Bool), xs = [.ref a, c] ∧ (∀ u, RelV c u → u = cv) ∧ H a = some (exK a (.ref D) none) ∧ ExcC K D ∧ PySem.W.kitOne K (.ref D) cv = some b ∧ Q (.bl b) H
theorem call_isX {X : Cx} : CallR X (.builtin "isinstance") (rIsX X.K) := by
  intro pins s σ H xs us Q I r h
  obtain ⟨a, D, c, cv, b, rfl, hcv, ha, C, e, q⟩ := h
  cases r with
  | cons rx rr =>
    cases rr with
    | cons rt rr =>
      cases rr
      cases rx
      have ec := hcv _ rt
      subst ec
      obtain ⟨oe, vs, hget, h1, h2, hv⟩ := exK_at I.hok ha
      have J : PySem.W.InstAt s.heap a oe D none := by
        obtain ⟨oc, od, oda, osl⟩ := oe
        dsimp only at h1 h2 hv
        subst h1 h2 hv
        exact ⟨hget, rfl, rfl, trivial⟩
      exact PySem.W.kia_one (PySem.W.handS_kitx_exc C.hg C.hk C.hs C.hd C.ha C.hn C.ht C.hm) I.kIn J e (fun z => nomatch z) fun tk => ⟨.bl b, H, I.kept (t' := tk) fun _ _ z => z, rfl, q⟩
section
variable {X : Cx} {e : Expr} {wa : WE} {pos p p2 : Pos} {y : Str}
theorem isX_run {K : PySem.W.Frag} {ta : TE} {cv : Value} {c : V} (hI : XIs K y cv) (hcv : ∀ u, RelV c u → u = cv) (ra : RE K ta wa) : RE K (tCB (rIsX K) (tCons ta (tCons (tC c) tNil))) (wIsX y wa) := by
  intro σ H F ρ fr Q Q' S hw k
  refine ra σ H F ρ fr _ _ S hw fun v1 H1 F1 ρ1 r1 m1 hw o1 S1 k1 => ?_
  split at hw
  · rename_i n hr
    obtain ⟨m', o'⟩ := o1.own S1 hr
    split at hw
    · rename_i b hb
      obtain ⟨⟨a, C, d, rfl, h2, h3, h4⟩, _⟩ := o'
      have h4 : d = none := h4
      subst h4
      obtain ⟨D, g1, g2, g3⟩ := hI n b hb
      rw [h2] at g1
      cases g1
      exact ⟨a, C, c, cv, b, rfl, hcv, S1.ex _ _ h3, g2, g3, k _ H1 F1 ρ1 _ z0 hw ⟨.bl b, rfl⟩ S1.left k1⟩
    · exact hw.elim
  · exact hw.elim
theorem de_isX {C : Addr} (hg : Gl X "isinstance") (hm : X.mg "isinstance" = none) (hgT : Gl X y) (hmT : X.mg y = some (.ref C)) (hI : XIs X.K y (.ref C)) (ha : DE X e wa)
    (hv : bootBuiltins "isinstance" = some (.builtin "isinstance") := by decide +kernel) (hdy : (y == ("__debug__" : Str)) = false := by decide)
    (h1 : starEach [e, .Name y p2] X.env = (false, eval e X.env) :: starEach [.Name y p2] X.env := by rfl) (h2 : starEach [.Name y p2] X.env = (false, eval (.Name y p2) X.env) :: starEach [] X.env := by rfl)
    (hpl : (backTo pos (starEach [.Name y p2] X.env)).any (·.1) = false := by rfl) : DE X (.Call (.Name "isinstance" p) [e, .Name y p2] [] pos) (wIsX y wa) := by
  obtain ⟨⟨ta, pa, ra⟩⟩ := ha
  exact ⟨⟨_, pe_callB call_isX hg hm hv (pa_cons pa (pa_cons (pe_glob (v := .ref C) hgT hmT rfl hdy) pa_nil h2) h1) (by decide) (by decide) h1 hpl, isX_run hI (fun u r => r) ra⟩⟩
theorem de_isXB {T : String} (hg : Gl X "isinstance") (hm : X.mg "isinstance" = none) (hgT : Gl X y) (hmT : X.mg y = none) (hT : bootBuiltins y = some (.type T)) (hI : XIs X.K y (.type T)) (ha : DE X e wa)
    (hv : bootBuiltins "isinstance" = some (.builtin "isinstance") := by decide +kernel) (hny : y ≠ "__name__" := by decide) (hdy : (y == ("__debug__" : Str)) = false := by decide)
    (h1 : starEach [e, .Name y p2] X.env = (false, eval e X.env) :: starEach [.Name y p2] X.env := by rfl) (h2 : starEach [.Name y p2] X.env = (false, eval (.Name y p2) X.env) :: starEach [] X.env := by rfl)
    (hpl : (backTo pos (starEach [.Name y p2] X.env)).any (·.1) = false := by rfl) : DE X (.Call (.Name "isinstance" p) [e, .Name y p2] [] pos) (wIsX y wa) := by
  obtain ⟨⟨ta, pa, ra⟩⟩ := ha
  exact ⟨⟨_, pe_callB call_isX hg hm hv (pa_cons pa (pa_cons (pe_bltn (v := .ty T) hgT hmT hT rfl hny hdy) pa_nil h2) h1) (by decide) (by decide) h1 hpl, isX_run hI (fun u r => r) ra⟩⟩
/-- x is None, x is not None, x perhaps a caught exception -/
def isNoneX (t : OT) : Option Bool := match t with
  | .exc _ _ => some false
  | .fx _ => some false
  | t => t.data.map isNone
def wNonX (f : Bool → Bool) (wa : WE) : WE := fun ρ Q => wa ρ fun r ρ1 => match r.ot ρ1 with
  | some t => (match isNoneX t with | some b => Q (.fz (.bool (f b))) ρ1 | none => False)
  | none => False
theorem isNoneX_ok {K : PySem.W.Frag} {F H : Hp} {t : OT} {v : V} {m : Fp} {b : Bool} (o : OwnT K F H t v m) (s : Same F H) (h : isNoneX t = some b) : decide (v = .non) = b := by
  cases t with
  | exc n y =>
    obtain ⟨⟨a, C, d, rfl, _⟩, _⟩ := o
    cases h
    rfl
  | fx d =>
    obtain ⟨⟨a, o, rfl, _⟩, _⟩ := o
    cases h
    rfl
  | ox _ _ => cases h
  | fz d =>
    cases h
    exact isNone_dp (H := F) o.1
  | lst p ds =>
    cases h
    exact isNone_dp (OwnT.dp o s rfl)
  | lls p dss =>
    cases h
    exact isNone_dp (OwnT.dp o s rfl)
  | vv _ => cases h
theorem nonX_run {K : PySem.W.Frag} {ta : TE} {f : Bool → Bool} (ra : RE K ta wa) : ∀ (σ : Sg) (H F : Hp) (ρ : Rho) (fr : Fp) (Q : RV → Rho → Prop) (Q' : VK), SI K F H σ ρ fr → wNonX f wa ρ Q →
    (∀ b H' F' ρ', Q (.fz (.bool b)) ρ' → SI K F' H' σ ρ' fr → Kp F H fr F' H' → Q' (.bl b) H') → ta σ H fun v H1 => Q' (.bl (f (decide (v = .non)))) H1 := by
  intro σ H F ρ fr Q Q' S hw k
  refine ra σ H F ρ fr _ _ S hw fun v1 H1 F1 ρ1 r1 m1 hw o1 S1 k1 => ?_
  split at hw
  · rename_i t ht
    split at hw
    · rename_i b hb
      obtain ⟨m', o'⟩ := o1.own S1 ht
      rw [isNoneX_ok o' S1.ex hb]
      exact k _ H1 F1 ρ1 hw S1.left k1
    · exact hw.elim
  · exact hw.elim
end
end DL

namespace DL
open PySem PySem.Spec PyProof.Rows L2
section
variable {X : Cx} {e : Expr} {wa wb : WE} {pos p : Pos} {j : Nat}
theorem de_isNX (ha : DE X e wa) (hm : behindInMarks .Is (.Constant .none j p) = false := by rfl) : DE X (.Compare e [.Is] [.Constant .none j p] pos) (wNonX (fun b => b) wa) := by
  obtain ⟨⟨ta, pa, ra⟩⟩ := ha
  refine ⟨⟨_, pe_cmpR op_isN pa pe_non hm, fun σ H F ρ fr Q Q' S hw k => ?_⟩⟩
  refine ra σ H F ρ fr _ _ S hw fun v1 H1 F1 ρ1 r1 m1 hw o1 S1 k1 => ?_
  split at hw
  · rename_i t ht
    split at hw
    · rename_i b hb
      obtain ⟨m', o'⟩ := o1.own S1 ht
      refine ⟨rfl, ?_⟩
      rw [isNoneX_ok o' S1.ex hb]
      exact k _ H1 F1 ρ1 (.fz (.bool b)) z0 hw ⟨.bl b, rfl⟩ S1.left k1
    · exact hw.elim
  · exact hw.elim
theorem de_notNX (ha : DE X e wa) (hm : behindInMarks .IsNot (.Constant .none j p) = false := by rfl) : DE X (.Compare e [.IsNot] [.Constant .none j p] pos) (wNonX (fun b => !b) wa) := by
  obtain ⟨⟨ta, pa, ra⟩⟩ := ha
  refine ⟨⟨_, pe_cmpR op_notN pa pe_non hm, fun σ H F ρ fr Q Q' S hw k => ?_⟩⟩
  refine ra σ H F ρ fr _ _ S hw fun v1 H1 F1 ρ1 r1 m1 hw o1 S1 k1 => ?_
  split at hw
  · rename_i t ht
    split at hw
    · rename_i b hb
      obtain ⟨m', o'⟩ := o1.own S1 ht
      refine ⟨rfl, ?_⟩
      rw [isNoneX_ok o' S1.ex hb]
      exact k _ H1 F1 ρ1 (.fz (.bool (!b))) z0 hw ⟨.bl _, rfl⟩ S1.left k1
    · exact hw.elim
  · exact hw.elim
theorem dt_isNX (ha : DE X e wa) (hm : behindInMarks .Is (.Constant .none j p) = false := by rfl) : DT X (.Compare e [.Is] [.Constant .none j p] pos) (wTst (wNonX (fun b => b) wa)) := by
  obtain ⟨⟨ta, pa, ra⟩⟩ := ha
  refine ⟨⟨_, pt_cmpR op_isN pa pe_non hm, fun σ H F ρ fr Q Q' S hw k => ?_⟩⟩
  refine ra σ H F ρ fr _ _ S hw fun v1 H1 F1 ρ1 r1 m1 hw o1 S1 k1 => ?_
  split at hw
  · rename_i t ht
    split at hw
    · rename_i b hb
      obtain ⟨m', o'⟩ := o1.own S1 ht
      refine ⟨rfl, _, rfl, ?_⟩
      rw [isNoneX_ok o' S1.ex hb]
      exact k _ H1 F1 ρ1 hw S1.left k1
    · exact hw.elim
  · exact hw.elim
theorem dt_notNX (ha : DE X e wa) (hm : behindInMarks .IsNot (.Constant .none j p) = false := by rfl) : DT X (.Compare e [.IsNot] [.Constant .none j p] pos) (wTst (wNonX (fun b => !b) wa)) := by
  obtain ⟨⟨ta, pa, ra⟩⟩ := ha
  refine ⟨⟨_, pt_cmpR op_notN pa pe_non hm, fun σ H F ρ fr Q Q' S hw k => ?_⟩⟩
  refine ra σ H F ρ fr _ _ S hw fun v1 H1 F1 ρ1 r1 m1 hw o1 S1 k1 => ?_
  split at hw
  · rename_i t ht
    split at hw
    · rename_i b hb
      obtain ⟨m', o'⟩ := o1.own S1 ht
      refine ⟨rfl, _, rfl, ?_⟩
      rw [isNoneX_ok o' S1.ex hb]
      exact k _ H1 F1 ρ1 hw S1.left k1
    · exact hw.elim
  · exact hw.elim
end
/-! ### l.count(x), l.index(x) -/
def rCountD (K : PySem.W.Frag) : V → List V → Hp → VK → Prop := fun x xs H Q => ∃ (a : Addr) (y : V) (d : PyData) (ds : List PyData), x = V.ref a ∧ xs = [y] ∧ Dp K H (V.ref a) (.list ds) ∧ Dp K H y d ∧
  SeqAt.shaped (.list ds) = true ∧ SeqAt.shaped d = true ∧ Q (.int ((ds.countP fun z => PyData.eqv z d : Nat) : Int)) H
theorem mt_countD {X : Cx} (hu : X.A.units + 65 < cLine) : MtR X "list.count" (rCountD X.K) := by
  intro pins s σ H x xs v us Q I rx rxs h
  obtain ⟨a, y, d, ds, rfl, rfl, hl, hy, sl, sd, q⟩ := h
  cases rx
  cases rxs with
  | @cons _ uy _ ut ry rt =>
    cases rt
    obtain ⟨bs, r1⟩ := Dp.reads I d y uy hy ry
    have hxs : PyData.canLayAll0 ds = true := SeqAt.canLay_of_shaped sl
    have hroom : X.A.units + 1 + min (PyData.depthAll ds) d.depth < cLine := room_in_shaped sd hu
    cases hl with
    | lst hs ha =>
      obtain ⟨its, rv, ⟨⟨cls, dd, data, sls⟩, n, ho, hc, hdn, hdt⟩, hlen⟩ := I.list hs
      simp only at hc hdt
      subst hc hdt
      obtain ⟨as, h4⟩ := Dp.readsAll I ds _ its ha rv
      have hmap : its.map (SeqAt.readOf s.heap) = ds := SeqAt.readsAll_map ds its as hxs h4
      refine call_meets PySem.F.slot_list_count ⟨_, ho, rfl⟩ PySem.F.entry_list_count (PySem.F.args_list_count_2 _ _)
        (PySem.SeqAt.list_countAt a its.toArray n dd sls uy (fun u => PyData.eqv (SeqAt.readOf s.heap u) d)) ⟨ho, SeqAt.items_eqAt (vs := its.toArray) (show ReadsAll s.heap its.toArray.toList ds as from h4) r1 hxs (SeqAt.canLay_of_shaped sd) hroom, ?_⟩
      have e1 : (its.toArray.toList.countP fun u => PyData.eqv (SeqAt.readOf s.heap u) d) = ds.countP fun z => PyData.eqv z d := by
        rw [← hmap, List.countP_map]
        rfl
      rw [e1]
      exact ⟨.int _, H, I.tok _, ⟨_, rfl⟩, q⟩
/-- the list of a name -/
def listOf (r : RV) (ρ : Rho) : Option (List PyData) := match r.dat ρ with
  | some (.list ds) => some ds
  | _ => none
def wM_count (wo : WE) (ws : WA) : WE := fun ρ Q => wo ρ fun r1 ρ1 => ws ρ1 fun rs ρ2 => match listOf r1 ρ2, rs with
  | some ds, [r2] => (match r2.dat ρ2 with
    | some d => SeqAt.shaped (.list ds) = true ∧ SeqAt.shaped d = true ∧ Q (.fz (.int ((ds.countP fun z => PyData.eqv z d : Nat) : Int))) ρ2
    | none => False)
  | _, _ => False
def wM_index (wo : WE) (ws : WA) : WE := fun ρ Q => wo ρ fun r1 ρ1 => ws ρ1 fun rs ρ2 => match listOf r1 ρ2, rs with
  | some ds, [r2] => (match r2.dat ρ2 with
    | some d => SeqAt.shaped (.list ds) = true ∧ SeqAt.shaped d = true ∧ (match ixOf d ds with | some j => Q (.fz (.int (j : Nat))) ρ2 | none => False)
    | none => False)
  | _, _ => False
/-- a list whose value is asked first, and told to be one at once -/
def wLfirst (wo : WE) : WE := fun ρ Q => wo ρ fun r ρ1 => match listOf r ρ1 with
  | some _ => Q r ρ1
  | none => False
section
variable {X : Cx} {o e : Expr} {wo : WE} {ws : WA} {pos apos : Pos} {n : Nat}
theorem listOf_dp {K : PySem.W.Frag} {F H : Hp} {σ : Sg} {ρ : Rho} {fr m : Fp} {r : RV} {v : V} {ds : List PyData} (o : RVok K F H σ r v m) (S : SI K F H σ ρ fr) (h : listOf r ρ = some ds) : Dp K H v (.list ds) := by
  unfold listOf at h
  split at h
  · rename_i ds' e
    cases h
    exact o.dp S e
  · cases h
theorem dp_seqL {K : PySem.W.Frag} {H : Hp} {v : V} {ds : List PyData} (h : Dp K H v (.list ds)) : ∃ a xs, v = .ref a ∧ SqL K H a xs := by
  cases h with
  | lst hs _ => exact ⟨_, _, rfl, hs⟩
theorem de_m_count (hr : Room n X.A) (ho : DE X o wo) (ha : DA X [e] ws)
    (hbase : attributeBase o "count" X.env (eval o X.env) = eval o X.env := by rfl)
    (hfew : ((backTo pos (starEach [e] X.env)).all (fun x => !x.1) && (backToKw pos (keywordEach [] X.env)).all (fun x => x.1.isSome)
      && decide ([e].length + ([] : List Keyword).length + (if ([] : List Keyword).isEmpty then 0 else 1) < 30)) = true := by rfl)
    (hline : (apos.endLine == pos.line) = true := by rfl) (hs : starEach [e] X.env = (false, eval e X.env) :: starEach [] X.env := by rfl) (hplain : (backTo pos (starEach [] X.env)).any (·.1) = false := by rfl) :
    DE X (.Call (.Attribute o "count" apos) [e] [] pos) (wM_count (wLfirst wo) ws) := by
  obtain ⟨⟨to, po, ro⟩⟩ := ho
  obtain ⟨⟨ta, pa, ra⟩⟩ := ha
  refine ⟨⟨_, pe_bm PySem.F.plainAttrs_list PySem.F.slot_list_count PySem.F.type_list_count (mt_countD (units65 hr)) po pa hbase hfew hline hs hplain, fun σ H F ρ fr Q Q' S hw k => ?_⟩⟩
  refine ro σ H F ρ fr _ _ S hw fun v1 H1 F1 ρ1 r1 m1 hw o1 S1 k1 => ?_
  split at hw
  · rename_i ds0 e0
    obtain ⟨a, xs, rfl, hsq⟩ := dp_seqL (listOf_dp o1 S1 e0)
    refine ⟨.inl ⟨rfl, xs, hsq⟩, ?_⟩
    refine ra σ H1 F1 ρ1 _ _ _ S1 hw fun vs H2 F2 ρ2 rs m2 hw o2 S2 k2 => ?_
    split at hw
    · rename_i ds r2 e1
      cases o2 with
      | cons ob ot =>
        cases ot
        split at hw
        · rename_i d e2
          exact ⟨a, _, d, ds, rfl, rfl, listOf_dp (o1.kp k2) S2 e1, ob.dp S2 e2, hw.1, hw.2.1, k _ H2 F2 ρ2 _ z0 hw.2.2 ⟨.int _, rfl⟩ S2.left.left (k1.trans k2.left)⟩
        · exact hw.elim
    · exact hw.elim
  · exact hw.elim
theorem de_m_index (hr : Room n X.A) (ho : DE X o wo) (ha : DA X [e] ws)
    (hbase : attributeBase o "index" X.env (eval o X.env) = eval o X.env := by rfl)
    (hfew : ((backTo pos (starEach [e] X.env)).all (fun x => !x.1) && (backToKw pos (keywordEach [] X.env)).all (fun x => x.1.isSome)
      && decide ([e].length + ([] : List Keyword).length + (if ([] : List Keyword).isEmpty then 0 else 1) < 30)) = true := by rfl)
    (hline : (apos.endLine == pos.line) = true := by rfl) (hs : starEach [e] X.env = (false, eval e X.env) :: starEach [] X.env := by rfl) (hplain : (backTo pos (starEach [] X.env)).any (·.1) = false := by rfl) :
    DE X (.Call (.Attribute o "index" apos) [e] [] pos) (wM_index (wLfirst wo) ws) := by
  obtain ⟨⟨to, po, ro⟩⟩ := ho
  obtain ⟨⟨ta, pa, ra⟩⟩ := ha
  refine ⟨⟨_, pe_bm PySem.F.plainAttrs_list PySem.F.slot_list_index PySem.F.type_list_index (mt_indexD (units65 hr)) po pa hbase hfew hline hs hplain, fun σ H F ρ fr Q Q' S hw k => ?_⟩⟩
  refine ro σ H F ρ fr _ _ S hw fun v1 H1 F1 ρ1 r1 m1 hw o1 S1 k1 => ?_
  split at hw
  · rename_i ds0 e0
    obtain ⟨a, xs, rfl, hsq⟩ := dp_seqL (listOf_dp o1 S1 e0)
    refine ⟨.inl ⟨rfl, xs, hsq⟩, ?_⟩
    refine ra σ H1 F1 ρ1 _ _ _ S1 hw fun vs H2 F2 ρ2 rs m2 hw o2 S2 k2 => ?_
    split at hw
    · rename_i ds r2 e1
      cases o2 with
      | cons ob ot =>
        cases ot
        split at hw
        · rename_i d e2
          obtain ⟨h1, h2, hw⟩ := hw
          split at hw
          · rename_i j hj
            obtain ⟨z', hz, hzj, hno⟩ := ixOf_some hj
            exact ⟨a, _, d, ds, j, z', rfl, rfl, listOf_dp (o1.kp k2) S2 e1, ob.dp S2 e2, h1, h2, hz, hzj, hno, k _ H2 F2 ρ2 _ z0 hw ⟨.int _, rfl⟩ S2.left.left (k1.trans k2.left)⟩
          · exact hw.elim
        · exact hw.elim
    · exact hw.elim
  · exact hw.elim
end
/-! ### the classes' facts -/
def catNoWay (nm : Str) : Bool := decide (nm = "NoWay")
theorem cat_NoWay {K : PySem.W.Frag} {D : Addr} {c : Value} (q : PySem.W.nsIn K mainGlobals "NoWay" = some (some (.ref D))) (h : PySem.W.exmOne K (.ref D) c = some true) :
    ∀ nm C, catNoWay nm = true → PySem.W.nsIn K mainGlobals nm = some (some (.ref C)) → PySem.W.exmOne K (.ref C) c = some true := by
  intro nm C h1 h2
  have e : nm = "NoWay" := of_decide_eq_true h1
  subst e
  rw [q] at h2
  cases h2
  exact h
theorem kit_refs {K : PySem.W.Frag} {D C : Addr} {b : Bool} (h1 : PySem.W.isClsIn K C = true) (h2 : PySem.W.typeIn K (.ref C) = some (.type "type")) (h3 : PySem.W.subIn K (.ref D) (.ref C) = some b) (h4 : D = C → b = true) : PySem.W.kitOne K (.ref D) (.ref C) = some b := by
  unfold PySem.W.kitOne
  by_cases e : D = C
  · subst e
    rw [if_pos (by simp), h4 rfl]
  · rw [if_neg (by simpa using e)]
    unfold PySem.W.kitCls
    have e2 : ((PySem.W.clsIn K C).isSome && PySem.W.typeIn K (.ref C) == some (.type "type")) = true := by
      rw [show (PySem.W.clsIn K C).isSome = true from h1, h2]
      rfl
    show (if ((PySem.W.clsIn K C).isSome && PySem.W.typeIn K (.ref C) == some (.type "type")) = true then PySem.W.subIn K (.ref D) (.ref C) else none) = some b
    rw [if_pos e2]
    exact h3
theorem kit_VE {K : PySem.W.Frag} {D : Addr} {b : Bool} (h3 : PySem.W.subIn K (.ref D) (.type "ValueError") = some b) : PySem.W.kitOne K (.ref D) (.type "ValueError") = some b := by
  unfold PySem.W.kitOne
  rw [if_neg (by simp)]
  unfold PySem.W.kitCls
  show (if PySem.W.kitMeta "ValueError" = true then PySem.W.subIn K (.ref D) (.type "ValueError") else none) = some b
  rw [if_pos (by decide +kernel)]
  exact h3
theorem xis_mk {K : PySem.W.Frag} {c : Str} {cv : Value} {D : Addr} (q : PySem.W.nsIn K mainGlobals "NoWay" = some (some (.ref D))) (E : ExcC K D) (h : PySem.W.kitOne K (.ref D) cv = some (decide (c = "NoWay" ∨ c = "TurnError" ∨ c = "ValueError"))) : XIs K c cv := by
  intro n b e
  unfold exSub at e
  split at e
  · rename_i e1
    subst e1
    cases e
    exact ⟨D, q, E, h⟩
  · cases e
/-! ### x += e, whole numbers -/
def wAugI (f : Int → Int → Int) (i : Nat) (wa : WE) : WS := fun d ρ => match look ρ i with
  | some (.fz (.int a)) => wa ρ fun r ρ1 => (match r.dat ρ1 with | some (.int b) => d.nx (ρ1.set i (some (.fz (.int (f a b))))) | _ => False)
  | _ => False
section
variable {X : Cx} {e : Expr} {wa : WE} {pos pos' : Pos} {i : Nat} {x : Str} {f : Int → Int → Int} {op : Operator}
theorem ds_augI (hp : PIp X op (ipI f)) (hN : X.N.Nodup) (hi : X.N[i]? = some x) (hx : Loc X.env.scope x) (he : DE X e wa) (hf : X.fn x = true ∨ X.env.scope.names.lookup x = some .local := by first | exact .inl rfl | exact .inr rfl | assumption) : DS X (.AugAssign (.Name x pos') op e pos) (wAugI f i wa) := by
  obtain ⟨⟨t, p, r⟩⟩ := he
  refine ⟨⟨_, ps_aug hN hi hx p hp hf, fun σ H F ρ fr d e S E h => ?_⟩⟩
  have h' := h
  unfold wAugI at h'
  split at h'
  · rename_i a ha
    obtain ⟨v, m1, e1, o⟩ := S.slot ha
    obtain ⟨o1, _⟩ := o
    cases o1
    refine ⟨.int a, e1, ?_⟩
    refine r σ H F ρ fr _ _ S h' fun v H1 F1 ρ1 r1 m1 hw o1 S1 k1 => ?_
    split at hw
    · rename_i b hb
      have d2 := o1.dp S1 hb
      cases d2
      exact ⟨a, b, rfl, rfl, E.nx _ H1 F1 _ hw (SI.setF S1.left (.int (f a b)) i) k1⟩
    · exact hw.elim
  · exact h'.elim
end
abbrev wAugA := wAugI fun i j => i + j
abbrev wAugS := wAugI fun i j => i - j
section
variable {X : Cx} {e : Expr} {wa : WE} {pos pos' : Pos} {i : Nat} {x : Str}
theorem ds_augA (hN : X.N.Nodup) (hi : X.N[i]? = some x) (hx : Loc X.env.scope x) (he : DE X e wa) (hf : X.fn x = true ∨ X.env.scope.names.lookup x = some .local := by first | exact .inl rfl | exact .inr rfl | assumption) : DS X (.AugAssign (.Name x pos') .Add e pos) (wAugA i wa) := ds_augI ip_add hN hi hx he hf
theorem ds_augS (hN : X.N.Nodup) (hi : X.N[i]? = some x) (hx : Loc X.env.scope x) (he : DE X e wa) (hf : X.fn x = true ∨ X.env.scope.names.lookup x = some .local := by first | exact .inl rfl | exact .inr rfl | assumption) : DS X (.AugAssign (.Name x pos') .Sub e pos) (wAugS i wa) := ds_augI ip_sub hN hi hx he hf
end
end DL

namespace DL
open PySem PySem.Spec PyProof.Rows L2
/-! ### t[::-1] of a tuple -/
section
open HT
variable {prog : Program} {w : World} {A : Around} {E : Value → Shared → Prop} {s : Shared}
theorem places_rev (n : Nat) : Builtin.Slice.slicePlaces ((n : Int) - 1) (-1) (-1) = n := by
  unfold Builtin.Slice.slicePlaces
  have h1 : ¬ ((-1 : Int) > 0) := by omega
  simp only [h1, if_false, Int.neg_neg, Int.ediv_one]
  split <;> omega
theorem sliceApplied_rev {sl : Addr} {vl vu vs : Value} {n : Nat} {Q : Int × Int × Nat → Shared → Prop} (hs : s.heap.IsSliceOf sl vl vu vs) (pl : IsPart vl none) (pu : IsPart vu none) (ps : IsPart vs (some (-1)))
    (h : Q ((n : Int) - 1, -1, n) s) : wpAny (model prog w) A (Builtin.Slice.sliceApplied (.ref sl) (pure (n : Int))) Q E s := by
  obtain ⟨os, hos, hcs, hds⟩ := id hs
  unfold Builtin.Slice.sliceApplied Builtin.Slice.sliceFields
  refine wpAny_bind (wpAny_bind (wpAny_field hos hds (x := vl) rfl (wpAny_bind (wpAny_field hos hds (x := vu) rfl (wpAny_bind (wpAny_field hos hds (x := vs) rfl (wpAny_pure ?_)))))))
  refine wpAny_bind (slicePart_ ps ?_)
  show wpAny _ _ (if ((-1 : Int) == 0) = true then _ else _) _ _ s
  rw [if_neg (by decide)]
  refine wpAny_bind (slicePart_ pl (wpAny_bind (slicePart_ pu (wpAny_bind (wpAny_pure ?_)))))
  show wpAny _ _ (pure ((n : Int) - 1, (-1 : Int), Builtin.Slice.slicePlaces ((n : Int) - 1) (-1) (-1))) _ _ s
  rw [places_rev]
  exact wpAny_pure h
theorem pick_rev (xs : Array Value) : ((List.range xs.size).filterMap fun (m : Nat) => xs[(((xs.size : Nat) : Int) - 1 + (m : Int) * -1).toNat]?).toArray = xs.toList.reverse.toArray := by
  congr 1
  apply List.ext_getElem?
  intro k
  have key : ∀ n, n ≤ xs.size → (List.range n).filterMap (fun (m : Nat) => xs[(((xs.size : Nat) : Int) - 1 + (m : Int) * -1).toNat]?) = (xs.toList.reverse.take n) := by
    intro n
    induction n with
    | zero => intro _; rfl
    | succ n ih =>
      intro hn
      rw [List.range_succ, List.filterMap_append, ih (by omega), List.take_add_one]
      congr 1
      have e : (((xs.size : Nat) : Int) - 1 + (n : Int) * -1).toNat = xs.size - 1 - n := by omega
      rw [List.getElem?_reverse (by simp only [Array.length_toList]; omega)]
      simp only [List.filterMap_cons, List.filterMap_nil, e, Array.length_toList, Array.getElem?_toList]
      cases xs[xs.size - 1 - n]? <;> rfl
  rw [key _ (Nat.le_refl _), List.take_of_length_le (by simp)]
theorem getItem_tuple_rev {t sl : Addr} {items : Array Value} {vl vu vs : Value} {Q : Value → Shared → Prop} (ht : IsTup s.heap t items) (hs : s.heap.IsSliceOf sl vl vu vs) (pl : IsPart vl none) (pu : IsPart vu none) (ps : IsPart vs (some (-1)))
    (h : Q (.ref s.heap.objs.size) { s with heap := s.heap.push { cls := .type "tuple", data := .seq items.toList.reverse.toArray } })
    (hsz : items.size ≤ sizeLine) : wpAny (model prog w) A (getItem (.ref t) (.ref sl)) Q E s := by
  have htake : sizeOk (.seq items.toList.reverse.toArray) := by
    show items.toList.reverse.toArray.size ≤ sizeLine
    rw [List.size_toArray, List.length_reverse, Array.length_toList]
    exact hsz
  obtain ⟨os, hos, hcs, hds⟩ := id hs
  have hTs : s.TypeIs (.ref sl) "slice" := ⟨os, hos, hcs⟩
  unfold getItem
  try with_reducible refine wpAny_holding ?_
  first | refine wpAny_bind (wpAny_pure ?_) | skip
  refine wpAny_bind (wpAny_sequenceKey ht.typeIs (by decide) ?_)
  refine wpAny_bind (wpAny_callSpecial?_slot (name := Str.ofString "__getitem__") ht.typeIs PyProof.Rows.slot_tuple_getitem
    (wpAny_call_entry PyProof.Rows.slot_tuple_getitem ht.typeIs entry_tuple_getitem ?_ (args_tuple_getitem _ _)))
  show wpAny _ _ (Builtin.Tuple.tupleItemsOf (.ref t) >>= _) _ _ s
  refine wpAny_bind (tupleItemsOf_ ht ?_)
  refine wpAny_bind (wpAny_typeOf hTs ?_)
  rw [if_pos (by decide)]
  refine wpAny_bind (sliceApplied_rev hs pl pu ps ?_)
  have hno : ¬ (((((items.size : Nat) : Int) - 1) == 0 && (-1 : Int) == 1 && items.size == items.size) = true) := by
    rw [show ((-1 : Int) == 1) = false by decide, Bool.and_false, Bool.false_and]
    exact Bool.false_ne_true
  show wpAny _ _ (if ((((items.size : Nat) : Int) - 1) == 0 && (-1 : Int) == 1 && items.size == items.size) = true then _ else _) _ _ s
  rw [if_neg hno, pick_rev]
  first
    | exact wpAny_bind (m := Builtin.Tuple.tupleExact _) (wpAny_newObj_type (wpAny_pure ⟨_, rfl, wpAny_pure h⟩) htake)
    | exact wpAny_bind (m := Builtin.Tuple.tupleExact _) (wpAny_newObj_type (wpAny_bind (wpAny_pure (wpAny_pure ⟨_, rfl, wpAny_pure h⟩))) htake)
    | exact wpAny_bind (wpAny_bind (m := Builtin.Tuple.tupleExact _) (wpAny_newObj_type (wpAny_pure (wpAny_pure ⟨_, rfl, wpAny_pure h⟩)) htake))
    | exact wpAny_bind (wpAny_bind (m := Builtin.Tuple.tupleExact _) (wpAny_newObj_type (wpAny_pure ⟨_, rfl, wpAny_pure h⟩) htake))
end
def tRevT (K : PySem.W.Frag) (te : TE) : TE := fun σ H Q => te σ H fun x H1 => ∃ a xs, x = .ref a ∧ SqT K H1 a xs ∧ ∀ p, H1 p = none → Q (.ref p) (upd H1 p (.tup xs.reverse))
def wRevT (wa : WE) : WE := fun ρ Q => wa ρ fun r ρ1 => match r.ot ρ1 with
  | some (.fz (.tuple ds)) => Q (.fz (.tuple ds.reverse)) ρ1
  | _ => False
def wCatT (wa wb : WE) : WE := fun ρ Q => wa ρ fun r1 ρ1 => wb ρ1 fun r2 ρ2 => match r1.ot ρ2, r2.ot ρ2 with
  | some (.fz (.tuple ds)), some (.fz (.tuple es)) => ds.length + es.length ≤ sizeLine ∧ Q (.fz (.tuple (ds ++ es))) ρ2
  | _, _ => False
section
variable {X : Cx} {e a b : Expr} {wa wb : WE} {k : Nat} {p1 p2 p3 pos : Pos}
theorem pe_revT {te : TE} (he : PE X e te) : PE X (.Subscript e (.Slice none none (some (.UnaryOp .USub (.Constant (.int 1) k p1) p2)) p3) pos) (tRevT X.K te) := by
  refine ⟨fun pins s σ H Q I h => ?_⟩
  refine Subscript_ (thn (he.run pins s σ H _ I h) fun v s1 ⟨x, H1, I1, r1, q1⟩ => ?_)
  have hst : PO X (some (.UnaryOp .USub (.Constant (.int 1) k p1) p2)) (tPart (tUn (rU fun i => .int (-i)) (tC (.int 1)))) := po_some (pe_un un_neg pe_int)
  refine wpAny_Slice (thn (po_none.run pins s1 σ H1 (fun o H2 => o = none ∧ H2 = H1) I1 ⟨rfl, rfl⟩) fun vl s2 ⟨l, H2, I2, pl, el, e2⟩ => ?_)
  subst el e2
  refine thn (po_none.run pins s2 σ H2 (fun o H3 => o = none ∧ H3 = H2) I2 ⟨rfl, rfl⟩) fun vu s3 ⟨u, H3, I3, pu, eu, e3⟩ => ?_
  subst eu e3
  refine thn (hst.run pins s3 σ H3 (fun o H4 => o = some (-1) ∧ H4 = H3) I3 ⟨1, rfl, -1, rfl, rfl, rfl⟩) fun vs s4 ⟨o, H4, I4, ps, eo, e4⟩ => ?_
  subst eo e4
  have I5 : Inv X pins σ H4 { s4 with heap := s4.heap.push { cls := .type "slice", data := .fields #[vl, vu, vs] } } := I4.kept (t' := s4.toks) fun b ob q => Heap.get?_push_of_some _ q
  show wpAny (model X.prog X.w) X.A (subscriptTail e (.Slice none none (some (.UnaryOp .USub (.Constant (.int 1) k p1) p2)) p3) v (.ref s4.heap.objs.size)) (EP X pins σ Q) X.xe { s4 with heap := s4.heap.push { cls := .type "slice", data := .fields #[vl, vu, vs] } }
  obtain ⟨a, xs, rfl, hx, q⟩ := q1
  cases r1
  obtain ⟨its, r, ht, hz⟩ := I5.tuple hx
  have hlen := r.length
  refine tail_any (ops := [.ref a, .ref s4.heap.objs.size]) ht.typeIs PyProof.Rows.slot_tuple_getitem.lookup ?_ (by with_unfolding_all rfl)
  refine getItem_tuple_rev ht (Heap.IsSliceOf.new _ vl vu vs) pl pu ps ?_ (by rw [List.size_toArray]; omega)
  refine ⟨.ref _, _, I5.laid (t' := s4.toks) (o := .tup xs.reverse) (fun b ob q => Heap.get?_push_of_some _ q) (Nat.le_refl _) ?_, rfl, q _ (I5.hok.fresh (Nat.le_refl _))⟩
  exact ⟨by rw [List.length_reverse]; exact hz, its.reverse, r.reverse, ⟨_, Heap.get?_push_size _ rfl, rfl, 0, rfl⟩⟩
theorem de_revT (ha : DE X e wa) : DE X (.Subscript e (.Slice none none (some (.UnaryOp .USub (.Constant (.int 1) k p1) p2)) p3) pos) (wRevT wa) := by
  obtain ⟨⟨t, p, r⟩⟩ := ha
  refine ⟨⟨_, pe_revT p, fun σ H F ρ fr Q Q' S hw kk => ?_⟩⟩
  refine r σ H F ρ fr _ _ S hw fun v1 H1 F1 ρ1 r1 m1 hw o1 S1 k1 => ?_
  split at hw
  · rename_i ds hd
    obtain ⟨m', o'⟩ := o1.own S1 hd
    obtain ⟨o', _⟩ := o'
    cases o' with
    | tup hs ha =>
      refine ⟨_, _, rfl, same_t S1.ex hs, fun p hp => ?_⟩
      obtain ⟨S4, s4, k4⟩ := S1.left.newF (o := .tup _) hp
      exact kk _ _ _ ρ1 _ z0 hw ⟨.tup (SqT.of upd_same) (dpam s4 _ _ ha.reverse), rfl⟩ S4 (k1.trans k4)
  · exact hw.elim
theorem de_catT (ha : DE X a wa) (hb : DE X b wb) : DE X (.BinOp a .Add b pos) (wCatT wa wb) := by
  obtain ⟨⟨ta, pa, ra⟩⟩ := ha
  obtain ⟨⟨tb, pb, rb⟩⟩ := hb
  refine ⟨⟨_, pe_op op_catA pa pb, fun σ H F ρ fr Q Q' S hw k => ?_⟩⟩
  refine ra σ H F ρ fr _ _ S hw fun v1 H1 F1 ρ1 r1 m1 hw o1 S1 k1 => ?_
  refine rb σ H1 F1 ρ1 _ _ _ S1 hw fun v2 H2 F2 ρ2 r2 m2 hw o2 S2 k2 => ?_
  split at hw
  · rename_i ds es h1 h2
    obtain ⟨m', o'⟩ := (o1.kp k2).own S2.left h1
    obtain ⟨o', _⟩ := o'
    obtain ⟨m'', o''⟩ := o2.own S2 h2
    obtain ⟨o'', _⟩ := o''
    cases o' with
    | tup hs ha =>
      cases o'' with
      | tup hs2 ha2 =>
        refine ⟨_, _, _, _, rfl, rfl, same_t S2.ex hs, same_t S2.ex hs2, by rw [ha.length, ha2.length]; exact hw.1, fun hx => ?_, fun _ hx => ?_, fun _ _ p hp => ?_⟩
        · subst hx
          cases ha
          exact k _ H2 F2 ρ2 _ z0 hw.2 ⟨.tup hs2 ha2, rfl⟩ S2.left.left (k1.trans k2.left)
        · subst hx
          cases ha2
          have hw := hw.2
          rw [List.append_nil] at hw
          exact k _ H2 F2 ρ2 _ z0 hw ⟨.tup hs ha, rfl⟩ S2.left.left (k1.trans k2.left)
        · obtain ⟨S4, s4, k4⟩ := S2.left.left.newF (o := .tup _) hp
          exact k _ _ _ ρ2 _ z0 hw.2 ⟨.tup (SqT.of upd_same) (dpam s4 _ _ (ha.append ha2)), rfl⟩ S4 ((k1.trans k2.left).trans k4)
  · exact hw.elim
end
/-- a comprehension in a comprehension -/
theorem blkOk_in {N : List Str} {sc outer scope : Scope} {own : List (Str × Nat)} {cl : List (Str × Addr)} {C : Addr} {env : Env} (e : env.scope = sc) (h : blkC N (relS outer sc) scope own = true) : BlkOk N (PySem.compEnvC outer cl C env).scope scope own := by
  subst e
  exact blkOk_by h
end DL

namespace DL
open PySem PySem.Spec PyProof.Rows L2
/-! ### str(i) -/
abbrev intS (i : Int) : Str := toString i
def gStr : GN
  | [.int i], G => i.natAbs.log2 < 1920 ∧ G (.str (intS i))
  | _, _ => False
theorem o_str {K : PySem.W.Frag} : OpN K (fun xs H Q => ∃ i, xs = [V.int i] ∧ i.natAbs.log2 < 1920 ∧ Q (.str (toString i)) H) gStr := by
  intro xs ds H G Q hx hg k
  unfold gStr at hg
  split at hg
  · cases hx with
    | cons h t =>
      cases t
      cases h
      exact ⟨_, rfl, hg.1, k _ _ (.str _) hg.2⟩
  · exact hg.elim
/-! ### text * i -/
def gMulS : G2
  | .str x, .int n, G => MulOk x n ∧ G (.str (Txt.mul x n))
  | _, _, _ => False
section
variable {X : Cx}
theorem op_mulS : OpR X (binaryOp .Mult) (fun x y H Q => ∃ z n, x = V.str z ∧ y = V.int n ∧ MulOk z n ∧ Q (.str (Txt.mul z n)) H) := by
  intro pins s σ H x y v u Q I rx ry h
  obtain ⟨z, n, rfl, rfl, hk, q⟩ := h
  obtain ⟨t, rfl⟩ := rx
  obtain ⟨t', rfl⟩ := ry
  exact SB.mul hk fun t2 k => ⟨.str _, H, I.tok _, ⟨_, rfl⟩, q⟩
theorem o_mulS {K : PySem.W.Frag} : Op2 K (fun x y H Q => ∃ z n, x = V.str z ∧ y = V.int n ∧ MulOk z n ∧ Q (.str (Txt.mul z n)) H) gMulS := by
  intro x y d e H G Q hx hy hg k
  unfold gMulS at hg
  split at hg
  · cases hx
    cases hy
    exact ⟨_, _, rfl, rfl, hg.1, k _ _ (.str _) hg.2⟩
  · exact hg.elim
end
/-! ### texts written with things in them -/
def wFmt (wa : WE) : WE := fun ρ Q => wa ρ fun r ρ1 => match r.dat ρ1 with
  | some (.str y) => y.length ≤ sizeLine ∧ Q (.fz (.str y)) ρ1
  | some (.int i) => i.natAbs.log2 < 1920 ∧ Q (.fz (.str (intS i))) ρ1
  | _ => False
def wJs : List WE → Str → Rho → (Str → Rho → Prop) → Prop
  | [], acc, ρ, Q => Q acc ρ
  | w :: ws, acc, ρ, Q => w ρ fun r ρ1 => match r.dat ρ1 with
    | some (.str y) => (acc ++ y).length ≤ sizeLine ∧ wJs ws (acc ++ y) ρ1 Q
    | _ => False
def wFs (ws : List WE) : WE := fun ρ Q => wJs ws Str.empty ρ fun out ρ1 => Q (.fz (.str out)) ρ1
structure DJ (X : Cx) (es : List Expr) (ws : List WE) : Prop where
  run : ∃ ts, PJ X es ts ∧ ∀ (acc : Str) (σ : Sg) (H F : Hp) (ρ : Rho) (fr : Fp) (Q : Str → Rho → Prop) (Q' : Str → Hp → Prop), SI X.K F H σ ρ fr → wJs ws acc ρ Q →
    (∀ out H' F' ρ', Q out ρ' → SI X.K F' H' σ ρ' fr → Kp F H fr F' H' → Q' out H') → tJs ts acc σ H Q'
section
variable {X : Cx} {e : Expr} {es : List Expr} {wa : WE} {ws : List WE} {pos : Pos}
theorem de_fmt (he : DE X e wa) : DE X (.FormattedValue e (-1) none pos) (wFmt wa) := by
  obtain ⟨⟨t, p, r⟩⟩ := he
  refine ⟨⟨_, pe_fmt p, fun σ H F ρ fr Q Q' S hw k => ?_⟩⟩
  refine r σ H F ρ fr _ _ S hw fun v1 H1 F1 ρ1 r1 m1 hw o1 S1 k1 => ?_
  split at hw
  · rename_i y hd
    have d1 := o1.dp S1 hd
    cases d1
    exact .inl ⟨y, rfl, hw.1, k _ H1 F1 ρ1 _ z0 hw.2 ⟨.str _, rfl⟩ S1.left k1⟩
  · rename_i i hd
    have d1 := o1.dp S1 hd
    cases d1
    exact .inr ⟨i, rfl, hw.1, k _ H1 F1 ρ1 _ z0 hw.2 ⟨.str _, rfl⟩ S1.left k1⟩
  · exact hw.elim
theorem dj_nil : DJ X [] [] := ⟨⟨[], .nil, fun acc σ H F ρ fr Q Q' S hw k => k acc H F ρ hw S Kp.refl⟩⟩
theorem dj_cons (he : DE X e wa) (hs : DJ X es ws) : DJ X (e :: es) (wa :: ws) := by
  obtain ⟨⟨t, p, r⟩⟩ := he
  obtain ⟨⟨ts, ps, rs⟩⟩ := hs
  refine ⟨⟨t :: ts, .cons p ps, fun acc σ H F ρ fr Q Q' S hw k => ?_⟩⟩
  refine r σ H F ρ fr _ _ S hw fun v1 H1 F1 ρ1 r1 m1 hw o1 S1 k1 => ?_
  split at hw
  · rename_i y hd
    have d1 := o1.dp S1 hd
    cases d1
    exact ⟨y, rfl, hw.1, rs _ σ H1 F1 ρ1 fr Q _ S1.left hw.2 fun out H2 F2 ρ2 q S2 k2 => k out H2 F2 ρ2 q S2 (k1.trans k2)⟩
  · exact hw.elim
theorem de_fs {v1 v2 : Expr} {rest : List Expr} (h : DJ X (v1 :: v2 :: rest) ws) : DE X (.JoinedStr (v1 :: v2 :: rest) pos) (wFs ws) := by
  obtain ⟨⟨ts, ps, rs⟩⟩ := h
  refine ⟨⟨_, pe_joined ps, fun σ H F ρ fr Q Q' S hw k => ?_⟩⟩
  exact rs Str.empty σ H F ρ fr _ _ S hw fun out H1 F1 ρ1 q S1 k1 => k _ H1 F1 ρ1 _ z0 q ⟨.str _, rfl⟩ S1 k1
end
section
variable {X : Cx} {pos : Pos}
theorem dgw_unl {vs : List Nat} {gs : WGs} {es : List Expr} {k n : Nat} (hc : X.calm = true) (h : DGWs X vs es gs) (hn : (assignEach es X.env).length = n := by rfl) (hst : (assignEach es X.env).findIdx? (·.1) = none := by rfl) : DGW X vs (.Tuple es k pos) (gvUnl n gs) := by
  obtain ⟨⟨u, q, r2⟩⟩ := h
  refine ⟨⟨_, pg_unl hc q hn hst, fun σ H F ρ fr xs us Q Q' S dp h k => ?_⟩⟩
  cases dp with
  | lst hs ha => have h := bmt_and h; exact ⟨_, _, rfl, S.ex.seq hs, by rw [ha.length]; exact h.1, r2 σ H F ρ fr _ _ Q Q' S ha h.2 k⟩
  | _ => exact h.elim
end
/-! ### truth of any value -/
def asT (r : RV) (ρ : Rho) (k : Bool → Prop) : Prop := match r.dat ρ with
  | some (.bool b) => k b
  | some .none => k false
  | some (.int i) => k (i != 0)
  | some (.str y) => y.length ≤ sizeLine ∧ k ((y.length : Int) != 0)
  | some (.list ds) => k (!ds.isEmpty)
  | some (.tuple ds) => k (!ds.isEmpty)
  | _ => False
def wTru (wa : WE) : WT := fun ρ Q => wa ρ fun r ρ1 => asT r ρ1 fun b => Q b ρ1
def wOrT (wa wb : WE) : WE := fun ρ Q => wa ρ fun r ρ1 => asT r ρ1 fun b => bmt b (Q r ρ1) (wb ρ1 Q)
section
variable {K : PySem.W.Frag} {F H : Hp} {σ : Sg} {ρ : Rho} {fr m : Fp} {r : RV} {v : V} {k : Bool → Prop}
theorem isEmpty_dp {vs : List V} {ds : List PyData} (h : DpAll K H vs ds) : ds.isEmpty = vs.isEmpty := by
  cases h <;> rfl
theorem asT_ok (h : asT r ρ k) (o : RVok K F H σ r v m) (S : SI K F H σ ρ fr) : ∃ b, TruV K v H b ∧ k b := by
  unfold asT at h
  split at h
  · rename_i b hd
    have d := o.dp S hd
    cases d
    exact ⟨b, rfl, h⟩
  · rename_i hd
    have d := o.dp S hd
    cases d
    exact ⟨false, rfl, h⟩
  · rename_i i hd
    have d := o.dp S hd
    cases d
    exact ⟨_, rfl, h⟩
  · rename_i y hd
    have d := o.dp S hd
    cases d
    exact ⟨_, ⟨h.1, rfl⟩, h.2⟩
  · rename_i ds hd
    have d := o.dp S hd
    cases d with
    | lst hs ha => exact ⟨_, .inl ⟨_, hs, by rw [isEmpty_dp ha]⟩, h⟩
  · rename_i ds hd
    have d := o.dp S hd
    cases d with
    | tup hs ha => exact ⟨_, .inr (.inl ⟨_, hs, by rw [isEmpty_dp ha]⟩), h⟩
  · exact h.elim
end
section
variable {X : Cx} {a b e : Expr} {rest : List Expr} {wa wb : WE} {pos : Pos}
theorem dt_tru (ha : DE X e wa) (he : ∀ whole, isTrue e X.env whole = (do let v ← whole; standAt e.pos; holding [v] (truthy v)) := by intro _; rfl) : DT X e (wTru wa) := by
  obtain ⟨ta, pa, ra⟩ := ha
  refine ⟨_, pt_truth pa he, fun σ H F ρ fr Q Q' S hw k => ?_⟩
  refine ra σ H F ρ fr _ _ S hw fun v H' F' ρ' r m q o S' k' => ?_
  obtain ⟨b, hb, q⟩ := asT_ok q o S'
  exact ⟨b, hb, k b H' F' ρ' q S'.left k'⟩
theorem de_orT (ha : DE X a wa) (hb : DE X (.BoolOp .Or (b :: rest) pos) wb) : DE X (.BoolOp .Or (a :: b :: rest) pos) (wOrT wa wb) := by
  obtain ⟨⟨t, p, r⟩⟩ := ha
  obtain ⟨⟨u, q, r2⟩⟩ := hb
  refine ⟨⟨_, pe_orT p q, fun σ H F ρ fr Q Q' S hw k => ?_⟩⟩
  refine r σ H F ρ fr _ _ S hw fun v H1 F1 ρ1 r1 m1 hw o1 S1 k1 => ?_
  obtain ⟨b, hb, hw⟩ := asT_ok hw o1 S1
  refine ⟨b, hb, ?_⟩
  cases b with
  | false => exact r2 σ H1 F1 ρ1 fr _ _ S1.left hw fun v H2 F2 ρ2 r m q o S2 k2 => k v H2 F2 ρ2 r m q o S2 (k1.trans k2)
  | true => exact k v H1 F1 ρ1 r1 m1 hw o1 S1 k1
end
/-! ### an own list of own lists, from none on -/
def wLL0 (wa : WE) : WE := fun ρ Q => wa ρ fun r ρ1 => match r with
  | .tm (.lst p []) => Q (.tm (.lls p [])) ρ1
  | _ => False
def wAppLL (i : Nat) (wa : WE) : WS := fun d ρ => isLL ρ i <| wa ρ fun r ρ1 => match r, look ρ1 i with
  | .tm (.lst _ ds), some (.lls p dss) => dss.length < sizeLine ∧ d.nx (ρ1.set i (some (.lls p (dss ++ [ds]))))
  | _, _ => False
/-- x[a][b] op= e of ints -/
def wAugg (f : Int → Int → Int) (i : Nat) (w1 w2 wa : WE) : WS := fun d ρ => isLL ρ i <| w1 ρ fun ra ρ1 => match look ρ1 i, ra.dat ρ1 with
  | some (.lls p dss), some (.int k) => (match ixN dss.length k with
    | some kk => (match dss[kk]? with
      | some ds => w2 (ρ1.set i none) fun rb ρ2 => (match rb.dat ρ2 with
        | some (.int j) => (match ixN ds.length j with
          | some jj => (match ds[jj]? with
            | some (.int u) => wa ρ2 fun re ρ3 => (match re.dat ρ3 with
              | some (.int w) => d.nx (ρ3.set i (some (.lls p (dss.set kk (ds.set jj (.int (f u w)))))))
              | _ => False)
            | _ => False)
          | none => False)
        | _ => False)
      | none => False)
    | none => False)
  | _, _ => False
section
variable {K : PySem.W.Frag} {F H : Hp} {σ : Sg} {ρ : Rho} {fr m : Fp}
theorem SI.put (S : SI K F H σ ρ (padd fr m)) {p : Addr} (hp : m p ≠ 0) (o : HO) : SI K F (upd H p o) σ ρ (padd fr m) ∧ Kp F H fr F (upd H p o) := by
  obtain ⟨m9, w9, q9⟩ := S.own
  have zq : m9 p = 0 ∧ fr p = 0 := by
    have := (q9 p).1
    unfold padd at this
    omega
  have hFq : F p = none := ((q9 p).2 (by unfold padd; omega)).1
  refine ⟨⟨fun b u e => ?_, m9, w9.kp (Same.refl _) fun c z => upd_ne fun e => by subst e; omega, fun c => ⟨(q9 c).1, fun z => ⟨((q9 c).2 z).1, ?_⟩⟩⟩, Same.refl _, fun c z => upd_ne fun e => by subst e; omega, fun c z => ?_⟩
  · rw [upd_ne fun e' => by subst e'; rw [hFq] at e; cases e]
    exact S.ex b u e
  · by_cases hc : c = p
    · subst hc; rw [upd_same]; simp
    · rw [upd_ne hc]; exact ((q9 c).2 z).2
  · by_cases hc : c = p
    · subst hc; rw [upd_same]; simp
    · rw [upd_ne hc]; exact z
end
section
variable {X : Cx}
def rGetL (K : PySem.W.Frag) : V → V → Hp → VK → Prop := fun x y H Q => ∃ p xs i v, x = .ref p ∧ y = .int i ∧ SqL K H p xs ∧ atI xs i = some v ∧ Q v H
theorem get_list : PGet X (rGetL X.K) := by
  intro pins s σ H o i ov iv Q I rx ry h
  obtain ⟨p, xs, i, z, rfl, rfl, hq, he, q⟩ := h
  cases rx
  obtain ⟨t, rfl⟩ := ry
  obtain ⟨its, r, pl, hz⟩ := I.list hq
  obtain ⟨j, h1, h2, h3, h4, h5⟩ := atI_get he
  obtain ⟨w, ew, rw'⟩ := r.get h2
  have hl := r.length
  have hn := line63
  have fin : EP X pins σ Q w s := ⟨z, H, I, rw', q⟩
  by_cases h0 : 0 ≤ i
  · have hj : i.toNat = j := by
      rw [seqIndex_of h0 h5] at h1
      exact Option.some.inj h1
    exact wpAny_getItem_list pl.isList h0 (by omega) (by rw [hj]; simpa using ew) fin
  · have hj : (i + (its.toArray.size : Int)).toNat = j := by
      rw [seqIndex_neg (by omega) h4] at h1
      rw [List.size_toArray, ← hl]
      exact Option.some.inj h1
    exact wpAny_getItem_list_neg pl.isList (by omega) (by rw [List.size_toArray] <;> omega) (by omega) (by rw [hj]; simpa using ew) fin
variable {a b e : Expr} {wa w1 w2 : WE} {pos pos2 p0 apos cpos tpos : Pos} {x : Str} {i : Nat}
theorem de_ll0 (ha : DE X e wa) : DE X e (wLL0 wa) := by
  obtain ⟨⟨t, p, r⟩⟩ := ha
  refine ⟨⟨t, p, fun σ H F ρ fr Q Q' S hw k => ?_⟩⟩
  refine r σ H F ρ fr _ _ S hw fun v1 H1 F1 ρ1 r1 m1 hw o1 S1 k1 => ?_
  split at hw
  · rename_i p
    obtain ⟨vs, rfl, hp, ha, rfl⟩ := o1
    cases ha
    refine k _ H1 F1 ρ1 _ (one p) hw ⟨[], rfl, hp, rfl, fun i q ds e _ => (by simp at e), (by simp), ?_⟩ S1 k1
    funext a
    unfold one
    by_cases h : a = p
    · subst h; simp
    · rw [if_neg h, List.count_cons_of_ne (fun q => h q.symm)]; simp
  · exact hw.elim
theorem ds_appLL (hN : X.N[i]? = some x) (hv : Vis X.env.scope x) (ha : DE X e wa)
    (hd : (x == ("__debug__" : Str)) = false := by decide) (hcd : (x == ("__classdict__" : Str)) = false := by decide)
    (hbase : attributeBase (.Name x p0) "append" X.env (eval (.Name x p0) X.env) = eval (.Name x p0) X.env := by rfl)
    (hfew : ((backTo cpos (starEach [e] X.env)).all (fun x => !x.1) && (backToKw cpos (keywordEach [] X.env)).all (fun x => x.1.isSome)
      && decide ([e].length + ([] : List Keyword).length + (if ([] : List Keyword).isEmpty then 0 else 1) < 30)) = true := by rfl)
    (hline : (apos.endLine == cpos.line) = true := by rfl) (hs : starEach (e :: []) X.env = (false, eval e X.env) :: starEach [] X.env := by rfl) (hplain : (backTo cpos (starEach [] X.env)).any (·.1) = false := by rfl)
    (hsw : swapsWith (.Call (.Attribute (.Name x p0) "append" apos) [e] [] cpos) none pos.line X.env = pure false := by rfl) :
    DS X (.Expr (.Call (.Attribute (.Name x p0) "append" apos) [e] [] cpos) pos) (wAppLL i wa) := by
  obtain ⟨⟨t, p, r⟩⟩ := ha
  refine ⟨⟨_, ps_expr (pe_bm PySem.F.plainAttrs_list PySem.F.slot_list_append PySem.F.type_list_append mt_append (pe_var hN hv hd hcd) (pa_cons p pa_nil hs) hbase hfew hline hs hplain) hsw, fun σ H F ρ fr d e S E h => ?_⟩⟩
  obtain ⟨⟨q0, dss0, e0⟩, h⟩ := isLL_iff h
  obtain ⟨v0, m0, ev0, o0⟩ := S.slot e0
  obtain ⟨ps0, rfl, hp0, _⟩ := o0
  refine ⟨.ref q0, ev0, .inl ⟨rfl, _, SqL.of hp0⟩, ?_⟩
  refine r σ H F ρ fr _ _ S h fun v H1 F1 ρ1 r1 m hw c b k1 => ?_
  split at hw
  · rename_i q ds p dss e2
    obtain ⟨vs, rfl, hq, dvs, rfl⟩ := c
    obtain ⟨v2, m2, ev2, o2, S2⟩ := b.out e2
    rw [ev0] at ev2
    cases ev2
    obtain ⟨ps, e3, hp, hl, hi, nd, hm⟩ := o2
    cases e3
    have mp : m2 q0 ≠ 0 := by
      rw [hm]
      show List.count q0 (q0 :: ps) ≠ 0
      rw [List.count_cons_self]
      omega
    obtain ⟨S3, k3⟩ := S2.put mp (.lst (ps.map V.ref ++ [.ref q]))
    -- q is none of the others
    obtain ⟨m9, w9, q9⟩ := S2.own
    have zq : m2 q = 0 := by
      have := (q9 q).1
      have h1 : one q q = 1 := by simp [one]
      unfold padd at this
      omega
    have hqn : q ∉ q0 :: ps := fun hh => by
      have := List.count_pos_iff.mpr hh
      rw [hm] at zq
      have zq : List.count q (q0 :: ps) = 0 := zq
      omega
    have hqp : q ≠ q0 := fun e => hqn (by rw [e]; simp)
    have hpn : q0 ∉ ps := (List.nodup_cons.mp nd).1
    have o4 : OwnT X.K F1 (upd H1 q0 (.lst (ps.map V.ref ++ [.ref q]))) (.lls q0 (dss ++ [ds])) (.ref q0) (padd (one q) m2) := by
      refine ⟨ps ++ [q], rfl, by rw [upd_same, List.map_append]; rfl, by simp [hl], fun j r es hb hes => ?_, ?_, ?_⟩
      · by_cases hj : j < ps.length
        · rw [List.getElem?_append_left hj] at hb
          rw [List.getElem?_append_left (by omega)] at hes
          obtain ⟨us, h1, h2⟩ := hi j r es hb hes
          have hr : r ≠ q0 := fun e => hpn (by rw [← e]; exact List.mem_of_getElem? hb)
          exact ⟨us, by rw [upd_ne hr]; exact h1, h2⟩
        · rw [List.getElem?_append_right (by omega)] at hb hes
          have hj0 : j - ps.length = 0 := by
            have := (List.getElem?_eq_some_iff.mp hb).1
            simp at this
            exact this
          rw [hj0] at hb
          rw [← hl, hj0] at hes
          cases hb
          cases hes
          exact ⟨vs, by rw [upd_ne hqp]; exact hq, dvs⟩
      · rw [← List.cons_append, List.nodup_append]
        refine ⟨nd, by simp, fun c hc d hd e => ?_⟩
        rw [List.mem_singleton.mp hd] at e
        subst e
        exact hqn hc
      · rw [hm]
        funext c
        show (if c = q then 1 else 0) + List.count c (q0 :: ps) = List.count c (q0 :: (ps ++ [q]))
        rw [← List.cons_append, List.count_append]
        by_cases h : c = q
        · subst h; simp; omega
        · rw [if_neg h, show List.count c [q] = 0 from List.count_eq_zero.mpr fun hh => h (List.mem_singleton.mp hh)]; omega
    have S4 : SI X.K F1 (upd H1 q0 (.lst (ps.map V.ref ++ [.ref q]))) σ (ρ1.set i none) (padd fr (padd (one q) m2)) := by rw [← padd_assoc]; exact S3
    have S5 := S4.inn o4 ev0
    rw [List.set_set] at S5
    exact ⟨q0, _, _, rfl, rfl, hp, by rw [List.length_map, hl]; exact hw.1, E.nx σ _ F1 _ hw.2 S5 (k1.trans k3.left)⟩
  · exact hw.elim
theorem ds_aug2 {f : Int → Int → Int} {op : Operator} (hop : PIp X op (ipI f)) (hN : X.N[i]? = some x) (hv : Vis X.env.scope x) (ha : DE X a w1) (hb : DE X b w2) (he : DE X e wa) (hs1 : PlainIx a := by exact fun _ _ => rfl)
    (hd : (x == ("__debug__" : Str)) = false := by decide) (hcd : (x == ("__classdict__" : Str)) = false := by decide)
    (hst : ∀ ov iv new, augStore b ov iv new = (do holding [new, ov, iv] (setItem ov iv new); release [new, ov, iv] []; pure .next) := by intros; rfl) :
    DS X (.AugAssign (.Subscript (.Subscript (.Name x p0) a pos2) b tpos) op e pos) (wAugg f i w1 w2 wa) := by
  obtain ⟨⟨ta, pa, ra⟩⟩ := ha
  obtain ⟨⟨tb, pb, rb⟩⟩ := hb
  obtain ⟨⟨te, pe, re⟩⟩ := he
  refine ⟨⟨_, ps_augS (pe_ix ix_seq (pe_var hN hv hd hcd) pa hs1) pb get_list pe hop set_list hst, fun σ H F ρ fr d e S E h => ?_⟩⟩
  obtain ⟨⟨q0, ds0, e0⟩, hw⟩ := isLL_iff h
  obtain ⟨v0, _, ev, _⟩ := S.slot e0
  refine ⟨v0, ev, ?_⟩
  refine ra σ H F ρ fr _ _ S hw fun v1 H3 F3 ρ3 r3 m3 hw o3 S3 k3 => ?_
  split at hw
  · rename_i p dss kk e1 e2
    have := o3.dp S3 e2
    cases this
    split at hw
    · rename_i kn en
      split at hw
      · rename_i ds e3
        obtain ⟨vv, m2, ev2, o2, S4⟩ := S3.left.out e1
        rw [ev] at ev2
        cases ev2
        obtain ⟨ps, rfl, hp, hl, hi, nd, hm⟩ := id o2
        have hj : kn < ps.length := by rw [hl]; exact (List.getElem?_eq_some_iff.mp e3).1
        obtain ⟨ws, hq2, dws⟩ := hi kn ps[kn] ds (List.getElem?_eq_getElem hj) e3
        have hq : atI (ps.map V.ref) kk = some (.ref ps[kn]) := by
          unfold atI
          rw [List.length_map, hl, en]
          show (ps.map V.ref)[kn]? = _
          rw [List.getElem?_map, List.getElem?_eq_getElem hj]
          rfl
        have mq : m2 ps[kn] ≠ 0 := by
          have := List.count_pos_iff.mpr (List.mem_cons_of_mem p (List.getElem_mem hj))
          rw [hm]
          show List.count ps[kn] (p :: ps) ≠ 0
          omega
        refine .inl ⟨p, _, kk, .ref ps[kn], rfl, rfl, SqL.of hp, hq, ?_⟩
        refine rb σ H3 F3 _ _ _ _ S4 hw fun v5 H5 F5 ρ5 r5 m5 hw o5 S5 k5 => ?_
        split at hw
        · rename_i j e4
          have := o5.dp S5 e4
          cases this
          split at hw
          · rename_i jj e5
            split at hw
            · rename_i u e6
              have kp5 : ∀ a, m2 a ≠ 0 → H5 a = H3 a := fun a z => k5.keep a (by unfold padd; omega)
              have hq3 : H5 ps[kn] = some (.lst ws) := (kp5 _ mq).trans hq2
              obtain ⟨u', eu, du⟩ := (dpam k5.exF _ _ dws).get e6
              cases du
              refine ⟨ps[kn], ws, j, .int u, rfl, rfl, SqL.of hq3, by unfold atI; rw [dws.length, e5]; exact eu, ?_⟩
              refine re σ H5 F5 _ _ _ _ S5.left hw fun v7 H7 F7 ρ7 r7 m7 hw o7 S7 k7 => ?_
              split at hw
              · rename_i w e7
                have := o7.dp S7 e7
                cases this
                have kp7 : ∀ a, m2 a ≠ 0 → H7 a = H5 a := fun a z => k7.keep a (by unfold padd; omega)
                have hq4 : H7 ps[kn] = some (.lst ws) := (kp7 _ mq).trans hq3
                refine ⟨u, w, rfl, rfl, ps[kn], ws, j, jj, rfl, rfl, hq4, by rw [dws.length]; exact e5, ?_⟩
                have hpn : p ∉ ps := (List.nodup_cons.mp nd).1
                have hne : p ≠ ps[kn] := fun e => hpn (e ▸ List.getElem_mem hj)
                have nps : ps.Nodup := (List.nodup_cons.mp nd).2
                have mp : m2 p ≠ 0 := by
                  rw [hm]
                  show List.count p (p :: ps) ≠ 0
                  rw [List.count_cons_self]
                  omega
                have o6 : OwnT X.K F7 (upd H7 ps[kn] (.lst (ws.set jj (.int (f u w))))) (.lls p (dss.set kn (ds.set jj (.int (f u w))))) (.ref p) m2 := by
                  refine ⟨ps, rfl, by rw [upd_ne hne]; exact (kp7 p mp).trans ((kp5 p mp).trans hp), by rw [List.length_set]; exact hl, fun b r es hb hes => ?_, nd, hm⟩
                  by_cases hbk : b = kn
                  · subst hbk
                    rw [List.getElem?_eq_getElem hj] at hb
                    cases hb
                    rw [List.getElem?_set_self (by rw [← hl]; exact hj)] at hes
                    cases hes
                    exact ⟨_, upd_same, (dpam (k5.exF.trans k7.exF) _ _ dws).set (.int (f u w)) jj⟩
                  · rw [List.getElem?_set_ne (Ne.symm hbk)] at hes
                    obtain ⟨us, h1, h2⟩ := hi b r es hb hes
                    have hr : r ≠ ps[kn] := fun e => hbk (by
                      obtain ⟨hb1, hb2⟩ := List.getElem?_eq_some_iff.mp hb
                      exact (List.getElem_inj nps).mp (hb2.trans e))
                    have mr : m2 r ≠ 0 := by
                      have := List.count_pos_iff.mpr (List.mem_cons_of_mem p (List.mem_of_getElem? hb))
                      rw [hm]
                      show List.count r (p :: ps) ≠ 0
                      omega
                    exact ⟨us, by rw [upd_ne hr]; exact (kp7 r mr).trans ((kp5 r mr).trans h1), dpam (k5.exF.trans k7.exF) _ _ h2⟩
                obtain ⟨S8, k8⟩ := S7.left.put mq (.lst (ws.set jj (.int (f u w))))
                have S9 := S8.inn o6 ev
                exact E.nx σ _ F7 _ hw S9 (((k3.trans k5.left).trans k7.left).trans k8)
              · exact hw.elim
            · exact hw.elim
          · exact hw.elim
        · exact hw.elim
      · exact hw.elim
    · exact hw.elim
  · exact hw.elim
end
end DL

namespace DL
open PySem PySem.Spec PyProof.Rows L2
/-! ### super().__init__(x) in an own exception over ValueError -/
section
open PySem.W PySem.Calls
variable {prog : Program} {w : World} {M : Model} {A : Around} {E : Value → Shared → Prop} {h : Heap} {g : Array GenState} {d : Drawn} {t : Nat} {os : OsState}
variable {nm q : Str} {C N : Addr} {bs bm : List Value} {hdct : Bool} {sn : List Str} {sub : List Value} {ab : Bool} {col : Option Bool} {dd : Option Addr} {k0 k1 k2 k3 k5 : Option Value}
theorem call_mwV {u e t0 : Addr} {rest : List Value} {Q : Value → Shared → Prop}
    (hC : h.get? C = some (excClassObj nm q C N bs bm hdct sn sub ab col dd k0 k1 k2 k3 k5 "ValueError.__new__")) (he : h.get? e = some (HandSPX.excO C t0)) (hu : h.get? u = some (kxs_mw "ValueError.__init__" e)) (hrest : rest.length ≤ sizeLine)
    (hq : ∀ h' t1, (∀ b o, b ≠ e → h.get? b = some o → h'.get? b = some o) → h'.get? e = some (HandSPX.excO C t1) → Q .none ⟨h', g, d, t, os⟩) :
    wpAny (model prog w) A (call (.ref u) rest) Q E ⟨h, g, d, t, os⟩ := by
  refine wpAny_call (codeAny_of_tree ?_)
  show wpAny _ A.in1 (callAny (.ref u) ⟨rest, []⟩) _ _ _
  simp only [callAny]
  refine wpAny_bind (wpAny_load hu ?_)
  simp only [kxs_mw, show (Value.type "method-wrapper" == Value.type "method" || Value.type "method-wrapper" == Value.type "builtin_function_or_method" || Value.type "method-wrapper" == Value.type "method-wrapper") = true by decide, if_true]
  refine W.KFB.if_so (by decide) ?_
  refine wpAny_bind (check_bound_init F.excBase_ValueError.toExcCallFacts hC he rfl ?_)
  refine wpAny_bind (wpAny_pure (wpAny_pure ?_))
  refine ⟨Code.quiet_builtin _ (by decide +kernel), codeAny_builtin F.excBase_ValueError.initEntry ?_⟩
  rw [Around.under_plainId F.excBase_ValueError.init.plain _]
  wp_walk
  refine hq _ h.objs.size (fun b o hb ho => ?_) ?_
  · rw [Heap.get?_update_other _ _ (Ne.symm hb)]
    exact Heap.get?_push_of_some _ ho
  · rw [Heap.get?_update_self _ (Heap.get?_push_of_some _ he) rfl]
    rfl
end
section
variable {P : Program} {w : World} {K : PySem.W.Frag} {mg : Str → Option Value} {base : Heap}
/-- the context of such a body, at its entry -/
def cxS (P : Program) (w : World) (K : PySem.W.Frag) (mg : Str → Option Value) (base : Heap) (N : List Str) (fd : FuncData) (f : Addr) (A : Around) (outer : List Env) (s : Shared) (H : Hp) : Cx where
  prog := P
  w := w
  K := K
  mg := mg
  base := base
  A := A.deeper (callEnv fd s.heap.objs.size f)
  N := N
  s_0 := s
  H_0 := H
  env := callEnv fd s.heap.objs.size f
  outer := outer
  stack := callEnv fd s.heap.objs.size f :: outer
  ex := []
  calm := true
  fn := fun _ => false
  pn := []
  xe := fun _ _ => False
/-- what the written part holds of it -/
structure SupFn (P : Program) (K : PySem.W.Frag) (mg : Str → Option Value) (C f cc cda : Addr) (p0 p1 : Str) (body : List Stmt) (fd : FuncData) : Prop where
  fdE : ∃ name qual params scope dV kV doc pm an ct, fd = PySem.W.ksFn name qual params body scope dV kV doc pm an (.ref cda) ct cc
  lk : ∃ oc od osl, K.lookup f = some ⟨oc, od, .func fd, osl⟩
  hcd : PySem.W.codeIn K fd.code fd.qualname = true
  cell : ∃ cl cld csl, K.lookup cc = some ⟨cl, cld, .cell (some (.ref C)), csl⟩
  code : ∃ ccl cdd vs ccs file tf, K.lookup cda = some ⟨ccl, cdd, .fields vs, ccs⟩ ∧ vs[2]? = some (.str file tf) ∧ ((P.main.file : Str) == file) = true
  head : ∃ ar, (fd.params.posonlyargs ++ fd.params.args).head? = some ar ∧ ar.arg = p0
  kind : fd.scope.kind = .function
  co : fd.scope.isCoroutine = false
  gen : fd.scope.isGenerator = false
  ncell : ∀ x ∈ fd.scope.names, x.2 ≠ .cell
  nfree : ∀ x ∈ fd.scope.names, x.2 = .free → x.1 = "__class__"
  l0 : fd.scope.names.lookup p0 = some .local
  l1 : fd.scope.names.lookup p1 = some .local
  ne : p0 ≠ p1
  sup : fd.scope.names.lookup ("super" : Str) = some .globalImplicit
  cls : fd.scope.names.lookup ("__class__" : Str) = some .free
  top : (P.main.scope.names.lookup ("super" : Str)).isSome = false
  sup2 : PySem.W.ks_superIn K C C "__init__" = some (some (.builtin "ValueError.__init__"))
  mro : PySem.W.mroIn K C (.ref C) = some true
  subV : PySem.W.subIn K (.ref C) (.type "ValueError") = some true
  d0 : (p0 == ("__debug__" : Str)) = false
  c0 : (p0 == ("__classdict__" : Str)) = false
  d1 : (p1 == ("__debug__" : Str)) = false
  c1 : (p1 == ("__classdict__" : Str)) = false
  mgs : mg ("super" : Str) = none
  nst : PySem.W.nsIn K cStatics "thirdparty.any" = some none
theorem inv_startS {C f cc cda : Addr} {p0 p1 : Str} {body : List Stmt} {fd : FuncData} {A : Around} {outer : List Env} {s : Shared} {H : Hp} {h₀ : Heap} {tk : Nat} {v0 v1 : V} {u0 u1 : Value} (F : SupFn P K mg C f cc cda p0 p1 body fd)
    (hd : A.handled = none) (e0 : Env0 P w K mg base A outer s H) (r0 : RelV v0 u0) (r1 : RelV v1 u1) (hns : h₀.Ns s.heap.objs.size (fun x => ([(p0, u0), (p1, u1)] : List (Str × Value)).reverse.lookup x)) (hk : ∀ b o, s.heap.get? b = some o → h₀.get? b = some o) :
    Inv (cxS P w K mg base [p0, p1] fd f A outer s H) [] [some v0, some v1] H { s with heap := h₀, toks := tk } := by
  obtain ⟨name, qual, params, scope, dV, kV, doc, pm, an, ct, rfl⟩ := F.fdE
  have KX : K.In s.heap := e0.mod.kin.keeps fun b o e => (e0.bs b o e).1
  obtain ⟨cl, cld, csl, hcell⟩ := F.cell
  have noA : ∀ b : Addr, b ∉ (cxS P w K mg base [p0, p1] (PySem.W.ksFn name qual params body scope dV kV doc pm an (.ref cda) ct cc) f A outer s H).ex := fun b z => absurd (show b ∈ ([] : List Addr) from z) (by simp)
  have only : ∀ {y : Str} {c : Addr}, (callEnv (PySem.W.ksFn name qual params body scope dV kV doc pm an (.ref cda) ct cc) s.heap.objs.size f).cells.lookup y = some c → y = "__class__" ∧ c = cc := fun {y c} e => by
    have e : ([("__class__", cc)] : List (Str × Addr)).lookup y = some c := e
    by_cases hy : y = "__class__"
    · subst hy
      simp [List.lookup] at e
      exact ⟨rfl, e.symm⟩
    · have : (y == ("__class__" : Str)) = false := by simpa using hy
      simp [List.lookup, this] at e
  refine ⟨⟨e0.mod, F.kind, rfl, rfl, Nat.le_refl _, fun y z c h1 h2 => (only h1).1.trans (only h2).1.symm, fun y hy => ?_, fun y c h _ => (by cases h), fun _ => hd, Around.frames_deeper e0.frames, .inr ⟨rfl, rfl⟩, fun b z => absurd z (noA b), e0.bs, e0.bsz, fun b _ _ => noA b, fun b z => absurd z (noA b), e0.funs, e0.frf⟩,
    rfl, e0.bare, Un.kept hk, ⟨_, hns, fun i y v h1 h2 h3 => ?_⟩, fun y c h => ?_, e0.hok.fresh (Nat.le_refl _), fun y c h => ?_, fun p hp => absurd (show p ∈ ([] : List (Addr × Obj)) from hp) (by simp), e0.hok.kept hk, rfl⟩
  · have hy : scope.names.lookup y = some .cell ∨ scope.names.lookup y = some .free := hy
    rcases hy with hy | hy
    · exact absurd rfl (F.ncell _ (PySem.mem_of_lookup hy))
    · have := F.nfree _ (PySem.mem_of_lookup hy) rfl
      have : y = "__class__" := this
      subst this
      exact ⟨cc, by rfl⟩
  · match i, h1, h2 with
    | 0, h1, h2 =>
      cases h1; cases h2
      refine ⟨u0, r0, .inl ⟨F.l0, ?_⟩⟩
      show ([(p1, u1), (p0, u0)] : List (Str × Value)).lookup p0 = some u0
      have : (p0 == p1) = false := by simpa using F.ne
      simp [List.lookup, this]
    | 1, h1, h2 =>
      cases h1; cases h2
      refine ⟨u1, r1, .inl ⟨F.l1, ?_⟩⟩
      show ([(p1, u1), (p0, u0)] : List (Str × Value)).lookup p1 = some u1
      simp [List.lookup]
    | n + 2, h1, h2 => cases h1
  · obtain ⟨_, rfl⟩ := only h
    exact ⟨some (.ref C), _, hk _ _ (KX _ _ hcell), rfl⟩
  · obtain ⟨_, rfl⟩ := only h
    exact (e0.bs _ _ (e0.mod.kin _ _ hcell)).2
def spIni (C : Addr) (fld : Str) (φ : V → Hp → Prop) : Sp := fun vs H Q _ => ∃ (a : Addr) (x : V), vs = [.ref a, x] ∧ φ x H ∧ H a = some (exo a C none) ∧ ∀ dx, H dx = none → dx ≠ a → Q .non (upd (upd H dx (exd dx [(fld, x)])) a (exo a C (some dx)))
theorem sup_ok {CX : CXT} {k : Nat} {C f cc cda : Addr} {p0 p1 fld : Str} {body : List Stmt} {fd : FuncData} {e : Expr} {q0 q1 q2 q3 q4 q5 q6 q7 q8 : Pos} {φ : V → Hp → Prop} (F : SupFn P K mg C f cc cda p0 p1 body fd) (hfb : fd.body = .stmts body) (T : OexC K C) (hno : PySem.W.findIn K (.ref C) fld = some none)
    (hbody : body = [.Expr (.Call (.Attribute (.Call (.Name "super" q0) [] [] q1) "__init__" q2) [e] [] q3) q4, .Assign [.Attribute (.Name p0 q5) fld q6] (.Name p1 q7) q8])
    {pl : Env → Sem Bool} (hev : ∀ env, eval (.Call (.Attribute (.Call (.Name "super" q0) [] [] q1) "__init__" q2) [e] [] q3) env = (do
      let ov ← attributeBase (.Call (.Name "super" q0) [] [] q1) "__init__" env (eval (.Call (.Name "super" q0) [] [] q1) env)
      standAt q2.atName
      let (f, first) ← holding [ov] (getMethod ov "__init__" (pl env))
      callWith q3 f first (backTo q3 (starEach [e] env)) []))
    (hsw : ∀ env, swapsWith (.Call (.Attribute (.Call (.Name "super" q0) [] [] q1) "__init__" q2) [e] [] q3) none q4.line env = pure false)
    (hse : ∀ env, starEach (e :: []) env = (false, eval e env) :: starEach [] env)
    (he : ∀ (A : Around) (outer : List Env) (s : Shared) (H : Hp), Room k A → ∃ te, PE (cxS P w K mg base [p0, p1] fd f A outer s H) e te ∧ ∀ σ H' Q x, σ[1]? = some (some x) → φ x H' → (∀ z, Q (.str z) H') → te σ H' Q) :
    FnOk P w K mg base CX (k + 1) f fd [p0, p1] (spIni C fld φ) := by
  refine ⟨fun vs H Q E h => by obtain ⟨a, x, rfl, _⟩ := h; rfl, fun A outer s H args us vs Q E hr e0 hbt r hsp => ?_⟩
  obtain ⟨a, x, rfl, hφ, ea, hq⟩ := hsp
  cases r with
  | @cons _ u0 _ us' r0 rs =>
  cases rs with
  | @cons _ u1 _ us'' r1 rs =>
  cases rs
  obtain rfl : u0 = .ref a := r0
  have KX : K.In s.heap := e0.mod.kin.keeps fun b o e => (e0.bs b o e).1
  have lim : s.heap.NoLimit := e0.mod.nolimit.keeps fun b o e => (e0.bs b o e).1
  obtain ⟨oc, od, osl, lk⟩ := F.lk
  have hloc : ∀ y ∈ [p0, p1].zip [Value.ref a, u1], fd.scope.names.lookup y.1 = some .local := fun y hy => by
    have hy : y = (p0, .ref a) ∨ y = (p1, u1) := by simpa using hy
    rcases hy with rfl | rfl
    · exact F.l0
    · exact F.l1
  refine ks_codeAny_call_defAt hr.depth (KX _ _ lk) rfl lim (PySem.W.codeRec_of KX F.hcd) hfb hbt F.ncell hloc (fun h₀ hns hk => ?_) F.co F.gen F.kind
  have I : Inv (cxS P w K mg base [p0, p1] fd f A outer s H) [] [some (.ref a), some x] H { s with heap := h₀, toks := s.toks + 2 } := inv_startS F hr.hd e0 rfl r1 hns hk
  obtain ⟨nm, q, N, bs, bm, sn, sub, ab, col, dd, k0, k1, k2, k3, k5, hC, hbm⟩ := T.cls
  have hcl : PySem.W.clsIn K C = some { name := nm, bases := bs, mro := .ref C :: bm, ns := N, qualname := q, hasDict := true, slotNames := sn, subclasses := sub, abstract := ab, collection := col, hasDel := false } := by unfold PySem.W.clsIn; rw [hC] <;> rfl
  obtain ⟨name, qual, params, scope, dV, kV, doc, pm, an, ct, rfl⟩ := F.fdE
  obtain ⟨cl, cld, csl, hcell⟩ := F.cell
  obtain ⟨ccl, cdd, cvs, ccs, file, tf, hcode, hvs, hfile⟩ := F.code
  obtain ⟨ar, har, hare⟩ := F.head
  subst hare
  cases hfb
  have hmk : ∀ b o, K.lookup b = some o → h₀.get? b = some o := fun b o z => hk _ _ (KX _ _ z)
  have K0 : K.In h₀ := fun b o z => hmk b o z
  obtain ⟨t1, hoe⟩ := exo_at I.hok ea
  refine ks_wpAt_mono (Q := SP (cxS P w K mg base [ar.arg, p1] (PySem.W.ksFn name qual params body scope dV kV doc pm an (.ref cda) ct cc) f A outer s H) [] { nx := fun _ H' => Q .non H', rt := Q }) (E := fun _ _ => False) ?_ (fun fl s' hs => ?_) (fun _ _ z => z.elim)
  rotate_left
  · have fin : ∀ {σ' : L2.St} {H' : Hp} {v : V} {u : Value}, Inv (cxS P w K mg base [ar.arg, p1] (PySem.W.ksFn name qual params body scope dV kV doc pm an (.ref cda) ct cc) f A outer s H) [] σ' H' s' → RelV v u → Q v H' → CE outer P w H s Q u s' :=
      fun {σ' H' v u} J rv q => ⟨v, H', J.os, J.bare, J.base, J.hok, rv, q⟩
    cases fl with
    | ret u =>
      obtain ⟨v, σ', H', J, rv, q⟩ := hs
      exact fin J rv q
    | next =>
      obtain ⟨σ', H', J, q⟩ := hs
      exact fin (v := V.non) (u := Value.none) J rfl q
    | brk =>
      obtain ⟨_, _, _, q⟩ := hs
      exact False.elim q
    | cont =>
      obtain ⟨_, _, _, q⟩ := hs
      exact False.elim q
  subst hbody
  have hint : interactive (callEnv (PySem.W.ksFn name qual params [.Expr (.Call (.Attribute (.Call (.Name "super" q0) [] [] q1) "__init__" q2) [e] [] q3) q4, .Assign [.Attribute (.Name ar.arg q5) fld q6] (.Name p1 q7) q8] scope dV kV doc pm an (.ref cda) ct cc) s.heap.objs.size f) = false := by
    unfold interactive
    simp [callEnv, newEnv, show scope.kind = .function from F.kind]
  refine ks_wpAt_execs_cons (ks_wpAt_Expr_any (ks_wpAt_MethodCall (pl := pl _) ?_ (hev _)) hint (hsw _))
  have mb := I.mod.blt
  obtain ⟨mb, b1, b2⟩ := mb
  refine ks_wpAt_super_base (f := f) (cc := cda) F.sup F.cls (by decide) rfl (hmk _ _ lk) rfl har rfl (hmk _ _ hcode) rfl hvs hfile F.top ?_
  refine PySem.W.ks_loadName_global F.kind F.sup (PySem.Calls.loadGlobal_builtin (I.mod.glob.keeps I.bk) F.mgs (b1.keeps I.bk) ((b2 _ (by decide)).trans (by kernel_rfl)) ⟨rfl, ?_⟩)
  refine wpAny_loadName_free F.kind F.cls rfl ⟨_, hmk _ _ hcell, rfl⟩ ?_
  refine wpAny_loadName_local F.kind F.l0 hns (v := .ref a) (by
    show ([(p1, u1), (ar.arg, .ref a)] : List (Str × Value)).lookup ar.arg = some (.ref a)
    have : (ar.arg == p1) = false := by simpa using F.ne
    simp [List.lookup, this]) ?_
  refine ks_wpAny_isType_cls (hmk _ _ hC) rfl ⟨rfl, ?_⟩
  refine ks_wpAny_call_super (hmk _ _ hC) rfl hoe rfl (fun c z => by cases z) (PySem.W.looks_mroIn K0 F.mro) (fun h1 e1 k1 => ?_)
  have K1 : K.In h1 := K0.keeps k1
  have hoe1 := k1 _ _ hoe
  have IA : PySem.W.InstAt h1 a ({ cls := .ref C, data := .fields #[.ref t1, .none, .none, .none, .bool false, .none] } : Obj) C none := ⟨hoe1, rfl, rfl, trivial⟩
  have hI : PySem.W.Looks (model P w) h1 (isInstance (.ref a) (.type "ValueError")) true := IA.type.andThen (PySem.W.looks_subIn K1 F.subV)
  have halong : PySem.W.alongIn K "__init__" (((Value.ref C :: bm).dropWhile (· != .ref C)).drop 1) = some (some (.builtin "ValueError.__init__")) := by
    have := F.sup2
    unfold PySem.W.ks_superIn at this
    rw [hcl] at this
    exact this
  refine PySem.W.kxs_getMethod PySem.W.kxs_ValueError e1 (PySem.W.looks_opaque K1 F.nst) ((PySem.W.looks_clsIn K1 hcl).andThen .now) rfl K1 halong hI (PySem.W.ks_ne K1 IA hcl) (by decide) ?_
  -- the arguments, the wrapper pinned
  have I0 : Inv (cxS P w K mg base [ar.arg, p1] (PySem.W.ksFn name qual params [.Expr (.Call (.Attribute (.Call (.Name "super" q0) [] [] q1) "__init__" q2) [e] [] q3) q4, .Assign [.Attribute (.Name ar.arg q5) fld q6] (.Name p1 q7) q8] scope dV kV doc pm an (.ref cda) ct cc) f A outer s H) [] [some (.ref a), some x] H { heap := h1, gens := s.gens, drawn := s.drawn, toks := s.toks + 2, os := s.os } := I.kept (t' := s.toks + 2) fun b o z => k1 _ _ z
  have I1 : Inv (cxS P w K mg base [ar.arg, p1] (PySem.W.ksFn name qual params [.Expr (.Call (.Attribute (.Call (.Name "super" q0) [] [] q1) "__init__" q2) [e] [] q3) q4, .Assign [.Attribute (.Name ar.arg q5) fld q6] (.Name p1 q7) q8] scope dV kV doc pm an (.ref cda) ct cc) f A outer s H) [(h1.objs.size, PySem.W.kxs_mw "ValueError.__init__" a)] [some (.ref a), some x] H
      { heap := h1.push (PySem.W.kxs_mw "ValueError.__init__" a), gens := s.gens, drawn := s.drawn, toks := s.toks + 2 + 1, os := s.os } :=
    ClX.pin_new (s := { heap := h1, gens := s.gens, drawn := s.drawn, toks := s.toks + 2, os := s.os }) (t' := s.toks + 2 + 1) I0 (fun b o z => Heap.get?_push_of_some _ z) (Nat.le_refl _) (Heap.get?_push_at rfl rfl) (fun v z => by cases z)
  obtain ⟨te, pe, hte⟩ := he A outer s H (hr.mono (Nat.le_succ k))
  have hsp := thn ((pa_cons pe pa_nil (hse _)).run q3 _ _ _ _ (fun vs H' => (∃ z : Str, vs = [V.str z]) ∧ H' = H) I1 (hte _ _ _ x rfl hφ fun z => ⟨⟨z, rfl⟩, rfl⟩)) fun us s2 ⟨vs, H2, I2, rv, ⟨z, ez⟩, eH⟩ => (show PySem.W.KxsAt "ValueError.__init__" h1.objs.size a s2.heap ∧ wpAny (model P w) (A.deeper (callEnv (PySem.W.ksFn name qual params [.Expr (.Call (.Attribute (.Call (.Name "super" q0) [] [] q1) "__init__" q2) [e] [] q3) q4, .Assign [.Attribute (.Name ar.arg q5) fld q6] (.Name p1 q7) q8] scope dV kV doc pm an (.ref cda) ct cc) s.heap.objs.size f)) (call (.ref h1.objs.size) us) (fun _ s' => PySem.wpAt (model P w) (A.deeper (callEnv (PySem.W.ksFn name qual params [.Expr (.Call (.Attribute (.Call (.Name "super" q0) [] [] q1) "__init__" q2) [e] [] q3) q4, .Assign [.Attribute (.Name ar.arg q5) fld q6] (.Name p1 q7) q8] scope dV kV doc pm an (.ref cda) ct cc) s.heap.objs.size f)) (.func [.Expr (.Call (.Attribute (.Call (.Name "super" q0) [] [] q1) "__init__" q2) [e] [] q3) q4, .Assign [.Attribute (.Name ar.arg q5) fld q6] (.Name p1 q7) q8] (callEnv (PySem.W.ksFn name qual params [.Expr (.Call (.Attribute (.Call (.Name "super" q0) [] [] q1) "__init__" q2) [e] [] q3) q4, .Assign [.Attribute (.Name ar.arg q5) fld q6] (.Name p1 q7) q8] scope dV kV doc pm an (.ref cda) ct cc) s.heap.objs.size f))
      (execs [.Assign [.Attribute (.Name ar.arg q5) fld q6] (.Name p1 q7) q8] (callEnv (PySem.W.ksFn name qual params [.Expr (.Call (.Attribute (.Call (.Name "super" q0) [] [] q1) "__init__" q2) [e] [] q3) q4, .Assign [.Attribute (.Name ar.arg q5) fld q6] (.Name p1 q7) q8] scope dV kV doc pm an (.ref cda) ct cc) s.heap.objs.size f))
      (SP (cxS P w K mg base [ar.arg, p1] (PySem.W.ksFn name qual params [.Expr (.Call (.Attribute (.Call (.Name "super" q0) [] [] q1) "__init__" q2) [e] [] q3) q4, .Assign [.Attribute (.Name ar.arg q5) fld q6] (.Name p1 q7) q8] scope dV kV doc pm an (.ref cda) ct cc) f A outer s H) [] { nx := fun _ H' => Q .non H', rt := Q }) (fun _ _ => False) s') (fun _ _ => False) s2 from by
    subst eH ez
    have hpin := (I2.pin _ (List.mem_append_right _ (List.mem_singleton.mpr rfl))).1
    refine ⟨hpin, ?_⟩
    obtain ⟨hp2, g2, d2, tk2, os2⟩ := s2
    obtain ⟨t2, hoe2⟩ := exo_at I2.hok ea
    have hlen : us.length ≤ sizeLine := by
      rw [← Paired.length rv, sizeLine_eq]
      show 1 ≤ 16777216
      decide
    refine call_mwV (I2.kIn _ _ hC) hoe2 hpin hlen fun h' t3 kk hx => ?_
    have J := I2.write (t' := tk2) (x := a) (e := a) (o := exo a C none) (by rw [ea]; exact True.intro) (.inl rfl) kk ⟨_, hx⟩ (exo_ok hx)
    have eu : upd H2 a (exo a C none) = H2 := by
      funext b
      by_cases hb : b = a
      · rw [hb, upd_same, ea]
      · rw [upd_ne hb]
    rw [eu] at J
    refine wpAt_of_wpAny ((pss_one (ps_ost (pe_var (i := 0) rfl (.inl F.l0) F.d0 F.c0) (pe_var (i := 1) rfl (.inl F.l1) F.d1 F.c1))).run [] _ _ H2 _ (ClX.unpin J) ?_)
    exact ⟨x, rfl, .ref a, rfl, a, C, rfl, T, hno, .inl ⟨ea, fun dx h1 h2 => hq dx h1 h2⟩⟩)
  rw [hse] at hsp ⊢
  refine PySem.W.kxs_callWith (i := "ValueError.__init__") (x := a) (by rfl) ?_
  exact PySem.Calls.evalArgs_plain hsp
end
end DL

namespace DL
open PySem PySem.Spec PyProof.Rows L2
/-! ### raise n(x), n's own __init__ saying super().__init__(..) and keeping x as f -/
def wRaiseK (n f : Str) (ok : PyData → Prop) (wa : WE) : WS := fun d ρ => wa ρ fun r ρ1 => frz r ρ1 fun y ρ2 => ok y ∧ d.ex n (some (f, y)) ρ2
/-- what is asked of the data that is kept -/
def KeptOk (K : PySem.W.Frag) (ok : PyData → Prop) (φ : V → Hp → Prop) : Prop := ∀ (F H : Hp) (v : V) (y : PyData), Same F H → Dp K F v y → ok y → φ v H
section
variable {X : Cx} {W : WX} {CX : CXT} {n f : Str} {k : Nat} {C fI : Addr} {fd : FuncData} {ps : List Str} {ok : PyData → Prop} {φ : V → Hp → Prop} {e : Expr} {wa : WE} {p pos cpos : Pos}
theorem dsx_raiseK (hc : X.calm = true) (tk : Takes X W) (T : OexC X.K C) (hn : PySem.W.nsIn X.K mainGlobals n = some (some (.ref C))) (iC : PySem.W.findIn X.K (.ref C) "__init__" = some (some (.ref fI))) (tI : PySem.W.typeIn X.K (.ref fI) = some (.type "function"))
    (F1 : FnOk X.prog X.w X.K X.mg X.base CX k fI fd ps (spIni C f φ)) (hr : Room (k + 1) X.A) (hb : Binds X.K fd ps []) (hx : Passes CX X (fun _ _ _ => False)) (hg : Gl X n) (hm : X.mg n = some (.ref C)) (hφ : KeptOk X.K ok φ) (ha : DE X e wa)
    (hdb : (n == ("__debug__" : Str)) = false := by decide) (he : starEach (e :: []) X.env = (false, eval e X.env) :: starEach [] X.env := by rfl) (hpl : (backTo cpos (starEach [] X.env)).any (·.1) = false := by rfl) :
    DSX X W (.Raise (some (.Call (.Name n p) [e] [] cpos)) none pos) (wRaiseK n f ok wa) := by
  obtain ⟨⟨t, pe, r⟩⟩ := ha
  refine ⟨⟨_, ps_raise hc tk (pmk_oex T iC tI F1 hr hb .nil hx hg hm (pa_cons pe pa_nil he) hdb he hpl), fun σ H F ρ fr d en S E Ex h => ?_⟩⟩
  refine r σ H F ρ fr _ _ S h fun v H1 F1' ρ1 r1 m hw oo cc k1 => ?_
  obtain ⟨y, ρ2, F2, hw, dp, s, S2⟩ := frz_ok cc oo (fun a => by unfold padd; omega) hw
  have S2' : SI X.K F2 H1 σ ρ2 fr := S2.less fun a => by unfold padd; omega
  refine ⟨by show 1 ≤ 1000; decide, fun a hna => ?_⟩
  have up_a : upd H1 a (exo a C none) a = some (exo a C none) := upd_same
  have sm : Same F2 (upd H1 a (exo a C none)) := fun b o q => by
    rw [upd_ne fun z => by rw [z] at q; have := S2'.ex _ _ q; rw [hna] at this; cases this]
    exact S2'.ex _ _ q
  refine ⟨a, v, rfl, hφ F2 _ v y sm dp hw.1, up_a, fun dx hdx hne => ⟨rfl, dx, [(f, v)], upd_same, ?_, ?_, ?_⟩⟩
  · rw [upd_ne hne, upd_same]
  · rw [upd_ne hne] at hdx
    exact hdx
  · have hdx1 : H1 dx = none := by rw [upd_ne hne] at hdx; exact hdx
    have eH : upd (del (upd (upd (upd H1 a (exo a C none)) dx (exd dx [(f, v)])) a (exo a C (some dx))) a) dx (.xd [(f, v)]) = upd H1 dx (.xd [(f, v)]) := by
      funext b
      by_cases hbd : b = dx
      · rw [hbd, upd_same, upd_same]
      · rw [upd_ne hbd, upd_ne hbd]
        by_cases hba : b = a
        · rw [hba, del_same, hna]
        · rw [del_ne hba, upd_ne hba, upd_ne hbd, upd_ne hba]
    rw [eH]
    obtain ⟨S4, s4, k4⟩ := S2'.newF (o := .xd [(f, v)]) hdx1
    exact Ex.ex n (some (f, y)) σ _ _ ρ2 (.ref C) (some dx) hw.2 ⟨C, rfl, hn, dx, v, rfl, upd_same, dpm s4 _ _ dp⟩ S4 ((k1.trans (Kp.ofF s)).trans k4)
end
/-! ### a caught exception's field -/
def wXf (ns : List Str) (f : Str) (wa : WE) : WE := fun ρ Q => wa ρ fun r ρ1 => match r.ot ρ1 with
  | some (.exc n (some (g, y))) => n ∈ ns ∧ g = f ∧ Q (.fz y) ρ1
  | _ => False
/-- the classes of the module whose exceptions keep f -/
def XfIn (K : PySem.W.Frag) (ns : List Str) (f : Str) : Prop := ∀ n ∈ ns, ∃ C, PySem.W.nsIn K mainGlobals n = some (some (.ref C)) ∧ XfC K C ∧ PySem.W.findIn K (.ref C) f = some none
section
variable {X : Cx} {e : Expr} {te : TE} {wa : WE} {pos : Pos} {f : Str}
def tXfT (K : PySem.W.Frag) (f : Str) (te : TE) : TE := fun σ H Q => te σ H fun x H1 => ∃ (a C dd : Addr) (fs : List (Str × V)) (v : V), x = .ref a ∧ H1 a = some (exK a (.ref C) (some dd)) ∧ XfC K C ∧ PySem.W.findIn K (.ref C) f = some none ∧ H1 dd = some (.xd fs) ∧ fs.lookup f = some v ∧ Q v H1
theorem pe_xfT (he : PE X e te) (hb : attributeBase e f X.env (eval e X.env) = eval e X.env := by rfl) : PE X (.Attribute e f pos) (tXfT X.K f te) := by
  refine ⟨fun pins s σ H Q I h => ?_⟩
  refine attr_of hb (thn (he.run pins s σ H _ I h) fun u s1 hh => ?_)
  obtain ⟨x, H1, I1, rx, a, C, dd, fs, v, ex, hx0, T, hno, ea, l, q⟩ := hh
  subst ex
  obtain rfl : u = Value.ref a := rx
  obtain ⟨oe, vs, hget, h1, h2, hd⟩ := exK_at I1.hok hx0
  have hx : ObjOk X.prog X.w H1 s1.heap dd (.xd fs) := I1.hok dd _ ea
  obtain ⟨mA, hns, hr⟩ := hx
  obtain ⟨od, ho, hl⟩ := lookIn_ns hns
  obtain ⟨u, hu, ru⟩ := RelO.some_of (v := v) (o := mA f) (by rw [← l]; exact hr f)
  have J : PySem.W.InstAt s1.heap a oe C (some od) := ⟨hget, h1, by unfold PySem.W.notCls; rw [hd] <;> rfl, by rw [h2]; exact ho⟩
  exact HandSPX.exc_get I1.kIn J T.ga T.gg T.exC (PySem.W.findObj_own T.hdC hno rfl (by rw [hl, hu])) (handed_of ru) ⟨v, H1, I1.tok _, ru, q⟩
variable {ns : List Str}
theorem de_xf (hI : XfIn X.K ns f) (ha : DE X e wa) (hb : attributeBase e f X.env (eval e X.env) = eval e X.env := by rfl) : DE X (.Attribute e f pos) (wXf ns f wa) := by
  obtain ⟨⟨t, p, r⟩⟩ := ha
  refine ⟨⟨_, pe_xfT p hb, fun σ H F ρ fr Q Q' S hw k => ?_⟩⟩
  refine r σ H F ρ fr _ _ S hw fun v1 H1 F1 ρ1 r1 m1 hw o1 S1 k1 => ?_
  split at hw
  · rename_i n g y hr
    obtain ⟨hn, rfl, hw2⟩ := hw
    obtain ⟨m', o'⟩ := o1.own S1 hr
    obtain ⟨⟨a, C, d, rfl, h2, h3, dd, u, rfl, h4, h5⟩, _⟩ := o'
    obtain ⟨C', g1, g2, g3⟩ := hI n hn
    rw [h2] at g1
    cases g1
    exact ⟨a, C, dd, _, u, rfl, S1.ex _ _ h3, g2, g3, S1.ex _ _ h4, by simp [List.lookup], k _ H1 F1 ρ1 _ z0 hw2 ⟨h5, rfl⟩ S1.left k1⟩
  · exact hw.elim
end
/-! ### __class__ of an exception that has its dict -/
section
open PySem.W PySem.Calls
variable {prog : Program} {w : World} {A : Around} {E : Value → Shared → Prop} {sh : Shared} {K : Frag} {a D : Addr} {oa : Obj} {oda : Option Obj}
theorem findObj_data {name : Str} {b g : Value} (hc : (clsIn K D).isSome = true) (hb : findIn K (.ref D) name = some (some b)) (hg : specialIn K b "__get__" = some (some g)) (hk : takesIn K b = some true) : findObj K D oda name = some (.bind g b) := by
  obtain ⟨cd, hc'⟩ := Option.isSome_iff_exists.mp hc
  simp [findObj, hc', hb, hg, hk]
theorem exc_class_any {Q : Option Value → Shared → Prop} (T : ExcC K D) (X : K.In sh.heap) (I : InstAt sh.heap a oa D oda) (h : Q (some (.ref D)) { sh with toks := sh.toks + 1 }) : wpAny (model prog w) A (getAttr? (.ref a) "__class__") Q E sh := by
  have found : findObj K D oda "__class__" = some (.bind (.builtin "getset_descriptor.__get__") (.builtin "object.__class__")) :=
    findObj_data (by obtain ⟨cd, z, _⟩ := any_some T.hd; rw [z]; rfl) T.ha T.hn T.ht
  obtain ⟨hq, gq, dq, tq, oq⟩ := sh
  have ty := I.type (M := model prog w)
  have ga := looks_findIn (M := model prog w) X T.hg
  have gg := looks_findIn (M := model prog w) X T.hk
  have fo := looks_find (M := model prog w) X I found
  have isB : Looks (model prog w) hq (isInstance (.ref a) (.type "BaseException")) true := ty.andThen (looks_subIn X T.hs)
  have nob : (onTheHeap (Value.ref D) && Value.builtin "BaseException.__getattribute__" == Value.builtin "object.__getattribute__") = false := by
    rw [show (Value.builtin "BaseException.__getattribute__" == Value.builtin "object.__getattribute__") = false by decide +kernel]
    rfl
  unfold getAttr? getAttrBy? getAttrBy
  refine wpAny_bind (wpAny_mkText (wpAny_bind (wpAny_attempt (wpAny_holding (wpAny_bind (ty.at (wpAny_bind (ga.at ?_))))))))
  show wpAny _ _ (if (onTheHeap (Value.ref D) && Value.builtin "BaseException.__getattribute__" == Value.builtin "object.__getattribute__") = true then _ else _) _ _ _
  rw [nob, if_neg Bool.false_ne_true]
  unfold getAttrByItsOwn hookBefore
  refine wpAny_bind ?_
  rw [if_pos (show onTheHeap (Value.ref D) = true from rfl)]
  refine gg.at (wpAny_bind (wpAny_attempt (wpAny_holding ?_)))
  unfold callGetattribute
  rw [show (false && onTheHeap (Value.builtin "BaseException.__getattribute__")) = false from rfl, if_neg Bool.false_ne_true]
  unfold boundAndCalled
  rw [PySem.F.excAttr_ValueError.ga.bind (.ref a)]
  refine wpAny_bind (wpAny_pure ?_)
  show wpAny _ _ (call (.builtin "BaseException.__getattribute__") [.ref a, .str "__class__" tq]) _ _ _
  refine wpAny_call (codeAny_call_builtin PySem.F.excAttr_ValueError.ga.plain PySem.F.entry_bexc_ga ?_)
  refine @check_slot (model prog w) _ _ ⟨hq, gq, dq, tq + 1, oq⟩ "BaseException.__getattribute__" "BaseException" "__getattribute__" (.ref a) [.str "__class__" tq] [] _ (by decide +kernel) (by decide +kernel) isB (PySem.F.args_bexc_ga (.ref a) (.str "__class__" tq)) ?_
  unfold Builtin.«object.__getattribute__»
  refine wpAny_bind (wpAny_of_eq (a := ((Value.ref a : Value), [Value.str "__class__" tq])) (by first | rfl | (simp only [slotArgs]; rfl)) ?_)
  refine wpAny_bind (wpAny_pure (wpAny_bind (ty.at (wpAny_bind (fo.at ?_)))))
  show wpAny _ _ (holding [Value.builtin "object.__class__"] (call (.builtin "getset_descriptor.__get__") [.builtin "object.__class__", .ref a, .ref D]) >>= ret) _ _ _
  refine wpAny_bind (wpAny_holding (wpAny_call (class_get (s := ⟨hq, gq, dq, tq + 1, oq⟩) (ox := oa) (od := oda) X I T.hm ?_)))
  refine wpAny_pure ?_
  show wpAny _ _ (handedOut (.ref D)) _ _ _
  rw [handedOut_of (v := .ref D) rfl]
  first
    | exact wpAny_pure (wpAny_pure h)
    | exact wpAny_pure h
    | exact wpAny_pure (wpAny_bind (wpAny_pure (wpAny_pure h)))
theorem kitx_any (T : ExcC K D) : KitX K (.ref a) (.ref D) (fun h => ∃ oa od, InstAt h a oa D od) :=
  let Z := handS_kitx_exc (x := a) (ox := default) T.hg T.hk T.hs T.hd T.ha T.hn T.ht T.hm
  { ty := fun _ _ _ ⟨_, _, I⟩ => I.type
    it := fun M h X ⟨_, _, I⟩ => by
      obtain ⟨cd, hc, _⟩ := any_some T.hd
      unfold clsIn at hc
      split at hc
      · rename_i ho
        intro A' Q' E' s' k q
        unfold isType loadHead
        exact wpAny_bind (wpAny_loadPart (k _ _ (X _ _ ho)) (wpAny_pure q))
      · cases hc
    ne := fun h tp dd its n sl X htp => Z.ne h tp dd its n sl X htp
    ca := fun X ⟨_, _, I⟩ k => exc_class_any T X I k }
end
/-! ### isinstance of a caught exception, fields or none -/
def exSubK (n c : Str) : Option Bool := if n = "NoWay" ∨ n = "NoAsk" ∨ n = "NoGrid" ∨ n = "NoRuns" ∨ n = "NoPlace" then some (decide (c = n ∨ c = "TurnError" ∨ c = "ValueError")) else none
def XIsK (K : PySem.W.Frag) (c : Str) (cv : Value) : Prop := ∀ n b C, exSubK n c = some b → PySem.W.nsIn K mainGlobals n = some (some (.ref C)) → ExcC K C ∧ PySem.W.kitOne K (.ref C) cv = some b
def wIsK (c : Str) (wa : WE) : WE := fun ρ Q => wa ρ fun r ρ1 => match r.ot ρ1 with
  | some (.exc n _) => (match exSubK n c with | some b => Q (.fz (.bool b)) ρ1 | none => False)
  | _ => False
def rIsK (K : PySem.W.Frag) : List V → Hp → VK → Prop := fun xs H Q => ∃ (a D : Addr) (d : Option Addr) (c : V) (cv : Value) (b : Bool), xs = [.ref a, c] ∧ (∀ u, RelV c u → u = cv) ∧ H a = some (exK a (.ref D) d) ∧ (∀ dd, d = some dd → ∃ fs, H dd = some (.xd fs)) ∧ ExcC K D ∧ PySem.W.kitOne K (.ref D) cv = some b ∧ Q (.bl b) H
theorem call_isK {X : Cx} : CallR X (.builtin "isinstance") (rIsK X.K) := by
  intro pins s σ H xs us Q I r h
  obtain ⟨a, D, d, c, cv, b, rfl, hcv, ha, hd, C, e, q⟩ := h
  cases r with
  | cons rx rr =>
    cases rr with
    | cons rt rr =>
      cases rr
      cases rx
      have ec := hcv _ rt
      subst ec
      obtain ⟨oe, vs, hget, h1, h2, hv⟩ := exK_at I.hok ha
      have J : ∃ od, PySem.W.InstAt s.heap a oe D od := by
        cases d with
        | none =>
          refine ⟨none, hget, h1, ?_, ?_⟩
          · unfold PySem.W.notCls; rw [hv] <;> rfl
          · rw [h2]; exact trivial
        | some dd =>
          obtain ⟨fs, hfs⟩ := hd dd rfl
          have hx : ObjOk X.prog X.w H s.heap dd (.xd fs) := I.hok dd _ hfs
          obtain ⟨mA, hns, hr⟩ := hx
          obtain ⟨od, ho, hl⟩ := lookIn_ns hns
          exact ⟨some od, hget, h1, by unfold PySem.W.notCls; rw [hv] <;> rfl, by rw [h2]; exact ho⟩
      exact PySem.W.kia_one (kitx_any C) I.kIn ⟨_, J⟩ e (fun z => nomatch z) fun tk => ⟨.bl b, H, I.kept (t' := tk) fun _ _ z => z, rfl, q⟩
end DL

namespace DL
open PySem PySem.Spec PyProof.Rows L2
/-! ### isinstance of a caught exception, fields or none -/
section
variable {X : Cx} {e : Expr} {wa : WE} {pos p p2 : Pos} {y : Str}
theorem isK_run {K : PySem.W.Frag} {ta : TE} {cv : Value} {c : V} (hI : XIsK K y cv) (hcv : ∀ u, RelV c u → u = cv) (ra : RE K ta wa) : RE K (tCB (rIsK K) (tCons ta (tCons (tC c) tNil))) (wIsK y wa) := by
  intro σ H F ρ fr Q Q' S hw k
  refine ra σ H F ρ fr _ _ S hw fun v1 H1 F1 ρ1 r1 m1 hw o1 S1 k1 => ?_
  split at hw
  · rename_i n kp hr
    obtain ⟨m', o'⟩ := o1.own S1 hr
    split at hw
    · rename_i b hb
      obtain ⟨⟨a, C, d, rfl, h2, h3, h4⟩, _⟩ := o'
      obtain ⟨g2, g3⟩ := hI n b C hb h2
      refine ⟨a, C, d, c, cv, b, rfl, hcv, S1.ex _ _ h3, fun dd e => ?_, g2, g3, k _ H1 F1 ρ1 _ z0 hw ⟨.bl b, rfl⟩ S1.left k1⟩
      subst e
      cases kp with
      | none => cases h4
      | some z =>
        obtain ⟨dd', u, e, h5, _⟩ := h4
        cases e
        exact ⟨_, S1.ex _ _ h5⟩
    · exact hw.elim
  · exact hw.elim
theorem de_isK {C : Addr} (hg : Gl X "isinstance") (hm : X.mg "isinstance" = none) (hgT : Gl X y) (hmT : X.mg y = some (.ref C)) (hI : XIsK X.K y (.ref C)) (ha : DE X e wa)
    (hv : bootBuiltins "isinstance" = some (.builtin "isinstance") := by decide +kernel) (hdy : (y == ("__debug__" : Str)) = false := by decide)
    (h1 : starEach [e, .Name y p2] X.env = (false, eval e X.env) :: starEach [.Name y p2] X.env := by rfl) (h2 : starEach [.Name y p2] X.env = (false, eval (.Name y p2) X.env) :: starEach [] X.env := by rfl)
    (hpl : (backTo pos (starEach [.Name y p2] X.env)).any (·.1) = false := by rfl) : DE X (.Call (.Name "isinstance" p) [e, .Name y p2] [] pos) (wIsK y wa) := by
  obtain ⟨⟨ta, pa, ra⟩⟩ := ha
  exact ⟨⟨_, pe_callB call_isK hg hm hv (pa_cons pa (pa_cons (pe_glob (v := .ref C) hgT hmT rfl hdy) pa_nil h2) h1) (by decide) (by decide) h1 hpl, isK_run hI (fun u r => r) ra⟩⟩
theorem de_isKB {T : String} (hg : Gl X "isinstance") (hm : X.mg "isinstance" = none) (hgT : Gl X y) (hmT : X.mg y = none) (hT : bootBuiltins y = some (.type T)) (hI : XIsK X.K y (.type T)) (ha : DE X e wa)
    (hv : bootBuiltins "isinstance" = some (.builtin "isinstance") := by decide +kernel) (hny : y ≠ "__name__" := by decide) (hdy : (y == ("__debug__" : Str)) = false := by decide)
    (h1 : starEach [e, .Name y p2] X.env = (false, eval e X.env) :: starEach [.Name y p2] X.env := by rfl) (h2 : starEach [.Name y p2] X.env = (false, eval (.Name y p2) X.env) :: starEach [] X.env := by rfl)
    (hpl : (backTo pos (starEach [.Name y p2] X.env)).any (·.1) = false := by rfl) : DE X (.Call (.Name "isinstance" p) [e, .Name y p2] [] pos) (wIsK y wa) := by
  obtain ⟨⟨ta, pa, ra⟩⟩ := ha
  exact ⟨⟨_, pe_callB call_isK hg hm hv (pa_cons pa (pa_cons (pe_bltn (v := .ty T) hgT hmT hT rfl hny hdy) pa_nil h2) h1) (by decide) (by decide) h1 hpl, isK_run hI (fun u r => r) ra⟩⟩
end
/-! ### int(text) -/
def gIntS : GN
  | [.str a], G => ∃ n, PySem.intText? a = some n ∧ a.length ≤ 640 ∧ G (.int n)
  | [.bool k], G => G (.int (if k then 1 else 0))
  | [.int i], G => G (.int i)
  | _, _ => False
theorem o_intS {K : PySem.W.Frag} : OpN K (fun xs H Q => (∃ a n, xs = [V.str a] ∧ PySem.intText? a = some n ∧ a.length ≤ 640 ∧ Q (.int n) H)) (fun ds G => ∃ a, ds = [.str a] ∧ gIntS ds G) := by
  intro xs ds H G Q hx hg k
  obtain ⟨a, rfl, n, h1, h2, h3⟩ := hg
  cases hx with
  | cons h t =>
    cases t
    cases h
    exact ⟨a, n, rfl, h1, h2, k _ _ (.int _) h3⟩
/-! ### one sign in a text -/
def gInSg : G2
  | .str x, .str z, G => (∃ c, x = ⟨#[c]⟩ ∧ G (.bool (decide (c ∈ z.cps.toList))))
  | _, _, _ => False
def gNotInSg : G2
  | .str x, .str z, G => (∃ c, x = ⟨#[c]⟩ ∧ G (.bool (!decide (c ∈ z.cps.toList))))
  | _, _, _ => False
section
variable {K : PySem.W.Frag}
theorem o_inSg : Op2 K (fun x y H Q => ∃ (c : Nat) (z : Str), x = V.str ⟨#[c]⟩ ∧ y = V.str z ∧ Q (.bl (decide (c ∈ z.cps.toList))) H) gInSg := by
  intro x y d e H G Q hx hy hg k
  unfold gInSg at hg
  split at hg
  · obtain ⟨c, rfl, h⟩ := hg
    cases hx
    cases hy
    exact ⟨c, _, rfl, rfl, k _ _ (.bl _) h⟩
  · exact hg.elim
end
/-! ### x.isascii(), x.isdigit() -/
def wM0 (g : Str → PyData) (wo : WE) : WE := fun ρ Q => wo ρ fun r1 ρ1 => match r1.dat ρ1 with
  | some (.str a) => Q (.fz (g a)) ρ1
  | _ => False
/-! ### raise n(text), n a class without its own __init__ -/
section
variable {X : Cx} {C : Addr} {bmB : List Value} {B newId initId : String}
theorem pmk_ownT {x : Str} {e : Expr} {te : TE} {p pos : Pos} (F : ExcBaseFacts B newId initId bmB) (q : PySem.W.excIn X.K C bmB newId = true) (gC : X.mg x = some (.ref C)) (kC : PySem.W.keepIn X.K (.ref C) = true) (r : Raises X (.ref C)) (hg : Gl X x) (he : PE X e te)
    (hdb : (x == ("__debug__" : Str)) = false := by decide) (hs : starEach (e :: []) X.env = (false, eval e X.env) :: starEach [] X.env := by rfl) (hpl : (backTo pos (starEach [] X.env)).any (·.1) = false := by rfl) :
    PMk X (.Call (.Name x p) [e] [] pos) (fun σ H Q => te σ H fun v H1 => [v].length = 1 ∧ Q (.ref C) none H1) := by
  intro pins s σ H Q I h
  refine wpAny_Call_Name_kw (ld_glob I hg gC ?_ hdb)
  refine PySem.W.callWith_K (h₀ := X.base) I.ok.mod.kin kC (thn ((pa_cons he pa_nil hs).run pos pins s σ H (fun vs H1 => vs.length = 1 ∧ Q (.ref C) none H1) I ?_) fun us s1 ⟨vs, H1, I1, r1, ev, q1⟩ => ⟨I1.kIn, ?_⟩) hs hpl
  · exact h
  · have hl : us.length = 1 := by rw [← r1.length]; exact ev
    match us, hl with
    | [u], _ =>
      show wpAny _ _ (call (.ref C) [u]) _ _ _
      obtain ⟨bm, N, nm, qn, bs, hdct, sn, sub, ab, col, dd, k0, k1, k2, k3, k5, mN, hC, hN, hni, T⟩ := exc_obj I1.kIn q
      refine wpAny_call_exc_subT F T hC hN hni (fun h' ea hm => ?_) (by show 1 ≤ sizeLine; rw [sizeLine_eq]; omega)
      exact mk_of I1 hm r q1 (I1.hok.gone hm.new)
end
def wRaiseT (n : Str) (wa : WE) : WS := fun d ρ => wa ρ fun _ ρ1 => d.ex n none ρ1
section
variable {X : Cx} {W : WX} {n : Str} {e : Expr} {wa : WE} {p pos cpos : Pos}
theorem dsx_raiseT (hc : X.calm = true) (tk : Takes X W) (T : XPlain X.K X.mg n) (hg : Gl X n) (ha : DE X e wa) (hdb : (n == ("__debug__" : Str)) = false := by decide)
    (hs : starEach (e :: []) X.env = (false, eval e X.env) :: starEach [] X.env := by rfl) (hpl : (backTo cpos (starEach [] X.env)).any (·.1) = false := by rfl) :
    DSX X W (.Raise (some (.Call (.Name n p) [e] [] cpos)) none pos) (wRaiseT n wa) := by
  obtain ⟨C, h1, h2, h3, h4, h5, h6⟩ := T.ex
  obtain ⟨⟨t, pe, r⟩⟩ := ha
  refine ⟨⟨_, ps_raise hc tk (pmk_ownT PySem.F.excBase_ValueError h3 h1 h4 (raises_own h5 h6) hg pe hdb hs hpl), fun σ H F ρ fr d en S E Ex h => ?_⟩⟩
  refine r σ H F ρ fr _ _ S h fun v H1 F1 ρ1 r1 m hw oo cc k1 => ⟨rfl, ?_⟩
  exact Ex.ex n none σ H1 F1 ρ1 (.ref C) none hw ⟨C, rfl, h2, rfl⟩ cc.left k1
end
/-! ### methods of a text without arguments -/
section
variable {X : Cx} {o : Expr} {wo : WE} {apos cpos : Pos}
theorem m0_run {K : PySem.W.Frag} {T : String} {to : TE} {g : Str → V} {g' : Str → PyData} (hT : T = "str") (hs : ∀ a, Sc (g a) (g' a)) (ro : RE K to wo) : RE K (tBM0 K T (fun x xs H Q => ∃ a, x = .str a ∧ xs = [] ∧ True ∧ Q (g a) H) to) (wM0 g' wo) := by
  intro σ H F ρ fr Q Q' S hw k
  refine ro σ H F ρ fr _ _ S hw fun v1 H1 F1 ρ1 r1 m1 hw o1 S1 k1 => ?_
  split at hw
  · rename_i a hd
    have d := o1.dp S1 hd
    cases d
    exact ⟨by rw [hT]; rfl, a, rfl, rfl, trivial, k _ H1 F1 ρ1 (.fz (g' a)) z0 hw ⟨(hs a).dp, rfl⟩ S1.left k1⟩
  · exact hw.elim
theorem de_m_isascii (ho : DE X o wo) (hbase : attributeBase o "isascii" X.env (eval o X.env) = eval o X.env := by rfl) (hline : (apos.endLine == cpos.line) = true := by rfl) : DE X (.Call (.Attribute o "isascii" apos) [] [] cpos) (wM0 (fun a => .bool (Txt.isascii a)) wo) := by
  obtain ⟨⟨t, p, r⟩⟩ := ho
  exact ⟨⟨_, pe_bm0 PySem.F.plainAttrs_str PySem.F.slot_str_isascii PySem.F.type_str_isascii mt_isascii p hbase hline, m0_run rfl (fun a => .bl _) r⟩⟩
theorem de_m_isdigit (ho : DE X o wo) (hbase : attributeBase o "isdigit" X.env (eval o X.env) = eval o X.env := by rfl) (hline : (apos.endLine == cpos.line) = true := by rfl) : DE X (.Call (.Attribute o "isdigit" apos) [] [] cpos) (wM0 (fun a => .bool (Txt.isdigit a)) wo) := by
  obtain ⟨⟨t, p, r⟩⟩ := ho
  exact ⟨⟨_, pe_bm0 PySem.F.plainAttrs_str PySem.F.slot_str_isdigit PySem.F.type_str_isdigit mt_isdigit p hbase hline, m0_run rfl (fun a => .bl _) r⟩⟩
end
/-! ### key in a dict of the module -/
theorem gd_none {K : PySem.W.Frag} {w : World} {d : Addr} {es : Array DictEntry} {n : Nat} {tab : List (Str × PyData)} {z : Str} (D : KDict K w d es n) (hsz : es.size = tab.length) (hk : ∀ (i : Nat) z dat, tab[i]? = some (z, dat) → ∃ en t, es[i]? = some en ∧ en.key = .str z t) (hz : tab.lookup z = none) :
    PySem.W.nsIn K d z = some none := by
  have keys : ∀ en ∈ es.toList, ∃ y t, en.key = .str y t ∧ y ≠ z := by
    intro en hen
    obtain ⟨i, hi, rfl⟩ := List.mem_iff_getElem.mp hen
    have hi' : i < tab.length := by rw [← hsz]; simpa using hi
    obtain ⟨en', t, h1, h2⟩ := hk i tab[i].1 tab[i].2 (List.getElem?_eq_getElem hi')
    have e : en' = es.toList[i] := by
      have : es[i]? = some es.toList[i] := by simp at hi; simp [hi]
      rw [this] at h1
      exact (Option.some.inj h1).symm
    subst e
    refine ⟨_, t, h2, fun q => ?_⟩
    have hm : tab[i] ∈ tab := List.getElem_mem hi'
    have := List.lookup_eq_none_iff.mp hz tab[i] hm
    simp [q] at this
  have f1 : es.toList.find? (·.key.isStr z) = none := by
    refine List.find?_eq_none.mpr fun en hen => ?_
    obtain ⟨y, t, h1, h2⟩ := keys en hen
    rw [h1]
    simp only [Value.isStr, beq_iff_eq]
    exact h2
  have f2 : es.toList.any (·.refKey) = false := by
    refine List.any_eq_false.mpr fun en hen => ?_
    obtain ⟨y, t, h1, h2⟩ := keys en hen
    simp [DictEntry.refKey, h1]
  unfold PySem.W.nsIn
  rw [D.at_]
  simp only [f1, f2]
  rfl
section
variable {X : Cx} {e : Expr} {wa : WE} {pos p : Pos} {x : Str} {tab : List (Str × PyData)}
theorem de_gdIn (hg : Gl X x) (G : GDict X.K X.w X.mg x tab) (ha : DE X e wa) (hm : behindInMarks .In (.Name x p) = false := by rfl) (hdb : (x == ("__debug__" : Str)) = false := by decide) : DE X (.Compare e [.In] [.Name x p] pos) (wGdIn (fun b => b) tab wa) := by
  obtain ⟨d, es, n, hmg, D, hsz, hk, hv⟩ := G.at_
  obtain ⟨⟨t, pe, r⟩⟩ := ha
  refine ⟨⟨_, pe_cmpR (op_in_kd D) pe (pe_glob hg hmg (show RelV (.ref d) (.ref d) from rfl) hdb) hm, fun σ H F ρ fr Q Q' S hw k => ?_⟩⟩
  refine r σ H F ρ fr _ _ S hw fun v2 H2 F2 ρ2 r2 m2 hw o2 S2 k2 => ?_
  split at hw
  · rename_i z e2
    have d2 := o2.dp S2 e2
    cases d2
    cases e : tab.lookup z with
    | none =>
      rw [e] at hw
      exact ⟨z, none, rfl, rfl, gd_none D hsz hk e, k _ H2 F2 ρ2 (.fz (.bool false)) z0 hw ⟨.bl _, rfl⟩ S2.left k2⟩
    | some dat =>
      rw [e] at hw
      obtain ⟨u, v, h1, _, _⟩ := hv z dat e
      exact ⟨z, some u, rfl, rfl, h1, k _ H2 F2 ρ2 (.fz (.bool true)) z0 hw ⟨.bl _, rfl⟩ S2.left k2⟩
  · exact hw.elim
end
end DL

namespace DL
open PySem PySem.Spec PyProof.Rows L2
/-! ### {p}, p a pair of whole numbers -/
def wFmtP (wa : WE) : WE := fun ρ Q => wa ρ fun r ρ1 => match r.dat ρ1 with
  | some (.tuple [.int i, .int j]) => (i.natAbs < 10 ^ 18 ∧ j.natAbs < 10 ^ 18) ∧ ∀ m : Str, m.length ≤ 100 → Q (.fz (.str m)) ρ1
  | _ => False
def tFmtP (K : PySem.W.Frag) (te : TE) : TE := fun σ H Q => te σ H fun x H1 => ∃ (a : Addr) (i j : Int), x = .ref a ∧ SqT K H1 a [V.int i, V.int j] ∧ (i.natAbs < 10 ^ 18 ∧ j.natAbs < 10 ^ 18) ∧ ∀ m : Str, m.length ≤ 100 → Q (.str m) H1
section
variable {X : Cx} {e : Expr} {te : TE} {wa : WE} {pos : Pos} {k : Nat}
theorem int_short {i : Int} (h : i.natAbs < 10 ^ 18) : (Str.ofString (toString i)).length ≤ 20 := by
  have e := int_text_length_le10 (k := 18) (by decide) h
  rw [PySem.ofString_length]
  omega
theorem pe_fmtP (hr : Room k X.A) (he : PE X e te) : PE X (.FormattedValue e (-1) none pos) (tFmtP X.K te) := by
  refine ⟨fun pins s σ H Q I h => ?_⟩
  refine wpAny_FormattedValue_plain (thn (he.run pins s σ H _ I h) fun v s1 hv => ?_)
  obtain ⟨x, H1, I1, r1, a, i, j, rfl, ht, ⟨hi, hj⟩, q⟩ := hv
  cases r1
  obtain ⟨its, rv, ⟨o, ho, hcl, n, hd⟩, _⟩ := I1.tuple ht
  have hu := hr.units
  have h64 : ∀ {z : Int}, z.natAbs < 10 ^ 18 → z.natAbs.log2 < 1920 := fun {z} hz => by
    have h2 : z.natAbs < 2 ^ 64 := by omega
    by_cases h0 : z.natAbs = 0
    · rw [h0]; decide
    · have := (Nat.log2_lt h0).mpr h2
      omega
  have hlen : (tupleText [Str.ofString (toString i), Str.ofString (toString j)]).length ≤ 50 := by
    have h1 := fmt_text [Str.ofString (toString i), Str.ofString (toString j)]
    have h2 := int_short hi
    have h3 := int_short hj
    unfold piled at h1
    simp only [List.map_cons, List.map_nil, List.sum_cons, List.sum_nil] at h1
    omega
  cases rv with
  | cons r1 rv =>
    cases rv with
    | cons r2 rv =>
      cases rv
      obtain ⟨t1, rfl⟩ := r1
      obtain ⟨t2, rfl⟩ := r2
      refine fmt_tuple (ts := [Str.ofString (toString i), Str.ofString (toString j)]) (by omega) ho hcl hd (.cons (ReprIs.int t1 (h64 hi)) (.cons (ReprIs.int t2 (h64 hj)) .nil)) (by rw [sizeLine_eq]; omega) fun m u tk hm => ⟨.str m, H1, I1.tok _, ⟨u, rfl⟩, q m (by omega)⟩
theorem de_fmtP (hr : Room k X.A) (he : DE X e wa) : DE X (.FormattedValue e (-1) none pos) (wFmtP wa) := by
  obtain ⟨⟨t, p, r⟩⟩ := he
  refine ⟨⟨_, pe_fmtP hr p, fun σ H F ρ fr Q Q' S hw k => ?_⟩⟩
  refine r σ H F ρ fr _ _ S hw fun v1 H1 F1 ρ1 r1 m1 hw o1 S1 k1 => ?_
  split at hw
  · rename_i i j hd
    have d1 := o1.dp S1 hd
    cases d1 with
    | tup hs ha =>
      cases ha with
      | cons a1 ha =>
        cases ha with
        | cons a2 ha =>
          cases ha
          cases a1
          cases a2
          exact ⟨_, i, j, rfl, hs, hw.1, fun m hm => k _ H1 F1 ρ1 _ z0 (hw.2 m hm) ⟨.str _, rfl⟩ S1.left k1⟩
  · exact hw.elim
end
/-! ### own classes that keep a small number -/
def okN (y : PyData) : Prop := ∃ n : Nat, y = .int (n : Int) ∧ n ≤ 100000
def phN (v : V) (_ : Hp) : Prop := ∃ n : Nat, v = .int (n : Int) ∧ n ≤ 100000
theorem keptN {K : PySem.W.Frag} : KeptOk K okN phN := by
  rintro F H v y _ dp ⟨n, rfl, hn⟩
  cases dp
  exact ⟨n, rfl, hn⟩
/-- f'a {x} b' -/
theorem he_three {X : Cx} {p1 m1 m2 : Str} {j1 j2 : Nat} {q1 q2 q3 q4 q5 : Pos} (hN : X.N[1]? = some p1) (hv : Vis X.env.scope p1) (hd : (p1 == ("__debug__" : Str)) = false) (hc : (p1 == ("__classdict__" : Str)) = false) (h1 : m1.length ≤ 1000) (h2 : m2.length ≤ 1000) :
    ∃ te, PE X (.JoinedStr [.Constant (.str m1) j1 q1, .FormattedValue (.Name p1 q2) (-1) none q3, .Constant (.str m2) j2 q4] q5) te ∧ ∀ σ H Q x, σ[1]? = some (some x) → phN x H → (∀ z, Q (.str z) H) → te σ H Q := by
  refine ⟨_, pe_joined (.cons pe_str (.cons (pe_fmt (pe_var hN hv hd hc)) (.cons pe_str .nil))), fun σ H Q x hx hp hq => ?_⟩
  obtain ⟨n, rfl, hn⟩ := hp
  have hl : (Str.ofString (toString (n : Int))).length ≤ 20 := int_short (by simp only [Int.natAbs_natCast]; omega)
  have hg : (n : Int).natAbs.log2 < 1920 := by
    simp only [Int.natAbs_natCast]
    by_cases h0 : n = 0
    · rw [h0]; decide
    · have := (Nat.log2_lt h0).mpr (show n < 2 ^ 64 by omega)
      omega
  have hz : sizeLine = 16777216 := sizeLine_eq
  refine ⟨m1, rfl, ?_, _, hx, .inr ⟨_, rfl, hg, _, rfl, ?_, m2, rfl, ?_, hq _⟩⟩
  all_goals simp only [strLen_append, show Str.empty.length = 0 from rfl]
  all_goals omega
/-- raise n(x) of a class whose __init__ keeps x as f -/
structure RaisesK (P : Program) (w : World) (K : PySem.W.Frag) (mg : Str → Option Value) (n f : Str) (ok : PyData → Prop) : Prop where
  ex : ∃ (C fI : Addr) (fd : FuncData) (ps : List Str) (φ : V → Hp → Prop), OexC K C ∧ PySem.W.nsIn K mainGlobals n = some (some (.ref C)) ∧ PySem.W.findIn K (.ref C) "__init__" = some (some (.ref fI)) ∧ PySem.W.typeIn K (.ref fI) = some (.type "function") ∧ mg n = some (.ref C) ∧
    Binds K fd ps [] ∧ KeptOk K ok φ ∧ ∀ base, FnOk P w K mg base CX0 2 fI fd ps (spIni C f φ)
theorem dsx_raiseR {X : Cx} {W : WX} {n f : Str} {ok : PyData → Prop} {e : Expr} {wa : WE} {p pos cpos : Pos} (hc : X.calm = true) (tk : Takes X W) (R : RaisesK X.prog X.w X.K X.mg n f ok) (hr : Room 3 X.A) (hg : Gl X n) (ha : DE X e wa)
    (hdb : (n == ("__debug__" : Str)) = false := by decide) (he : starEach (e :: []) X.env = (false, eval e X.env) :: starEach [] X.env := by rfl) (hpl : (backTo cpos (starEach [] X.env)).any (·.1) = false := by rfl) :
    DSX X W (.Raise (some (.Call (.Name n p) [e] [] cpos)) none pos) (wRaiseK n f ok wa) := by
  obtain ⟨C, fI, fd, ps, φ, h1, h2, h3, h4, h5, h6, h7, h8⟩ := R.ex
  exact dsx_raiseK hc tk h1 h2 h3 h4 (h8 X.base) hr h6 (fun _ _ _ _ _ _ _ z => z.elim) hg h5 h7 ha hdb he hpl
/-- its making, from the facts of the written part -/
theorem raisesN {P : Program} {w : World} {K : PySem.W.Frag} {mg : Str → Option Value} {n f m1 m2 : Str} {C fI cc cda : Addr} {body : List Stmt} {fd : FuncData} {j1 j2 : Nat} {q0 q1 q2 q3 q4 q5 q6 q7 q8 a1 a2 a3 a4 a5 : Pos} (F : SupFn P K mg C fI cc cda "self" f body fd) (hfb : fd.body = .stmts body) (T : OexC K C)
    (hn : PySem.W.nsIn K mainGlobals n = some (some (.ref C))) (hm : mg n = some (.ref C)) (iC : PySem.W.findIn K (.ref C) "__init__" = some (some (.ref fI))) (tI : PySem.W.typeIn K (.ref fI) = some (.type "function")) (hno : PySem.W.findIn K (.ref C) f = some none) (hb : Binds K fd ["self", f] [])
    (hbody : body = [.Expr (.Call (.Attribute (.Call (.Name "super" q0) [] [] q1) "__init__" q2) [.JoinedStr [.Constant (.str m1) j1 a1, .FormattedValue (.Name f a2) (-1) none a3, .Constant (.str m2) j2 a4] a5] [] q3) q4, .Assign [.Attribute (.Name "self" q5) f q6] (.Name f q7) q8])
    (h1 : m1.length ≤ 1000) (h2 : m2.length ≤ 1000)
    {pl : Env → Sem Bool} (hev : ∀ env, eval (.Call (.Attribute (.Call (.Name "super" q0) [] [] q1) "__init__" q2) [.JoinedStr [.Constant (.str m1) j1 a1, .FormattedValue (.Name f a2) (-1) none a3, .Constant (.str m2) j2 a4] a5] [] q3) env = (do
      let ov ← attributeBase (.Call (.Name "super" q0) [] [] q1) "__init__" env (eval (.Call (.Name "super" q0) [] [] q1) env)
      standAt q2.atName
      let (g, first) ← holding [ov] (getMethod ov "__init__" (pl env))
      callWith q3 g first (backTo q3 (starEach [.JoinedStr [.Constant (.str m1) j1 a1, .FormattedValue (.Name f a2) (-1) none a3, .Constant (.str m2) j2 a4] a5] env)) []) := by intro env; rfl)
    (hsw : ∀ env, swapsWith (.Call (.Attribute (.Call (.Name "super" q0) [] [] q1) "__init__" q2) [.JoinedStr [.Constant (.str m1) j1 a1, .FormattedValue (.Name f a2) (-1) none a3, .Constant (.str m2) j2 a4] a5] [] q3) none q4.line env = pure false := by intro env; rfl)
    (hse : ∀ env, starEach [.JoinedStr [.Constant (.str m1) j1 a1, .FormattedValue (.Name f a2) (-1) none a3, .Constant (.str m2) j2 a4] a5] env = (false, eval (.JoinedStr [.Constant (.str m1) j1 a1, .FormattedValue (.Name f a2) (-1) none a3, .Constant (.str m2) j2 a4] a5) env) :: starEach [] env := by intro env; rfl) :
    RaisesK P w K mg n f okN :=
  ⟨⟨C, fI, fd, ["self", f], phN, T, hn, iC, tI, hm, hb, keptN, fun base => (sup_ok (k := 0) F hfb T hno hbody hev hsw hse fun A outer s H _ => he_three rfl (.inl F.l1) F.d1 F.c1 h1 h2).mono (by decide)⟩⟩
/-! ### own classes that keep a pair -/
def okP (y : PyData) : Prop := ∃ i j : Int, y = .tuple [.int i, .int j] ∧ i.natAbs < 10 ^ 18 ∧ j.natAbs < 10 ^ 18
def phP (K : PySem.W.Frag) (v : V) (H : Hp) : Prop := ∃ (a : Addr) (i j : Int), v = .ref a ∧ SqT K H a [V.int i, V.int j] ∧ i.natAbs < 10 ^ 18 ∧ j.natAbs < 10 ^ 18
theorem keptP {K : PySem.W.Frag} : KeptOk K okP (phP K) := by
  rintro F H v y sm dp ⟨i, j, rfl, hi, hj⟩
  cases dp with
  | tup hs ha =>
    cases ha with
    | cons a1 ha =>
      cases ha with
      | cons a2 ha =>
        cases ha
        cases a1
        cases a2
        exact ⟨_, i, j, rfl, same_t sm hs, hi, hj⟩
/-- f'{p} b' -/
theorem he_pair {X : Cx} {k : Nat} {p1 m2 : Str} {j2 : Nat} {q2 q3 q4 q5 : Pos} (hr : Room k X.A) (hN : X.N[1]? = some p1) (hv : Vis X.env.scope p1) (hd : (p1 == ("__debug__" : Str)) = false) (hc : (p1 == ("__classdict__" : Str)) = false) (h2 : m2.length ≤ 1000) :
    ∃ te, PE X (.JoinedStr [.FormattedValue (.Name p1 q2) (-1) none q3, .Constant (.str m2) j2 q4] q5) te ∧ ∀ σ H Q x, σ[1]? = some (some x) → phP X.K x H → (∀ z, Q (.str z) H) → te σ H Q := by
  refine ⟨_, pe_joined (.cons (pe_fmtP hr (pe_var hN hv hd hc)) (.cons pe_str .nil)), fun σ H Q x hx hp hq => ?_⟩
  obtain ⟨a, i, j, rfl, hs, hi, hj⟩ := hp
  have hz : sizeLine = 16777216 := sizeLine_eq
  refine ⟨_, hx, a, i, j, rfl, hs, ⟨hi, hj⟩, fun m hm => ⟨m, rfl, ?_, m2, rfl, ?_, hq _⟩⟩
  all_goals simp only [strLen_append, show Str.empty.length = 0 from rfl]
  all_goals omega
theorem raisesP {P : Program} {w : World} {K : PySem.W.Frag} {mg : Str → Option Value} {n f m2 : Str} {C fI cc cda : Addr} {body : List Stmt} {fd : FuncData} {j2 : Nat} {q0 q1 q2 q3 q4 q5 q6 q7 q8 a2 a3 a4 a5 : Pos} (F : SupFn P K mg C fI cc cda "self" f body fd) (hfb : fd.body = .stmts body) (T : OexC K C)
    (hn : PySem.W.nsIn K mainGlobals n = some (some (.ref C))) (hm : mg n = some (.ref C)) (iC : PySem.W.findIn K (.ref C) "__init__" = some (some (.ref fI))) (tI : PySem.W.typeIn K (.ref fI) = some (.type "function")) (hno : PySem.W.findIn K (.ref C) f = some none) (hb : Binds K fd ["self", f] [])
    (hbody : body = [.Expr (.Call (.Attribute (.Call (.Name "super" q0) [] [] q1) "__init__" q2) [.JoinedStr [.FormattedValue (.Name f a2) (-1) none a3, .Constant (.str m2) j2 a4] a5] [] q3) q4, .Assign [.Attribute (.Name "self" q5) f q6] (.Name f q7) q8])
    (h2 : m2.length ≤ 1000)
    {pl : Env → Sem Bool} (hev : ∀ env, eval (.Call (.Attribute (.Call (.Name "super" q0) [] [] q1) "__init__" q2) [.JoinedStr [.FormattedValue (.Name f a2) (-1) none a3, .Constant (.str m2) j2 a4] a5] [] q3) env = (do
      let ov ← attributeBase (.Call (.Name "super" q0) [] [] q1) "__init__" env (eval (.Call (.Name "super" q0) [] [] q1) env)
      standAt q2.atName
      let (g, first) ← holding [ov] (getMethod ov "__init__" (pl env))
      callWith q3 g first (backTo q3 (starEach [.JoinedStr [.FormattedValue (.Name f a2) (-1) none a3, .Constant (.str m2) j2 a4] a5] env)) []) := by intro env; rfl)
    (hsw : ∀ env, swapsWith (.Call (.Attribute (.Call (.Name "super" q0) [] [] q1) "__init__" q2) [.JoinedStr [.FormattedValue (.Name f a2) (-1) none a3, .Constant (.str m2) j2 a4] a5] [] q3) none q4.line env = pure false := by intro env; rfl)
    (hse : ∀ env, starEach [.JoinedStr [.FormattedValue (.Name f a2) (-1) none a3, .Constant (.str m2) j2 a4] a5] env = (false, eval (.JoinedStr [.FormattedValue (.Name f a2) (-1) none a3, .Constant (.str m2) j2 a4] a5) env) :: starEach [] env := by intro env; rfl) :
    RaisesK P w K mg n f okP :=
  ⟨⟨C, fI, fd, ["self", f], phP K, T, hn, iC, tI, hm, hb, keptP, fun base => sup_ok (k := 1) F hfb T hno hbody hev hsw hse fun A outer s H hr => he_pair (hr.deeper _) rfl (.inl F.l1) F.d1 F.c1 h2⟩⟩
/-! ### int(text), as a whole number's text -/
def gInt2 : GN
  | [.str a], G => ∃ n, PySem.intText? a = some n ∧ a.length ≤ 640 ∧ G (.int n)
  | _, _ => False
theorem o_int2 {K : PySem.W.Frag} : OpN K (fun xs H Q => ∃ a n, xs = [V.str a] ∧ PySem.intText? a = some n ∧ a.length ≤ 640 ∧ Q (.int n) H) gInt2 := by
  intro xs ds H G Q hx hg k
  unfold gInt2 at hg
  split at hg
  · obtain ⟨n, h1, h2, h3⟩ := hg
    cases hx with
    | cons h t =>
      cases t
      cases h
      exact ⟨_, n, rfl, h1, h2, k _ _ (.int _) h3⟩
  · exact hg.elim
theorem o_notInSg {K : PySem.W.Frag} : Op2 K (fun x y H Q => ∃ (c : Nat) (z : Str), x = V.str ⟨#[c]⟩ ∧ y = V.str z ∧ Q (.bl (!decide (c ∈ z.cps.toList))) H) gNotInSg := by
  intro x y d e H G Q hx hy hg k
  unfold gNotInSg at hg
  split at hg
  · obtain ⟨c, rfl, h⟩ := hg
    cases hx
    cases hy
    exact ⟨c, _, rfl, rfl, k _ _ (.bl _) h⟩
  · exact hg.elim
/-! ### which classes a clause takes -/
def catL (ns : List Str) (nm : Str) : Bool := decide (nm ∈ ns)
theorem cat_nil {K : PySem.W.Frag} {c : Value} : ∀ nm C, catL [] nm = true → PySem.W.nsIn K mainGlobals nm = some (some (.ref C)) → PySem.W.exmOne K (.ref C) c = some true := fun nm C h => by
  have : nm ∈ ([] : List Str) := of_decide_eq_true h
  cases this
theorem cat_cons {K : PySem.W.Frag} {c : Value} {n : Str} {ns : List Str} {D : Addr} (hn : PySem.W.nsIn K mainGlobals n = some (some (.ref D))) (hD : PySem.W.exmOne K (.ref D) c = some true) (r : ∀ nm C, catL ns nm = true → PySem.W.nsIn K mainGlobals nm = some (some (.ref C)) → PySem.W.exmOne K (.ref C) c = some true) :
    ∀ nm C, catL (n :: ns) nm = true → PySem.W.nsIn K mainGlobals nm = some (some (.ref C)) → PySem.W.exmOne K (.ref C) c = some true := fun nm C h e => by
  have h : nm ∈ n :: ns := of_decide_eq_true h
  rcases List.mem_cons.mp h with rfl | h
  · rw [hn] at e
    cases e
    exact hD
  · exact r nm C (decide_eq_true h) e
end DL

namespace DL
open PySem PySem.Spec PyProof.Rows L2
/-! ### isinstance of a caught exception: which classes it may have is said -/
def subB (n c : Str) : Bool := decide (c = n ∨ c = "TurnError" ∨ c = "ValueError")
def XIsL (K : PySem.W.Frag) (ns : List Str) (c : Str) (cv : Value) : Prop := ∀ n ∈ ns, ∀ C, PySem.W.nsIn K mainGlobals n = some (some (.ref C)) → ExcC K C ∧ PySem.W.kitOne K (.ref C) cv = some (subB n c)
theorem xisl_nil {K : PySem.W.Frag} {c : Str} {cv : Value} : XIsL K [] c cv := fun n h => by cases h
theorem xisl_cons {K : PySem.W.Frag} {c n : Str} {ns : List Str} {cv : Value} {D : Addr} (q : PySem.W.nsIn K mainGlobals n = some (some (.ref D))) (E : ExcC K D) (h : PySem.W.kitOne K (.ref D) cv = some (subB n c)) (r : XIsL K ns c cv) : XIsL K (n :: ns) c cv := by
  intro m hm C e
  rcases List.mem_cons.mp hm with rfl | hm
  · rw [q] at e
    cases e
    exact ⟨E, h⟩
  · exact r m hm C e
theorem xfin_nil {K : PySem.W.Frag} {f : Str} : XfIn K [] f := fun n h => by cases h
theorem xfin_cons {K : PySem.W.Frag} {f n : Str} {ns : List Str} {D : Addr} (q : PySem.W.nsIn K mainGlobals n = some (some (.ref D))) (E : XfC K D) (h : PySem.W.findIn K (.ref D) f = some none) (r : XfIn K ns f) : XfIn K (n :: ns) f := by
  intro m hm
  rcases List.mem_cons.mp hm with rfl | hm
  · exact ⟨D, q, E, h⟩
  · exact r m hm
def wIsL (ns : List Str) (c : Str) (wa : WE) : WE := fun ρ Q => wa ρ fun r ρ1 => match r.ot ρ1 with
  | some (.exc n _) => n ∈ ns ∧ Q (.fz (.bool (subB n c))) ρ1
  | _ => False
section
variable {X : Cx} {e : Expr} {wa : WE} {pos p p2 : Pos} {y : Str} {ns : List Str}
theorem isL_run {K : PySem.W.Frag} {ta : TE} {cv : Value} {c : V} (hI : XIsL K ns y cv) (hcv : ∀ u, RelV c u → u = cv) (ra : RE K ta wa) : RE K (tCB (rIsK K) (tCons ta (tCons (tC c) tNil))) (wIsL ns y wa) := by
  intro σ H F ρ fr Q Q' S hw k
  refine ra σ H F ρ fr _ _ S hw fun v1 H1 F1 ρ1 r1 m1 hw o1 S1 k1 => ?_
  split at hw
  · rename_i n kp hr
    obtain ⟨m', o'⟩ := o1.own S1 hr
    obtain ⟨hb, hw⟩ := hw
    obtain ⟨⟨a, C, d, rfl, h2, h3, h4⟩, _⟩ := o'
    obtain ⟨g2, g3⟩ := hI n hb C h2
    refine ⟨a, C, d, c, cv, _, rfl, hcv, S1.ex _ _ h3, fun dd e => ?_, g2, g3, k _ H1 F1 ρ1 _ z0 hw ⟨.bl _, rfl⟩ S1.left k1⟩
    subst e
    cases kp with
    | none => cases h4
    | some z =>
      obtain ⟨dd', u, e, h5, _⟩ := h4
      cases e
      exact ⟨_, S1.ex _ _ h5⟩
  · exact hw.elim
theorem de_isL {C : Addr} (hg : Gl X "isinstance") (hm : X.mg "isinstance" = none) (hgT : Gl X y) (hmT : X.mg y = some (.ref C)) (hI : XIsL X.K ns y (.ref C)) (ha : DE X e wa)
    (hv : bootBuiltins "isinstance" = some (.builtin "isinstance") := by decide +kernel) (hdy : (y == ("__debug__" : Str)) = false := by decide)
    (h1 : starEach [e, .Name y p2] X.env = (false, eval e X.env) :: starEach [.Name y p2] X.env := by rfl) (h2 : starEach [.Name y p2] X.env = (false, eval (.Name y p2) X.env) :: starEach [] X.env := by rfl)
    (hpl : (backTo pos (starEach [.Name y p2] X.env)).any (·.1) = false := by rfl) : DE X (.Call (.Name "isinstance" p) [e, .Name y p2] [] pos) (wIsL ns y wa) := by
  obtain ⟨⟨ta, pa, ra⟩⟩ := ha
  exact ⟨⟨_, pe_callB call_isK hg hm hv (pa_cons pa (pa_cons (pe_glob (v := .ref C) hgT hmT rfl hdy) pa_nil h2) h1) (by decide) (by decide) h1 hpl, isL_run hI (fun u r => r) ra⟩⟩
theorem de_isLB {T : String} (hg : Gl X "isinstance") (hm : X.mg "isinstance" = none) (hgT : Gl X y) (hmT : X.mg y = none) (hT : bootBuiltins y = some (.type T)) (hI : XIsL X.K ns y (.type T)) (ha : DE X e wa)
    (hv : bootBuiltins "isinstance" = some (.builtin "isinstance") := by decide +kernel) (hny : y ≠ "__name__" := by decide) (hdy : (y == ("__debug__" : Str)) = false := by decide)
    (h1 : starEach [e, .Name y p2] X.env = (false, eval e X.env) :: starEach [.Name y p2] X.env := by rfl) (h2 : starEach [.Name y p2] X.env = (false, eval (.Name y p2) X.env) :: starEach [] X.env := by rfl)
    (hpl : (backTo pos (starEach [.Name y p2] X.env)).any (·.1) = false := by rfl) : DE X (.Call (.Name "isinstance" p) [e, .Name y p2] [] pos) (wIsL ns y wa) := by
  obtain ⟨⟨ta, pa, ra⟩⟩ := ha
  exact ⟨⟨_, pe_callB call_isK hg hm hv (pa_cons pa (pa_cons (pe_bltn (v := .ty T) hgT hmT hT rfl hny hdy) pa_nil h2) h1) (by decide) (by decide) h1 hpl, isL_run hI (fun u r => r) ra⟩⟩
end
/-! ### dicts: what is at a key -/
section
variable {κ : Type} [DecidableEq κ]
def lookK {β : Type} (es : List (κ × β)) (k : κ) : Option β := (es.find? fun kv => decide (kv.1 = k)).map (·.2)
def putE {β : Type} (es : List (κ × β)) (k : κ) (v : β) : List (κ × β) :=
  if (es.any fun kv => decide (kv.1 = k)) = true then es.map (fun kv => if kv.1 = k then (kv.1, v) else kv) else es ++ [(k, v)]
theorem look_val {K : PySem.W.Frag} {F : Hp} {k : κ} : ∀ {es : List (κ × PyData)} {kvs : List (κ × V)}, kvs.map (·.1) = es.map (·.1) → DpAll K F (kvs.map (·.2)) (es.map (·.2)) →
    match lookK es k with | none => valV kvs k = none | some d => ∃ v, valV kvs k = some v ∧ Dp K F v d
  | [], [], _, _ => rfl
  | [], _ :: _, e, _ => by simp at e
  | _ :: _, [], e, _ => by simp at e
  | p :: es, q :: kvs, e, h => by
    simp only [List.map_cons, List.cons.injEq] at e
    obtain ⟨e1, e2⟩ := e
    cases h with
    | cons h1 h2 =>
    have ih := look_val (k := k) e2 h2
    by_cases hk : p.1 = k
    · have : lookK (p :: es) k = some p.2 := by simp [lookK, List.find?_cons, hk]
      rw [this]
      exact ⟨q.2, valV_pos (e1.trans hk), h1⟩
    · have : lookK (p :: es) k = lookK es k := by simp [lookK, List.find?_cons, hk]
      rw [this, valV_neg (fun z => hk (e1.symm.trans z))]
      exact ih
theorem merge_nodup : ∀ (kvs acc : List (L2.Key × V)), ((acc ++ kvs).map (·.1)).Nodup → L2.mergeK acc kvs = acc ++ kvs
  | [], acc, _ => by simp [L2.mergeK]
  | p :: kvs, acc, h => by
    have e : L2.mergeK acc (p :: kvs) = L2.mergeK (putK acc p.1 p.2) kvs := rfl
    have hn : valV acc p.1 = none := by
      cases q : valV acc p.1 with
      | none => rfl
      | some v =>
        have h1 := valV_in q
        rw [List.map_append, List.nodup_append] at h
        exact absurd rfl (h.2.2 _ h1 p.1 (by simp))
    rw [e, putK_new _ hn, merge_nodup kvs _ (by simpa using h)]
    simp
end
/-! ### {'a': x, ..} with written texts as keys -/
def wDisp (ks : List Str) (ws : WA) : WE := fun ρ Q => ws ρ fun rs ρ1 => frzs rs ρ1 fun ds ρ2 => bmt (decide (ds.length = ks.length)) (∀ p, Q (.tm (.ox p (.dk ((ks.map Sum.inr).zip ds)))) ρ2) False
structure DPs (X : Cx) (pos : Pos) (keys : List (Option Expr)) (values : List Expr) (ks : List Str) (w : WA) : Prop where
  run : ∃ trs, PPs X pos keys values trs ∧ ∀ (σ : Sg) (H F : Hp) (ρ : Rho) (fr : Fp) (Q : List RV → Rho → Prop) (Q' : List (V × V) → Hp → Prop), SI X.K F H σ ρ fr → w ρ Q →
    (∀ vs H' F' ρ' rs m, vs.length = ks.length → Q rs ρ' → RVsOk X.K F' H' σ rs vs m → SI X.K F' H' σ ρ' (padd fr m) → Kp F H fr F' H' → Q' ((ks.map V.str).zip vs) H') → tPairs trs σ H Q'
section
variable {X : Cx} {pos kp : Pos} {keys : List (Option Expr)} {values : List Expr} {ks : List Str} {wa : WE} {ws : WA} {x : Str} {j : Nat} {v : Expr}
theorem dps_nil : DPs X pos [] [] [] wNil := ⟨⟨_, pps_nil, fun σ H F ρ fr Q Q' S hw k => k [] H F ρ [] z0 rfl hw .nil S Kp.refl⟩⟩
theorem dps_cons (hv : DE X v wa) (hr : DPs X pos keys values ks ws) : DPs X pos (some (.Constant (.str x) j kp) :: keys) (v :: values) (x :: ks) (wCons wa ws) := by
  obtain ⟨⟨t, p, r⟩⟩ := hv
  obtain ⟨⟨trs, pp, rr⟩⟩ := hr
  refine ⟨⟨_, pps_cons pe_str p pp, fun σ H F ρ fr Q Q' S hw k => ?_⟩⟩
  show t σ H _
  refine r σ H F ρ fr _ _ S hw fun v1 H1 F1 ρ1 r1 m1 hw o1 S1 k1 => ?_
  refine rr σ H1 F1 ρ1 _ _ _ S1 hw fun vs H2 F2 ρ2 rs m2 hl hw o2 S2 k2 => ?_
  refine k (v1 :: vs) _ _ _ _ _ (by simp [hl]) hw (.cons (o1.kp k2) o2) ?_ (k1.trans k2.left)
  rw [← padd_assoc]
  exact S2
theorem de_disp (h : DPs X pos keys values ks ws) (hnd : ks.Nodup) (hall : keys.all (·.isSome) = true) (hl : keys.length = values.length) (h0 : keys ≠ []) (h15 : keys.length ≤ 15) (hk : keys.length = ks.length) : DE X (.Dict keys values pos) (wDisp ks ws) := by
  obtain ⟨⟨trs, pp, rr⟩⟩ := h
  refine ⟨⟨_, pe_disp pp hall hl h0 h15, fun σ H F ρ fr Q Q' S hw k => ?_⟩⟩
  intro p hp
  obtain ⟨S0, k0⟩ := S.newL (o := .dK []) hp
  refine rr σ _ F ρ _ _ _ S0 hw fun vs H1 F1 ρ1 rs m hlv hw o S1 k1 => ?_
  obtain ⟨ds, ρ2, F2, hw, dp, s, S2⟩ := frzs_ok (vs := vs) S1 o (fun a => by unfold padd; omega) hw
  have S2' : SI X.K F2 H1 σ ρ2 (padd fr (one p)) := S2.less fun a => by unfold padd; omega
  obtain ⟨hld, hw⟩ := bmt_and hw
  have hp1 : H1 p = some (.dK []) := (k1.keep p (by simp [padd, one])).trans upd_same
  have hzl : ∀ (ks : List Str) (vs : List V), ((ks.map V.str).zip vs) = ((ks.map (Sum.inr : Str → L2.Key)).zip vs).map fun kv => (kV kv.1, kv.2) := by
    intro ks
    induction ks with
    | nil => intro vs; rfl
    | cons a ks ih => intro vs; cases vs with
      | nil => rfl
      | cons b vs => simp only [List.map_cons, List.zip_cons_cons, ih vs]; rfl
  have hz1 : ∀ {α : Type} (ks : List L2.Key) (vs : List α), vs.length = ks.length → (ks.zip vs).map (·.1) = ks ∧ (ks.zip vs).map (·.2) = vs := by
    intro α ks
    induction ks with
    | nil => intro vs h; cases vs with
      | nil => exact ⟨rfl, rfl⟩
      | cons _ _ => simp at h
    | cons a ks ih => intro vs h; cases vs with
      | nil => simp at h
      | cons b vs =>
        obtain ⟨h1, h2⟩ := ih vs (by simpa using h)
        exact ⟨by simp only [List.zip_cons_cons, List.map_cons, h1], by simp only [List.zip_cons_cons, List.map_cons, h2]⟩
  obtain ⟨a1, a2⟩ := hz1 (ks.map Sum.inr) vs (by simpa using hlv)
  obtain ⟨b1, b2⟩ := hz1 (ks.map Sum.inr) ds (by simpa using hld)
  refine ⟨hp1, (ks.map Sum.inr).zip vs, hzl ks vs, ?_, ?_⟩
  · have : ((ks.map (Sum.inr : Str → L2.Key)).zip vs).length ≤ (ks.map (Sum.inr : Str → L2.Key)).length := by rw [List.length_zip]; omega
    rw [List.length_map] at this
    omega
  · have hm : L2.mergeK [] ((ks.map Sum.inr).zip vs) = (ks.map Sum.inr).zip vs := merge_nodup _ [] (by
      rw [List.nil_append, a1]
      exact List.Pairwise.map _ (fun _ _ h e => h (Sum.inr.inj e)) hnd)
    rw [hm]
    obtain ⟨S3, k3⟩ := S2'.put (p := p) (by simp [one]) (.dK ((ks.map Sum.inr).zip vs))
    refine k _ _ F2 ρ2 _ (one p) (hw p) ⟨⟨_, rfl, upd_same, _, rfl, by rw [a1, b1], by rw [a2, b2]; exact dp⟩, rfl⟩ S3 (((k0.trans k1.left).trans (Kp.ofF s)).trans k3)
end
/-! ### d[k], d a dict with texts as keys -/
def ixDk : OT → PyData → (PyData → Prop) → Prop
  | .fx (.dk es), .str z, G => (match lookK es (Sum.inr z) with | some d => G d | none => False)
  | .ox _ (.dk es), .str z, G => (match lookK es (Sum.inr z) with | some d => G d | none => False)
  | _, _, _ => False
def wIxK (wa wb : WE) : WE := fun ρ Q => wa ρ fun r1 ρ1 => wb ρ1 fun r2 ρ2 => otd r1 r2 ρ2 fun t e => ixDk t e fun d' => Q (.fz d') ρ2
section
variable {X : Cx} {o i : Expr} {wa wb : WE} {pos : Pos} {k : Nat}
theorem de_ixK (hr : Room k X.A) (ha : DE X o wa) (hb : DE X i wb) (hs : NoSl i) : DE X (.Subscript o i pos) (wIxK wa wb) := by
  obtain ⟨⟨ta, pa, ra⟩⟩ := ha
  obtain ⟨⟨tb, pb, rb⟩⟩ := hb
  have hu := hr.units
  refine ⟨⟨_, pe_dget (by omega) pa pb hs, fun σ H F ρ fr Q Q' S hw k => ?_⟩⟩
  refine ra σ H F ρ fr _ _ S hw fun v1 H1 F1 ρ1 r1 m1 hw o1 S1 k1 => ?_
  refine rb σ H1 F1 ρ1 _ _ _ S1 hw fun v2 H2 F2 ρ2 r2 m2 hw o2 S2 k2 => ?_
  unfold otd at hw
  split at hw
  · rename_i t e ht he
    have o1' := o1.kp k2
    obtain ⟨m', ow⟩ := o1'.own S2 ht
    have d2 := o2.dp S2 he
    unfold ixDk at hw
    split at hw
    · skip
      rename_i es z
      cases d2
      obtain ⟨⟨a, o, rfl, hF, kvs, rfl, e1, e2⟩, _⟩ := ow
      have hv := look_val (k := (Sum.inr z : L2.Key)) e1 e2
      split at hw
      · rename_i d hd
        rw [hd] at hv
        obtain ⟨v, hv, dp⟩ := hv
        refine ⟨a, v, rfl, ?_, k v H2 F2 ρ2 (.fz d) z0 hw ⟨dp, rfl⟩ S2.left.left (k1.trans k2.left)⟩
        have := DGet.k (k := Sum.inr z) (S2.ex _ _ hF)
        rw [hv] at this
        exact this
      · exact hw.elim
    · rename_i p es z
      cases d2
      obtain ⟨⟨o, rfl, hH, kvs, rfl, e1, e2⟩, _⟩ := ow
      have hv := look_val (k := (Sum.inr z : L2.Key)) e1 e2
      split at hw
      · rename_i d hd
        rw [hd] at hv
        obtain ⟨v, hv, dp⟩ := hv
        refine ⟨p, v, rfl, ?_, k v H2 F2 ρ2 (.fz d) z0 hw ⟨dp, rfl⟩ S2.left.left (k1.trans k2.left)⟩
        have := DGet.k (k := Sum.inr z) hH
        rw [hv] at this
        exact this
      · exact hw.elim
    · exact hw.elim
  · exact hw.elim
end
/-! ### [a, b, ..][i], the items perhaps own lists -/
def wPick (ws : WA) (wb : WE) : WE := fun ρ Q => ws ρ fun rs ρ1 => bmt (decide (rs.length ≤ 1000)) (wb ρ1 fun r2 ρ2 => match r2.dat ρ2 with
  | some (.int i) => (match atI rs i with | some r => Q r ρ2 | none => False)
  | _ => False) False
section
variable {X : Cx} {es : List Expr} {i : Expr} {ws : WA} {wb : WE} {pos pos2 : Pos}
theorem rvs_get {K : PySem.W.Frag} {F H : Hp} {σ : Sg} {rs : List RV} {vs : List V} {m : Fp} (o : RVsOk K F H σ rs vs m) {j : Nat} {r : RV} (h : rs[j]? = some r) : ∃ v m1, vs[j]? = some v ∧ RVok K F H σ r v m1 ∧ ∀ a, m1 a ≤ m a := by
  induction o generalizing j with
  | nil => simp at h
  | @cons r' v m n rs vs h1 _ ih =>
    cases j with
    | zero =>
      simp at h
      subst h
      exact ⟨v, m, rfl, h1, fun a => by unfold padd; omega⟩
    | succ j =>
      obtain ⟨v', m1, a, b, c⟩ := ih (j := j) (by simpa using h)
      exact ⟨v', m1, by simpa using a, b, fun x => by have := c x; unfold padd; omega⟩
theorem de_pick (ha : DA X es ws) (hb : DE X i wb) (hs : PlainIx i := by exact fun _ _ => rfl) : DE X (.Subscript (.List es pos) i pos2) (wPick ws wb) := by
  obtain ⟨⟨t, p, r⟩⟩ := ha
  obtain ⟨⟨tb, pb, rb⟩⟩ := hb
  refine ⟨⟨_, pe_ix ix_list (pe_lst p) pb hs, fun σ H F ρ fr Q Q' S hw k => ?_⟩⟩
  refine r σ H F ρ fr _ _ S hw fun vs H1 F1 ρ1 rs m hw o S1 k1 => ?_
  have hsz : sizeLine = 16777216 := sizeLine_eq
  have hlen := o.len
  obtain ⟨hl, hw⟩ := bmt_and hw
  refine ⟨by omega, fun q hq => ?_⟩
  obtain ⟨S2, k2⟩ := S1.newL (o := .lst vs) hq
  refine rb σ _ F1 ρ1 _ _ _ S2 hw fun v2 H2 F2 ρ2 r2 m2 hw o2 S3 k3 => ?_
  have hq2 : H2 q = some (.lst vs) := (k3.keep q (by unfold padd one; simp)).trans upd_same
  split at hw
  · rename_i i hi
    have d2 := o2.dp S3 hi
    cases d2
    split at hw
    · rename_i r hr
      have o3 : RVsOk X.K F2 H2 σ rs vs m := (o.kp k2).kp (fr := padd fr (one q)) (k3.less fun a z => by unfold padd at z ⊢; omega)
      unfold atI at hr
      cases e : ixN rs.length i with
      | none => rw [e] at hr; cases hr
      | some j =>
        rw [e] at hr
        obtain ⟨v, m1, h1, h2, h3⟩ := rvs_get o3 hr
        refine ⟨q, vs, i, v, rfl, rfl, SqL.of hq2, ?_, k v H2 F2 ρ2 r m1 hw h2 (S3.less fun a => ?_) ((k1.trans k2.left).trans (k3.less fun a z => by unfold padd; omega))⟩
        · unfold atI
          rw [hlen, e]
          exact h1
        · have := h3 a
          unfold padd
          omega
    · exact hw.elim
  · exact hw.elim
end
end DL

namespace DL
open PySem PySem.Spec PyProof.Rows L2
/-! ### try: .. except A: .. except B: .. -/
def CatB (K : PySem.W.Frag) (ns : List Str) (c : Str) (cv : Value) : Prop := ∀ n ∈ ns, ∀ C, PySem.W.nsIn K mainGlobals n = some (some (.ref C)) → PySem.W.exmOne K (.ref C) cv = some (subB n c)
theorem catb_nil {K : PySem.W.Frag} {c : Str} {cv : Value} : CatB K [] c cv := fun n h => by cases h
theorem catb_cons {K : PySem.W.Frag} {c n : Str} {ns : List Str} {cv : Value} {D : Addr} (q : PySem.W.nsIn K mainGlobals n = some (some (.ref D))) (h : PySem.W.exmOne K (.ref D) cv = some (subB n c)) (r : CatB K ns c cv) : CatB K (n :: ns) c cv := by
  intro m hm C e
  rcases List.mem_cons.mp hm with rfl | hm
  · rw [q] at e
    cases e
    exact h
  · exact r m hm C e
def wTry2 (ns : List Str) (n1 n2 : Str) (w1 w2 wb : WS) : WS := fun d ρ => wb { d with ex := fun nm y ρ' => nm ∈ ns ∧ bmt (subB nm n1) (w1 d ρ') (bmt (subB nm n2) (w2 d ρ') False) } ρ
section
variable {X : Cx} {x1 x2 n1 n2 : Str} {c1 c2 : Value} {ns : List Str} {body s1 s2 : List Stmt} {b1 b2 : Stmt} {np1 np2 pos pos1 pos2 : Pos} {wb w1 w2 : WS}
theorem ds_try2 (hs : X.stack = X.env :: X.outer) (hf : X.env.frame = some X.env.locals) (hc1 : Names X x1 c1) (hc2 : Names X x2 c2) (hk1 : CatB X.K ns n1 c1) (hk2 : CatB X.K ns n2 c2)
    (hb : ∀ (W : WX) pn xe, Takes (X.tr pn xe) W → PassesOwn (model X.prog X.w) X.A X.env xe → DSsX (X.tr pn xe) W body wb)
    (h1 : ∀ (a : Addr) (oe : Obj) (cls : Value) (d : Option Addr) (pn : List (Addr × Obj)), Zc cls d oe → (∃ vs, oe.data = .fields vs) → DSs (X.suite a ((a, oe) :: pn)) (b1 :: s1) w1)
    (h2 : ∀ (a : Addr) (oe : Obj) (cls : Value) (d : Option Addr) (pn : List (Addr × Obj)), Zc cls d oe → (∃ vs, oe.data = .fields vs) → DSs (X.suite a ((a, oe) :: pn)) (b2 :: s2) w2) :
    DS X (.Try body [.ExceptHandler (some (.Name x1 np1)) none (b1 :: s1) pos1, .ExceptHandler (some (.Name x2 np2)) none (b2 :: s2) pos2] [] [] pos) (wTry2 ns n1 n2 w1 w2 wb) := by
  let tb : WX → TS := fun W D σ H => ∀ pn xe, Takes (X.tr pn xe) W → PassesOwn (model X.prog X.w) X.A X.env xe → ∃ t, PSs (X.tr pn xe) body t ∧ t D σ H
  let u1 : Addr → Value → Option Addr → TS := fun a cls d D σ H => ∀ oe pn, Zc cls d oe → (∃ vs, oe.data = .fields vs) → ∃ t, PSs (X.suite a ((a, oe) :: pn)) (b1 :: s1) t ∧ t D σ H
  let u2 : Addr → Value → Option Addr → TS := fun a cls d D σ H => ∀ oe pn, Zc cls d oe → (∃ vs, oe.data = .fields vs) → ∃ t, PSs (X.suite a ((a, oe) :: pn)) (b2 :: s2) t ∧ t D σ H
  refine ⟨⟨_, ps_try_many (tb := tb) (Wout := fun _ _ _ _ => False) (l := [(c1, u1), (c2, u2)]) hs hf takes_none5 (fun W pn xe tk po => ⟨fun pins s σ H D I h => ?_⟩) (.cons hc1 (fun a oe cls d pn hz hf => ⟨fun pins s σ H D I h => ?_⟩) (.cons hc2 (fun a oe cls d pn hz hf => ⟨fun pins s σ H D I h => ?_⟩) .nil)), fun σ H F ρ fr d e S E h => ?_⟩⟩
  · obtain ⟨t, pt, ht⟩ := h pn xe tk po
    exact pt.run pins s σ H D I ht
  · obtain ⟨t, pt, ht⟩ := h oe pn hz hf
    exact pt.run pins s σ H D I ht
  · obtain ⟨t, pt, ht⟩ := h oe pn hz hf
    exact pt.run pins s σ H D I ht
  · intro pn xe tk po
    obtain ⟨⟨t, p, r⟩⟩ := hb _ pn xe tk po
    refine ⟨t, p, r σ H F ρ fr { d with ex := fun nm y ρ' => nm ∈ ns ∧ bmt (subB nm n1) (w1 d ρ') (bmt (subB nm n2) (w2 d ρ') False) } e S ⟨E.nx, E.bk, E.ct, E.rt⟩ ⟨fun nm y σ' H' F' ρ' cls dd a xd S' k => ?_⟩ h⟩
    obtain ⟨hn, a⟩ := a
    obtain ⟨C, e1, e2, e3⟩ := id xd
    subst e1
    refine ⟨subB nm n1, hk1 nm hn C e2, fun hb a' ha => ?_, fun hb => ⟨subB nm n2, hk2 nm hn C e2, fun hb2 a' ha => ?_, fun hb2 => ?_⟩⟩
    · rw [hb] at a
      intro oe pn hz hf
      obtain ⟨⟨t1, p1, r1⟩⟩ := h1 a' oe _ dd pn hz hf
      exact ⟨t1, p1, r1 σ' H' F' ρ' fr d e S' (E.go k) a⟩
    · rw [hb, hb2] at a
      intro oe pn hz hf
      obtain ⟨⟨t1, p1, r1⟩⟩ := h2 a' oe _ dd pn hz hf
      exact ⟨t1, p1, r1 σ' H' F' ρ' fr d e S' (E.go k) a⟩
    · rw [hb, hb2] at a
      exact a.elim
end
/-! ### s.find(t), s.count(t) -/
def wMS (g : Str → Str → PyData) (wo : WE) (ws : WA) : WE := fun ρ Q => wo ρ fun r1 ρ1 => match r1.dat ρ1 with
  | some (.str a) => ws ρ1 fun rs ρ2 => dats rs ρ2 fun ds => (match ds with
    | [.str b] => Q (.fz (g a b)) ρ2
    | _ => False)
  | _ => False
section
variable {X : Cx} {o e : Expr} {wo wa : WE} {ws : WA} {pos apos p : Pos}
theorem mS_run {K : PySem.W.Frag} {T : String} {ta : TE} {tb : TA} {g : Str → Str → V} {g' : Str → Str → PyData} (hT : T = "str") (hs : ∀ a b, Sc (g a b) (g' a b)) (ra : RE K ta wo)
    (rb : ∀ (σ : Sg) (H F : Hp) (ρ : Rho) (fr : Fp) (Q : List RV → Rho → Prop) (Q' : List V → Hp → Prop), SI K F H σ ρ fr → ws ρ Q → (∀ vs H' F' ρ' rs m, Q rs ρ' → RVsOk K F' H' σ rs vs m → SI K F' H' σ ρ' (padd fr m) → Kp F H fr F' H' → Q' vs H') → tb σ H Q') :
    RE K (tBM K T (fun x xs H Q => ∃ a b, x = .str a ∧ xs = [.str b] ∧ Q (g a b) H) ta tb) (wMS g' wo ws) := by
  intro σ H F ρ fr Q Q' S hw k
  refine ra σ H F ρ fr _ _ S hw fun v1 H1 F1 ρ1 r1 m1 hw o1 S1 k1 => ?_
  split at hw
  · rename_i a ha
    have := o1.dp S1 ha
    cases this
    refine ⟨by rw [hT]; rfl, ?_⟩
    refine rb σ H1 F1 ρ1 _ _ _ S1 hw fun vs H2 F2 ρ2 rs m2 hw o2 S2 k2 => ?_
    obtain ⟨ds, dp, hw⟩ := dats_ok S2 o2 hw
    split at hw
    · rename_i b
      cases dp with
      | cons d1 d2 =>
        cases d2
        cases d1
        exact ⟨a, b, rfl, rfl, k _ H2 F2 ρ2 (.fz (g' a b)) z0 hw ⟨(hs a b).dp, rfl⟩ S2.left.left (k1.trans k2.left)⟩
    · exact hw.elim
  · exact hw.elim
theorem de_m_find (ho : DE X o wo) (he : DA X [e] ws) (hbase : attributeBase o "find" X.env (eval o X.env) = eval o X.env := by rfl) (hline : (apos.endLine == pos.line) = true := by rfl)
    (hfew : ((backTo pos (starEach (e :: []) X.env)).all (fun x => !x.1) && (backToKw pos (keywordEach [] X.env)).all (fun x => x.1.isSome) && decide ((e :: []).length + ([] : List Keyword).length + (if ([] : List Keyword).isEmpty then 0 else 1) < 30)) = true := by rfl)
    (hs2 : starEach (e :: []) X.env = (false, eval e X.env) :: starEach [] X.env := by rfl) (hplain : (backTo pos (starEach [] X.env)).any (·.1) = false := by rfl) :
    DE X (.Call (.Attribute o "find" apos) [e] [] pos) (wMS (fun a b => .int (Txt.find a b)) wo ws) := by
  obtain ⟨⟨ta, pa, ra⟩⟩ := ho
  obtain ⟨⟨tb, pb, rb⟩⟩ := he
  exact ⟨⟨_, pe_bm PySem.F.plainAttrs_str PySem.F.slot_str_find PySem.F.type_str_find mt_find pa pb hbase hfew hline hs2 hplain, mS_run rfl (fun _ _ => .int _) ra rb⟩⟩
theorem de_m_countS (ho : DE X o wo) (he : DA X [e] ws) (hbase : attributeBase o "count" X.env (eval o X.env) = eval o X.env := by rfl) (hline : (apos.endLine == pos.line) = true := by rfl)
    (hfew : ((backTo pos (starEach (e :: []) X.env)).all (fun x => !x.1) && (backToKw pos (keywordEach [] X.env)).all (fun x => x.1.isSome) && decide ((e :: []).length + ([] : List Keyword).length + (if ([] : List Keyword).isEmpty then 0 else 1) < 30)) = true := by rfl)
    (hs2 : starEach (e :: []) X.env = (false, eval e X.env) :: starEach [] X.env := by rfl) (hplain : (backTo pos (starEach [] X.env)).any (·.1) = false := by rfl) :
    DE X (.Call (.Attribute o "count" apos) [e] [] pos) (wMS (fun a b => .int (Txt.count a b)) wo ws) := by
  obtain ⟨⟨ta, pa, ra⟩⟩ := ho
  obtain ⟨⟨tb, pb, rb⟩⟩ := he
  exact ⟨⟨_, pe_bm PySem.F.plainAttrs_str PySem.F.slot_str_count PySem.F.type_str_count mt_count pa pb hbase hfew hline hs2 hplain, mS_run rfl (fun _ _ => .int _) ra rb⟩⟩
end
end DL

namespace DL
open PySem PySem.Spec PyProof.Rows L2
/-! ### an exception made as a value -/
section
variable {X : Cx} {e : Expr} {t : L2.St → Hp → XK → Prop}
theorem pe_of_pmk (h : PMk X e t) : PE X e (fun σ H Q => t σ H fun cls d H1 => ∀ a, H1 a = none → Q (.ref a) (upd H1 a (exK a cls d))) := by
  refine ⟨fun pins s σ H Q I hw => ?_⟩
  refine wpAny_mono (h pins s σ H _ I hw) (fun u s1 hu => ?_) fun _ _ x => x
  obtain ⟨a, oe, vs, sI, H', cls, d, rfl, J, k, hne, ha, hz, hd, h1, na, os, ag, r, q⟩ := hu
  have J2 := J.laidN (t' := sI.toks) (o := exK a cls d) k hne na (exK_ok ha hz.1 hz.2 hd)
  exact ⟨.ref a, upd H' a (exK a cls d), ⟨J.ok, os.trans J.os, ag, J2.base, J2.loc, J2.cell, J2.free, J2.freeC, J2.pin, J2.hok, J2.len⟩, rfl, q a na⟩
end
def wMkT (n : Str) (wa : WE) : WE := fun ρ Q => wa ρ fun _ ρ1 => Q (.tm (.exc n none)) ρ1
def wMkK (n f : Str) (ok : PyData → Prop) (wa : WE) : WE := fun ρ Q => wa ρ fun r ρ1 => frz r ρ1 fun y ρ2 => ok y ∧ Q (.tm (.exc n (some (f, y)))) ρ2
section
variable {X : Cx} {n f : Str} {e : Expr} {wa : WE} {p pos cpos : Pos} {ok : PyData → Prop}
theorem de_mkT (T : XPlain X.K X.mg n) (hg : Gl X n) (ha : DE X e wa) (hdb : (n == ("__debug__" : Str)) = false := by decide)
    (hs : starEach (e :: []) X.env = (false, eval e X.env) :: starEach [] X.env := by rfl) (hpl : (backTo cpos (starEach [] X.env)).any (·.1) = false := by rfl) :
    DE X (.Call (.Name n p) [e] [] cpos) (wMkT n wa) := by
  obtain ⟨C, h1, h2, h3, h4, h5, h6⟩ := T.ex
  obtain ⟨⟨t, pe, r⟩⟩ := ha
  refine ⟨⟨_, pe_of_pmk (pmk_ownT PySem.F.excBase_ValueError h3 h1 h4 (raises_own h5 h6) hg pe hdb hs hpl), fun σ H F ρ fr Q Q' S hw k => ?_⟩⟩
  refine r σ H F ρ fr _ _ S hw fun v H1 F1 ρ1 r1 m hw oo S1 k1 => ⟨rfl, fun a ha => ?_⟩
  obtain ⟨S2, s2, k2⟩ := S1.left.newF (o := exK a (.ref C) none) ha
  exact k _ _ _ ρ1 _ z0 hw (own_exc (H := upd H1 a (exK a (.ref C) none)) (ExcD.t (n := n) (y := none) (d := none) ⟨C, rfl, h2, rfl⟩ s2 upd_same)) S2 (k1.trans k2)
theorem de_mkK {CX : CXT} {k : Nat} {C fI : Addr} {fd : FuncData} {ps : List Str} {φ : V → Hp → Prop} (T : OexC X.K C) (hn : PySem.W.nsIn X.K mainGlobals n = some (some (.ref C))) (iC : PySem.W.findIn X.K (.ref C) "__init__" = some (some (.ref fI))) (tI : PySem.W.typeIn X.K (.ref fI) = some (.type "function"))
    (F1 : FnOk X.prog X.w X.K X.mg X.base CX k fI fd ps (spIni C f φ)) (hr : Room (k + 1) X.A) (hb : Binds X.K fd ps []) (hx : Passes CX X (fun _ _ _ => False)) (hg : Gl X n) (hm : X.mg n = some (.ref C)) (hφ : KeptOk X.K ok φ) (ha : DE X e wa)
    (hdb : (n == ("__debug__" : Str)) = false := by decide) (he : starEach (e :: []) X.env = (false, eval e X.env) :: starEach [] X.env := by rfl) (hpl : (backTo cpos (starEach [] X.env)).any (·.1) = false := by rfl) :
    DE X (.Call (.Name n p) [e] [] cpos) (wMkK n f ok wa) := by
  obtain ⟨⟨t, pe, r⟩⟩ := ha
  refine ⟨⟨_, pe_of_pmk (pmk_oex T iC tI F1 hr hb .nil hx hg hm (pa_cons pe pa_nil he) hdb he hpl), fun σ H F ρ fr Q Q' S hw k => ?_⟩⟩
  refine r σ H F ρ fr _ _ S hw fun v H1 F1' ρ1 r1 m hw oo cc k1 => ?_
  obtain ⟨y, ρ2, F2, hw, dp, s, S2⟩ := frz_ok cc oo (fun a => by unfold padd; omega) hw
  have S2' : SI X.K F2 H1 σ ρ2 fr := S2.less fun a => by unfold padd; omega
  refine ⟨by show 1 ≤ 1000; decide, fun a hna => ?_⟩
  have up_a : upd H1 a (exo a C none) a = some (exo a C none) := upd_same
  have sm : Same F2 (upd H1 a (exo a C none)) := fun b o q => by
    rw [upd_ne fun z => by rw [z] at q; have := S2'.ex _ _ q; rw [hna] at this; cases this]
    exact S2'.ex _ _ q
  refine ⟨a, v, rfl, hφ F2 _ v y sm dp hw.1, up_a, fun dx hdx hne => ⟨rfl, dx, [(f, v)], upd_same, ?_, ?_, ?_⟩⟩
  · rw [upd_ne hne, upd_same]
  · rw [upd_ne hne] at hdx
    exact hdx
  · have hdx1 : H1 dx = none := by rw [upd_ne hne] at hdx; exact hdx
    have eH : upd (del (upd (upd (upd H1 a (exo a C none)) dx (exd dx [(f, v)])) a (exo a C (some dx))) a) dx (.xd [(f, v)]) = upd H1 dx (.xd [(f, v)]) := by
      funext b
      by_cases hbd : b = dx
      · rw [hbd, upd_same, upd_same]
      · rw [upd_ne hbd, upd_ne hbd]
        by_cases hba : b = a
        · rw [hba, del_same, hna]
        · rw [del_ne hba, upd_ne hba, upd_ne hbd, upd_ne hba]
    rw [eH]
    obtain ⟨S4, s4, k4⟩ := S2'.newF (o := .xd [(f, v)]) hdx1
    intro a' ha'
    obtain ⟨S5, s5, k5⟩ := S4.newF (o := exK a' (.ref C) (some dx)) ha'
    exact k _ _ _ ρ2 _ z0 hw.2 (own_exc (H := upd (upd H1 dx (.xd [(f, v)])) a' (exK a' (.ref C) (some dx))) (ExcD.t (n := n) (y := some (f, y)) (d := some dx) ⟨C, rfl, hn, dx, v, rfl, upd_same, dpm s4 _ _ dp⟩ s5 upd_same)) S5 (((k1.trans (Kp.ofF s)).trans k4).trans k5)
theorem de_mkR (R : RaisesK X.prog X.w X.K X.mg n f ok) (hr : Room 3 X.A) (hg : Gl X n) (ha : DE X e wa)
    (hdb : (n == ("__debug__" : Str)) = false := by decide) (he : starEach (e :: []) X.env = (false, eval e X.env) :: starEach [] X.env := by rfl) (hpl : (backTo cpos (starEach [] X.env)).any (·.1) = false := by rfl) :
    DE X (.Call (.Name n p) [e] [] cpos) (wMkK n f ok wa) := by
  obtain ⟨C, fI, fd, ps, φ, h1, h2, h3, h4, h5, h6, h7, h8⟩ := R.ex
  exact de_mkK h1 h2 h3 h4 (h8 X.base) hr h6 (fun _ _ _ _ _ _ _ z => z.elim) hg h5 h7 ha hdb he hpl
end
/-! ### str(n(text)), n a class without its own __init__ -/
/-- what str of such a class is -/
def XStr (K : PySem.W.Frag) (mg : Str → Option Value) (n : Str) : Prop := ∃ C, mg n = some (.ref C) ∧ PySem.W.excIn K C veMro "ValueError.__new__" = true ∧ PySem.W.keepIn K (.ref C) = true ∧ PySem.W.subIn K (.ref C) (.type "BaseException") = some true ∧ PySem.W.findIn K (.ref C) "__str__" = some (some (.builtin "BaseException.__str__"))
def wStrX (wa : WE) : WE := fun ρ Q => wa ρ fun r ρ1 => match r.dat ρ1 with
  | some (.str z) => Q (.fz (.str z)) ρ1
  | _ => False
section
variable {X : Cx} {n : Str} {e : Expr} {te : TE} {wa : WE} {p p0 pos cpos : Pos} {k : Nat}
theorem pe_strX (T : XStr X.K X.mg n) (hr : Room k X.A) (hgs : Gl X "str") (hms : X.mg "str" = none) (hg : Gl X n) (he : PE X e te)
    (hs1 : starEach [.Call (.Name n p) [e] [] cpos] X.env = (false, eval (.Call (.Name n p) [e] [] cpos) X.env) :: starEach [] X.env := by rfl)
    (hdb : (n == ("__debug__" : Str)) = false := by decide) (hs : starEach (e :: []) X.env = (false, eval e X.env) :: starEach [] X.env := by rfl) (hpl : (backTo cpos (starEach [] X.env)).any (·.1) = false := by rfl) :
    PE X (.Call (.Name "str" p0) [.Call (.Name n p) [e] [] cpos] [] pos) (fun σ H Q => te σ H fun v H1 => ∃ z, v = V.str z ∧ Q (.str z) H1) := by
  obtain ⟨C, h1, h3, h4, h5, h6⟩ := T
  refine ⟨fun pins s σ H Q I h => ?_⟩
  have hu := hr.units
  refine Call_ (ld_blt I hgs hms (show bootBuiltins "str" = some (.type "str") by decide +kernel) (PyProof.Rows.callWith_type1 (args_cons (?_) hs1) hs1))
  refine wpAny_Call_Name_kw (ld_glob I hg h1 ?_ hdb)
  refine PySem.W.callWith_K (h₀ := X.base) I.ok.mod.kin h4 ?_ hs hpl
  rw [hs]
  show wpAny _ _ (spliced ((false, eval e X.env) :: backTo cpos (starEach [] X.env))) _ _ s
  refine Calls.spliced_cons (thn (he.run pins s σ H _ I h) fun u s1 ⟨v, H1, I1, r1, z, ev, q1⟩ => ?_)
  subst ev
  obtain ⟨tz, rfl⟩ := r1
  refine Calls.spliced_nil ⟨I1.kIn, ?_⟩
  show wpAny _ _ (call (.ref C) [.str z tz]) _ _ _
  obtain ⟨bm, N, nm, qn, bs, hdct, sn, sub, ab, col, dd, k0, k1, k2, k3, k5, mN, hC, hN, hni, T⟩ := exc_obj I1.kIn h3
  refine wpAny_call_exc_subT PySem.F.excBase_ValueError T hC hN hni (fun h' a hm => ?_) (by show 1 ≤ sizeLine; rw [sizeLine_eq]; omega)
  obtain ⟨t0, ht, _, ht0⟩ := hm.there
  refine args_nil ?_
  have K1 : X.K.In h' := I1.kIn.keeps hm.keeps
  exact PySem.P.str_of_C_one (t0 := t0) (m := z) (tk := tz) (by omega) ⟨K1, _, _, ht, rfl, rfl, rfl⟩ ⟨_, _, ht0, rfl, rfl⟩ h6 h5 ⟨.str z, H1, I1.kept (t' := s1.toks) hm.keeps, ⟨tz, rfl⟩, q1⟩
theorem de_strX (T : XStr X.K X.mg n) (hr : Room k X.A) (hgs : Gl X "str") (hms : X.mg "str" = none) (hg : Gl X n) (ha : DE X e wa)
    (hs1 : starEach [.Call (.Name n p) [e] [] cpos] X.env = (false, eval (.Call (.Name n p) [e] [] cpos) X.env) :: starEach [] X.env := by rfl)
    (hdb : (n == ("__debug__" : Str)) = false := by decide) (hs : starEach (e :: []) X.env = (false, eval e X.env) :: starEach [] X.env := by rfl) (hpl : (backTo cpos (starEach [] X.env)).any (·.1) = false := by rfl) :
    DE X (.Call (.Name "str" p0) [.Call (.Name n p) [e] [] cpos] [] pos) (wStrX wa) := by
  obtain ⟨⟨t, pe, r⟩⟩ := ha
  refine ⟨⟨_, pe_strX T hr hgs hms hg pe hs1 hdb hs hpl, fun σ H F ρ fr Q Q' S hw k => ?_⟩⟩
  refine r σ H F ρ fr _ _ S hw fun v H1 F1 ρ1 r1 m hw oo S1 k1 => ?_
  split at hw
  · rename_i z hz
    have d1 := oo.dp S1 hz
    cases d1
    exact ⟨z, rfl, k _ H1 F1 ρ1 _ z0 hw ⟨.str z, rfl⟩ S1.left k1⟩
  · exact hw.elim
end
/-! ### x.pop(i), x.insert(i, e) of an own list, the answer dropped -/
def wPopAt (i : Nat) (wa : WE) : WS := fun d ρ => isOwn ρ i <| wa ρ fun r ρ1 => match look ρ1 i, r.dat ρ1 with
  | some (.lst p ds), some (.int k) => 0 ≤ k ∧ k < ds.length ∧ ds.length ≤ sizeLine ∧ d.nx (ρ1.set i (some (.lst p (ds.eraseIdx k.toNat))))
  | _, _ => False
def wInsert (i : Nat) (wa wb : WE) : WS := fun d ρ => isOwn ρ i <| wa ρ fun r ρ1 => wb ρ1 fun r2 ρ2 => dat2 r r2 ρ2 fun k y => frz r2 ρ2 fun x ρ3 => match look ρ3 i, k with
  | some (.lst p ds), .int k => 0 ≤ k ∧ k < 2 ^ 62 ∧ ds.length < sizeLine ∧ d.nx (ρ3.set i (some (.lst p (ds.take k.toNat ++ [x] ++ ds.drop k.toNat))))
  | _, _ => False
section
variable {X : Cx} {e e2 : Expr} {wa wb : WE} {pos apos cpos p0 : Pos} {x : Str} {i : Nat}
theorem dpa_erase {K : PySem.W.Frag} {H : Hp} : ∀ {vs : List V} {ds : List PyData} (n : Nat), DpAll K H vs ds → DpAll K H (vs.eraseIdx n) (ds.eraseIdx n)
  | _, _, _, .nil => .nil
  | _, _, 0, .cons _ t => t
  | _, _, n + 1, .cons r t => .cons r (dpa_erase n t)
theorem ds_popAt (hN : X.N[i]? = some x) (hv : Vis X.env.scope x) (ha : DE X e wa)
    (hd : (x == ("__debug__" : Str)) = false := by decide) (hcd : (x == ("__classdict__" : Str)) = false := by decide)
    (hbase : attributeBase (.Name x p0) "pop" X.env (eval (.Name x p0) X.env) = eval (.Name x p0) X.env := by rfl)
    (hfew : ((backTo cpos (starEach [e] X.env)).all (fun x => !x.1) && (backToKw cpos (keywordEach [] X.env)).all (fun x => x.1.isSome)
      && decide ([e].length + ([] : List Keyword).length + (if ([] : List Keyword).isEmpty then 0 else 1) < 30)) = true := by rfl)
    (hline : (apos.endLine == cpos.line) = true := by rfl) (hs : starEach (e :: []) X.env = (false, eval e X.env) :: starEach [] X.env := by rfl) (hplain : (backTo cpos (starEach [] X.env)).any (·.1) = false := by rfl)
    (hsw : swapsWith (.Call (.Attribute (.Name x p0) "pop" apos) [e] [] cpos) none pos.line X.env = pure false := by rfl) :
    DS X (.Expr (.Call (.Attribute (.Name x p0) "pop" apos) [e] [] cpos) pos) (wPopAt i wa) := by
  obtain ⟨⟨t, p, r⟩⟩ := ha
  refine ⟨⟨_, ps_expr (pe_bm PySem.F.plainAttrs_list PySem.F.slot_list_pop PySem.F.type_list_pop mt_popAt (pe_var hN hv hd hcd) (pa_cons p pa_nil hs) hbase hfew hline hs hplain) hsw, fun σ H F ρ fr d e S E h => ?_⟩⟩
  obtain ⟨⟨q, ds0, e0⟩, h⟩ := isOwn_iff h
  obtain ⟨vs, e1, hp, _, _⟩ := S.lst e0
  refine ⟨.ref q, e1, .inl ⟨rfl, _, SqL.of hp⟩, ?_⟩
  refine r σ H F ρ fr _ _ S h fun v H1 F1 ρ1 r1 m a b c k1 => ?_
  have c' : SI X.K F1 H1 σ ρ1 fr := c.left
  split at a
  · rename_i q' ds kk e2 e3
    have dk := b.dp c e3
    cases dk
    obtain ⟨vs', e1', hp', ha', fin⟩ := c'.lst e2
    rw [e1] at e1'
    cases e1'
    obtain ⟨a1, a2, a3, a4⟩ := a
    obtain ⟨S3, k3⟩ := fin (vs'.eraseIdx kk.toNat) (ds.eraseIdx kk.toNat) (dpa_erase _ ha')
    have hl := ha'.length
    have hsz : sizeLine = 16777216 := sizeLine_eq
    refine ⟨q, vs', kk, kk.toNat, _, rfl, rfl, hp', by omega, by omega, ?_, List.getElem?_eq_getElem (show kk.toNat < vs'.length by omega), E.nx σ _ F1 _ a4 S3 (k1.trans k3)⟩
    have : ixN vs'.length kk = some kk.toNat := by
      unfold ixN
      rw [if_pos a1, if_pos (by omega)]
    exact (ixN_seq this).1
  · exact a.elim
theorem ds_insert (hN : X.N[i]? = some x) (hv : Vis X.env.scope x) (ha : DE X e wa) (hb : DE X e2 wb)
    (hd : (x == ("__debug__" : Str)) = false := by decide) (hcd : (x == ("__classdict__" : Str)) = false := by decide)
    (hbase : attributeBase (.Name x p0) "insert" X.env (eval (.Name x p0) X.env) = eval (.Name x p0) X.env := by rfl)
    (hfew : ((backTo cpos (starEach [e, e2] X.env)).all (fun x => !x.1) && (backToKw cpos (keywordEach [] X.env)).all (fun x => x.1.isSome)
      && decide ([e, e2].length + ([] : List Keyword).length + (if ([] : List Keyword).isEmpty then 0 else 1) < 30)) = true := by rfl)
    (hline : (apos.endLine == cpos.line) = true := by rfl) (hs : starEach (e :: [e2]) X.env = (false, eval e X.env) :: starEach [e2] X.env := by rfl) (hs2 : starEach (e2 :: []) X.env = (false, eval e2 X.env) :: starEach [] X.env := by rfl) (hplain : (backTo cpos (starEach [e2] X.env)).any (·.1) = false := by rfl)
    (hsw : swapsWith (.Call (.Attribute (.Name x p0) "insert" apos) [e, e2] [] cpos) none pos.line X.env = pure false := by rfl) :
    DS X (.Expr (.Call (.Attribute (.Name x p0) "insert" apos) [e, e2] [] cpos) pos) (wInsert i wa wb) := by
  obtain ⟨⟨t, p, r⟩⟩ := ha
  obtain ⟨⟨t2, p2, r2⟩⟩ := hb
  refine ⟨⟨_, ps_expr (pe_bm PySem.F.plainAttrs_list PySem.F.slot_list_insert PySem.F.type_list_insert mt_insert (pe_var hN hv hd hcd) (pa_cons p (pa_cons p2 pa_nil hs2) hs) hbase hfew hline hs hplain) hsw, fun σ H F ρ fr d e S E h => ?_⟩⟩
  obtain ⟨⟨q, ds0, e0⟩, h⟩ := isOwn_iff h
  obtain ⟨vs, e1, hp, _, _⟩ := S.lst e0
  refine ⟨.ref q, e1, .inl ⟨rfl, _, SqL.of hp⟩, ?_⟩
  refine r σ H F ρ fr _ _ S h fun v H1 F1 ρ1 r1 m a b c k1 => ?_
  refine r2 σ H1 F1 ρ1 _ _ _ c a fun v2 H2 F2 ρ2 r2' m2 a b2 c2 k2 => ?_
  obtain ⟨dk, dy, f1, f2, a⟩ := dat2_iff a
  have dpk := (b.kp k2).dp c2 f1
  obtain ⟨y, ρ3, F3, az, dp, s, S3⟩ := frz_ok c2 b2 (fun a => by unfold padd; omega) a
  clear a
  have S3' : SI X.K F3 H2 σ ρ3 fr := S3.less fun a => by unfold padd; omega
  split at az
  · rename_i q' ds kk e2
    cases dpk
    obtain ⟨vs', e1', hp', ha', fin⟩ := S3'.lst e2
    rw [e1] at e1'
    cases e1'
    obtain ⟨a1, a2, a3, a4⟩ := az
    obtain ⟨S4, k4⟩ := fin (vs'.take kk.toNat ++ [v2] ++ vs'.drop kk.toNat) (ds.take kk.toNat ++ [y] ++ ds.drop kk.toNat) (((ha'.take _).append (.cons dp .nil)).append (ha'.drop _))
    exact ⟨q, vs', kk, v2, rfl, rfl, hp', by rw [ha'.length]; exact a3, a1, by omega, E.nx σ _ F3 _ a4 S4 (((k1.trans k2.left).trans (Kp.ofF s)).trans k4)⟩
  · exact az.elim
end
end DL

namespace Lw
open PySem PySem.Spec PyProof.Rows L2 DL
theorem dpa_ints {K : PySem.W.Frag} {H : Hp} : ∀ ns : List Int, DpAll K H (ns.map V.int) (ns.map .int)
  | [] => .nil
  | n :: ns => .cons (.int n) (dpa_ints ns)
abbrev cs (x : Str) : List Nat := x.cps.toList
abbrev tI (i : Int) : OT := .fz (.int i)
def phi_l_mix : FS := fun ts Q => ∃ c k, ts = [tI c, tI k] ∧ (0 ≤ k ∧ k ≤ 2 ^ 41) ∧ ∀ n, 0 ≤ n → n < 536870891 → Q (tI n) ts
def W_l_mix_3 : WS := (wRet (wOp2 (gI (fun i j => .int (i / j)) CDiv) (wOp2 (gI (fun i j => .int (i % j)) fun _ j => 0 < j) (wOp2 (gI (fun i j => .int (i * j)) CMul) (wVar 2) (wOp2 gAdd (wVar 2) (wC (.int 40961)))) (wC (.int 2147483563))) (wC (.int 4))))
def W_l_mix_2 : WS := wSeq (wSet (wOp2 (gI (fun i j => .int (i % j)) fun _ j => 0 < j) (wOp2 (gI (fun i j => .int (i * j)) CMul) (wVar 2) (wVar 2)) (wC (.int 2147483587))) 2) W_l_mix_3
def W_l_mix_1 : WS := wSeq (wSet (wOp2 (gI (fun i j => .int (i % j)) fun _ j => 0 < j) (wOp2 gAdd (wVar 2) (wOp2 (gI (fun i j => .int (i * j)) CMul) (wC (.int 7919)) (wVar 1))) (wC (.int 2147483629))) 2) W_l_mix_2
def W_l_mix_0 : WS := wSeq (wSet (wOp2 gAdd (wOp2 (gI (fun i j => .int (i % j)) fun _ j => 0 < j) (wVar 0) (wC (.int 2147483629))) (wOp2 (gI (fun i j => .int (i * j)) CMul) (wOp2 (gI (fun i j => .int (i * j)) CMul) (wC (.int 1000003)) (wVar 1)) (wVar 1))) 2) W_l_mix_1
def W_l_mix : WS := W_l_mix_0

theorem v_l_mix (ts : List OT) (Q : OT → List OT → Prop) (h : phi_l_mix ts Q) : W_l_mix (endsF 3 ts Q) (startR 3 ts) := by
  obtain ⟨c, k, rfl, ⟨h0, h1⟩, h⟩ := h
  show W_l_mix _ [some (tI c), some (tI k), none]
  conv => whnf
  refine ⟨by show (0 : Int) < _; decide, ?_⟩
  conv => whnf
  refine ⟨.inl ⟨by decide, by decide⟩, ?_⟩
  conv => whnf
  refine ⟨.inr ⟨by omega, by omega⟩, ?_⟩
  conv => whnf
  refine ⟨.inl ⟨by decide, by decide⟩, ?_⟩
  conv => whnf
  refine ⟨by show (0 : Int) < _; decide, ?_⟩
  conv => whnf
  refine ⟨.inl ⟨by omega, by omega⟩, ?_⟩
  conv => whnf
  refine ⟨by show (0 : Int) < _; decide, ?_⟩
  conv => whnf
  refine ⟨.inl ⟨by omega, by omega⟩, ?_⟩
  conv => whnf
  refine ⟨by show (0 : Int) < _; decide, ?_⟩
  conv => whnf
  refine ⟨⟨by decide, by decide⟩, ?_⟩
  conv => whnf
  refine h _ ?_ ?_
  · omega
  · omega
theorem atI_map {α β : Type} (f : α → β) (ns : List α) (a : Int) (h0 : 0 ≤ a) (h1 : a < ns.length) : ∃ x, x ∈ ns ∧ atI (ns.map f) a = some (f x) := by
  obtain ⟨j, rfl⟩ : ∃ j : Nat, a = j := ⟨a.toNat, by omega⟩
  have hj : j < ns.length := by omega
  exact ⟨ns[j], List.getElem_mem hj, atI_nat (by simp [hj])⟩
/-- the drawing deck: what was drawn is at most C -/
def DeckOk (C : Int) (ds : List PyData) : Prop := ∃ (ns : List Int) (a b c s : Int), ds = [.list (ns.map .int), .int a, .int b, .int c, .int s] ∧ (0 ≤ a ∧ a ≤ ns.length ∧ ns.length ≤ 63) ∧ 0 ≤ b ∧ 0 ≤ c ∧ c ≤ C
def phi_l_next : FS := fun ts Q => ∃ p ds C many, ts = [.lst p ds, tI many] ∧ DeckOk C ds ∧ C ≤ 2 ^ 40 ∧ (0 < many ∧ many < 2 ^ 30) ∧ ∀ n ds', 0 ≤ n → n < many → DeckOk (C + 1) ds' → Q (tI n) [.lst p ds', tI many]
def W_l_next_b0_3 : WS := (wSub 0 (wC (.int 2)) (wVar 2))
def W_l_next_b0_2 : WS := wSeq (wIfS (wTst (wOp2 (gI0 fun i j => .bool (decide (i < j))) (wVar 2) (wOp2 (gI (fun i j => .int (i ^ j.toNat)) CPow) (wC (.int 10)) (wC (.int 18))))) (wRet (wOp2 (gI (fun i j => .int (i % j)) fun _ j => 0 < j) (wCall 2 [false, false] phi_l_mix (wCons (wVar 2) (wCons (wIx (wVar 0) (wC (.int 1))) wNil))) (wVar 1))) wNext) W_l_next_b0_3
def W_l_next_b0_1 : WS := wSeq (wSub 0 (wC (.int 1)) (wOp2 gAdd (wIx (wVar 0) (wC (.int 1))) (wC (.int 1)))) W_l_next_b0_2
def W_l_next_b0_0 : WS := wSeq (wSet (wIx (wIx (wVar 0) (wC (.int 0))) (wIx (wVar 0) (wC (.int 1)))) 2) W_l_next_b0_1
def W_l_next_b1_2 : WS := (wRet (wVar 3))
def W_l_next_b1_1 : WS := wSeq (wSub 0 (wC (.int 2)) (wOp2 (gI (fun i j => .int (i / j)) CDiv) (wIx (wVar 0) (wC (.int 2))) (wVar 1))) W_l_next_b1_2
def W_l_next_b1_0 : WS := wSeq (wSet (wOp2 (gI (fun i j => .int (i % j)) fun _ j => 0 < j) (wIx (wVar 0) (wC (.int 2))) (wVar 1)) 3) W_l_next_b1_1
def W_l_next_3 : WS := (wRet (wOp2 (gI (fun i j => .int (i % j)) fun _ j => 0 < j) (wCall 2 [false, false] phi_l_mix (wCons (wIx (wVar 0) (wC (.int 4))) (wCons (wOp2 gAdd (wIx (wVar 0) (wC (.int 3))) (wC (.int 881))) wNil))) (wVar 1)))
def W_l_next_2 : WS := wSeq (wSub 0 (wC (.int 3)) (wOp2 gAdd (wIx (wVar 0) (wC (.int 3))) (wC (.int 1)))) W_l_next_3
def W_l_next_1 : WS := wSeq (wIfS (wTst (wOp2 (gI0 fun i j => .bool (decide (j < i))) (wIx (wVar 0) (wC (.int 2))) (wC (.int 0)))) W_l_next_b1_0 wNext) W_l_next_2
def W_l_next_0 : WS := wSeq (wIfS (wAnd (wTst (wOp2 gEq (wIx (wVar 0) (wC (.int 2))) (wC (.int 0)))) (wTst (wOp2 (gI0 fun i j => .bool (decide (i < j))) (wIx (wVar 0) (wC (.int 1))) (wCB gLen (wCons (wIx (wVar 0) (wC (.int 0))) wNil))))) W_l_next_b0_0 wNext) W_l_next_1
def W_l_next : WS := W_l_next_0

theorem v_l_next (ts : List OT) (Q : OT → List OT → Prop) (h : phi_l_next ts Q) : W_l_next (endsF 4 ts Q) (startR 4 ts) := by
  obtain ⟨p, ds, C, many, rfl, ⟨ns, a, b, c, s, rfl, ⟨ha0, ha1, hl⟩, hb, hc0, hc1⟩, hC, ⟨hm0, hm1⟩, h⟩ := h
  show W_l_next _ [some (.lst p [.list (ns.map .int), .int a, .int b, .int c, .int s]), some (tI many), none, none]
  have hr : ∀ n : Int, 0 ≤ n % many ∧ n % many < many := fun n => ⟨Int.emod_nonneg _ (by omega), Int.emod_lt_of_pos _ hm0⟩
  have hd : ∀ n : Int, 0 ≤ n → 0 ≤ n / many := fun n h => Int.ediv_nonneg h (by omega)
  conv => whnf
  refine bmd (fun hb0 => ?_) (fun hb0 => ?_)
  · conv => whnf
    refine bmd (fun hal => ?_) (fun hal => ?_)
    · conv => whnf
      have hal : a < ns.length := by simpa using hal
      obtain ⟨x, _, e⟩ := atI_map PyData.int ns a ha0 hal
      rw [e]
      conv => whnf
      refine ⟨⟨by decide, by decide, by decide⟩, ?_⟩
      conv => whnf
      refine bmd (fun hx => ?_) (fun hx => ?_)
      · conv => whnf
        refine ⟨x, a + 1, rfl, ⟨by omega, by omega⟩, fun n _ _ => ?_⟩
        conv => whnf
        refine ⟨hm0, ?_⟩
        conv => whnf
        refine ⟨rfl, ?_⟩
        exact h _ _ (hr n).1 (hr n).2 ⟨ns, a + 1, b, c, s, rfl, ⟨by omega, by omega, hl⟩, hb, hc0, by omega⟩
      · conv => whnf
        have hx : (0 : Int) < x := by
          have : ((10 : Int) ^ 18) ≤ x := by
            have := hx
            exact Int.not_lt.mp this
          exact Int.lt_of_lt_of_le (by decide) this
        refine bmd (fun _ => ?_) (fun q => absurd hx q)
        conv => whnf
        refine ⟨hm0, ?_⟩
        conv => whnf
        refine ⟨⟨hm0, by omega⟩, ?_⟩
        conv => whnf
        refine ⟨rfl, ?_⟩
        exact h _ _ (hr x).1 (hr x).2 ⟨ns, a + 1, x / many, c, s, rfl, ⟨by omega, by omega, hl⟩, hd x (by omega), hc0, by omega⟩
    · conv => whnf
      refine bmd (fun q => absurd q (by omega)) (fun _ => ?_)
      conv => whnf
      refine ⟨s, _, rfl, ⟨by omega, by omega⟩, fun n _ _ => ?_⟩
      conv => whnf
      refine ⟨hm0, ?_⟩
      conv => whnf
      refine ⟨rfl, ?_⟩
      exact h _ _ (hr n).1 (hr n).2 ⟨ns, a, b, c + 1, s, rfl, ⟨by omega, by omega, hl⟩, hb, by omega, by omega⟩
  · conv => whnf
    refine bmd (fun q => ?_) (fun q => absurd q (by omega))
    conv => whnf
    refine ⟨hm0, ?_⟩
    conv => whnf
    refine ⟨⟨hm0, by omega⟩, ?_⟩
    conv => whnf
    refine ⟨rfl, ?_⟩
    exact h _ _ (hr b).1 (hr b).2 ⟨ns, a, b / many, c, s, rfl, ⟨by omega, by omega, hl⟩, hd b (by omega), hc0, by omega⟩

/-! ### grids -/
abbrev strsD (rs : List Str) : List PyData := rs.map .str
/-- rows of so many signs, free or walls -/
def RowsOk (R C : Nat) (rs : List Str) : Prop := rs.length = R ∧ ∀ r ∈ rs, r.length = C ∧ ∀ x ∈ cs r, x = 46 ∨ x = 35
def GridOk (rs : List Str) : Prop := ∃ R C, RowsOk R C rs ∧ 1 ≤ R ∧ R ≤ 12 ∧ 1 ≤ C ∧ C ≤ 12
def phi_l_deck : FS := fun ts Q => ∃ ns : List Int, ts = [.fz (.list (ns.map .int))] ∧ ns.length ≤ 63 ∧ ∀ p ds, DeckOk 0 ds → Q (.lst p ds) ts
def phi_l_comb : FS := fun ts Q => ∃ R C : Nat, ts = [tI R, tI C] ∧ (1 ≤ R ∧ R ≤ 12) ∧ (1 ≤ C ∧ C ≤ 12) ∧ ∀ rs, RowsOk R C rs → Q (.fz (.list (strsD rs))) ts
def phi_l_spiral : FS := fun ts Q => ∃ R C : Nat, ts = [tI R, tI C] ∧ (1 ≤ R ∧ R ≤ 12) ∧ (1 ≤ C ∧ C ≤ 12) ∧ ∀ p rs, RowsOk R C rs → Q (.lst p (strsD rs)) ts
def phi_l_grid : FS := fun ts Q => ∃ p ds C most, ts = [.lst p ds, tI most] ∧ DeckOk C ds ∧ C ≤ 2 ^ 39 ∧ (1 ≤ most ∧ most ≤ 12) ∧ ∀ rs ds', GridOk rs → DeckOk (C + 1000) ds' → Q (.fz (.tuple (strsD rs))) [.lst p ds', tI most]
def nl : Str := Str.ofString "\n"
/-- a row's signs -/
def W_l_deck_0 : WS := (wRet (wLst (wCons (wSl (wVar 0) wNoPart (wPart (wC (.int 63)))) (wCons (wC (.int 0)) (wCons (wC (.int 0)) (wCons (wC (.int 0)) (wCons (wCB gSum (wCons (wSl (wVar 0) wNoPart (wPart (wC (.int 63)))) wNil)) wNil)))))))
def W_l_deck : WS := W_l_deck_0

def W_l_comb_b1_1 : WS := (wSet (wOp2 gAdd (wVar 4) (wIx (wLst (wCons (wC (.str (Str.ofString "."))) (wCons (wC (.str (Str.ofString "#"))) wNil))) (wCB gInt (wCons (wAndV (wOp2 gEq (wOp2 (gI (fun i j => .int (i % j)) fun _ j => 0 < j) (wVar 5) (wC (.int 2))) (wC (.int 1))) (wOp2 gNe (wVar 3) (wVar 6))) wNil)))) 4)
def W_l_comb_b1_0 : WS := wSeq (wSet (wIx (wLst (wCons (wC (.int 0)) (wCons (wOp2 (gI0 fun i j => .int (i - j)) (wVar 0) (wC (.int 1))) wNil))) (wOp2 (gI (fun i j => .int (i % j)) fun _ j => 0 < j) (wOp2 (gI (fun i j => .int (i / j)) CDiv) (wVar 5) (wC (.int 2))) (wC (.int 2)))) 6) W_l_comb_b1_1
def W_l_comb_b0_2 : WS := (wApp 2 (wVar 4))
def W_l_comb_b0_1 : WS := wSeq (wFor (wRng1 (wCons (wVar 1) wNil)) (gvName 5) W_l_comb_b1_0) W_l_comb_b0_2
def W_l_comb_b0_0 : WS := wSeq (wSet (wC (.str (Str.ofString ""))) 4) W_l_comb_b0_1
def W_l_comb_2 : WS := (wRet (wVar 2))
def W_l_comb_1 : WS := wSeq (wFor (wRng1 (wCons (wVar 0) wNil)) (gvName 3) W_l_comb_b0_0) W_l_comb_2
def W_l_comb_0 : WS := wSeq (wSet (wLst wNil) 2) W_l_comb_1
def W_l_comb : WS := W_l_comb_0

def W_l_spiral_b2_1 : WS := (wSet (wC (.int 0)) 7)
def W_l_spiral_b2_0 : WS := wSeq (wAsg (wVar 9) (gvUnl 2 (gvCons (gvName 3) (gvCons (gvName 4) gvNil)))) W_l_spiral_b2_1
def W_l_spiral_b3_1 : WS := (wSet (wOp2 gAdd (wVar 7) (wVar 8)) 7)
def W_l_spiral_b3_0 : WS := wSeq (wPar 5 6 (wCons (wVar 6) (wCons (wOp2 (gI0 fun i j => .int (i - j)) (wC (.int 0)) (wVar 5)) wNil))) W_l_spiral_b3_1
def W_l_spiral_b1_6 : WS := (wIfS (wTst (wOp2 (gI0 fun i j => .bool (decide (j < i))) (wVar 7) (wC (.int 0)))) W_l_spiral_b3_0 wNext)
def W_l_spiral_b1_5 : WS := wSeq (wIfS (wAnd (wTst (wOp2 (gI0 fun i j => .bool (decide (j < i))) (wVar 7) (wC (.int 0)))) (wAnd (wTst (wVar 13)) (wNot (wAnd (wTst (wVar 12)) (wTst (wOp2 gEq (wIxx 2 (wIx (wVar 10) (wC (.int 0))) (wIx (wVar 10) (wC (.int 1)))) (wC (.str (Str.ofString "."))))))))) W_l_spiral_b2_0 wNext) W_l_spiral_b1_6
def W_l_spiral_b1_4 : WS := wSeq (wSet (wAndV (wVar 11) (wOp2 gEq (wIxx 2 (wIx (wVar 9) (wC (.int 0))) (wIx (wVar 9) (wC (.int 1)))) (wC (.str (Str.ofString "#"))))) 13) W_l_spiral_b1_5
def W_l_spiral_b1_3 : WS := wSeq (wSet (wAndV (wChain (gI0 fun i j => .bool (decide (i ≤ j))) (gI0 fun i j => .bool (decide (i < j))) (wC (.int 0)) (wIx (wVar 10) (wC (.int 0))) (wVar 0)) (wChain (gI0 fun i j => .bool (decide (i ≤ j))) (gI0 fun i j => .bool (decide (i < j))) (wC (.int 0)) (wIx (wVar 10) (wC (.int 1))) (wVar 1))) 12) W_l_spiral_b1_4
def W_l_spiral_b1_2 : WS := wSeq (wSet (wAndV (wChain (gI0 fun i j => .bool (decide (i ≤ j))) (gI0 fun i j => .bool (decide (i < j))) (wC (.int 0)) (wIx (wVar 9) (wC (.int 0))) (wVar 0)) (wChain (gI0 fun i j => .bool (decide (i ≤ j))) (gI0 fun i j => .bool (decide (i < j))) (wC (.int 0)) (wIx (wVar 9) (wC (.int 1))) (wVar 1))) 11) W_l_spiral_b1_3
def W_l_spiral_b1_1 : WS := wSeq (wSet (wLst (wCons (wOp2 gAdd (wVar 3) (wOp2 (gI (fun i j => .int (i * j)) CMul) (wC (.int 2)) (wVar 5))) (wCons (wOp2 gAdd (wVar 4) (wOp2 (gI (fun i j => .int (i * j)) CMul) (wC (.int 2)) (wVar 6))) wNil))) 10) W_l_spiral_b1_2
def W_l_spiral_b1_0 : WS := wSeq (wSet (wLst (wCons (wOp2 gAdd (wVar 3) (wVar 5)) (wCons (wOp2 gAdd (wVar 4) (wVar 6)) wNil))) 9) W_l_spiral_b1_1
def W_l_spiral_b0_2 : WS := (wFor (wRng1 (wCons (wC (.int 2)) wNil)) (gvName 8) W_l_spiral_b1_0)
def W_l_spiral_b0_1 : WS := wSeq (wSet (wOp2 gAdd (wVar 7) (wC (.int 1))) 7) W_l_spiral_b0_2
def W_l_spiral_b0_0 : WS := wSeq (wSubb 2 (wVar 3) (wVar 4) (wC (.str (Str.ofString ".")))) W_l_spiral_b0_1
def W_l_spiral_7 : WS := (wRet (wLc [3] (wIterA (wVar 2)) (gvName 3) wYes (wJoin (wC (.str (Str.ofString ""))) (wVar 3))))
def W_l_spiral_6 : WS := wSeq (wWhile (wTst (wOp2 (gI0 fun i j => .bool (decide (i < j))) (wVar 7) (wC (.int 2)))) W_l_spiral_b0_0) W_l_spiral_7
def W_l_spiral_5 : WS := wSeq (wSet (wC (.int 0)) 7) W_l_spiral_6
def W_l_spiral_4 : WS := wSeq (wSet (wC (.int 1)) 6) W_l_spiral_5
def W_l_spiral_3 : WS := wSeq (wSet (wC (.int 0)) 5) W_l_spiral_4
def W_l_spiral_2 : WS := wSeq (wSet (wC (.int 0)) 4) W_l_spiral_3
def W_l_spiral_1 : WS := wSeq (wSet (wC (.int 0)) 3) W_l_spiral_2
def W_l_spiral_0 : WS := wSeq (wSet (wLcL [3] (wRng1 (wCons (wVar 0) wNil)) (gvName 3) wYes (wRep (wLst (wCons (wC (.str (Str.ofString "#"))) wNil)) (wVar 1))) 2) W_l_spiral_1
def W_l_spiral : WS := W_l_spiral_0

def W_l_grid_9 : WS := (wRet (wTupOf (wCons (wVar 6) wNil)))
def W_l_grid_8 : WS := wSeq (wIfS (wTst (wOp2 gEq (wCall 2 [true, false] phi_l_next (wCons (wVar 0) (wCons (wC (.int 2)) wNil))) (wC (.int 0)))) (wSet (wLc [7] (wIterA (wRev (wVar 6))) (gvName 7) wYes (wRev (wVar 7))) 6) wNext) W_l_grid_9
def W_l_grid_7 : WS := wSeq (wIfS (wTst (wOp2 gEq (wVar 4) (wC (.int 7)))) (wSet (wCall 2 [false, false] phi_l_spiral (wCons (wVar 2) (wCons (wVar 3) wNil))) 6) wNext) W_l_grid_8
def W_l_grid_6 : WS := wSeq (wIfS (wTst (wOp2 gEq (wVar 4) (wC (.int 6)))) (wSet (wCall 2 [false, false] phi_l_comb (wCons (wVar 2) (wCons (wVar 3) wNil))) 6) wNext) W_l_grid_7
def W_l_grid_5 : WS := wSeq (wFor (wRng1 (wCons (wVar 2) wNil)) (gvName 7) (wApp 6 (wJoin (wC (.str (Str.ofString ""))) (wLc [8] (wRng1 (wCons (wVar 3) wNil)) (gvName 8) wYes (wIx (wC (.str (Str.ofString ".#"))) (wCB gInt (wCons (wOp2 gEq (wCall 2 [true, false] phi_l_next (wCons (wVar 0) (wCons (wVar 5) wNil))) (wC (.int 0))) wNil))))))) W_l_grid_6
def W_l_grid_4 : WS := wSeq (wSet (wLst wNil) 6) W_l_grid_5
def W_l_grid_3 : WS := wSeq (wSet (wIx (wLst (wCons (wOp2 (gI (fun i j => .int (i ^ j.toNat)) CPow) (wC (.int 10)) (wC (.int 6))) (wCons (wC (.int 8)) (wCons (wC (.int 4)) (wCons (wC (.int 3)) (wCons (wC (.int 2)) (wCons (wC (.int 1)) (wCons (wC (.int 6)) (wCons (wC (.int 6)) wNil))))))))) (wVar 4)) 5) W_l_grid_4
def W_l_grid_2 : WS := wSeq (wSet (wCall 2 [true, false] phi_l_next (wCons (wVar 0) (wCons (wC (.int 8)) wNil))) 4) W_l_grid_3
def W_l_grid_1 : WS := wSeq (wSet (wIx (wLst (wCons (wOp2 gAdd (wC (.int 1)) (wCall 2 [true, false] phi_l_next (wCons (wVar 0) (wCons (wVar 1) wNil)))) (wCons (wVar 1) (wCons (wOp2 gAdd (wC (.int 1)) (wCall 2 [true, false] phi_l_next (wCons (wVar 0) (wCons (wC (.int 3)) wNil)))) wNil)))) (wCall 2 [true, false] phi_l_next (wCons (wVar 0) (wCons (wC (.int 3)) wNil)))) 3) W_l_grid_2
def W_l_grid_0 : WS := wSeq (wSet (wIx (wLst (wCons (wOp2 gAdd (wC (.int 1)) (wCall 2 [true, false] phi_l_next (wCons (wVar 0) (wCons (wVar 1) wNil)))) (wCons (wVar 1) (wCons (wOp2 gAdd (wC (.int 1)) (wCall 2 [true, false] phi_l_next (wCons (wVar 0) (wCons (wC (.int 3)) wNil)))) wNil)))) (wCall 2 [true, false] phi_l_next (wCons (wVar 0) (wCons (wC (.int 3)) wNil)))) 2) W_l_grid_1
def W_l_grid : WS := W_l_grid_0

end Lw

namespace Lw
open PySem PySem.Spec PyProof.Rows L2 DL
theorem emod2 (n : Int) : n % 2 = 0 ∨ n % 2 = 1 := by omega
theorem rng_get {lo : Int} {n i : Nat} {x : PyData} (h : (rng lo n)[i]? = some x) : x = .int (lo + i) ∧ i < n := by
  unfold rng at h
  rw [List.getElem?_map] at h
  cases e : (List.range n)[i]? with
  | none => rw [e] at h; cases h
  | some c =>
    rw [e] at h
    cases h
    obtain ⟨h1, h2⟩ := List.getElem?_eq_some_iff.mp e
    have h1' : i < n := by simpa using h1
    have : c = i := by rw [← h2]; simp
    subst this
    exact ⟨rfl, h1'⟩
theorem rng_len (lo : Int) (n : Nat) : (rng lo n).length = n := by simp [rng]
/-- a row as it grows -/
def SignOk (r : Str) : Prop := ∀ x ∈ cs r, x = 46 ∨ x = 35
theorem sign_app {r z : Str} (h : SignOk r) (h' : SignOk z) : SignOk (r ++ z) := fun x hx => by
  have e : cs (r ++ z) = cs r ++ cs z := TL.tl_append r z
  rw [e] at hx
  rcases List.mem_append.mp hx with q | q
  · exact h x q
  · exact h' x q
theorem len_app (r z : Str) : (r ++ z).length = r.length + z.length := by
  have e : cs (r ++ z) = cs r ++ cs z := TL.tl_append r z
  have h := congrArg List.length e
  simpa [Str.length] using h
theorem dot_ok : SignOk (Str.ofString ".") ∧ (Str.ofString ".").length = 1 := ⟨fun x hx => .inl (by simpa using (show x ∈ [46] from hx)), rfl⟩
theorem wall_ok : SignOk (Str.ofString "#") ∧ (Str.ofString "#").length = 1 := ⟨fun x hx => .inr (by simpa using (show x ∈ [35] from hx)), rfl⟩
theorem strs_app (rs : List Str) (z : Str) : strsD rs ++ [.str z] = strsD (rs ++ [z]) := by simp
theorem rows_app {i C : Nat} {rs : List Str} {z : Str} (h : RowsOk i C rs) (hz : z.length = C) (sz : SignOk z) : RowsOk (i + 1) C (rs ++ [z]) := by
  refine ⟨by simp [h.1], fun r hr => ?_⟩
  rcases List.mem_append.mp hr with q | q
  · exact h.2 r q
  · rw [List.mem_singleton.mp q]; exact ⟨hz, sz⟩
theorem v_l_comb (ts : List OT) (Q : OT → List OT → Prop) (h : phi_l_comb ts Q) : W_l_comb (endsF 7 ts Q) (startR 7 ts) := by
  obtain ⟨R, C, rfl, ⟨hR, hR2⟩, ⟨hC, hC2⟩, h⟩ := h
  show W_l_comb _ [some (tI R), some (tI C), none, none, none, none, none]
  conv => whnf
  intro p
  conv => whnf
  refine ⟨⟨by omega, by omega⟩, ?_⟩
  conv => whnf
  refine ⟨fun i ρ => ∃ rs a b c d, ρ = [some (tI R), some (tI C), some (.lst p (strsD rs)), a, b, c, d] ∧ RowsOk i C rs, ⟨[], none, none, none, none, rfl, rfl, fun r hr => by cases hr⟩, ?_, ?_⟩
  · rintro i x ρ hx ⟨rs, a, b, c, d, rfl, hrs⟩
    obtain ⟨rfl, hi⟩ := rng_get hx
    conv => whnf
    refine ⟨⟨by omega, by omega⟩, ?_⟩
    conv => whnf
    refine ⟨fun j ρ => ∃ z c d, ρ = [some (tI R), some (tI C), some (.lst p (strsD rs)), some (tI (0 + i)), some (.fz (.str z)), c, d] ∧ z.length = j ∧ SignOk z, ⟨_, c, d, rfl, rfl, fun x hx => by cases hx⟩, ?_, ?_⟩
    · rintro j y ρ hy ⟨z, c, d, rfl, hz, sz⟩
      obtain ⟨rfl, hj⟩ := rng_get hy
      conv => whnf
      intro p1
      conv => whnf
      refine ⟨⟨by decide, by decide⟩, ?_⟩
      conv => whnf
      refine ⟨by show (0 : Int) < 2; decide, ?_⟩
      conv => whnf
      have two : ∀ (b : Bool) (Q' : PyData → Prop), (∀ w, SignOk w → w.length = 1 → Q' (.str w)) → (match atI [PyData.str (Str.ofString "."), PyData.str (Str.ofString "#")] (if b = true then 1 else 0) with | some d => Q' d | none => False) := by
        intro b Q' h
        cases b with
        | true => exact h _ wall_ok.1 wall_ok.2
        | false => exact h _ dot_ok.1 dot_ok.2
      have one : ∃ g, atI [PyData.int 0, PyData.int (↑R - 1)] ((0 + (j : Int)) / 2 % 2) = some (.int g) := by
        rcases emod2 ((0 + (j : Int)) / 2) with e | e <;> rw [e]
        · exact ⟨_, rfl⟩
        · exact ⟨_, rfl⟩
      obtain ⟨g, e⟩ := one
      rw [e]
      conv => whnf
      intro p2
      conv => whnf
      refine ⟨by show (0 : Int) < 2; decide, ?_⟩
      conv => whnf
      refine bmd (fun h1 => ?_) (fun h1 => ?_)
      · conv => whnf
        refine two _ _ fun w sw lw => ?_
        conv => whnf
        refine ⟨?_, ?_⟩
        · rw [hz, lw]
          have : sizeLine = 16777216 := sizeLine_eq
          omega
        · refine ⟨z ++ w, some (tI (0 + j)), some (tI g), rfl, ?_, sign_app sz sw⟩
          rw [len_app]
          omega
      · conv => whnf
        refine ⟨?_, ?_⟩
        · rw [hz]
          have : sizeLine = 16777216 := sizeLine_eq
          show j + 1 ≤ _
          omega
        · refine ⟨z ++ Str.ofString ".", some (tI (0 + j)), some (tI g), rfl, ?_, sign_app sz dot_ok.1⟩
          rw [len_app, dot_ok.2]
          omega
    · rintro ρ ⟨z, c, d, rfl, hz, sz⟩
      conv => whnf
      refine ⟨?_, ?_⟩
      · show (strsD rs).length < sizeLine
        rw [List.length_map, hrs.1]
        have : sizeLine = 16777216 := sizeLine_eq
        omega
      · refine ⟨rs ++ [z], some (tI (0 + i)), some (.fz (.str z)), c, d, by rw [← strs_app]; rfl, rows_app hrs (by rw [hz, rng_len]; simp) sz⟩
  · rintro ρ ⟨rs, a, b, c, d, rfl, hrs⟩
    conv => whnf
    have e : R = (rng 0 (R : Int).toNat).length := by rw [rng_len]; simp
    rw [← e] at hrs
    exact h rs hrs
end Lw

namespace Lw
open PySem PySem.Spec PyProof.Rows L2 DL
theorem strsOf_map : ∀ ns : List Str, strsOf (ns.map .str) = some ns
  | [] => rfl
  | n :: ns => by
    show (strsOf (ns.map .str)).map (n :: ·) = _
    rw [strsOf_map ns]
    rfl
theorem boolsOf_map : ∀ ns : List Bool, boolsOf (ns.map .bool) = some ns
  | [] => rfl
  | n :: ns => by
    show (boolsOf (ns.map .bool)).map (n :: ·) = _
    rw [boolsOf_map ns]
    rfl
theorem sg_eq (a b : Nat) : decide ((⟨#[a]⟩ : Str) = ⟨#[b]⟩) = decide (a = b) := by
  by_cases h : a = b
  · subst h; simp
  · rw [decide_eq_false h, decide_eq_false]
    intro e
    injection e with e
    have := congrArg Array.toList e
    simp at this
    exact h this
theorem dot_eq : Str.ofString "." = ⟨#[46]⟩ := rfl
theorem wall_eq : Str.ofString "#" = ⟨#[35]⟩ := rfl
theorem signs_get {z : Str} {i : Nat} {x : PyData} (h : (signsD z)[i]? = some x) : ∃ c, (cs z)[i]? = some c ∧ x = .str ⟨#[c]⟩ := by
  unfold signsD at h
  rw [List.getElem?_map] at h
  cases e : (cs z)[i]? with
  | none => rw [show z.cps.toList[i]? = none from e] at h; cases h
  | some c => rw [show z.cps.toList[i]? = some c from e] at h; cases h; exact ⟨c, rfl, rfl⟩
theorem signs_len (z : Str) : (signsD z).length = z.length := by simp [signsD, Str.length]
theorem cs_len (z : Str) : (cs z).length = z.length := by simp [Str.length]
end Lw

namespace Lw
open PySem PySem.Spec PyProof.Rows L2 DL
theorem cut_map {α : Type} (f : α → PyData) (ns : List α) (lo hi : Option Int) : ∃ ms : List α, DL.cutD (ns.map f) lo hi = ms.map f ∧ ms.length ≤ ns.length := by
  unfold DL.cutD
  rw [List.length_map, ← List.map_drop, ← List.map_take]
  exact ⟨_, rfl, by rw [List.length_take, List.length_drop]; omega⟩
theorem intsOf_map : ∀ ns : List Int, intsOf (ns.map .int) = some ns
  | [] => rfl
  | n :: ns => by
    show (intsOf (ns.map .int)).map (n :: ·) = _
    rw [intsOf_map ns]
    rfl
theorem v_l_deck (ts : List OT) (Q : OT → List OT → Prop) (h : phi_l_deck ts Q) : W_l_deck (endsF 1 ts Q) (startR 1 ts) := by
  obtain ⟨ns, rfl, hl, h⟩ := h
  show W_l_deck _ [some (.fz (.list (ns.map .int)))]
  obtain ⟨ms, em, hm⟩ := cut_map PyData.int ns none (some 63)
  conv => whnf
  intro p
  conv => whnf
  intro p2
  conv => whnf
  rw [show (DL.cutD (List.map PyData.int ns) none (some 63)) = ms.map .int from em, intsOf_map]
  conv => whnf
  intro p3
  conv => whnf
  exact h p3 _ ⟨ms, 0, 0, 0, ms.sum, rfl, ⟨by omega, by omega, by omega⟩, by omega, by omega, by omega⟩
end Lw

namespace Lw
open PySem PySem.Spec PyProof.Rows L2 DL
theorem atI_mem {ds : List PyData} {n : Int} (h0 : 0 ≤ n) (h1 : n < ds.length) : ∃ d, d ∈ ds ∧ atI ds n = some d := by
  obtain ⟨j, rfl⟩ : ∃ j : Nat, n = j := ⟨n.toNat, by omega⟩
  have hj : j < ds.length := by omega
  exact ⟨ds[j], List.getElem_mem hj, atI_nat (by simp [hj])⟩
theorem at3 {a b c : Int} {n : Int} (h0 : 0 ≤ n) (h1 : n < 3) {B : Int} (ha : 1 ≤ a ∧ a ≤ B) (hb : 1 ≤ b ∧ b ≤ B) (hc : 1 ≤ c ∧ c ≤ B) : ∃ v : Nat, atI [PyData.int a, .int b, .int c] n = some (.int v) ∧ 1 ≤ v ∧ (v : Int) ≤ B := by
  obtain ⟨d, hd, e⟩ := atI_mem (ds := [PyData.int a, .int b, .int c]) h0 (by simpa using h1)
  simp only [List.mem_cons, List.not_mem_nil, or_false] at hd
  rcases hd with rfl | rfl | rfl
  · exact ⟨a.toNat, by rw [e]; congr 2; omega, by omega, by omega⟩
  · exact ⟨b.toNat, by rw [e]; congr 2; omega, by omega, by omega⟩
  · exact ⟨c.toNat, by rw [e]; congr 2; omega, by omega, by omega⟩
theorem rows_rev {R C : Nat} {rs : List Str} (h : RowsOk R C rs) : RowsOk R C (rs.reverse.map revS) := by
  refine ⟨by simp [h.1], fun r hr => ?_⟩
  obtain ⟨z, hz, rfl⟩ := List.mem_map.mp hr
  obtain ⟨h1, h2⟩ := h.2 z (by simpa using hz)
  refine ⟨?_, fun x hx => h2 x (by simpa [cs, revS] using hx)⟩
  rw [← h1]
  simp [revS, Str.length]
theorem v_grid8 (p : Addr) (ds0 : List PyData) (most : Int) (Q : OT → List OT → Prop) (t : OT) (rs : List Str) (R C : Nat) (ds : List PyData) (B : Int) (a b c d e f : Option OT) (he : e = none ∨ ∃ x, e = some (.fz x)) (ht : t = .fz (.list (strsD rs)) ∨ ∃ q, t = .lst q (strsD rs))
    (hrs : RowsOk R C rs) (hR : R ≤ 12) (hC : C ≤ 12) (hd : DeckOk B ds) (hB : B ≤ 2 ^ 40) (h : ∀ rs ds', RowsOk R C rs → DeckOk (B + 1) ds' → Q (.fz (.tuple (strsD rs))) [.lst p ds', tI most]) :
    W_l_grid_8 (endsF 9 [.lst p ds0, tI most] Q) [some (.lst p ds), some (tI most), a, b, c, d, some t, e, f] := by
  have hz : sizeLine = 16777216 := sizeLine_eq
  conv => whnf
  refine ⟨p, ds, B, 2, rfl, hd, hB, ⟨by decide, by decide⟩, fun n ds' hn0 hn1 hd' => ?_⟩
  conv => whnf
  have last : ∀ (t : OT) (rs : List Str) (e f : Option OT), (t = .fz (.list (strsD rs)) ∨ ∃ q, t = .lst q (strsD rs)) → RowsOk R C rs → W_l_grid_9 (endsF 9 [.lst p ds0, tI most] Q) [some (.lst p ds'), some (tI most), a, b, c, d, some t, e, f] := by
    intro t rs e f ht hrs
    rcases ht with rfl | ⟨q, rfl⟩
    · conv => whnf
      exact ⟨rfl, h rs ds' hrs hd'⟩
    · conv => whnf
      exact ⟨rfl, h rs ds' hrs hd'⟩
  refine bmd (fun h0 => ?_) (fun h0 => ?_)
  · rcases ht with rfl | ⟨q0, rfl⟩
    all_goals
      conv => whnf
      intro q1
      conv => whnf
      refine ⟨?_, fun i zs ρ => ∃ x u, ρ = [some (.lst p ds'), some (tI most), a, b, c, d, u, x, f] ∧ zs = strsD ((rs.reverse.take i).map revS), ⟨none, _, rfl, rfl⟩, ?_, ?_⟩
      · rcases he with rfl | ⟨x, rfl⟩ <;> exact ⟨trivial, trivial⟩
      · rintro i x zs ρ hx ⟨y, u, rfl, rfl⟩
        have hx : (strsD rs.reverse)[i]? = some x := by
          show (List.map PyData.str rs.reverse)[i]? = some x
          rw [List.map_reverse]
          exact hx
        rw [List.getElem?_map] at hx
        cases er : rs.reverse[i]? with
        | none => rw [er] at hx; cases hx
        | some r =>
          rw [er] at hx
          cases hx
          have hr := hrs.2 r (by have := List.mem_of_getElem? er; simpa using this)
          conv => whnf
          refine ⟨by omega, ?_⟩
          conv => whnf
          refine ⟨?_, _, _, rfl, ?_⟩
          · have : (strsD ((rs.reverse.take i).map revS)).length ≤ rs.length := by simp; omega
            have := hrs.1
            omega
          · rw [List.take_add_one, er]
            simp
      · rintro zs ρ ⟨y, u, rfl, rfl⟩ q2
        refine last (.lst q2 (strsD ((rs.reverse.take (strsD rs).reverse.length).map revS))) (rs.reverse.map revS) e f (.inr ⟨q2, ?_⟩) (rows_rev hrs)
        rw [List.take_of_length_le (by simp)]
  · exact last t rs e f ht hrs
theorem v_grid6 (p : Addr) (ds0 : List PyData) (most way : Int) (Q : OT → List OT → Prop) (rs : List Str) (R C : Nat) (ds : List PyData) (B : Int) (q : Addr) (d e f : Option OT) (he : e = none ∨ ∃ x, e = some (.fz x))
    (hrs : RowsOk R C rs) (hR : 1 ≤ R ∧ R ≤ 12) (hC : 1 ≤ C ∧ C ≤ 12) (hd : DeckOk B ds) (hB : B ≤ 2 ^ 40) (h : ∀ rs ds', RowsOk R C rs → DeckOk (B + 1) ds' → Q (.fz (.tuple (strsD rs))) [.lst p ds', tI most]) :
    W_l_grid_6 (endsF 9 [.lst p ds0, tI most] Q) [some (.lst p ds), some (tI most), some (tI R), some (tI C), some (tI way), d, some (.lst q (strsD rs)), e, f] := by
  conv => whnf
  have g7 : ∀ (t : OT) rs, (t = .fz (.list (strsD rs)) ∨ ∃ q, t = .lst q (strsD rs)) → RowsOk R C rs → W_l_grid_7 (endsF 9 [.lst p ds0, tI most] Q) [some (.lst p ds), some (tI most), some (tI R), some (tI C), some (tI way), d, some t, e, f] := by
    intro t rs ht hrs
    conv => whnf
    refine bmd (fun h0 => ?_) (fun h0 => ?_)
    · conv => whnf
      refine ⟨R, C, rfl, hR, hC, fun q2 rs2 hrs2 => ?_⟩
      exact v_grid8 p ds0 most Q (.lst q2 (strsD rs2)) rs2 R C ds B _ _ _ _ e f he (.inr ⟨q2, rfl⟩) hrs2 hR.2 hC.2 hd hB h
    · exact v_grid8 p ds0 most Q t rs R C ds B _ _ _ _ e f he ht hrs hR.2 hC.2 hd hB h
  refine bmd (fun h0 => ?_) (fun h0 => ?_)
  · conv => whnf
    refine ⟨R, C, rfl, hR, hC, fun rs2 hrs2 => ?_⟩
    exact g7 (.fz (.list (strsD rs2))) rs2 (.inl rfl) hrs2
  · exact g7 (.lst q (strsD rs)) rs (.inr ⟨q, rfl⟩) hrs
theorem deck_mono {B B' : Int} {ds : List PyData} (h : DeckOk B ds) (hb : B ≤ B') : DeckOk B' ds := by
  obtain ⟨ns, a, b, c, s, h1, h2, h3, h4, h5⟩ := h
  exact ⟨ns, a, b, c, s, h1, h2, h3, h4, by omega⟩
theorem strsOf_sg : ∀ zs : List Str, strsOf (strsD zs) = some zs
  | [] => rfl
  | n :: ns => by
    show (strsOf (strsD ns)).map (n :: ·) = _
    rw [strsOf_sg ns]
    rfl
theorem join_empty : ∀ zs : List Str, (∀ z ∈ zs, SignOk z ∧ z.length = 1) → SignOk (Txt.join (Str.ofString "") zs) ∧ (Txt.join (Str.ofString "") zs).length = zs.length := by
  have key : ∀ zs : List Str, cs (Str.join (Str.ofString "") zs) = (zs.map cs).flatten := by
    intro zs
    induction zs with
    | nil => rfl
    | cons z r ih =>
      cases r with
      | nil => show cs z = _; simp
      | cons y r =>
        show cs (z ++ Str.ofString "" ++ Str.join (Str.ofString "") (y :: r)) = _
        rw [show cs (z ++ Str.ofString "" ++ Str.join (Str.ofString "") (y :: r)) = cs z ++ cs (Str.ofString "") ++ cs (Str.join (Str.ofString "") (y :: r)) by
          rw [← TL.tl_append, ← TL.tl_append], ih]
        show cs z ++ [] ++ _ = _
        simp
  intro zs h
  rw [TL.join_eq]
  refine ⟨fun x hx => ?_, ?_⟩
  · rw [key] at hx
    obtain ⟨l, hl, hx⟩ := List.mem_flatten.mp hx
    obtain ⟨z, hz, rfl⟩ := List.mem_map.mp hl
    exact (h z hz).1 x hx
  · rw [← cs_len, key]
    clear key
    induction zs with
    | nil => rfl
    | cons z r ih =>
      have := ih fun z hz => h z (List.mem_cons_of_mem _ hz)
      have h1 := (h z (by simp)).2
      rw [List.map_cons, List.flatten_cons, List.length_append, this, cs_len, h1, List.length_cons]
      omega
theorem v_grid5 (p : Addr) (ds0 : List PyData) (most way often : Int) (Q : OT → List OT → Prop) (R C : Nat) (ds : List PyData) (B : Int) (q : Addr)
    (hR : 1 ≤ R ∧ R ≤ 12) (hC : 1 ≤ C ∧ C ≤ 12) (hd : DeckOk B ds) (hB : B ≤ 2 ^ 39 + 100) (ho : 0 < often ∧ often < 2 ^ 30) (h : ∀ rs ds', RowsOk R C rs → DeckOk (B + 200) ds' → Q (.fz (.tuple (strsD rs))) [.lst p ds', tI most]) :
    W_l_grid_5 (endsF 9 [.lst p ds0, tI most] Q) [some (.lst p ds), some (tI most), some (tI R), some (tI C), some (tI way), some (tI often), some (.lst q []), none, none] := by
  have hz : sizeLine = 16777216 := sizeLine_eq
  conv => whnf
  refine ⟨⟨by omega, by omega⟩, ?_⟩
  conv => whnf
  refine ⟨fun i ρ => ∃ rs ds e f, ρ = [some (.lst p ds), some (tI most), some (tI R), some (tI C), some (tI way), some (tI often), some (.lst q (strsD rs)), e, f] ∧ RowsOk i C rs ∧ DeckOk (B + 12 * i) ds ∧ (e = none ∨ ∃ x, e = some (.fz x)) ∧ (f = none ∨ ∃ x, f = some (.fz x)), ⟨[], ds, none, none, rfl, ⟨rfl, fun r hr => by cases hr⟩, deck_mono hd (by omega), .inl rfl, .inl rfl⟩, ?_, ?_⟩
  · rintro i x ρ hx ⟨rs, ds, e, f, rfl, hrs, hd, he, hf⟩
    obtain ⟨rfl, hi⟩ := rng_get hx
    conv => whnf
    refine ⟨⟨by omega, by omega⟩, ?_⟩
    conv => whnf
    refine ⟨?_, fun j zs ρ => ∃ ws ds f, ρ = [some (.lst p ds), some (tI most), some (tI R), some (tI C), some (tI way), some (tI often), some (.lst q (strsD rs)), some (tI (0 + i)), f] ∧ zs = strsD ws ∧ ws.length = j ∧ (∀ w ∈ ws, SignOk w ∧ w.length = 1) ∧ DeckOk (B + 12 * i + j) ds, ⟨[], ds, none, rfl, rfl, rfl, (fun _ h => by cases h), deck_mono hd (by omega)⟩, ?_, ?_⟩
    · rcases hf with rfl | ⟨x, rfl⟩ <;> exact ⟨trivial, trivial⟩
    · rintro j y zs ρ hy ⟨ws, ds, f, rfl, rfl, hw1, hw2, hd⟩
      obtain ⟨rfl, hj⟩ := rng_get hy
      conv => whnf
      refine ⟨p, ds, B + 12 * i + j, often, rfl, hd, by omega, ho, fun n ds' hn0 hn1 hd' => ?_⟩
      have fin : ∀ w : Str, SignOk w → w.length = 1 → ∃ ws' ds'' f', [some (.lst p ds'), some (tI most), some (tI R), some (tI C), some (tI way), some (tI often), some (.lst q (strsD rs)), some (tI (0 + i)), some (tI (0 + j))] = [some (.lst p ds''), some (tI most), some (tI R), some (tI C), some (tI way), some (tI often), some (.lst q (strsD rs)), some (tI (0 + i)), f'] ∧ strsD ws ++ [.str w] = strsD ws' ∧ ws'.length = j + 1 ∧ (∀ w ∈ ws', SignOk w ∧ w.length = 1) ∧ DeckOk (B + 12 * i + (j + 1 : Nat)) ds'' := by
        intro w s1 s2
        refine ⟨ws ++ [w], ds', _, rfl, strs_app _ _, by simp [hw1], fun z hz => ?_, deck_mono hd' (by omega)⟩
        rcases List.mem_append.mp hz with h | h
        · exact hw2 z h
        · rw [List.mem_singleton.mp h]; exact ⟨s1, s2⟩
      have hlt : (strsD ws).length < sizeLine := by
        rw [List.length_map, hw1]
        omega
      by_cases hn : n = 0
      · subst hn
        conv => whnf
        refine ⟨by show 2 ≤ sizeLine; omega, ?_⟩
        conv => whnf
        exact ⟨hlt, fin _ wall_ok.1 wall_ok.2⟩
      · conv => whnf
        rw [decide_eq_false hn]
        conv => whnf
        refine ⟨by show 2 ≤ sizeLine; omega, ?_⟩
        conv => whnf
        exact ⟨hlt, fin _ dot_ok.1 dot_ok.2⟩
    · rintro zs ρ ⟨ws, ds, f', rfl, rfl, hw1, hw2, hd⟩ q2
      conv => whnf
      rw [strsOf_sg]
      obtain ⟨j1, j2⟩ := join_empty ws hw2
      rw [rng_len] at hw1 hd
      conv => whnf
      refine ⟨?_, ?_⟩
      · show (ws.map (·.length)).sum + ws.length * (Str.ofString "").length ≤ 16777216
        have : (ws.map (·.length)).sum = ws.length := by
          clear hw1 j1 j2
          induction ws with
          | nil => rfl
          | cons w r ih =>
            have h1 := (hw2 w (by simp)).2
            have := ih fun z hz => hw2 z (List.mem_cons_of_mem _ hz)
            simp only [List.map_cons, List.sum_cons, List.length_cons]
            omega
        rw [this, show (Str.ofString "").length = 0 from rfl]
        omega
      · conv => whnf
        refine ⟨?_, ?_⟩
        · show (strsD rs).length < sizeLine
          rw [List.length_map, hrs.1]
          omega
        · refine ⟨rs ++ [Txt.join (Str.ofString "") ws], ds, some (tI (0 + i)), f, by rw [← strs_app]; rfl, rows_app hrs (by rw [j2, hw1]; simp) j1, deck_mono hd (by omega), .inr ⟨_, rfl⟩, hf⟩
  · rintro ρ ⟨rs, ds, e, f, rfl, hrs, hd, he, hf⟩
    rw [rng_len] at hrs hd
    have eR : (R : Int).toNat = R := by simp
    rw [eR] at hrs hd
    exact v_grid6 p ds0 most way Q rs R C ds (B + 12 * R) q _ e f he hrs hR hC hd (by omega) fun rs ds' h1 h2 => h rs ds' h1 (deck_mono h2 (by omega))
end Lw

namespace Lw
open PySem PySem.Spec PyProof.Rows L2 DL
theorem v_l_grid (ts : List OT) (Q : OT → List OT → Prop) (h : phi_l_grid ts Q) : W_l_grid (endsF 9 ts Q) (startR 9 ts) := by
  obtain ⟨p, ds0, B, most, rfl, hd, hB, ⟨hm1, hm2⟩, h⟩ := h
  have hz : sizeLine = 16777216 := sizeLine_eq
  show W_l_grid _ [some (.lst p ds0), some (tI most), none, none, none, none, none, none, none]
  -- one of the two sizes
  conv => whnf
  refine ⟨p, _, B, most, rfl, hd, by omega, ⟨by omega, by omega⟩, fun n1 ds1 hn1 hn1' hd1 => ?_⟩
  conv => whnf
  refine ⟨p, _, _, 3, rfl, hd1, by omega, ⟨by omega, by omega⟩, fun n2 ds2 hn2 hn2' hd2 => ?_⟩
  conv => whnf
  intro p1
  conv => whnf
  refine ⟨p, _, _, 3, rfl, hd2, by omega, ⟨by omega, by omega⟩, fun n3 ds3 hn3 hn3' hd3 => ?_⟩
  obtain ⟨R, eR, hR1, hR2⟩ := at3 (a := 1 + n1) (b := most) (c := 1 + n2) hn3 hn3' (B := 12) (by omega) (by omega) (by omega)
  conv => whnf
  rw [eR]
  show W_l_grid_1 _ [some (.lst p ds3), some (tI most), some (tI R), none, none, none, none, none, none]
  clear eR hn3 hn3' hn2 hn2' hn1 hn1' hd1 hd2
  conv => whnf
  refine ⟨p, _, _, most, rfl, hd3, by omega, ⟨by omega, by omega⟩, fun n1 ds1 hn1 hn1' hd1 => ?_⟩
  conv => whnf
  refine ⟨p, _, _, 3, rfl, hd1, by omega, ⟨by omega, by omega⟩, fun n2 ds2 hn2 hn2' hd2 => ?_⟩
  conv => whnf
  intro p2
  conv => whnf
  refine ⟨p, _, _, 3, rfl, hd2, by omega, ⟨by omega, by omega⟩, fun n3 ds3 hn3 hn3' hd3 => ?_⟩
  obtain ⟨C, eC, hC1, hC2⟩ := at3 (a := 1 + n1) (b := most) (c := 1 + n2) hn3 hn3' (B := 12) (by omega) (by omega) (by omega)
  conv => whnf
  rw [eC]
  show W_l_grid_2 _ [some (.lst p ds3), some (tI most), some (tI R), some (tI C), none, none, none, none, none]
  clear eC hn3 hn3' hn2 hn2' hn1 hn1' hd1 hd2
  conv => whnf
  refine ⟨p, _, _, 8, rfl, hd3, by omega, ⟨by omega, by omega⟩, fun way ds4 hw hw' hd4 => ?_⟩
  show W_l_grid_3 _ [some (.lst p ds4), some (tI most), some (tI R), some (tI C), some (tI way), none, none, none, none]
  have hv : (0 : Int) < 10 ^ (6 : Int).toNat ∧ (10 : Int) ^ (6 : Int).toNat < 2 ^ 30 := by
    show (0 : Int) < 10 ^ 6 ∧ (10 : Int) ^ 6 < 2 ^ 30
    omega
  have fin : ∀ (v : Int) (q : Addr) (x : Option OT), 0 < v ∧ v < 2 ^ 30 → W_l_grid_5 (endsF 9 [.lst p ds0, tI most] Q) [some (.lst p ds4), some (tI most), some (tI R), some (tI C), some (tI way), some (tI v), some (.lst q []), none, none] := fun v q x hv =>
    v_grid5 p ds0 most way v Q R C ds4 _ q ⟨by omega, by omega⟩ ⟨by omega, by omega⟩ hd4 (by omega) hv fun rs ds' h1 h2 => h rs ds' ⟨R, C, h1, by omega, by omega, by omega, by omega⟩ (deck_mono h2 (by omega))
  have : way = 0 ∨ way = 1 ∨ way = 2 ∨ way = 3 ∨ way = 4 ∨ way = 5 ∨ way = 6 ∨ way = 7 := by omega
  rcases this with rfl | rfl | rfl | rfl | rfl | rfl | rfl | rfl
  all_goals
    conv => whnf
    refine ⟨⟨by decide, by decide, by decide⟩, ?_⟩
    conv => whnf
    intro p3
    conv => whnf
    intro q
  · exact fin _ q none hv
  all_goals exact fin _ q none (by decide)
end Lw

namespace Lw
open PySem PySem.Spec PyProof.Rows L2 DL
def insideB (a b : Int) (R C : Nat) : Bool := decide (0 ≤ a ∧ a < R ∧ 0 ≤ b ∧ b < C)
abbrev WIn (i : Nat) : WE := wAndV (wChain (gI0 fun i j => .bool (decide (i ≤ j))) (gI0 fun i j => .bool (decide (i < j))) (wC (.int 0)) (wIx (wVar i) (wC (.int 0))) (wVar 0)) (wChain (gI0 fun i j => .bool (decide (i ≤ j))) (gI0 fun i j => .bool (decide (i < j))) (wC (.int 0)) (wIx (wVar i) (wC (.int 1))) (wVar 1))
theorem w_in9 (a b : Int) (R C : Nat) (q : Addr) (x2 x3 x4 x5 x6 x7 x8 x10 x11 x12 x13 : Option OT) (Q : RV → Rho → Prop)
    (h : Q (.fz (.bool (insideB a b R C))) [some (tI R), some (tI C), x2, x3, x4, x5, x6, x7, x8, some (.lst q [.int a, .int b]), x10, x11, x12, x13]) :
    WIn 9 [some (tI R), some (tI C), x2, x3, x4, x5, x6, x7, x8, some (.lst q [.int a, .int b]), x10, x11, x12, x13] Q := by
  have no : ¬ (0 ≤ a ∧ a < R ∧ 0 ≤ b ∧ b < C) → Q (.fz (.bool false)) [some (tI R), some (tI C), x2, x3, x4, x5, x6, x7, x8, some (.lst q [.int a, .int b]), x10, x11, x12, x13] := fun n => by
    unfold insideB at h
    rw [decide_eq_false n] at h
    exact h
  conv => whnf
  refine bmd (fun h1 => ?_) (fun h1 => ?_)
  · conv => whnf
    refine bmd (fun h2 => ?_) (fun h2 => ?_)
    · conv => whnf
      refine bmd (fun h3 => ?_) (fun h3 => ?_)
      · conv => whnf
        have e : insideB a b R C = decide (b < C) := by
          unfold insideB
          by_cases h4 : b < C
          · rw [decide_eq_true h4, decide_eq_true ⟨h1, h2, h3, h4⟩]
          · rw [decide_eq_false h4, decide_eq_false fun n => h4 n.2.2.2]
        rw [e] at h
        exact h
      · conv => whnf
        exact no fun n => h3 n.2.2.1
    · conv => whnf
      exact no fun n => h2 n.2.1
  · conv => whnf
    exact no fun n => h1 n.1
theorem w_in10 (a b : Int) (R C : Nat) (q : Addr) (x2 x3 x4 x5 x6 x7 x8 x9 x11 x12 x13 : Option OT) (Q : RV → Rho → Prop)
    (h : Q (.fz (.bool (insideB a b R C))) [some (tI R), some (tI C), x2, x3, x4, x5, x6, x7, x8, x9, some (.lst q [.int a, .int b]), x11, x12, x13]) :
    WIn 10 [some (tI R), some (tI C), x2, x3, x4, x5, x6, x7, x8, x9, some (.lst q [.int a, .int b]), x11, x12, x13] Q := by
  have no : ¬ (0 ≤ a ∧ a < R ∧ 0 ≤ b ∧ b < C) → Q (.fz (.bool false)) [some (tI R), some (tI C), x2, x3, x4, x5, x6, x7, x8, x9, some (.lst q [.int a, .int b]), x11, x12, x13] := fun n => by
    unfold insideB at h
    rw [decide_eq_false n] at h
    exact h
  conv => whnf
  refine bmd (fun h1 => ?_) (fun h1 => ?_)
  · conv => whnf
    refine bmd (fun h2 => ?_) (fun h2 => ?_)
    · conv => whnf
      refine bmd (fun h3 => ?_) (fun h3 => ?_)
      · conv => whnf
        have e : insideB a b R C = decide (b < C) := by
          unfold insideB
          by_cases h4 : b < C
          · rw [decide_eq_true h4, decide_eq_true ⟨h1, h2, h3, h4⟩]
          · rw [decide_eq_false h4, decide_eq_false fun n => h4 n.2.2.2]
        rw [e] at h
        exact h
      · conv => whnf
        exact no fun n => h3 n.2.2.1
    · conv => whnf
      exact no fun n => h2 n.2.1
  · conv => whnf
    exact no fun n => h1 n.1
/-! the grid as it is carved -/
def isH : PyData → Bool
  | .str s => decide (s = Str.ofString "#")
  | _ => false
def SgD (d : PyData) : Prop := d = .str (Str.ofString ".") ∨ d = .str (Str.ofString "#")
structure GL (R C : Nat) (dss : List (List PyData)) : Prop where
  rows : dss.length = R
  cols : ∀ ds ∈ dss, ds.length = C ∧ ∀ d ∈ ds, SgD d
def hs (dss : List (List PyData)) : Nat := (dss.map fun ds => ds.countP isH).sum
/-- the sign at a place -/
def cell (dss : List (List PyData)) (a b : Int) : Option PyData := (atI dss a).bind fun ds => atI ds b
theorem GL.at {R C : Nat} {dss : List (List PyData)} (g : GL R C dss) {a b : Int} (h : insideB a b R C = true) : ∃ ds d, atI dss a = some ds ∧ atI ds b = some d ∧ SgD d ∧ cell dss a b = some d := by
  have h := of_decide_eq_true h
  obtain ⟨j, rfl⟩ : ∃ j : Nat, a = j := ⟨a.toNat, by omega⟩
  obtain ⟨k, rfl⟩ : ∃ k : Nat, b = k := ⟨b.toNat, by omega⟩
  have hj : j < dss.length := by rw [g.rows]; omega
  obtain ⟨c1, c2⟩ := g.cols dss[j] (List.getElem_mem hj)
  have hk : k < dss[j].length := by rw [c1]; omega
  have e1 : atI dss (j : Int) = some dss[j] := atI_nat (by simp [hj])
  have e2 : atI dss[j] (k : Int) = some dss[j][k] := atI_nat (by simp [hk])
  exact ⟨dss[j], dss[j][k], e1, e2, c2 _ (List.getElem_mem hk), by unfold cell; rw [e1]; exact e2⟩
theorem countP_set {ds : List PyData} {j : Nat} (hj : j < ds.length) (h : isH ds[j] = true) : (ds.set j (.str (Str.ofString "."))).countP isH + 1 = ds.countP isH := by
  induction ds generalizing j with
  | nil => cases hj
  | cons d r ih =>
    cases j with
    | zero =>
      rw [List.set_cons_zero, List.countP_cons, List.countP_cons]
      have h' : isH d = true := h
      rw [if_pos h', if_neg (by decide)]
    | succ j =>
      rw [List.set_cons_succ, List.countP_cons, List.countP_cons]
      have := ih (j := j) (by simpa using hj) h
      omega
theorem hs_set {dss : List (List PyData)} {k j : Nat} (hk : k < dss.length) (hj : j < dss[k].length) (h : isH dss[k][j] = true) : hs (dss.set k (dss[k].set j (.str (Str.ofString ".")))) + 1 = hs dss := by
  unfold hs
  induction dss generalizing k with
  | nil => cases hk
  | cons d r ih =>
    cases k with
    | zero =>
      rw [List.set_cons_zero, List.map_cons, List.map_cons, List.sum_cons, List.sum_cons]
      have := countP_set (ds := d) (j := j) hj h
      simp only [List.getElem_cons_zero]
      omega
    | succ k =>
      rw [List.set_cons_succ, List.map_cons, List.map_cons, List.sum_cons, List.sum_cons]
      have := ih (k := k) (by simpa using hk) hj h
      simp only [List.getElem_cons_succ]
      omega
theorem GL.put {R C : Nat} {dss : List (List PyData)} (g : GL R C dss) {a b : Int} (hin : insideB a b R C = true) (h : cell dss a b = some (.str (Str.ofString "#"))) :
    ∃ k j ds, ixN dss.length a = some k ∧ dss[k]? = some ds ∧ ixN ds.length b = some j ∧ GL R C (dss.set k (ds.set j (.str (Str.ofString ".")))) ∧ hs (dss.set k (ds.set j (.str (Str.ofString ".")))) + 1 = hs dss := by
  have hin := of_decide_eq_true hin
  obtain ⟨k, rfl⟩ : ∃ k : Nat, a = k := ⟨a.toNat, by omega⟩
  obtain ⟨j, rfl⟩ : ∃ j : Nat, b = j := ⟨b.toNat, by omega⟩
  have hk : k < dss.length := by rw [g.rows]; omega
  obtain ⟨c1, c2⟩ := g.cols dss[k] (List.getElem_mem hk)
  have hj : j < dss[k].length := by rw [c1]; omega
  have ix : ∀ {n i : Nat}, i < n → ixN n (i : Int) = some i := fun {n i} h => by
    unfold ixN
    rw [if_pos (by omega), if_pos (by omega)]
    simp
  have e1 : atI dss (k : Int) = some dss[k] := atI_nat (by simp [hk])
  have e2 : atI dss[k] (j : Int) = some dss[k][j] := atI_nat (by simp [hj])
  have h' : dss[k][j] = .str (Str.ofString "#") := by
    unfold cell at h
    rw [e1] at h
    have h : atI dss[k] (j : Int) = some (.str (Str.ofString "#")) := h
    rw [e2] at h
    exact Option.some.inj h
  refine ⟨k, j, dss[k], ix hk, List.getElem?_eq_getElem hk, ix hj, ⟨by rw [List.length_set]; exact g.rows, fun ds hd => ?_⟩, hs_set hk hj (by rw [h']; rfl)⟩
  rcases List.mem_or_eq_of_mem_set hd with q | q
  · exact g.cols ds q
  · subst q
    refine ⟨by rw [List.length_set]; exact c1, fun d hd => ?_⟩
    rcases List.mem_or_eq_of_mem_set hd with q | q
    · exact c2 d q
    · exact .inl q
end Lw

namespace Lw
open PySem PySem.Spec PyProof.Rows L2 DL
/-- where the carver stands after turn i -/
structure TurnOk (R C m i : Nat) (q : Addr) (ρ : Rho) : Prop where
  ex : ∃ dss, ∃ r c dn rt b : Int, ∃ x8 x9 x10 x11 x12 x13 : Option OT, ρ = [some (tI R), some (tI C), some (.lls q dss), some (tI r), some (tI c), some (tI dn), some (tI rt), some (tI b), x8, x9, x10, x11, x12, x13] ∧ GL R C dss ∧ hs dss = m ∧
    ((b = 0 ∧ insideB r c R C = true ∧ cell dss r c = some (.str (Str.ofString "#"))) ∨ (b = 1 ∧ i ≤ 1) ∨ (b = 2 ∧ 2 ≤ i))
section
variable (R C m i : Nat) (q q1 q2 : Addr) (dss : List (List PyData)) (r c dn rt b : Int) (d : DEnds) (x9 x10 x11 x12 x13 : Option OT)
theorem v_b16 (g : GL R C dss) (hm : hs dss = m) (hi : i < 2)
    (hb : (b = 0 ∧ insideB r c R C = true ∧ cell dss r c = some (.str (Str.ofString "#"))) ∨ (b = 1)) (hd : ∀ ρ, TurnOk R C m (i + 1) q ρ → d.nx ρ) :
    W_l_spiral_b1_6 d [some (tI R), some (tI C), some (.lls q dss), some (tI r), some (tI c), some (tI dn), some (tI rt), some (tI b), some (tI (0 + i)), x9, x10, x11, x12, x13] := by
  conv => whnf
  refine bmd (fun h1 => ?_) (fun h1 => ?_)
  · conv => whnf
    refine hd _ ⟨dss, r, c, rt, 0 - dn, b + (0 + i), _, x9, x10, x11, x12, x13, rfl, g, hm, .inr ?_⟩
    rcases hb with ⟨hb, _⟩ | hb
    · omega
    · omega
  · conv => whnf
    refine hd _ ⟨dss, r, c, dn, rt, b, _, x9, x10, x11, x12, x13, rfl, g, hm, ?_⟩
    rcases hb with hb | hb
    · exact .inl hb
    · omega
theorem v_b15 (g : GL R C dss) (hm : hs dss = m) (hi : i < 2) (cl : Bool) (hc : cl = true → insideB (r + dn) (c + rt) R C = true ∧ cell dss (r + dn) (c + rt) = some (.str (Str.ofString "#")))
    (hb : (b = 0 ∧ insideB r c R C = true ∧ cell dss r c = some (.str (Str.ofString "#"))) ∨ (b = 1)) (hd : ∀ ρ, TurnOk R C m (i + 1) q ρ → d.nx ρ) :
    W_l_spiral_b1_5 d [some (tI R), some (tI C), some (.lls q dss), some (tI r), some (tI c), some (tI dn), some (tI rt), some (tI b), some (tI (0 + i)), some (.lst q1 [.int (r + dn), .int (c + rt)]), some (.lst q2 [.int (r + 2 * dn), .int (c + 2 * rt)]), x11, some (.fz (.bool (insideB (r + 2 * dn) (c + 2 * rt) R C))), some (.fz (.bool cl))] := by
  have no : W_l_spiral_b1_6 d [some (tI R), some (tI C), some (.lls q dss), some (tI r), some (tI c), some (tI dn), some (tI rt), some (tI b), some (tI (0 + i)), some (.lst q1 [.int (r + dn), .int (c + rt)]), some (.lst q2 [.int (r + 2 * dn), .int (c + 2 * rt)]), x11, some (.fz (.bool (insideB (r + 2 * dn) (c + 2 * rt) R C))), some (.fz (.bool cl))] :=
    v_b16 R C m i q dss r c dn rt b d _ _ _ _ _ g hm hi hb hd
  have yes : cl = true → ∀ x9 : Option OT, d.nx [some (tI R), some (tI C), some (.lls q dss), some (tI (r + dn)), some (tI (c + rt)), some (tI dn), some (tI rt), some (tI 0), some (tI (0 + i)), x9, some (.lst q2 [.int (r + 2 * dn), .int (c + 2 * rt)]), x11, some (.fz (.bool (insideB (r + 2 * dn) (c + 2 * rt) R C))), some (.fz (.bool cl))] := fun e x9 =>
    hd _ ⟨dss, r + dn, c + rt, dn, rt, 0, _, _, _, _, _, _, rfl, g, hm, .inl ⟨rfl, hc e⟩⟩
  conv => whnf
  refine bmd (fun h1 => ?_) (fun h1 => ?_)
  · conv => whnf
    refine bm (fun h2 => ?_) (fun h2 => ?_)
    · conv => whnf
      refine bm (fun h3 => ?_) (fun h3 => ?_)
      · obtain ⟨ds, x, e1, e2, sg, ec⟩ := g.at h3
        conv => whnf
        rw [e1]
        conv => whnf
        rw [e2]
        rcases sg with rfl | rfl
        · conv => whnf
          exact no
        · conv => whnf
          exact yes h2 _
      · conv => whnf
        exact yes h2 _
    · conv => whnf
      exact no
  · conv => whnf
    exact no
theorem v_b14 (g : GL R C dss) (hm : hs dss = m) (hi : i < 2)
    (hb : (b = 0 ∧ insideB r c R C = true ∧ cell dss r c = some (.str (Str.ofString "#"))) ∨ (b = 1)) (hd : ∀ ρ, TurnOk R C m (i + 1) q ρ → d.nx ρ) :
    W_l_spiral_b1_4 d [some (tI R), some (tI C), some (.lls q dss), some (tI r), some (tI c), some (tI dn), some (tI rt), some (tI b), some (tI (0 + i)), some (.lst q1 [.int (r + dn), .int (c + rt)]), some (.lst q2 [.int (r + 2 * dn), .int (c + 2 * rt)]), some (.fz (.bool (insideB (r + dn) (c + rt) R C))), some (.fz (.bool (insideB (r + 2 * dn) (c + 2 * rt) R C))), x13] := by
  conv => whnf
  refine bm (fun h1 => ?_) (fun h1 => ?_)
  · obtain ⟨ds, x, e1, e2, sg, ec⟩ := g.at h1
    conv => whnf
    rw [e1]
    conv => whnf
    rw [e2]
    rcases sg with rfl | rfl
    · conv => whnf
      exact v_b15 R C m i q q1 q2 dss r c dn rt b d _ g hm hi false (fun e => by cases e) hb hd
    · conv => whnf
      exact v_b15 R C m i q q1 q2 dss r c dn rt b d _ g hm hi true (fun _ => ⟨h1, ec⟩) hb hd
  · conv => whnf
    exact v_b15 R C m i q q1 q2 dss r c dn rt b d _ g hm hi false (fun e => by cases e) hb hd
theorem v_b10 (g : GL R C dss) (hm : hs dss = m) (hi : i < 2)
    (hb : (b = 0 ∧ insideB r c R C = true ∧ cell dss r c = some (.str (Str.ofString "#"))) ∨ (b = 1)) (hd : ∀ ρ, TurnOk R C m (i + 1) q ρ → d.nx ρ) :
    W_l_spiral_b1_0 d [some (tI R), some (tI C), some (.lls q dss), some (tI r), some (tI c), some (tI dn), some (tI rt), some (tI b), some (tI (0 + i)), x9, x10, x11, x12, x13] := by
  conv => whnf
  intro q1
  show W_l_spiral_b1_1 d [some (tI R), some (tI C), some (.lls q dss), some (tI r), some (tI c), some (tI dn), some (tI rt), some (tI b), some (tI (0 + i)), some (.lst q1 [.int (r + dn), .int (c + rt)]), x10, x11, x12, x13]
  conv => whnf
  refine ⟨.inl ⟨by decide, by decide⟩, ?_⟩
  conv => whnf
  refine ⟨.inl ⟨by decide, by decide⟩, ?_⟩
  conv => whnf
  intro q2
  show WIn 9 [some (tI R), some (tI C), some (.lls q dss), some (tI r), some (tI c), some (tI dn), some (tI rt), some (tI b), some (tI (0 + i)), some (.lst q1 [.int (r + dn), .int (c + rt)]), some (.lst q2 [.int (r + 2 * dn), .int (c + 2 * rt)]), x11, x12, x13] _
  refine w_in9 _ _ R C q1 _ _ _ _ _ _ _ _ _ _ _ _ ?_
  show WIn 10 [some (tI R), some (tI C), some (.lls q dss), some (tI r), some (tI c), some (tI dn), some (tI rt), some (tI b), some (tI (0 + i)), some (.lst q1 [.int (r + dn), .int (c + rt)]), some (.lst q2 [.int (r + 2 * dn), .int (c + 2 * rt)]), some (.fz (.bool (insideB (r + dn) (c + rt) R C))), x12, x13] _
  refine w_in10 _ _ R C q2 _ _ _ _ _ _ _ _ _ _ _ _ ?_
  exact v_b14 R C m i q q1 q2 dss r c dn rt b d _ g hm hi hb hd
end
end Lw

namespace Lw
open PySem PySem.Spec PyProof.Rows L2 DL
section
variable (R C m i : Nat) (q : Addr) (dss : List (List PyData)) (r c dn rt b : Int) (d : DEnds) (x8 x9 x10 x11 x12 x13 : Option OT)
theorem v_b02 (g : GL R C dss) (hm : hs dss = m) (hd : ∀ ρ, TurnOk R C m 2 q ρ → d.nx ρ) :
    W_l_spiral_b0_2 d [some (tI R), some (tI C), some (.lls q dss), some (tI r), some (tI c), some (tI dn), some (tI rt), some (tI 1), x8, x9, x10, x11, x12, x13] := by
  conv => whnf
  refine ⟨⟨by decide, by decide⟩, ?_⟩
  conv => whnf
  refine ⟨fun i ρ => TurnOk R C m i q ρ, ⟨dss, r, c, dn, rt, 1, _, _, _, _, _, _, rfl, g, hm, .inr (.inl ⟨rfl, by decide⟩)⟩, ?_, fun ρ h => ?_⟩
  · rintro i x ρ hx ⟨dss, r, c, dn, rt, b, x8, x9, x10, x11, x12, x13, rfl, g, hm, hb⟩
    obtain ⟨rfl, hi⟩ := rng_get hx
    have hi : i < 2 := hi
    have hb : (b = 0 ∧ insideB r c R C = true ∧ cell dss r c = some (.str (Str.ofString "#"))) ∨ (b = 1) := by
      rcases hb with hb | hb | hb
      · exact .inl hb
      · exact .inr hb.1
      · omega
    exact v_b10 R C m i q dss r c dn rt b _ _ _ _ _ _ g hm hi hb fun ρ h => h
  · exact hd ρ h
theorem v_b00 (g : GL R C dss) (hm : hs dss = m) (h1 : insideB r c R C = true) (h2 : cell dss r c = some (.str (Str.ofString "#"))) (hd : ∀ m' ρ, m' < m → TurnOk R C m' 2 q ρ → d.nx ρ) :
    W_l_spiral_b0_0 d [some (tI R), some (tI C), some (.lls q dss), some (tI r), some (tI c), some (tI dn), some (tI rt), some (tI 0), x8, x9, x10, x11, x12, x13] := by
  obtain ⟨k, j, ds, e1, e2, e3, g', hm'⟩ := g.put h1 h2
  conv => whnf
  rw [e1]
  conv => whnf
  rw [e2]
  conv => whnf
  rw [e3]
  exact v_b02 R C (hs (dss.set k (ds.set j (.str (Str.ofString "."))))) q _ r c dn rt d _ _ _ _ _ _ g' rfl fun ρ h => hd _ ρ (by omega) h
end
theorem v_sg {ds : List PyData} (h : ∀ d ∈ ds, SgD d) : ∃ ys : List Str, strsOf ds = some ys ∧ ys.length = ds.length ∧ ∀ y ∈ ys, SignOk y ∧ y.length = 1 := by
  induction ds with
  | nil => exact ⟨[], rfl, rfl, fun y hy => by cases hy⟩
  | cons d t ih =>
    obtain ⟨ys, e, l, a⟩ := ih fun d hd => h d (List.mem_cons_of_mem _ hd)
    have k : ∀ w : Str, SignOk w → w.length = 1 → ∃ ys : List Str, strsOf (.str w :: t) = some ys ∧ ys.length = (PyData.str w :: t).length ∧ ∀ y ∈ ys, SignOk y ∧ y.length = 1 := fun w h1 h2 => by
      refine ⟨w :: ys, ?_, by simp [l], fun y hy => ?_⟩
      · show Option.map _ (strsOf t) = _
        rw [e]
        rfl
      · rcases List.mem_cons.mp hy with rfl | q
        · exact ⟨h1, h2⟩
        · exact a y q
    rcases h d List.mem_cons_self with rfl | rfl
    · exact k _ dot_ok.1 dot_ok.2
    · exact k _ wall_ok.1 wall_ok.2
end Lw

namespace Lw
open PySem PySem.Spec PyProof.Rows L2 DL
theorem sum_ones {ws : List Str} (h : ∀ y ∈ ws, y.length = 1) : (ws.map (·.length)).sum = ws.length := by
  induction ws with
  | nil => rfl
  | cons w r ih =>
    have h1 := h w (by simp)
    have := ih fun z hz => h z (List.mem_cons_of_mem _ hz)
    simp only [List.map_cons, List.sum_cons, List.length_cons]
    omega
theorem rep_row (C : Nat) : (repD C [PyData.str (Str.ofString "#")]).length = C ∧ ∀ d ∈ repD C [PyData.str (Str.ofString "#")], d = .str (Str.ofString "#") := by
  have e : repD C [PyData.str (Str.ofString "#")] = List.replicate C (.str (Str.ofString "#")) := by
    unfold repD
    induction C with
    | zero => rfl
    | succ n ih => rw [List.replicate_succ, List.flatten_cons, ih, List.replicate_succ]; rfl
  rw [e]
  exact ⟨by simp, fun d hd => List.eq_of_mem_replicate hd⟩
/-- the carved grid's rows, as text -/
theorem v_sp7 (R C : Nat) (Q : OT → List OT → Prop) (q : Addr) (dss : List (List PyData)) (r c dn rt b : Int) (x8 x9 x10 x11 x12 x13 : Option OT) (hR : R ≤ 12) (hC : C ≤ 12) (g : GL R C dss)
    (h : ∀ p rs, RowsOk R C rs → Q (.lst p (strsD rs)) [tI R, tI C]) :
    W_l_spiral_7 (endsF 14 [tI R, tI C] Q) [some (tI R), some (tI C), some (.lls q dss), some (tI r), some (tI c), some (tI dn), some (tI rt), some (tI b), x8, x9, x10, x11, x12, x13] := by
  have hz : sizeLine = 16777216 := sizeLine_eq
  conv => whnf
  refine ⟨⟨trivial, trivial⟩, fun i zs ρ => ∃ rs a, ρ = [some (tI R), some (tI C), some (.fz (.list (dss.map .list))), a, some (tI c), some (tI dn), some (tI rt), some (tI b), x8, x9, x10, x11, x12, x13] ∧ zs = strsD rs ∧ RowsOk i C rs, ⟨[], none, rfl, rfl, rfl, fun r hr => by cases hr⟩, ?_, ?_⟩
  · rintro i y zs ρ hy ⟨rs, a, rfl, rfl, hrs⟩
    rw [List.getElem?_map] at hy
    cases e : dss[i]? with
    | none => rw [e] at hy; cases hy
    | some ds =>
      rw [e] at hy
      cases hy
      obtain ⟨hi, hds⟩ := List.getElem?_eq_some_iff.mp e
      obtain ⟨c1, c2⟩ := g.cols ds (hds ▸ List.getElem_mem hi)
      obtain ⟨ys, e1, l1, a1⟩ := v_sg c2
      conv => whnf
      rw [e1]
      obtain ⟨j1, j2⟩ := join_empty ys a1
      conv => whnf
      refine ⟨?_, ?_⟩
      · show (ys.map (·.length)).sum + ys.length * (Str.ofString "").length ≤ 16777216
        rw [sum_ones fun y hy => (a1 y hy).2, show (Str.ofString "").length = 0 from rfl]
        omega
      · conv => whnf
        refine ⟨?_, ?_⟩
        · show (strsD rs).length < sizeLine
          have := hrs.1
          have := g.rows
          rw [List.length_map]
          omega
        · exact ⟨rs ++ [Txt.join (Str.ofString "") ys], _, rfl, strs_app _ _, rows_app hrs (by rw [j2, l1, c1]) j1⟩
  · rintro zs ρ ⟨rs, a, rfl, rfl, hrs⟩ p
    rw [List.length_map, g.rows] at hrs
    conv => whnf
    exact h p rs hrs
theorem v_sp6 (R C : Nat) (Q : OT → List OT → Prop) (q : Addr) (dss : List (List PyData)) (x8 x9 x10 x11 x12 x13 : Option OT) (hR : 1 ≤ R ∧ R ≤ 12) (hC : 1 ≤ C ∧ C ≤ 12) (g : GL R C dss) (h0 : cell dss 0 0 = some (.str (Str.ofString "#")))
    (h : ∀ p rs, RowsOk R C rs → Q (.lst p (strsD rs)) [tI R, tI C]) :
    W_l_spiral_6 (endsF 14 [tI R, tI C] Q) [some (tI R), some (tI C), some (.lls q dss), some (tI 0), some (tI 0), some (tI 0), some (tI 1), some (tI 0), x8, x9, x10, x11, x12, x13] := by
  refine ⟨fun m ρ => TurnOk R C m 2 q ρ, ⟨hs dss, dss, 0, 0, 0, 1, 0, _, _, _, _, _, _, rfl, g, rfl, .inl ⟨rfl, decide_eq_true ⟨by omega, by omega, by omega, by omega⟩, h0⟩⟩, ?_⟩
  rintro m ρ ⟨dss, r, c, dn, rt, b, x8, x9, x10, x11, x12, x13, rfl, g, hm, hb⟩
  conv => whnf
  refine bmd (fun h1 => ?_) (fun h1 => ?_)
  · have hb : b = 0 ∧ insideB r c R C = true ∧ cell dss r c = some (.str (Str.ofString "#")) := by
      rcases hb with hb | hb | hb
      · exact hb
      · omega
      · omega
    obtain ⟨rfl, hb1, hb2⟩ := hb
    exact v_b00 R C m q dss r c dn rt _ _ _ _ _ _ _ g hm hb1 hb2 fun m' ρ h h' => ⟨m', h, h'⟩
  · exact v_sp7 R C Q q dss r c dn rt b _ _ _ _ _ _ hR.2 hC.2 g h
theorem v_l_spiral (ts : List OT) (Q : OT → List OT → Prop) (h : phi_l_spiral ts Q) : W_l_spiral (endsF 14 ts Q) (startR 14 ts) := by
  obtain ⟨R, C, rfl, hR, hC, h⟩ := h
  have hz : sizeLine = 16777216 := sizeLine_eq
  show W_l_spiral_0 _ [some (tI R), some (tI C), none, none, none, none, none, none, none, none, none, none, none, none]
  conv => whnf
  refine ⟨⟨by omega, by omega⟩, ?_⟩
  conv => whnf
  refine ⟨⟨trivial, trivial⟩, fun i dss ρ => ∃ a, ρ = [some (tI R), some (tI C), none, a, none, none, none, none, none, none, none, none, none, none] ∧ dss = List.replicate i (repD C [.str (Str.ofString "#")]), ⟨none, rfl, rfl⟩, ?_, ?_⟩
  · rintro i y dss ρ hy ⟨a, rfl, rfl⟩
    obtain ⟨rfl, hi⟩ := rng_get hy
    conv => whnf
    intro p1
    conv => whnf
    refine ⟨⟨by omega, by omega, ?_⟩, ?_⟩
    · show 1 * (C : Int).toNat ≤ sizeLine
      omega
    · intro p2
      conv => whnf
      refine ⟨?_, ?_⟩
      · rw [List.length_replicate]
        have : i < R := by simpa using hi
        omega
      · exact ⟨_, rfl, by rw [List.replicate_succ']; rfl⟩
  · rintro dss ρ ⟨a, rfl, rfl⟩ q
    rw [rng_len]
    have er : (R : Int).toNat = R := by simp
    rw [er]
    obtain ⟨r1, r2⟩ := rep_row C
    refine v_sp6 R C Q q _ _ _ _ _ _ _ hR hC ⟨by simp, fun ds hd => ?_⟩ ?_ h
    · rw [List.eq_of_mem_replicate hd]
      exact ⟨r1, fun d hd => .inr (r2 d hd)⟩
    · have hgl : GL R C (List.replicate R (repD C [PyData.str (Str.ofString "#")])) := ⟨by simp, fun ds hd => by
        rw [List.eq_of_mem_replicate hd]
        exact ⟨r1, fun d hd => .inr (r2 d hd)⟩⟩
      obtain ⟨ds, d, e1, e2, _, ec⟩ := hgl.at (a := 0) (b := 0) (decide_eq_true ⟨by omega, by omega, by omega, by omega⟩)
      have hm : ∀ {α : Type} {l : List α} {x : α}, atI l 0 = some x → x ∈ l := fun {α l x} h => by
        cases l with
        | nil => cases h
        | cons y t =>
          have e : atI (y :: t) ((0 : Nat) : Int) = some y := atI_nat rfl
          have e' : some y = some x := e.symm.trans h
          cases e'
          exact List.mem_cons_self
      rw [ec]
      have h1 := List.eq_of_mem_replicate (hm e1)
      rw [h1] at e2
      rw [r2 d (hm e2)]
end Lw

namespace Lw
open PySem PySem.Spec PyProof.Rows L2 DL
/-- a row's signs -/
def rowOk (r : Str) (n : Int) : Bool := decide (r.length ≠ 0) && decide ((r.length : Int) = n) && (cs r).all fun x => decide (x = 46) || decide (x = 35)
def phi_is_row : FS := fun ts Q => ∃ r n, ts = [.fz (.str r), tI n] ∧ r.length ≤ 100000 ∧ Q (.fz (.bool (rowOk r n))) ts
def W_is_row_1 : WS := (wRet (wCB gAll (wCons (wLc [2] (wIterA (wVar 0)) (gvName 2) wYes (wOrV (wOp2 gEq (wVar 2) (wC (.str (Str.ofString ".")))) (wOp2 gEq (wVar 2) (wC (.str (Str.ofString "#")))))) wNil)))
def W_is_row_0 : WS := wSeq (wIfS (wOr (wTst (wOp2 gEq (wCB gLen (wCons (wVar 0) wNil)) (wC (.int 0)))) (wTst (wOp2 gNe (wCB gLen (wCons (wVar 0) wNil)) (wVar 1)))) (wRet (wC (.bool false))) wNext) W_is_row_1
def W_is_row : WS := W_is_row_0

theorem sg_eqX (c d : Nat) : decide ((⟨#[c]⟩ : Str) = ⟨#[d]⟩) = decide (c = d) := sg_eq c d
theorem strs_lay {rs : List Str} (h : ∀ r ∈ rs, ∀ c ∈ cs r, c < 128) : PyData.canLayAll0 (strsD rs) = true ∧ PyData.depthAll (strsD rs) ≤ 0 := by
  induction rs with
  | nil => exact ⟨rfl, by decide⟩
  | cons r rs ih =>
    obtain ⟨h1, h2⟩ := ih fun y hy => h y (List.mem_cons_of_mem _ hy)
    have hr : PyData.canLay0 (.str r) = true := by
      simp only [PyData.canLay0, PyData.strOk]
      rw [← Array.all_toList, List.all_eq_true]
      intro c hc
      have := h r (by simp) c hc
      exact decide_eq_true (by omega)
    refine ⟨?_, ?_⟩
    · show (PyData.canLay0 (.str r) && PyData.canLayAll0 (strsD rs)) = true
      rw [hr, h1]
      rfl
    · show max (PyData.depth (.str r)) (PyData.depthAll (strsD rs)) ≤ 0
      have : PyData.depth (.str r) = 0 := rfl
      omega
theorem sh_strs {rs : List Str} (h : ∀ r ∈ rs, ∀ c ∈ cs r, c < 128) : SeqAt.shaped (.list (strsD rs)) = true ∧ SeqAt.shaped (.tuple (strsD rs)) = true := by
  obtain ⟨h1, h2⟩ := strs_lay h
  unfold SeqAt.shaped
  rw [Bool.and_eq_true, decide_eq_true_eq, Bool.and_eq_true, decide_eq_true_eq]
  refine ⟨⟨h1, ?_⟩, ⟨h1, ?_⟩⟩
  · show PyData.depthAll (strsD rs) + 1 ≤ 64
    omega
  · show PyData.depthAll (strsD rs) + 1 ≤ 64
    omega
theorem eqv_self {d : PyData} (h : SeqAt.shaped d = true) : PyData.eqv d d = true := SeqAt.eqv_refl _ (SeqAt.canLay_of_shaped h)
theorem eqv_nilL (ds : List PyData) : PyData.eqv (.list ds) (.list []) = ds.isEmpty := by
  cases ds <;> rfl
theorem atI_lastD {α : Type} (l : List α) (x : α) : atI (l ++ [x]) (-1) = some x := by
  have : ixN (l ++ [x]).length (-1) = some l.length := by
    unfold ixN
    simp
    omega
  unfold atI
  rw [this]
  simp
theorem ixN_last {α : Type} (l : List α) (x : α) : ixN (l ++ [x]).length (-1) = some l.length := by
  unfold ixN
  simp
  omega
theorem cs_app2 (x y : Str) : cs (x ++ y) = cs x ++ cs y := TL.tl_append _ _
theorem str_of_cs {x : Str} {l : List Nat} (h : cs x = l) : x = ⟨l.toArray⟩ := by
  subst h
  cases x
  simp
def isF (t : Option OT) : Prop := t = none ∨ ∃ x, t = some (.fz x)
theorem isF_n : isF none := .inl rfl
theorem isF_s {x : PyData} : isF (some (.fz x)) := .inr ⟨x, rfl⟩
theorem v_is_row (ts : List OT) (Q : OT → List OT → Prop) (h : phi_is_row ts Q) : W_is_row (endsF 3 ts Q) (startR 3 ts) := by
  obtain ⟨r, n, rfl, hl, h⟩ := h
  have hz : sizeLine = 16777216 := sizeLine_eq
  show W_is_row _ [some (.fz (.str r)), some (tI n), none]
  conv => whnf
  refine ⟨by omega, ?_⟩
  conv => whnf
  refine bmd (fun h0 => ?_) (fun h0 => ?_)
  · conv => whnf
    have e : rowOk r n = false := by
      have : r.length = 0 := by omega
      simp [rowOk, this]
    rw [e] at h
    exact h
  · conv => whnf
    refine ⟨by omega, ?_⟩
    conv => whnf
    refine bmn (fun h1 => ?_) (fun h1 => ?_)
    · conv => whnf
      have e : rowOk r n = false := by simp [rowOk, h1]
      rw [e] at h
      exact h
    · conv => whnf
      refine ⟨⟨trivial, trivial⟩, ?_⟩
      refine ⟨fun i ds ρ => ∃ x, ρ = [some (.fz (.str r)), some (tI n), x] ∧ ds = (((cs r).take i).map fun c => decide (c = 46) || decide (c = 35)).map .bool, ⟨none, rfl, rfl⟩, ?_, ?_⟩
      · rintro i x ds ρ hx ⟨y, rfl, rfl⟩
        obtain ⟨c, hc, rfl⟩ := signs_get hx
        have hi : i < r.length := by
          have := (List.getElem?_eq_some_iff.mp hc).1
          rw [cs_len] at this
          exact this
        have lt : (List.map PyData.bool (List.map (fun c => decide (c = 46) || decide (c = 35)) (List.take i (cs r)))).length < sizeLine := by
          rw [List.length_map, List.length_map, List.length_take]
          omega
        have nx : List.map PyData.bool (List.map (fun c => decide (c = 46) || decide (c = 35)) (List.take i (cs r))) ++ [.bool (decide (c = 46) || decide (c = 35))] = List.map PyData.bool (List.map (fun c => decide (c = 46) || decide (c = 35)) (List.take (i + 1) (cs r))) := by
          rw [List.take_add_one, hc]
          simp
        conv => whnf
        refine bm (fun e => ?_) (fun e => ?_)
        · conv => whnf
          refine ⟨lt, _, rfl, ?_⟩
          rw [← nx]
          have e2 : decide (c = 46) = true := by rw [← sg_eq]; exact e
          rw [e2, Bool.true_or]
        · conv => whnf
          refine ⟨lt, _, rfl, ?_⟩
          rw [← nx]
          have e2 : decide (c = 46) = false := by rw [← sg_eq]; exact e
          rw [e2, Bool.false_or, ← sg_eq]
          rfl
      · rintro ds ρ ⟨y, rfl, rfl⟩ p
        conv => whnf
        rw [boolsOf_map]
        conv => whnf
        have e : rowOk r n = (((cs r).take (signsD r).length).map fun c => decide (c = 46) || decide (c = 35)).all id := by
          unfold rowOk
          have h0' : r.length ≠ 0 := by omega
          rw [decide_eq_true h0', decide_eq_true h1, signs_len, ← cs_len, List.take_length, List.all_map]
          rfl
        rw [e] at h
        exact h
/-! rows of a text -/
def splitN (z : Str) : List Str := Txt.split z nl
theorem splitN_len (z : Str) : 1 ≤ (splitN z).length ∧ (splitN z).length ≤ z.length + 2 := fact_split z nl
theorem join_memN (y : Str) : ∀ (ws : List Str) (w : Str), w ∈ ws → w.length ≤ (Str.join y ws).length ∧ ∀ c ∈ cs w, c ∈ cs (Str.join y ws)
  | [], w, h => by cases h
  | [a], w, h => by
    rw [List.mem_singleton.mp h]
    exact ⟨Nat.le_refl _, fun c hc => hc⟩
  | a :: b :: r, w, h => by
    have e : Str.join y (a :: b :: r) = a ++ y ++ Str.join y (b :: r) := rfl
    rw [e, len_app, len_app, cs_app2, cs_app2]
    rcases List.mem_cons.mp h with rfl | h
    · exact ⟨by omega, fun c hc => by simp [hc]⟩
    · obtain ⟨h1, h2⟩ := join_memN y (b :: r) w h
      exact ⟨by omega, fun c hc => by simp [h2 c hc]⟩
theorem row_of {z w : Str} (h : w ∈ splitN z) : w.length ≤ z.length ∧ ∀ c ∈ cs w, c ∈ cs z := by
  have := join_memN nl _ w h
  unfold splitN at this
  rw [StrLaws.join_split] at this
  exact this
/-- the first row is the measure -/
def len0 (rs : List Str) : Int := ((rs.headD ⟨#[]⟩).length : Nat)
def badR (rs : List Str) (j : Nat) : Bool := match rs[j]? with
  | some r => !rowOk r (len0 rs)
  | none => false
def goodR (rs : List Str) (i : Nat) : Prop := ∀ j, j < i → badR rs j = false
theorem at_row0 {rs : List Str} (h : 1 ≤ rs.length) : ∃ r, atI (strsD rs) 0 = some (.str r) ∧ (r.length : Int) = len0 rs ∧ r ∈ rs := by
  cases rs with
  | nil => exact absurd h (by decide)
  | cons r rs => exact ⟨r, atI_nat (j := 0) rfl, rfl, by simp⟩
theorem enumR_get {ws : List Str} {i : Nat} {x : PyData} (h : (enumD 0 (strsD ws))[i]? = some x) : ∃ w, ws[i]? = some w ∧ x = .tuple [.int ((0 + i : Nat) : Int), .str w] := by
  rw [enumD_get, List.getElem?_map] at h
  cases e : ws[i]? with
  | none => rw [e] at h; cases h
  | some w => rw [e] at h; cases h; exact ⟨w, rfl, rfl⟩
def W_read_grid_2 : WS := (wRet (wTupOf (wCons (wVar 1) wNil)))
def W_read_grid_1 : WS := wSeq (wFor (wEnumA (wCons (wVar 1) wNil)) (gvTup 2 (gvCons (gvName 2) (gvCons (gvName 3) gvNil))) (wIfS (wNot (wTst (wCall 2 [false, false] phi_is_row (wCons (wVar 3) (wCons (wCB gLen (wCons (wIx (wVar 1) (wC (.int 0))) wNil)) wNil))))) (wRaiseK "NoGrid" "row" okN (wVar 2)) wNext)) W_read_grid_2
def W_read_grid_0 : WS := wSeq (wSet (wM_split (wVar 0) (wCons (wC (.str (Str.ofString "\n"))) wNil)) 1) W_read_grid_1
def W_read_grid : WS := W_read_grid_0

def phi_read_grid : FSX := fun ts Q Xx => ∃ z : Str, ts = [.fz (.str z)] ∧ z.length ≤ 50000 ∧ (goodR (splitN z) (splitN z).length → Q (.fz (.tuple (strsD (splitN z)))) ts) ∧
  (∀ j, j < (splitN z).length → badR (splitN z) j = true → goodR (splitN z) j → Xx "NoGrid" (some (("row" : Str), PyData.int ((j : Nat) : Int))) ts)
theorem v_read_grid (ts : List OT) (Q : OT → List OT → Prop) (Xx : Str → Kpt → List OT → Prop) (h : phi_read_grid ts Q Xx) : W_read_grid (endsFX 4 ts Q Xx) (startR 4 ts) := by
  have hsz : sizeLine = 16777216 := sizeLine_eq
  obtain ⟨z, rfl, hl, h1, h2⟩ := h
  obtain ⟨hs1, hs2⟩ := splitN_len z
  show W_read_grid _ [some (.fz (.str z)), none, none, none]
  conv => whnf
  refine ⟨⟨rfl, by omega⟩, fun q => ?_⟩
  show W_read_grid_1 _ [some (.fz (.str z)), some (.lst q (strsD (splitN z))), none, none]
  obtain ⟨r0, e0, l0, m0⟩ := at_row0 hs1
  conv => whnf
  refine ⟨fun i ρ => ∃ x2 x3, ρ = [some (.fz (.str z)), some (.fz (.list (strsD (splitN z)))), x2, x3] ∧ goodR (splitN z) i, ⟨_, _, rfl, fun j hj => absurd hj (by omega)⟩, ?_, ?_⟩
  · rintro i x ρ hx ⟨x2, x3, rfl, hg⟩
    obtain ⟨w, hw, rfl⟩ := enumR_get hx
    have hi := (List.getElem?_eq_some_iff.mp hw).1
    have hm := (row_of (List.mem_of_getElem? hw)).1
    have hm0 := (row_of m0).1
    have hb : badR (splitN z) i = !rowOk w (len0 (splitN z)) := by
      unfold badR
      rw [hw]
    conv => whnf
    rw [e0]
    conv => whnf
    refine ⟨by omega, ?_⟩
    rw [l0]
    refine ⟨w, len0 (splitN z), rfl, by omega, ?_⟩
    cases hr : rowOk w (len0 (splitN z)) with
    | true =>
      conv => whnf
      refine ⟨_, _, rfl, fun j hj => ?_⟩
      by_cases hji : j = i
      · rw [hji, hb, hr]; rfl
      · exact hg j (by omega)
    | false =>
      conv => whnf
      refine ⟨⟨0 + i, rfl, by omega⟩, ?_⟩
      have := h2 i hi (by rw [hb, hr]; rfl) hg
      rw [show ((0 + i : Nat) : Int) = ((i : Nat) : Int) from by rw [Nat.zero_add]]
      exact this
  · rintro ρ ⟨x2, x3, rfl, hg⟩
    rw [enumD_len, List.length_map] at hg
    conv => whnf
    exact h1 hg
end Lw
namespace Lw
open PySem PySem.Spec PyProof.Rows L2 DL
theorem spl_snoc (s c : Nat) : ∀ (l acc : List Nat), ∃ ini last, TL.spl [s] 0 acc l = ini ++ [last] ∧ TL.spl [s] 0 acc (l ++ [c]) = if c = s then ini ++ [last, []] else ini ++ [last ++ [c]]
  | [], acc => by
    refine ⟨[], acc, TL.spl_nil _ _ _, ?_⟩
    by_cases h : c = s
    · rw [if_pos h, List.nil_append, TL.spl_hit (by subst h; simp [TL.pre])]
      exact congrArg _ (TL.spl_nil _ _ _)
    · rw [if_neg h, List.nil_append, TL.spl_miss (by simp [TL.pre]; exact h)]
      exact TL.spl_nil _ _ _
  | d :: l, acc => by
    by_cases h : d = s
    · obtain ⟨ini, last, e1, e2⟩ := spl_snoc s c l []
      refine ⟨acc :: ini, last, ?_, ?_⟩
      · rw [TL.spl_hit (by subst h; simp [TL.pre])]
        exact congrArg _ e1
      · rw [List.cons_append, TL.spl_hit (by subst h; simp [TL.pre])]
        show acc :: TL.spl [s] 0 [] (l ++ [c]) = _
        rw [e2]
        split <;> rfl
    · obtain ⟨ini, last, e1, e2⟩ := spl_snoc s c l (acc ++ [d])
      refine ⟨ini, last, ?_, ?_⟩
      · rw [TL.spl_miss (by simp [TL.pre]; exact h)]
        exact e1
      · rw [List.cons_append, TL.spl_miss (by simp [TL.pre]; exact h)]
        exact e2
def rowsT (l : List Nat) : List Str := splitN ⟨l.toArray⟩
theorem rows_spl (l : List Nat) : (rowsT l).map TL.tl = TL.spl [10] 0 [] l := TL.split_spl ⟨l.toArray⟩ nl (by decide) (TL.kind_ok (by decide +kernel))
theorem rows_snoc (l : List Nat) (c : Nat) : ∃ ini last, rowsT l = ini ++ [last] ∧ rowsT (l ++ [c]) = if c = 10 then ini ++ [last, Str.ofString ""] else ini ++ [last ++ ⟨#[c]⟩] := by
  obtain ⟨ini, last, e1, e2⟩ := spl_snoc 10 c l []
  refine ⟨ini.map fun w => ⟨w.toArray⟩, ⟨last.toArray⟩, TL.map_tl_inj ?_, TL.map_tl_inj ?_⟩
  · rw [rows_spl, e1, List.map_append, List.map_map]
    simp [Function.comp_def]
  · rw [rows_spl, e2]
    split
    · rw [List.map_append, List.map_map]
      simp [Function.comp_def]
      rfl
    · rw [List.map_append, List.map_map]
      simp [Function.comp_def, TL.tl_append]
theorem cnt_rows (l : List Nat) : 0 ≤ cnt 46 l + cnt 35 l ∧ cnt 46 l + cnt 35 l ≤ (l.length : Nat) ∧ ((cnt 46 l + cnt 35 l = (l.length : Nat)) ↔ (l.all fun x => decide (x = 46) || decide (x = 35)) = true) := by
  induction l with
  | nil => exact ⟨by decide, by decide, by decide⟩
  | cons c l ih =>
    obtain ⟨h0, h1, h2⟩ := ih
    rw [cnt_cons, cnt_cons, List.length_cons, List.all_cons, Bool.and_eq_true]
    by_cases a : c = 46
    · subst a
      rw [if_pos rfl, if_neg (by decide)]
      refine ⟨by omega, by omega, ?_⟩
      constructor
      · intro h
        exact ⟨rfl, h2.mp (by omega)⟩
      · intro h
        have := h2.mpr h.2
        omega
    · by_cases b : c = 35
      · subst b
        rw [if_neg (by decide), if_pos rfl]
        refine ⟨by omega, by omega, ?_⟩
        constructor
        · intro h
          exact ⟨rfl, h2.mp (by omega)⟩
        · intro h
          have := h2.mpr h.2
          omega
      · rw [if_neg a, if_neg b]
        refine ⟨by omega, by omega, ?_⟩
        constructor
        · intro h
          omega
        · intro h
          have h3 := h.1
          rw [Bool.or_eq_true, decide_eq_true_eq, decide_eq_true_eq] at h3
          rcases h3 with h3 | h3
          · exact absurd h3 a
          · exact absurd h3 b
def W_l_due_3 : WS := (wRet (wTupOf (wCons (wVar 1) wNil)))
def W_l_due_2 : WS := wSeq (wFor (wEnumA (wCons (wVar 1) wNil)) (gvTup 2 (gvCons (gvName 3) (gvCons (gvName 4) gvNil))) (wIfS (wOr (wTst (wOp2 gEq (wVar 4) (wC (.str (Str.ofString ""))))) (wOr (wTst (wOp2 gNe (wCB gLen (wCons (wVar 4) wNil)) (wCB gLen (wCons (wIx (wVar 1) (wC (.int 0))) wNil)))) (wTst (wOp2 gNe (wOp2 gAdd (wMS (fun a b => .int (Txt.count a b)) (wVar 4) (wCons (wC (.str (Str.ofString "."))) wNil)) (wMS (fun a b => .int (Txt.count a b)) (wVar 4) (wCons (wC (.str (Str.ofString "#"))) wNil))) (wCB gLen (wCons (wVar 4) wNil)))))) (wRet (wTup (wCons (wC (.str (Str.ofString "grid"))) (wCons (wVar 3) wNil)))) wNext)) W_l_due_3
def W_l_due_1 : WS := wSeq (wFor (wIterA (wVar 0)) (gvName 2) (wIfS (wTst (wOp2 gEq (wVar 2) (wC (.str (Str.ofString "\n"))))) (wApp 1 (wC (.str (Str.ofString "")))) (wSub 1 (wNeg (wC (.int 1))) (wOp2 gAdd (wIx (wVar 1) (wNeg (wC (.int 1)))) (wVar 2))))) W_l_due_2
def W_l_due_0 : WS := wSeq (wSet (wLst (wCons (wC (.str (Str.ofString ""))) wNil)) 1) W_l_due_1
def W_l_due : WS := W_l_due_0

def phi_l_due : FS := fun ts Q => ∃ z : Str, ts = [.fz (.str z)] ∧ z.length ≤ 50000 ∧ (goodR (splitN z) (splitN z).length → Q (.fz (.tuple (strsD (splitN z)))) ts) ∧
  (∀ j, j < (splitN z).length → badR (splitN z) j = true → goodR (splitN z) j → Q (.fz (.tuple [.str (Str.ofString "grid"), .int ((j : Nat) : Int)])) ts)
theorem v_l_due (ts : List OT) (Q : OT → List OT → Prop) (h : phi_l_due ts Q) : W_l_due (endsF 5 ts Q) (startR 5 ts) := by
  have hsz : sizeLine = 16777216 := sizeLine_eq
  obtain ⟨z, rfl, hl, h1, h2⟩ := h
  obtain ⟨hs1, hs2⟩ := splitN_len z
  have hz : rowsT (cs z) = splitN z := by unfold rowsT; rw [← str_of_cs (x := z) rfl]
  show W_l_due _ [some (.fz (.str z)), none, none, none, none]
  conv => whnf
  intro q
  show W_l_due_1 _ [some (.fz (.str z)), some (.lst q [.str (Str.ofString "")]), none, none, none]
  conv => whnf
  refine ⟨fun i ρ => ∃ x2, ρ = [some (.fz (.str z)), some (.lst q (strsD (rowsT ((cs z).take i)))), x2, none, none], ⟨none, by rw [List.take_zero]; rfl⟩, ?_, ?_⟩
  · rintro i x ρ hx ⟨x2, rfl⟩
    obtain ⟨c, hc, rfl⟩ := signs_get hx
    have hi := (List.getElem?_eq_some_iff.mp hc).1
    obtain ⟨ini, last, e1, e2⟩ := rows_snoc ((cs z).take i) c
    have hlast : last.length ≤ i := by
      have : last ∈ splitN ⟨((cs z).take i).toArray⟩ := by
        have : last ∈ rowsT ((cs z).take i) := by rw [e1]; simp
        exact this
      have := (row_of this).1
      have e : (⟨((cs z).take i).toArray⟩ : Str).length = ((cs z).take i).length := by simp [Str.length]
      rw [e, List.length_take] at this
      omega
    have hrl : (rowsT ((cs z).take i)).length ≤ i + 2 := by
      have := (splitN_len ⟨((cs z).take i).toArray⟩).2
      have e : (⟨((cs z).take i).toArray⟩ : Str).length = ((cs z).take i).length := by simp [Str.length]
      rw [e, List.length_take] at this
      show (splitN _).length ≤ _
      omega
    rw [cs_len] at hi
    have et : (cs z).take (i + 1) = (cs z).take i ++ [c] := by rw [List.take_add_one, hc]; rfl
    conv => whnf
    rw [show decide ((⟨#[c]⟩ : Str) = Str.ofString "\n") = decide (c = 10) from sg_eqX c 10]
    refine bmd (fun h10 => ?_) (fun h10 => ?_)
    · rw [if_pos h10] at e2
      conv => whnf
      refine ⟨by rw [List.length_map]; omega, some (.fz (.str ⟨#[c]⟩)), ?_⟩
      rw [et, e2, e1]
      have : strsD (ini ++ [last, Str.ofString ""]) = strsD (ini ++ [last]) ++ [.str (Str.ofString "")] := by simp [strsD]
      rw [this]
      rfl
    · rw [if_neg h10] at e2
      rw [e1]
      rw [show strsD (ini ++ [last]) = strsD ini ++ [PyData.str last] from by simp [strsD]]
      conv => whnf
      rw [show atI (strsD ini ++ [PyData.str last]) (-1) = some (PyData.str last) from atI_lastD _ _]
      conv => whnf
      refine ⟨by show last.length + 1 ≤ sizeLine; omega, ?_⟩
      conv => whnf
      rw [show ixN (strsD ini ++ [PyData.str last]).length (-1) = some (strsD ini).length from ixN_last _ _]
      conv => whnf
      refine ⟨some (.fz (.str ⟨#[c]⟩)), ?_⟩
      rw [et, e2]
      have : strsD (ini ++ [last ++ ⟨#[c]⟩]) = (strsD ini ++ [PyData.str last]).set (strsD ini).length (PyData.str (last ++ ⟨#[c]⟩)) := by simp [strsD]
      rw [this]
      rfl
  · rintro ρ ⟨x2, rfl⟩
    rw [signs_len, ← cs_len, List.take_length, hz]
    show W_l_due_2 _ [some (.fz (.str z)), some (.lst q (strsD (splitN z))), x2, none, none]
    obtain ⟨r0, e0, l0, m0⟩ := at_row0 hs1
    have hm0 := (row_of m0).1
    conv => whnf
    refine ⟨fun i ρ => ∃ x3 x4, ρ = [some (.fz (.str z)), some (.fz (.list (strsD (splitN z)))), x2, x3, x4] ∧ goodR (splitN z) i, ⟨_, _, rfl, fun j hj => absurd hj (by omega)⟩, ?_, ?_⟩
    · rintro i x ρ hx ⟨x3, x4, rfl, hg⟩
      obtain ⟨w, hw, rfl⟩ := enumR_get hx
      have hi := (List.getElem?_eq_some_iff.mp hw).1
      have hm := (row_of (List.mem_of_getElem? hw)).1
      have hb : badR (splitN z) i = !rowOk w (len0 (splitN z)) := by
        unfold badR
        rw [hw]
      have bad : rowOk w (len0 (splitN z)) = false → Q (.fz (.tuple [.str (Str.ofString "grid"), .int ((0 + i : Nat) : Int)])) [.fz (.str z)] := fun e => by
        rw [Nat.zero_add]
        exact h2 i hi (by rw [hb, e]; rfl) hg
      have hro : rowOk w (len0 (splitN z)) = (decide (w.length ≠ 0) && (decide ((w.length : Int) = len0 (splitN z)) && decide (cnt 46 (cs w) + cnt 35 (cs w) = ((cs w).length : Nat)))) := by
        unfold rowOk
        have := (cnt_rows (cs w)).2.2
        rw [Bool.and_assoc]
        congr 2
        rw [Bool.eq_iff_iff, decide_eq_true_eq]
        exact this.symm
      conv => whnf
      refine bmd (fun hz0 => ?_) (fun hz0 => ?_)
      · have : w.length = 0 := by rw [hz0]; rfl
        exact bad (by rw [hro, decide_eq_false (by omega), Bool.false_and])
      · have hwl : w.length ≠ 0 := fun e => hz0 (by
          cases w with
          | mk a =>
            have : a.size = 0 := e
            rw [Array.size_eq_zero_iff.mp this]
            rfl)
        conv => whnf
        refine ⟨by omega, ?_⟩
        conv => whnf
        rw [e0]
        conv => whnf
        refine ⟨by omega, ?_⟩
        rw [l0]
        refine bmn (fun h3 => ?_) (fun h3 => ?_)
        · exact bad (by rw [hro, decide_eq_false h3, Bool.false_and, Bool.and_false])
        · conv => whnf
          rw [show Txt.count w (Str.ofString ".") = cnt 46 (cs w) from count_cnt w 46, show Txt.count w (Str.ofString "#") = cnt 35 (cs w) from count_cnt w 35]
          conv => whnf
          refine ⟨by omega, ?_⟩
          rw [← cs_len]
          refine bmn (fun h4 => ?_) (fun h4 => ?_)
          · exact bad (by rw [hro, decide_eq_false h4, Bool.and_false, Bool.and_false])
          · refine ⟨_, _, rfl, fun j hj => ?_⟩
            by_cases hji : j = i
            · rw [hji, hb, hro, decide_eq_true hwl, decide_eq_true h3, decide_eq_true h4]
              rfl
            · exact hg j (by omega)
    · rintro ρ ⟨x3, x4, rfl, hg⟩
      rw [enumD_len, List.length_map] at hg
      conv => whnf
      exact h1 hg
end Lw
namespace Lw
open PySem PySem.Spec PyProof.Rows L2 DL
def W_l_kind_6 : WS := (wRet (wTup (wCons (wIx (wLst (wCons (wC (.str (Str.ofString "ask"))) (wCons (wC (.str (Str.ofString ""))) (wCons (wC (.str (Str.ofString ""))) (wCons (wC (.str (Str.ofString ""))) (wCons (wC (.str (Str.ofString "way"))) wNil)))))) (wM_index (wLfirst (wVar 1)) (wCons (wC (.bool true)) wNil))) wNil)))
def W_l_kind_5 : WS := wSeq (wIfS (wTst (wIx (wVar 1) (wC (.int 3)))) (wRet (wIx (wLst (wCons (wTup (wCons (wC (.str (Str.ofString "runs"))) (wCons (wXf ["NoRuns", "NoPlace"] "place" (wVar 0)) wNil))) (wCons (wTup (wCons (wC (.str (Str.ofString "other"))) wNil)) wNil))) (wCB gInt (wCons (wIsi "bool" (wXf ["NoRuns", "NoPlace"] "place" (wVar 0))) wNil)))) wNext) W_l_kind_6
def W_l_kind_4 : WS := wSeq (wIfS (wTst (wIx (wVar 1) (wC (.int 2)))) (wRet (wTup (wCons (wC (.str (Str.ofString "place"))) (wCons (wXf ["NoRuns", "NoPlace"] "place" (wVar 0)) wNil)))) wNext) W_l_kind_5
def W_l_kind_3 : WS := wSeq (wIfS (wTst (wIx (wVar 1) (wC (.int 1)))) (wRet (wIx (wLst (wCons (wTup (wCons (wC (.str (Str.ofString "grid"))) (wCons (wXf ["NoGrid"] "row" (wVar 0)) wNil))) (wCons (wTup (wCons (wC (.str (Str.ofString "other"))) wNil)) wNil))) (wCB gInt (wCons (wIsi "bool" (wXf ["NoGrid"] "row" (wVar 0))) wNil)))) wNext) W_l_kind_4
def W_l_kind_2 : WS := wSeq (wIfS (wOr (wNot (wTst (wIsL ["NoWay", "NoAsk", "NoGrid", "NoRuns", "NoPlace"] "TurnError" (wVar 0)))) (wOr (wNot (wTst (wIsL ["NoWay", "NoAsk", "NoGrid", "NoRuns", "NoPlace"] "ValueError" (wVar 0)))) (wTst (wOp2 gNe (wM_count (wLfirst (wVar 1)) (wCons (wC (.bool true)) wNil)) (wC (.int 1)))))) (wRet (wTup (wCons (wC (.str (Str.ofString "other"))) wNil))) wNext) W_l_kind_3
def W_l_kind_1 : WS := wSeq (wSet (wCat (wVar 1) (wLst (wCons (wIsL ["NoWay", "NoAsk", "NoGrid", "NoRuns", "NoPlace"] "NoRuns" (wVar 0)) (wCons (wIsL ["NoWay", "NoAsk", "NoGrid", "NoRuns", "NoPlace"] "NoWay" (wVar 0)) wNil)))) 1) W_l_kind_2
def W_l_kind_0 : WS := wSeq (wSet (wLst (wCons (wIsL ["NoWay", "NoAsk", "NoGrid", "NoRuns", "NoPlace"] "NoAsk" (wVar 0)) (wCons (wIsL ["NoWay", "NoAsk", "NoGrid", "NoRuns", "NoPlace"] "NoGrid" (wVar 0)) (wCons (wIsL ["NoWay", "NoAsk", "NoGrid", "NoRuns", "NoPlace"] "NoPlace" (wVar 0)) wNil)))) 1) W_l_kind_1
def W_l_kind : WS := W_l_kind_0

def kindOf (n : Str) (k : Kpt) (d : PyData) : Prop :=
  (n = "NoGrid" ∧ ∃ j : Nat, k = some (("row" : Str), PyData.int ((j : Nat) : Int)) ∧ d = .tuple [.str (Str.ofString "grid"), .int ((j : Nat) : Int)]) ∨
  (n = "NoRuns" ∧ ∃ j : Nat, k = some (("place" : Str), PyData.int ((j : Nat) : Int)) ∧ d = .tuple [.str (Str.ofString "runs"), .int ((j : Nat) : Int)]) ∨
  (n = "NoPlace" ∧ ∃ a b : Int, k = some (("place" : Str), PyData.tuple [.int a, .int b]) ∧ d = .tuple [.str (Str.ofString "place"), .tuple [.int a, .int b]])
def phi_l_kind : FS := fun ts Q => ∃ (n : Str) (k : Kpt) (d : PyData), ts = [.exc n k] ∧ kindOf n k d ∧ Q (.fz d) ts
theorem v_l_kind (ts : List OT) (Q : OT → List OT → Prop) (h : phi_l_kind ts Q) : W_l_kind (endsF 2 ts Q) (startR 2 ts) := by
  have hsz : sizeLine = 16777216 := sizeLine_eq
  obtain ⟨n, k, d, rfl, ⟨rfl, j, rfl, rfl⟩ | ⟨rfl, j, rfl, rfl⟩ | ⟨rfl, a, b, rfl, rfl⟩, h⟩ := h
  · show W_l_kind _ [some (.exc "NoGrid" (some (("row" : Str), PyData.int ((j : Nat) : Int)))), none]
    conv => whnf
    refine ⟨by decide, ?_⟩
    conv => whnf
    refine ⟨by decide, ?_⟩
    conv => whnf
    refine ⟨by decide, ?_⟩
    conv => whnf
    intro q
    show W_l_kind_1 _ [some (.exc "NoGrid" (some (("row" : Str), PyData.int ((j : Nat) : Int)))), some (.lst q [.bool false, .bool true, .bool false])]
    conv => whnf
    refine ⟨by decide, ?_⟩
    conv => whnf
    refine ⟨by decide, ?_⟩
    conv => whnf
    intro q2
    conv => whnf
    refine ⟨by show 5 ≤ sizeLine; omega, fun q3 => ?_⟩
    show W_l_kind_2 _ [some (.exc "NoGrid" (some (("row" : Str), PyData.int ((j : Nat) : Int)))), some (.lst q3 [.bool false, .bool true, .bool false, .bool false, .bool false])]
    conv => whnf
    refine ⟨by decide, ?_⟩
    conv => whnf
    refine ⟨by decide, ?_⟩
    conv => whnf
    refine ⟨by decide, by decide, ?_⟩
    conv => whnf
    refine ⟨by decide, rfl, ?_⟩
    conv => whnf
    intro q4
    conv => whnf
    refine ⟨by decide, rfl, ?_⟩
    conv => whnf
    exact h
  · show W_l_kind _ [some (.exc "NoRuns" (some (("place" : Str), PyData.int ((j : Nat) : Int)))), none]
    conv => whnf
    refine ⟨by decide, ?_⟩
    conv => whnf
    refine ⟨by decide, ?_⟩
    conv => whnf
    refine ⟨by decide, ?_⟩
    conv => whnf
    intro q
    show W_l_kind_1 _ [some (.exc "NoRuns" (some (("place" : Str), PyData.int ((j : Nat) : Int)))), some (.lst q [.bool false, .bool false, .bool false])]
    conv => whnf
    refine ⟨by decide, ?_⟩
    conv => whnf
    refine ⟨by decide, ?_⟩
    conv => whnf
    intro q2
    conv => whnf
    refine ⟨by show 5 ≤ sizeLine; omega, fun q3 => ?_⟩
    show W_l_kind_2 _ [some (.exc "NoRuns" (some (("place" : Str), PyData.int ((j : Nat) : Int)))), some (.lst q3 [.bool false, .bool false, .bool false, .bool true, .bool false])]
    conv => whnf
    refine ⟨by decide, ?_⟩
    conv => whnf
    refine ⟨by decide, ?_⟩
    conv => whnf
    refine ⟨by decide, by decide, ?_⟩
    conv => whnf
    refine ⟨by decide, rfl, ?_⟩
    conv => whnf
    intro q4
    conv => whnf
    refine ⟨by decide, rfl, ?_⟩
    conv => whnf
    exact h
  · show W_l_kind _ [some (.exc "NoPlace" (some (("place" : Str), PyData.tuple [.int a, .int b]))), none]
    conv => whnf
    refine ⟨by decide, ?_⟩
    conv => whnf
    refine ⟨by decide, ?_⟩
    conv => whnf
    refine ⟨by decide, ?_⟩
    conv => whnf
    intro q
    show W_l_kind_1 _ [some (.exc "NoPlace" (some (("place" : Str), PyData.tuple [.int a, .int b]))), some (.lst q [.bool false, .bool false, .bool true])]
    conv => whnf
    refine ⟨by decide, ?_⟩
    conv => whnf
    refine ⟨by decide, ?_⟩
    conv => whnf
    intro q2
    conv => whnf
    refine ⟨by show 5 ≤ sizeLine; omega, fun q3 => ?_⟩
    show W_l_kind_2 _ [some (.exc "NoPlace" (some (("place" : Str), PyData.tuple [.int a, .int b]))), some (.lst q3 [.bool false, .bool false, .bool true, .bool false, .bool false])]
    conv => whnf
    refine ⟨by decide, ?_⟩
    conv => whnf
    refine ⟨by decide, ?_⟩
    conv => whnf
    refine ⟨by decide, by decide, ?_⟩
    conv => whnf
    refine ⟨by decide, rfl, ?_⟩
    conv => whnf
    exact h
/-! ### right -/
theorem badR_uniq {ws : List Str} {i j : Nat} (h1 : badR ws i = true) (g1 : goodR ws i) (h2 : badR ws j = true) (g2 : goodR ws j) : i = j := by
  rcases Nat.lt_trichotomy i j with h | h | h
  · rw [g2 i h] at h1; cases h1
  · exact h
  · rw [g1 j h] at h2; cases h2
theorem lay_strX {z : Str} (h : (cs z).all (fun c => decide (c < 128)) = true) : PyData.canLay0 (.str z) = true := by
  simp only [PyData.canLay0, PyData.strOk]
  rw [← Array.all_toList, List.all_eq_true]
  intro c hc
  have := of_decide_eq_true (List.all_eq_true.mp h c hc)
  exact decide_eq_true (by omega)
theorem sh_pairN {z : Str} (h : (cs z).all (fun c => decide (c < 128)) = true) (j : Int) : SeqAt.shaped (.tuple [.str z, .int j]) = true := by
  unfold SeqAt.shaped
  rw [Bool.and_eq_true]
  refine ⟨?_, decide_eq_true (show (1 : Nat) ≤ 64 by decide)⟩
  show (PyData.canLay0 (.str z) && (true && true)) = true
  rw [lay_strX h]
  rfl
theorem good_head {rs : List Str} (h : goodR rs rs.length) (hl : 1 ≤ rs.length) {r : Str} (e : atI (strsD rs) 0 = some (.str r)) : ∃ x ∈ cs r, x = 46 ∨ x = 35 := by
  cases rs with
  | nil => exact absurd hl (by decide)
  | cons a rs =>
    have e : some (PyData.str a) = some (PyData.str r) := (atI_nat (j := 0) (xs := strsD (a :: rs)) rfl).symm.trans e
    cases e
    have := h 0 (by simp)
    unfold badR at this
    have h1 : rowOk r (len0 (r :: rs)) = true := by
      cases q : rowOk r (len0 (r :: rs)) with
      | true => rfl
      | false =>
        have this : (!rowOk r (len0 (r :: rs))) = false := this
        rw [q] at this
        cases this
    unfold rowOk at h1
    simp only [Bool.and_eq_true, decide_eq_true_eq] at h1
    obtain ⟨⟨h2, _⟩, h3⟩ := h1
    cases q : cs r with
    | nil =>
      rw [← cs_len, q] at h2
      exact absurd rfl h2
    | cons c l =>
      rw [q] at h3
      have := List.all_eq_true.mp h3 c (by simp)
      rw [Bool.or_eq_true, decide_eq_true_eq, decide_eq_true_eq] at this
      exact ⟨c, by simp, this⟩
def W_l_right_b0_4 : WS := (wIfS (wAnd (wNot (wTst (wVar 2))) (wOr (wNot (wTst (wIsi "tuple" (wVar 4)))) (wTst (wOp2 gNe (wVar 4) (wVar 1))))) (wRet (wC (.bool false))) wNext)
def W_l_right_b0_3 : WS := wSeq (wIfS (wAnd (wTst (wVar 2)) (wTst (wOp2 gNe (wCall 1 [false] phi_l_kind (wCons (wVar 5) wNil)) (wVar 1)))) (wRet (wC (.bool false))) wNext) W_l_right_b0_4
def W_l_right_b0_2 : WS := wSeq (wTry (catL ["NoWay", "NoAsk", "NoGrid", "NoRuns", "NoPlace"]) 6 5 (wSetX (wCallX 1 [false] phi_read_grid (wCons (wVar 0) wNil)) 4)) W_l_right_b0_3
def W_l_right_b0_1 : WS := wSeq (wSet (wC .none) 5) W_l_right_b0_2
def W_l_right_b0_0 : WS := wSeq (wSet (wC .none) 4) W_l_right_b0_1
def W_l_right_4 : WS := (wRet (wC (.bool true)))
def W_l_right_3 : WS := wSeq (wFor (wRng1 (wCons (wC (.int 2)) wNil)) (gvName 3) W_l_right_b0_0) W_l_right_4
def W_l_right_2 : WS := wSeq (wIfS (wAnd (wNot (wTst (wVar 2))) (wOr (wTst (wOp2 (gI0 fun i j => .bool (decide (j < i))) (wCB gLen (wCons (wVar 1) wNil)) (wC (.int 12)))) (wTst (wOp2 (gI0 fun i j => .bool (decide (j < i))) (wCB gLen (wCons (wIx (wVar 1) (wC (.int 0))) wNil)) (wC (.int 12)))))) (wRet (wC (.bool true))) wNext) W_l_right_3
def W_l_right_1 : WS := wSeq (wSet (wOp2 gEq (wIx (wVar 1) (wC (.int 0))) (wC (.str (Str.ofString "grid")))) 2) W_l_right_2
def W_l_right_0 : WS := wSeq (wSet (wCall 1 [false] phi_l_due (wCons (wVar 0) wNil)) 1) W_l_right_1
def W_l_right : WS := W_l_right_0

def phi_l_right : FS := fun ts Q => ∃ z : Str, ts = [.fz (.str z)] ∧ z.length ≤ 50000 ∧ (∀ c ∈ cs z, c < 128) ∧ Q (.fz (.bool true)) ts
theorem v_right_turn (D : DEnds) (z : Str) (due : PyData) (b : Bool) (x3 x4 x5 : Option OT) (hl : z.length ≤ 50000) (hp : ∀ c ∈ cs z, c < 128)
    (hd : (b = false ∧ goodR (splitN z) (splitN z).length ∧ due = .tuple (strsD (splitN z))) ∨
      (b = true ∧ ∃ j : Nat, j < (splitN z).length ∧ badR (splitN z) j = true ∧ goodR (splitN z) j ∧ due = .tuple [.str (Str.ofString "grid"), .int ((j : Nat) : Int)]))
    (h : ∀ x4 x5, D.nx [some (.fz (.str z)), some (.fz due), some (.fz (.bool b)), x3, x4, x5, none]) :
    W_l_right_b0_0 D [some (.fz (.str z)), some (.fz due), some (.fz (.bool b)), x3, x4, x5, none] := by
  have hsr := sh_strs (rs := splitN z) fun r hr c hc => hp c ((row_of hr).2 c hc)
  conv => whnf
  show W_l_right_b0_1 D [some (.fz (.str z)), some (.fz due), some (.fz (.bool b)), x3, some (.fz .none), x5, none]
  conv => whnf
  show W_l_right_b0_2 D [some (.fz (.str z)), some (.fz due), some (.fz (.bool b)), x3, some (.fz .none), some (.fz .none), none]
  conv => whnf
  refine ⟨z, rfl, hl, fun hgd => ?_, fun j hj hb hgj => ?_⟩
  · obtain ⟨rfl, rfl⟩ : b = false ∧ due = .tuple (strsD (splitN z)) := by
      rcases hd with ⟨e, _, q⟩ | ⟨_, j, hj, hb, _⟩
      · exact ⟨e, q⟩
      · rw [hgd j hj] at hb; cases hb
    show W_l_right_b0_3 D [some (.fz (.str z)), some (.fz (.tuple (strsD (splitN z)))), some (.fz (.bool false)), x3, some (.fz (.tuple (strsD (splitN z)))), some (.fz .none), none]
    conv => whnf
    show W_l_right_b0_4 D [some (.fz (.str z)), some (.fz (.tuple (strsD (splitN z)))), some (.fz (.bool false)), x3, some (.fz (.tuple (strsD (splitN z)))), some (.fz .none), none]
    conv => whnf
    refine ⟨hsr.2, hsr.2, ?_⟩
    rw [eqv_self hsr.2]
    exact h _ _
  · obtain ⟨rfl, rfl⟩ : b = true ∧ due = .tuple [.str (Str.ofString "grid"), .int ((j : Nat) : Int)] := by
      rcases hd with ⟨_, hgd, _⟩ | ⟨e, j', hj', hb', hgj', q⟩
      · rw [hgd j hj] at hb; cases hb
      · have := badR_uniq hb hgj hb' hgj'
        subst this
        exact ⟨e, q⟩
    refine ⟨by decide, ?_⟩
    show W_l_right_b0_3 D [some (.fz (.str z)), some (.fz (.tuple [.str (Str.ofString "grid"), .int ((j : Nat) : Int)])), some (.fz (.bool true)), x3, some (.fz .none), some (.exc "NoGrid" (some (("row" : Str), PyData.int ((j : Nat) : Int)))), none]
    conv => whnf
    refine ⟨_, _, .tuple [.str (Str.ofString "grid"), .int ((j : Nat) : Int)], rfl, .inl ⟨rfl, j, rfl, rfl⟩, ?_⟩
    have hs := sh_pairN (z := Str.ofString "grid") (by decide) (j : Int)
    conv => whnf
    refine ⟨hs, hs, ?_⟩
    rw [eqv_self hs]
    conv => whnf
    exact h _ _
theorem v_l_right (ts : List OT) (Q : OT → List OT → Prop) (h : phi_l_right ts Q) : W_l_right (endsF 7 ts Q) (startR 7 ts) := by
  have hsz : sizeLine = 16777216 := sizeLine_eq
  obtain ⟨z, rfl, hl, hp, h⟩ := h
  obtain ⟨hs1, hs2⟩ := splitN_len z
  have fin : ∀ due b, ((b = false ∧ goodR (splitN z) (splitN z).length ∧ due = .tuple (strsD (splitN z))) ∨
      (b = true ∧ ∃ j : Nat, j < (splitN z).length ∧ badR (splitN z) j = true ∧ goodR (splitN z) j ∧ due = .tuple [.str (Str.ofString "grid"), .int ((j : Nat) : Int)])) → W_l_right_3 (endsF 7 [.fz (.str z)] Q) [some (.fz (.str z)), some (.fz due), some (.fz (.bool b)), none, none, none, none] := by
    intro due b hd
    conv => whnf
    refine ⟨by decide, fun i ρ => ∃ x3 x4 x5, ρ = [some (.fz (.str z)), some (.fz due), some (.fz (.bool b)), x3, x4, x5, none], ⟨_, _, _, rfl⟩, ?_, ?_⟩
    · rintro i x ρ hx ⟨x3, x4, x5, rfl⟩
      conv => whnf
      exact v_right_turn _ z due b _ x4 x5 hl hp hd fun x4 x5 => ⟨_, x4, x5, rfl⟩
    · rintro ρ ⟨x3, x4, x5, rfl⟩
      conv => whnf
      exact h
  show W_l_right _ [some (.fz (.str z)), none, none, none, none, none, none]
  conv => whnf
  refine ⟨z, rfl, hl, fun hgd => ?_, fun j hj hb hgj => ?_⟩
  · show W_l_right_1 (endsF 7 [.fz (.str z)] Q) [some (.fz (.str z)), some (.fz (.tuple (strsD (splitN z)))), none, none, none, none, none]
    obtain ⟨r0, e0, l0, m0⟩ := at_row0 hs1
    obtain ⟨x, hx, hx2⟩ := good_head hgd hs1 e0
    have hm0 := (row_of m0).1
    have hng : decide (r0 = Str.ofString "grid") = false := decide_eq_false fun e => by
      subst e
      have : x ∈ [103, 114, 105, 100] := hx
      simp only [List.mem_cons, List.not_mem_nil, or_false] at this
      omega
    conv => whnf
    rw [e0]
    conv => whnf
    rw [hng]
    show W_l_right_2 (endsF 7 [.fz (.str z)] Q) [some (.fz (.str z)), some (.fz (.tuple (strsD (splitN z)))), some (.fz (.bool false)), none, none, none, none]
    conv => whnf
    refine bmd (fun h12 => ?_) (fun h12 => ?_)
    · conv => whnf
      exact h
    · conv => whnf
      rw [e0]
      conv => whnf
      refine ⟨by omega, ?_⟩
      refine bmd (fun h12 => ?_) (fun h12 => ?_)
      · conv => whnf
        exact h
      · exact fin _ _ (.inl ⟨rfl, hgd, rfl⟩)
  · show W_l_right_1 (endsF 7 [.fz (.str z)] Q) [some (.fz (.str z)), some (.fz (.tuple [.str (Str.ofString "grid"), .int ((j : Nat) : Int)])), none, none, none, none, none]
    conv => whnf
    show W_l_right_2 (endsF 7 [.fz (.str z)] Q) [some (.fz (.str z)), some (.fz (.tuple [.str (Str.ofString "grid"), .int ((j : Nat) : Int)])), some (.fz (.bool true)), none, none, none, none]
    conv => whnf
    exact fin _ _ (.inr ⟨rfl, j, hj, hb, hgj, rfl⟩)
end Lw
namespace Lw
open PySem PySem.Spec PyProof.Rows L2 DL
def Pln (z : Str) : Prop := ∀ c ∈ cs z, c < 128
def W_l_sign_1 : WS := (wRet (wIx (wLst (wCons (wIx (wVar 1) (wCall 2 [true, false] phi_l_next (wCons (wVar 0) (wCons (wCB gLen (wCons (wVar 1) wNil)) wNil)))) (wCons (wIx (wC (.str (Str.ofString ".#\n"))) (wCall 2 [true, false] phi_l_next (wCons (wVar 0) (wCons (wC (.int 3)) wNil)))) wNil))) (wCall 2 [true, false] phi_l_next (wCons (wVar 0) (wCons (wC (.int 2)) wNil)))))
def W_l_sign_0 : WS := wSeq (wSet (wC (.str (Str.ofString " !\"#$&'()*+,-./0123456789:;<=>?@ABCDEFGHIJKLMNOPQRSTUVWXYZ[\\]^_`abcdefghijklmnopqrstuvwxyz{|}~\n"))) 1) W_l_sign_1
def W_l_sign : WS := W_l_sign_0

def phi_l_sign : FS := fun ts Q => ∃ p ds C, ts = [.lst p ds] ∧ DeckOk C ds ∧ C ≤ 2 ^ 39 ∧ ∀ c ds', c < 128 → DeckOk (C + 3) ds' → Q (.fz (.str ⟨#[c]⟩)) [.lst p ds']
theorem at_sign {s : Str} {n : Int} (h0 : 0 ≤ n) (h1 : n < s.length) (hs : (cs s).all (fun c => decide (c < 128)) = true) : ∃ c, atI s.cps.toList n = some c ∧ c < 128 := by
  have hl : n.toNat < (cs s).length := by
    rw [cs_len]
    omega
  obtain ⟨k, rfl⟩ : ∃ k : Nat, n = k := ⟨n.toNat, by omega⟩
  have hl2 : k < (cs s).length := by omega
  exact ⟨(cs s)[k], atI_nat (List.getElem?_eq_getElem hl2), of_decide_eq_true (List.all_eq_true.mp hs _ (List.getElem_mem hl2))⟩
theorem v_l_sign (ts : List OT) (Q : OT → List OT → Prop) (h : phi_l_sign ts Q) : W_l_sign (endsF 2 ts Q) (startR 2 ts) := by
  have hsz : sizeLine = 16777216 := sizeLine_eq
  obtain ⟨p, ds, C, rfl, hd, hC, h1⟩ := h
  show W_l_sign _ [some (.lst p ds), none]
  conv => whnf
  refine ⟨by decide +kernel, ?_⟩
  conv => whnf
  refine ⟨p, ds, C, _, rfl, hd, by omega, by decide +kernel, fun n ds1 hn0 hn1 hd1 => ?_⟩
  conv => whnf
  obtain ⟨c1, e1, k1⟩ := at_sign hn0 hn1 (by decide +kernel)
  refine ⟨by decide +kernel, ?_⟩
  rw [e1]
  conv => whnf
  refine ⟨p, ds1, C + 1, _, rfl, hd1, by omega, by decide +kernel, fun n2 ds2 hm0 hm1 hd2 => ?_⟩
  obtain ⟨c2, e2, k2⟩ := at_sign (s := Str.ofString ".#\n") hm0 (Int.lt_of_lt_of_le hm1 (by decide +kernel)) (by decide +kernel)
  conv => whnf
  refine ⟨by decide +kernel, ?_⟩
  rw [e2]
  conv => whnf
  intro q
  conv => whnf
  refine ⟨p, ds2, C + 1 + 1, _, rfl, hd2, by omega, by decide +kernel, fun n3 ds3 hp0 hp1 hd3 => ?_⟩
  conv => whnf
  rcases (show n3 = ((0 : Nat) : Int) ∨ n3 = ((1 : Nat) : Int) by omega) with rfl | rfl
  · rw [show atI [PyData.str { cps := #[c1] }, PyData.str { cps := #[c2] }] ((0 : Nat) : Int) = some (.str ⟨#[c1]⟩) from atI_nat rfl]
    conv => whnf
    exact ⟨rfl, h1 c1 ds3 k1 (deck_mono hd3 (by omega))⟩
  · rw [show atI [PyData.str { cps := #[c1] }, PyData.str { cps := #[c2] }] ((1 : Nat) : Int) = some (.str ⟨#[c2]⟩) from atI_nat rfl]
    conv => whnf
    exact ⟨rfl, h1 c2 ds3 k2 (deck_mono hd3 (by omega))⟩
theorem cut_sub (z : Str) (lo hi : Option Int) : (∀ c ∈ cs (cutS z lo hi), c ∈ cs z) ∧ (cutS z lo hi).length ≤ z.length := by
  have e : cs (cutS z lo hi) = ((cs z).drop (HT.sIx z.length 0 lo)).take (HT.sIx z.length z.length hi - HT.sIx z.length 0 lo) := by
    unfold cutS
    rfl
  refine ⟨fun c hc => ?_, ?_⟩
  · rw [e] at hc
    exact List.mem_of_mem_drop (List.mem_of_mem_take hc)
  · rw [← cs_len, e, ← cs_len, List.length_take, List.length_drop]
    omega
theorem pln_cut {z : Str} (h : Pln z) (lo hi : Option Int) : Pln (cutS z lo hi) := fun c hc => h c ((cut_sub z lo hi).1 c hc)
theorem pln_app {x y : Str} (h1 : Pln x) (h2 : Pln y) : Pln (x ++ y) := fun c hc => by
  rw [cs_app2] at hc
  rcases List.mem_append.mp hc with hc | hc
  · exact h1 c hc
  · exact h2 c hc
theorem pln_sg {c : Nat} (h : c < 128) : Pln (⟨#[c]⟩ : Str) := fun d hd => by
  have : d ∈ [c] := hd
  rw [List.mem_singleton] at this
  omega
def tw (ws : List Str) : Nat := (ws.map fun w => w.length + 1).sum
theorem tw_app (a b : List Str) : tw (a ++ b) = tw a + tw b := by
  unfold tw
  rw [List.map_append, List.sum_append_nat]
theorem tw_join : ∀ ws : List Str, (Str.join nl ws).length ≤ tw ws ∧ (ws ≠ [] → (Str.join nl ws).length + 1 = tw ws)
  | [] => ⟨Nat.zero_le _, fun h => absurd rfl h⟩
  | [w] => by
    have e : (Str.join nl [w]).length = w.length := rfl
    have t : tw [w] = w.length + 1 := rfl
    omega
  | w :: v :: ws => by
    obtain ⟨h1, h2⟩ := tw_join (v :: ws)
    have h2 := h2 (by simp)
    have e : (Str.join nl (w :: v :: ws)).length = w.length + 1 + (Str.join nl (v :: ws)).length := by
      rw [show Str.join nl (w :: v :: ws) = w ++ nl ++ Str.join nl (v :: ws) from rfl, len_app, len_app]
      rfl
    have t : tw (w :: v :: ws) = w.length + 1 + tw (v :: ws) := rfl
    omega
theorem tw_split (z : Str) : tw (splitN z) = z.length + 1 := by
  have h := (tw_join (splitN z)).2 (by
    intro e
    have := (splitN_len z).1
    rw [e] at this
    exact absurd this (by decide))
  unfold splitN at h ⊢
  rw [StrLaws.join_split] at h
  exact h.symm
theorem tw_joinOk {ws : List Str} (h : tw ws ≤ 1000000) : joinOk nl ws := by
  have e : tw ws = (ws.map (·.length)).sum + ws.length := by
    clear h
    unfold tw
    induction ws with
    | nil => rfl
    | cons w ws ih =>
      simp only [List.map_cons, List.sum_cons, List.length_cons]
      omega
  unfold joinOk
  show _ + ws.length * 1 ≤ _
  have hz : sizeLine = 16777216 := sizeLine_eq
  omega
theorem tw_len (ws : List Str) : ws.length ≤ tw ws := by
  unfold tw
  induction ws with
  | nil => exact Nat.zero_le _
  | cons w ws ih =>
    simp only [List.map_cons, List.sum_cons, List.length_cons]
    omega
theorem tw_mem {ws : List Str} {w : Str} (h : w ∈ ws) : w.length + 1 ≤ tw ws := by
  unfold tw
  induction ws with
  | nil => cases h
  | cons v ws ih =>
    simp only [List.map_cons, List.sum_cons]
    rcases List.mem_cons.mp h with rfl | h
    · omega
    · have := ih h
      omega
theorem pln_join {ws : List Str} (h : ∀ w ∈ ws, Pln w) : Pln (Txt.join nl ws) := by
  rw [TL.join_eq]
  induction ws with
  | nil => intro c hc; cases hc
  | cons w ws ih =>
    cases ws with
    | nil => exact h w (by simp)
    | cons v ws =>
      intro c hc
      rw [show Str.join nl (w :: v :: ws) = w ++ nl ++ Str.join nl (v :: ws) from rfl, cs_app2, cs_app2] at hc
      rcases List.mem_append.mp hc with hc | hc
      · rcases List.mem_append.mp hc with hc | hc
        · exact h w (by simp) c hc
        · have : c ∈ [10] := hc
          rw [List.mem_singleton] at this
          omega
      · exact ih (fun u hu => h u (List.mem_cons_of_mem _ hu)) c hc
def W_l_spoilt_b0_7 : WS := (wIfS (wTst (wOp2 (gI0 fun i j => .bool (decide (j < i))) (wVar 8) (wC (.int 2)))) (wSet (wJoin (wC (.str (Str.ofString "\n"))) (wVar 5)) 1) wNext)
def W_l_spoilt_b0_6 : WS := wSeq (wIfS (wTst (wOp2 (gI0 fun i j => .bool (decide (i < j))) (wVar 8) (wC (.int 3)))) (wSet (wIx (wLst (wCons (wOp2 gAdd (wOp2 gAdd (wSl (wVar 1) wNoPart (wPart (wVar 3))) (wVar 4)) (wSl (wVar 1) (wPart (wVar 3)) wNoPart)) (wCons (wOp2 gAdd (wOp2 gAdd (wSl (wVar 1) wNoPart (wPart (wVar 3))) (wVar 4)) (wSl (wVar 1) (wPart (wOp2 gAdd (wVar 3) (wC (.int 1)))) wNoPart)) (wCons (wOp2 gAdd (wSl (wVar 1) wNoPart (wPart (wVar 3))) (wSl (wVar 1) (wPart (wOp2 gAdd (wVar 3) (wC (.int 1)))) wNoPart)) wNil)))) (wVar 8)) 1) (wIfS (wTst (wOp2 gEq (wVar 8) (wC (.int 3)))) (wPopAt 5 (wVar 6)) (wIfS (wTst (wOp2 gEq (wVar 8) (wC (.int 4)))) (wInsert 5 (wVar 7) (wIx (wVar 5) (wVar 6))) (wIfS (wTst (wOp2 gEq (wVar 8) (wC (.int 5)))) (wInsert 5 (wVar 6) (wC (.str (Str.ofString "")))) (wSub 5 (wVar 6) (wOp2 gAdd (wIx (wVar 5) (wVar 6)) (wIx (wC (.str (Str.ofString ".#"))) (wCall 2 [true, false] phi_l_next (wCons (wVar 0) (wCons (wC (.int 2)) wNil)))))))))) W_l_spoilt_b0_7
def W_l_spoilt_b0_5 : WS := wSeq (wSet (wCall 2 [true, false] phi_l_next (wCons (wVar 0) (wCons (wC (.int 7)) wNil))) 8) W_l_spoilt_b0_6
def W_l_spoilt_b0_4 : WS := wSeq (wSet (wCall 2 [true, false] phi_l_next (wCons (wVar 0) (wCons (wCB gLen (wCons (wVar 5) wNil)) wNil))) 7) W_l_spoilt_b0_5
def W_l_spoilt_b0_3 : WS := wSeq (wSet (wCall 2 [true, false] phi_l_next (wCons (wVar 0) (wCons (wCB gLen (wCons (wVar 5) wNil)) wNil))) 6) W_l_spoilt_b0_4
def W_l_spoilt_b0_2 : WS := wSeq (wSet (wM_split (wVar 1) (wCons (wC (.str (Str.ofString "\n"))) wNil)) 5) W_l_spoilt_b0_3
def W_l_spoilt_b0_1 : WS := wSeq (wSet (wCall 1 [true] phi_l_sign (wCons (wVar 0) wNil)) 4) W_l_spoilt_b0_2
def W_l_spoilt_b0_0 : WS := wSeq (wSet (wIx (wLst (wCons (wCall 2 [true, false] phi_l_next (wCons (wVar 0) (wCons (wOp2 gAdd (wCB gLen (wCons (wVar 1) wNil)) (wC (.int 1))) wNil))) (wCons (wCB gMax (wCons (wC (.int 0)) (wCons (wOp2 (gI0 fun i j => .int (i - j)) (wCB gLen (wCons (wVar 1) wNil)) (wC (.int 1))) wNil))) (wCons (wC (.int 0)) wNil)))) (wCall 2 [true, false] phi_l_next (wCons (wVar 0) (wCons (wC (.int 3)) wNil)))) 3) W_l_spoilt_b0_1
def W_l_spoilt_1 : WS := (wRet (wVar 1))
def W_l_spoilt_0 : WS := wSeq (wFor (wRng1 (wCons (wOp2 gAdd (wC (.int 1)) (wCall 2 [true, false] phi_l_next (wCons (wVar 0) (wCons (wC (.int 3)) wNil)))) wNil)) (gvName 2) W_l_spoilt_b0_0) W_l_spoilt_1
def W_l_spoilt : WS := W_l_spoilt_0

abbrev SPK (p : Addr) (dk : List PyData) (z : Str) (x2 x3 x4 x5 x6 x7 x8 : Option OT) : Rho := [some (.lst p dk), some (.fz (.str z)), x2, x3, x4, x5, x6, x7, x8]
theorem v_sp_end (D : DEnds) (p : Addr) (dk : List PyData) (z : Str) (x2 x3 x4 x6 x7 : Option OT) (q5 : Addr) (ws : List Str) (way : Int) (h3 : 2 < way) (hw : ∀ w ∈ ws, Pln w) (ht : tw ws ≤ 100000)
    (h : ∀ z' x5, Pln z' → z'.length ≤ tw ws → z'.length + 1 ≤ tw ws + 1 → (z'.length + 1 ≤ tw ws ∨ z'.length = 0) → D.nx (SPK p dk z' x2 x3 x4 x5 x6 x7 (some (tI way)))) :
    W_l_spoilt_b0_7 D (SPK p dk z x2 x3 x4 (some (.lst q5 (strsD ws))) x6 x7 (some (tI way))) := by
  conv => whnf
  rw [decide_eq_true h3]
  conv => whnf
  rw [strsOf_sg]
  conv => whnf
  obtain ⟨j1, j2⟩ := tw_join ws
  refine ⟨tw_joinOk (by omega), h _ _ (pln_join hw) ?_ ?_ ?_⟩
  · show (Txt.join nl ws).length ≤ _
    rw [TL.join_eq]
    omega
  · show (Txt.join nl ws).length + 1 ≤ _
    rw [TL.join_eq]
    omega
  · show (Txt.join nl ws).length + 1 ≤ _ ∨ (Txt.join nl ws).length = 0
    rw [TL.join_eq]
    by_cases e : ws = []
    · subst e
      exact .inr rfl
    · have := j2 e
      exact .inl (by omega)
end Lw
namespace Lw
open PySem PySem.Spec PyProof.Rows L2 DL
theorem at_int3 {a b c n : Int} (h0 : 0 ≤ n) (h1 : n < 3) : ∃ d : Int, atI [PyData.int a, .int b, .int c] n = some (.int d) := by
  have : n = 0 ∨ n = 1 ∨ n = 2 := by omega
  rcases this with rfl | rfl | rfl
  · exact ⟨a, rfl⟩
  · exact ⟨b, rfl⟩
  · exact ⟨c, rfl⟩
theorem at_row {ws : List Str} {n : Int} (h0 : 0 ≤ n) (h1 : n < ws.length) : ∃ w, w ∈ ws ∧ ws[n.toNat]? = some w ∧ atI (strsD ws) n = some (.str w) := by
  obtain ⟨k, rfl⟩ : ∃ k : Nat, n = k := ⟨n.toNat, by omega⟩
  have hl : k < ws.length := by omega
  refine ⟨ws[k], List.getElem_mem hl, by rw [Int.toNat_natCast]; exact List.getElem?_eq_getElem hl, atI_nat ?_⟩
  rw [List.getElem?_map, List.getElem?_eq_getElem hl]
  rfl
theorem er_map {α β : Type} (f : α → β) : ∀ (l : List α) (n : Nat), (l.map f).eraseIdx n = (l.eraseIdx n).map f
  | [], _ => rfl
  | _ :: _, 0 => rfl
  | a :: l, n + 1 => by
    show f a :: (l.map f).eraseIdx n = f a :: (l.eraseIdx n).map f
    rw [er_map f l n]
theorem tw_take (ws : List Str) (n : Nat) : tw (ws.take n) + tw (ws.drop n) = tw ws := by
  rw [← tw_app, List.take_append_drop]
theorem tw_erase : ∀ (ws : List Str) (n : Nat), tw (ws.eraseIdx n) ≤ tw ws
  | [], _ => Nat.le_refl _
  | w :: ws, 0 => by
    have : tw (w :: ws) = w.length + 1 + tw ws := rfl
    show tw ws ≤ _
    omega
  | w :: ws, n + 1 => by
    have h1 : tw (w :: ws) = w.length + 1 + tw ws := rfl
    have h2 : tw ((w :: ws).eraseIdx (n + 1)) = w.length + 1 + tw (ws.eraseIdx n) := rfl
    have := tw_erase ws n
    omega
theorem tw_set : ∀ (ws : List Str) (n : Nat) (v : Str) (w : Str), ws[n]? = some w → tw (ws.set n v) + w.length = tw ws + v.length
  | [], n, _, _, h => by simp at h
  | a :: ws, 0, v, w, h => by
    simp at h
    subst h
    have h1 : tw (a :: ws) = a.length + 1 + tw ws := rfl
    have h2 : tw ((a :: ws).set 0 v) = v.length + 1 + tw ws := rfl
    omega
  | a :: ws, n + 1, v, w, h => by
    have h1 : tw (a :: ws) = a.length + 1 + tw ws := rfl
    have h2 : tw ((a :: ws).set (n + 1) v) = a.length + 1 + tw (ws.set n v) := rfl
    have := tw_set ws n v w (by simpa using h)
    omega
theorem v_sp_way (D : DEnds) (p : Addr) (dk : List PyData) (C : Int) (z : Str) (x2 : Option OT) (at_ one other way : Int) (c : Nat) (q5 : Addr) (hd : DeckOk C dk) (hC : C ≤ 2 ^ 39) (hz : Pln z) (hl : z.length ≤ 20000) (hc : c < 128) (hway : 0 ≤ way ∧ way < 7) (hone : 0 ≤ one ∧ one < (splitN z).length) (hoth : 0 ≤ other ∧ other < (splitN z).length)
    (h : ∀ dk' z' x5 x8, DeckOk (C + 1) dk' → Pln z' → z'.length + 1 ≤ 2 * (z.length + 1) → D.nx (SPK p dk' z' x2 (some (tI at_)) (some (.fz (.str ⟨#[c]⟩))) x5 (some (tI one)) (some (tI other)) x8)) :
    W_l_spoilt_b0_6 D (SPK p dk z x2 (some (tI at_)) (some (.fz (.str ⟨#[c]⟩))) (some (.lst q5 (strsD (splitN z)))) (some (tI one)) (some (tI other)) (some (tI way))) := by
  have hsz : sizeLine = 16777216 := sizeLine_eq
  have l1 := (cut_sub z none (some at_)).2
  have l2 := (cut_sub z (some at_) none).2
  have l3 := (cut_sub z (some (at_ + 1)) none).2
  have p1 := pln_cut hz none (some at_)
  have p2 := pln_cut hz (some at_) none
  have p3 := pln_cut hz (some (at_ + 1)) none
  have lc : (⟨#[c]⟩ : Str).length = 1 := rfl
  have hsl := splitN_len z
  have hln : (strsD (splitN z)).length = (splitN z).length := List.length_map ..
  have htw := tw_split z
  have hpw : ∀ w ∈ splitN z, Pln w := fun w hw c hc => hz c ((row_of hw).2 c hc)
  have mono := deck_mono hd (show C ≤ C + 1 by omega)
  have fin : ∀ (dk' : List PyData) (q : Addr) (ws : List Str), 2 < way → DeckOk (C + 1) dk' → (∀ w ∈ ws, Pln w) → tw ws ≤ 2 * (z.length + 1) → W_l_spoilt_b0_7 D (SPK p dk' z x2 (some (tI at_)) (some (.fz (.str ⟨#[c]⟩))) (some (.lst q (strsD ws))) (some (tI one)) (some (tI other)) (some (tI way))) := by
    intro dk' q ws hw2 hd' hws ht
    refine v_sp_end D p dk' z x2 _ _ _ _ q ws way hw2 hws (by omega) fun z' x5 hz' _ _ hl' => h dk' z' x5 _ hd' hz' ?_
    rcases hl' with e | e <;> omega
  have skip : ∀ z' : Str, way < 3 → Pln z' → z'.length + 1 ≤ 2 * (z.length + 1) → W_l_spoilt_b0_7 D (SPK p dk z' x2 (some (tI at_)) (some (.fz (.str ⟨#[c]⟩))) (some (.lst q5 (strsD (splitN z)))) (some (tI one)) (some (tI other)) (some (tI way))) := by
    intro z' hw3 hz' hl'
    conv => whnf
    rw [decide_eq_false (show ¬ (2 : Int) < way by omega)]
    exact h dk z' _ _ mono hz' hl'
  conv => whnf
  refine bmd (fun h3 => ?_) (fun h3 => ?_)
  · conv => whnf
    refine ⟨by omega, ?_⟩
    conv => whnf
    refine ⟨by omega, ?_⟩
    conv => whnf
    refine ⟨by omega, ?_⟩
    conv => whnf
    refine ⟨by rw [len_app]; omega, ?_⟩
    conv => whnf
    refine ⟨by omega, ?_⟩
    conv => whnf
    refine ⟨by omega, ?_⟩
    conv => whnf
    refine ⟨by omega, ?_⟩
    conv => whnf
    refine ⟨by rw [len_app]; omega, ?_⟩
    conv => whnf
    refine ⟨by omega, ?_⟩
    conv => whnf
    refine ⟨by omega, ?_⟩
    conv => whnf
    refine ⟨by omega, ?_⟩
    conv => whnf
    intro q
    conv => whnf
    have lsum := (cut_sub z none (some at_)).2
    have h0 : way = ((0 : Nat) : Int) ∨ way = ((1 : Nat) : Int) ∨ way = ((2 : Nat) : Int) := by omega
    rcases h0 with rfl | rfl | rfl
    · rw [atI_nat (j := 0) rfl]
      exact skip _ h3 (pln_app (pln_app p1 (pln_sg hc)) p2) (by rw [len_app, len_app]; omega)
    · rw [atI_nat (j := 1) rfl]
      exact skip _ h3 (pln_app (pln_app p1 (pln_sg hc)) p3) (by rw [len_app, len_app]; omega)
    · rw [atI_nat (j := 2) rfl]
      exact skip _ h3 (pln_app p1 p3) (by rw [len_app]; omega)
  · obtain ⟨w1, hw1, ew1, ea1⟩ := at_row hone.1 hone.2
    have hw1l := tw_mem hw1
    conv => whnf
    refine bmd (fun h3' => ?_) (fun h3' => ?_)
    · conv => whnf
      refine ⟨hone.1, by rw [hln]; exact hone.2, by rw [hln]; omega, ?_⟩
      have e : (strsD (splitN z)).eraseIdx one.toNat = strsD ((splitN z).eraseIdx one.toNat) := by unfold strsD; rw [er_map]
      rw [e]
      exact fin dk q5 _ (by omega) mono (fun w hw => hpw w (List.mem_of_mem_eraseIdx hw)) (by have := tw_erase (splitN z) one.toNat; omega)
    · conv => whnf
      refine bmd (fun h4 => ?_) (fun h4 => ?_)
      · conv => whnf
        rw [ea1]
        conv => whnf
        refine ⟨hoth.1, by omega, by rw [hln]; omega, ?_⟩
        have e : (strsD (splitN z)).take other.toNat ++ [.str w1] ++ (strsD (splitN z)).drop other.toNat = strsD ((splitN z).take other.toNat ++ [w1] ++ (splitN z).drop other.toNat) := by
          unfold strsD
          rw [List.map_append, List.map_append, List.map_take, List.map_drop]
          rfl
        rw [e]
        refine fin dk q5 _ (by omega) mono (fun w hw => ?_) ?_
        · rcases List.mem_append.mp hw with hw | hw
          · rcases List.mem_append.mp hw with hw | hw
            · exact hpw w (List.mem_of_mem_take hw)
            · rw [List.mem_singleton] at hw
              subst hw
              exact hpw w hw1
          · exact hpw w (List.mem_of_mem_drop hw)
        · have := tw_take (splitN z) other.toNat
          rw [tw_app, tw_app]
          have t1 : tw [w1] = w1.length + 1 := rfl
          omega
      · conv => whnf
        refine bmd (fun h5 => ?_) (fun h5 => ?_)
        · conv => whnf
          refine ⟨hone.1, by omega, by rw [hln]; omega, ?_⟩
          have e : (strsD (splitN z)).take one.toNat ++ [.str (Str.ofString "")] ++ (strsD (splitN z)).drop one.toNat = strsD ((splitN z).take one.toNat ++ [Str.ofString ""] ++ (splitN z).drop one.toNat) := by
            unfold strsD
            rw [List.map_append, List.map_append, List.map_take, List.map_drop]
            rfl
          rw [e]
          refine fin dk q5 _ (by omega) mono (fun w hw => ?_) ?_
          · rcases List.mem_append.mp hw with hw | hw
            · rcases List.mem_append.mp hw with hw | hw
              · exact hpw w (List.mem_of_mem_take hw)
              · rw [List.mem_singleton] at hw
                subst hw
                intro c hc
                cases hc
            · exact hpw w (List.mem_of_mem_drop hw)
          · have := tw_take (splitN z) one.toNat
            rw [tw_app, tw_app]
            have t1 : tw [Str.ofString ""] = 1 := rfl
            omega
        · conv => whnf
          rw [ea1]
          conv => whnf
          refine ⟨p, dk, C, 2, rfl, hd, by omega, ⟨by decide, by decide⟩, fun n d1 n0 n1 hd1 => ?_⟩
          obtain ⟨c2, e2, k2⟩ := at_sign (s := Str.ofString ".#") n0 n1 (by decide +kernel)
          conv => whnf
          refine ⟨by decide +kernel, ?_⟩
          rw [e2]
          conv => whnf
          refine ⟨by show w1.length + 1 ≤ sizeLine; omega, ?_⟩
          have hix : ixN (strsD (splitN z)).length one = some one.toNat := by
            unfold ixN
            rw [if_pos hone.1, if_pos (by rw [hln]; exact hone.2)]
          conv => whnf
          rw [hix]
          have e : (strsD (splitN z)).set one.toNat (.str (w1 ++ ⟨#[c2]⟩)) = strsD ((splitN z).set one.toNat (w1 ++ ⟨#[c2]⟩)) := List.map_set.symm
          conv => whnf
          have key := fin d1 q5 ((splitN z).set one.toNat (w1 ++ ⟨#[c2]⟩)) (by omega) hd1 (fun w hw => by
            rcases List.mem_or_eq_of_mem_set hw with hw | rfl
            · exact hpw w hw
            · exact pln_app (hpw w1 hw1) (pln_sg k2)) (by
            have := tw_set (splitN z) one.toNat (w1 ++ ⟨#[c2]⟩) w1 ew1
            rw [len_app] at this
            have lc2 : (⟨#[c2]⟩ : Str).length = 1 := rfl
            omega)
          rw [← e] at key
          exact key
end Lw
namespace Lw
open PySem PySem.Spec PyProof.Rows L2 DL
def SpI (p : Addr) (C : Int) (z : Str) (i : Nat) (ρ : Rho) : Prop := ∃ dk z' x2 x3 x4 x5 x6 x7 x8, ρ = SPK p dk z' x2 x3 x4 x5 x6 x7 x8 ∧ DeckOk (C + 1 + 12 * i) dk ∧ Pln z' ∧ z'.length + 1 ≤ 601 * 2 ^ i
theorem v_sp_turn (D : DEnds) (p : Addr) (dk : List PyData) (z : Str) (C : Int) (x2 x3 x4 x5 x6 x7 x8 : Option OT) (hd : DeckOk C dk) (hC : C ≤ 2 ^ 38) (hz : Pln z) (hl : z.length ≤ 9000)
    (h : ∀ dk' z' x3 x4 x5 x6 x7 x8, DeckOk (C + 12) dk' → Pln z' → z'.length + 1 ≤ 2 * (z.length + 1) → D.nx (SPK p dk' z' x2 x3 x4 x5 x6 x7 x8)) :
    W_l_spoilt_b0_0 D (SPK p dk z x2 x3 x4 x5 x6 x7 x8) := by
  have hsz : sizeLine = 16777216 := sizeLine_eq
  have hsl := splitN_len z
  have hsp : 1 ≤ (splitN z).length := (fact_split z nl).1
  have hln : (strsD (splitN z)).length = (splitN z).length := List.length_map ..
  conv => whnf
  refine ⟨by omega, ?_⟩
  conv => whnf
  refine ⟨p, dk, C, (z.length : Int) + 1, rfl, hd, by omega, ⟨by omega, by omega⟩, fun n1 d1 n10 n11 hd1 => ?_⟩
  conv => whnf
  refine ⟨by omega, ?_⟩
  conv => whnf
  intro q
  conv => whnf
  refine ⟨p, d1, C + 1, 3, rfl, hd1, by omega, ⟨by decide, by decide⟩, fun n2 d2 n20 n21 hd2 => ?_⟩
  conv => whnf
  obtain ⟨at_, eat⟩ := at_int3 (a := n1) (b := if (z.length : Int) - 1 > 0 then (z.length : Int) - 1 else 0) (c := 0) n20 n21
  rw [eat]
  show W_l_spoilt_b0_1 D (SPK p d2 z x2 (some (tI at_)) x4 x5 x6 x7 x8)
  conv => whnf
  refine ⟨p, d2, C + 1 + 1, rfl, hd2, by omega, fun c d3 hc hd3 => ?_⟩
  show W_l_spoilt_b0_2 D (SPK p d3 z x2 (some (tI at_)) (some (.fz (.str ⟨#[c]⟩))) x5 x6 x7 x8)
  conv => whnf
  refine ⟨⟨rfl, by omega⟩, fun q5 => ?_⟩
  show W_l_spoilt_b0_3 D (SPK p d3 z x2 (some (tI at_)) (some (.fz (.str ⟨#[c]⟩))) (some (.lst q5 (strsD (splitN z)))) x6 x7 x8)
  conv => whnf
  rw [hln]
  refine ⟨p, d3, C + 1 + 1 + 3, (splitN z).length, rfl, hd3, by omega, ⟨by omega, by omega⟩, fun n4 d4 n40 n41 hd4 => ?_⟩
  show W_l_spoilt_b0_4 D (SPK p d4 z x2 (some (tI at_)) (some (.fz (.str ⟨#[c]⟩))) (some (.lst q5 (strsD (splitN z)))) (some (tI n4)) x7 x8)
  conv => whnf
  rw [hln]
  refine ⟨p, d4, C + 1 + 1 + 3 + 1, (splitN z).length, rfl, hd4, by omega, ⟨by omega, by omega⟩, fun n5 d5 n50 n51 hd5 => ?_⟩
  show W_l_spoilt_b0_5 D (SPK p d5 z x2 (some (tI at_)) (some (.fz (.str ⟨#[c]⟩))) (some (.lst q5 (strsD (splitN z)))) (some (tI n4)) (some (tI n5)) x8)
  conv => whnf
  refine ⟨p, d5, C + 1 + 1 + 3 + 1 + 1, 7, rfl, hd5, by omega, ⟨by decide, by decide⟩, fun way d6 wa0 wa1 hd6 => ?_⟩
  show W_l_spoilt_b0_6 D (SPK p d6 z x2 (some (tI at_)) (some (.fz (.str ⟨#[c]⟩))) (some (.lst q5 (strsD (splitN z)))) (some (tI n4)) (some (tI n5)) (some (tI way)))
  exact v_sp_way D p d6 (C + 1 + 1 + 3 + 1 + 1 + 1) z x2 at_ n4 n5 way c q5 hd6 (by omega) hz (by omega) hc ⟨wa0, wa1⟩ ⟨n40, n41⟩ ⟨n50, n51⟩ fun dk' z' x5 x8 h1 h2 h3 => h dk' z' _ _ _ _ _ _ (deck_mono h1 (by omega)) h2 h3
def phi_l_spoilt : FS := fun ts Q => ∃ p ds C z, ts = [.lst p ds, .fz (.str z)] ∧ DeckOk C ds ∧ C ≤ 2 ^ 37 ∧ Pln z ∧ z.length ≤ 600 ∧ ∀ z' ds', Pln z' → z'.length ≤ 5000 → DeckOk (C + 100) ds' → Q (.fz (.str z')) [.lst p ds', .fz (.str z)]
theorem v_l_spoilt (ts : List OT) (Q : OT → List OT → Prop) (h : phi_l_spoilt ts Q) : W_l_spoilt (endsF 9 ts Q) (startR 9 ts) := by
  have hsz : sizeLine = 16777216 := sizeLine_eq
  obtain ⟨p, ds, C, z, rfl, hd, hC, hz, hl, h⟩ := h
  show W_l_spoilt _ (SPK p ds z none none none none none none none)
  conv => whnf
  refine ⟨p, ds, C, 3, rfl, hd, by omega, ⟨by decide, by decide⟩, fun n1 d1 n10 n11 hd1 => ?_⟩
  conv => whnf
  refine ⟨⟨by omega, by omega⟩, SpI p C z, ⟨d1, z, _, _, _, _, _, _, _, rfl, deck_mono hd1 (by omega), hz, by omega⟩, ?_, ?_⟩
  · rintro i x ρ hx ⟨dk, z', x2, x3, x4, x5, x6, x7, x8, rfl, hdk, hz', hzl⟩
    obtain ⟨rfl, hi⟩ := rng_get hx
    have hi3 : i = 0 ∨ i = 1 ∨ i = 2 := by omega
    have hb : 601 * 2 ^ i ≤ 2404 := by rcases hi3 with rfl | rfl | rfl <;> decide
    conv => whnf
    refine v_sp_turn _ p dk z' (C + 1 + 12 * i) _ x3 x4 x5 x6 x7 x8 hdk (by omega) hz' (by omega) fun dk' z'' x3 x4 x5 x6 x7 x8 h1 h2 h3 => ?_
    exact ⟨dk', z'', _, _, _, _, _, _, _, rfl, deck_mono h1 (by omega), h2, by rw [Nat.pow_succ]; omega⟩
  · rintro ρ ⟨dk, z', x2, x3, x4, x5, x6, x7, x8, rfl, hdk, hz', hzl⟩
    rw [rng_len] at hdk hzl
    have hi3 : (1 + n1).toNat = 1 ∨ (1 + n1).toNat = 2 ∨ (1 + n1).toNat = 3 := by omega
    have hb : 601 * 2 ^ (1 + n1).toNat ≤ 4808 := by rcases hi3 with e | e | e <;> rw [e] <;> decide
    conv => whnf
    exact ⟨rfl, h _ dk hz' (by omega) (deck_mono hdk (by omega))⟩
end Lw
namespace Lw
open PySem PySem.Spec PyProof.Rows L2 DL
def phi_law : FS := fun ts Q => ∃ ns : List Int, ts = [.fz (.list (ns.map .int))] ∧ ns.length ≤ 63 ∧ Q (.fz (.bool true)) ts
def W_law_b0_3 : WS := (wIfS (wTst (wOp2 gNe (wLc [6] (wIterA (wCat (wVar 4) (wLst (wCons (wCall 1 [true] phi_l_sign (wCons (wVar 1) wNil)) wNil)))) (gvName 6) (wNot (wTst (wCall 1 [false] phi_l_right (wCons (wVar 6) wNil)))) (wVar 6)) (wLst wNil))) (wRet (wC (.bool false))) wNext)
def W_law_b0_2 : WS := wSeq (wSet (wCat (wVar 4) (wLst (wCons (wOp2 gAdd (wVar 3) (wC (.str (Str.ofString "\n")))) (wCons (wOp2 gAdd (wC (.str (Str.ofString "\n"))) (wVar 3)) (wCons (wOp2 gAdd (wC (.str (Str.ofString " "))) (wVar 3)) (wCons (wOp2 gAdd (wVar 3) (wC (.str (Str.ofString ".")))) (wCons (wOp2 gAdd (wOp2 gAdd (wVar 3) (wC (.str (Str.ofString "\n")))) (wSl (wVar 3) wNoPart (wPart (wC (.int 1))))) (wCons (wVar 3) wNil)))))))) 4) W_law_b0_3
def W_law_b0_1 : WS := wSeq (wSet (wLc [5] (wRng1 (wCons (wC (.int 6)) wNil)) (gvName 5) wYes (wCall 2 [true, false] phi_l_spoilt (wCons (wVar 1) (wCons (wVar 3) wNil)))) 4) W_law_b0_2
def W_law_b0_0 : WS := wSeq (wSet (wJoin (wC (.str (Str.ofString "\n"))) (wCall 2 [true, false] phi_l_grid (wCons (wVar 1) (wCons (wC (.int 12)) wNil)))) 3) W_law_b0_1
def W_law_5 : WS := (wRet (wOp2 gEq (wLc [3] (wIterA (wLst (wCons (wC (.str (Str.ofString ""))) (wCons (wC (.str (Str.ofString "\n"))) (wCons (wC (.str (Str.ofString "..\n."))) (wCons (wC (.str (Str.ofString ".\n.."))) (wCons (wC (.str (Str.ofString "./#"))) (wCons (wC (.str (Str.ofString ".\n\n."))) (wCons (wOp2 gMulS (wC (.str (Str.ofString "~"))) (wC (.int 400))) wNil))))))))) (gvName 3) (wNot (wTst (wCall 1 [false] phi_l_right (wCons (wVar 3) wNil)))) (wVar 3)) (wLst wNil)))
def W_law_4 : WS := wSeq (wIfS (wOr (wTst (wOp2 gNe (wCall 1 [false] phi_l_kind (wCons (wMkK "NoRuns" "place" okN (wC (.int 4))) wNil)) (wTup (wCons (wC (.str (Str.ofString "runs"))) (wCons (wC (.int 4)) wNil))))) (wTst (wOp2 gNe (wCall 1 [false] phi_l_kind (wCons (wMkK "NoPlace" "place" okP (wTup (wCons (wC (.int 3)) (wCons (wNeg (wC (.int 1))) wNil)))) wNil)) (wTup (wCons (wC (.str (Str.ofString "place"))) (wCons (wTup (wCons (wC (.int 3)) (wCons (wNeg (wC (.int 1))) wNil))) wNil)))))) (wRet (wC (.bool false))) wNext) W_law_5
def W_law_3 : WS := wSeq (wIfS (wOr (wTst (wOp2 gNe (wLst (wCons (wStrX (wVar 7)) (wCons (wStrX (wVar 7)) wNil))) (wRep (wLst (wCons (wVar 7) wNil)) (wC (.int 2))))) (wTst (wOp2 gNe (wCall 1 [false] phi_l_kind (wCons (wMkK "NoGrid" "row" okN (wC (.int 5))) wNil)) (wTup (wCons (wC (.str (Str.ofString "grid"))) (wCons (wC (.int 5)) wNil)))))) (wRet (wC (.bool false))) wNext) W_law_4
def W_law_2 : WS := wSeq (wSet (wIx (wLst (wCons (wC (.str (Str.ofString " No such: 7"))) (wCons (wC (.str (Str.ofString ""))) (wCons (wC (.str (Str.ofString "a  B"))) (wCons (wOp2 gAdd (wOp2 gMulS (wC (.str (Str.ofString "x"))) (wC (.int 60))) (wC (.str (Str.ofString "\n")))) wNil))))) (wCall 2 [true, false] phi_l_next (wCons (wVar 1) (wCons (wC (.int 4)) wNil)))) 7) W_law_3
def W_law_1 : WS := wSeq (wFor (wRng1 (wCons (wC (.int 6)) wNil)) (gvName 2) W_law_b0_0) W_law_2
def W_law_0 : WS := wSeq (wSet (wCall 1 [false] phi_l_deck (wCons (wVar 0) wNil)) 1) W_law_1
def W_law : WS := W_law_0

/-- texts, none longer, all plain -/
def WsOk (B : Nat) (ds : List PyData) : Prop := ∀ d ∈ ds, ∃ w : Str, d = .str w ∧ Pln w ∧ w.length ≤ B
theorem ws_app {B : Nat} {ds es : List PyData} (h1 : WsOk B ds) (h2 : WsOk B es) : WsOk B (ds ++ es) := fun d hd => by
  rcases List.mem_append.mp hd with hd | hd
  · exact h1 d hd
  · exact h2 d hd
theorem ws_cons {B : Nat} {w : Str} {ds : List PyData} (h : Pln w) (hl : w.length ≤ B) (h2 : WsOk B ds) : WsOk B (.str w :: ds) := fun d hd => by
  rcases List.mem_cons.mp hd with rfl | hd
  · exact ⟨w, rfl, h, hl⟩
  · exact h2 d hd
theorem ws_nil {B : Nat} : WsOk B [] := fun d hd => by cases hd
theorem pln_grid {rs : List Str} (hg : GridOk rs) : ∀ w ∈ rs, Pln w := by
  obtain ⟨R, C, ⟨_, h⟩, _⟩ := hg
  intro w hw c hc
  rcases (h w hw).2 c hc with rfl | rfl <;> decide
theorem join_len {rs : List Str} (h : GridOk rs) : joinOk nl rs ∧ (Txt.join nl rs).length ≤ 300 := by
  obtain ⟨R, C, ⟨h1, h2⟩, hR, hR2, hC, hC2⟩ := h
  have hs : ∀ rs : List Str, (∀ r ∈ rs, r.length = C) → (rs.map (·.length)).sum ≤ 12 * rs.length := by
    intro rs
    induction rs with
    | nil => intro _; simp
    | cons r rs ih =>
      intro h
      have := ih fun r hr => h r (List.mem_cons_of_mem _ hr)
      have := h r (by simp)
      simp only [List.map_cons, List.sum_cons, List.length_cons]
      omega
  have h3 := hs rs fun r hr => (h2 r hr).1
  have h4 : nl.length = 1 := rfl
  have h5 : rs.length * nl.length = rs.length := by rw [h4]; omega
  refine ⟨?_, ?_⟩
  · unfold joinOk
    rw [h5]
    omega
  · have := StrLaws.join_length_le nl rs
    rw [TL.join_eq]
    rw [h5] at this
    omega
theorem v_law_b0 (D : DEnds) (sc : OT) (p : Addr) (dk : List PyData) (x2 x3 x4 : Option OT) (B : Int)
    (hd : DeckOk B dk) (hB : B ≤ 2 ^ 35)
    (hD : ∀ dk' z x4, DeckOk (B + 2000) dk' → D.nx [some sc, some (.lst p dk'), x2, some (.fz (.str z)), x4, none, none, none]) :
    W_law_b0_0 D [some sc, some (.lst p dk), x2, x3, x4, none, none, none] := by
  have hsz : sizeLine = 16777216 := sizeLine_eq
  conv => whnf
  refine ⟨p, dk, B, 12, rfl, hd, by omega, ⟨by decide, by decide⟩, fun rs d1 hg hd1 => ?_⟩
  conv => whnf
  rw [strsOf_sg]
  conv => whnf
  obtain ⟨hj1, hj2⟩ := join_len hg
  refine ⟨hj1, ?_⟩
  obtain ⟨z, ez, hz, hzl⟩ : ∃ z, Txt.join nl rs = z ∧ Pln z ∧ z.length ≤ 600 := ⟨_, rfl, pln_join (pln_grid hg), by omega⟩
  rw [show Txt.join (Str.ofString "\n") rs = z from ez]
  show W_law_b0_1 D [some sc, some (.lst p d1), x2, some (.fz (.str z)), x4, none, none, none]
  conv => whnf
  refine ⟨⟨by decide, by decide⟩, ⟨trivial, trivial⟩, fun i ds ρ => ∃ dk x, ρ = [some sc, some (.lst p dk), x2, some (.fz (.str z)), x4, x, none, none] ∧ DeckOk (B + 1000 + 100 * i) dk ∧ WsOk 5000 ds ∧ ds.length = i ∧ isF x, ⟨d1, none, rfl, deck_mono hd1 (by omega), ws_nil, rfl, isF_n⟩, ?_, ?_⟩
  · rintro i x ds ρ hx ⟨dk', x5, rfl, hdk, hds, hdl, h5⟩
    obtain ⟨rfl, hi⟩ := rng_get hx
    have hi : i < 6 := hi
    conv => whnf
    refine ⟨p, dk', B + 1000 + 100 * i, z, rfl, hdk, by omega, hz, by omega, fun z' ds' hz1 hz2 hd' => ?_⟩
    conv => whnf
    refine ⟨by omega, ds', some (tI (0 + i)), rfl, deck_mono hd' (by omega), ws_app hds (ws_cons hz1 (by omega) ws_nil), by rw [List.length_append, hdl]; rfl, isF_s⟩
  · rintro ds ρ ⟨dk', x5, rfl, hdk, hds, hdl, h5⟩ q4
    rw [rng_len] at hdk hdl
    have hdl : ds.length = 6 := hdl
    show W_law_b0_2 D [some sc, some (.lst p dk'), x2, some (.fz (.str z)), some (.lst q4 ds), none, none, none]
    have pn : Pln (Str.ofString "\n") := by unfold Pln; decide
    have pb : Pln (Str.ofString " ") := by unfold Pln; decide
    have pd : Pln (Str.ofString ".") := by unfold Pln; decide
    have ln : (Str.ofString "\n").length = 1 := rfl
    have lb : (Str.ofString " ").length = 1 := rfl
    have ld : (Str.ofString ".").length = 1 := rfl
    have lcu := (cut_sub z none (some 1)).2
    conv => whnf
    refine ⟨by omega, ?_⟩
    conv => whnf
    refine ⟨by omega, ?_⟩
    conv => whnf
    refine ⟨by omega, ?_⟩
    conv => whnf
    refine ⟨by omega, ?_⟩
    conv => whnf
    refine ⟨by omega, ?_⟩
    conv => whnf
    refine ⟨by omega, ?_⟩
    conv => whnf
    refine ⟨by rw [len_app]; omega, ?_⟩
    conv => whnf
    intro q5
    conv => whnf
    have pcu := pln_cut hz none (some 1)
    have h6 : WsOk 5000 [.str (z ++ Str.ofString "\n"), .str (Str.ofString "\n" ++ z), .str (Str.ofString " " ++ z), .str (z ++ Str.ofString "."), .str (z ++ Str.ofString "\n" ++ cutS z none (some 1)), .str z] := by
      refine ws_cons (pln_app hz pn) ?_ (ws_cons (pln_app pn hz) ?_ (ws_cons (pln_app pb hz) ?_ (ws_cons (pln_app hz pd) ?_ (ws_cons (pln_app (pln_app hz pn) pcu) ?_ (ws_cons hz (by omega) ws_nil)))))
      · rw [len_app]; omega
      · rw [len_app]; omega
      · rw [len_app]; omega
      · rw [len_app]; omega
      · rw [len_app, len_app]; omega
    obtain ⟨six, e6, h6, l6⟩ : ∃ six : List PyData, [.str (z ++ Str.ofString "\n"), .str (Str.ofString "\n" ++ z), .str (Str.ofString " " ++ z), .str (z ++ Str.ofString "."), .str (z ++ Str.ofString "\n" ++ cutS z none (some 1)), .str z] = six ∧ WsOk 5000 six ∧ six.length = 6 := ⟨_, rfl, h6, rfl⟩
    rw [e6]
    refine ⟨by omega, fun q6 => ?_⟩
    have hall := ws_app hds h6
    obtain ⟨all, eall, hall, lall⟩ : ∃ all, ds ++ six = all ∧ WsOk 5000 all ∧ all.length = 12 := ⟨_, rfl, hall, by rw [List.length_append, l6, hdl]⟩
    rw [eall]
    show W_law_b0_3 D [some sc, some (.lst p dk'), x2, some (.fz (.str z)), some (.lst q6 all), none, none, none]
    conv => whnf
    refine ⟨p, dk', B + 1000 + 100 * ((6 : Nat) : Int), rfl, hdk, by omega, fun c d7 hc hd7 => ?_⟩
    conv => whnf
    intro q7
    conv => whnf
    refine ⟨by rw [lall]; show 12 + 1 ≤ _; omega, fun q8 => ?_⟩
    have hall := ws_app hall (ws_cons (B := 5000) (pln_sg hc) (by show 1 ≤ 5000; omega) ws_nil)
    obtain ⟨al2, eal2, hall⟩ : ∃ al2, all ++ [PyData.str { cps := #[c] }] = al2 ∧ WsOk 5000 al2 := ⟨_, rfl, hall⟩
    rw [eal2]
    conv => whnf
    refine ⟨⟨trivial, trivial⟩, fun i ds ρ => ∃ x, ds = [] ∧ ρ = [some sc, some (.lst p d7), x2, some (.fz (.str z)), some (.lst q6 all), none, x, none] ∧ isF x, ⟨none, rfl, rfl, isF_n⟩, ?_, ?_⟩
    · rintro i x ds ρ hx ⟨x12, rfl, rfl, h12⟩
      obtain ⟨w, rfl, hw1, hw2⟩ := hall x (List.mem_of_getElem? hx)
      conv => whnf
      refine ⟨w, rfl, by omega, hw1, ?_⟩
      exact ⟨_, rfl, rfl, isF_s⟩
    · rintro ds ρ ⟨x12, rfl, rfl, h12⟩ q10
      conv => whnf
      intro q11
      conv => whnf
      refine ⟨rfl, rfl, ?_⟩
      rw [eqv_nilL]
      exact hD d7 z _ (deck_mono hd7 (by omega))
theorem sh_place (a b : Int) : SeqAt.shaped (.tuple [.str (Str.ofString "place"), .tuple [.int a, .int b]]) = true := by
  unfold SeqAt.shaped
  rw [Bool.and_eq_true]
  refine ⟨?_, decide_eq_true (show (2 : Nat) ≤ 64 by decide)⟩
  show (PyData.canLay0 (.str (Str.ofString "place")) && ((true && (true && true)) && true)) = true
  rw [lay_strX (by decide)]
  rfl
theorem v_law (ts : List OT) (Q : OT → List OT → Prop) (h : phi_law ts Q) : W_law (endsF 8 ts Q) (startR 8 ts) := by
  have hsz : sizeLine = 16777216 := sizeLine_eq
  obtain ⟨ns, rfl, hl, h⟩ := h
  show W_law _ [some (.fz (.list (ns.map .int))), none, none, none, none, none, none, none]
  conv => whnf
  refine ⟨ns, rfl, hl, fun p dk hd => ?_⟩
  show W_law_1 _ [some (.fz (.list (ns.map .int))), some (.lst p dk), none, none, none, none, none, none]
  conv => whnf
  refine ⟨⟨by decide, by decide⟩, fun i ρ => ∃ dk x2 x3 x4, ρ = [some (.fz (.list (ns.map .int))), some (.lst p dk), x2, x3, x4, none, none, none] ∧ DeckOk (2000 * i) dk ∧ isF x3,
    ⟨dk, _, _, _, rfl, deck_mono hd (by omega), isF_n⟩, ?_, ?_⟩
  · rintro i x ρ hx ⟨dk, x2, x3, x4, rfl, hd, h3⟩
    obtain ⟨rfl, hi⟩ := rng_get hx
    have hi : i < 6 := hi
    conv => whnf
    refine v_law_b0 _ (.fz (.list (ns.map .int))) p dk _ x3 x4 (2000 * i) hd (by omega) ?_
    intro dk' z x4 hd'
    exact ⟨dk', _, _, x4, rfl, deck_mono hd' (by omega), isF_s⟩
  · rintro ρ ⟨dk, x2, x3, x4, rfl, hd, h3⟩
    show W_law_2 (endsF 8 [.fz (.list (ns.map .int))] Q) [some (.fz (.list (ns.map .int))), some (.lst p dk), x2, x3, x4, none, none, none]
    conv => whnf
    refine ⟨⟨by decide, fun _ _ => by decide, fun _ _ => by decide⟩, ?_⟩
    obtain ⟨m60, em, lm, pm⟩ : ∃ m : Str, Txt.mul (Str.ofString "x") 60 = m ∧ m.length = 60 ∧ Pln m := ⟨_, rfl, by decide, by unfold Pln; decide +kernel⟩
    rw [em]
    conv => whnf
    refine ⟨by rw [lm]; show 60 + 1 ≤ _; omega, ?_⟩
    conv => whnf
    intro q2
    conv => whnf
    refine ⟨p, dk, 2000 * ((rng 0 6).length : Int), 4, rfl, hd, by rw [rng_len]; decide, ⟨by decide, by decide⟩, fun n1 d1 n10 n11 hd1 => ?_⟩
    obtain ⟨said, ew, psaid⟩ : ∃ said : Str, atI (strsD [Str.ofString " No such: 7", Str.ofString "", Str.ofString "a  B", m60 ++ Str.ofString "\n"]) n1 = some (.str said) ∧ Pln said := by
      have : n1 = 0 ∨ n1 = 1 ∨ n1 = 2 ∨ n1 = 3 := by omega
      rcases this with rfl | rfl | rfl | rfl
      · exact ⟨_, rfl, by unfold Pln; decide⟩
      · exact ⟨_, rfl, by unfold Pln; decide⟩
      · exact ⟨_, rfl, by unfold Pln; decide⟩
      · exact ⟨_, rfl, pln_app pm (by unfold Pln; decide)⟩
    have sh2 : SeqAt.shaped (.list [PyData.str said, PyData.str said]) = true := (sh_strs (rs := [said, said]) (fun r hr => by
      simp only [List.mem_cons, List.not_mem_nil, or_false, or_self] at hr
      subst hr
      exact psaid)).1
    conv => whnf
    rw [show atI [PyData.str (Str.ofString " No such: 7"), .str (Str.ofString ""), .str (Str.ofString "a  B"), .str (m60 ++ Str.ofString "\n")] n1 = some (.str said) from ew]
    show W_law_3 (endsF 8 [.fz (.list (ns.map .int))] Q) [some (.fz (.list (ns.map .int))), some (.lst p d1), x2, x3, x4, none, none, some (.fz (.str said))]
    conv => whnf
    intro q3
    conv => whnf
    intro q4
    conv => whnf
    refine ⟨⟨by decide, by decide, by show 1 * 2 ≤ _; omega⟩, fun q5 => ?_⟩
    rw [show repD (Int.toNat 2) [PyData.str said] = [PyData.str said, PyData.str said] from rfl]
    conv => whnf
    refine ⟨sh2, sh2, ?_⟩
    rw [eqv_self sh2]
    conv => whnf
    refine ⟨⟨5, rfl, by decide⟩, ?_⟩
    conv => whnf
    refine ⟨"NoGrid", some (("row" : Str), PyData.int ((5 : Nat) : Int)), _, rfl, .inl ⟨rfl, 5, rfl, rfl⟩, ?_⟩
    conv => whnf
    refine ⟨sh_pairN (by decide) _, sh_pairN (by decide) _, ?_⟩
    rw [show PyData.eqv (.tuple [.str (Str.ofString "grid"), .int ((5 : Nat) : Int)]) (.tuple [.str (Str.ofString "grid"), .int 5]) = true from eqv_self (sh_pairN (by decide) _)]
    show W_law_4 (endsF 8 [.fz (.list (ns.map .int))] Q) [some (.fz (.list (ns.map .int))), some (.lst p d1), x2, x3, x4, none, none, some (.fz (.str said))]
    conv => whnf
    refine ⟨⟨4, rfl, by decide⟩, ?_⟩
    conv => whnf
    refine ⟨"NoRuns", some (("place" : Str), PyData.int ((4 : Nat) : Int)), _, rfl, .inr (.inl ⟨rfl, 4, rfl, rfl⟩), ?_⟩
    conv => whnf
    refine ⟨sh_pairN (by decide) _, sh_pairN (by decide) _, ?_⟩
    rw [show PyData.eqv (.tuple [.str (Str.ofString "runs"), .int ((4 : Nat) : Int)]) (.tuple [.str (Str.ofString "runs"), .int 4]) = true from eqv_self (sh_pairN (by decide) _)]
    conv => whnf
    refine ⟨⟨3, -1, rfl, by decide, by decide⟩, ?_⟩
    conv => whnf
    refine ⟨"NoPlace", some (("place" : Str), PyData.tuple [.int 3, .int (-1)]), _, rfl, .inr (.inr ⟨rfl, 3, -1, rfl, rfl⟩), ?_⟩
    conv => whnf
    refine ⟨sh_place _ _, sh_place _ _, ?_⟩
    rw [show PyData.eqv (.tuple [.str (Str.ofString "place"), .tuple [.int 3, .int (-1)]]) (.tuple [.str (Str.ofString "place"), .tuple [.int 3, .int (-1)]]) = true from eqv_self (sh_place _ _)]
    show W_law_5 (endsF 8 [.fz (.list (ns.map .int))] Q) [some (.fz (.list (ns.map .int))), some (.lst p d1), x2, x3, x4, none, none, some (.fz (.str said))]
    conv => whnf
    refine ⟨⟨by decide, fun _ _ => by decide, fun _ _ => by decide⟩, ?_⟩
    obtain ⟨m4, em4, pm4, lm4⟩ : ∃ m : Str, Txt.mul (Str.ofString "~") 400 = m ∧ Pln m ∧ m.length = 400 := ⟨_, rfl, by unfold Pln; decide +kernel, by decide +kernel⟩
    rw [em4]
    conv => whnf
    intro q6
    conv => whnf
    have h7 : WsOk 5000 [.str (Str.ofString ""), .str (Str.ofString "\n"), .str (Str.ofString "..\n."), .str (Str.ofString ".\n.."), .str (Str.ofString "./#"), .str (Str.ofString ".\n\n."), .str m4] := by
      have key : ∀ y : Str, (cs y).all (fun c => decide (c < 128)) = true → Pln y := fun y h1 c hc => of_decide_eq_true (List.all_eq_true.mp h1 c hc)
      exact ws_cons (key _ (by decide)) (by decide) (ws_cons (key _ (by decide)) (by decide) (ws_cons (key _ (by decide)) (by decide) (ws_cons (key _ (by decide)) (by decide) (ws_cons (key _ (by decide)) (by decide) (ws_cons (key _ (by decide)) (by decide) (ws_cons pm4 (by omega) ws_nil))))))
    obtain ⟨al, eal, hall⟩ : ∃ al : List PyData, [.str (Str.ofString ""), .str (Str.ofString "\n"), .str (Str.ofString "..\n."), .str (Str.ofString ".\n.."), .str (Str.ofString "./#"), .str (Str.ofString ".\n\n."), .str m4] = al ∧ WsOk 5000 al := ⟨_, rfl, h7⟩
    rw [eal]
    have hst : ∀ y : Option OT, isF y → still [some (.fz (.list (ns.map .int))), some (.lst p d1), x2, y, x4, none, none, some (.fz (.str said))] [3] := by
      rintro y (rfl | ⟨v, rfl⟩) <;> exact ⟨trivial, trivial⟩
    refine ⟨hst x3 h3, fun i ds ρ => ∃ x, ds = [] ∧ ρ = [some (.fz (.list (ns.map .int))), some (.lst p d1), x2, x, x4, none, none, some (.fz (.str said))] ∧ isF x, ⟨none, rfl, rfl, isF_n⟩, ?_, ?_⟩
    · rintro i x ds ρ hx ⟨x12, rfl, rfl, h12⟩
      obtain ⟨w, rfl, hw1, hw2⟩ := hall x (List.mem_of_getElem? hx)
      conv => whnf
      refine ⟨w, rfl, by omega, hw1, ?_⟩
      exact ⟨_, rfl, rfl, isF_s⟩
    · rintro ds ρ ⟨x12, rfl, rfl, h12⟩ q10
      conv => whnf
      intro q11
      conv => whnf
      refine ⟨rfl, rfl, ?_⟩
      rw [eqv_nilL]
      exact h
end Lw

namespace Lw
open PySem PySem.Spec PyProof.Rows L2 DL
def topS (i : Nat) : Stmt := PySem.Challenge.pw_fewturns_k02_texts_of_no_grids.main.body.getD i (.Pass ⟨0, 0, 0, 0⟩)
def clsBody (s : Stmt) : List Stmt := match s with | .ClassDef _ _ _ b _ _ _ _ _ _ _ => b | _ => []
def Si_NoGrid : Stmt := (clsBody (topS 4)).getD 0 (.Pass ⟨0, 0, 0, 0⟩)
def Si_NoPlace : Stmt := (clsBody (topS 6)).getD 0 (.Pass ⟨0, 0, 0, 0⟩)
def Si_NoRuns : Stmt := (clsBody (topS 5)).getD 0 (.Pass ⟨0, 0, 0, 0⟩)
abbrev S_is_row : Stmt := topS 10
abbrev N_is_row : List Str := ["row", "length", "sign"]
theorem sc_is_row : FnScope N_is_row ["row", "length"] (defScope S_is_row) := ⟨rfl, rfl, rfl, by decide +kernel, rfl, by decide +kernel, by decide +kernel⟩
abbrev S_l_mix : Stmt := topS 13
abbrev N_l_mix : List Str := ["cell", "k", "number"]
theorem sc_l_mix : FnScope N_l_mix ["cell", "k"] (defScope S_l_mix) := ⟨rfl, rfl, rfl, by decide +kernel, rfl, by decide +kernel, by decide +kernel⟩
abbrev S_l_deck : Stmt := topS 14
abbrev N_l_deck : List Str := ["script"]
theorem sc_l_deck : FnScope N_l_deck ["script"] (defScope S_l_deck) := ⟨rfl, rfl, rfl, by decide +kernel, rfl, by decide +kernel, by decide +kernel⟩
abbrev S_l_spiral : Stmt := topS 16
abbrev N_l_spiral : List Str := ["rows", "columns", "grid", "row", "column", "down", "right", "bends", "turn", "ahead", "after", "within", "beyond", "clear"]
theorem sc_l_spiral : FnScope N_l_spiral ["rows", "columns"] (defScope S_l_spiral) := ⟨rfl, rfl, rfl, by decide +kernel, rfl, by decide +kernel, by decide +kernel⟩
abbrev S_l_comb : Stmt := topS 17
abbrev N_l_comb : List Str := ["rows", "columns", "grid", "row", "line", "column", "gap"]
theorem sc_l_comb : FnScope N_l_comb ["rows", "columns"] (defScope S_l_comb) := ⟨rfl, rfl, rfl, by decide +kernel, rfl, by decide +kernel, by decide +kernel⟩
abbrev S_l_kind : Stmt := topS 19
abbrev N_l_kind : List Str := ["caught", "kinds"]
theorem sc_l_kind : FnScope N_l_kind ["caught"] (defScope S_l_kind) := ⟨rfl, rfl, rfl, by decide +kernel, rfl, by decide +kernel, by decide +kernel⟩
abbrev S_l_due : Stmt := topS 22
abbrev N_l_due : List Str := ["text", "rows", "sign", "number", "row"]
theorem sc_l_due : FnScope N_l_due ["text"] (defScope S_l_due) := ⟨rfl, rfl, rfl, by decide +kernel, rfl, by decide +kernel, by decide +kernel⟩
abbrev S_l_next : Stmt := topS 15
abbrev N_l_next : List Str := ["deck", "many", "cell", "found"]
theorem sc_l_next : FnScope N_l_next ["deck", "many"] (defScope S_l_next) := ⟨rfl, rfl, rfl, by decide +kernel, rfl, by decide +kernel, by decide +kernel⟩
abbrev S_l_grid : Stmt := topS 18
abbrev N_l_grid : List Str := ["deck", "most", "rows", "columns", "way", "often", "grid", "row", "column"]
theorem sc_l_grid : FnScope N_l_grid ["deck", "most"] (defScope S_l_grid) := ⟨rfl, rfl, rfl, by decide +kernel, rfl, by decide +kernel, by decide +kernel⟩
abbrev S_l_sign : Stmt := topS 20
abbrev N_l_sign : List Str := ["deck", "signs"]
theorem sc_l_sign : FnScope N_l_sign ["deck"] (defScope S_l_sign) := ⟨rfl, rfl, rfl, by decide +kernel, rfl, by decide +kernel, by decide +kernel⟩
abbrev S_read_grid : Stmt := topS 11
abbrev N_read_grid : List Str := ["text", "rows", "at", "row"]
theorem sc_read_grid : FnScope N_read_grid ["text"] (defScope S_read_grid) := ⟨rfl, rfl, rfl, by decide +kernel, rfl, by decide +kernel, by decide +kernel⟩
abbrev S_l_spoilt : Stmt := topS 21
abbrev N_l_spoilt : List Str := ["deck", "text", "k", "at", "sign", "rows", "one", "other", "way"]
theorem sc_l_spoilt : FnScope N_l_spoilt ["deck", "text"] (defScope S_l_spoilt) := ⟨rfl, rfl, rfl, by decide +kernel, rfl, by decide +kernel, by decide +kernel⟩
abbrev S_l_right : Stmt := topS 23
abbrev N_l_right : List Str := ["text", "due", "refused", "again", "found", "caught", "e"]
theorem sc_l_right : FnScope N_l_right ["text"] (defScope S_l_right) := ⟨rfl, rfl, rfl, by decide +kernel, rfl, by decide +kernel, by decide +kernel⟩
abbrev S_law : Stmt := topS 24
abbrev N_law : List Str := ["script", "deck", "turn", "text", "some", "k", "odd", "said"]
theorem sc_law : FnScope N_law ["script"] (defScope S_law) := ⟨rfl, rfl, rfl, by decide +kernel, rfl, by decide +kernel, by decide +kernel⟩
structure Txt (P : Program) (K : PySem.W.Frag) (w : World) (mg : Str → Option Value) where
  a_is_row : Addr
  fd_is_row : FuncData
  F_is_row : Fun K "is_row" "is_row" S_is_row a_is_row fd_is_row
  B_is_row : Binds K fd_is_row ["row", "length"] []
  m_is_row : mg "is_row" = some (.ref a_is_row)
  a_l_mix : Addr
  fd_l_mix : FuncData
  F_l_mix : Fun K "_law_mix" "_law_mix" S_l_mix a_l_mix fd_l_mix
  B_l_mix : Binds K fd_l_mix ["cell", "k"] []
  m_l_mix : mg "_law_mix" = some (.ref a_l_mix)
  a_l_deck : Addr
  fd_l_deck : FuncData
  F_l_deck : Fun K "_law_deck" "_law_deck" S_l_deck a_l_deck fd_l_deck
  B_l_deck : Binds K fd_l_deck ["script"] []
  m_l_deck : mg "_law_deck" = some (.ref a_l_deck)
  a_l_spiral : Addr
  fd_l_spiral : FuncData
  F_l_spiral : Fun K "_law_spiral" "_law_spiral" S_l_spiral a_l_spiral fd_l_spiral
  B_l_spiral : Binds K fd_l_spiral ["rows", "columns"] []
  m_l_spiral : mg "_law_spiral" = some (.ref a_l_spiral)
  a_l_comb : Addr
  fd_l_comb : FuncData
  F_l_comb : Fun K "_law_comb" "_law_comb" S_l_comb a_l_comb fd_l_comb
  B_l_comb : Binds K fd_l_comb ["rows", "columns"] []
  m_l_comb : mg "_law_comb" = some (.ref a_l_comb)
  a_l_kind : Addr
  fd_l_kind : FuncData
  F_l_kind : Fun K "_law_kind" "_law_kind" S_l_kind a_l_kind fd_l_kind
  B_l_kind : Binds K fd_l_kind ["caught"] []
  m_l_kind : mg "_law_kind" = some (.ref a_l_kind)
  a_l_due : Addr
  fd_l_due : FuncData
  F_l_due : Fun K "_law_due" "_law_due" S_l_due a_l_due fd_l_due
  B_l_due : Binds K fd_l_due ["text"] []
  m_l_due : mg "_law_due" = some (.ref a_l_due)
  a_l_next : Addr
  fd_l_next : FuncData
  F_l_next : Fun K "_law_next" "_law_next" S_l_next a_l_next fd_l_next
  B_l_next : Binds K fd_l_next ["deck", "many"] []
  m_l_next : mg "_law_next" = some (.ref a_l_next)
  a_l_grid : Addr
  fd_l_grid : FuncData
  F_l_grid : Fun K "_law_grid" "_law_grid" S_l_grid a_l_grid fd_l_grid
  B_l_grid : Binds K fd_l_grid ["deck", "most"] []
  m_l_grid : mg "_law_grid" = some (.ref a_l_grid)
  a_l_sign : Addr
  fd_l_sign : FuncData
  F_l_sign : Fun K "_law_sign" "_law_sign" S_l_sign a_l_sign fd_l_sign
  B_l_sign : Binds K fd_l_sign ["deck"] []
  m_l_sign : mg "_law_sign" = some (.ref a_l_sign)
  a_read_grid : Addr
  fd_read_grid : FuncData
  F_read_grid : Fun K "read_grid" "read_grid" S_read_grid a_read_grid fd_read_grid
  B_read_grid : Binds K fd_read_grid ["text"] []
  m_read_grid : mg "read_grid" = some (.ref a_read_grid)
  a_l_spoilt : Addr
  fd_l_spoilt : FuncData
  F_l_spoilt : Fun K "_law_spoilt" "_law_spoilt" S_l_spoilt a_l_spoilt fd_l_spoilt
  B_l_spoilt : Binds K fd_l_spoilt ["deck", "text"] []
  m_l_spoilt : mg "_law_spoilt" = some (.ref a_l_spoilt)
  a_l_right : Addr
  fd_l_right : FuncData
  F_l_right : Fun K "_law_right" "_law_right" S_l_right a_l_right fd_l_right
  B_l_right : Binds K fd_l_right ["text"] []
  m_l_right : mg "_law_right" = some (.ref a_l_right)
  a_law : Addr
  fd_law : FuncData
  F_law : Fun K "law" "law" S_law a_law fd_law
  B_law : Binds K fd_law ["script"] []
  m_law : mg "law" = some (.ref a_law)
  z_ValueError : mg "ValueError" = none
  z_all : mg "all" = none
  z_bool : mg "bool" = none
  z_enumerate : mg "enumerate" = none
  z_int : mg "int" = none
  z_isinstance : mg "isinstance" = none
  z_len : mg "len" = none
  z_max : mg "max" = none
  z_range : mg "range" = none
  z_str : mg "str" = none
  z_sum : mg "sum" = none
  z_tuple : mg "tuple" = none
  c_FREE : ∃ t, mg "FREE" = some (.str "." t)
  c_WALL : ∃ t, mg "WALL" = some (.str "#" t)
  C_NoWay : Addr
  k_NoWay : mg "NoWay" = some (.ref C_NoWay)
  i_NoWay : XIsL K ["NoWay", "NoAsk", "NoGrid", "NoRuns", "NoPlace"] "NoWay" (.ref C_NoWay)
  C_NoAsk : Addr
  k_NoAsk : mg "NoAsk" = some (.ref C_NoAsk)
  i_NoAsk : XIsL K ["NoWay", "NoAsk", "NoGrid", "NoRuns", "NoPlace"] "NoAsk" (.ref C_NoAsk)
  C_NoGrid : Addr
  k_NoGrid : mg "NoGrid" = some (.ref C_NoGrid)
  i_NoGrid : XIsL K ["NoWay", "NoAsk", "NoGrid", "NoRuns", "NoPlace"] "NoGrid" (.ref C_NoGrid)
  C_NoPlace : Addr
  k_NoPlace : mg "NoPlace" = some (.ref C_NoPlace)
  i_NoPlace : XIsL K ["NoWay", "NoAsk", "NoGrid", "NoRuns", "NoPlace"] "NoPlace" (.ref C_NoPlace)
  C_NoRuns : Addr
  k_NoRuns : mg "NoRuns" = some (.ref C_NoRuns)
  i_NoRuns : XIsL K ["NoWay", "NoAsk", "NoGrid", "NoRuns", "NoPlace"] "NoRuns" (.ref C_NoRuns)
  C_TurnError : Addr
  k_TurnError : mg "TurnError" = some (.ref C_TurnError)
  i_TurnError : XIsL K ["NoWay", "NoAsk", "NoGrid", "NoRuns", "NoPlace"] "TurnError" (.ref C_TurnError)
  i_ValueError : XIsL K ["NoWay", "NoAsk", "NoGrid", "NoRuns", "NoPlace"] "ValueError" (.type "ValueError")
  xf_place : XfIn K ["NoRuns", "NoPlace"] "place"
  xf_row : XfIn K ["NoGrid"] "row"
  x_NoWay : XPlain K mg "NoWay"
  t_TurnError : ∀ nm C, catL ["NoWay", "NoAsk", "NoGrid", "NoRuns", "NoPlace"] nm = true → PySem.W.nsIn K mainGlobals nm = some (some (.ref C)) → PySem.W.exmOne K (.ref C) (.ref C_TurnError) = some true
  s_NoAsk : XStr K mg "NoAsk"
  s_NoWay : XStr K mg "NoWay"
  R_NoGrid : RaisesK P w K mg "NoGrid" "row" okN
  R_NoPlace : RaisesK P w K mg "NoPlace" "place" okP
  R_NoRuns : RaisesK P w K mg "NoRuns" "place" okN
section
variable {P : Program} {w : World} {K : PySem.W.Frag} {mg : Str → Option Value} {base : Heap}
def Wt_is_row : WS := (wSeq (wIfS (wOr (wTst (wOp2 gEq (wCB gLen (wCons (wVar 0) wNil)) (wC (.int 0)))) (wTst (wOp2 gNe (wCB gLen (wCons (wVar 0) wNil)) (wVar 1)))) (wRet (wC (.bool false))) wNext) ((wRet (wCB gAll (wCons (wLc [2] (wIterA (wVar 0)) (gvName 2) wYes (wOrV (wOp2 gEq (wVar 2) (wC (.str (Str.ofString ".")))) (wOp2 gEq (wVar 2) (wC (.str (Str.ofString "#")))))) wNil)))))
theorem e_is_row : Wt_is_row = W_is_row := rfl
theorem d_is_row (T : Txt P K w mg)  {f : Addr} {cdv : Value} {A : Around} {outer : List Env} {s : Shared} {H : Hp} {E : XK} (hr : Room 0 (A.deeper (envOfC "is_row" (defScope S_is_row) s.heap.objs.size f cdv))) : DSs (cxOf CX0 P w K mg base N_is_row "is_row" (defScope S_is_row) f cdv A outer s H E).nox (defBody S_is_row) Wt_is_row :=
  (dss_cons (ds_if (DW.dt (dw_or (dt_cmp (op_eqA hr.units) o_eq (de_b call_len o_len (by rfl) T.z_len (by decide +kernel) (da_cons (de_var 0) da_nil)) de_int (nomark _)) (dw_or1 (dt_cmp (op_neA hr.units) o_ne (de_b call_len o_len (by rfl) T.z_len (by decide +kernel) (da_cons (de_var 0) da_nil)) (de_var 1) (nomark _))))) (dss_one (ds_ret de_bl)) dss_nil)
    (dss_one (ds_ret (de_b (cr_all rfl) o_all (by rfl) T.z_all (by decide +kernel) (da_cons (de_lc (own := [((Str.ofString "sign"), 2)]) (vs := [2]) rfl (by decide) rfl sc_is_row.nd (di_any (de_var 0)) (blkOk_by (own := [((Str.ofString "sign"), 2)]) (N := N_is_row) (sc := defScope S_is_row) (by decide +kernel)) (fun _ _ _ _ _ => (dgw_name (i := 2) (by decide) sc_is_row.nd rfl (by first | exact Or.inl rfl | exact Or.inr rfl))) (fun _ _ _ _ _ => dts_nil) (fun _ _ _ _ _ => (de_or (de_cmp (op_eqA hr.units) o_eq (de_var 2) (de_c (v := .str (Str.ofString ".")) (pe_glob (by rfl) T.c_FREE.choose_spec ⟨_, rfl⟩) fun _ => .str _) (nomark _)) (de_one (de_cmp (op_eqA hr.units) o_eq (de_var 2) (de_c (v := .str (Str.ofString "#")) (pe_glob (by rfl) T.c_WALL.choose_spec ⟨_, rfl⟩) fun _ => .str _) (nomark _)))))) da_nil)))))
theorem ok_is_row (T : Txt P K w mg) : FnOk P w K mg base CX0 1 T.a_is_row T.fd_is_row ["row", "length"] (spD K 2 phi_is_row) :=
  fnD T.F_is_row sc_is_row fun cdv A outer s H E hr => ⟨W_is_row, e_is_row ▸ d_is_row T  hr, fun ts Q hl h => v_is_row ts Q h⟩
def Wt_l_mix : WS := (wSeq (wSet (wOp2 gAdd (wOp2 (gI (fun i j => .int (i % j)) fun _ j => 0 < j) (wVar 0) (wC (.int 2147483629))) (wOp2 (gI (fun i j => .int (i * j)) CMul) (wOp2 (gI (fun i j => .int (i * j)) CMul) (wC (.int 1000003)) (wVar 1)) (wVar 1))) 2) (wSeq (wSet (wOp2 (gI (fun i j => .int (i % j)) fun _ j => 0 < j) (wOp2 gAdd (wVar 2) (wOp2 (gI (fun i j => .int (i * j)) CMul) (wC (.int 7919)) (wVar 1))) (wC (.int 2147483629))) 2) (wSeq (wSet (wOp2 (gI (fun i j => .int (i % j)) fun _ j => 0 < j) (wOp2 (gI (fun i j => .int (i * j)) CMul) (wVar 2) (wVar 2)) (wC (.int 2147483587))) 2) ((wRet (wOp2 (gI (fun i j => .int (i / j)) CDiv) (wOp2 (gI (fun i j => .int (i % j)) fun _ j => 0 < j) (wOp2 (gI (fun i j => .int (i * j)) CMul) (wVar 2) (wOp2 gAdd (wVar 2) (wC (.int 40961)))) (wC (.int 2147483563))) (wC (.int 4))))))))
theorem e_l_mix : Wt_l_mix = W_l_mix := rfl
theorem d_l_mix (T : Txt P K w mg)  {f : Addr} {cdv : Value} {A : Around} {outer : List Env} {s : Shared} {H : Hp} {E : XK} (hr : Room 0 (A.deeper (envOfC "_law_mix" (defScope S_l_mix) s.heap.objs.size f cdv))) : DSs (cxOf CX0 P w K mg base N_l_mix "_law_mix" (defScope S_l_mix) f cdv A outer s H E).nox (defBody S_l_mix) Wt_l_mix :=
  (dss_cons (ds_set (i := 2) sc_l_mix.nd rfl (by first | exact Or.inl rfl | exact Or.inr rfl) (de_op2 op_addA o_add (de_op2 op_mod (o_I fun _ _ => .int _) (de_var 0) de_int) (de_op2 op_mul (o_I fun _ _ => .int _) (de_op2 op_mul (o_I fun _ _ => .int _) de_int (de_var 1)) (de_var 1))))
    (dss_cons (ds_set (i := 2) sc_l_mix.nd rfl (by first | exact Or.inl rfl | exact Or.inr rfl) (de_op2 op_mod (o_I fun _ _ => .int _) (de_op2 op_addA o_add (de_var 2) (de_op2 op_mul (o_I fun _ _ => .int _) de_int (de_var 1))) de_int))
    (dss_cons (ds_set (i := 2) sc_l_mix.nd rfl (by first | exact Or.inl rfl | exact Or.inr rfl) (de_op2 op_mod (o_I fun _ _ => .int _) (de_op2 op_mul (o_I fun _ _ => .int _) (de_var 2) (de_var 2)) de_int))
    (dss_one (ds_ret (de_op2 op_fdiv (o_I fun _ _ => .int _) (de_op2 op_mod (o_I fun _ _ => .int _) (de_op2 op_mul (o_I fun _ _ => .int _) (de_var 2) (de_op2 op_addA o_add (de_var 2) de_int)) de_int) de_int))))))
theorem ok_l_mix (T : Txt P K w mg) : FnOk P w K mg base CX0 1 T.a_l_mix T.fd_l_mix ["cell", "k"] (spD K 2 phi_l_mix) :=
  fnD T.F_l_mix sc_l_mix fun cdv A outer s H E hr => ⟨W_l_mix, e_l_mix ▸ d_l_mix T  hr, fun ts Q hl h => v_l_mix ts Q h⟩
def Wt_l_deck : WS := ((wRet (wLst (wCons (wSl (wVar 0) wNoPart (wPart (wC (.int 63)))) (wCons (wC (.int 0)) (wCons (wC (.int 0)) (wCons (wC (.int 0)) (wCons (wCB gSum (wCons (wSl (wVar 0) wNoPart (wPart (wC (.int 63)))) wNil)) wNil))))))))
theorem e_l_deck : Wt_l_deck = W_l_deck := rfl
theorem d_l_deck (T : Txt P K w mg)  {f : Addr} {cdv : Value} {A : Around} {outer : List Env} {s : Shared} {H : Hp} {E : XK} (hr : Room 0 (A.deeper (envOfC "_law_deck" (defScope S_l_deck) s.heap.objs.size f cdv))) : DSs (cxOf CX0 P w K mg base N_l_deck "_law_deck" (defScope S_l_deck) f cdv A outer s H E).nox (defBody S_l_deck) Wt_l_deck :=
  (dss_one (ds_ret (de_lst (da_cons (de_sl (de_var 0) do_none (do_some de_int)) (da_cons de_int (da_cons de_int (da_cons de_int (da_cons (de_b (cr_sum rfl) o_sum (by rfl) T.z_sum (by decide +kernel) (da_cons (de_sl (de_var 0) do_none (do_some de_int)) da_nil)) da_nil))))))))
theorem ok_l_deck (T : Txt P K w mg) : FnOk P w K mg base CX0 1 T.a_l_deck T.fd_l_deck ["script"] (spD K 1 phi_l_deck) :=
  fnD T.F_l_deck sc_l_deck fun cdv A outer s H E hr => ⟨W_l_deck, e_l_deck ▸ d_l_deck T  hr, fun ts Q hl h => v_l_deck ts Q h⟩
def Wt_l_spiral : WS := (wSeq (wSet (wLcL [3] (wRng1 (wCons (wVar 0) wNil)) (gvName 3) wYes (wRep (wLst (wCons (wC (.str (Str.ofString "#"))) wNil)) (wVar 1))) 2) (wSeq (wSet (wC (.int 0)) 3) (wSeq (wSet (wC (.int 0)) 4) (wSeq (wSet (wC (.int 0)) 5) (wSeq (wSet (wC (.int 1)) 6) (wSeq (wSet (wC (.int 0)) 7) (wSeq (wWhile (wTst (wOp2 (gI0 fun i j => .bool (decide (i < j))) (wVar 7) (wC (.int 2)))) (wSeq (wSubb 2 (wVar 3) (wVar 4) (wC (.str (Str.ofString ".")))) (wSeq (wSet (wOp2 gAdd (wVar 7) (wC (.int 1))) 7) ((wFor (wRng1 (wCons (wC (.int 2)) wNil)) (gvName 8) (wSeq (wSet (wLst (wCons (wOp2 gAdd (wVar 3) (wVar 5)) (wCons (wOp2 gAdd (wVar 4) (wVar 6)) wNil))) 9) (wSeq (wSet (wLst (wCons (wOp2 gAdd (wVar 3) (wOp2 (gI (fun i j => .int (i * j)) CMul) (wC (.int 2)) (wVar 5))) (wCons (wOp2 gAdd (wVar 4) (wOp2 (gI (fun i j => .int (i * j)) CMul) (wC (.int 2)) (wVar 6))) wNil))) 10) (wSeq (wSet (wAndV (wChain (gI0 fun i j => .bool (decide (i ≤ j))) (gI0 fun i j => .bool (decide (i < j))) (wC (.int 0)) (wIx (wVar 9) (wC (.int 0))) (wVar 0)) (wChain (gI0 fun i j => .bool (decide (i ≤ j))) (gI0 fun i j => .bool (decide (i < j))) (wC (.int 0)) (wIx (wVar 9) (wC (.int 1))) (wVar 1))) 11) (wSeq (wSet (wAndV (wChain (gI0 fun i j => .bool (decide (i ≤ j))) (gI0 fun i j => .bool (decide (i < j))) (wC (.int 0)) (wIx (wVar 10) (wC (.int 0))) (wVar 0)) (wChain (gI0 fun i j => .bool (decide (i ≤ j))) (gI0 fun i j => .bool (decide (i < j))) (wC (.int 0)) (wIx (wVar 10) (wC (.int 1))) (wVar 1))) 12) (wSeq (wSet (wAndV (wVar 11) (wOp2 gEq (wIxx 2 (wIx (wVar 9) (wC (.int 0))) (wIx (wVar 9) (wC (.int 1)))) (wC (.str (Str.ofString "#"))))) 13) (wSeq (wIfS (wAnd (wTst (wOp2 (gI0 fun i j => .bool (decide (j < i))) (wVar 7) (wC (.int 0)))) (wAnd (wTst (wVar 13)) (wNot (wAnd (wTst (wVar 12)) (wTst (wOp2 gEq (wIxx 2 (wIx (wVar 10) (wC (.int 0))) (wIx (wVar 10) (wC (.int 1)))) (wC (.str (Str.ofString "."))))))))) (wSeq (wAsg (wVar 9) (gvUnl 2 (gvCons (gvName 3) (gvCons (gvName 4) gvNil)))) ((wSet (wC (.int 0)) 7))) wNext) ((wIfS (wTst (wOp2 (gI0 fun i j => .bool (decide (j < i))) (wVar 7) (wC (.int 0)))) (wSeq (wPar 5 6 (wCons (wVar 6) (wCons (wOp2 (gI0 fun i j => .int (i - j)) (wC (.int 0)) (wVar 5)) wNil))) ((wSet (wOp2 gAdd (wVar 7) (wVar 8)) 7))) wNext))))))))))))) ((wRet (wLc [3] (wIterA (wVar 2)) (gvName 3) wYes (wJoin (wC (.str (Str.ofString ""))) (wVar 3))))))))))))
theorem e_l_spiral : Wt_l_spiral = W_l_spiral := rfl
theorem d_l_spiral (T : Txt P K w mg)  {f : Addr} {cdv : Value} {A : Around} {outer : List Env} {s : Shared} {H : Hp} {E : XK} (hr : Room 0 (A.deeper (envOfC "_law_spiral" (defScope S_l_spiral) s.heap.objs.size f cdv))) : DSs (cxOf CX0 P w K mg base N_l_spiral "_law_spiral" (defScope S_l_spiral) f cdv A outer s H E).nox (defBody S_l_spiral) Wt_l_spiral :=
  (dss_cons (ds_setLcL (own := [((Str.ofString "row"), 3)]) (vs := [3]) rfl (by decide) rfl sc_l_spiral.nd (i := 2) rfl rfl (sw_true rfl rfl rfl (by decide +kernel)) (di_rng1 (by rfl) T.z_range (da_cons (de_var 0) da_nil)) (blkOk_by (own := [((Str.ofString "row"), 3)]) (N := N_l_spiral) (sc := defScope S_l_spiral) (by decide +kernel)) (fun _ _ _ _ _ => (dgw_name (i := 3) (by decide) sc_l_spiral.nd rfl (by first | exact Or.inl rfl | exact Or.inr rfl))) (fun _ _ _ _ _ => dts_nil) (fun _ _ _ _ _ => (de_rep (de_lst (da_cons de_str da_nil)) (de_var 1))))
    (dss_cons (ds_set (i := 3) sc_l_spiral.nd rfl (by first | exact Or.inl rfl | exact Or.inr rfl) de_int)
    (dss_cons (ds_set (i := 4) sc_l_spiral.nd rfl (by first | exact Or.inl rfl | exact Or.inr rfl) de_int)
    (dss_cons (ds_set (i := 5) sc_l_spiral.nd rfl (by first | exact Or.inl rfl | exact Or.inr rfl) de_int)
    (dss_cons (ds_set (i := 6) sc_l_spiral.nd rfl (by first | exact Or.inl rfl | exact Or.inr rfl) de_int)
    (dss_cons (ds_set (i := 7) sc_l_spiral.nd rfl (by first | exact Or.inl rfl | exact Or.inr rfl) de_int)
    (dss_cons (ds_while PassesOwn.never (dt_cmp op_lt (o_I0 fun _ _ => .bl _) (de_var 7) de_int (nomark _)) (dss_cons (ds_sub2 (i := 2) rfl (by first | exact Or.inl rfl | exact Or.inr (Or.inl rfl) | exact Or.inr (Or.inr rfl)) (de_var 3) (de_var 4) de_str)
    (dss_cons (ds_set (i := 7) sc_l_spiral.nd rfl (by first | exact Or.inl rfl | exact Or.inr rfl) (de_op2 op_addA o_add (de_var 7) de_int))
    (dss_one (ds_for PassesOwn.never rfl (di_rng1 (by rfl) T.z_range (da_cons de_int da_nil)) (dg_name (i := 8) sc_l_spiral.nd rfl (by first | exact Or.inl rfl | exact Or.inr rfl)) (dss_cons (ds_set (i := 9) sc_l_spiral.nd rfl (by first | exact Or.inl rfl | exact Or.inr rfl) (de_lst (da_cons (de_op2 op_addA o_add (de_var 3) (de_var 5)) (da_cons (de_op2 op_addA o_add (de_var 4) (de_var 6)) da_nil))))
    (dss_cons (ds_set (i := 10) sc_l_spiral.nd rfl (by first | exact Or.inl rfl | exact Or.inr rfl) (de_lst (da_cons (de_op2 op_addA o_add (de_var 3) (de_op2 op_mul (o_I fun _ _ => .int _) de_int (de_var 5))) (da_cons (de_op2 op_addA o_add (de_var 4) (de_op2 op_mul (o_I fun _ _ => .int _) de_int (de_var 6))) da_nil))))
    (dss_cons (ds_set (i := 11) sc_l_spiral.nd rfl (by first | exact Or.inl rfl | exact Or.inr rfl) (de_and (de_chain op_le (o_I0 fun _ _ => .bl _) op_lt (o_I0 fun _ _ => .bl _) de_int (de_ix (de_var 9) de_int) (de_var 0)) (de_one (de_chain op_le (o_I0 fun _ _ => .bl _) op_lt (o_I0 fun _ _ => .bl _) de_int (de_ix (de_var 9) de_int) (de_var 1)))))
    (dss_cons (ds_set (i := 12) sc_l_spiral.nd rfl (by first | exact Or.inl rfl | exact Or.inr rfl) (de_and (de_chain op_le (o_I0 fun _ _ => .bl _) op_lt (o_I0 fun _ _ => .bl _) de_int (de_ix (de_var 10) de_int) (de_var 0)) (de_one (de_chain op_le (o_I0 fun _ _ => .bl _) op_lt (o_I0 fun _ _ => .bl _) de_int (de_ix (de_var 10) de_int) (de_var 1)))))
    (dss_cons (ds_set (i := 13) sc_l_spiral.nd rfl (by first | exact Or.inl rfl | exact Or.inr rfl) (de_and (de_var 11) (de_one (de_cmp (op_eqA hr.units) o_eq (de_ix2 (i := 2) rfl (by first | exact Or.inl rfl | exact Or.inr (Or.inl rfl) | exact Or.inr (Or.inr rfl)) (de_ix (de_var 9) de_int) (de_ix (de_var 9) de_int)) de_str (nomark _)))))
    (dss_cons (ds_if (DW.dt (dw_and (dt_cmp op_gt (o_I0 fun _ _ => .bl _) (de_var 7) de_int (nomark _)) (dw_and (dt_val (de_var 13)) (dw_and1 (dt_not (DW.dt (dw_and (dt_val (de_var 12)) (dw_and1 (dt_cmp (op_eqA hr.units) o_eq (de_ix2 (i := 2) rfl (by first | exact Or.inl rfl | exact Or.inr (Or.inl rfl) | exact Or.inr (Or.inr rfl)) (de_ix (de_var 10) de_int) (de_ix (de_var 10) de_int)) de_str (nomark _)))))))))) (dss_cons (ds_asg (de_var 9) (dg_unl rfl (dgs_cons (dg_name (i := 3) sc_l_spiral.nd rfl (by first | exact Or.inl rfl | exact Or.inr rfl)) (dgs_cons (dg_name (i := 4) sc_l_spiral.nd rfl (by first | exact Or.inl rfl | exact Or.inr rfl)) dgs_nil))))
    (dss_one (ds_set (i := 7) sc_l_spiral.nd rfl (by first | exact Or.inl rfl | exact Or.inr rfl) de_int))) dss_nil)
    (dss_one (ds_if (dt_cmp op_gt (o_I0 fun _ _ => .bl _) (de_var 7) de_int (nomark _)) (dss_cons (ds_par (i := 5) (j := 6) rfl sc_l_spiral.nd rfl rfl (by decide) rfl rfl (da_cons (de_var 6) (da_cons (de_op2 op_sub (o_I0 fun _ _ => .int _) de_int (de_var 5)) da_nil)) (by rfl))
    (dss_one (ds_set (i := 7) sc_l_spiral.nd rfl (by first | exact Or.inl rfl | exact Or.inr rfl) (de_op2 op_addA o_add (de_var 7) (de_var 8))))) dss_nil)))))))))))))
    (dss_one (ds_ret (de_lc (own := [((Str.ofString "row"), 3)]) (vs := [3]) rfl (by decide) rfl sc_l_spiral.nd (di_any (de_var 2)) (blkOk_by (own := [((Str.ofString "row"), 3)]) (N := N_l_spiral) (sc := defScope S_l_spiral) (by decide +kernel)) (fun _ _ _ _ _ => (dgw_name (i := 3) (by decide) sc_l_spiral.nd rfl (by first | exact Or.inl rfl | exact Or.inr rfl))) (fun _ _ _ _ _ => dts_nil) (fun _ _ _ _ _ => (de_join de_str (de_var 3)))))))))))))
theorem ok_l_spiral (T : Txt P K w mg) : FnOk P w K mg base CX0 1 T.a_l_spiral T.fd_l_spiral ["rows", "columns"] (spD K 2 phi_l_spiral) :=
  fnD T.F_l_spiral sc_l_spiral fun cdv A outer s H E hr => ⟨W_l_spiral, e_l_spiral ▸ d_l_spiral T  hr, fun ts Q hl h => v_l_spiral ts Q h⟩
def Wt_l_comb : WS := (wSeq (wSet (wLst wNil) 2) (wSeq (wFor (wRng1 (wCons (wVar 0) wNil)) (gvName 3) (wSeq (wSet (wC (.str (Str.ofString ""))) 4) (wSeq (wFor (wRng1 (wCons (wVar 1) wNil)) (gvName 5) (wSeq (wSet (wIx (wLst (wCons (wC (.int 0)) (wCons (wOp2 (gI0 fun i j => .int (i - j)) (wVar 0) (wC (.int 1))) wNil))) (wOp2 (gI (fun i j => .int (i % j)) fun _ j => 0 < j) (wOp2 (gI (fun i j => .int (i / j)) CDiv) (wVar 5) (wC (.int 2))) (wC (.int 2)))) 6) ((wSet (wOp2 gAdd (wVar 4) (wIx (wLst (wCons (wC (.str (Str.ofString "."))) (wCons (wC (.str (Str.ofString "#"))) wNil))) (wCB gInt (wCons (wAndV (wOp2 gEq (wOp2 (gI (fun i j => .int (i % j)) fun _ j => 0 < j) (wVar 5) (wC (.int 2))) (wC (.int 1))) (wOp2 gNe (wVar 3) (wVar 6))) wNil)))) 4)))) ((wApp 2 (wVar 4)))))) ((wRet (wVar 2)))))
theorem e_l_comb : Wt_l_comb = W_l_comb := rfl
theorem d_l_comb (T : Txt P K w mg)  {f : Addr} {cdv : Value} {A : Around} {outer : List Env} {s : Shared} {H : Hp} {E : XK} (hr : Room 0 (A.deeper (envOfC "_law_comb" (defScope S_l_comb) s.heap.objs.size f cdv))) : DSs (cxOf CX0 P w K mg base N_l_comb "_law_comb" (defScope S_l_comb) f cdv A outer s H E).nox (defBody S_l_comb) Wt_l_comb :=
  (dss_cons (ds_set (i := 2) sc_l_comb.nd rfl (by first | exact Or.inl rfl | exact Or.inr rfl) (de_lst da_nil))
    (dss_cons (ds_for PassesOwn.never rfl (di_rng1 (by rfl) T.z_range (da_cons (de_var 0) da_nil)) (dg_name (i := 3) sc_l_comb.nd rfl (by first | exact Or.inl rfl | exact Or.inr rfl)) (dss_cons (ds_set (i := 4) sc_l_comb.nd rfl (by first | exact Or.inl rfl | exact Or.inr rfl) de_str)
    (dss_cons (ds_for PassesOwn.never rfl (di_rng1 (by rfl) T.z_range (da_cons (de_var 1) da_nil)) (dg_name (i := 5) sc_l_comb.nd rfl (by first | exact Or.inl rfl | exact Or.inr rfl)) (dss_cons (ds_set (i := 6) sc_l_comb.nd rfl (by first | exact Or.inl rfl | exact Or.inr rfl) (de_ix (de_lst (da_cons de_int (da_cons (de_op2 op_sub (o_I0 fun _ _ => .int _) (de_var 0) de_int) da_nil))) (de_op2 op_mod (o_I fun _ _ => .int _) (de_op2 op_fdiv (o_I fun _ _ => .int _) (de_var 5) de_int) de_int)))
    (dss_one (ds_set (i := 4) sc_l_comb.nd rfl (by first | exact Or.inl rfl | exact Or.inr rfl) (de_op2 op_addA o_add (de_var 4) (de_ix (de_lst (da_cons de_str (da_cons de_str da_nil))) (de_ty call_int1 o_int (by rfl) T.z_int (by decide +kernel) (da_cons (de_and (de_cmp (op_eqA hr.units) o_eq (de_op2 op_mod (o_I fun _ _ => .int _) (de_var 5) de_int) de_int (nomark _)) (de_one (de_cmp (op_neA hr.units) o_ne (de_var 3) (de_var 6) (nomark _)))) da_nil))))))))
    (dss_one (ds_app (i := 2) rfl (by first | exact Or.inl rfl | exact Or.inr (Or.inl rfl) | exact Or.inr (Or.inr rfl)) (de_var 4))))))
    (dss_one (ds_ret (de_var 2)))))
theorem ok_l_comb (T : Txt P K w mg) : FnOk P w K mg base CX0 1 T.a_l_comb T.fd_l_comb ["rows", "columns"] (spD K 2 phi_l_comb) :=
  fnD T.F_l_comb sc_l_comb fun cdv A outer s H E hr => ⟨W_l_comb, e_l_comb ▸ d_l_comb T  hr, fun ts Q hl h => v_l_comb ts Q h⟩
def Wt_l_kind : WS := (wSeq (wSet (wLst (wCons (wIsL ["NoWay", "NoAsk", "NoGrid", "NoRuns", "NoPlace"] "NoAsk" (wVar 0)) (wCons (wIsL ["NoWay", "NoAsk", "NoGrid", "NoRuns", "NoPlace"] "NoGrid" (wVar 0)) (wCons (wIsL ["NoWay", "NoAsk", "NoGrid", "NoRuns", "NoPlace"] "NoPlace" (wVar 0)) wNil)))) 1) (wSeq (wSet (wCat (wVar 1) (wLst (wCons (wIsL ["NoWay", "NoAsk", "NoGrid", "NoRuns", "NoPlace"] "NoRuns" (wVar 0)) (wCons (wIsL ["NoWay", "NoAsk", "NoGrid", "NoRuns", "NoPlace"] "NoWay" (wVar 0)) wNil)))) 1) (wSeq (wIfS (wOr (wNot (wTst (wIsL ["NoWay", "NoAsk", "NoGrid", "NoRuns", "NoPlace"] "TurnError" (wVar 0)))) (wOr (wNot (wTst (wIsL ["NoWay", "NoAsk", "NoGrid", "NoRuns", "NoPlace"] "ValueError" (wVar 0)))) (wTst (wOp2 gNe (wM_count (wLfirst (wVar 1)) (wCons (wC (.bool true)) wNil)) (wC (.int 1)))))) (wRet (wTup (wCons (wC (.str (Str.ofString "other"))) wNil))) wNext) (wSeq (wIfS (wTst (wIx (wVar 1) (wC (.int 1)))) (wRet (wIx (wLst (wCons (wTup (wCons (wC (.str (Str.ofString "grid"))) (wCons (wXf ["NoGrid"] "row" (wVar 0)) wNil))) (wCons (wTup (wCons (wC (.str (Str.ofString "other"))) wNil)) wNil))) (wCB gInt (wCons (wIsi "bool" (wXf ["NoGrid"] "row" (wVar 0))) wNil)))) wNext) (wSeq (wIfS (wTst (wIx (wVar 1) (wC (.int 2)))) (wRet (wTup (wCons (wC (.str (Str.ofString "place"))) (wCons (wXf ["NoRuns", "NoPlace"] "place" (wVar 0)) wNil)))) wNext) (wSeq (wIfS (wTst (wIx (wVar 1) (wC (.int 3)))) (wRet (wIx (wLst (wCons (wTup (wCons (wC (.str (Str.ofString "runs"))) (wCons (wXf ["NoRuns", "NoPlace"] "place" (wVar 0)) wNil))) (wCons (wTup (wCons (wC (.str (Str.ofString "other"))) wNil)) wNil))) (wCB gInt (wCons (wIsi "bool" (wXf ["NoRuns", "NoPlace"] "place" (wVar 0))) wNil)))) wNext) ((wRet (wTup (wCons (wIx (wLst (wCons (wC (.str (Str.ofString "ask"))) (wCons (wC (.str (Str.ofString ""))) (wCons (wC (.str (Str.ofString ""))) (wCons (wC (.str (Str.ofString ""))) (wCons (wC (.str (Str.ofString "way"))) wNil)))))) (wM_index (wLfirst (wVar 1)) (wCons (wC (.bool true)) wNil))) wNil))))))))))
theorem e_l_kind : Wt_l_kind = W_l_kind := rfl
theorem d_l_kind (T : Txt P K w mg)  {f : Addr} {cdv : Value} {A : Around} {outer : List Env} {s : Shared} {H : Hp} {E : XK} (hr : Room 0 (A.deeper (envOfC "_law_kind" (defScope S_l_kind) s.heap.objs.size f cdv))) : DSs (cxOf CX0 P w K mg base N_l_kind "_law_kind" (defScope S_l_kind) f cdv A outer s H E).nox (defBody S_l_kind) Wt_l_kind :=
  (dss_cons (ds_set (i := 1) sc_l_kind.nd rfl (by first | exact Or.inl rfl | exact Or.inr rfl) (de_lst (da_cons (de_isL (by rfl) T.z_isinstance (by rfl) T.k_NoAsk T.i_NoAsk (de_var 0)) (da_cons (de_isL (by rfl) T.z_isinstance (by rfl) T.k_NoGrid T.i_NoGrid (de_var 0)) (da_cons (de_isL (by rfl) T.z_isinstance (by rfl) T.k_NoPlace T.i_NoPlace (de_var 0)) da_nil)))))
    (dss_cons (ds_set (i := 1) sc_l_kind.nd rfl (by first | exact Or.inl rfl | exact Or.inr rfl) (de_cat (de_var 1) (de_lst (da_cons (de_isL (by rfl) T.z_isinstance (by rfl) T.k_NoRuns T.i_NoRuns (de_var 0)) (da_cons (de_isL (by rfl) T.z_isinstance (by rfl) T.k_NoWay T.i_NoWay (de_var 0)) da_nil)))))
    (dss_cons (ds_if (DW.dt (dw_or (dt_not (dt_val (de_isL (by rfl) T.z_isinstance (by rfl) T.k_TurnError T.i_TurnError (de_var 0)))) (dw_or (dt_not (dt_val (de_isLB (by rfl) T.z_isinstance (by rfl) T.z_ValueError (by decide +kernel) T.i_ValueError (de_var 0)))) (dw_or1 (dt_cmp (op_neA hr.units) o_ne (de_m_count hr (de_var 1) (da_cons de_bl da_nil)) de_int (nomark _)))))) (dss_one (ds_ret (de_tup (da_cons de_str da_nil)))) dss_nil)
    (dss_cons (ds_if (dt_val (de_ix (de_var 1) de_int)) (dss_one (ds_ret (de_ix (de_lst (da_cons (de_tup (da_cons de_str (da_cons (de_xf T.xf_row (de_var 0)) da_nil))) (da_cons (de_tup (da_cons de_str da_nil)) da_nil))) (de_ty call_int1 o_int (by rfl) T.z_int (by decide +kernel) (da_cons (de_isi (by rfl) T.z_isinstance (by rfl) T.z_bool (by decide +kernel) (de_xf T.xf_row (de_var 0))) da_nil))))) dss_nil)
    (dss_cons (ds_if (dt_val (de_ix (de_var 1) de_int)) (dss_one (ds_ret (de_tup (da_cons de_str (da_cons (de_xf T.xf_place (de_var 0)) da_nil))))) dss_nil)
    (dss_cons (ds_if (dt_val (de_ix (de_var 1) de_int)) (dss_one (ds_ret (de_ix (de_lst (da_cons (de_tup (da_cons de_str (da_cons (de_xf T.xf_place (de_var 0)) da_nil))) (da_cons (de_tup (da_cons de_str da_nil)) da_nil))) (de_ty call_int1 o_int (by rfl) T.z_int (by decide +kernel) (da_cons (de_isi (by rfl) T.z_isinstance (by rfl) T.z_bool (by decide +kernel) (de_xf T.xf_place (de_var 0))) da_nil))))) dss_nil)
    (dss_one (ds_ret (de_tup (da_cons (de_ix (de_lst (da_cons de_str (da_cons de_str (da_cons de_str (da_cons de_str (da_cons de_str da_nil)))))) (de_m_index hr (de_var 1) (da_cons de_bl da_nil))) da_nil))))))))))
theorem ok_l_kind (T : Txt P K w mg) : FnOk P w K mg base CX0 1 T.a_l_kind T.fd_l_kind ["caught"] (spD K 1 phi_l_kind) :=
  fnD T.F_l_kind sc_l_kind fun cdv A outer s H E hr => ⟨W_l_kind, e_l_kind ▸ d_l_kind T  hr, fun ts Q hl h => v_l_kind ts Q h⟩
def Wt_l_due : WS := (wSeq (wSet (wLst (wCons (wC (.str (Str.ofString ""))) wNil)) 1) (wSeq (wFor (wIterA (wVar 0)) (gvName 2) (wIfS (wTst (wOp2 gEq (wVar 2) (wC (.str (Str.ofString "\n"))))) (wApp 1 (wC (.str (Str.ofString "")))) (wSub 1 (wNeg (wC (.int 1))) (wOp2 gAdd (wIx (wVar 1) (wNeg (wC (.int 1)))) (wVar 2))))) (wSeq (wFor (wEnumA (wCons (wVar 1) wNil)) (gvTup 2 (gvCons (gvName 3) (gvCons (gvName 4) gvNil))) (wIfS (wOr (wTst (wOp2 gEq (wVar 4) (wC (.str (Str.ofString ""))))) (wOr (wTst (wOp2 gNe (wCB gLen (wCons (wVar 4) wNil)) (wCB gLen (wCons (wIx (wVar 1) (wC (.int 0))) wNil)))) (wTst (wOp2 gNe (wOp2 gAdd (wMS (fun a b => .int (Txt.count a b)) (wVar 4) (wCons (wC (.str (Str.ofString "."))) wNil)) (wMS (fun a b => .int (Txt.count a b)) (wVar 4) (wCons (wC (.str (Str.ofString "#"))) wNil))) (wCB gLen (wCons (wVar 4) wNil)))))) (wRet (wTup (wCons (wC (.str (Str.ofString "grid"))) (wCons (wVar 3) wNil)))) wNext)) ((wRet (wTupOf (wCons (wVar 1) wNil)))))))
theorem e_l_due : Wt_l_due = W_l_due := rfl
theorem d_l_due (T : Txt P K w mg)  {f : Addr} {cdv : Value} {A : Around} {outer : List Env} {s : Shared} {H : Hp} {E : XK} (hr : Room 0 (A.deeper (envOfC "_law_due" (defScope S_l_due) s.heap.objs.size f cdv))) : DSs (cxOf CX0 P w K mg base N_l_due "_law_due" (defScope S_l_due) f cdv A outer s H E).nox (defBody S_l_due) Wt_l_due :=
  (dss_cons (ds_set (i := 1) sc_l_due.nd rfl (by first | exact Or.inl rfl | exact Or.inr rfl) (de_lst (da_cons de_str da_nil)))
    (dss_cons (ds_for PassesOwn.never rfl (di_any (de_var 0)) (dg_name (i := 2) sc_l_due.nd rfl (by first | exact Or.inl rfl | exact Or.inr rfl)) (dss_one (ds_if (dt_cmp (op_eqA hr.units) o_eq (de_var 2) de_str (nomark _)) (dss_one (ds_app (i := 1) rfl (by first | exact Or.inl rfl | exact Or.inr (Or.inl rfl) | exact Or.inr (Or.inr rfl)) de_str)) (dss_one (ds_sub (i := 1) rfl (by first | exact Or.inl rfl | exact Or.inr (Or.inl rfl) | exact Or.inr (Or.inr rfl)) (de_neg de_int) (de_op2 op_addA o_add (de_ix (de_var 1) (de_neg de_int)) (de_var 2)))))))
    (dss_cons (ds_for PassesOwn.never rfl (di_enumA (by rfl) T.z_enumerate (da_cons (de_var 1) da_nil)) (dg_tup rfl (dgs_cons (dg_name (i := 3) sc_l_due.nd rfl (by first | exact Or.inl rfl | exact Or.inr rfl)) (dgs_cons (dg_name (i := 4) sc_l_due.nd rfl (by first | exact Or.inl rfl | exact Or.inr rfl)) dgs_nil))) (dss_one (ds_if (DW.dt (dw_or (dt_cmp (op_eqA hr.units) o_eq (de_var 4) de_str (nomark _)) (dw_or (dt_cmp (op_neA hr.units) o_ne (de_b call_len o_len (by rfl) T.z_len (by decide +kernel) (da_cons (de_var 4) da_nil)) (de_b call_len o_len (by rfl) T.z_len (by decide +kernel) (da_cons (de_ix (de_var 1) de_int) da_nil)) (nomark _)) (dw_or1 (dt_cmp (op_neA hr.units) o_ne (de_op2 op_addA o_add (de_m_countS (de_var 4) (da_cons de_str da_nil)) (de_m_countS (de_var 4) (da_cons de_str da_nil))) (de_b call_len o_len (by rfl) T.z_len (by decide +kernel) (da_cons (de_var 4) da_nil)) (nomark _)))))) (dss_one (ds_ret (de_tup (da_cons de_str (da_cons (de_var 3) da_nil))))) dss_nil)))
    (dss_one (ds_ret (de_tupOf (by rfl) T.z_tuple (by decide +kernel) (da_cons (de_var 1) da_nil)))))))
theorem ok_l_due (T : Txt P K w mg) : FnOk P w K mg base CX0 1 T.a_l_due T.fd_l_due ["text"] (spD K 1 phi_l_due) :=
  fnD T.F_l_due sc_l_due fun cdv A outer s H E hr => ⟨W_l_due, e_l_due ▸ d_l_due T  hr, fun ts Q hl h => v_l_due ts Q h⟩
def Wt_l_next : WS := (wSeq (wIfS (wAnd (wTst (wOp2 gEq (wIx (wVar 0) (wC (.int 2))) (wC (.int 0)))) (wTst (wOp2 (gI0 fun i j => .bool (decide (i < j))) (wIx (wVar 0) (wC (.int 1))) (wCB gLen (wCons (wIx (wVar 0) (wC (.int 0))) wNil))))) (wSeq (wSet (wIx (wIx (wVar 0) (wC (.int 0))) (wIx (wVar 0) (wC (.int 1)))) 2) (wSeq (wSub 0 (wC (.int 1)) (wOp2 gAdd (wIx (wVar 0) (wC (.int 1))) (wC (.int 1)))) (wSeq (wIfS (wTst (wOp2 (gI0 fun i j => .bool (decide (i < j))) (wVar 2) (wOp2 (gI (fun i j => .int (i ^ j.toNat)) CPow) (wC (.int 10)) (wC (.int 18))))) (wRet (wOp2 (gI (fun i j => .int (i % j)) fun _ j => 0 < j) (wCall 2 [false, false] phi_l_mix (wCons (wVar 2) (wCons (wIx (wVar 0) (wC (.int 1))) wNil))) (wVar 1))) wNext) ((wSub 0 (wC (.int 2)) (wVar 2)))))) wNext) (wSeq (wIfS (wTst (wOp2 (gI0 fun i j => .bool (decide (j < i))) (wIx (wVar 0) (wC (.int 2))) (wC (.int 0)))) (wSeq (wSet (wOp2 (gI (fun i j => .int (i % j)) fun _ j => 0 < j) (wIx (wVar 0) (wC (.int 2))) (wVar 1)) 3) (wSeq (wSub 0 (wC (.int 2)) (wOp2 (gI (fun i j => .int (i / j)) CDiv) (wIx (wVar 0) (wC (.int 2))) (wVar 1))) ((wRet (wVar 3))))) wNext) (wSeq (wSub 0 (wC (.int 3)) (wOp2 gAdd (wIx (wVar 0) (wC (.int 3))) (wC (.int 1)))) ((wRet (wOp2 (gI (fun i j => .int (i % j)) fun _ j => 0 < j) (wCall 2 [false, false] phi_l_mix (wCons (wIx (wVar 0) (wC (.int 4))) (wCons (wOp2 gAdd (wIx (wVar 0) (wC (.int 3))) (wC (.int 881))) wNil))) (wVar 1)))))))
theorem e_l_next : Wt_l_next = W_l_next := rfl
theorem d_l_next (T : Txt P K w mg) (G_l_mix : FnOk P w K mg base CX0 1 T.a_l_mix T.fd_l_mix ["cell", "k"] (spD K 2 phi_l_mix)) {f : Addr} {cdv : Value} {A : Around} {outer : List Env} {s : Shared} {H : Hp} {E : XK} (hr : Room 1 (A.deeper (envOfC "_law_next" (defScope S_l_next) s.heap.objs.size f cdv))) : DSs (cxOf CX0 P w K mg base N_l_next "_law_next" (defScope S_l_next) f cdv A outer s H E).nox (defBody S_l_next) Wt_l_next :=
  (dss_cons (ds_if (DW.dt (dw_and (dt_cmp (op_eqA hr.units) o_eq (de_ix (de_var 0) de_int) de_int (nomark _)) (dw_and1 (dt_cmp op_lt (o_I0 fun _ _ => .bl _) (de_ix (de_var 0) de_int) (de_b call_len o_len (by rfl) T.z_len (by decide +kernel) (da_cons (de_ix (de_var 0) de_int) da_nil)) (nomark _))))) (dss_cons (ds_set (i := 2) sc_l_next.nd rfl (by first | exact Or.inl rfl | exact Or.inr rfl) (de_ix (de_ix (de_var 0) de_int) (de_ix (de_var 0) de_int)))
    (dss_cons (ds_sub (i := 0) rfl (by first | exact Or.inl rfl | exact Or.inr (Or.inl rfl) | exact Or.inr (Or.inr rfl)) de_int (de_op2 op_addA o_add (de_ix (de_var 0) de_int) de_int))
    (dss_cons (ds_if (dt_cmp op_lt (o_I0 fun _ _ => .bl _) (de_var 2) (de_op2 op_pow (o_I fun _ _ => .int _) de_int de_int) (nomark _)) (dss_one (ds_ret (de_op2 op_mod (o_I fun _ _ => .int _) (de_call G_l_mix (hr.mono (by decide)) (by rfl) T.m_l_mix T.F_l_mix.kp T.B_l_mix [false, false] (da_cons (de_var 2) (da_cons (de_ix (de_var 0) de_int) da_nil))) (de_var 1)))) dss_nil)
    (dss_one (ds_sub (i := 0) rfl (by first | exact Or.inl rfl | exact Or.inr (Or.inl rfl) | exact Or.inr (Or.inr rfl)) de_int (de_var 2)))))) dss_nil)
    (dss_cons (ds_if (dt_cmp op_gt (o_I0 fun _ _ => .bl _) (de_ix (de_var 0) de_int) de_int (nomark _)) (dss_cons (ds_set (i := 3) sc_l_next.nd rfl (by first | exact Or.inl rfl | exact Or.inr rfl) (de_op2 op_mod (o_I fun _ _ => .int _) (de_ix (de_var 0) de_int) (de_var 1)))
    (dss_cons (ds_sub (i := 0) rfl (by first | exact Or.inl rfl | exact Or.inr (Or.inl rfl) | exact Or.inr (Or.inr rfl)) de_int (de_op2 op_fdiv (o_I fun _ _ => .int _) (de_ix (de_var 0) de_int) (de_var 1)))
    (dss_one (ds_ret (de_var 3))))) dss_nil)
    (dss_cons (ds_sub (i := 0) rfl (by first | exact Or.inl rfl | exact Or.inr (Or.inl rfl) | exact Or.inr (Or.inr rfl)) de_int (de_op2 op_addA o_add (de_ix (de_var 0) de_int) de_int))
    (dss_one (ds_ret (de_op2 op_mod (o_I fun _ _ => .int _) (de_call G_l_mix (hr.mono (by decide)) (by rfl) T.m_l_mix T.F_l_mix.kp T.B_l_mix [false, false] (da_cons (de_ix (de_var 0) de_int) (da_cons (de_op2 op_addA o_add (de_ix (de_var 0) de_int) de_int) da_nil))) (de_var 1)))))))
theorem ok_l_next (T : Txt P K w mg) : FnOk P w K mg base CX0 2 T.a_l_next T.fd_l_next ["deck", "many"] (spD K 2 phi_l_next) :=
  fnD T.F_l_next sc_l_next fun cdv A outer s H E hr => ⟨W_l_next, e_l_next ▸ d_l_next T (ok_l_mix T) hr, fun ts Q hl h => v_l_next ts Q h⟩
def Wt_l_grid : WS := (wSeq (wSet (wIx (wLst (wCons (wOp2 gAdd (wC (.int 1)) (wCall 2 [true, false] phi_l_next (wCons (wVar 0) (wCons (wVar 1) wNil)))) (wCons (wVar 1) (wCons (wOp2 gAdd (wC (.int 1)) (wCall 2 [true, false] phi_l_next (wCons (wVar 0) (wCons (wC (.int 3)) wNil)))) wNil)))) (wCall 2 [true, false] phi_l_next (wCons (wVar 0) (wCons (wC (.int 3)) wNil)))) 2) (wSeq (wSet (wIx (wLst (wCons (wOp2 gAdd (wC (.int 1)) (wCall 2 [true, false] phi_l_next (wCons (wVar 0) (wCons (wVar 1) wNil)))) (wCons (wVar 1) (wCons (wOp2 gAdd (wC (.int 1)) (wCall 2 [true, false] phi_l_next (wCons (wVar 0) (wCons (wC (.int 3)) wNil)))) wNil)))) (wCall 2 [true, false] phi_l_next (wCons (wVar 0) (wCons (wC (.int 3)) wNil)))) 3) (wSeq (wSet (wCall 2 [true, false] phi_l_next (wCons (wVar 0) (wCons (wC (.int 8)) wNil))) 4) (wSeq (wSet (wIx (wLst (wCons (wOp2 (gI (fun i j => .int (i ^ j.toNat)) CPow) (wC (.int 10)) (wC (.int 6))) (wCons (wC (.int 8)) (wCons (wC (.int 4)) (wCons (wC (.int 3)) (wCons (wC (.int 2)) (wCons (wC (.int 1)) (wCons (wC (.int 6)) (wCons (wC (.int 6)) wNil))))))))) (wVar 4)) 5) (wSeq (wSet (wLst wNil) 6) (wSeq (wFor (wRng1 (wCons (wVar 2) wNil)) (gvName 7) (wApp 6 (wJoin (wC (.str (Str.ofString ""))) (wLc [8] (wRng1 (wCons (wVar 3) wNil)) (gvName 8) wYes (wIx (wC (.str (Str.ofString ".#"))) (wCB gInt (wCons (wOp2 gEq (wCall 2 [true, false] phi_l_next (wCons (wVar 0) (wCons (wVar 5) wNil))) (wC (.int 0))) wNil))))))) (wSeq (wIfS (wTst (wOp2 gEq (wVar 4) (wC (.int 6)))) (wSet (wCall 2 [false, false] phi_l_comb (wCons (wVar 2) (wCons (wVar 3) wNil))) 6) wNext) (wSeq (wIfS (wTst (wOp2 gEq (wVar 4) (wC (.int 7)))) (wSet (wCall 2 [false, false] phi_l_spiral (wCons (wVar 2) (wCons (wVar 3) wNil))) 6) wNext) (wSeq (wIfS (wTst (wOp2 gEq (wCall 2 [true, false] phi_l_next (wCons (wVar 0) (wCons (wC (.int 2)) wNil))) (wC (.int 0)))) (wSet (wLc [7] (wIterA (wRev (wVar 6))) (gvName 7) wYes (wRev (wVar 7))) 6) wNext) ((wRet (wTupOf (wCons (wVar 6) wNil)))))))))))))
theorem e_l_grid : Wt_l_grid = W_l_grid := rfl
theorem d_l_grid (T : Txt P K w mg) (G_l_comb : FnOk P w K mg base CX0 1 T.a_l_comb T.fd_l_comb ["rows", "columns"] (spD K 2 phi_l_comb)) (G_l_next : FnOk P w K mg base CX0 2 T.a_l_next T.fd_l_next ["deck", "many"] (spD K 2 phi_l_next)) (G_l_spiral : FnOk P w K mg base CX0 1 T.a_l_spiral T.fd_l_spiral ["rows", "columns"] (spD K 2 phi_l_spiral)) {f : Addr} {cdv : Value} {A : Around} {outer : List Env} {s : Shared} {H : Hp} {E : XK} (hr : Room 2 (A.deeper (envOfC "_law_grid" (defScope S_l_grid) s.heap.objs.size f cdv))) : DSs (cxOf CX0 P w K mg base N_l_grid "_law_grid" (defScope S_l_grid) f cdv A outer s H E).nox (defBody S_l_grid) Wt_l_grid :=
  (dss_cons (ds_set (i := 2) sc_l_grid.nd rfl (by first | exact Or.inl rfl | exact Or.inr rfl) (de_ix (de_lst (da_cons (de_op2 op_addA o_add de_int (de_call G_l_next (hr.mono (by decide)) (by rfl) T.m_l_next T.F_l_next.kp T.B_l_next [true, false] (da_cons (de_var 0) (da_cons (de_var 1) da_nil)))) (da_cons (de_var 1) (da_cons (de_op2 op_addA o_add de_int (de_call G_l_next (hr.mono (by decide)) (by rfl) T.m_l_next T.F_l_next.kp T.B_l_next [true, false] (da_cons (de_var 0) (da_cons de_int da_nil)))) da_nil)))) (de_call G_l_next (hr.mono (by decide)) (by rfl) T.m_l_next T.F_l_next.kp T.B_l_next [true, false] (da_cons (de_var 0) (da_cons de_int da_nil)))))
    (dss_cons (ds_set (i := 3) sc_l_grid.nd rfl (by first | exact Or.inl rfl | exact Or.inr rfl) (de_ix (de_lst (da_cons (de_op2 op_addA o_add de_int (de_call G_l_next (hr.mono (by decide)) (by rfl) T.m_l_next T.F_l_next.kp T.B_l_next [true, false] (da_cons (de_var 0) (da_cons (de_var 1) da_nil)))) (da_cons (de_var 1) (da_cons (de_op2 op_addA o_add de_int (de_call G_l_next (hr.mono (by decide)) (by rfl) T.m_l_next T.F_l_next.kp T.B_l_next [true, false] (da_cons (de_var 0) (da_cons de_int da_nil)))) da_nil)))) (de_call G_l_next (hr.mono (by decide)) (by rfl) T.m_l_next T.F_l_next.kp T.B_l_next [true, false] (da_cons (de_var 0) (da_cons de_int da_nil)))))
    (dss_cons (ds_set (i := 4) sc_l_grid.nd rfl (by first | exact Or.inl rfl | exact Or.inr rfl) (de_call G_l_next (hr.mono (by decide)) (by rfl) T.m_l_next T.F_l_next.kp T.B_l_next [true, false] (da_cons (de_var 0) (da_cons de_int da_nil))))
    (dss_cons (ds_set (i := 5) sc_l_grid.nd rfl (by first | exact Or.inl rfl | exact Or.inr rfl) (de_ix (de_lst (da_cons (de_op2 op_pow (o_I fun _ _ => .int _) de_int de_int) (da_cons de_int (da_cons de_int (da_cons de_int (da_cons de_int (da_cons de_int (da_cons de_int (da_cons de_int da_nil))))))))) (de_var 4)))
    (dss_cons (ds_set (i := 6) sc_l_grid.nd rfl (by first | exact Or.inl rfl | exact Or.inr rfl) (de_lst da_nil))
    (dss_cons (ds_for PassesOwn.never rfl (di_rng1 (by rfl) T.z_range (da_cons (de_var 2) da_nil)) (dg_name (i := 7) sc_l_grid.nd rfl (by first | exact Or.inl rfl | exact Or.inr rfl)) (dss_one (ds_app (i := 6) rfl (by first | exact Or.inl rfl | exact Or.inr (Or.inl rfl) | exact Or.inr (Or.inr rfl)) (de_join de_str (de_lc (own := [((Str.ofString "column"), 8)]) (vs := [8]) rfl (by decide) rfl sc_l_grid.nd (di_rng1 (by rfl) T.z_range (da_cons (de_var 3) da_nil)) (blkOk_by (own := [((Str.ofString "column"), 8)]) (N := N_l_grid) (sc := defScope S_l_grid) (by decide +kernel)) (fun _ _ _ _ _ => (dgw_name (i := 8) (by decide) sc_l_grid.nd rfl (by first | exact Or.inl rfl | exact Or.inr rfl))) (fun _ _ _ _ _ => dts_nil) (fun _ _ _ _ _ => (de_ix de_str (de_ty call_int1 o_int (by rfl) T.z_int (by decide +kernel) (da_cons (de_cmp (op_eqA hr.units) o_eq (de_call G_l_next (hr.mono (by decide)) (by rfl) T.m_l_next T.F_l_next.kp T.B_l_next [true, false] (da_cons (de_var 0) (da_cons (de_var 5) da_nil))) de_int (nomark _)) da_nil)))))))))
    (dss_cons (ds_if (dt_cmp (op_eqA hr.units) o_eq (de_var 4) de_int (nomark _)) (dss_one (ds_set (i := 6) sc_l_grid.nd rfl (by first | exact Or.inl rfl | exact Or.inr rfl) (de_call G_l_comb (hr.mono (by decide)) (by rfl) T.m_l_comb T.F_l_comb.kp T.B_l_comb [false, false] (da_cons (de_var 2) (da_cons (de_var 3) da_nil))))) dss_nil)
    (dss_cons (ds_if (dt_cmp (op_eqA hr.units) o_eq (de_var 4) de_int (nomark _)) (dss_one (ds_set (i := 6) sc_l_grid.nd rfl (by first | exact Or.inl rfl | exact Or.inr rfl) (de_call G_l_spiral (hr.mono (by decide)) (by rfl) T.m_l_spiral T.F_l_spiral.kp T.B_l_spiral [false, false] (da_cons (de_var 2) (da_cons (de_var 3) da_nil))))) dss_nil)
    (dss_cons (ds_if (dt_cmp (op_eqA hr.units) o_eq (de_call G_l_next (hr.mono (by decide)) (by rfl) T.m_l_next T.F_l_next.kp T.B_l_next [true, false] (da_cons (de_var 0) (da_cons de_int da_nil))) de_int (nomark _)) (dss_one (ds_setLc (own := [((Str.ofString "row"), 7)]) (vs := [7]) rfl (by decide) rfl sc_l_grid.nd (i := 6) rfl rfl (sw_true rfl rfl rfl (by decide +kernel)) (di_any (de_rev (de_var 6))) (blkOk_by (own := [((Str.ofString "row"), 7)]) (N := N_l_grid) (sc := defScope S_l_grid) (by decide +kernel)) (fun _ _ _ _ _ => (dgw_name (i := 7) (by decide) sc_l_grid.nd rfl (by first | exact Or.inl rfl | exact Or.inr rfl))) (fun _ _ _ _ _ => dts_nil) (fun _ _ _ _ _ => (de_rev (de_var 7))))) dss_nil)
    (dss_one (ds_ret (de_tupOf (by rfl) T.z_tuple (by decide +kernel) (da_cons (de_var 6) da_nil)))))))))))))
theorem ok_l_grid (T : Txt P K w mg) : FnOk P w K mg base CX0 3 T.a_l_grid T.fd_l_grid ["deck", "most"] (spD K 2 phi_l_grid) :=
  fnD T.F_l_grid sc_l_grid fun cdv A outer s H E hr => ⟨W_l_grid, e_l_grid ▸ d_l_grid T (ok_l_comb T) (ok_l_next T) (ok_l_spiral T) hr, fun ts Q hl h => v_l_grid ts Q h⟩
def Wt_l_sign : WS := (wSeq (wSet (wC (.str (Str.ofString " !\"#$&'()*+,-./0123456789:;<=>?@ABCDEFGHIJKLMNOPQRSTUVWXYZ[\\]^_`abcdefghijklmnopqrstuvwxyz{|}~\n"))) 1) ((wRet (wIx (wLst (wCons (wIx (wVar 1) (wCall 2 [true, false] phi_l_next (wCons (wVar 0) (wCons (wCB gLen (wCons (wVar 1) wNil)) wNil)))) (wCons (wIx (wC (.str (Str.ofString ".#\n"))) (wCall 2 [true, false] phi_l_next (wCons (wVar 0) (wCons (wC (.int 3)) wNil)))) wNil))) (wCall 2 [true, false] phi_l_next (wCons (wVar 0) (wCons (wC (.int 2)) wNil)))))))
theorem e_l_sign : Wt_l_sign = W_l_sign := rfl
theorem d_l_sign (T : Txt P K w mg) (G_l_next : FnOk P w K mg base CX0 2 T.a_l_next T.fd_l_next ["deck", "many"] (spD K 2 phi_l_next)) {f : Addr} {cdv : Value} {A : Around} {outer : List Env} {s : Shared} {H : Hp} {E : XK} (hr : Room 2 (A.deeper (envOfC "_law_sign" (defScope S_l_sign) s.heap.objs.size f cdv))) : DSs (cxOf CX0 P w K mg base N_l_sign "_law_sign" (defScope S_l_sign) f cdv A outer s H E).nox (defBody S_l_sign) Wt_l_sign :=
  (dss_cons (ds_set (i := 1) sc_l_sign.nd rfl (by first | exact Or.inl rfl | exact Or.inr rfl) de_str)
    (dss_one (ds_ret (de_ix (de_lst (da_cons (de_ix (de_var 1) (de_call G_l_next (hr.mono (by decide)) (by rfl) T.m_l_next T.F_l_next.kp T.B_l_next [true, false] (da_cons (de_var 0) (da_cons (de_b call_len o_len (by rfl) T.z_len (by decide +kernel) (da_cons (de_var 1) da_nil)) da_nil)))) (da_cons (de_ix de_str (de_call G_l_next (hr.mono (by decide)) (by rfl) T.m_l_next T.F_l_next.kp T.B_l_next [true, false] (da_cons (de_var 0) (da_cons de_int da_nil)))) da_nil))) (de_call G_l_next (hr.mono (by decide)) (by rfl) T.m_l_next T.F_l_next.kp T.B_l_next [true, false] (da_cons (de_var 0) (da_cons de_int da_nil)))))))
theorem ok_l_sign (T : Txt P K w mg) : FnOk P w K mg base CX0 3 T.a_l_sign T.fd_l_sign ["deck"] (spD K 1 phi_l_sign) :=
  fnD T.F_l_sign sc_l_sign fun cdv A outer s H E hr => ⟨W_l_sign, e_l_sign ▸ d_l_sign T (ok_l_next T) hr, fun ts Q hl h => v_l_sign ts Q h⟩
def Wt_read_grid : WS := (wSeq (wSet (wM_split (wVar 0) (wCons (wC (.str (Str.ofString "\n"))) wNil)) 1) (wSeq (wFor (wEnumA (wCons (wVar 1) wNil)) (gvTup 2 (gvCons (gvName 2) (gvCons (gvName 3) gvNil))) (wIfS (wNot (wTst (wCall 2 [false, false] phi_is_row (wCons (wVar 3) (wCons (wCB gLen (wCons (wIx (wVar 1) (wC (.int 0))) wNil)) wNil))))) (wRaiseK "NoGrid" "row" okN (wVar 2)) wNext)) ((wRet (wTupOf (wCons (wVar 1) wNil))))))
theorem e_read_grid : Wt_read_grid = W_read_grid := rfl
theorem d_read_grid (T : Txt P K w mg) (G_is_row : FnOk P w K mg base CX0 1 T.a_is_row T.fd_is_row ["row", "length"] (spD K 2 phi_is_row)) {f : Addr} {cdv : Value} {A : Around} {outer : List Env} {s : Shared} {H : Hp} {E : XK} (hr : Room 3 (A.deeper (envOfC "read_grid" (defScope S_read_grid) s.heap.objs.size f cdv))) : DSsX (cxOf (L2.CX P w) P w K mg base N_read_grid "read_grid" (defScope S_read_grid) f cdv A outer s H E) (fun cls d _ H => E cls d H) (defBody S_read_grid) Wt_read_grid :=
  (dssx_cons (dsx_pure (ds_set (i := 1) sc_read_grid.nd rfl (by first | exact Or.inl rfl | exact Or.inr rfl) (de_m_split (de_var 0) (da_cons de_str da_nil))))
    (dssx_cons (dsx_for (passes_of rfl) rfl (di_enumA (by rfl) T.z_enumerate (da_cons (de_var 1) da_nil)) (dg_tup rfl (dgs_cons (dg_name (i := 2) sc_read_grid.nd rfl (by first | exact Or.inl rfl | exact Or.inr rfl)) (dgs_cons (dg_name (i := 3) sc_read_grid.nd rfl (by first | exact Or.inl rfl | exact Or.inr rfl)) dgs_nil))) (dssx_one (dsx_if (dt_not (dt_val (de_call G_is_row (hr.mono (by decide)) (by rfl) T.m_is_row T.F_is_row.kp T.B_is_row [false, false] (da_cons (de_var 3) (da_cons (de_b call_len o_len (by rfl) T.z_len (by decide +kernel) (da_cons (de_ix (de_var 1) de_int) da_nil)) da_nil))))) (dssx_one (dsx_raiseR rfl (takes_of rfl rfl rfl rfl) T.R_NoGrid (hr.mono (by decide)) (by rfl) (de_var 2))) dssx_nil)))
    (dssx_one (dsx_pure (ds_ret (de_tupOf (by rfl) T.z_tuple (by decide +kernel) (da_cons (de_var 1) da_nil)))))))
theorem ok_read_grid (T : Txt P K w mg) : FnOk P w K mg base (L2.CX P w) 4 T.a_read_grid T.fd_read_grid ["text"] (spX K 1 phi_read_grid) :=
  fnX T.F_read_grid sc_read_grid fun cdv A outer s H E hr => ⟨W_read_grid, e_read_grid ▸ d_read_grid T (ok_is_row T) hr, fun ts Q Xx hl h => v_read_grid ts Q Xx h⟩
def Wt_l_spoilt : WS := (wSeq (wFor (wRng1 (wCons (wOp2 gAdd (wC (.int 1)) (wCall 2 [true, false] phi_l_next (wCons (wVar 0) (wCons (wC (.int 3)) wNil)))) wNil)) (gvName 2) (wSeq (wSet (wIx (wLst (wCons (wCall 2 [true, false] phi_l_next (wCons (wVar 0) (wCons (wOp2 gAdd (wCB gLen (wCons (wVar 1) wNil)) (wC (.int 1))) wNil))) (wCons (wCB gMax (wCons (wC (.int 0)) (wCons (wOp2 (gI0 fun i j => .int (i - j)) (wCB gLen (wCons (wVar 1) wNil)) (wC (.int 1))) wNil))) (wCons (wC (.int 0)) wNil)))) (wCall 2 [true, false] phi_l_next (wCons (wVar 0) (wCons (wC (.int 3)) wNil)))) 3) (wSeq (wSet (wCall 1 [true] phi_l_sign (wCons (wVar 0) wNil)) 4) (wSeq (wSet (wM_split (wVar 1) (wCons (wC (.str (Str.ofString "\n"))) wNil)) 5) (wSeq (wSet (wCall 2 [true, false] phi_l_next (wCons (wVar 0) (wCons (wCB gLen (wCons (wVar 5) wNil)) wNil))) 6) (wSeq (wSet (wCall 2 [true, false] phi_l_next (wCons (wVar 0) (wCons (wCB gLen (wCons (wVar 5) wNil)) wNil))) 7) (wSeq (wSet (wCall 2 [true, false] phi_l_next (wCons (wVar 0) (wCons (wC (.int 7)) wNil))) 8) (wSeq (wIfS (wTst (wOp2 (gI0 fun i j => .bool (decide (i < j))) (wVar 8) (wC (.int 3)))) (wSet (wIx (wLst (wCons (wOp2 gAdd (wOp2 gAdd (wSl (wVar 1) wNoPart (wPart (wVar 3))) (wVar 4)) (wSl (wVar 1) (wPart (wVar 3)) wNoPart)) (wCons (wOp2 gAdd (wOp2 gAdd (wSl (wVar 1) wNoPart (wPart (wVar 3))) (wVar 4)) (wSl (wVar 1) (wPart (wOp2 gAdd (wVar 3) (wC (.int 1)))) wNoPart)) (wCons (wOp2 gAdd (wSl (wVar 1) wNoPart (wPart (wVar 3))) (wSl (wVar 1) (wPart (wOp2 gAdd (wVar 3) (wC (.int 1)))) wNoPart)) wNil)))) (wVar 8)) 1) (wIfS (wTst (wOp2 gEq (wVar 8) (wC (.int 3)))) (wPopAt 5 (wVar 6)) (wIfS (wTst (wOp2 gEq (wVar 8) (wC (.int 4)))) (wInsert 5 (wVar 7) (wIx (wVar 5) (wVar 6))) (wIfS (wTst (wOp2 gEq (wVar 8) (wC (.int 5)))) (wInsert 5 (wVar 6) (wC (.str (Str.ofString "")))) (wSub 5 (wVar 6) (wOp2 gAdd (wIx (wVar 5) (wVar 6)) (wIx (wC (.str (Str.ofString ".#"))) (wCall 2 [true, false] phi_l_next (wCons (wVar 0) (wCons (wC (.int 2)) wNil)))))))))) ((wIfS (wTst (wOp2 (gI0 fun i j => .bool (decide (j < i))) (wVar 8) (wC (.int 2)))) (wSet (wJoin (wC (.str (Str.ofString "\n"))) (wVar 5)) 1) wNext)))))))))) ((wRet (wVar 1))))
theorem e_l_spoilt : Wt_l_spoilt = W_l_spoilt := rfl
theorem d_l_spoilt (T : Txt P K w mg) (G_l_next : FnOk P w K mg base CX0 2 T.a_l_next T.fd_l_next ["deck", "many"] (spD K 2 phi_l_next)) (G_l_sign : FnOk P w K mg base CX0 3 T.a_l_sign T.fd_l_sign ["deck"] (spD K 1 phi_l_sign)) {f : Addr} {cdv : Value} {A : Around} {outer : List Env} {s : Shared} {H : Hp} {E : XK} (hr : Room 3 (A.deeper (envOfC "_law_spoilt" (defScope S_l_spoilt) s.heap.objs.size f cdv))) : DSs (cxOf CX0 P w K mg base N_l_spoilt "_law_spoilt" (defScope S_l_spoilt) f cdv A outer s H E).nox (defBody S_l_spoilt) Wt_l_spoilt :=
  (dss_cons (ds_for PassesOwn.never rfl (di_rng1 (by rfl) T.z_range (da_cons (de_op2 op_addA o_add de_int (de_call G_l_next (hr.mono (by decide)) (by rfl) T.m_l_next T.F_l_next.kp T.B_l_next [true, false] (da_cons (de_var 0) (da_cons de_int da_nil)))) da_nil)) (dg_name (i := 2) sc_l_spoilt.nd rfl (by first | exact Or.inl rfl | exact Or.inr rfl)) (dss_cons (ds_set (i := 3) sc_l_spoilt.nd rfl (by first | exact Or.inl rfl | exact Or.inr rfl) (de_ix (de_lst (da_cons (de_call G_l_next (hr.mono (by decide)) (by rfl) T.m_l_next T.F_l_next.kp T.B_l_next [true, false] (da_cons (de_var 0) (da_cons (de_op2 op_addA o_add (de_b call_len o_len (by rfl) T.z_len (by decide +kernel) (da_cons (de_var 1) da_nil)) de_int) da_nil))) (da_cons (de_b (call_max2 rfl) o_max (by rfl) T.z_max (by decide +kernel) (da_cons de_int (da_cons (de_op2 op_sub (o_I0 fun _ _ => .int _) (de_b call_len o_len (by rfl) T.z_len (by decide +kernel) (da_cons (de_var 1) da_nil)) de_int) da_nil))) (da_cons de_int da_nil)))) (de_call G_l_next (hr.mono (by decide)) (by rfl) T.m_l_next T.F_l_next.kp T.B_l_next [true, false] (da_cons (de_var 0) (da_cons de_int da_nil)))))
    (dss_cons (ds_set (i := 4) sc_l_spoilt.nd rfl (by first | exact Or.inl rfl | exact Or.inr rfl) (de_call G_l_sign (hr.mono (by decide)) (by rfl) T.m_l_sign T.F_l_sign.kp T.B_l_sign [true] (da_cons (de_var 0) da_nil)))
    (dss_cons (ds_set (i := 5) sc_l_spoilt.nd rfl (by first | exact Or.inl rfl | exact Or.inr rfl) (de_m_split (de_var 1) (da_cons de_str da_nil)))
    (dss_cons (ds_set (i := 6) sc_l_spoilt.nd rfl (by first | exact Or.inl rfl | exact Or.inr rfl) (de_call G_l_next (hr.mono (by decide)) (by rfl) T.m_l_next T.F_l_next.kp T.B_l_next [true, false] (da_cons (de_var 0) (da_cons (de_b call_len o_len (by rfl) T.z_len (by decide +kernel) (da_cons (de_var 5) da_nil)) da_nil))))
    (dss_cons (ds_set (i := 7) sc_l_spoilt.nd rfl (by first | exact Or.inl rfl | exact Or.inr rfl) (de_call G_l_next (hr.mono (by decide)) (by rfl) T.m_l_next T.F_l_next.kp T.B_l_next [true, false] (da_cons (de_var 0) (da_cons (de_b call_len o_len (by rfl) T.z_len (by decide +kernel) (da_cons (de_var 5) da_nil)) da_nil))))
    (dss_cons (ds_set (i := 8) sc_l_spoilt.nd rfl (by first | exact Or.inl rfl | exact Or.inr rfl) (de_call G_l_next (hr.mono (by decide)) (by rfl) T.m_l_next T.F_l_next.kp T.B_l_next [true, false] (da_cons (de_var 0) (da_cons de_int da_nil))))
    (dss_cons (ds_if (dt_cmp op_lt (o_I0 fun _ _ => .bl _) (de_var 8) de_int (nomark _)) (dss_one (ds_set (i := 1) sc_l_spoilt.nd rfl (by first | exact Or.inl rfl | exact Or.inr rfl) (de_ix (de_lst (da_cons (de_op2 op_addA o_add (de_op2 op_addA o_add (de_sl (de_var 1) do_none (do_some (de_var 3))) (de_var 4)) (de_sl (de_var 1) (do_some (de_var 3)) do_none)) (da_cons (de_op2 op_addA o_add (de_op2 op_addA o_add (de_sl (de_var 1) do_none (do_some (de_var 3))) (de_var 4)) (de_sl (de_var 1) (do_some (de_op2 op_addA o_add (de_var 3) de_int)) do_none)) (da_cons (de_op2 op_addA o_add (de_sl (de_var 1) do_none (do_some (de_var 3))) (de_sl (de_var 1) (do_some (de_op2 op_addA o_add (de_var 3) de_int)) do_none)) da_nil)))) (de_var 8)))) (dss_one (ds_if (dt_cmp (op_eqA hr.units) o_eq (de_var 8) de_int (nomark _)) (dss_one (ds_popAt (i := 5) rfl (by first | exact Or.inl rfl | exact Or.inr (Or.inl rfl) | exact Or.inr (Or.inr rfl)) (de_var 6))) (dss_one (ds_if (dt_cmp (op_eqA hr.units) o_eq (de_var 8) de_int (nomark _)) (dss_one (ds_insert (i := 5) rfl (by first | exact Or.inl rfl | exact Or.inr (Or.inl rfl) | exact Or.inr (Or.inr rfl)) (de_var 7) (de_ix (de_var 5) (de_var 6)))) (dss_one (ds_if (dt_cmp (op_eqA hr.units) o_eq (de_var 8) de_int (nomark _)) (dss_one (ds_insert (i := 5) rfl (by first | exact Or.inl rfl | exact Or.inr (Or.inl rfl) | exact Or.inr (Or.inr rfl)) (de_var 6) de_str)) (dss_one (ds_sub (i := 5) rfl (by first | exact Or.inl rfl | exact Or.inr (Or.inl rfl) | exact Or.inr (Or.inr rfl)) (de_var 6) (de_op2 op_addA o_add (de_ix (de_var 5) (de_var 6)) (de_ix de_str (de_call G_l_next (hr.mono (by decide)) (by rfl) T.m_l_next T.F_l_next.kp T.B_l_next [true, false] (da_cons (de_var 0) (da_cons de_int da_nil))))))))))))))
    (dss_one (ds_if (dt_cmp op_gt (o_I0 fun _ _ => .bl _) (de_var 8) de_int (nomark _)) (dss_one (ds_set (i := 1) sc_l_spoilt.nd rfl (by first | exact Or.inl rfl | exact Or.inr rfl) (de_join de_str (de_var 5)))) dss_nil))))))))))
    (dss_one (ds_ret (de_var 1))))
theorem ok_l_spoilt (T : Txt P K w mg) : FnOk P w K mg base CX0 4 T.a_l_spoilt T.fd_l_spoilt ["deck", "text"] (spD K 2 phi_l_spoilt) :=
  fnD T.F_l_spoilt sc_l_spoilt fun cdv A outer s H E hr => ⟨W_l_spoilt, e_l_spoilt ▸ d_l_spoilt T (ok_l_next T) (ok_l_sign T) hr, fun ts Q hl h => v_l_spoilt ts Q h⟩
def Wt_l_right : WS := (wSeq (wSet (wCall 1 [false] phi_l_due (wCons (wVar 0) wNil)) 1) (wSeq (wSet (wOp2 gEq (wIx (wVar 1) (wC (.int 0))) (wC (.str (Str.ofString "grid")))) 2) (wSeq (wIfS (wAnd (wNot (wTst (wVar 2))) (wOr (wTst (wOp2 (gI0 fun i j => .bool (decide (j < i))) (wCB gLen (wCons (wVar 1) wNil)) (wC (.int 12)))) (wTst (wOp2 (gI0 fun i j => .bool (decide (j < i))) (wCB gLen (wCons (wIx (wVar 1) (wC (.int 0))) wNil)) (wC (.int 12)))))) (wRet (wC (.bool true))) wNext) (wSeq (wFor (wRng1 (wCons (wC (.int 2)) wNil)) (gvName 3) (wSeq (wSet (wC .none) 4) (wSeq (wSet (wC .none) 5) (wSeq (wTry (catL ["NoWay", "NoAsk", "NoGrid", "NoRuns", "NoPlace"]) 6 5 (wSetX (wCallX 1 [false] phi_read_grid (wCons (wVar 0) wNil)) 4)) (wSeq (wIfS (wAnd (wTst (wVar 2)) (wTst (wOp2 gNe (wCall 1 [false] phi_l_kind (wCons (wVar 5) wNil)) (wVar 1)))) (wRet (wC (.bool false))) wNext) ((wIfS (wAnd (wNot (wTst (wVar 2))) (wOr (wNot (wTst (wIsi "tuple" (wVar 4)))) (wTst (wOp2 gNe (wVar 4) (wVar 1))))) (wRet (wC (.bool false))) wNext))))))) ((wRet (wC (.bool true))))))))
theorem e_l_right : Wt_l_right = W_l_right := rfl
theorem d_l_right (T : Txt P K w mg) (G_l_due : FnOk P w K mg base CX0 1 T.a_l_due T.fd_l_due ["text"] (spD K 1 phi_l_due)) (G_l_kind : FnOk P w K mg base CX0 1 T.a_l_kind T.fd_l_kind ["caught"] (spD K 1 phi_l_kind)) (G_read_grid : FnOk P w K mg base (L2.CX P w) 4 T.a_read_grid T.fd_read_grid ["text"] (spX K 1 phi_read_grid)) {f : Addr} {cdv : Value} {A : Around} {outer : List Env} {s : Shared} {H : Hp} {E : XK} (hr : Room 4 (A.deeper (envOfC "_law_right" (defScope S_l_right) s.heap.objs.size f cdv))) : DSs (cxOf CX0 P w K mg base N_l_right "_law_right" (defScope S_l_right) f cdv A outer s H E).nox (defBody S_l_right) Wt_l_right :=
  (dss_cons (ds_set (i := 1) sc_l_right.nd rfl (by first | exact Or.inl rfl | exact Or.inr rfl) (de_call G_l_due (hr.mono (by decide)) (by rfl) T.m_l_due T.F_l_due.kp T.B_l_due [false] (da_cons (de_var 0) da_nil)))
    (dss_cons (ds_set (i := 2) sc_l_right.nd rfl (by first | exact Or.inl rfl | exact Or.inr rfl) (de_cmp (op_eqA hr.units) o_eq (de_ix (de_var 1) de_int) de_str (nomark _)))
    (dss_cons (ds_if (DW.dt (dw_and (dt_not (dt_val (de_var 2))) (dw_and1 (DW.dt (dw_or (dt_cmp op_gt (o_I0 fun _ _ => .bl _) (de_b call_len o_len (by rfl) T.z_len (by decide +kernel) (da_cons (de_var 1) da_nil)) de_int (nomark _)) (dw_or1 (dt_cmp op_gt (o_I0 fun _ _ => .bl _) (de_b call_len o_len (by rfl) T.z_len (by decide +kernel) (da_cons (de_ix (de_var 1) de_int) da_nil)) de_int (nomark _)))))))) (dss_one (ds_ret de_bl)) dss_nil)
    (dss_cons (ds_for PassesOwn.never rfl (di_rng1 (by rfl) T.z_range (da_cons de_int da_nil)) (dg_name (i := 3) sc_l_right.nd rfl (by first | exact Or.inl rfl | exact Or.inr rfl)) (dss_cons (ds_set (i := 4) sc_l_right.nd rfl (by first | exact Or.inl rfl | exact Or.inr rfl) de_non)
    (dss_cons (ds_set (i := 5) sc_l_right.nd rfl (by first | exact Or.inl rfl | exact Or.inr rfl) de_non)
    (dss_cons (ds_try (i := 6) (j := 5) (c := .ref T.C_TurnError) rfl rfl rfl sc_l_right.nd rfl rfl (by decide) rfl rfl ⟨by rfl, by decide, .inl T.k_TurnError⟩ T.t_TurnError (fun W pn xe tk po => (dssx_one (dsx_set (i := 4) sc_l_right.nd rfl (by first | exact Or.inl rfl | exact Or.inr rfl) (dex_call G_read_grid tk (hr.mono (by decide)) (by rfl) T.m_read_grid T.F_read_grid.kp T.B_read_grid [false] (da_cons (de_var 0) da_nil))))))
    (dss_cons (ds_if (DW.dt (dw_and (dt_val (de_var 2)) (dw_and1 (dt_cmp (op_neA hr.units) o_ne (de_call G_l_kind (hr.mono (by decide)) (by rfl) T.m_l_kind T.F_l_kind.kp T.B_l_kind [false] (da_cons (de_var 5) da_nil)) (de_var 1) (nomark _))))) (dss_one (ds_ret de_bl)) dss_nil)
    (dss_one (ds_if (DW.dt (dw_and (dt_not (dt_val (de_var 2))) (dw_and1 (DW.dt (dw_or (dt_not (dt_val (de_isi (by rfl) T.z_isinstance (by rfl) T.z_tuple (by decide +kernel) (de_var 4)))) (dw_or1 (dt_cmp (op_neA hr.units) o_ne (de_var 4) (de_var 1) (nomark _)))))))) (dss_one (ds_ret de_bl)) dss_nil)))))))
    (dss_one (ds_ret de_bl))))))
theorem ok_l_right (T : Txt P K w mg) : FnOk P w K mg base CX0 5 T.a_l_right T.fd_l_right ["text"] (spD K 1 phi_l_right) :=
  fnD T.F_l_right sc_l_right fun cdv A outer s H E hr => ⟨W_l_right, e_l_right ▸ d_l_right T (ok_l_due T) (ok_l_kind T) (ok_read_grid T) hr, fun ts Q hl h => v_l_right ts Q h⟩
def Wt_law : WS := (wSeq (wSet (wCall 1 [false] phi_l_deck (wCons (wVar 0) wNil)) 1) (wSeq (wFor (wRng1 (wCons (wC (.int 6)) wNil)) (gvName 2) (wSeq (wSet (wJoin (wC (.str (Str.ofString "\n"))) (wCall 2 [true, false] phi_l_grid (wCons (wVar 1) (wCons (wC (.int 12)) wNil)))) 3) (wSeq (wSet (wLc [5] (wRng1 (wCons (wC (.int 6)) wNil)) (gvName 5) wYes (wCall 2 [true, false] phi_l_spoilt (wCons (wVar 1) (wCons (wVar 3) wNil)))) 4) (wSeq (wSet (wCat (wVar 4) (wLst (wCons (wOp2 gAdd (wVar 3) (wC (.str (Str.ofString "\n")))) (wCons (wOp2 gAdd (wC (.str (Str.ofString "\n"))) (wVar 3)) (wCons (wOp2 gAdd (wC (.str (Str.ofString " "))) (wVar 3)) (wCons (wOp2 gAdd (wVar 3) (wC (.str (Str.ofString ".")))) (wCons (wOp2 gAdd (wOp2 gAdd (wVar 3) (wC (.str (Str.ofString "\n")))) (wSl (wVar 3) wNoPart (wPart (wC (.int 1))))) (wCons (wVar 3) wNil)))))))) 4) ((wIfS (wTst (wOp2 gNe (wLc [6] (wIterA (wCat (wVar 4) (wLst (wCons (wCall 1 [true] phi_l_sign (wCons (wVar 1) wNil)) wNil)))) (gvName 6) (wNot (wTst (wCall 1 [false] phi_l_right (wCons (wVar 6) wNil)))) (wVar 6)) (wLst wNil))) (wRet (wC (.bool false))) wNext)))))) (wSeq (wSet (wIx (wLst (wCons (wC (.str (Str.ofString " No such: 7"))) (wCons (wC (.str (Str.ofString ""))) (wCons (wC (.str (Str.ofString "a  B"))) (wCons (wOp2 gAdd (wOp2 gMulS (wC (.str (Str.ofString "x"))) (wC (.int 60))) (wC (.str (Str.ofString "\n")))) wNil))))) (wCall 2 [true, false] phi_l_next (wCons (wVar 1) (wCons (wC (.int 4)) wNil)))) 7) (wSeq (wIfS (wOr (wTst (wOp2 gNe (wLst (wCons (wStrX (wVar 7)) (wCons (wStrX (wVar 7)) wNil))) (wRep (wLst (wCons (wVar 7) wNil)) (wC (.int 2))))) (wTst (wOp2 gNe (wCall 1 [false] phi_l_kind (wCons (wMkK "NoGrid" "row" okN (wC (.int 5))) wNil)) (wTup (wCons (wC (.str (Str.ofString "grid"))) (wCons (wC (.int 5)) wNil)))))) (wRet (wC (.bool false))) wNext) (wSeq (wIfS (wOr (wTst (wOp2 gNe (wCall 1 [false] phi_l_kind (wCons (wMkK "NoRuns" "place" okN (wC (.int 4))) wNil)) (wTup (wCons (wC (.str (Str.ofString "runs"))) (wCons (wC (.int 4)) wNil))))) (wTst (wOp2 gNe (wCall 1 [false] phi_l_kind (wCons (wMkK "NoPlace" "place" okP (wTup (wCons (wC (.int 3)) (wCons (wNeg (wC (.int 1))) wNil)))) wNil)) (wTup (wCons (wC (.str (Str.ofString "place"))) (wCons (wTup (wCons (wC (.int 3)) (wCons (wNeg (wC (.int 1))) wNil))) wNil)))))) (wRet (wC (.bool false))) wNext) ((wRet (wOp2 gEq (wLc [3] (wIterA (wLst (wCons (wC (.str (Str.ofString ""))) (wCons (wC (.str (Str.ofString "\n"))) (wCons (wC (.str (Str.ofString "..\n."))) (wCons (wC (.str (Str.ofString ".\n.."))) (wCons (wC (.str (Str.ofString "./#"))) (wCons (wC (.str (Str.ofString ".\n\n."))) (wCons (wOp2 gMulS (wC (.str (Str.ofString "~"))) (wC (.int 400))) wNil))))))))) (gvName 3) (wNot (wTst (wCall 1 [false] phi_l_right (wCons (wVar 3) wNil)))) (wVar 3)) (wLst wNil)))))))))
theorem e_law : Wt_law = W_law := rfl
theorem d_law (T : Txt P K w mg) (G_l_deck : FnOk P w K mg base CX0 1 T.a_l_deck T.fd_l_deck ["script"] (spD K 1 phi_l_deck)) (G_l_grid : FnOk P w K mg base CX0 3 T.a_l_grid T.fd_l_grid ["deck", "most"] (spD K 2 phi_l_grid)) (G_l_kind : FnOk P w K mg base CX0 1 T.a_l_kind T.fd_l_kind ["caught"] (spD K 1 phi_l_kind)) (G_l_next : FnOk P w K mg base CX0 2 T.a_l_next T.fd_l_next ["deck", "many"] (spD K 2 phi_l_next)) (G_l_right : FnOk P w K mg base CX0 5 T.a_l_right T.fd_l_right ["text"] (spD K 1 phi_l_right)) (G_l_sign : FnOk P w K mg base CX0 3 T.a_l_sign T.fd_l_sign ["deck"] (spD K 1 phi_l_sign)) (G_l_spoilt : FnOk P w K mg base CX0 4 T.a_l_spoilt T.fd_l_spoilt ["deck", "text"] (spD K 2 phi_l_spoilt)) {f : Addr} {cdv : Value} {A : Around} {outer : List Env} {s : Shared} {H : Hp} {E : XK} (hr : Room 5 (A.deeper (envOfC "law" (defScope S_law) s.heap.objs.size f cdv))) : DSs (cxOf CX0 P w K mg base N_law "law" (defScope S_law) f cdv A outer s H E).nox (defBody S_law) Wt_law :=
  (dss_cons (ds_set (i := 1) sc_law.nd rfl (by first | exact Or.inl rfl | exact Or.inr rfl) (de_call G_l_deck (hr.mono (by decide)) (by rfl) T.m_l_deck T.F_l_deck.kp T.B_l_deck [false] (da_cons (de_var 0) da_nil)))
    (dss_cons (ds_for PassesOwn.never rfl (di_rng1 (by rfl) T.z_range (da_cons de_int da_nil)) (dg_name (i := 2) sc_law.nd rfl (by first | exact Or.inl rfl | exact Or.inr rfl)) (dss_cons (ds_set (i := 3) sc_law.nd rfl (by first | exact Or.inl rfl | exact Or.inr rfl) (de_join de_str (de_call G_l_grid (hr.mono (by decide)) (by rfl) T.m_l_grid T.F_l_grid.kp T.B_l_grid [true, false] (da_cons (de_var 1) (da_cons de_int da_nil)))))
    (dss_cons (ds_setLc (own := [((Str.ofString "k"), 5)]) (vs := [5]) rfl (by decide) rfl sc_law.nd (i := 4) rfl rfl (sw_true rfl rfl rfl (by decide +kernel)) (di_rng1 (by rfl) T.z_range (da_cons de_int da_nil)) (blkOk_by (own := [((Str.ofString "k"), 5)]) (N := N_law) (sc := defScope S_law) (by decide +kernel)) (fun _ _ _ _ _ => (dgw_name (i := 5) (by decide) sc_law.nd rfl (by first | exact Or.inl rfl | exact Or.inr rfl))) (fun _ _ _ _ _ => dts_nil) (fun _ _ _ _ _ => (de_call G_l_spoilt (hr.mono (by decide)) (by rfl) T.m_l_spoilt T.F_l_spoilt.kp T.B_l_spoilt [true, false] (da_cons (de_var 1) (da_cons (de_var 3) da_nil)))))
    (dss_cons (ds_set (i := 4) sc_law.nd rfl (by first | exact Or.inl rfl | exact Or.inr rfl) (de_cat (de_var 4) (de_lst (da_cons (de_op2 op_addA o_add (de_var 3) de_str) (da_cons (de_op2 op_addA o_add de_str (de_var 3)) (da_cons (de_op2 op_addA o_add de_str (de_var 3)) (da_cons (de_op2 op_addA o_add (de_var 3) de_str) (da_cons (de_op2 op_addA o_add (de_op2 op_addA o_add (de_var 3) de_str) (de_sl (de_var 3) do_none (do_some de_int))) (da_cons (de_var 3) da_nil)))))))))
    (dss_one (ds_if (dt_cmp (op_neA hr.units) o_ne (de_lc (own := [((Str.ofString "odd"), 6)]) (vs := [6]) rfl (by decide) rfl sc_law.nd (di_any (de_cat (de_var 4) (de_lst (da_cons (de_call G_l_sign (hr.mono (by decide)) (by rfl) T.m_l_sign T.F_l_sign.kp T.B_l_sign [true] (da_cons (de_var 1) da_nil)) da_nil)))) (blkOk_by (own := [((Str.ofString "odd"), 6)]) (N := N_law) (sc := defScope S_law) (by decide +kernel)) (fun _ _ _ _ _ => (dgw_name (i := 6) (by decide) sc_law.nd rfl (by first | exact Or.inl rfl | exact Or.inr rfl))) (fun _ _ _ _ _ => (dts_one (dt_not (dt_val (de_call G_l_right (hr.mono (by decide)) (by rfl) T.m_l_right T.F_l_right.kp T.B_l_right [false] (da_cons (de_var 6) da_nil)))))) (fun _ _ _ _ _ => (de_var 6))) (de_lst da_nil) (nomark _)) (dss_one (ds_ret de_bl)) dss_nil))))))
    (dss_cons (ds_set (i := 7) sc_law.nd rfl (by first | exact Or.inl rfl | exact Or.inr rfl) (de_ix (de_lst (da_cons de_str (da_cons de_str (da_cons de_str (da_cons (de_op2 op_addA o_add (de_op2 op_mulS o_mulS de_str de_int) de_str) da_nil))))) (de_call G_l_next (hr.mono (by decide)) (by rfl) T.m_l_next T.F_l_next.kp T.B_l_next [true, false] (da_cons (de_var 1) (da_cons de_int da_nil)))))
    (dss_cons (ds_if (DW.dt (dw_or (dt_cmp (op_neA hr.units) o_ne (de_lst (da_cons (de_strX T.s_NoAsk hr (by rfl) T.z_str (by rfl) (de_var 7)) (da_cons (de_strX T.s_NoWay hr (by rfl) T.z_str (by rfl) (de_var 7)) da_nil))) (de_rep (de_lst (da_cons (de_var 7) da_nil)) de_int) (nomark _)) (dw_or1 (dt_cmp (op_neA hr.units) o_ne (de_call G_l_kind (hr.mono (by decide)) (by rfl) T.m_l_kind T.F_l_kind.kp T.B_l_kind [false] (da_cons (de_mkR T.R_NoGrid (hr.mono (by decide)) (by rfl) de_int) da_nil)) (de_tup (da_cons de_str (da_cons de_int da_nil))) (nomark _))))) (dss_one (ds_ret de_bl)) dss_nil)
    (dss_cons (ds_if (DW.dt (dw_or (dt_cmp (op_neA hr.units) o_ne (de_call G_l_kind (hr.mono (by decide)) (by rfl) T.m_l_kind T.F_l_kind.kp T.B_l_kind [false] (da_cons (de_mkR T.R_NoRuns (hr.mono (by decide)) (by rfl) de_int) da_nil)) (de_tup (da_cons de_str (da_cons de_int da_nil))) (nomark _)) (dw_or1 (dt_cmp (op_neA hr.units) o_ne (de_call G_l_kind (hr.mono (by decide)) (by rfl) T.m_l_kind T.F_l_kind.kp T.B_l_kind [false] (da_cons (de_mkR T.R_NoPlace (hr.mono (by decide)) (by rfl) (de_tup (da_cons de_int (da_cons (de_neg de_int) da_nil)))) da_nil)) (de_tup (da_cons de_str (da_cons (de_tup (da_cons de_int (da_cons (de_neg de_int) da_nil))) da_nil))) (nomark _))))) (dss_one (ds_ret de_bl)) dss_nil)
    (dss_one (ds_ret (de_cmp (op_eqA hr.units) o_eq (de_lc (own := [((Str.ofString "text"), 3)]) (vs := [3]) rfl (by decide) rfl sc_law.nd (di_any (de_lst (da_cons de_str (da_cons de_str (da_cons de_str (da_cons de_str (da_cons de_str (da_cons de_str (da_cons (de_op2 op_mulS o_mulS de_str de_int) da_nil))))))))) (blkOk_by (own := [((Str.ofString "text"), 3)]) (N := N_law) (sc := defScope S_law) (by decide +kernel)) (fun _ _ _ _ _ => (dgw_name (i := 3) (by decide) sc_law.nd rfl (by first | exact Or.inl rfl | exact Or.inr rfl))) (fun _ _ _ _ _ => (dts_one (dt_not (dt_val (de_call G_l_right (hr.mono (by decide)) (by rfl) T.m_l_right T.F_l_right.kp T.B_l_right [false] (da_cons (de_var 3) da_nil)))))) (fun _ _ _ _ _ => (de_var 3))) (de_lst da_nil) (nomark _)))))))))
theorem ok_law (T : Txt P K w mg) : FnOk P w K mg base CX0 6 T.a_law T.fd_law ["script"] (spD K 1 phi_law) :=
  fnD T.F_law sc_law fun cdv A outer s H E hr => ⟨W_law, e_law ▸ d_law T (ok_l_deck T) (ok_l_grid T) (ok_l_kind T) (ok_l_next T) (ok_l_right T) (ok_l_sign T) (ok_l_spoilt T) hr, fun ts Q hl h => v_law ts Q h⟩
end
def spLaw (K : PySem.W.Frag) : Sp := fun vs H Q _ => ∃ (a : Addr) (ns : List Int), vs = [.ref a] ∧ SqL K H a (ns.map V.int) ∧ ns.length ≤ 63 ∧ ∀ H', Q (.bl true) H'
theorem law_imp {K : PySem.W.Frag} (vs : List V) (H : Hp) (Q : VK) (E : XK) (h : spLaw K vs H Q E) : spD K 1 phi_law vs H Q E := by
  obtain ⟨a, ns, rfl, hS, hl, q⟩ := h
  refine ⟨rfl, fun b => if b = a then H b else none, [.fz (.list (ns.map .int))], padd z0 z0, fun b o e => ?_, .cons (own_fz (.lst (xs := ns.map V.int) ?_ (dpa_ints ns))) .nil, ⟨fun a => ⟨by unfold padd z0; omega, fun z => absurd rfl z⟩⟩, fun r ts' => r = .fz (.bool true), ⟨ns, rfl, hl, rfl⟩, fun r ts' e v H' F' mv m' o _ _ => ?_⟩
  · have e' : (if b = a then H b else none) = some o := e
    split at e'
    · exact e'
    · cases e'
  · rcases hS with (h | ⟨o, h⟩) | h
    · exact .inl (.inl ((if_pos rfl).trans h))
    · exact .inl (.inr ⟨o, (if_pos rfl).trans h⟩)
    · exact .inr h
  · subst e
    cases o.1
    exact q H'
theorem all_mk {l : PySem.W.OpenLaw} {w : World} {K : PySem.W.Frag} {h : Heap} {mg : Str → Option Value} {fa : Addr} (X : K.In h) (G : h.Ns mainGlobals mg) (hfa : mg "law" = some (.ref fa))
    {f0 : Addr} {od0 an0 : Option Addr} {sl0 : Array (Option Value)} {oc0 kV0 dc0 pm0 cd0 ct0 : Value} (a0 : PySem.W.nsIn K mainGlobals "is_row" = some (some (.ref f0))) (l0 : K.lookup f0 = some ⟨oc0, od0, .func (PySem.W.fnOf "is_row" "is_row" (defArgs S_is_row) (defBody S_is_row) (defScope S_is_row) .none kV0 dc0 pm0 an0 cd0 ct0), sl0⟩) (c0 : PySem.W.codeIn K cd0 "is_row" = true) (k0 : PySem.W.keepIn K (.ref f0) = true)
    {f1 : Addr} {od1 an1 : Option Addr} {sl1 : Array (Option Value)} {oc1 kV1 dc1 pm1 cd1 ct1 : Value} (a1 : PySem.W.nsIn K mainGlobals "_law_mix" = some (some (.ref f1))) (l1 : K.lookup f1 = some ⟨oc1, od1, .func (PySem.W.fnOf "_law_mix" "_law_mix" (defArgs S_l_mix) (defBody S_l_mix) (defScope S_l_mix) .none kV1 dc1 pm1 an1 cd1 ct1), sl1⟩) (c1 : PySem.W.codeIn K cd1 "_law_mix" = true) (k1 : PySem.W.keepIn K (.ref f1) = true)
    {f2 : Addr} {od2 an2 : Option Addr} {sl2 : Array (Option Value)} {oc2 kV2 dc2 pm2 cd2 ct2 : Value} (a2 : PySem.W.nsIn K mainGlobals "_law_deck" = some (some (.ref f2))) (l2 : K.lookup f2 = some ⟨oc2, od2, .func (PySem.W.fnOf "_law_deck" "_law_deck" (defArgs S_l_deck) (defBody S_l_deck) (defScope S_l_deck) .none kV2 dc2 pm2 an2 cd2 ct2), sl2⟩) (c2 : PySem.W.codeIn K cd2 "_law_deck" = true) (k2 : PySem.W.keepIn K (.ref f2) = true)
    {f3 : Addr} {od3 an3 : Option Addr} {sl3 : Array (Option Value)} {oc3 kV3 dc3 pm3 cd3 ct3 : Value} (a3 : PySem.W.nsIn K mainGlobals "_law_spiral" = some (some (.ref f3))) (l3 : K.lookup f3 = some ⟨oc3, od3, .func (PySem.W.fnOf "_law_spiral" "_law_spiral" (defArgs S_l_spiral) (defBody S_l_spiral) (defScope S_l_spiral) .none kV3 dc3 pm3 an3 cd3 ct3), sl3⟩) (c3 : PySem.W.codeIn K cd3 "_law_spiral" = true) (k3 : PySem.W.keepIn K (.ref f3) = true)
    {f4 : Addr} {od4 an4 : Option Addr} {sl4 : Array (Option Value)} {oc4 kV4 dc4 pm4 cd4 ct4 : Value} (a4 : PySem.W.nsIn K mainGlobals "_law_comb" = some (some (.ref f4))) (l4 : K.lookup f4 = some ⟨oc4, od4, .func (PySem.W.fnOf "_law_comb" "_law_comb" (defArgs S_l_comb) (defBody S_l_comb) (defScope S_l_comb) .none kV4 dc4 pm4 an4 cd4 ct4), sl4⟩) (c4 : PySem.W.codeIn K cd4 "_law_comb" = true) (k4 : PySem.W.keepIn K (.ref f4) = true)
    {f5 : Addr} {od5 an5 : Option Addr} {sl5 : Array (Option Value)} {oc5 kV5 dc5 pm5 cd5 ct5 : Value} (a5 : PySem.W.nsIn K mainGlobals "_law_kind" = some (some (.ref f5))) (l5 : K.lookup f5 = some ⟨oc5, od5, .func (PySem.W.fnOf "_law_kind" "_law_kind" (defArgs S_l_kind) (defBody S_l_kind) (defScope S_l_kind) .none kV5 dc5 pm5 an5 cd5 ct5), sl5⟩) (c5 : PySem.W.codeIn K cd5 "_law_kind" = true) (k5 : PySem.W.keepIn K (.ref f5) = true)
    {f6 : Addr} {od6 an6 : Option Addr} {sl6 : Array (Option Value)} {oc6 kV6 dc6 pm6 cd6 ct6 : Value} (a6 : PySem.W.nsIn K mainGlobals "_law_due" = some (some (.ref f6))) (l6 : K.lookup f6 = some ⟨oc6, od6, .func (PySem.W.fnOf "_law_due" "_law_due" (defArgs S_l_due) (defBody S_l_due) (defScope S_l_due) .none kV6 dc6 pm6 an6 cd6 ct6), sl6⟩) (c6 : PySem.W.codeIn K cd6 "_law_due" = true) (k6 : PySem.W.keepIn K (.ref f6) = true)
    {f7 : Addr} {od7 an7 : Option Addr} {sl7 : Array (Option Value)} {oc7 kV7 dc7 pm7 cd7 ct7 : Value} (a7 : PySem.W.nsIn K mainGlobals "_law_next" = some (some (.ref f7))) (l7 : K.lookup f7 = some ⟨oc7, od7, .func (PySem.W.fnOf "_law_next" "_law_next" (defArgs S_l_next) (defBody S_l_next) (defScope S_l_next) .none kV7 dc7 pm7 an7 cd7 ct7), sl7⟩) (c7 : PySem.W.codeIn K cd7 "_law_next" = true) (k7 : PySem.W.keepIn K (.ref f7) = true)
    {f8 : Addr} {od8 an8 : Option Addr} {sl8 : Array (Option Value)} {oc8 kV8 dc8 pm8 cd8 ct8 : Value} (a8 : PySem.W.nsIn K mainGlobals "_law_grid" = some (some (.ref f8))) (l8 : K.lookup f8 = some ⟨oc8, od8, .func (PySem.W.fnOf "_law_grid" "_law_grid" (defArgs S_l_grid) (defBody S_l_grid) (defScope S_l_grid) .none kV8 dc8 pm8 an8 cd8 ct8), sl8⟩) (c8 : PySem.W.codeIn K cd8 "_law_grid" = true) (k8 : PySem.W.keepIn K (.ref f8) = true)
    {f9 : Addr} {od9 an9 : Option Addr} {sl9 : Array (Option Value)} {oc9 kV9 dc9 pm9 cd9 ct9 : Value} (a9 : PySem.W.nsIn K mainGlobals "_law_sign" = some (some (.ref f9))) (l9 : K.lookup f9 = some ⟨oc9, od9, .func (PySem.W.fnOf "_law_sign" "_law_sign" (defArgs S_l_sign) (defBody S_l_sign) (defScope S_l_sign) .none kV9 dc9 pm9 an9 cd9 ct9), sl9⟩) (c9 : PySem.W.codeIn K cd9 "_law_sign" = true) (k9 : PySem.W.keepIn K (.ref f9) = true)
    {f10 : Addr} {od10 an10 : Option Addr} {sl10 : Array (Option Value)} {oc10 kV10 dc10 pm10 cd10 ct10 : Value} (a10 : PySem.W.nsIn K mainGlobals "read_grid" = some (some (.ref f10))) (l10 : K.lookup f10 = some ⟨oc10, od10, .func (PySem.W.fnOf "read_grid" "read_grid" (defArgs S_read_grid) (defBody S_read_grid) (defScope S_read_grid) .none kV10 dc10 pm10 an10 cd10 ct10), sl10⟩) (c10 : PySem.W.codeIn K cd10 "read_grid" = true) (k10 : PySem.W.keepIn K (.ref f10) = true)
    {f11 : Addr} {od11 an11 : Option Addr} {sl11 : Array (Option Value)} {oc11 kV11 dc11 pm11 cd11 ct11 : Value} (a11 : PySem.W.nsIn K mainGlobals "_law_spoilt" = some (some (.ref f11))) (l11 : K.lookup f11 = some ⟨oc11, od11, .func (PySem.W.fnOf "_law_spoilt" "_law_spoilt" (defArgs S_l_spoilt) (defBody S_l_spoilt) (defScope S_l_spoilt) .none kV11 dc11 pm11 an11 cd11 ct11), sl11⟩) (c11 : PySem.W.codeIn K cd11 "_law_spoilt" = true) (k11 : PySem.W.keepIn K (.ref f11) = true)
    {f12 : Addr} {od12 an12 : Option Addr} {sl12 : Array (Option Value)} {oc12 kV12 dc12 pm12 cd12 ct12 : Value} (a12 : PySem.W.nsIn K mainGlobals "_law_right" = some (some (.ref f12))) (l12 : K.lookup f12 = some ⟨oc12, od12, .func (PySem.W.fnOf "_law_right" "_law_right" (defArgs S_l_right) (defBody S_l_right) (defScope S_l_right) .none kV12 dc12 pm12 an12 cd12 ct12), sl12⟩) (c12 : PySem.W.codeIn K cd12 "_law_right" = true) (k12 : PySem.W.keepIn K (.ref f12) = true)
    {f13 : Addr} {od13 an13 : Option Addr} {sl13 : Array (Option Value)} {oc13 kV13 dc13 pm13 cd13 ct13 : Value} (a13 : PySem.W.nsIn K mainGlobals "law" = some (some (.ref f13))) (l13 : K.lookup f13 = some ⟨oc13, od13, .func (PySem.W.fnOf "law" "law" (defArgs S_law) (defBody S_law) (defScope S_law) .none kV13 dc13 pm13 an13 cd13 ct13), sl13⟩) (c13 : PySem.W.codeIn K cd13 "law" = true) (k13 : PySem.W.keepIn K (.ref f13) = true)
    (z_ValueError : PySem.W.nsIn K mainGlobals "ValueError" = some none)
    (z_all : PySem.W.nsIn K mainGlobals "all" = some none)
    (z_bool : PySem.W.nsIn K mainGlobals "bool" = some none)
    (z_enumerate : PySem.W.nsIn K mainGlobals "enumerate" = some none)
    (z_int : PySem.W.nsIn K mainGlobals "int" = some none)
    (z_isinstance : PySem.W.nsIn K mainGlobals "isinstance" = some none)
    (z_len : PySem.W.nsIn K mainGlobals "len" = some none)
    (z_max : PySem.W.nsIn K mainGlobals "max" = some none)
    (z_range : PySem.W.nsIn K mainGlobals "range" = some none)
    (z_str : PySem.W.nsIn K mainGlobals "str" = some none)
    (z_sum : PySem.W.nsIn K mainGlobals "sum" = some none)
    (z_tuple : PySem.W.nsIn K mainGlobals "tuple" = some none)
    {t_FREE : Tok} (q_FREE : PySem.W.nsIn K mainGlobals "FREE" = some (some (.str "." t_FREE)))
    {t_WALL : Tok} (q_WALL : PySem.W.nsIn K mainGlobals "WALL" = some (some (.str "#" t_WALL)))
    {C_NoWay : Addr} (qc_NoWay : PySem.W.nsIn K mainGlobals "NoWay" = some (some (.ref C_NoWay))) (cl_NoWay : PySem.W.isClsIn K C_NoWay = true) (ty_NoWay : PySem.W.typeIn K (.ref C_NoWay) = some (.type "type"))
    {C_NoAsk : Addr} (qc_NoAsk : PySem.W.nsIn K mainGlobals "NoAsk" = some (some (.ref C_NoAsk))) (cl_NoAsk : PySem.W.isClsIn K C_NoAsk = true) (ty_NoAsk : PySem.W.typeIn K (.ref C_NoAsk) = some (.type "type"))
    {C_NoGrid : Addr} (qc_NoGrid : PySem.W.nsIn K mainGlobals "NoGrid" = some (some (.ref C_NoGrid))) (cl_NoGrid : PySem.W.isClsIn K C_NoGrid = true) (ty_NoGrid : PySem.W.typeIn K (.ref C_NoGrid) = some (.type "type"))
    {C_NoPlace : Addr} (qc_NoPlace : PySem.W.nsIn K mainGlobals "NoPlace" = some (some (.ref C_NoPlace))) (cl_NoPlace : PySem.W.isClsIn K C_NoPlace = true) (ty_NoPlace : PySem.W.typeIn K (.ref C_NoPlace) = some (.type "type"))
    {C_NoRuns : Addr} (qc_NoRuns : PySem.W.nsIn K mainGlobals "NoRuns" = some (some (.ref C_NoRuns))) (cl_NoRuns : PySem.W.isClsIn K C_NoRuns = true) (ty_NoRuns : PySem.W.typeIn K (.ref C_NoRuns) = some (.type "type"))
    {C_TurnError : Addr} (qc_TurnError : PySem.W.nsIn K mainGlobals "TurnError" = some (some (.ref C_TurnError))) (cl_TurnError : PySem.W.isClsIn K C_TurnError = true) (ty_TurnError : PySem.W.typeIn K (.ref C_TurnError) = some (.type "type"))
    (gx6 : PySem.W.specialIn K (.builtin "object.__class__") "__get__" = some (some (.builtin "getset_descriptor.__get__"))) (gx7 : PySem.W.takesIn K (.builtin "object.__class__") = some true)
    (x1_NoWay : PySem.W.findIn K (.ref C_NoWay) "__getattribute__" = some (some (.builtin "BaseException.__getattribute__"))) (x2_NoWay : PySem.W.findIn K (.ref C_NoWay) "__getattr__" = some none) (x3_NoWay : PySem.W.subIn K (.ref C_NoWay) (.type "BaseException") = some true) (x4_NoWay : PySem.W.hasDictIn K C_NoWay = true) (x5_NoWay : PySem.W.findIn K (.ref C_NoWay) "__class__" = some (some (.builtin "object.__class__"))) (x8_NoWay : PySem.W.mroIn K C_NoWay (.type "object") = some true)
    (sv_NoWay : PySem.W.subIn K (.ref C_NoWay) (.type "ValueError") = some true)
    (s_NoWay_NoWay : PySem.W.subIn K (.ref C_NoWay) (.ref C_NoWay) = some true)
    (s_NoWay_NoAsk : PySem.W.subIn K (.ref C_NoWay) (.ref C_NoAsk) = some false)
    (ne_NoWay_NoAsk : C_NoWay ≠ C_NoAsk)
    (s_NoWay_NoGrid : PySem.W.subIn K (.ref C_NoWay) (.ref C_NoGrid) = some false)
    (ne_NoWay_NoGrid : C_NoWay ≠ C_NoGrid)
    (s_NoWay_NoPlace : PySem.W.subIn K (.ref C_NoWay) (.ref C_NoPlace) = some false)
    (ne_NoWay_NoPlace : C_NoWay ≠ C_NoPlace)
    (s_NoWay_NoRuns : PySem.W.subIn K (.ref C_NoWay) (.ref C_NoRuns) = some false)
    (ne_NoWay_NoRuns : C_NoWay ≠ C_NoRuns)
    (s_NoWay_TurnError : PySem.W.subIn K (.ref C_NoWay) (.ref C_TurnError) = some true)
    (x1_NoAsk : PySem.W.findIn K (.ref C_NoAsk) "__getattribute__" = some (some (.builtin "BaseException.__getattribute__"))) (x2_NoAsk : PySem.W.findIn K (.ref C_NoAsk) "__getattr__" = some none) (x3_NoAsk : PySem.W.subIn K (.ref C_NoAsk) (.type "BaseException") = some true) (x4_NoAsk : PySem.W.hasDictIn K C_NoAsk = true) (x5_NoAsk : PySem.W.findIn K (.ref C_NoAsk) "__class__" = some (some (.builtin "object.__class__"))) (x8_NoAsk : PySem.W.mroIn K C_NoAsk (.type "object") = some true)
    (sv_NoAsk : PySem.W.subIn K (.ref C_NoAsk) (.type "ValueError") = some true)
    (s_NoAsk_NoWay : PySem.W.subIn K (.ref C_NoAsk) (.ref C_NoWay) = some false)
    (ne_NoAsk_NoWay : C_NoAsk ≠ C_NoWay)
    (s_NoAsk_NoAsk : PySem.W.subIn K (.ref C_NoAsk) (.ref C_NoAsk) = some true)
    (s_NoAsk_NoGrid : PySem.W.subIn K (.ref C_NoAsk) (.ref C_NoGrid) = some false)
    (ne_NoAsk_NoGrid : C_NoAsk ≠ C_NoGrid)
    (s_NoAsk_NoPlace : PySem.W.subIn K (.ref C_NoAsk) (.ref C_NoPlace) = some false)
    (ne_NoAsk_NoPlace : C_NoAsk ≠ C_NoPlace)
    (s_NoAsk_NoRuns : PySem.W.subIn K (.ref C_NoAsk) (.ref C_NoRuns) = some false)
    (ne_NoAsk_NoRuns : C_NoAsk ≠ C_NoRuns)
    (s_NoAsk_TurnError : PySem.W.subIn K (.ref C_NoAsk) (.ref C_TurnError) = some true)
    (x1_NoGrid : PySem.W.findIn K (.ref C_NoGrid) "__getattribute__" = some (some (.builtin "BaseException.__getattribute__"))) (x2_NoGrid : PySem.W.findIn K (.ref C_NoGrid) "__getattr__" = some none) (x3_NoGrid : PySem.W.subIn K (.ref C_NoGrid) (.type "BaseException") = some true) (x4_NoGrid : PySem.W.hasDictIn K C_NoGrid = true) (x5_NoGrid : PySem.W.findIn K (.ref C_NoGrid) "__class__" = some (some (.builtin "object.__class__"))) (x8_NoGrid : PySem.W.mroIn K C_NoGrid (.type "object") = some true)
    (sv_NoGrid : PySem.W.subIn K (.ref C_NoGrid) (.type "ValueError") = some true)
    (s_NoGrid_NoWay : PySem.W.subIn K (.ref C_NoGrid) (.ref C_NoWay) = some false)
    (ne_NoGrid_NoWay : C_NoGrid ≠ C_NoWay)
    (s_NoGrid_NoAsk : PySem.W.subIn K (.ref C_NoGrid) (.ref C_NoAsk) = some false)
    (ne_NoGrid_NoAsk : C_NoGrid ≠ C_NoAsk)
    (s_NoGrid_NoGrid : PySem.W.subIn K (.ref C_NoGrid) (.ref C_NoGrid) = some true)
    (s_NoGrid_NoPlace : PySem.W.subIn K (.ref C_NoGrid) (.ref C_NoPlace) = some false)
    (ne_NoGrid_NoPlace : C_NoGrid ≠ C_NoPlace)
    (s_NoGrid_NoRuns : PySem.W.subIn K (.ref C_NoGrid) (.ref C_NoRuns) = some false)
    (ne_NoGrid_NoRuns : C_NoGrid ≠ C_NoRuns)
    (s_NoGrid_TurnError : PySem.W.subIn K (.ref C_NoGrid) (.ref C_TurnError) = some true)
    (x1_NoRuns : PySem.W.findIn K (.ref C_NoRuns) "__getattribute__" = some (some (.builtin "BaseException.__getattribute__"))) (x2_NoRuns : PySem.W.findIn K (.ref C_NoRuns) "__getattr__" = some none) (x3_NoRuns : PySem.W.subIn K (.ref C_NoRuns) (.type "BaseException") = some true) (x4_NoRuns : PySem.W.hasDictIn K C_NoRuns = true) (x5_NoRuns : PySem.W.findIn K (.ref C_NoRuns) "__class__" = some (some (.builtin "object.__class__"))) (x8_NoRuns : PySem.W.mroIn K C_NoRuns (.type "object") = some true)
    (sv_NoRuns : PySem.W.subIn K (.ref C_NoRuns) (.type "ValueError") = some true)
    (s_NoRuns_NoWay : PySem.W.subIn K (.ref C_NoRuns) (.ref C_NoWay) = some false)
    (ne_NoRuns_NoWay : C_NoRuns ≠ C_NoWay)
    (s_NoRuns_NoAsk : PySem.W.subIn K (.ref C_NoRuns) (.ref C_NoAsk) = some false)
    (ne_NoRuns_NoAsk : C_NoRuns ≠ C_NoAsk)
    (s_NoRuns_NoGrid : PySem.W.subIn K (.ref C_NoRuns) (.ref C_NoGrid) = some false)
    (ne_NoRuns_NoGrid : C_NoRuns ≠ C_NoGrid)
    (s_NoRuns_NoPlace : PySem.W.subIn K (.ref C_NoRuns) (.ref C_NoPlace) = some false)
    (ne_NoRuns_NoPlace : C_NoRuns ≠ C_NoPlace)
    (s_NoRuns_NoRuns : PySem.W.subIn K (.ref C_NoRuns) (.ref C_NoRuns) = some true)
    (s_NoRuns_TurnError : PySem.W.subIn K (.ref C_NoRuns) (.ref C_TurnError) = some true)
    (x1_NoPlace : PySem.W.findIn K (.ref C_NoPlace) "__getattribute__" = some (some (.builtin "BaseException.__getattribute__"))) (x2_NoPlace : PySem.W.findIn K (.ref C_NoPlace) "__getattr__" = some none) (x3_NoPlace : PySem.W.subIn K (.ref C_NoPlace) (.type "BaseException") = some true) (x4_NoPlace : PySem.W.hasDictIn K C_NoPlace = true) (x5_NoPlace : PySem.W.findIn K (.ref C_NoPlace) "__class__" = some (some (.builtin "object.__class__"))) (x8_NoPlace : PySem.W.mroIn K C_NoPlace (.type "object") = some true)
    (sv_NoPlace : PySem.W.subIn K (.ref C_NoPlace) (.type "ValueError") = some true)
    (s_NoPlace_NoWay : PySem.W.subIn K (.ref C_NoPlace) (.ref C_NoWay) = some false)
    (ne_NoPlace_NoWay : C_NoPlace ≠ C_NoWay)
    (s_NoPlace_NoAsk : PySem.W.subIn K (.ref C_NoPlace) (.ref C_NoAsk) = some false)
    (ne_NoPlace_NoAsk : C_NoPlace ≠ C_NoAsk)
    (s_NoPlace_NoGrid : PySem.W.subIn K (.ref C_NoPlace) (.ref C_NoGrid) = some false)
    (ne_NoPlace_NoGrid : C_NoPlace ≠ C_NoGrid)
    (s_NoPlace_NoPlace : PySem.W.subIn K (.ref C_NoPlace) (.ref C_NoPlace) = some true)
    (s_NoPlace_NoRuns : PySem.W.subIn K (.ref C_NoPlace) (.ref C_NoRuns) = some false)
    (ne_NoPlace_NoRuns : C_NoPlace ≠ C_NoRuns)
    (s_NoPlace_TurnError : PySem.W.subIn K (.ref C_NoPlace) (.ref C_TurnError) = some true)
    (xn_place_NoRuns : PySem.W.findIn K (.ref C_NoRuns) "place" = some none)
    (xn_place_NoPlace : PySem.W.findIn K (.ref C_NoPlace) "place" = some none)
    (xn_row_NoGrid : PySem.W.findIn K (.ref C_NoGrid) "row" = some none)
    (sx_NoAsk : PySem.W.excIn K C_NoAsk veMro "ValueError.__new__" = true) (sk_NoAsk : PySem.W.keepIn K (.ref C_NoAsk) = true) (st_NoAsk : PySem.W.findIn K (.ref C_NoAsk) "__str__" = some (some (.builtin "BaseException.__str__")))
    (sx_NoWay : PySem.W.excIn K C_NoWay veMro "ValueError.__new__" = true) (sk_NoWay : PySem.W.keepIn K (.ref C_NoWay) = true) (st_NoWay : PySem.W.findIn K (.ref C_NoWay) "__str__" = some (some (.builtin "BaseException.__str__")))
    (ex_N : PySem.W.excIn K C_NoWay veMro "ValueError.__new__" = true) (kp_N : PySem.W.keepIn K (.ref C_NoWay) = true) (sb_N : PySem.W.subIn K (.ref C_NoWay) (.type "BaseException") = some true)
    {o_C_NoGrid o_fI_NoGrid o_cc_NoGrid o_cd_NoGrid o_N_NoGrid : Addr} {o_od_NoGrid o_cl_NoGrid o_cdd_NoGrid o_an_NoGrid o_dd_NoGrid : Option Addr} {o_oc_NoGrid o_kV_NoGrid o_dc_NoGrid o_pm_NoGrid o_ct_NoGrid o_ccl_NoGrid o_cccl_NoGrid : Value} {o_osl_NoGrid o_csl_NoGrid o_ccs_NoGrid : Array (Option Value)} {o_vs_NoGrid : Array Value} {o_file_NoGrid : Str} {o_tf_NoGrid : Tok} {o_nm_NoGrid o_q_NoGrid : Str} {o_bs_NoGrid o_bm_NoGrid : List Value} {o_sn_NoGrid : List Str} {o_sub_NoGrid : List Value} {o_ab_NoGrid : Bool} {o_col_NoGrid : Option Bool} {o_k0_NoGrid o_k1_NoGrid o_k2_NoGrid o_k3_NoGrid o_k5_NoGrid : Option Value}
    (oqc_NoGrid : PySem.W.nsIn K mainGlobals "NoGrid" = some (some (.ref o_C_NoGrid))) (oiC_NoGrid : PySem.W.findIn K (.ref o_C_NoGrid) "__init__" = some (some (.ref o_fI_NoGrid))) (otI_NoGrid : PySem.W.typeIn K (.ref o_fI_NoGrid) = some (.type "function"))
    (olf_NoGrid : K.lookup o_fI_NoGrid = some ⟨o_oc_NoGrid, o_od_NoGrid, .func (PySem.W.ksFn "__init__" "NoGrid.__init__" (defArgs Si_NoGrid) (defBody Si_NoGrid) (defScope Si_NoGrid) .none o_kV_NoGrid o_dc_NoGrid o_pm_NoGrid o_an_NoGrid (.ref o_cd_NoGrid) o_ct_NoGrid o_cc_NoGrid), o_osl_NoGrid⟩) (ocd_NoGrid : PySem.W.codeIn K (.ref o_cd_NoGrid) "NoGrid.__init__" = true) (olcc_NoGrid : K.lookup o_cc_NoGrid = some ⟨o_ccl_NoGrid, o_cl_NoGrid, .cell (some (.ref o_C_NoGrid)), o_csl_NoGrid⟩)
    (olcd_NoGrid : K.lookup o_cd_NoGrid = some ⟨o_cccl_NoGrid, o_cdd_NoGrid, .fields o_vs_NoGrid, o_ccs_NoGrid⟩) (ohvs_NoGrid : o_vs_NoGrid[2]? = some (.str o_file_NoGrid o_tf_NoGrid)) (ohfi_NoGrid : ((l.prog.main.file : Str) == o_file_NoGrid) = true)
    (osup_NoGrid : PySem.W.ks_superIn K o_C_NoGrid o_C_NoGrid "__init__" = some (some (.builtin "ValueError.__init__"))) (omro_NoGrid : PySem.W.mroIn K o_C_NoGrid (.ref o_C_NoGrid) = some true) (osubV_NoGrid : PySem.W.subIn K (.ref o_C_NoGrid) (.type "ValueError") = some true)
    (onst_NoGrid : PySem.W.nsIn K cStatics "thirdparty.any" = some none) (omgs_NoGrid : PySem.W.nsIn K mainGlobals "super" = some none) (olC_NoGrid : K.lookup o_C_NoGrid = some (excClassObj o_nm_NoGrid o_q_NoGrid o_C_NoGrid o_N_NoGrid o_bs_NoGrid o_bm_NoGrid true o_sn_NoGrid o_sub_NoGrid o_ab_NoGrid o_col_NoGrid o_dd_NoGrid o_k0_NoGrid o_k1_NoGrid o_k2_NoGrid o_k3_NoGrid o_k5_NoGrid "ValueError.__new__")) (ohbm_NoGrid : PySem.HandSPX.refsVE o_bm_NoGrid = true)
    (osa_NoGrid : PySem.W.findIn K (.ref o_C_NoGrid) "__setattr__" = some (some (.builtin "object.__setattr__"))) (oexC_NoGrid : PySem.W.subIn K (.ref o_C_NoGrid) (.type "BaseException") = some true) (otyC_NoGrid : PySem.W.typeIn K (.ref o_C_NoGrid) = some (.type "type")) (okC_NoGrid : PySem.W.keepIn K (.ref o_C_NoGrid) = true) (ohno_NoGrid : PySem.W.findIn K (.ref o_C_NoGrid) "row" = some none)
    (ohtop_NoGrid : (l.prog.main.scope.names.lookup ("super" : Str)).isSome = false)
    {o_C_NoPlace o_fI_NoPlace o_cc_NoPlace o_cd_NoPlace o_N_NoPlace : Addr} {o_od_NoPlace o_cl_NoPlace o_cdd_NoPlace o_an_NoPlace o_dd_NoPlace : Option Addr} {o_oc_NoPlace o_kV_NoPlace o_dc_NoPlace o_pm_NoPlace o_ct_NoPlace o_ccl_NoPlace o_cccl_NoPlace : Value} {o_osl_NoPlace o_csl_NoPlace o_ccs_NoPlace : Array (Option Value)} {o_vs_NoPlace : Array Value} {o_file_NoPlace : Str} {o_tf_NoPlace : Tok} {o_nm_NoPlace o_q_NoPlace : Str} {o_bs_NoPlace o_bm_NoPlace : List Value} {o_sn_NoPlace : List Str} {o_sub_NoPlace : List Value} {o_ab_NoPlace : Bool} {o_col_NoPlace : Option Bool} {o_k0_NoPlace o_k1_NoPlace o_k2_NoPlace o_k3_NoPlace o_k5_NoPlace : Option Value}
    (oqc_NoPlace : PySem.W.nsIn K mainGlobals "NoPlace" = some (some (.ref o_C_NoPlace))) (oiC_NoPlace : PySem.W.findIn K (.ref o_C_NoPlace) "__init__" = some (some (.ref o_fI_NoPlace))) (otI_NoPlace : PySem.W.typeIn K (.ref o_fI_NoPlace) = some (.type "function"))
    (olf_NoPlace : K.lookup o_fI_NoPlace = some ⟨o_oc_NoPlace, o_od_NoPlace, .func (PySem.W.ksFn "__init__" "NoPlace.__init__" (defArgs Si_NoPlace) (defBody Si_NoPlace) (defScope Si_NoPlace) .none o_kV_NoPlace o_dc_NoPlace o_pm_NoPlace o_an_NoPlace (.ref o_cd_NoPlace) o_ct_NoPlace o_cc_NoPlace), o_osl_NoPlace⟩) (ocd_NoPlace : PySem.W.codeIn K (.ref o_cd_NoPlace) "NoPlace.__init__" = true) (olcc_NoPlace : K.lookup o_cc_NoPlace = some ⟨o_ccl_NoPlace, o_cl_NoPlace, .cell (some (.ref o_C_NoPlace)), o_csl_NoPlace⟩)
    (olcd_NoPlace : K.lookup o_cd_NoPlace = some ⟨o_cccl_NoPlace, o_cdd_NoPlace, .fields o_vs_NoPlace, o_ccs_NoPlace⟩) (ohvs_NoPlace : o_vs_NoPlace[2]? = some (.str o_file_NoPlace o_tf_NoPlace)) (ohfi_NoPlace : ((l.prog.main.file : Str) == o_file_NoPlace) = true)
    (osup_NoPlace : PySem.W.ks_superIn K o_C_NoPlace o_C_NoPlace "__init__" = some (some (.builtin "ValueError.__init__"))) (omro_NoPlace : PySem.W.mroIn K o_C_NoPlace (.ref o_C_NoPlace) = some true) (osubV_NoPlace : PySem.W.subIn K (.ref o_C_NoPlace) (.type "ValueError") = some true)
    (onst_NoPlace : PySem.W.nsIn K cStatics "thirdparty.any" = some none) (omgs_NoPlace : PySem.W.nsIn K mainGlobals "super" = some none) (olC_NoPlace : K.lookup o_C_NoPlace = some (excClassObj o_nm_NoPlace o_q_NoPlace o_C_NoPlace o_N_NoPlace o_bs_NoPlace o_bm_NoPlace true o_sn_NoPlace o_sub_NoPlace o_ab_NoPlace o_col_NoPlace o_dd_NoPlace o_k0_NoPlace o_k1_NoPlace o_k2_NoPlace o_k3_NoPlace o_k5_NoPlace "ValueError.__new__")) (ohbm_NoPlace : PySem.HandSPX.refsVE o_bm_NoPlace = true)
    (osa_NoPlace : PySem.W.findIn K (.ref o_C_NoPlace) "__setattr__" = some (some (.builtin "object.__setattr__"))) (oexC_NoPlace : PySem.W.subIn K (.ref o_C_NoPlace) (.type "BaseException") = some true) (otyC_NoPlace : PySem.W.typeIn K (.ref o_C_NoPlace) = some (.type "type")) (okC_NoPlace : PySem.W.keepIn K (.ref o_C_NoPlace) = true) (ohno_NoPlace : PySem.W.findIn K (.ref o_C_NoPlace) "place" = some none)
    (ohtop_NoPlace : (l.prog.main.scope.names.lookup ("super" : Str)).isSome = false)
    {o_C_NoRuns o_fI_NoRuns o_cc_NoRuns o_cd_NoRuns o_N_NoRuns : Addr} {o_od_NoRuns o_cl_NoRuns o_cdd_NoRuns o_an_NoRuns o_dd_NoRuns : Option Addr} {o_oc_NoRuns o_kV_NoRuns o_dc_NoRuns o_pm_NoRuns o_ct_NoRuns o_ccl_NoRuns o_cccl_NoRuns : Value} {o_osl_NoRuns o_csl_NoRuns o_ccs_NoRuns : Array (Option Value)} {o_vs_NoRuns : Array Value} {o_file_NoRuns : Str} {o_tf_NoRuns : Tok} {o_nm_NoRuns o_q_NoRuns : Str} {o_bs_NoRuns o_bm_NoRuns : List Value} {o_sn_NoRuns : List Str} {o_sub_NoRuns : List Value} {o_ab_NoRuns : Bool} {o_col_NoRuns : Option Bool} {o_k0_NoRuns o_k1_NoRuns o_k2_NoRuns o_k3_NoRuns o_k5_NoRuns : Option Value}
    (oqc_NoRuns : PySem.W.nsIn K mainGlobals "NoRuns" = some (some (.ref o_C_NoRuns))) (oiC_NoRuns : PySem.W.findIn K (.ref o_C_NoRuns) "__init__" = some (some (.ref o_fI_NoRuns))) (otI_NoRuns : PySem.W.typeIn K (.ref o_fI_NoRuns) = some (.type "function"))
    (olf_NoRuns : K.lookup o_fI_NoRuns = some ⟨o_oc_NoRuns, o_od_NoRuns, .func (PySem.W.ksFn "__init__" "NoRuns.__init__" (defArgs Si_NoRuns) (defBody Si_NoRuns) (defScope Si_NoRuns) .none o_kV_NoRuns o_dc_NoRuns o_pm_NoRuns o_an_NoRuns (.ref o_cd_NoRuns) o_ct_NoRuns o_cc_NoRuns), o_osl_NoRuns⟩) (ocd_NoRuns : PySem.W.codeIn K (.ref o_cd_NoRuns) "NoRuns.__init__" = true) (olcc_NoRuns : K.lookup o_cc_NoRuns = some ⟨o_ccl_NoRuns, o_cl_NoRuns, .cell (some (.ref o_C_NoRuns)), o_csl_NoRuns⟩)
    (olcd_NoRuns : K.lookup o_cd_NoRuns = some ⟨o_cccl_NoRuns, o_cdd_NoRuns, .fields o_vs_NoRuns, o_ccs_NoRuns⟩) (ohvs_NoRuns : o_vs_NoRuns[2]? = some (.str o_file_NoRuns o_tf_NoRuns)) (ohfi_NoRuns : ((l.prog.main.file : Str) == o_file_NoRuns) = true)
    (osup_NoRuns : PySem.W.ks_superIn K o_C_NoRuns o_C_NoRuns "__init__" = some (some (.builtin "ValueError.__init__"))) (omro_NoRuns : PySem.W.mroIn K o_C_NoRuns (.ref o_C_NoRuns) = some true) (osubV_NoRuns : PySem.W.subIn K (.ref o_C_NoRuns) (.type "ValueError") = some true)
    (onst_NoRuns : PySem.W.nsIn K cStatics "thirdparty.any" = some none) (omgs_NoRuns : PySem.W.nsIn K mainGlobals "super" = some none) (olC_NoRuns : K.lookup o_C_NoRuns = some (excClassObj o_nm_NoRuns o_q_NoRuns o_C_NoRuns o_N_NoRuns o_bs_NoRuns o_bm_NoRuns true o_sn_NoRuns o_sub_NoRuns o_ab_NoRuns o_col_NoRuns o_dd_NoRuns o_k0_NoRuns o_k1_NoRuns o_k2_NoRuns o_k3_NoRuns o_k5_NoRuns "ValueError.__new__")) (ohbm_NoRuns : PySem.HandSPX.refsVE o_bm_NoRuns = true)
    (osa_NoRuns : PySem.W.findIn K (.ref o_C_NoRuns) "__setattr__" = some (some (.builtin "object.__setattr__"))) (oexC_NoRuns : PySem.W.subIn K (.ref o_C_NoRuns) (.type "BaseException") = some true) (otyC_NoRuns : PySem.W.typeIn K (.ref o_C_NoRuns) = some (.type "type")) (okC_NoRuns : PySem.W.keepIn K (.ref o_C_NoRuns) = true) (ohno_NoRuns : PySem.W.findIn K (.ref o_C_NoRuns) "place" = some none)
    (ohtop_NoRuns : (l.prog.main.scope.names.lookup ("super" : Str)).isSome = false)
    (sT_TurnError : PySem.W.subIn K (.ref C_TurnError) (.type "BaseException") = some true) (hT_TurnError : PySem.W.hasDictIn K C_TurnError = true)
    : ∃ fd : FuncData, (∀ (s : Shared) (v : Value), BindsTo s fd ⟨[v], []⟩ [("script", v)]) ∧ ∀ base : Heap, K.In base → base.Ns mainGlobals mg → FnOk l.prog w K mg base CX0 6 fa fd ["script"] (spLaw K) := by
  have e := hfa.symm.trans (PySem.W.mg_of X G a13)
  cases e
  have F0 := fun_mk (st := S_is_row) l0 c0 k0
  have b0 := F0.binds (ps := ["row", "length"]) fun _ _ _ _ _ _ us hl => match us, hl with | [_, _], _ => rfl
  have F1 := fun_mk (st := S_l_mix) l1 c1 k1
  have b1 := F1.binds (ps := ["cell", "k"]) fun _ _ _ _ _ _ us hl => match us, hl with | [_, _], _ => rfl
  have F2 := fun_mk (st := S_l_deck) l2 c2 k2
  have b2 := F2.binds (ps := ["script"]) fun _ _ _ _ _ _ us hl => match us, hl with | [_], _ => rfl
  have F3 := fun_mk (st := S_l_spiral) l3 c3 k3
  have b3 := F3.binds (ps := ["rows", "columns"]) fun _ _ _ _ _ _ us hl => match us, hl with | [_, _], _ => rfl
  have F4 := fun_mk (st := S_l_comb) l4 c4 k4
  have b4 := F4.binds (ps := ["rows", "columns"]) fun _ _ _ _ _ _ us hl => match us, hl with | [_, _], _ => rfl
  have F5 := fun_mk (st := S_l_kind) l5 c5 k5
  have b5 := F5.binds (ps := ["caught"]) fun _ _ _ _ _ _ us hl => match us, hl with | [_], _ => rfl
  have F6 := fun_mk (st := S_l_due) l6 c6 k6
  have b6 := F6.binds (ps := ["text"]) fun _ _ _ _ _ _ us hl => match us, hl with | [_], _ => rfl
  have F7 := fun_mk (st := S_l_next) l7 c7 k7
  have b7 := F7.binds (ps := ["deck", "many"]) fun _ _ _ _ _ _ us hl => match us, hl with | [_, _], _ => rfl
  have F8 := fun_mk (st := S_l_grid) l8 c8 k8
  have b8 := F8.binds (ps := ["deck", "most"]) fun _ _ _ _ _ _ us hl => match us, hl with | [_, _], _ => rfl
  have F9 := fun_mk (st := S_l_sign) l9 c9 k9
  have b9 := F9.binds (ps := ["deck"]) fun _ _ _ _ _ _ us hl => match us, hl with | [_], _ => rfl
  have F10 := fun_mk (st := S_read_grid) l10 c10 k10
  have b10 := F10.binds (ps := ["text"]) fun _ _ _ _ _ _ us hl => match us, hl with | [_], _ => rfl
  have F11 := fun_mk (st := S_l_spoilt) l11 c11 k11
  have b11 := F11.binds (ps := ["deck", "text"]) fun _ _ _ _ _ _ us hl => match us, hl with | [_, _], _ => rfl
  have F12 := fun_mk (st := S_l_right) l12 c12 k12
  have b12 := F12.binds (ps := ["text"]) fun _ _ _ _ _ _ us hl => match us, hl with | [_], _ => rfl
  have F13 := fun_mk (st := S_law) l13 c13 k13
  have b13 := F13.binds (ps := ["script"]) fun _ _ _ _ _ _ us hl => match us, hl with | [_], _ => rfl
  have oF_NoGrid : SupFn l.prog K mg o_C_NoGrid o_fI_NoGrid o_cc_NoGrid o_cd_NoGrid "self" "row" (defBody Si_NoGrid) (PySem.W.ksFn "__init__" "NoGrid.__init__" (defArgs Si_NoGrid) (defBody Si_NoGrid) (defScope Si_NoGrid) .none o_kV_NoGrid o_dc_NoGrid o_pm_NoGrid o_an_NoGrid (.ref o_cd_NoGrid) o_ct_NoGrid o_cc_NoGrid) := {
    fdE := ⟨_, _, _, _, _, _, _, _, _, _, rfl⟩, lk := ⟨_, _, _, olf_NoGrid⟩, hcd := ocd_NoGrid, cell := ⟨_, _, _, olcc_NoGrid⟩, code := ⟨_, _, _, _, _, _, olcd_NoGrid, ohvs_NoGrid, ohfi_NoGrid⟩, head := ⟨_, rfl, rfl⟩,
    kind := rfl, co := rfl, gen := rfl, ncell := (by decide +kernel : ∀ x ∈ (defScope Si_NoGrid).names, x.2 ≠ NameKind.cell), nfree := (by decide +kernel : ∀ x ∈ (defScope Si_NoGrid).names, x.2 = NameKind.free → x.1 = "__class__"), l0 := (by decide +kernel : (defScope Si_NoGrid).names.lookup ("self" : Str) = some .local), l1 := (by decide +kernel : (defScope Si_NoGrid).names.lookup ("row" : Str) = some .local), ne := by decide, sup := (by decide +kernel : (defScope Si_NoGrid).names.lookup ("super" : Str) = some .globalImplicit), cls := (by decide +kernel : (defScope Si_NoGrid).names.lookup ("__class__" : Str) = some .free),
    d0 := by decide, c0 := by decide, d1 := by decide, c1 := by decide, mgs := PySem.W.mg_none_of X G omgs_NoGrid, top := ohtop_NoGrid, sup2 := osup_NoGrid, mro := omro_NoGrid, subV := osubV_NoGrid, nst := onst_NoGrid }
  have oB_NoGrid : Binds K (PySem.W.ksFn "__init__" "NoGrid.__init__" (defArgs Si_NoGrid) (defBody Si_NoGrid) (defScope Si_NoGrid) .none o_kV_NoGrid o_dc_NoGrid o_pm_NoGrid o_an_NoGrid (.ref o_cd_NoGrid) o_ct_NoGrid o_cc_NoGrid) ["self", "row"] [] := Binds.all fun us hl => match us, hl with | [_, _], _ => rfl
  have oR_NoGrid : RaisesK l.prog w K mg "NoGrid" "row" okN := raisesN oF_NoGrid rfl ⟨⟨_, _, _, _, _, _, _, _, _, _, _, _, _, _, _, olC_NoGrid, ohbm_NoGrid⟩, osa_NoGrid, oexC_NoGrid, otyC_NoGrid, okC_NoGrid⟩ oqc_NoGrid (PySem.W.mg_of X G oqc_NoGrid) oiC_NoGrid otI_NoGrid ohno_NoGrid oB_NoGrid rfl (by decide +kernel) (by decide +kernel)
  have oF_NoPlace : SupFn l.prog K mg o_C_NoPlace o_fI_NoPlace o_cc_NoPlace o_cd_NoPlace "self" "place" (defBody Si_NoPlace) (PySem.W.ksFn "__init__" "NoPlace.__init__" (defArgs Si_NoPlace) (defBody Si_NoPlace) (defScope Si_NoPlace) .none o_kV_NoPlace o_dc_NoPlace o_pm_NoPlace o_an_NoPlace (.ref o_cd_NoPlace) o_ct_NoPlace o_cc_NoPlace) := {
    fdE := ⟨_, _, _, _, _, _, _, _, _, _, rfl⟩, lk := ⟨_, _, _, olf_NoPlace⟩, hcd := ocd_NoPlace, cell := ⟨_, _, _, olcc_NoPlace⟩, code := ⟨_, _, _, _, _, _, olcd_NoPlace, ohvs_NoPlace, ohfi_NoPlace⟩, head := ⟨_, rfl, rfl⟩,
    kind := rfl, co := rfl, gen := rfl, ncell := (by decide +kernel : ∀ x ∈ (defScope Si_NoPlace).names, x.2 ≠ NameKind.cell), nfree := (by decide +kernel : ∀ x ∈ (defScope Si_NoPlace).names, x.2 = NameKind.free → x.1 = "__class__"), l0 := (by decide +kernel : (defScope Si_NoPlace).names.lookup ("self" : Str) = some .local), l1 := (by decide +kernel : (defScope Si_NoPlace).names.lookup ("place" : Str) = some .local), ne := by decide, sup := (by decide +kernel : (defScope Si_NoPlace).names.lookup ("super" : Str) = some .globalImplicit), cls := (by decide +kernel : (defScope Si_NoPlace).names.lookup ("__class__" : Str) = some .free),
    d0 := by decide, c0 := by decide, d1 := by decide, c1 := by decide, mgs := PySem.W.mg_none_of X G omgs_NoPlace, top := ohtop_NoPlace, sup2 := osup_NoPlace, mro := omro_NoPlace, subV := osubV_NoPlace, nst := onst_NoPlace }
  have oB_NoPlace : Binds K (PySem.W.ksFn "__init__" "NoPlace.__init__" (defArgs Si_NoPlace) (defBody Si_NoPlace) (defScope Si_NoPlace) .none o_kV_NoPlace o_dc_NoPlace o_pm_NoPlace o_an_NoPlace (.ref o_cd_NoPlace) o_ct_NoPlace o_cc_NoPlace) ["self", "place"] [] := Binds.all fun us hl => match us, hl with | [_, _], _ => rfl
  have oR_NoPlace : RaisesK l.prog w K mg "NoPlace" "place" okP := raisesP oF_NoPlace rfl ⟨⟨_, _, _, _, _, _, _, _, _, _, _, _, _, _, _, olC_NoPlace, ohbm_NoPlace⟩, osa_NoPlace, oexC_NoPlace, otyC_NoPlace, okC_NoPlace⟩ oqc_NoPlace (PySem.W.mg_of X G oqc_NoPlace) oiC_NoPlace otI_NoPlace ohno_NoPlace oB_NoPlace rfl (by decide +kernel)
  have oF_NoRuns : SupFn l.prog K mg o_C_NoRuns o_fI_NoRuns o_cc_NoRuns o_cd_NoRuns "self" "place" (defBody Si_NoRuns) (PySem.W.ksFn "__init__" "NoRuns.__init__" (defArgs Si_NoRuns) (defBody Si_NoRuns) (defScope Si_NoRuns) .none o_kV_NoRuns o_dc_NoRuns o_pm_NoRuns o_an_NoRuns (.ref o_cd_NoRuns) o_ct_NoRuns o_cc_NoRuns) := {
    fdE := ⟨_, _, _, _, _, _, _, _, _, _, rfl⟩, lk := ⟨_, _, _, olf_NoRuns⟩, hcd := ocd_NoRuns, cell := ⟨_, _, _, olcc_NoRuns⟩, code := ⟨_, _, _, _, _, _, olcd_NoRuns, ohvs_NoRuns, ohfi_NoRuns⟩, head := ⟨_, rfl, rfl⟩,
    kind := rfl, co := rfl, gen := rfl, ncell := (by decide +kernel : ∀ x ∈ (defScope Si_NoRuns).names, x.2 ≠ NameKind.cell), nfree := (by decide +kernel : ∀ x ∈ (defScope Si_NoRuns).names, x.2 = NameKind.free → x.1 = "__class__"), l0 := (by decide +kernel : (defScope Si_NoRuns).names.lookup ("self" : Str) = some .local), l1 := (by decide +kernel : (defScope Si_NoRuns).names.lookup ("place" : Str) = some .local), ne := by decide, sup := (by decide +kernel : (defScope Si_NoRuns).names.lookup ("super" : Str) = some .globalImplicit), cls := (by decide +kernel : (defScope Si_NoRuns).names.lookup ("__class__" : Str) = some .free),
    d0 := by decide, c0 := by decide, d1 := by decide, c1 := by decide, mgs := PySem.W.mg_none_of X G omgs_NoRuns, top := ohtop_NoRuns, sup2 := osup_NoRuns, mro := omro_NoRuns, subV := osubV_NoRuns, nst := onst_NoRuns }
  have oB_NoRuns : Binds K (PySem.W.ksFn "__init__" "NoRuns.__init__" (defArgs Si_NoRuns) (defBody Si_NoRuns) (defScope Si_NoRuns) .none o_kV_NoRuns o_dc_NoRuns o_pm_NoRuns o_an_NoRuns (.ref o_cd_NoRuns) o_ct_NoRuns o_cc_NoRuns) ["self", "place"] [] := Binds.all fun us hl => match us, hl with | [_, _], _ => rfl
  have oR_NoRuns : RaisesK l.prog w K mg "NoRuns" "place" okN := raisesN oF_NoRuns rfl ⟨⟨_, _, _, _, _, _, _, _, _, _, _, _, _, _, _, olC_NoRuns, ohbm_NoRuns⟩, osa_NoRuns, oexC_NoRuns, otyC_NoRuns, okC_NoRuns⟩ oqc_NoRuns (PySem.W.mg_of X G oqc_NoRuns) oiC_NoRuns otI_NoRuns ohno_NoRuns oB_NoRuns rfl (by decide +kernel) (by decide +kernel)
  let T : Txt l.prog K w mg := ⟨_, _, F0, b0, PySem.W.mg_of X G a0,
    _, _, F1, b1, PySem.W.mg_of X G a1,
    _, _, F2, b2, PySem.W.mg_of X G a2,
    _, _, F3, b3, PySem.W.mg_of X G a3,
    _, _, F4, b4, PySem.W.mg_of X G a4,
    _, _, F5, b5, PySem.W.mg_of X G a5,
    _, _, F6, b6, PySem.W.mg_of X G a6,
    _, _, F7, b7, PySem.W.mg_of X G a7,
    _, _, F8, b8, PySem.W.mg_of X G a8,
    _, _, F9, b9, PySem.W.mg_of X G a9,
    _, _, F10, b10, PySem.W.mg_of X G a10,
    _, _, F11, b11, PySem.W.mg_of X G a11,
    _, _, F12, b12, PySem.W.mg_of X G a12,
    _, _, F13, b13, PySem.W.mg_of X G a13,
    PySem.W.mg_none_of X G z_ValueError,
    PySem.W.mg_none_of X G z_all,
    PySem.W.mg_none_of X G z_bool,
    PySem.W.mg_none_of X G z_enumerate,
    PySem.W.mg_none_of X G z_int,
    PySem.W.mg_none_of X G z_isinstance,
    PySem.W.mg_none_of X G z_len,
    PySem.W.mg_none_of X G z_max,
    PySem.W.mg_none_of X G z_range,
    PySem.W.mg_none_of X G z_str,
    PySem.W.mg_none_of X G z_sum,
    PySem.W.mg_none_of X G z_tuple,
    ⟨_, PySem.W.mg_of X G q_FREE⟩,
    ⟨_, PySem.W.mg_of X G q_WALL⟩,
    C_NoWay,
    PySem.W.mg_of X G qc_NoWay,
    (xisl_cons qc_NoWay ⟨x1_NoWay, x2_NoWay, x3_NoWay, x4_NoWay, x5_NoWay, gx6, gx7, x8_NoWay⟩ (by
      rw [show subB "NoWay" "NoWay" = true by decide +kernel]
      exact kit_refs cl_NoWay ty_NoWay s_NoWay_NoWay (fun _ => rfl)) (xisl_cons qc_NoAsk ⟨x1_NoAsk, x2_NoAsk, x3_NoAsk, x4_NoAsk, x5_NoAsk, gx6, gx7, x8_NoAsk⟩ (by
      rw [show subB "NoAsk" "NoWay" = false by decide +kernel]
      exact kit_refs cl_NoWay ty_NoWay s_NoAsk_NoWay (fun e => absurd e ne_NoAsk_NoWay)) (xisl_cons qc_NoGrid ⟨x1_NoGrid, x2_NoGrid, x3_NoGrid, x4_NoGrid, x5_NoGrid, gx6, gx7, x8_NoGrid⟩ (by
      rw [show subB "NoGrid" "NoWay" = false by decide +kernel]
      exact kit_refs cl_NoWay ty_NoWay s_NoGrid_NoWay (fun e => absurd e ne_NoGrid_NoWay)) (xisl_cons qc_NoRuns ⟨x1_NoRuns, x2_NoRuns, x3_NoRuns, x4_NoRuns, x5_NoRuns, gx6, gx7, x8_NoRuns⟩ (by
      rw [show subB "NoRuns" "NoWay" = false by decide +kernel]
      exact kit_refs cl_NoWay ty_NoWay s_NoRuns_NoWay (fun e => absurd e ne_NoRuns_NoWay)) (xisl_cons qc_NoPlace ⟨x1_NoPlace, x2_NoPlace, x3_NoPlace, x4_NoPlace, x5_NoPlace, gx6, gx7, x8_NoPlace⟩ (by
      rw [show subB "NoPlace" "NoWay" = false by decide +kernel]
      exact kit_refs cl_NoWay ty_NoWay s_NoPlace_NoWay (fun e => absurd e ne_NoPlace_NoWay)) xisl_nil))))),
    C_NoAsk,
    PySem.W.mg_of X G qc_NoAsk,
    (xisl_cons qc_NoWay ⟨x1_NoWay, x2_NoWay, x3_NoWay, x4_NoWay, x5_NoWay, gx6, gx7, x8_NoWay⟩ (by
      rw [show subB "NoWay" "NoAsk" = false by decide +kernel]
      exact kit_refs cl_NoAsk ty_NoAsk s_NoWay_NoAsk (fun e => absurd e ne_NoWay_NoAsk)) (xisl_cons qc_NoAsk ⟨x1_NoAsk, x2_NoAsk, x3_NoAsk, x4_NoAsk, x5_NoAsk, gx6, gx7, x8_NoAsk⟩ (by
      rw [show subB "NoAsk" "NoAsk" = true by decide +kernel]
      exact kit_refs cl_NoAsk ty_NoAsk s_NoAsk_NoAsk (fun _ => rfl)) (xisl_cons qc_NoGrid ⟨x1_NoGrid, x2_NoGrid, x3_NoGrid, x4_NoGrid, x5_NoGrid, gx6, gx7, x8_NoGrid⟩ (by
      rw [show subB "NoGrid" "NoAsk" = false by decide +kernel]
      exact kit_refs cl_NoAsk ty_NoAsk s_NoGrid_NoAsk (fun e => absurd e ne_NoGrid_NoAsk)) (xisl_cons qc_NoRuns ⟨x1_NoRuns, x2_NoRuns, x3_NoRuns, x4_NoRuns, x5_NoRuns, gx6, gx7, x8_NoRuns⟩ (by
      rw [show subB "NoRuns" "NoAsk" = false by decide +kernel]
      exact kit_refs cl_NoAsk ty_NoAsk s_NoRuns_NoAsk (fun e => absurd e ne_NoRuns_NoAsk)) (xisl_cons qc_NoPlace ⟨x1_NoPlace, x2_NoPlace, x3_NoPlace, x4_NoPlace, x5_NoPlace, gx6, gx7, x8_NoPlace⟩ (by
      rw [show subB "NoPlace" "NoAsk" = false by decide +kernel]
      exact kit_refs cl_NoAsk ty_NoAsk s_NoPlace_NoAsk (fun e => absurd e ne_NoPlace_NoAsk)) xisl_nil))))),
    C_NoGrid,
    PySem.W.mg_of X G qc_NoGrid,
    (xisl_cons qc_NoWay ⟨x1_NoWay, x2_NoWay, x3_NoWay, x4_NoWay, x5_NoWay, gx6, gx7, x8_NoWay⟩ (by
      rw [show subB "NoWay" "NoGrid" = false by decide +kernel]
      exact kit_refs cl_NoGrid ty_NoGrid s_NoWay_NoGrid (fun e => absurd e ne_NoWay_NoGrid)) (xisl_cons qc_NoAsk ⟨x1_NoAsk, x2_NoAsk, x3_NoAsk, x4_NoAsk, x5_NoAsk, gx6, gx7, x8_NoAsk⟩ (by
      rw [show subB "NoAsk" "NoGrid" = false by decide +kernel]
      exact kit_refs cl_NoGrid ty_NoGrid s_NoAsk_NoGrid (fun e => absurd e ne_NoAsk_NoGrid)) (xisl_cons qc_NoGrid ⟨x1_NoGrid, x2_NoGrid, x3_NoGrid, x4_NoGrid, x5_NoGrid, gx6, gx7, x8_NoGrid⟩ (by
      rw [show subB "NoGrid" "NoGrid" = true by decide +kernel]
      exact kit_refs cl_NoGrid ty_NoGrid s_NoGrid_NoGrid (fun _ => rfl)) (xisl_cons qc_NoRuns ⟨x1_NoRuns, x2_NoRuns, x3_NoRuns, x4_NoRuns, x5_NoRuns, gx6, gx7, x8_NoRuns⟩ (by
      rw [show subB "NoRuns" "NoGrid" = false by decide +kernel]
      exact kit_refs cl_NoGrid ty_NoGrid s_NoRuns_NoGrid (fun e => absurd e ne_NoRuns_NoGrid)) (xisl_cons qc_NoPlace ⟨x1_NoPlace, x2_NoPlace, x3_NoPlace, x4_NoPlace, x5_NoPlace, gx6, gx7, x8_NoPlace⟩ (by
      rw [show subB "NoPlace" "NoGrid" = false by decide +kernel]
      exact kit_refs cl_NoGrid ty_NoGrid s_NoPlace_NoGrid (fun e => absurd e ne_NoPlace_NoGrid)) xisl_nil))))),
    C_NoPlace,
    PySem.W.mg_of X G qc_NoPlace,
    (xisl_cons qc_NoWay ⟨x1_NoWay, x2_NoWay, x3_NoWay, x4_NoWay, x5_NoWay, gx6, gx7, x8_NoWay⟩ (by
      rw [show subB "NoWay" "NoPlace" = false by decide +kernel]
      exact kit_refs cl_NoPlace ty_NoPlace s_NoWay_NoPlace (fun e => absurd e ne_NoWay_NoPlace)) (xisl_cons qc_NoAsk ⟨x1_NoAsk, x2_NoAsk, x3_NoAsk, x4_NoAsk, x5_NoAsk, gx6, gx7, x8_NoAsk⟩ (by
      rw [show subB "NoAsk" "NoPlace" = false by decide +kernel]
      exact kit_refs cl_NoPlace ty_NoPlace s_NoAsk_NoPlace (fun e => absurd e ne_NoAsk_NoPlace)) (xisl_cons qc_NoGrid ⟨x1_NoGrid, x2_NoGrid, x3_NoGrid, x4_NoGrid, x5_NoGrid, gx6, gx7, x8_NoGrid⟩ (by
      rw [show subB "NoGrid" "NoPlace" = false by decide +kernel]
      exact kit_refs cl_NoPlace ty_NoPlace s_NoGrid_NoPlace (fun e => absurd e ne_NoGrid_NoPlace)) (xisl_cons qc_NoRuns ⟨x1_NoRuns, x2_NoRuns, x3_NoRuns, x4_NoRuns, x5_NoRuns, gx6, gx7, x8_NoRuns⟩ (by
      rw [show subB "NoRuns" "NoPlace" = false by decide +kernel]
      exact kit_refs cl_NoPlace ty_NoPlace s_NoRuns_NoPlace (fun e => absurd e ne_NoRuns_NoPlace)) (xisl_cons qc_NoPlace ⟨x1_NoPlace, x2_NoPlace, x3_NoPlace, x4_NoPlace, x5_NoPlace, gx6, gx7, x8_NoPlace⟩ (by
      rw [show subB "NoPlace" "NoPlace" = true by decide +kernel]
      exact kit_refs cl_NoPlace ty_NoPlace s_NoPlace_NoPlace (fun _ => rfl)) xisl_nil))))),
    C_NoRuns,
    PySem.W.mg_of X G qc_NoRuns,
    (xisl_cons qc_NoWay ⟨x1_NoWay, x2_NoWay, x3_NoWay, x4_NoWay, x5_NoWay, gx6, gx7, x8_NoWay⟩ (by
      rw [show subB "NoWay" "NoRuns" = false by decide +kernel]
      exact kit_refs cl_NoRuns ty_NoRuns s_NoWay_NoRuns (fun e => absurd e ne_NoWay_NoRuns)) (xisl_cons qc_NoAsk ⟨x1_NoAsk, x2_NoAsk, x3_NoAsk, x4_NoAsk, x5_NoAsk, gx6, gx7, x8_NoAsk⟩ (by
      rw [show subB "NoAsk" "NoRuns" = false by decide +kernel]
      exact kit_refs cl_NoRuns ty_NoRuns s_NoAsk_NoRuns (fun e => absurd e ne_NoAsk_NoRuns)) (xisl_cons qc_NoGrid ⟨x1_NoGrid, x2_NoGrid, x3_NoGrid, x4_NoGrid, x5_NoGrid, gx6, gx7, x8_NoGrid⟩ (by
      rw [show subB "NoGrid" "NoRuns" = false by decide +kernel]
      exact kit_refs cl_NoRuns ty_NoRuns s_NoGrid_NoRuns (fun e => absurd e ne_NoGrid_NoRuns)) (xisl_cons qc_NoRuns ⟨x1_NoRuns, x2_NoRuns, x3_NoRuns, x4_NoRuns, x5_NoRuns, gx6, gx7, x8_NoRuns⟩ (by
      rw [show subB "NoRuns" "NoRuns" = true by decide +kernel]
      exact kit_refs cl_NoRuns ty_NoRuns s_NoRuns_NoRuns (fun _ => rfl)) (xisl_cons qc_NoPlace ⟨x1_NoPlace, x2_NoPlace, x3_NoPlace, x4_NoPlace, x5_NoPlace, gx6, gx7, x8_NoPlace⟩ (by
      rw [show subB "NoPlace" "NoRuns" = false by decide +kernel]
      exact kit_refs cl_NoRuns ty_NoRuns s_NoPlace_NoRuns (fun e => absurd e ne_NoPlace_NoRuns)) xisl_nil))))),
    C_TurnError,
    PySem.W.mg_of X G qc_TurnError,
    (xisl_cons qc_NoWay ⟨x1_NoWay, x2_NoWay, x3_NoWay, x4_NoWay, x5_NoWay, gx6, gx7, x8_NoWay⟩ (by
      rw [show subB "NoWay" "TurnError" = true by decide +kernel]
      exact kit_refs cl_TurnError ty_TurnError s_NoWay_TurnError (fun _ => rfl)) (xisl_cons qc_NoAsk ⟨x1_NoAsk, x2_NoAsk, x3_NoAsk, x4_NoAsk, x5_NoAsk, gx6, gx7, x8_NoAsk⟩ (by
      rw [show subB "NoAsk" "TurnError" = true by decide +kernel]
      exact kit_refs cl_TurnError ty_TurnError s_NoAsk_TurnError (fun _ => rfl)) (xisl_cons qc_NoGrid ⟨x1_NoGrid, x2_NoGrid, x3_NoGrid, x4_NoGrid, x5_NoGrid, gx6, gx7, x8_NoGrid⟩ (by
      rw [show subB "NoGrid" "TurnError" = true by decide +kernel]
      exact kit_refs cl_TurnError ty_TurnError s_NoGrid_TurnError (fun _ => rfl)) (xisl_cons qc_NoRuns ⟨x1_NoRuns, x2_NoRuns, x3_NoRuns, x4_NoRuns, x5_NoRuns, gx6, gx7, x8_NoRuns⟩ (by
      rw [show subB "NoRuns" "TurnError" = true by decide +kernel]
      exact kit_refs cl_TurnError ty_TurnError s_NoRuns_TurnError (fun _ => rfl)) (xisl_cons qc_NoPlace ⟨x1_NoPlace, x2_NoPlace, x3_NoPlace, x4_NoPlace, x5_NoPlace, gx6, gx7, x8_NoPlace⟩ (by
      rw [show subB "NoPlace" "TurnError" = true by decide +kernel]
      exact kit_refs cl_TurnError ty_TurnError s_NoPlace_TurnError (fun _ => rfl)) xisl_nil))))),
    (xisl_cons qc_NoWay ⟨x1_NoWay, x2_NoWay, x3_NoWay, x4_NoWay, x5_NoWay, gx6, gx7, x8_NoWay⟩ (by
      rw [show subB "NoWay" "ValueError" = true by decide +kernel]
      exact kit_VE sv_NoWay) (xisl_cons qc_NoAsk ⟨x1_NoAsk, x2_NoAsk, x3_NoAsk, x4_NoAsk, x5_NoAsk, gx6, gx7, x8_NoAsk⟩ (by
      rw [show subB "NoAsk" "ValueError" = true by decide +kernel]
      exact kit_VE sv_NoAsk) (xisl_cons qc_NoGrid ⟨x1_NoGrid, x2_NoGrid, x3_NoGrid, x4_NoGrid, x5_NoGrid, gx6, gx7, x8_NoGrid⟩ (by
      rw [show subB "NoGrid" "ValueError" = true by decide +kernel]
      exact kit_VE sv_NoGrid) (xisl_cons qc_NoRuns ⟨x1_NoRuns, x2_NoRuns, x3_NoRuns, x4_NoRuns, x5_NoRuns, gx6, gx7, x8_NoRuns⟩ (by
      rw [show subB "NoRuns" "ValueError" = true by decide +kernel]
      exact kit_VE sv_NoRuns) (xisl_cons qc_NoPlace ⟨x1_NoPlace, x2_NoPlace, x3_NoPlace, x4_NoPlace, x5_NoPlace, gx6, gx7, x8_NoPlace⟩ (by
      rw [show subB "NoPlace" "ValueError" = true by decide +kernel]
      exact kit_VE sv_NoPlace) xisl_nil))))),
    (xfin_cons qc_NoRuns ⟨x1_NoRuns, x2_NoRuns, x3_NoRuns, x4_NoRuns⟩ xn_place_NoRuns (xfin_cons qc_NoPlace ⟨x1_NoPlace, x2_NoPlace, x3_NoPlace, x4_NoPlace⟩ xn_place_NoPlace xfin_nil)),
    (xfin_cons qc_NoGrid ⟨x1_NoGrid, x2_NoGrid, x3_NoGrid, x4_NoGrid⟩ xn_row_NoGrid xfin_nil),
    ⟨_, PySem.W.mg_of X G qc_NoWay, qc_NoWay, ex_N, kp_N, sb_N, ty_NoWay⟩,
    (cat_cons qc_NoWay (PySem.W.exm_ref sT_TurnError hT_TurnError ty_TurnError s_NoWay_TurnError) (cat_cons qc_NoAsk (PySem.W.exm_ref sT_TurnError hT_TurnError ty_TurnError s_NoAsk_TurnError) (cat_cons qc_NoGrid (PySem.W.exm_ref sT_TurnError hT_TurnError ty_TurnError s_NoGrid_TurnError) (cat_cons qc_NoRuns (PySem.W.exm_ref sT_TurnError hT_TurnError ty_TurnError s_NoRuns_TurnError) (cat_cons qc_NoPlace (PySem.W.exm_ref sT_TurnError hT_TurnError ty_TurnError s_NoPlace_TurnError) cat_nil))))),
    ⟨C_NoAsk, PySem.W.mg_of X G qc_NoAsk, sx_NoAsk, sk_NoAsk, x3_NoAsk, st_NoAsk⟩,
    ⟨C_NoWay, PySem.W.mg_of X G qc_NoWay, sx_NoWay, sk_NoWay, x3_NoWay, st_NoWay⟩,
    oR_NoGrid,
    oR_NoPlace,
    oR_NoRuns⟩
  exact ⟨PySem.W.fnOf "law" "law" (defArgs S_law) (defBody S_law) (defScope S_law) .none kV13 dc13 pm13 an13 cd13 ct13, fun s v => .of_eq rfl, fun base _ _ => (ok_law T).imp law_imp⟩
end Lw
open PySem PySem.W PyProof.Rows
set_option maxHeartbeats 0 in
theorem PySem.Challenge.cw_fewturns_k02_texts_of_no_grids_holds : PySem.Challenge.rw_fewturns_k02_texts_of_no_grids.Holds := by
  w_on; o_law; k_head; (case hw => w_witness2)
  k_fill
  refine L2.walk_of (l := PySem.Challenge.rw_fewturns_k02_texts_of_no_grids) (n := 63) (k := 6) (x := "script") (CX := fun _ => L2.CX0) (sp := fun w => Lw.spLaw _) rfl (by decide) rfl ⟨rfl, by decide, by decide⟩ (fun w h Y => PySem.W.kIn_of Y) ?F (fun _ _ a ns hl _ hS => ⟨a, ns, rfl, hS, hl, fun _ => rfl⟩) (fun _ _ _ _ _ h => h)
  case F =>
    intro w mg fa h KX G hmg
    refine' Lw.all_mk KX G hmg ?a0 ?l0 ?c0 ?k0 ?a1 ?l1 ?c1 ?k1 ?a2 ?l2 ?c2 ?k2 ?a3 ?l3 ?c3 ?k3 ?a4 ?l4 ?c4 ?k4 ?a5 ?l5 ?c5 ?k5 ?a6 ?l6 ?c6 ?k6 ?a7 ?l7 ?c7 ?k7 ?a8 ?l8 ?c8 ?k8 ?a9 ?l9 ?c9 ?k9 ?a10 ?l10 ?c10 ?k10 ?a11 ?l11 ?c11 ?k11 ?a12 ?l12 ?c12 ?k12 ?a13 ?l13 ?c13 ?k13 ?z_ValueError ?z_all ?z_bool ?z_enumerate ?z_int ?z_isinstance ?z_len ?z_max ?z_range ?z_str ?z_sum ?z_tuple ?q_FREE ?q_WALL ?qc_NoWay ?cl_NoWay ?ty_NoWay ?qc_NoAsk ?cl_NoAsk ?ty_NoAsk ?qc_NoGrid ?cl_NoGrid ?ty_NoGrid ?qc_NoPlace ?cl_NoPlace ?ty_NoPlace ?qc_NoRuns ?cl_NoRuns ?ty_NoRuns ?qc_TurnError ?cl_TurnError ?ty_TurnError ?gx6 ?gx7 ?x1_NoWay ?x2_NoWay ?x3_NoWay ?x4_NoWay ?x5_NoWay ?x8_NoWay ?sv_NoWay ?s_NoWay_NoWay ?s_NoWay_NoAsk ?ne_NoWay_NoAsk ?s_NoWay_NoGrid ?ne_NoWay_NoGrid ?s_NoWay_NoPlace ?ne_NoWay_NoPlace ?s_NoWay_NoRuns ?ne_NoWay_NoRuns ?s_NoWay_TurnError ?x1_NoAsk ?x2_NoAsk ?x3_NoAsk ?x4_NoAsk ?x5_NoAsk ?x8_NoAsk ?sv_NoAsk ?s_NoAsk_NoWay ?ne_NoAsk_NoWay ?s_NoAsk_NoAsk ?s_NoAsk_NoGrid ?ne_NoAsk_NoGrid ?s_NoAsk_NoPlace ?ne_NoAsk_NoPlace ?s_NoAsk_NoRuns ?ne_NoAsk_NoRuns ?s_NoAsk_TurnError ?x1_NoGrid ?x2_NoGrid ?x3_NoGrid ?x4_NoGrid ?x5_NoGrid ?x8_NoGrid ?sv_NoGrid ?s_NoGrid_NoWay ?ne_NoGrid_NoWay ?s_NoGrid_NoAsk ?ne_NoGrid_NoAsk ?s_NoGrid_NoGrid ?s_NoGrid_NoPlace ?ne_NoGrid_NoPlace ?s_NoGrid_NoRuns ?ne_NoGrid_NoRuns ?s_NoGrid_TurnError ?x1_NoRuns ?x2_NoRuns ?x3_NoRuns ?x4_NoRuns ?x5_NoRuns ?x8_NoRuns ?sv_NoRuns ?s_NoRuns_NoWay ?ne_NoRuns_NoWay ?s_NoRuns_NoAsk ?ne_NoRuns_NoAsk ?s_NoRuns_NoGrid ?ne_NoRuns_NoGrid ?s_NoRuns_NoPlace ?ne_NoRuns_NoPlace ?s_NoRuns_NoRuns ?s_NoRuns_TurnError ?x1_NoPlace ?x2_NoPlace ?x3_NoPlace ?x4_NoPlace ?x5_NoPlace ?x8_NoPlace ?sv_NoPlace ?s_NoPlace_NoWay ?ne_NoPlace_NoWay ?s_NoPlace_NoAsk ?ne_NoPlace_NoAsk ?s_NoPlace_NoGrid ?ne_NoPlace_NoGrid ?s_NoPlace_NoPlace ?s_NoPlace_NoRuns ?ne_NoPlace_NoRuns ?s_NoPlace_TurnError ?xn_place_NoRuns ?xn_place_NoPlace ?xn_row_NoGrid ?sx_NoAsk ?sk_NoAsk ?st_NoAsk ?sx_NoWay ?sk_NoWay ?st_NoWay ?ex_N ?kp_N ?sb_N ?oqc_NoGrid ?oiC_NoGrid ?otI_NoGrid ?olf_NoGrid ?ocd_NoGrid ?olcc_NoGrid ?olcd_NoGrid ?ohvs_NoGrid ?ohfi_NoGrid ?osup_NoGrid ?omro_NoGrid ?osubV_NoGrid ?onst_NoGrid ?omgs_NoGrid ?olC_NoGrid ?ohbm_NoGrid ?osa_NoGrid ?oexC_NoGrid ?otyC_NoGrid ?okC_NoGrid ?ohno_NoGrid ?ohtop_NoGrid ?oqc_NoPlace ?oiC_NoPlace ?otI_NoPlace ?olf_NoPlace ?ocd_NoPlace ?olcc_NoPlace ?olcd_NoPlace ?ohvs_NoPlace ?ohfi_NoPlace ?osup_NoPlace ?omro_NoPlace ?osubV_NoPlace ?onst_NoPlace ?omgs_NoPlace ?olC_NoPlace ?ohbm_NoPlace ?osa_NoPlace ?oexC_NoPlace ?otyC_NoPlace ?okC_NoPlace ?ohno_NoPlace ?ohtop_NoPlace ?oqc_NoRuns ?oiC_NoRuns ?otI_NoRuns ?olf_NoRuns ?ocd_NoRuns ?olcc_NoRuns ?olcd_NoRuns ?ohvs_NoRuns ?ohfi_NoRuns ?osup_NoRuns ?omro_NoRuns ?osubV_NoRuns ?onst_NoRuns ?omgs_NoRuns ?olC_NoRuns ?ohbm_NoRuns ?osa_NoRuns ?oexC_NoRuns ?otyC_NoRuns ?okC_NoRuns ?ohno_NoRuns ?ohtop_NoRuns ?sT_TurnError ?hT_TurnError
    (case a0 => k_is); (case l0 => k_is); (case c0 => k_is); (case k0 => k_is); (case a1 => k_is); (case l1 => k_is); (case c1 => k_is); (case k1 => k_is)
    (case a2 => k_is); (case l2 => k_is); (case c2 => k_is); (case k2 => k_is); (case a3 => k_is); (case l3 => k_is); (case c3 => k_is); (case k3 => k_is)
    (case a4 => k_is); (case l4 => k_is); (case c4 => k_is); (case k4 => k_is); (case a5 => k_is); (case l5 => k_is); (case c5 => k_is); (case k5 => k_is)
    (case a6 => k_is); (case l6 => k_is); (case c6 => k_is); (case k6 => k_is); (case a7 => k_is); (case l7 => k_is); (case c7 => k_is); (case k7 => k_is)
    (case a8 => k_is); (case l8 => k_is); (case c8 => k_is); (case k8 => k_is); (case a9 => k_is); (case l9 => k_is); (case c9 => k_is); (case k9 => k_is)
    (case a10 => k_is); (case l10 => k_is); (case c10 => k_is); (case k10 => k_is); (case a11 => k_is); (case l11 => k_is); (case c11 => k_is); (case k11 => k_is)
    (case a12 => k_is); (case l12 => k_is); (case c12 => k_is); (case k12 => k_is); (case a13 => k_is); (case l13 => k_is); (case c13 => k_is); (case k13 => k_is)
    (case z_ValueError => k_is); (case z_all => k_is); (case z_bool => k_is); (case z_enumerate => k_is); (case z_int => k_is); (case z_isinstance => k_is); (case z_len => k_is); (case z_max => k_is)
    (case z_range => k_is); (case z_str => k_is); (case z_sum => k_is); (case z_tuple => k_is); (case q_FREE => k_is); (case q_WALL => k_is); (case qc_NoWay => k_is); (case cl_NoWay => k_is)
    (case ty_NoWay => k_is); (case qc_NoAsk => k_is); (case cl_NoAsk => k_is); (case ty_NoAsk => k_is); (case qc_NoGrid => k_is); (case cl_NoGrid => k_is); (case ty_NoGrid => k_is); (case qc_NoPlace => k_is)
    (case cl_NoPlace => k_is); (case ty_NoPlace => k_is); (case qc_NoRuns => k_is); (case cl_NoRuns => k_is); (case ty_NoRuns => k_is); (case qc_TurnError => k_is); (case cl_TurnError => k_is); (case ty_TurnError => k_is)
    (case gx6 => k_is); (case gx7 => k_is); (case x1_NoWay => k_is); (case x2_NoWay => k_is); (case x3_NoWay => k_is); (case x4_NoWay => k_is); (case x5_NoWay => k_is); (case x8_NoWay => k_is)
    (case sv_NoWay => k_is); (case s_NoWay_NoWay => k_is); (case s_NoWay_NoAsk => k_is); (case ne_NoWay_NoAsk => decide); (case s_NoWay_NoGrid => k_is); (case ne_NoWay_NoGrid => decide); (case s_NoWay_NoPlace => k_is); (case ne_NoWay_NoPlace => decide)
    (case s_NoWay_NoRuns => k_is); (case ne_NoWay_NoRuns => decide); (case s_NoWay_TurnError => k_is); (case x1_NoAsk => k_is); (case x2_NoAsk => k_is); (case x3_NoAsk => k_is); (case x4_NoAsk => k_is); (case x5_NoAsk => k_is)
    (case x8_NoAsk => k_is); (case sv_NoAsk => k_is); (case s_NoAsk_NoWay => k_is); (case ne_NoAsk_NoWay => decide); (case s_NoAsk_NoAsk => k_is); (case s_NoAsk_NoGrid => k_is); (case ne_NoAsk_NoGrid => decide); (case s_NoAsk_NoPlace => k_is)
    (case ne_NoAsk_NoPlace => decide); (case s_NoAsk_NoRuns => k_is); (case ne_NoAsk_NoRuns => decide); (case s_NoAsk_TurnError => k_is); (case x1_NoGrid => k_is); (case x2_NoGrid => k_is); (case x3_NoGrid => k_is); (case x4_NoGrid => k_is)
    (case x5_NoGrid => k_is); (case x8_NoGrid => k_is); (case sv_NoGrid => k_is); (case s_NoGrid_NoWay => k_is); (case ne_NoGrid_NoWay => decide); (case s_NoGrid_NoAsk => k_is); (case ne_NoGrid_NoAsk => decide); (case s_NoGrid_NoGrid => k_is)
    (case s_NoGrid_NoPlace => k_is); (case ne_NoGrid_NoPlace => decide); (case s_NoGrid_NoRuns => k_is); (case ne_NoGrid_NoRuns => decide); (case s_NoGrid_TurnError => k_is); (case x1_NoRuns => k_is); (case x2_NoRuns => k_is); (case x3_NoRuns => k_is)
    (case x4_NoRuns => k_is); (case x5_NoRuns => k_is); (case x8_NoRuns => k_is); (case sv_NoRuns => k_is); (case s_NoRuns_NoWay => k_is); (case ne_NoRuns_NoWay => decide); (case s_NoRuns_NoAsk => k_is); (case ne_NoRuns_NoAsk => decide)
    (case s_NoRuns_NoGrid => k_is); (case ne_NoRuns_NoGrid => decide); (case s_NoRuns_NoPlace => k_is); (case ne_NoRuns_NoPlace => decide); (case s_NoRuns_NoRuns => k_is); (case s_NoRuns_TurnError => k_is); (case x1_NoPlace => k_is); (case x2_NoPlace => k_is)
    (case x3_NoPlace => k_is); (case x4_NoPlace => k_is); (case x5_NoPlace => k_is); (case x8_NoPlace => k_is); (case sv_NoPlace => k_is); (case s_NoPlace_NoWay => k_is); (case ne_NoPlace_NoWay => decide); (case s_NoPlace_NoAsk => k_is)
    (case ne_NoPlace_NoAsk => decide); (case s_NoPlace_NoGrid => k_is); (case ne_NoPlace_NoGrid => decide); (case s_NoPlace_NoPlace => k_is); (case s_NoPlace_NoRuns => k_is); (case ne_NoPlace_NoRuns => decide); (case s_NoPlace_TurnError => k_is); (case xn_place_NoRuns => k_is)
    (case xn_place_NoPlace => k_is); (case xn_row_NoGrid => k_is); (case sx_NoAsk => k_exc); (case sk_NoAsk => k_is); (case st_NoAsk => k_is); (case sx_NoWay => k_exc); (case sk_NoWay => k_is); (case st_NoWay => k_is)
    (case ex_N => k_exc); (case kp_N => k_is); (case sb_N => k_is); (case oqc_NoGrid => k_is); (case oiC_NoGrid => k_is); (case otI_NoGrid => k_is); (case olf_NoGrid => k_is); (case ocd_NoGrid => k_is)
    (case olcc_NoGrid => k_is); (case olcd_NoGrid => k_is); (case ohvs_NoGrid => rfl); (case ohfi_NoGrid => decide +kernel); (case osup_NoGrid => ks_is); (case omro_NoGrid => k_is); (case osubV_NoGrid => k_is); (case onst_NoGrid => k_is)
    (case omgs_NoGrid => k_is); (case olC_NoGrid => k_is); (case ohbm_NoGrid => decide +kernel); (case osa_NoGrid => k_is); (case oexC_NoGrid => k_is); (case otyC_NoGrid => k_is); (case okC_NoGrid => k_is); (case ohno_NoGrid => k_is)
    (case ohtop_NoGrid => decide +kernel); (case oqc_NoPlace => k_is); (case oiC_NoPlace => k_is); (case otI_NoPlace => k_is); (case olf_NoPlace => k_is); (case ocd_NoPlace => k_is); (case olcc_NoPlace => k_is); (case olcd_NoPlace => k_is)
    (case ohvs_NoPlace => rfl); (case ohfi_NoPlace => decide +kernel); (case osup_NoPlace => ks_is); (case omro_NoPlace => k_is); (case osubV_NoPlace => k_is); (case onst_NoPlace => k_is); (case omgs_NoPlace => k_is); (case olC_NoPlace => k_is)
    (case ohbm_NoPlace => decide +kernel); (case osa_NoPlace => k_is); (case oexC_NoPlace => k_is); (case otyC_NoPlace => k_is); (case okC_NoPlace => k_is); (case ohno_NoPlace => k_is); (case ohtop_NoPlace => decide +kernel); (case oqc_NoRuns => k_is)
    (case oiC_NoRuns => k_is); (case otI_NoRuns => k_is); (case olf_NoRuns => k_is); (case ocd_NoRuns => k_is); (case olcc_NoRuns => k_is); (case olcd_NoRuns => k_is); (case ohvs_NoRuns => rfl); (case ohfi_NoRuns => decide +kernel)
    (case osup_NoRuns => ks_is); (case omro_NoRuns => k_is); (case osubV_NoRuns => k_is); (case onst_NoRuns => k_is); (case omgs_NoRuns => k_is); (case olC_NoRuns => k_is); (case ohbm_NoRuns => decide +kernel); (case osa_NoRuns => k_is)
    (case oexC_NoRuns => k_is); (case otyC_NoRuns => k_is); (case okC_NoRuns => k_is); (case ohno_NoRuns => k_is); (case ohtop_NoRuns => decide +kernel); (case sT_TurnError => k_is); (case hT_TurnError => k_is)
