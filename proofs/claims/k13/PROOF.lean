import PyProof.Rows.All
import Wide.All
import OpenK.AllK
import Wide.FinOn
import HandS.ForMost
import HandS.Deep
import HandS.Flow
import HandS.Style
import HandS.IsInst
import HandS.TupAny
import HandS.Zip
import HandS.NoneIn
import KE.GoesMore
import HandS.More
import PyProof.SeqIndex
import KE.GoesEnum
import HandS.WordsExc
import HandS.ExcIs
import HandS.ExcOwn
import HandS.TryOnly
import PyProof.EqAt
import HandS.FStr
import PyProof.StrBlock2
import PyProof.Rows.StrJoinRep
import HandS.ExcInit
import HandS.ExcSuper
import KE.KExcSuper
import HandS.ClsMeth
import KE.KSuperObj
import HandS.ExcField
import HandS.StrMore
import HandS.FStrTup
import PyProof.FitsInt
import HandS.TryMany
import KE.KExcStr
import HandS.ExcValue
import HandS.DictComp
import HandS.DictTup
import KE.KDictSum
import KE.SortData
import HandS.Conv
import KE.KDictPairs
import HandS.TupMul
import KE.KDictCopyH
import KE.KEqDict
import PySem.Challenge.RW_fewturns_k13_turns_told
set_option Elab.async false
set_option linter.all false
set_option maxRecDepth 100000
set_option maxHeartbeats 4000000
/-! A calculus over plain data: what a piece of the program does to the values of its names, heaps left behind. -/
namespace DL
open PySem PySem.Spec PyProof.Rows L2

abbrev Sg := L2.St
abbrev Fp := Addr → Nat
def z0 : Fp := fun _ => 0
def padd (m n : Fp) : Fp := fun a => m a + n a
def one (p : Addr) : Fp := fun a => if a = p then 1 else 0
theorem padd_z (m : Fp) : padd m z0 = m := rfl
theorem z_padd (m : Fp) : padd z0 m = m := by funext a; exact Nat.zero_add _
theorem padd_assoc (a b c : Fp) : padd (padd a b) c = padd a (padd b c) := by funext x; exact Nat.add_assoc _ _ _

/-! ### frozen data -/
section
variable {K : PySem.W.Frag} {H H' : Hp}
theorem same_t {a : Addr} {xs : List V} (e : Same H H') (h : SqT K H a xs) : SqT K H' a xs := by
  rcases h with (h | ⟨o, h⟩) | h
  · exact .inl (.inl (e _ _ h))
  · exact .inl (.inr ⟨o, e _ _ h⟩)
  · exact .inr h
mutual
theorem dpm (e : Same H H') : ∀ (d : PyData) (v : V), Dp K H v d → Dp K H' v d
  | .none, _, h => by cases h; exact .non
  | .bool b, _, h => by cases h; exact .bl b
  | .int i, _, h => by cases h; exact .int i
  | .str x, _, h => by cases h; exact .str x
  | .list ds, _, h => by
    cases h with
    | lst hs ha => exact .lst (e.seq hs) (dpam e ds _ ha)
  | .tuple ds, _, h => by
    cases h with
    | tup hs ha => exact .tup (same_t e hs) (dpam e ds _ ha)
  | .dict _, _, h => by cases h
theorem dpam (e : Same H H') : ∀ (ds : List PyData) (vs : List V), DpAll K H vs ds → DpAll K H' vs ds
  | [], _, h => by cases h; exact .nil
  | d :: ds, _, h => by
    cases h with
    | cons h1 h2 => exact .cons (dpm e d _ h1) (dpam e ds _ h2)
end
end
end DL
namespace L2
open PySem
section
variable {K : PySem.W.Frag} {H : Hp}
theorem DpAll.length : ∀ {vs : List V} {ds : List PyData}, DpAll K H vs ds → vs.length = ds.length
  | _, _, .nil => rfl
  | _, _, .cons _ h => by rw [List.length_cons, List.length_cons, DpAll.length h]
theorem DpAll.get : ∀ {vs : List V} {ds : List PyData} {i : Nat} {d : PyData}, DpAll K H vs ds → ds[i]? = some d → ∃ v, vs[i]? = some v ∧ Dp K H v d
  | _, _, _, _, .nil, e => by simp at e
  | _, _, 0, _, .cons h _, e => by simp at e; subst e; exact ⟨_, rfl, h⟩
  | _, _, i + 1, _, .cons _ h, e => by
    obtain ⟨v, h1, h2⟩ := DpAll.get (i := i) h (by simpa using e)
    exact ⟨v, by simpa using h1, h2⟩
theorem DpAll.getV : ∀ {vs : List V} {ds : List PyData} {i : Nat} {v : V}, DpAll K H vs ds → vs[i]? = some v → ∃ d, ds[i]? = some d ∧ Dp K H v d
  | _, _, _, _, .nil, e => by simp at e
  | _, _, 0, _, .cons h _, e => by simp at e; subst e; exact ⟨_, rfl, h⟩
  | _, _, i + 1, _, .cons _ h, e => by
    obtain ⟨v, h1, h2⟩ := DpAll.getV (i := i) h (by simpa using e)
    exact ⟨v, by simpa using h1, h2⟩
theorem DpAll.append : ∀ {vs ws : List V} {ds es : List PyData}, DpAll K H vs ds → DpAll K H ws es → DpAll K H (vs ++ ws) (ds ++ es)
  | _, _, _, _, .nil, s => s
  | _, _, _, _, .cons r t, s => .cons r (DpAll.append t s)
theorem DpAll.set {d : PyData} {v : V} (r : Dp K H v d) : ∀ {vs : List V} {ds : List PyData} (i : Nat), DpAll K H vs ds → DpAll K H (vs.set i v) (ds.set i d)
  | _, _, _, .nil => .nil
  | _, _, 0, .cons _ t => .cons r t
  | _, _, i + 1, .cons q t => .cons q (DpAll.set r i t)
theorem DpAll.take : ∀ {vs : List V} {ds : List PyData} (n : Nat), DpAll K H vs ds → DpAll K H (vs.take n) (ds.take n)
  | _, _, 0, _ => .nil
  | _, _, _ + 1, .nil => .nil
  | _, _, n + 1, .cons r t => .cons r (DpAll.take n t)
theorem DpAll.drop : ∀ {vs : List V} {ds : List PyData} (n : Nat), DpAll K H vs ds → DpAll K H (vs.drop n) (ds.drop n)
  | _, _, 0, r => r
  | _, _, _ + 1, .nil => .nil
  | _, _, n + 1, .cons _ t => DpAll.drop n t
theorem DpAll.reverse : ∀ {vs : List V} {ds : List PyData}, DpAll K H vs ds → DpAll K H vs.reverse ds.reverse
  | _, _, .nil => .nil
  | _, _, .cons r t => by
    rw [List.reverse_cons, List.reverse_cons]
    exact DpAll.append (DpAll.reverse t) (.cons r .nil)
end
end L2
namespace DL
open PySem PySem.Spec PyProof.Rows L2

/-! ### exceptions that were caught -/
/-- at a: an exception object of the class cls, its dict at d -/
def exK (a : Addr) (cls : Value) (d : Option Addr) : HO := .ext fun h => ∃ oe vs, h.get? a = some oe ∧ oe.cls = cls ∧ oe.dict = d ∧ oe.data = .fields vs
/-- v is an exception of the module's class n, which keeps k -/
def ExcT (K : PySem.W.Frag) (F : Hp) (n : Str) (k : Option (Str × PyData)) (v : V) : Prop := ∃ a C d, v = .ref a ∧ PySem.W.nsIn K mainGlobals n = some (some (.ref C)) ∧ F a = some (exK a (.ref C) d) ∧ match k with
  | none => d = none
  | some (f, y) => ∃ dd u, d = some dd ∧ F dd = some (.xd [(f, u)]) ∧ Dp K F u y
theorem ExcT.kp {K : PySem.W.Frag} {F F' : Hp} {n : Str} {k : Option (Str × PyData)} {v : V} (x : ExcT K F n k v) (e : Same F F') : ExcT K F' n k v := by
  obtain ⟨a, C, d, h1, h2, h3, h4⟩ := x
  refine ⟨a, C, d, h1, h2, e _ _ h3, ?_⟩
  cases k with
  | none => exact h4
  | some p =>
    obtain ⟨dd, u, g1, g2, g3⟩ := h4
    exact ⟨dd, u, g1, e _ _ g2, dpm e _ _ g3⟩
/-! ### dicts -/
/-- the entries es stand for ys: a key (a tuple of numbers), where it stands, the value -/
def EntsT (es : Array DictEntry) (ys : List (List Int × Addr × Value)) : Prop := ∀ (P : Program) (w : World), es.toList = ys.map (entryOfKey (tupleKind (intKind P w)))
abbrev XRel : List (List Int × Addr × V) → List (List Int × Addr × Value) → Prop := Paired fun x y => x.1 = y.1 ∧ x.2.1 = y.2.1 ∧ RelV x.2.2 y.2.2
/-- what is so of the one object at a: a dict, its keys tuples that stand at the places told -/
def PhiT (a : Addr) (xs : List (List Int × Addr × V)) (h : Heap) : Prop := xs.length ≤ sizeLine ∧ (a == sysModules) = false ∧ (xs.map (·.1)).Nodup ∧
  ∃ ys, XRel xs ys ∧ ∃ o es ep, h.get? a = some o ∧ o.ExactDict ∧ o.data = .dict es ep ∧ EntsT es ys
def dTo (a : Addr) (xs : List (List Int × Addr × V)) : HO := .ext (PhiT a xs)
/-- its keys are frozen tuples -/
def KsT (K : PySem.W.Frag) (F : Hp) (xs : List (List Int × Addr × V)) : Prop := ∀ x ∈ xs, SqT K F x.2.1 (x.1.map V.int)
theorem KsT.kp {K : PySem.W.Frag} {F F' : Hp} {xs : List (List Int × Addr × V)} (h : KsT K F xs) (e : Same F F') : KsT K F' xs := fun x hx => same_t e (h x hx)
inductive DD where
  | dk (es : List (L2.Key × PyData))
  | dt (es : List (List Int × PyData))
  | dd (ess : List (List Int × List (List Int × PyData)))
/-- what stands at a dict -/
def HoT (K : PySem.W.Frag) (F : Hp) (p : Addr) : DD → HO → Prop
  | .dk es, o => ∃ kvs : List (L2.Key × V), o = .dK kvs ∧ kvs.map (·.1) = es.map (·.1) ∧ DpAll K F (kvs.map (·.2)) (es.map (·.2))
  | .dt es, o => ∃ xs : List (List Int × Addr × V), o = dTo p xs ∧ KsT K F xs ∧ xs.map (·.1) = es.map (·.1) ∧ DpAll K F (xs.map (·.2.2)) (es.map (·.2))
  | .dd ess, o => ∃ xs : List (List Int × Addr × V), o = dTo p xs ∧ KsT K F xs ∧ xs.map (·.1) = ess.map (·.1) ∧ ∀ (i : Nat) v es, (xs.map (·.2.2))[i]? = some v → (ess.map (·.2))[i]? = some es →
      ∃ q od zs, v = .ref q ∧ F q = some (.frz od (dTo q zs)) ∧ KsT K F zs ∧ zs.map (·.1) = es.map (·.1) ∧ DpAll K F (zs.map (·.2.2)) (es.map (·.2))
theorem HoT.kp {K : PySem.W.Frag} {F F' : Hp} {t : DD} {p : Addr} {o : HO} (h : HoT K F p t o) (e : Same F F') : HoT K F' p t o := by
  cases t with
  | dk es => obtain ⟨kvs, h1, h2, h3⟩ := h; exact ⟨kvs, h1, h2, dpam e _ _ h3⟩
  | dt es => obtain ⟨xs, h1, h4, h2, h3⟩ := h; exact ⟨xs, h1, h4.kp e, h2, dpam e _ _ h3⟩
  | dd ess =>
    obtain ⟨xs, h1, h4, h2, h3⟩ := h
    refine ⟨xs, h1, h4.kp e, h2, fun i v es a b => ?_⟩
    obtain ⟨q, od, zs, e1, e2, e5, e3, e4⟩ := h3 i v es a b
    exact ⟨q, od, zs, e1, e _ _ e2, e5.kp e, e3, dpam e _ _ e4⟩
/-- a dict that nobody changes any more: its object is known -/
def FxT (K : PySem.W.Frag) (F : Hp) (t : DD) (v : V) : Prop := ∃ a od o, v = .ref a ∧ F a = some (.frz od o) ∧ HoT K F a t o
theorem FxT.kp {K : PySem.W.Frag} {F F' : Hp} {t : DD} {v : V} (h : FxT K F t v) (e : Same F F') : FxT K F' t v := let ⟨a, od, o, h1, h2, h3⟩ := h; ⟨a, od, o, h1, e _ _ h2, h3.kp e⟩
/-! ### values of names: frozen data, or an own list -/
inductive OT where
  | fz (d : PyData)
  | lst (p : Addr) (ds : List PyData)
  | lls (p : Addr) (dss : List (List PyData))
  | vv (v : V)
  | exc (n : Str) (k : Option (Str × PyData))
  | fx (t : DD)
  | ox (p : Addr) (t : DD)
def OT.data : OT → Option PyData
  | .fz d => some d
  | .lst _ ds => some (.list ds)
  | .lls _ dss => some (.list (dss.map .list))
  | .vv _ => none
  | .exc _ _ => none
  | .fx _ => none
  | .ox _ _ => none
def OwnT (K : PySem.W.Frag) (F H : Hp) : OT → V → Fp → Prop
  | .fz d, v, m => Dp K F v d ∧ m = z0
  | .lst p ds, v, m => ∃ vs, v = .ref p ∧ H p = some (.lst vs) ∧ DpAll K F vs ds ∧ m = one p
  | .lls p dss, v, m => ∃ (ps : List Addr), v = .ref p ∧ H p = some (.lst (ps.map V.ref)) ∧ ps.length = dss.length ∧ (∀ (i : Nat) q ds, ps[i]? = some q → dss[i]? = some ds → ∃ vs, H q = some (.lst vs) ∧ DpAll K F vs ds) ∧ (p :: ps).Nodup ∧ m = fun a => (p :: ps).count a
  | .vv v', v, m => v = v' ∧ m = z0
  | .exc n k, v, m => ExcT K F n k v ∧ m = z0
  | .fx t, v, m => FxT K F t v ∧ m = z0
  | .ox p t, v, m => (∃ o, v = .ref p ∧ H p = some o ∧ HoT K F p t o) ∧ m = one p
abbrev Rho := List (Option OT)
inductive OwnS (K : PySem.W.Frag) (F H : Hp) : Rho → Sg → Fp → Prop
  | nil : OwnS K F H [] [] z0
  | un {ρ : Rho} {σ : Sg} {m : Fp} {x : Option V} : OwnS K F H ρ σ m → OwnS K F H (none :: ρ) (x :: σ) m
  | sm {ρ : Rho} {σ : Sg} {m n : Fp} {t : OT} {v : V} : OwnT K F H t v m → OwnS K F H ρ σ n → OwnS K F H (some t :: ρ) (some v :: σ) (padd m n)
structure SI (K : PySem.W.Frag) (F H : Hp) (σ : Sg) (ρ : Rho) (fr : Fp) : Prop where
  ex : Same F H
  own : ∃ m, OwnS K F H ρ σ m ∧ ∀ a, m a + fr a ≤ 1 ∧ (m a + fr a ≠ 0 → F a = none ∧ H a ≠ none)
structure Kp (F H : Hp) (fr : Fp) (F' H' : Hp) : Prop where
  exF : Same F F'
  keep : ∀ a, fr a ≠ 0 → H' a = H a
  grow : ∀ a, H a ≠ none → H' a ≠ none
theorem Kp.refl {F H : Hp} {fr : Fp} : Kp F H fr F H := ⟨Same.refl F, fun _ _ => rfl, fun _ h => h⟩
theorem Kp.trans {F H F1 H1 F2 H2 : Hp} {fr : Fp} (a : Kp F H fr F1 H1) (b : Kp F1 H1 fr F2 H2) : Kp F H fr F2 H2 :=
  ⟨a.exF.trans b.exF, fun x h => (b.keep x h).trans (a.keep x h), fun x h => b.grow x (a.grow x h)⟩
theorem Kp.less {F H F1 H1 : Hp} {fr fr' : Fp} (a : Kp F H fr F1 H1) (h : ∀ x, fr' x ≠ 0 → fr x ≠ 0) : Kp F H fr' F1 H1 := ⟨a.exF, fun x q => a.keep x (h x q), a.grow⟩
theorem Kp.left {F H F1 H1 : Hp} {fr m : Fp} (a : Kp F H (padd fr m) F1 H1) : Kp F H fr F1 H1 := a.less fun x h => by unfold padd; omega
inductive RV where
  | tm (t : OT)
  | sl (i : Nat)
abbrev RV.fz (d : PyData) : RV := .tm (.fz d)
def look : Rho → Nat → Option OT
  | [], _ => none
  | x :: _, 0 => x
  | _ :: r, n + 1 => look r n
def RV.ot (ρ : Rho) : RV → Option OT
  | .tm t => some t
  | .sl i => look ρ i
def RV.dat (ρ : Rho) (r : RV) : Option PyData := (r.ot ρ).bind OT.data
def RVok (K : PySem.W.Frag) (F H : Hp) (σ : Sg) : RV → V → Fp → Prop
  | .tm t, v, m => OwnT K F H t v m
  | .sl i, v, m => m = z0 ∧ σ[i]? = some (some v)

section
variable {K : PySem.W.Frag} {F H F' H' : Hp} {σ : Sg} {ρ : Rho} {fr m : Fp} {t : OT} {v : V} {r : RV} {d : PyData}
theorem OwnT.dp (o : OwnT K F H t v m) (e : Same F H) (h : t.data = some d) : Dp K H v d := by
  cases t with
  | fz x => cases h; exact dpm e _ _ o.1
  | lst p ds =>
    cases h
    obtain ⟨vs, rfl, hp, ha, _⟩ := o
    exact .lst (SqL.of hp) (dpam e _ _ ha)
  | lls p dss =>
    cases h
    obtain ⟨ps, rfl, hp, hl, hi, _, _⟩ := o
    refine .lst (SqL.of hp) ?_
    have : ∀ (ps : List Addr) (dss : List (List PyData)), ps.length = dss.length → (∀ (i : Nat) q ds, ps[i]? = some q → dss[i]? = some ds → ∃ vs, H q = some (.lst vs) ∧ DpAll K F vs ds) → DpAll K H (ps.map V.ref) (dss.map PyData.list) := by
      intro ps
      induction ps with
      | nil => intro dss hl _; cases dss with
        | nil => exact .nil
        | cons _ _ => cases hl
      | cons q ps ih => intro dss hl hi; cases dss with
        | nil => cases hl
        | cons ds dss =>
          obtain ⟨vs, h1, h2⟩ := hi 0 q ds rfl rfl
          exact .cons (.lst (SqL.of h1) (dpam e _ _ h2)) (ih dss (by simpa using hl) fun i q ds a b => hi (i + 1) q ds (by simpa using a) (by simpa using b))
    exact this ps dss hl hi
  | vv _ => cases h
  | exc _ _ => cases h
  | fx _ => cases h
  | ox _ _ => cases h
theorem OwnT.kp (o : OwnT K F H t v m) (e : Same F F') (h : ∀ a, m a ≠ 0 → H' a = H a) : OwnT K F' H' t v m := by
  cases t with
  | fz x => exact ⟨dpm e _ _ o.1, o.2⟩
  | lst p ds =>
    obtain ⟨vs, rfl, hp, ha, rfl⟩ := o
    exact ⟨vs, rfl, (h p (by simp [one])).trans hp, dpam e _ _ ha, rfl⟩
  | lls p dss =>
    obtain ⟨ps, rfl, hp, hl, hi, nd, rfl⟩ := o
    refine ⟨ps, rfl, (h p (by simp)).trans hp, hl, fun i q ds a b => ?_, nd, rfl⟩
    obtain ⟨vs, h1, h2⟩ := hi i q ds a b
    have hm : q ∈ p :: ps := List.mem_cons_of_mem _ (List.mem_of_getElem? a)
    exact ⟨vs, (h q (by have := List.count_pos_iff.mpr hm; show List.count q (p :: ps) ≠ 0; omega)).trans h1, dpam e _ _ h2⟩
  | vv _ => exact o
  | exc n k => exact ⟨o.1.kp e, o.2⟩
  | fx t => exact ⟨o.1.kp e, o.2⟩
  | ox p t =>
    obtain ⟨⟨ho, rfl, hp, ha⟩, rfl⟩ := o
    exact ⟨⟨ho, rfl, (h p (by simp [one])).trans hp, ha.kp e⟩, rfl⟩
theorem OwnS.kp (o : OwnS K F H ρ σ m) (e : Same F F') (h : ∀ a, m a ≠ 0 → H' a = H a) : OwnS K F' H' ρ σ m := by
  induction o with
  | nil => exact .nil
  | un _ ih => exact .un (ih h)
  | sm ht _ ih => exact .sm (ht.kp e fun a q => h a (by unfold padd; omega)) (ih fun a q => h a (by unfold padd; omega))
theorem OwnS.len (o : OwnS K F H ρ σ m) : σ.length = ρ.length := by
  induction o with
  | nil => rfl
  | un _ ih => simp [ih]
  | sm _ _ ih => simp [ih]
/-- a slot taken out, another value put there -/
theorem OwnS.at (o : OwnS K F H ρ σ m) {i : Nat} (hi : i < ρ.length) : ∃ m1 m2, m = padd m1 m2 ∧
    (∀ t, look ρ i = some t → ∃ v, σ[i]? = some (some v) ∧ OwnT K F H t v m1) ∧ (look ρ i = none → m1 = z0) ∧
    (∀ x, OwnS K F H (ρ.set i none) (σ.set i x) m2) ∧ OwnS K F H (ρ.set i none) σ m2 ∧
    (∀ t' v' m', OwnT K F H t' v' m' → ∃ m'', OwnS K F H (ρ.set i (some t')) (σ.set i (some v')) m'' ∧ ∀ a, m'' a = m' a + m2 a) := by
  induction o generalizing i with
  | nil => cases hi
  | @un ρ σ m x o ih =>
    cases i with
    | zero => exact ⟨z0, m, (z_padd m).symm, fun t e => (by cases e), fun _ => rfl, fun x => .un o, .un o, fun t' v' m' h => ⟨_, .sm h o, fun a => rfl⟩⟩
    | succ i =>
      obtain ⟨m1, m2, e, h1, h0, h2, h2', h3⟩ := ih (i := i) (by simpa using hi)
      refine ⟨m1, m2, e, fun t e => ?_, h0, fun x => .un (h2 x), .un h2', fun t' v' m' h => ?_⟩
      · obtain ⟨v, a, b⟩ := h1 t e
        exact ⟨v, by simpa using a, b⟩
      · obtain ⟨m'', a, b⟩ := h3 t' v' m' h
        exact ⟨m'', .un a, b⟩
  | @sm ρ σ m n t v ht o ih =>
    cases i with
    | zero => exact ⟨m, n, rfl, fun t' e => (by cases e; exact ⟨v, rfl, ht⟩), fun e => (by cases e), fun x => .un o, .un o, fun t' v' m' h => ⟨_, .sm h o, fun a => rfl⟩⟩
    | succ i =>
      obtain ⟨m1, m2, e, h1, h0, h2, h2', h3⟩ := ih (i := i) (by simpa using hi)
      refine ⟨m1, padd m m2, ?_, fun t e => ?_, h0, fun x => .sm ht (h2 x), .sm ht h2', fun t' v' m' h => ?_⟩
      · subst e; funext a; unfold padd; omega
      · obtain ⟨v, a, b⟩ := h1 t e
        exact ⟨v, by simpa using a, b⟩
      · obtain ⟨m'', a, b⟩ := h3 t' v' m' h
        exact ⟨padd m m'', .sm ht a, fun a => by unfold padd; rw [b a]; omega⟩
theorem look_lt : ∀ {ρ : Rho} {i : Nat} {t : OT}, look ρ i = some t → i < ρ.length
  | [], _, _, h => by cases h
  | _ :: _, 0, _, _ => by simp
  | _ :: r, i + 1, _, h => by have := look_lt (ρ := r) h; simpa using this
/-- less is framed -/
theorem SI.less (S : SI K F H σ ρ fr) {fr' : Fp} (h : ∀ a, fr' a ≤ fr a) : SI K F H σ ρ fr' := by
  obtain ⟨m, o, q⟩ := S.own
  refine ⟨S.ex, m, o, fun a => ?_⟩
  obtain ⟨q1, q2⟩ := q a
  have := h a
  exact ⟨by omega, fun n => q2 (by omega)⟩
theorem SI.left (S : SI K F H σ ρ (padd fr m)) : SI K F H σ ρ fr := S.less fun a => by unfold padd; omega
theorem SI.slot (S : SI K F H σ ρ fr) {i : Nat} (h : look ρ i = some t) : ∃ v m1, σ[i]? = some (some v) ∧ OwnT K F H t v m1 := by
  obtain ⟨m, o, _⟩ := S.own
  obtain ⟨m1, m2, _, h1, _⟩ := o.at (look_lt h)
  obtain ⟨v, a, b⟩ := h1 t h
  exact ⟨v, m1, a, b⟩
/-- what a value is, to be read at once -/
theorem RVok.dp (o : RVok K F H σ r v m) (S : SI K F H σ ρ fr) (h : r.dat ρ = some d) : Dp K H v d := by
  cases r with
  | tm t => exact OwnT.dp o S.ex h
  | sl i =>
    obtain ⟨_, hv⟩ := o
    have h' : (look ρ i).bind OT.data = some d := h
    cases e : look ρ i with
    | none => rw [e] at h'; cases h'
    | some t =>
      rw [e] at h'
      obtain ⟨v', m1, e1, e2⟩ := S.slot e
      rw [hv] at e1
      cases e1
      exact OwnT.dp e2 S.ex h'
/-- kept while something else is reckoned -/
theorem RVok.kp (o : RVok K F H σ r v m) (k : Kp F H (padd fr m) F' H') : RVok K F' H' σ r v m := by
  cases r with
  | tm t => exact OwnT.kp o k.exF fun a q => k.keep a (by unfold padd; omega)
  | sl i => exact o
end

/-- two ways -/
def bmt (b : Bool) (A B : Prop) : Prop := match b with
  | true => A
  | false => B
theorem bm {b : Bool} {A B : Prop} (h1 : b = true → A) (h0 : b = false → B) : bmt b A B := by
  cases b with
  | true => exact h1 rfl
  | false => exact h0 rfl
theorem bmd {p : Prop} [Decidable p] {A B : Prop} (h1 : p → A) (h0 : ¬ p → B) : bmt (decide p) A B := bm (fun h => h1 (of_decide_eq_true h)) fun h => h0 (of_decide_eq_false h)
theorem bmn {p : Prop} [Decidable p] {A B : Prop} (h1 : ¬ p → A) (h0 : p → B) : bmt (!decide p) A B := by
  refine bm (fun h => h1 fun q => ?_) fun h => h0 ?_
  · rw [decide_eq_true q] at h; cases h
  · exact Decidable.byContradiction fun q => by rw [decide_eq_false q] at h; cases h
theorem bmt_and {p : Prop} [Decidable p] {A : Prop} (h : bmt (decide p) A False) : p ∧ A := by
  by_cases q : p
  · rw [decide_eq_true q] at h
    exact ⟨q, h⟩
  · rw [decide_eq_false q] at h
    exact h.elim
/-! ### expressions -/
abbrev WE := Rho → (RV → Rho → Prop) → Prop
abbrev WT := Rho → (Bool → Rho → Prop) → Prop
abbrev WA := Rho → (List RV → Rho → Prop) → Prop
structure DE (X : Cx) (e : Expr) (w : WE) : Prop where
  run : ∃ t : TE, PE X e t ∧ ∀ (σ : Sg) (H F : Hp) (ρ : Rho) (fr : Fp) (Q : RV → Rho → Prop) (Q' : VK), SI X.K F H σ ρ fr → w ρ Q →
    (∀ v H' F' ρ' r m, Q r ρ' → RVok X.K F' H' σ r v m → SI X.K F' H' σ ρ' (padd fr m) → Kp F H fr F' H' → Q' v H') → t σ H Q'
structure DT (X : Cx) (e : Expr) (w : WT) : Prop where
  run : ∃ t : TT, PT X e t ∧ ∀ (σ : Sg) (H F : Hp) (ρ : Rho) (fr : Fp) (Q : Bool → Rho → Prop) (Q' : Bool → Hp → Prop), SI X.K F H σ ρ fr → w ρ Q →
    (∀ b H' F' ρ', Q b ρ' → SI X.K F' H' σ ρ' fr → Kp F H fr F' H' → Q' b H') → t σ H Q'
/-- arguments, all at once -/
inductive RVsOk (K : PySem.W.Frag) (F H : Hp) (σ : Sg) : List RV → List V → Fp → Prop
  | nil : RVsOk K F H σ [] [] z0
  | cons {r : RV} {v : V} {m n : Fp} {rs : List RV} {vs : List V} : RVok K F H σ r v m → RVsOk K F H σ rs vs n → RVsOk K F H σ (r :: rs) (v :: vs) (padd m n)
structure DA (X : Cx) (es : List Expr) (w : WA) : Prop where
  run : ∃ t : TA, PA X es t ∧ ∀ (σ : Sg) (H F : Hp) (ρ : Rho) (fr : Fp) (Q : List RV → Rho → Prop) (Q' : List V → Hp → Prop), SI X.K F H σ ρ fr → w ρ Q →
    (∀ vs H' F' ρ' rs m, Q rs ρ' → RVsOk X.K F' H' σ rs vs m → SI X.K F' H' σ ρ' (padd fr m) → Kp F H fr F' H' → Q' vs H') → t σ H Q'

def wC (d : PyData) : WE := fun ρ Q => Q (.fz d) ρ
def wVar (i : Nat) : WE := fun ρ Q => match look ρ i with
  | some (.fz d) => Q (.fz d) ρ
  | some (.vv v) => Q (.tm (.vv v)) ρ
  | some (.exc n k) => Q (.tm (.exc n k)) ρ
  | some (.fx t) => Q (.tm (.fx t)) ρ
  | some (.ox _ _) => Q (.sl i) ρ
  | some (.lst _ _) => Q (.sl i) ρ
  | some (.lls _ _) => Q (.sl i) ρ
  | none => False
section
variable {X : Cx}
theorem de_c {e : Expr} {v : V} {d : PyData} (h : PE X e (tC v)) (hd : ∀ F : Hp, Dp X.K F v d) : DE X e (wC d) :=
  ⟨_, h, fun σ H F ρ fr Q Q' S hw k => k v H F ρ (.fz d) z0 hw ⟨hd F, rfl⟩ S Kp.refl⟩
theorem de_int {i : Int} {j : Nat} {pos : Pos} : DE X (.Constant (.int i) j pos) (wC (.int i)) := de_c pe_int fun _ => .int i
theorem de_bl {b : Bool} {j : Nat} {pos : Pos} : DE X (.Constant (.bool b) j pos) (wC (.bool b)) := de_c pe_bl fun _ => .bl b
theorem de_non {j : Nat} {pos : Pos} : DE X (.Constant .none j pos) (wC .none) := de_c pe_non fun _ => .non
theorem de_str {x : Str} {j : Nat} {pos : Pos} : DE X (.Constant (.str x) j pos) (wC (.str x)) := de_c pe_str fun _ => .str x
theorem de_var (i : Nat) {x : Str} {pos : Pos} (hN : X.N[i]? = some x := by rfl) (hv : Vis X.env.scope x := by first | exact Or.inl rfl | exact Or.inr (Or.inl rfl) | exact Or.inr (Or.inr rfl)) (hd : (x == ("__debug__" : Str)) = false := by decide)
    (hcd : (x == ("__classdict__" : Str)) = false := by decide) : DE X (.Name x pos) (wVar i) := by
  refine ⟨_, pe_var hN hv hd hcd, fun σ H F ρ fr Q Q' S hw k => ?_⟩
  unfold wVar at hw
  cases e : look ρ i with
  | none => rw [e] at hw; exact hw.elim
  | some t =>
    rw [e] at hw
    obtain ⟨v, m1, e1, o⟩ := S.slot e
    refine ⟨v, e1, ?_⟩
    cases t with
    | fz d => exact k v H F ρ (.fz d) z0 hw (by rw [← o.2]; exact o) S Kp.refl
    | vv u => exact k v H F ρ (.tm (.vv u)) z0 hw (by rw [← o.2]; exact o) S Kp.refl
    | exc n y => exact k v H F ρ (.tm (.exc n y)) z0 hw (by rw [← o.2]; exact o) S Kp.refl
    | fx t => exact k v H F ρ (.tm (.fx t)) z0 hw (by rw [← o.2]; exact o) S Kp.refl
    | ox p t => exact k v H F ρ (.sl i) z0 hw ⟨rfl, e1⟩ S Kp.refl
    | lst p ds => exact k v H F ρ (.sl i) z0 hw ⟨rfl, e1⟩ S Kp.refl
    | lls p ds => exact k v H F ρ (.sl i) z0 hw ⟨rfl, e1⟩ S Kp.refl
/-- a value without a heap -/
inductive Sc : V → PyData → Prop
  | non : Sc .non .none
  | bl (b : Bool) : Sc (.bl b) (.bool b)
  | int (i : Int) : Sc (.int i) (.int i)
  | str (x : Str) : Sc (.str x) (.str x)
theorem Sc.dp {K : PySem.W.Frag} {F : Hp} {v : V} {d : PyData} (h : Sc v d) : Dp K F v d := by
  cases h with
  | non => exact .non
  | bl b => exact .bl b
  | int i => exact .int i
  | str x => exact .str x
/-- two values read -/
def dat2 (r1 r2 : RV) (ρ : Rho) (k : PyData → PyData → Prop) : Prop := match r1.dat ρ, r2.dat ρ with
  | some d, some e => k d e
  | _, _ => False
theorem dat2_iff {r1 r2 : RV} {ρ : Rho} {k : PyData → PyData → Prop} (h : dat2 r1 r2 ρ k) : ∃ d e, r1.dat ρ = some d ∧ r2.dat ρ = some e ∧ k d e := by
  unfold dat2 at h
  split at h
  · rename_i d e h1 h2
    exact ⟨d, e, h1, h2, h⟩
  · exact h.elim
abbrev G2 := PyData → PyData → (PyData → Prop) → Prop
def wOp2 (g : G2) (wa wb : WE) : WE := fun ρ Q => wa ρ fun r1 ρ1 => wb ρ1 fun r2 ρ2 => dat2 r1 r2 ρ2 fun d e => g d e fun d' => Q (.fz d') ρ2
/-- an operation whose answer is no object -/
def Op2 (K : PySem.W.Frag) (r : R2) (g : G2) : Prop := ∀ (x y : V) (d e : PyData) (H : Hp) (G : PyData → Prop) (Q : VK), Dp K H x d → Dp K H y e → g d e G → (∀ v d', Sc v d' → G d' → Q v H) → r x y H Q
theorem op2_run {a b : Expr} {wa wb : WE} {ta tb : TE} {r : R2} {g : G2} (ho : Op2 X.K r g)
    (ha : ∀ (σ : Sg) (H F : Hp) (ρ : Rho) (fr : Fp) (Q : RV → Rho → Prop) (Q' : VK), SI X.K F H σ ρ fr → wa ρ Q → (∀ v H' F' ρ' r m, Q r ρ' → RVok X.K F' H' σ r v m → SI X.K F' H' σ ρ' (padd fr m) → Kp F H fr F' H' → Q' v H') → ta σ H Q')
    (hb : ∀ (σ : Sg) (H F : Hp) (ρ : Rho) (fr : Fp) (Q : RV → Rho → Prop) (Q' : VK), SI X.K F H σ ρ fr → wb ρ Q → (∀ v H' F' ρ' r m, Q r ρ' → RVok X.K F' H' σ r v m → SI X.K F' H' σ ρ' (padd fr m) → Kp F H fr F' H' → Q' v H') → tb σ H Q') :
    ∀ (σ : Sg) (H F : Hp) (ρ : Rho) (fr : Fp) (Q : RV → Rho → Prop) (Q' : VK), SI X.K F H σ ρ fr → wOp2 g wa wb ρ Q → (∀ v H' F' ρ' d, Q (.fz d) ρ' → Sc v d → SI X.K F' H' σ ρ' fr → Kp F H fr F' H' → Q' v H') → tOp r ta tb σ H Q' := by
  intro σ H F ρ fr Q Q' S hw k
  refine ha σ H F ρ fr _ _ S hw fun v1 H1 F1 ρ1 r1 m1 hw o1 S1 k1 => ?_
  refine hb σ H1 F1 ρ1 _ _ _ S1 hw fun v2 H2 F2 ρ2 r2 m2 hw o2 S2 k2 => ?_
  obtain ⟨d, e, e1, e2, hg⟩ := dat2_iff hw
  refine ho v1 v2 d e H2 _ _ ((o1.kp k2).dp S2 e1) (o2.dp S2 e2) hg fun v d' sc q => ?_
  exact k v H2 F2 ρ2 d' q sc S2.left.left (k1.trans k2.left)
theorem de_op2 {a b : Expr} {wa wb : WE} {op : Operator} {r : R2} {g : G2} {pos : Pos} (hr : OpR X (binaryOp op) r) (ho : Op2 X.K r g) (ha : DE X a wa) (hb : DE X b wb) : DE X (.BinOp a op b pos) (wOp2 g wa wb) := by
  obtain ⟨ta, pa, ra⟩ := ha
  obtain ⟨tb, pb, rb⟩ := hb
  refine ⟨_, pe_op hr pa pb, fun σ H F ρ fr Q Q' S hw k => ?_⟩
  exact op2_run (a := a) (b := b) ho ra rb σ H F ρ fr Q Q' S hw fun v H' F' ρ' d q sc S' k' => k v H' F' ρ' (.fz d) z0 q ⟨sc.dp, rfl⟩ S' k'
theorem de_cmp {a b : Expr} {wa wb : WE} {op : CmpOp} {r : R2} {g : G2} {pos : Pos} (hr : OpR X (compareOp op) r) (ho : Op2 X.K r g) (ha : DE X a wa) (hb : DE X b wb) (hm : behindInMarks op b = false) : DE X (.Compare a [op] [b] pos) (wOp2 g wa wb) := by
  obtain ⟨ta, pa, ra⟩ := ha
  obtain ⟨tb, pb, rb⟩ := hb
  refine ⟨_, pe_cmpR hr pa pb hm, fun σ H F ρ fr Q Q' S hw k => ?_⟩
  exact op2_run (a := a) (b := b) ho ra rb σ H F ρ fr Q Q' S hw fun v H' F' ρ' d q sc S' k' => k v H' F' ρ' (.fz d) z0 q ⟨sc.dp, rfl⟩ S' k'
/-- a value as a test -/
def asB (r : RV) (ρ : Rho) (k : Bool → Prop) : Prop := match r.dat ρ with
  | some (.bool b) => k b
  | _ => False
def wTst (wa : WE) : WT := fun ρ Q => wa ρ fun r ρ1 => asB r ρ1 fun b => Q b ρ1
theorem dt_cmp {a b : Expr} {wa wb : WE} {op : CmpOp} {r : R2} {g : G2} {pos : Pos} (hr : OpR X (compareOp op) r) (ho : Op2 X.K r g) (ha : DE X a wa) (hb : DE X b wb) (hm : behindInMarks op b = false) : DT X (.Compare a [op] [b] pos) (wTst (wOp2 g wa wb)) := by
  obtain ⟨ta, pa, ra⟩ := ha
  obtain ⟨tb, pb, rb⟩ := hb
  refine ⟨_, pt_cmpR hr pa pb hm, fun σ H F ρ fr Q Q' S hw k => ?_⟩
  refine op2_run (a := a) (b := b) ho ra rb σ H F ρ fr _ _ S hw fun v H' F' ρ' d q sc S' k' => ?_
  cases sc with
  | bl b => exact ⟨b, rfl, k b H' F' ρ' q S' k'⟩
  | non => exact q.elim
  | int _ => exact q.elim
  | str _ => exact q.elim
theorem dt_val {e : Expr} {wa : WE} (ha : DE X e wa) (he : ∀ whole, isTrue e X.env whole = (do let v ← whole; standAt e.pos; holding [v] (truthy v)) := by intro _; rfl) : DT X e (wTst wa) := by
  obtain ⟨ta, pa, ra⟩ := ha
  refine ⟨_, pt_val pa he, fun σ H F ρ fr Q Q' S hw k => ?_⟩
  refine ra σ H F ρ fr _ _ S hw fun v H' F' ρ' r m q o S' k' => ?_
  unfold asB at q
  split at q
  · rename_i b hb
    have := o.dp S' hb
    cases this
    exact ⟨b, rfl, k b H' F' ρ' q S'.left k'⟩
  · exact q.elim
end
end DL

namespace DL
open PySem PySem.Spec PyProof.Rows L2

abbrev RE (K : PySem.W.Frag) (t : TE) (w : WE) : Prop := ∀ (σ : Sg) (H F : Hp) (ρ : Rho) (fr : Fp) (Q : RV → Rho → Prop) (Q' : VK), SI K F H σ ρ fr → w ρ Q →
    (∀ v H' F' ρ' r m, Q r ρ' → RVok K F' H' σ r v m → SI K F' H' σ ρ' (padd fr m) → Kp F H fr F' H' → Q' v H') → t σ H Q'
abbrev RT (K : PySem.W.Frag) (t : TT) (w : WT) : Prop := ∀ (σ : Sg) (H F : Hp) (ρ : Rho) (fr : Fp) (Q : Bool → Rho → Prop) (Q' : Bool → Hp → Prop), SI K F H σ ρ fr → w ρ Q →
    (∀ b H' F' ρ', Q b ρ' → SI K F' H' σ ρ' fr → Kp F H fr F' H' → Q' b H') → t σ H Q'

/-! ### and, or, not, a if t else b -/
structure DW (X : Cx) (e : Expr) (w : WT) : Prop where
  run : ∃ t : TT, PW X e t ∧ RT X.K t w
def wAnd (w1 w2 : WT) : WT := fun ρ Q => w1 ρ fun b ρ1 => bmt b (w2 ρ1 Q) (Q false ρ1)
def wOr (w1 w2 : WT) : WT := fun ρ Q => w1 ρ fun b ρ1 => bmt b (Q true ρ1) (w2 ρ1 Q)
def wNot (w1 : WT) : WT := fun ρ Q => w1 ρ fun b ρ1 => Q (!b) ρ1
def wAndV (wa wb : WE) : WE := fun ρ Q => wa ρ fun r ρ1 => asB r ρ1 fun b => bmt b (wb ρ1 Q) (Q (.fz (.bool false)) ρ1)
def wOrV (wa wb : WE) : WE := fun ρ Q => wa ρ fun r ρ1 => asB r ρ1 fun b => bmt b (Q (.fz (.bool true)) ρ1) (wb ρ1 Q)
def wNotV (wa : WE) : WE := fun ρ Q => wa ρ fun r ρ1 => asB r ρ1 fun b => Q (.fz (.bool (!b))) ρ1
def wIf (wt : WT) (wa wb : WE) : WE := fun ρ Q => wt ρ fun b ρ1 => bmt b (wa ρ1 Q) (wb ρ1 Q)
section
variable {X : Cx} {a b c : Expr} {rest : List Expr} {pos : Pos} {w1 w2 : WT} {wa wb : WE}
theorem DW.dt (h : DW X a w1) : DT X a w1 := let ⟨t, p, r⟩ := h; ⟨t, p.pt, r⟩
theorem dw_and1 (h : DT X a w1) : DW X (.BoolOp .And [a] pos) w1 := let ⟨⟨t, p, r⟩⟩ := h; ⟨t, pw_and1 p, r⟩
theorem dw_or1 (h : DT X a w1) : DW X (.BoolOp .Or [a] pos) w1 := let ⟨⟨t, p, r⟩⟩ := h; ⟨t, pw_or1 p, r⟩
theorem dw_and (ha : DT X a w1) (hb : DW X (.BoolOp .And (b :: rest) pos) w2) : DW X (.BoolOp .And (a :: b :: rest) pos) (wAnd w1 w2) := by
  obtain ⟨⟨t, p, r⟩⟩ := ha
  obtain ⟨⟨u, q, r2⟩⟩ := hb
  refine ⟨⟨_, pw_and p q, fun σ H F ρ fr Q Q' S hw k => ?_⟩⟩
  refine r σ H F ρ fr _ _ S hw fun b H1 F1 ρ1 hw S1 k1 => ?_
  cases b with
  | true => exact r2 σ H1 F1 ρ1 fr _ _ S1 hw fun b H2 F2 ρ2 q S2 k2 => k b H2 F2 ρ2 q S2 (k1.trans k2)
  | false => exact k false H1 F1 ρ1 hw S1 k1
theorem dw_or (ha : DT X a w1) (hb : DW X (.BoolOp .Or (b :: rest) pos) w2) : DW X (.BoolOp .Or (a :: b :: rest) pos) (wOr w1 w2) := by
  obtain ⟨⟨t, p, r⟩⟩ := ha
  obtain ⟨⟨u, q, r2⟩⟩ := hb
  refine ⟨⟨_, pw_or p q, fun σ H F ρ fr Q Q' S hw k => ?_⟩⟩
  refine r σ H F ρ fr _ _ S hw fun b H1 F1 ρ1 hw S1 k1 => ?_
  cases b with
  | false => exact r2 σ H1 F1 ρ1 fr _ _ S1 hw fun b H2 F2 ρ2 q S2 k2 => k b H2 F2 ρ2 q S2 (k1.trans k2)
  | true => exact k true H1 F1 ρ1 hw S1 k1
theorem dt_not (ha : DT X a w1) : DT X (.UnaryOp .Not a pos) (wNot w1) := by
  obtain ⟨⟨t, p, r⟩⟩ := ha
  exact ⟨⟨_, pt_not p, fun σ H F ρ fr Q Q' S hw k => r σ H F ρ fr _ _ S hw fun b H1 F1 ρ1 hw S1 k1 => k (!b) H1 F1 ρ1 hw S1 k1⟩⟩
theorem asB_dp {K : PySem.W.Frag} {F H : Hp} {σ : Sg} {r : RV} {v : V} {m fr : Fp} {ρ : Rho} {k : Bool → Prop} (h : asB r ρ k) (o : RVok K F H σ r v m) (S : SI K F H σ ρ fr) : ∃ b, v = .bl b ∧ k b := by
  unfold asB at h
  split at h
  · rename_i b hb
    have := o.dp S hb
    cases this
    exact ⟨b, rfl, h⟩
  · exact h.elim
theorem de_one {op : BoolOp} (h : DE X a wa) : DE X (.BoolOp op [a] pos) wa := by
  obtain ⟨⟨t, p, r⟩⟩ := h
  exact ⟨⟨_, pe_one p, r⟩⟩
theorem de_and (ha : DE X a wa) (hb : DE X (.BoolOp .And (b :: rest) pos) wb) : DE X (.BoolOp .And (a :: b :: rest) pos) (wAndV wa wb) := by
  obtain ⟨⟨t, p, r⟩⟩ := ha
  obtain ⟨⟨u, q, r2⟩⟩ := hb
  refine ⟨⟨_, pe_and p q, fun σ H F ρ fr Q Q' S hw k => ?_⟩⟩
  refine r σ H F ρ fr _ _ S hw fun v H1 F1 ρ1 r1 m1 hw o1 S1 k1 => ?_
  obtain ⟨b, rfl, hw⟩ := asB_dp hw o1 S1
  refine ⟨b, rfl, ?_⟩
  cases b with
  | true => exact r2 σ H1 F1 ρ1 fr _ _ S1.left hw fun v H2 F2 ρ2 r m q o S2 k2 => k v H2 F2 ρ2 r m q o S2 (k1.trans k2)
  | false => exact k _ H1 F1 ρ1 (.fz (.bool false)) z0 hw ⟨.bl false, rfl⟩ S1.left k1
theorem de_or (ha : DE X a wa) (hb : DE X (.BoolOp .Or (b :: rest) pos) wb) : DE X (.BoolOp .Or (a :: b :: rest) pos) (wOrV wa wb) := by
  obtain ⟨⟨t, p, r⟩⟩ := ha
  obtain ⟨⟨u, q, r2⟩⟩ := hb
  refine ⟨⟨_, pe_or p q, fun σ H F ρ fr Q Q' S hw k => ?_⟩⟩
  refine r σ H F ρ fr _ _ S hw fun v H1 F1 ρ1 r1 m1 hw o1 S1 k1 => ?_
  obtain ⟨b, rfl, hw⟩ := asB_dp hw o1 S1
  refine ⟨b, rfl, ?_⟩
  cases b with
  | false => exact r2 σ H1 F1 ρ1 fr _ _ S1.left hw fun v H2 F2 ρ2 r m q o S2 k2 => k v H2 F2 ρ2 r m q o S2 (k1.trans k2)
  | true => exact k _ H1 F1 ρ1 (.fz (.bool true)) z0 hw ⟨.bl true, rfl⟩ S1.left k1
theorem de_not (ha : DE X a wa) : DE X (.UnaryOp .Not a pos) (wNotV wa) := by
  obtain ⟨⟨t, p, r⟩⟩ := ha
  refine ⟨⟨_, pe_not p, fun σ H F ρ fr Q Q' S hw k => ?_⟩⟩
  refine r σ H F ρ fr _ _ S hw fun v H1 F1 ρ1 r1 m1 hw o1 S1 k1 => ?_
  obtain ⟨b, rfl, hw⟩ := asB_dp hw o1 S1
  exact ⟨b, rfl, k _ H1 F1 ρ1 (.fz (.bool (!b))) z0 hw ⟨.bl _, rfl⟩ S1.left k1⟩
theorem de_if (hc : DT X c w1) (ha : DE X a wa) (hb : DE X b wb) : DE X (.IfExp c a b pos) (wIf w1 wa wb) := by
  obtain ⟨⟨t, p, r⟩⟩ := hc
  obtain ⟨⟨ta, pa, ra⟩⟩ := ha
  obtain ⟨⟨tb, pb, rb⟩⟩ := hb
  refine ⟨⟨_, pe_ifExp p pa pb, fun σ H F ρ fr Q Q' S hw k => ?_⟩⟩
  refine r σ H F ρ fr _ _ S hw fun b H1 F1 ρ1 hw S1 k1 => ?_
  cases b with
  | true => exact ra σ H1 F1 ρ1 fr _ _ S1 hw fun v H2 F2 ρ2 r m q o S2 k2 => k v H2 F2 ρ2 r m q o S2 (k1.trans k2)
  | false => exact rb σ H1 F1 ρ1 fr _ _ S1 hw fun v H2 F2 ρ2 r m q o S2 k2 => k v H2 F2 ρ2 r m q o S2 (k1.trans k2)
end

/-! ### a < b < c -/
/-- two values read, a third later -/
def wChain (g g' : G2) (wa wb wc : WE) : WE := fun ρ Q => wa ρ fun r1 ρ1 => wb ρ1 fun r2 ρ2 => dat2 r1 r2 ρ2 fun d e => g d e fun d' => asB (.fz d') ρ2 fun k => bmt k (wc ρ2 fun r3 ρ3 => dat2 r2 r3 ρ3 fun d e => g' d e fun d' => Q (.fz d') ρ3) (Q (.fz (.bool false)) ρ2)
section
variable {X : Cx} {a b c : Expr} {pos : Pos} {wa wb wc : WE} {op op' : CmpOp} {r r' : R2} {g g' : G2}
theorem chain_run {ta tb tc : TE} (ho : Op2 X.K r g) (ho' : Op2 X.K r' g') (ra : RE X.K ta wa) (rb : RE X.K tb wb) (rc : RE X.K tc wc) : ∀ (σ : Sg) (H F : Hp) (ρ : Rho) (fr : Fp) (Q : RV → Rho → Prop) (Q' : VK), SI X.K F H σ ρ fr → wChain g g' wa wb wc ρ Q →
    (∀ v H' F' ρ' d, Q (.fz d) ρ' → Sc v d → SI X.K F' H' σ ρ' fr → Kp F H fr F' H' → Q' v H') → tChain r r' ta tb tc σ H Q' := by
  intro σ H F ρ fr Q Q' S hw k
  refine ra σ H F ρ fr _ _ S hw fun v1 H1 F1 ρ1 r1 m1 hw o1 S1 k1 => ?_
  refine rb σ H1 F1 ρ1 _ _ _ S1 hw fun v2 H2 F2 ρ2 r2 m2 hw o2 S2 k2 => ?_
  obtain ⟨d, e, e1, e2, hg⟩ := dat2_iff hw
  refine ho v1 v2 d e H2 _ _ ((o1.kp k2).dp S2 e1) (o2.dp S2 e2) hg fun v d' sc q => ?_
  have S2' : SI X.K F2 H2 σ ρ2 (padd fr m2) := S2.less fun a => by unfold padd; omega
  cases sc with
  | bl z =>
    refine ⟨z, rfl, ?_⟩
    cases z with
    | true =>
      refine rc σ H2 F2 ρ2 _ _ _ S2' q fun v3 H3 F3 ρ3 r3 m3 hw o3 S3 k3 => ?_
      obtain ⟨d, e, e1, e2, hg⟩ := dat2_iff hw
      refine ho' v2 v3 d e H3 _ _ ((o2.kp k3).dp S3 e1) (o3.dp S3 e2) hg fun v d' sc q => ?_
      exact k v H3 F3 ρ3 d' q sc S3.left.left ((k1.trans k2.left).trans k3.left)
    | false => exact k _ H2 F2 ρ2 (.bool false) q (.bl false) S2'.left (k1.trans k2.left)
  | non => exact q.elim
  | int _ => exact q.elim
  | str _ => exact q.elim
theorem de_chain (hr : OpR X (compareOp op) r) (ho : Op2 X.K r g) (hr' : OpR X (compareOp op') r') (ho' : Op2 X.K r' g') (ha : DE X a wa) (hb : DE X b wb) (hc : DE X c wc)
    (hm : lastMarks [op, op'] [b, c] = false := by with_unfolding_all rfl) : DE X (.Compare a [op, op'] [b, c] pos) (wChain g g' wa wb wc) := by
  obtain ⟨⟨ta, pa, ra⟩⟩ := ha
  obtain ⟨⟨tb, pb, rb⟩⟩ := hb
  obtain ⟨⟨tc, pc, rc⟩⟩ := hc
  exact ⟨⟨_, pe_chain hr hr' pa pb pc hm, fun σ H F ρ fr Q Q' S hw k => chain_run ho ho' ra rb rc σ H F ρ fr Q Q' S hw fun v H' F' ρ' d q sc S' k' => k v H' F' ρ' (.fz d) z0 q ⟨sc.dp, rfl⟩ S' k'⟩⟩
theorem dt_chain (hr : OpR X (compareOp op) r) (ho : Op2 X.K r g) (hr' : OpR X (compareOp op') r') (ho' : Op2 X.K r' g') (ha : DE X a wa) (hb : DE X b wb) (hc : DE X c wc)
    (hm : lastMarks [op, op'] [b, c] = false := by with_unfolding_all rfl) : DT X (.Compare a [op, op'] [b, c] pos) (wTst (wChain g g' wa wb wc)) := by
  obtain ⟨⟨ta, pa, ra⟩⟩ := ha
  obtain ⟨⟨tb, pb, rb⟩⟩ := hb
  obtain ⟨⟨tc, pc, rc⟩⟩ := hc
  refine ⟨⟨_, pt_chain hr hr' pa pb pc hm, fun σ H F ρ fr Q Q' S hw k => ?_⟩⟩
  refine chain_run ho ho' ra rb rc σ H F ρ fr _ _ S hw fun v H' F' ρ' d q sc S' k' => ?_
  cases sc with
  | bl z => exact ⟨z, rfl, k z H' F' ρ' q S' k'⟩
  | non => exact q.elim
  | int _ => exact q.elim
  | str _ => exact q.elim
end

/-! ### the operators' data -/
def gI (f : Int → Int → PyData) (C : Int → Int → Prop) : G2
  | .int i, .int j, G => C i j ∧ G (f i j)
  | _, _, _ => False
def gI0 (f : Int → Int → PyData) : G2
  | .int i, .int j, G => G (f i j)
  | _, _, _ => False
section
variable {K : PySem.W.Frag}
theorem o_I {f : Int → Int → PyData} {f' : Int → Int → V} {C : Int → Int → Prop} (h : ∀ i j, Sc (f' i j) (f i j)) : Op2 K (rI C f') (gI f C) := by
  intro x y d e H G Q hx hy hg k
  unfold gI at hg
  split at hg
  · rename_i i j
    cases hx
    cases hy
    exact ⟨i, j, rfl, rfl, hg.1, k _ _ (h i j) hg.2⟩
  · exact hg.elim
theorem o_I0 {f : Int → Int → PyData} {f' : Int → Int → V} (h : ∀ i j, Sc (f' i j) (f i j)) : Op2 K (rI0 f') (gI0 f) := by
  intro x y d e H G Q hx hy hg k
  unfold gI0 at hg
  split at hg
  · rename_i i j
    cases hx
    cases hy
    exact ⟨i, j, rfl, rfl, k _ _ (h i j) hg⟩
  · exact hg.elim
/-- + of ints, of texts -/
def gAdd : G2
  | .int i, .int j, G => G (.int (i + j))
  | .str i, .str j, G => i.length + j.length ≤ sizeLine ∧ G (.str (i ++ j))
  | _, _, _ => False
def rAddA : R2 := fun x y H Q => (∃ i j, x = V.int i ∧ y = V.int j ∧ Q (.int (i + j)) H) ∨ (∃ i j, x = V.str i ∧ y = V.str j ∧ i.length + j.length ≤ sizeLine ∧ Q (.str (i ++ j)) H)
theorem op_addA {X : Cx} : OpR X (binaryOp .Add) rAddA := op_add.or op_add_str
theorem o_add : Op2 K rAddA gAdd := by
  intro x y d e H G Q hx hy hg k
  unfold gAdd at hg
  split at hg
  · rename_i i j
    cases hx
    cases hy
    exact .inl ⟨i, j, rfl, rfl, k _ _ (.int _) hg⟩
  · rename_i i j
    cases hx
    cases hy
    exact .inr ⟨i, j, rfl, rfl, hg.1, k _ _ (.str _) hg.2⟩
  · exact hg.elim
/-- == and != of data -/
def gEq : G2
  | .int i, .int j, G => G (.bool (decide (i = j)))
  | .str i, .str j, G => G (.bool (decide (i = j)))
  | d, e, G => SeqAt.shaped d = true ∧ SeqAt.shaped e = true ∧ G (.bool (PyData.eqv d e))
def gNe : G2
  | .int i, .int j, G => G (.bool (!decide (i = j)))
  | .str i, .str j, G => G (.bool (!decide (i = j)))
  | d, e, G => SeqAt.shaped d = true ∧ SeqAt.shaped e = true ∧ G (.bool (!PyData.eqv d e))
def rEqA (K : PySem.W.Frag) : R2 := fun x y H Q => rEq x y H Q ∨ rEqD K x y H Q
def rNeA (K : PySem.W.Frag) : R2 := fun x y H Q => rNe x y H Q ∨ rNeD K x y H Q
theorem op_eqA {X : Cx} (hu : X.A.units + 64 < cLine) : OpR X (compareOp .Eq) (rEqA X.K) := op_eq.or (op_eqD hu)
theorem op_neA {X : Cx} (hu : X.A.units + 64 < cLine) : OpR X (compareOp .NotEq) (rNeA X.K) := op_ne.or (op_neD hu)
theorem o_eq : Op2 K (rEqA K) gEq := by
  intro x y d e H G Q hx hy hg k
  unfold gEq at hg
  split at hg
  · cases hx
    cases hy
    exact .inl ⟨rfl, k _ _ (.bl _) (by rw [dec_int, Bool.beq_eq_decide_eq]; exact hg)⟩
  · cases hx
    cases hy
    exact .inl ⟨rfl, k _ _ (.bl _) (by rw [dec_str, Bool.beq_eq_decide_eq]; exact hg)⟩
  · exact .inr ⟨_, _, hx, hy, hg.1, hg.2.1, k _ _ (.bl _) hg.2.2⟩
theorem o_ne : Op2 K (rNeA K) gNe := by
  intro x y d e H G Q hx hy hg k
  unfold gNe at hg
  split at hg
  · cases hx
    cases hy
    exact .inl ⟨rfl, k _ _ (.bl _) (by rw [dec_int, Bool.beq_eq_decide_eq]; exact hg)⟩
  · cases hx
    cases hy
    exact .inl ⟨rfl, k _ _ (.bl _) (by rw [dec_str, Bool.beq_eq_decide_eq]; exact hg)⟩
  · exact .inr ⟨_, _, hx, hy, hg.1, hg.2.1, k _ _ (.bl _) hg.2.2⟩
def rIsNone : R2 := fun x y H Q => y = .non ∧ Q (.bl (decide (x = .non))) H
def isNone : PyData → Bool
  | .none => true
  | _ => false
def gIsN : G2
  | d, .none, G => G (.bool (isNone d))
  | _, _, _ => False
def gNotN : G2
  | d, .none, G => G (.bool (!isNone d))
  | _, _, _ => False
theorem isNone_dp {H : Hp} {x : V} {d : PyData} (h : Dp K H x d) : decide (x = .non) = isNone d := by cases h <;> rfl
theorem o_isN : Op2 K (fun x y H Q => y = .non ∧ Q (.bl (decide (x = .non))) H) gIsN := by
  intro x y d e H G Q hx hy hg k
  unfold gIsN at hg
  split at hg
  · cases hy
    refine ⟨rfl, ?_⟩
    rw [isNone_dp hx]
    exact k _ _ (.bl _) hg
  · exact hg.elim
theorem o_notN : Op2 K (fun x y H Q => y = .non ∧ Q (.bl (!decide (x = .non))) H) gNotN := by
  intro x y d e H G Q hx hy hg k
  unfold gNotN at hg
  split at hg
  · cases hy
    refine ⟨rfl, ?_⟩
    rw [isNone_dp hx]
    exact k _ _ (.bl _) hg
  · exact hg.elim
/-- x in a list, a tuple of data -/
def itemsOf : PyData → Option (List PyData)
  | .list ds => some ds
  | .tuple ds => some ds
  | _ => none
end

/-! ### arguments, displays -/
def wNil : WA := fun ρ Q => Q [] ρ
def wCons (wa : WE) (ws : WA) : WA := fun ρ Q => wa ρ fun r ρ1 => ws ρ1 fun rs ρ2 => Q (r :: rs) ρ2
/-- frozen from now on -/
def frz (r : RV) (ρ : Rho) (k : PyData → Rho → Prop) : Prop := match r with
  | .tm t => (match t.data with | some d => k d ρ | none => False)
  | .sl i => (match look ρ i with
    | some t => (match t.data with | some d => k d (ρ.set i (some (.fz d))) | none => False)
    | none => False)
def frzs : List RV → Rho → (List PyData → Rho → Prop) → Prop
  | [], ρ, k => k [] ρ
  | r :: rs, ρ, k => frz r ρ fun d ρ1 => frzs rs ρ1 fun ds ρ2 => k (d :: ds) ρ2
section
variable {X : Cx} {e : Expr} {es : List Expr} {wa : WE} {ws : WA} {pos : Pos} {K : PySem.W.Frag} {F H : Hp} {σ : Sg} {ρ : Rho} {fr m : Fp} {r : RV} {v : V}
theorem da_nil : DA X [] wNil := ⟨⟨_, pa_nil, fun σ H F ρ fr Q Q' S hw k => k [] H F ρ [] z0 hw .nil S Kp.refl⟩⟩
theorem RVsOk.kp {F' H' : Hp} {rs : List RV} {vs : List V} (o : RVsOk K F H σ rs vs m) (k : Kp F H (padd fr m) F' H') : RVsOk K F' H' σ rs vs m := by
  induction o generalizing fr with
  | nil => exact .nil
  | @cons r v m n rs vs h _ ih =>
    refine .cons (h.kp (fr := padd fr n) (k.less fun a q => ?_)) (ih (fr := padd fr m) (k.less fun a q => ?_))
    · unfold padd at q ⊢; omega
    · unfold padd at q ⊢; omega
theorem da_cons (ha : DE X e wa) (hs : DA X es ws) (hst : starEach (e :: es) X.env = (false, eval e X.env) :: starEach es X.env := by rfl) : DA X (e :: es) (wCons wa ws) := by
  obtain ⟨⟨ta, pa, ra⟩⟩ := ha
  obtain ⟨⟨ts, ps, rs⟩⟩ := hs
  refine ⟨⟨_, pa_cons pa ps hst, fun σ H F ρ fr Q Q' S hw k => ?_⟩⟩
  refine ra σ H F ρ fr _ _ S hw fun v1 H1 F1 ρ1 r1 m1 hw o1 S1 k1 => ?_
  refine rs σ H1 F1 ρ1 _ _ _ S1 hw fun vs H2 F2 ρ2 rs m2 hw o2 S2 k2 => ?_
  refine k _ H2 F2 ρ2 _ _ hw (.cons (o1.kp k2) o2) ?_ (k1.trans k2.left)
  rw [← padd_assoc]
  exact S2
theorem OwnT.frz {t : OT} {d : PyData} (o : OwnT K F H t v m) (e : Same F H) (hm : ∀ a, m a ≠ 0 → F a = none) (h : t.data = some d) : Same F (fun a => if m a ≠ 0 then H a else F a) ∧ Dp K (fun a => if m a ≠ 0 then H a else F a) v d := by
  have s : Same F (fun a => if m a ≠ 0 then H a else F a) := fun b o q => by
    show (if m b ≠ 0 then H b else F b) = some o
    split
    · exact e b o q
    · exact q
  refine ⟨s, ?_⟩
  cases t with
  | fz x => cases h; exact dpm s _ _ o.1
  | lst p ds =>
    cases h
    obtain ⟨vs, rfl, hp, ha, rfl⟩ := o
    refine .lst (SqL.of ?_) (dpam s _ _ ha)
    show (if one p p ≠ 0 then H p else F p) = _
    rw [if_pos (by simp [one]), hp]
  | lls p dss =>
    have o' : OwnT K F H (.lls p dss) v m := o
    cases h
    obtain ⟨ps, rfl, hp, hl, hi, nd, rfl⟩ := o
    have o2 : OwnT K (fun a => if List.count a (p :: ps) ≠ 0 then H a else F a) (fun a => if List.count a (p :: ps) ≠ 0 then H a else F a) (.lls p dss) (.ref p) (fun a => List.count a (p :: ps)) :=
      OwnT.kp o' s fun a q => if_pos q
    exact OwnT.dp o2 (Same.refl _) rfl
  | vv _ => cases h
  | exc _ _ => cases h
  | fx _ => cases h
  | ox _ _ => cases h
theorem frz_ok {k : PyData → Rho → Prop} (S : SI K F H σ ρ fr) (o : RVok K F H σ r v m) (hm : ∀ a, m a ≤ fr a) (h : frz r ρ k) :
    ∃ d ρ' F', k d ρ' ∧ Dp K F' v d ∧ Same F F' ∧ SI K F' H σ ρ' (fun a => fr a - m a) := by
  unfold frz at h
  cases r with
  | tm t =>
    simp only at h
    split at h
    · rename_i d hd
      obtain ⟨m0, ow, hq⟩ := S.own
      have hF : ∀ a, m a ≠ 0 → F a = none := fun a z => ((hq a).2 (by have := hm a; omega)).1
      obtain ⟨s, dp⟩ := OwnT.frz o S.ex hF hd
      refine ⟨d, ρ, _, h, dp, s, ⟨fun b ob q => ?_, m0, ow.kp s fun a _ => rfl, fun a => ?_⟩⟩
      · have q' : (if m b ≠ 0 then H b else F b) = some ob := q
        split at q'
        · exact q'
        · exact S.ex b ob q'
      · obtain ⟨q1, q2⟩ := hq a
        have := hm a
        refine ⟨by omega, fun z => ?_⟩
        have z' : m a = 0 := by omega
        show (if m a ≠ 0 then H a else F a) = none ∧ _
        rw [if_neg (by omega)]
        exact q2 (by omega)
    · exact h.elim
  | sl i =>
    simp only at h
    obtain ⟨rfl, hv⟩ := o
    cases e : look ρ i with
    | none => rw [e] at h; exact h.elim
    | some t =>
      rw [e] at h
      simp only at h
      split at h
      · rename_i d hd
        obtain ⟨m0, ow, hq⟩ := S.own
        obtain ⟨m1, m2, em, h1, _, h2, h2', h3⟩ := ow.at (look_lt e)
        obtain ⟨v', e1, o1⟩ := h1 t e
        rw [hv] at e1
        cases e1
        have hF : ∀ a, m1 a ≠ 0 → F a = none := fun a z => ((hq a).2 (by rw [em]; unfold padd; omega)).1
        obtain ⟨s, dp⟩ := OwnT.frz o1 S.ex hF hd
        obtain ⟨m3, ow3, em3⟩ := h3 (.vv v) v z0 ⟨rfl, rfl⟩
        have ow4 := ow3.kp (H' := H) s fun a _ => rfl
        have ow5 : OwnS K (fun a => if m1 a ≠ 0 then H a else F a) H (ρ.set i (some (.fz d))) σ m3 := by
          obtain ⟨n1, n2, en, g1, _, _, _, g3⟩ := ow4.at (i := i) (by rw [List.length_set]; exact look_lt e)
          obtain ⟨m5, ow5, em5⟩ := g3 (.fz d) v z0 ⟨dp, rfl⟩
          rw [List.set_set, List.set_set] at ow5
          have hlk : ∀ (ρ : Rho) (i : Nat) (x : Option OT), i < ρ.length → look (ρ.set i x) i = x := by
            intro ρ
            induction ρ with
            | nil => intro i x h; cases h
            | cons y r ih => intro i x h; cases i with
              | zero => rfl
              | succ i => exact ih i x (by simpa using h)
          obtain ⟨v'', _, o''⟩ := g1 (.vv v) (hlk ρ i _ (look_lt e))
          have : m5 = m3 := by
            funext a
            rw [em5 a, en, o''.2]
            rfl
          rw [this] at ow5
          have hσ : σ.set i (some v) = σ := by
            apply List.ext_getElem?
            intro j
            by_cases hj : i = j
            · subst hj
              rw [List.getElem?_set_self (List.getElem?_eq_some_iff.mp hv).1, hv]
            · rw [List.getElem?_set_ne hj]
          rw [hσ] at ow5
          exact ow5
        refine ⟨d, _, _, h, dp, s, ⟨fun b ob q => ?_, m3, ow5, fun a => ?_⟩⟩
        · have q' : (if m1 b ≠ 0 then H b else F b) = some ob := q
          split at q'
          · exact q'
          · exact S.ex b ob q'
        · obtain ⟨q1, q2⟩ := hq a
          have e3 : m3 a = m2 a := by rw [em3 a]; show 0 + m2 a = m2 a; omega
          rw [em] at q1 q2
          unfold padd at q1 q2
          show m3 a + (fr a - 0) ≤ 1 ∧ (m3 a + (fr a - 0) ≠ 0 → _)
          rw [e3]
          refine ⟨by omega, fun z => ?_⟩
          show (if m1 a ≠ 0 then H a else F a) = none ∧ _
          rw [if_neg (by omega)]
          exact q2 (by omega)
      · exact h.elim
theorem frzs_ok {vs : List V} : ∀ {rs : List RV} {vs : List V} {F : Hp} {ρ : Rho} {fr m : Fp} {k : List PyData → Rho → Prop}, SI K F H σ ρ fr → RVsOk K F H σ rs vs m → (∀ a, m a ≤ fr a) → frzs rs ρ k →
    ∃ ds ρ' F', k ds ρ' ∧ DpAll K F' vs ds ∧ Same F F' ∧ SI K F' H σ ρ' (fun a => fr a - m a)
  | _, _, F, ρ, fr, _, k, S, .nil, hm, h => ⟨[], ρ, F, h, .nil, Same.refl _, S⟩
  | _, _, F, ρ, fr, _, k, S, .cons (m := m) (n := n) o os, hm, h => by
    obtain ⟨d, ρ1, F1, h, dp, s1, S1⟩ := frz_ok S o (fun a => Nat.le_trans (Nat.le_add_right _ _) (hm a)) h
    have os1 : RVsOk K F1 H σ _ _ n := os.kp (fr := z0) ⟨s1, fun _ _ => rfl, fun _ q => q⟩
    obtain ⟨ds, ρ2, F2, h, dps, s2, S2⟩ := frzs_ok (vs := vs) S1 os1 (fun a => by have := hm a; unfold padd at this; omega) h
    refine ⟨d :: ds, ρ2, F2, h, .cons (dpm s2 _ _ dp) dps, s1.trans s2, S2.less fun a => ?_⟩
    unfold padd
    omega
end
end DL

namespace DL
open PySem PySem.Spec PyProof.Rows L2

section
variable {K : PySem.W.Frag} {F H : Hp} {σ : Sg} {ρ : Rho} {fr m : Fp} {p : Addr} {o : HO}
theorem SI.free (S : SI K F H σ ρ fr) (h : H p = none) : F p = none := by
  cases e : F p with
  | none => rfl
  | some u => rw [S.ex p u e] at h; cases h
theorem SI.zero (S : SI K F H σ ρ fr) (h : H p = none) : fr p = 0 := by
  obtain ⟨m, _, q⟩ := S.own
  obtain ⟨q1, q2⟩ := q p
  by_cases z : m p + fr p = 0
  · omega
  · exact absurd h (q2 z).2
theorem SI.newF (S : SI K F H σ ρ fr) (h : H p = none) : SI K (upd F p o) (upd H p o) σ ρ fr ∧ Same F (upd F p o) ∧ Kp F H fr (upd F p o) (upd H p o) := by
  have hF := S.free h
  have s : Same F (upd F p o) := fun b u e => by rw [upd_ne (ne_of_none e hF)]; exact e
  obtain ⟨m, ow, q⟩ := S.own
  have hz : m p + fr p = 0 := by
    by_cases z : m p + fr p = 0
    · exact z
    · exact absurd h ((q p).2 z).2
  refine ⟨⟨fun b u e => ?_, m, ow.kp s fun a z => ?_, fun a => ⟨(q a).1, fun z => ?_⟩⟩, s, ⟨s, fun a z => ?_, fun a z => ?_⟩⟩
  · by_cases hb : b = p
    · subst hb
      rw [upd_same] at e ⊢
      exact e
    · rw [upd_ne hb] at e ⊢
      exact S.ex b u e
  · exact upd_ne fun e => by subst e; omega
  · have hap : a ≠ p := fun e => by subst e; omega
    rw [upd_ne hap, upd_ne hap]
    exact (q a).2 z
  · exact upd_ne fun e => by subst e; omega
  · by_cases hb : a = p
    · subst hb; rw [upd_same]; simp
    · rw [upd_ne hb]; exact z
theorem SI.newL (S : SI K F H σ ρ fr) (h : H p = none) : SI K F (upd H p o) σ ρ (padd fr (one p)) ∧ Kp F H fr F (upd H p o) := by
  have hF := S.free h
  obtain ⟨m, ow, q⟩ := S.own
  have hz : m p + fr p = 0 := by
    by_cases z : m p + fr p = 0
    · exact z
    · exact absurd h ((q p).2 z).2
  refine ⟨⟨fun b u e => ?_, m, ow.kp (Same.refl _) fun a z => ?_, fun a => ?_⟩, ⟨Same.refl _, fun a z => ?_, fun a z => ?_⟩⟩
  · rw [upd_ne (ne_of_none (S.ex b u e) h)]
    exact S.ex b u e
  · exact upd_ne fun e => by subst e; omega
  · by_cases ha : a = p
    · subst ha
      refine ⟨by unfold padd one; simp; omega, fun _ => ⟨hF, by rw [upd_same]; simp⟩⟩
    · have e1 : padd fr (one p) a = fr a := by unfold padd one; rw [if_neg ha]; omega
      rw [e1, upd_ne ha]
      exact q a
  · exact upd_ne fun e => by subst e; omega
  · by_cases hb : a = p
    · subst hb; rw [upd_same]; simp
    · rw [upd_ne hb]; exact z
theorem Kp.ofF {F' : Hp} (s : Same F F') : Kp F H fr F' H := ⟨s, fun _ _ => rfl, fun _ h => h⟩
end

/-! ### displays -/
def wTup (ws : WA) : WE := fun ρ Q => ws ρ fun rs ρ1 => frzs rs ρ1 fun ds ρ2 => bmt (decide (ds.length ≤ sizeLine)) (Q (.fz (.tuple ds)) ρ2) False
def wLst (ws : WA) : WE := fun ρ Q => ws ρ fun rs ρ1 => frzs rs ρ1 fun ds ρ2 => bmt (decide (ds.length ≤ sizeLine)) (∀ p, Q (.tm (.lst p ds)) ρ2) False
section
variable {X : Cx} {e : Expr} {es : List Expr} {wa wb : WE} {ws : WA} {pos : Pos}
theorem de_tup {x1 : Nat} (h : DA X es ws) : DE X (.Tuple es x1 pos) (wTup ws) := by
  obtain ⟨⟨t, p, r⟩⟩ := h
  refine ⟨⟨_, pe_tup p, fun σ H F ρ fr Q Q' S hw k => ?_⟩⟩
  refine r σ H F ρ fr _ _ S hw fun vs H1 F1 ρ1 rs m hw o S1 k1 => ?_
  obtain ⟨ds, ρ2, F2, hw, dp, s, S2⟩ := frzs_ok (vs := vs) S1 o (fun a => by unfold padd; omega) hw
  have S2' : SI X.K F2 H1 σ ρ2 fr := S2.less fun a => by unfold padd; omega
  have hw := bmt_and hw
  refine ⟨by rw [dp.length]; exact hw.1, fun q hq => ?_⟩
  obtain ⟨S3, s3, k3⟩ := S2'.newF (o := .tup vs) hq
  exact k _ _ _ ρ2 _ z0 hw.2 ⟨.tup (SqT.of upd_same) (dpam s3 _ _ dp), rfl⟩ S3 ((k1.trans (Kp.ofF s)).trans k3)
theorem de_lst (h : DA X es ws) : DE X (.List es pos) (wLst ws) := by
  obtain ⟨⟨t, p, r⟩⟩ := h
  refine ⟨⟨_, pe_lst p, fun σ H F ρ fr Q Q' S hw k => ?_⟩⟩
  refine r σ H F ρ fr _ _ S hw fun vs H1 F1 ρ1 rs m hw o S1 k1 => ?_
  obtain ⟨ds, ρ2, F2, hw, dp, s, S2⟩ := frzs_ok (vs := vs) S1 o (fun a => by unfold padd; omega) hw
  have S2' : SI X.K F2 H1 σ ρ2 fr := S2.less fun a => by unfold padd; omega
  have hw := bmt_and hw
  refine ⟨by rw [dp.length]; exact hw.1, fun q hq => ?_⟩
  obtain ⟨S3, k3⟩ := S2'.newL (o := .lst vs) hq
  exact k _ _ _ ρ2 _ (one q) (hw.2 q) ⟨vs, rfl, upd_same, dp, rfl⟩ S3 ((k1.trans (Kp.ofF s)).trans k3)
end

/-! ### a[i] -/
def ixD : OT → PyData → (PyData → Prop) → Prop
  | .fz (.list ds), .int i, G => (match atI ds i with | some d => G d | none => False)
  | .fz (.tuple ds), .int i, G => (match atI ds i with | some d => G d | none => False)
  | .fz (.str z), .int i, G => z.length ≤ sizeLine ∧ (match atI z.cps.toList i with | some c => G (.str ⟨#[c]⟩) | none => False)
  | .lst _ ds, .int i, G => (match atI ds i with | some d => G d | none => False)
  | _, _, _ => False
def otd (r1 r2 : RV) (ρ : Rho) (k : OT → PyData → Prop) : Prop := match r1.ot ρ, r2.dat ρ with
  | some t, some e => k t e
  | _, _ => False
def wIx (wa wb : WE) : WE := fun ρ Q => wa ρ fun r1 ρ1 => wb ρ1 fun r2 ρ2 => otd r1 r2 ρ2 fun t e => ixD t e fun d' => Q (.fz d') ρ2
section
variable {K : PySem.W.Frag} {F H : Hp} {σ : Sg} {ρ : Rho} {fr m : Fp} {r : RV} {v : V}
theorem RVok.own (o : RVok K F H σ r v m) (S : SI K F H σ ρ fr) {t : OT} (h : r.ot ρ = some t) : ∃ m', OwnT K F H t v m' := by
  cases r with
  | tm t' => cases h; exact ⟨m, o⟩
  | sl i =>
    obtain ⟨v', m1, e1, o1⟩ := S.slot h
    rw [o.2] at e1
    cases e1
    exact ⟨m1, o1⟩
theorem ix_get {vs : List V} {ds : List PyData} {i : Int} {d : PyData} (h : DpAll K F vs ds) (e : atI ds i = some d) : ∃ v, atI vs i = some v ∧ Dp K F v d := by
  unfold atI at e ⊢
  rw [h.length]
  cases q : ixN ds.length i with
  | none => rw [q] at e; cases e
  | some j =>
    rw [q] at e
    exact h.get (i := j) e
end
section
variable {X : Cx} {a b : Expr} {wa wb : WE} {pos : Pos}
theorem de_ix (ha : DE X a wa) (hb : DE X b wb) (hs : PlainIx b := by exact fun _ _ => rfl) : DE X (.Subscript a b pos) (wIx wa wb) := by
  obtain ⟨⟨ta, pa, ra⟩⟩ := ha
  obtain ⟨⟨tb, pb, rb⟩⟩ := hb
  refine ⟨⟨_, pe_ix ix_seq pa pb hs, fun σ H F ρ fr Q Q' S hw k => ?_⟩⟩
  refine ra σ H F ρ fr _ _ S hw fun v1 H1 F1 ρ1 r1 m1 hw o1 S1 k1 => ?_
  refine rb σ H1 F1 ρ1 _ _ _ S1 hw fun v2 H2 F2 ρ2 r2 m2 hw o2 S2 k2 => ?_
  unfold otd at hw
  split at hw
  · rename_i t e h1 h2
    obtain ⟨m', o1'⟩ := (o1.kp k2).own S2 h1
    have d2 := o2.dp S2 h2
    have fin : ∀ v d, Dp X.K F2 v d → Q (.fz d) ρ2 → Q' v H2 := fun v d h q => k v H2 F2 ρ2 (.fz d) z0 q ⟨h, rfl⟩ S2.left.left (k1.trans k2.left)
    unfold ixD at hw
    split at hw
    · cases d2
      obtain ⟨o1', _⟩ := o1'
      cases o1' with
      | lst hs ha =>
        split at hw
        · rename_i d hd
          obtain ⟨v, e1, e2⟩ := ix_get ha hd
          exact .inl ⟨_, _, _, v, rfl, rfl, Same.seq S2.ex hs, e1, fin v d e2 hw⟩
        · exact hw.elim
    · cases d2
      obtain ⟨o1', _⟩ := o1'
      cases o1' with
      | tup hs ha =>
        split at hw
        · rename_i d hd
          obtain ⟨v, e1, e2⟩ := ix_get ha hd
          exact .inr (.inl ⟨_, _, _, v, rfl, rfl, same_t S2.ex hs, e1, fin v d e2 hw⟩)
        · exact hw.elim
    · cases d2
      obtain ⟨o1', _⟩ := o1'
      cases o1' with
      | str z' =>
        obtain ⟨hz, hw⟩ := hw
        split at hw
        · rename_i c hc
          exact .inr (.inr ⟨_, _, c, rfl, rfl, hz, hc, fin _ _ (.str _) hw⟩)
        · exact hw.elim
    · cases d2
      obtain ⟨vs, rfl, hp, ha, _⟩ := o1'
      split at hw
      · rename_i d hd
        obtain ⟨v, e1, e2⟩ := ix_get ha hd
        exact .inl ⟨_, _, _, v, rfl, rfl, SqL.of hp, e1, fin v d e2 hw⟩
      · exact hw.elim
    · exact hw.elim
  · exact hw.elim
end

/-! ### a[i][j] of an own list of own lists -/
def ix2D : OT → PyData → PyData → (PyData → Prop) → Prop
  | .lls _ dss, .int i, .int j, G => (match atI dss i with | some ds => (match atI ds j with | some d => G d | none => False) | none => False)
  | _, _, _, _ => False
/-- of an index nothing is changed -/
structure DEp (X : Cx) (e : Expr) (g : Rho → (PyData → Prop) → Prop) : Prop where
  run : ∃ t : TE, PE X e t ∧ ∀ (σ : Sg) (H F : Hp) (ρ : Rho) (fr : Fp) (Q : PyData → Prop) (Q' : VK), SI X.K F H σ ρ fr → g ρ Q →
    (∀ v d H' F', Q d → Dp X.K F' v d → SI X.K F' H' σ ρ fr → Same F F' → Same H H' → Q' v H') → t σ H Q'
def wIx2 (i : Nat) (ga gb : Rho → (PyData → Prop) → Prop) : WE := fun ρ Q => ga ρ fun d => gb ρ fun e => match look ρ i with
  | some t => ix2D t d e fun d' => Q (.fz d') ρ
  | none => False
def gpV (i : Nat) : Rho → (PyData → Prop) → Prop := fun ρ Q => match look ρ i with
  | some t => (match t.data with | some d => Q d | none => False)
  | none => False
section
variable {X : Cx} {a b : Expr} {pos : Pos}
theorem same_kp {F H F' H' : Hp} {fr : Fp} {K : PySem.W.Frag} {σ : Sg} {ρ : Rho} (S : SI K F H σ ρ fr) (s : Same F F') (s' : Same H H') : Kp F H fr F' H' := by
  refine ⟨s, fun a z => ?_, fun a z => ?_⟩
  · obtain ⟨m, _, q⟩ := S.own
    have := ((q a).2 (by omega)).2
    cases e : H a with
    | none => exact absurd e this
    | some o => exact s' a o e
  · cases e : H a with
    | none => exact absurd e z
    | some o => rw [s' a o e]; simp
end

/-! ### built-ins of values -/
abbrev GN := List PyData → (PyData → Prop) → Prop
def dats : List RV → Rho → (List PyData → Prop) → Prop
  | [], _, k => k []
  | r :: rs, ρ, k => match r.dat ρ with
    | some d => dats rs ρ fun ds => k (d :: ds)
    | none => False
def wCB (g : GN) (ws : WA) : WE := fun ρ Q => ws ρ fun rs ρ1 => dats rs ρ1 fun ds => g ds fun d' => Q (.fz d') ρ1
def OpN (K : PySem.W.Frag) (r : List V → Hp → VK → Prop) (g : GN) : Prop := ∀ (xs : List V) (ds : List PyData) (H : Hp) (G : PyData → Prop) (Q : VK), DpAll K H xs ds → g ds G → (∀ v d', Sc v d' → G d' → Q v H) → r xs H Q
theorem dats_ok {K : PySem.W.Frag} {F H : Hp} {σ : Sg} {ρ : Rho} : ∀ {rs : List RV} {vs : List V} {m fr : Fp} {k : List PyData → Prop}, SI K F H σ ρ fr → RVsOk K F H σ rs vs m → dats rs ρ k → ∃ ds, DpAll K H vs ds ∧ k ds
  | _, _, _, _, k, _, .nil, h => ⟨[], .nil, h⟩
  | r :: rs, _, _, fr, k, S, .cons o os, h => by
    unfold dats at h
    split at h
    · rename_i d hd
      obtain ⟨ds, h1, h2⟩ := dats_ok S os h
      exact ⟨d :: ds, .cons (o.dp S hd) h1, h2⟩
    · exact h.elim
section
variable {X : Cx} {e : Expr} {es : List Expr} {ws : WA} {pos p : Pos} {x : Str} {id : String} {r : List V → Hp → VK → Prop} {g : GN}
theorem opN_run {t : TA} (ho : OpN X.K r g) (ra : ∀ (σ : Sg) (H F : Hp) (ρ : Rho) (fr : Fp) (Q : List RV → Rho → Prop) (Q' : List V → Hp → Prop), SI X.K F H σ ρ fr → ws ρ Q →
    (∀ vs H' F' ρ' rs m, Q rs ρ' → RVsOk X.K F' H' σ rs vs m → SI X.K F' H' σ ρ' (padd fr m) → Kp F H fr F' H' → Q' vs H') → t σ H Q') : RE X.K (tCB r t) (wCB g ws) := by
  intro σ H F ρ fr Q Q' S hw k
  refine ra σ H F ρ fr _ _ S hw fun vs H1 F1 ρ1 rs m1 hw o1 S1 k1 => ?_
  obtain ⟨ds, h1, h2⟩ := dats_ok S1 o1 hw
  exact ho vs ds H1 _ _ h1 h2 fun v d' sc q => k v H1 F1 ρ1 (.fz d') z0 q ⟨sc.dp, rfl⟩ S1.left k1
theorem de_b (hr : CallR X (.builtin id) r) (ho : OpN X.K r g) (hg : Gl X x) (hm : X.mg x = none) (hv : bootBuiltins x = some (.builtin id)) (ha : DA X (e :: es) ws)
    (hn : x ≠ "__name__" := by decide) (hdb : (x == ("__debug__" : Str)) = false := by decide)
    (he : starEach (e :: es) X.env = (false, eval e X.env) :: starEach es X.env := by rfl) (hpl : (backTo pos (starEach es X.env)).any (·.1) = false := by rfl) : DE X (.Call (.Name x p) (e :: es) [] pos) (wCB g ws) := by
  obtain ⟨⟨ta, pa, ra⟩⟩ := ha
  exact ⟨⟨_, pe_callB hr hg hm hv pa hn hdb he hpl, opN_run ho ra⟩⟩
theorem de_ty {T : String} (hr : CallR X (.type T) r) (ho : OpN X.K r g) (hg : Gl X x) (hm : X.mg x = none) (hv : bootBuiltins x = some (.type T)) (ha : DA X (e :: es) ws)
    (hn : x ≠ "__name__" := by decide) (hdb : (x == ("__debug__" : Str)) = false := by decide)
    (he : starEach (e :: es) X.env = (false, eval e X.env) :: starEach es X.env := by rfl) (hpl : (backTo pos (starEach es X.env)).any (·.1) = false := by rfl) : DE X (.Call (.Name x p) (e :: es) [] pos) (wCB g ws) := by
  obtain ⟨⟨ta, pa, ra⟩⟩ := ha
  exact ⟨⟨_, pe_callTy hr hg hm hv pa hn hdb he hpl, opN_run ho ra⟩⟩
end
def gLen : GN
  | [.list ds], G => G (.int ds.length)
  | [.tuple ds], G => G (.int ds.length)
  | [.str z], G => z.length ≤ sizeLine ∧ G (.int z.length)
  | _, _ => False
def gInt : GN
  | [.int i], G => G (.int i)
  | [.bool b], G => G (.int (if b then 1 else 0))
  | _, _ => False
/-- a list of ints -/
def intsOf : List PyData → Option (List Int)
  | [] => some []
  | .int i :: r => (intsOf r).map (i :: ·)
  | _ => none
theorem intsOf_dp {K : PySem.W.Frag} {H : Hp} : ∀ {ds : List PyData} {vs : List V} {ns : List Int}, DpAll K H vs ds → intsOf ds = some ns → vs = ns.map V.int
  | [], _, _, .nil, e => by cases e; rfl
  | d :: ds, _, _, .cons h t, e => by
    cases h with
    | int i =>
      unfold intsOf at e
      cases q : intsOf ds with
      | none => rw [q] at e; cases e
      | some ms =>
        rw [q] at e
        cases e
        rw [List.map_cons, intsOf_dp t q]
    | _ => cases e
def gSum : GN
  | [.list ds], G => (match intsOf ds with | some ns => G (.int ns.sum) | none => False)
  | _, _ => False
def gMax : GN
  | [.int i, .int j], G => G (.int (if j > i then j else i))
  | _, _ => False
def gMin : GN
  | [.int i, .int j], G => G (.int (if j < i then j else i))
  | _, _ => False
section
variable {K : PySem.W.Frag}
theorem o_len : OpN K (fun xs H Q => ∃ x n, xs = [x] ∧ LenV K x H n ∧ Q (.int n) H) gLen := by
  intro xs ds H G Q hx hg k
  unfold gLen at hg
  split at hg
  · cases hx with
    | cons h t =>
      cases t
      cases h with
      | lst hs ha => exact ⟨_, _, rfl, .inl ⟨_, hs, ha.length.symm⟩, k _ _ (.int _) hg⟩
  · cases hx with
    | cons h t =>
      cases t
      cases h with
      | tup hs ha => exact ⟨_, _, rfl, .inr ⟨_, hs, ha.length.symm⟩, k _ _ (.int _) hg⟩
  · cases hx with
    | cons h t =>
      cases t
      cases h
      exact ⟨_, _, rfl, ⟨hg.1, rfl⟩, k _ _ (.int _) hg.2⟩
  · exact hg.elim
theorem o_int : OpN K (fun xs H Q => (∃ i, xs = [V.int i] ∧ Q (.int i) H) ∨ ∃ k, xs = [V.bl k] ∧ Q (.int (if k then 1 else 0)) H) gInt := by
  intro xs ds H G Q hx hg k
  unfold gInt at hg
  split at hg
  · cases hx with
    | cons h t =>
      cases t
      cases h
      exact .inl ⟨_, rfl, k _ _ (.int _) hg⟩
  · cases hx with
    | cons h t =>
      cases t
      cases h
      exact .inr ⟨_, rfl, k _ _ (.int _) hg⟩
  · exact hg.elim
theorem o_sum : OpN K (rSum K) gSum := by
  intro xs ds H G Q hx hg k
  unfold gSum at hg
  split at hg
  · cases hx with
    | cons h t =>
      cases t
      cases h with
      | lst hs ha =>
        split at hg
        · rename_i ns e
          have := intsOf_dp ha e
          subst this
          exact ⟨_, ns, rfl, hs, k _ _ (.int _) hg⟩
        · exact hg.elim
  · exact hg.elim
theorem o_max : OpN K (fun xs H Q => ∃ i j, xs = [V.int i, V.int j] ∧ Q (.int (if j > i then j else i)) H) gMax := by
  intro xs ds H G Q hx hg k
  unfold gMax at hg
  split at hg
  · cases hx with
    | cons h t =>
      cases h
      cases t with
      | cons h t =>
        cases h
        cases t
        exact ⟨_, _, rfl, k _ _ (.int _) hg⟩
  · exact hg.elim
theorem o_min : OpN K (fun xs H Q => ∃ i j, xs = [V.int i, V.int j] ∧ Q (.int (if j < i then j else i)) H) gMin := by
  intro xs ds H G Q hx hg k
  unfold gMin at hg
  split at hg
  · cases hx with
    | cons h t =>
      cases h
      cases t with
      | cons h t =>
        cases h
        cases t
        exact ⟨_, _, rfl, k _ _ (.int _) hg⟩
  · exact hg.elim
end

/-! ### slices -/
abbrev WO := Rho → (Option Int → Rho → Prop) → Prop
structure DO (X : Cx) (e : Option Expr) (w : WO) : Prop where
  run : ∃ t : TO, PO X e t ∧ ∀ (σ : Sg) (H F : Hp) (ρ : Rho) (fr : Fp) (Q : Option Int → Rho → Prop) (Q' : Option Int → Hp → Prop), SI X.K F H σ ρ fr → w ρ Q →
    (∀ o H' F' ρ', Q o ρ' → SI X.K F' H' σ ρ' fr → Kp F H fr F' H' → Q' o H') → t σ H Q'
def wPart (wa : WE) : WO := fun ρ Q => wa ρ fun r ρ1 => match r.dat ρ1 with
  | some (.int i) => Q (some i) ρ1
  | _ => False
def wNoPart : WO := fun ρ Q => Q none ρ
def cutD (ds : List PyData) (lo hi : Option Int) : List PyData := (ds.drop (HT.sIx ds.length 0 lo)).take (HT.sIx ds.length ds.length hi - HT.sIx ds.length 0 lo)
/-- a new own list; a text; a tuple -/
def wSl (wa : WE) (w1 w2 : WO) : WE := fun ρ Q => wa ρ fun r ρ1 => w1 ρ1 fun lo ρ2 => w2 ρ2 fun hi ρ3 => match r.ot ρ3 with
  | some (.fz (.list ds)) => ∀ p, Q (.tm (.lst p (cutD ds lo hi))) ρ3
  | some (.lst _ ds) => ∀ p, Q (.tm (.lst p (cutD ds lo hi))) ρ3
  | some (.fz (.str z)) => z.length ≤ sizeLine ∧ Q (.fz (.str (cutS z lo hi))) ρ3
  | some (.fz (.tuple ds)) => Q (.fz (.tuple (cutD ds lo hi))) ρ3
  | _ => False
section
variable {X : Cx} {e : Expr} {wa : WE} {pos p2 : Pos} {lo hi : Option Expr} {w1 w2 : WO}
theorem do_none : DO X none wNoPart := ⟨⟨_, po_none, fun σ H F ρ fr Q Q' S hw k => k none H F ρ hw S Kp.refl⟩⟩
theorem do_some (h : DE X e wa) : DO X (some e) (wPart wa) := by
  obtain ⟨⟨ta, pa, ra⟩⟩ := h
  refine ⟨⟨_, po_some pa, fun σ H F ρ fr Q Q' S hw k => ?_⟩⟩
  refine ra σ H F ρ fr _ _ S hw fun v1 H1 F1 ρ1 r1 m1 hw o1 S1 k1 => ?_
  split at hw
  · rename_i i hd
    have := o1.dp S1 hd
    cases this
    exact ⟨i, rfl, k _ H1 F1 ρ1 hw S1.left k1⟩
  · exact hw.elim
theorem dpa_cut {K : PySem.W.Frag} {H : Hp} {vs : List V} {ds : List PyData} (h : DpAll K H vs ds) (lo hi : Option Int) : DpAll K H (cutV vs lo hi) (cutD ds lo hi) := by
  unfold cutV cutD
  rw [h.length]
  exact (h.drop _).take _
theorem de_sl (ha : DE X e wa) (hl : DO X lo w1) (hu : DO X hi w2) : DE X (.Subscript e (.Slice lo hi none p2) pos) (wSl wa w1 w2) := by
  obtain ⟨⟨ta, pa, ra⟩⟩ := ha
  obtain ⟨⟨tl, pl, rl⟩⟩ := hl
  obtain ⟨⟨tu, pu, ru⟩⟩ := hu
  refine ⟨⟨_, pe_slice (sl_list.or (sl_str.or sl_tupA)) pa pl pu, fun σ H F ρ fr Q Q' S hw k => ?_⟩⟩
  refine ra σ H F ρ fr _ _ S hw fun v1 H1 F1 ρ1 r1 m1 hw o1 S1 k1 => ?_
  refine rl σ H1 F1 ρ1 _ _ _ S1 hw fun l H2 F2 ρ2 hw S2 k2 => ?_
  refine ru σ H2 F2 ρ2 _ _ _ S2 hw fun u H3 F3 ρ3 hw S3 k3 => ?_
  have o3 := (o1.kp k2).kp k3
  have kk : Kp F H fr F3 H3 := (k1.trans k2.left).trans k3.left
  have S3' := S3.left
  split at hw
  · rename_i ds hd
    obtain ⟨m', o'⟩ := o3.own S3 hd
    obtain ⟨o', _⟩ := o'
    cases o' with
    | lst hs ha =>
      refine .inl ⟨_, _, rfl, S3.ex.seq hs, fun p hp => ?_⟩
      obtain ⟨S4, k4⟩ := S3'.newL (o := .lst (cutV _ l u)) hp
      exact k _ _ _ ρ3 _ (one p) (hw p) ⟨_, rfl, upd_same, dpa_cut ha l u, rfl⟩ S4 (kk.trans k4)
  · rename_i p0 ds hd
    obtain ⟨m', o'⟩ := o3.own S3 hd
    obtain ⟨vs, rfl, h0, ha, _⟩ := o'
    refine .inl ⟨_, _, rfl, SqL.of h0, fun p hp => ?_⟩
    obtain ⟨S4, k4⟩ := S3'.newL (o := .lst (cutV _ l u)) hp
    exact k _ _ _ ρ3 _ (one p) (hw p) ⟨_, rfl, upd_same, dpa_cut ha l u, rfl⟩ S4 (kk.trans k4)
  · rename_i z hd
    obtain ⟨m', o'⟩ := o3.own S3 hd
    obtain ⟨o', _⟩ := o'
    cases o'
    exact .inr (.inl ⟨z, rfl, hw.1, k _ H3 F3 ρ3 _ z0 hw.2 ⟨.str _, rfl⟩ S3' kk⟩)
  · rename_i ds hd
    obtain ⟨m', o'⟩ := o3.own S3 hd
    obtain ⟨o', _⟩ := o'
    cases o' with
    | tup hs ha =>
      refine .inr (.inr ⟨_, _, rfl, same_t S3.ex hs, fun hwh => ?_, fun _ p hp => ?_⟩)
      · have e1 : cutD ds l u = ds := by
          unfold cutD
          rw [← ha.length, hwh.1, hwh.2, ha.length]
          exact List.take_length
        rw [e1] at hw
        exact k _ H3 F3 ρ3 _ z0 hw ⟨.tup hs ha, rfl⟩ S3' kk
      · obtain ⟨S4, s4, k4⟩ := S3'.newF (o := .tup (cutV _ l u)) hp
        exact k _ _ _ ρ3 _ z0 hw ⟨.tup (SqT.of upd_same) (dpam s4 _ _ (dpa_cut ha l u)), rfl⟩ S4 (kk.trans k4)
  · exact hw.elim
end
end DL

namespace DL
open PySem PySem.Spec PyProof.Rows L2

/-! ### statements -/
structure DEnds where
  nx : Rho → Prop
  rt : RV → Rho → Prop
  bk : Rho → Prop := fun _ => False
  ct : Rho → Prop := fun _ => False
  ex : Str → Option (Str × PyData) → Rho → Prop := fun _ _ _ => False
def DEnds.seq (d : DEnds) (k : Rho → Prop) : DEnds := ⟨k, d.rt, d.bk, d.ct, d.ex⟩
def DEnds.loop (d : DEnds) (k : Rho → Prop) : DEnds := ⟨k, d.rt, d.nx, k, d.ex⟩
abbrev WS := DEnds → Rho → Prop
structure EndsOk (K : PySem.W.Frag) (F H : Hp) (fr : Fp) (d : DEnds) (e : Ends) : Prop where
  nx : ∀ σ' H' F' ρ', d.nx ρ' → SI K F' H' σ' ρ' fr → Kp F H fr F' H' → e.nx σ' H'
  bk : ∀ σ' H' F' ρ', d.bk ρ' → SI K F' H' σ' ρ' fr → Kp F H fr F' H' → e.bk σ' H'
  ct : ∀ σ' H' F' ρ', d.ct ρ' → SI K F' H' σ' ρ' fr → Kp F H fr F' H' → e.ct σ' H'
  rt : ∀ v H' F' σ' ρ' r m, d.rt r ρ' → RVok K F' H' σ' r v m → SI K F' H' σ' ρ' (padd fr m) → Kp F H fr F' H' → e.rt v H'
theorem EndsOk.go {K : PySem.W.Frag} {F H F1 H1 : Hp} {fr : Fp} {d : DEnds} {e : Ends} (E : EndsOk K F H fr d e) (k : Kp F H fr F1 H1) : EndsOk K F1 H1 fr d e :=
  ⟨fun σ' H' F' ρ' a b c => E.nx σ' H' F' ρ' a b (k.trans c), fun σ' H' F' ρ' a b c => E.bk σ' H' F' ρ' a b (k.trans c), fun σ' H' F' ρ' a b c => E.ct σ' H' F' ρ' a b (k.trans c),
    fun v H' F' σ' ρ' r m a b c x => E.rt v H' F' σ' ρ' r m a b c (k.trans x)⟩
abbrev RS (K : PySem.W.Frag) (t : TS) (w : WS) : Prop := ∀ (σ : Sg) (H F : Hp) (ρ : Rho) (fr : Fp) (d : DEnds) (e : Ends), SI K F H σ ρ fr → EndsOk K F H fr d e → w d ρ → t e σ H
structure DS (X : Cx) (st : Stmt) (w : WS) : Prop where
  run : ∃ t : TS, PS X st t ∧ RS X.K t w
structure DSs (X : Cx) (st : List Stmt) (w : WS) : Prop where
  run : ∃ t : TS, PSs X st t ∧ RS X.K t w
def wNext : WS := fun d ρ => d.nx ρ
def wBrk : WS := fun d ρ => d.bk ρ
def wCnt : WS := fun d ρ => d.ct ρ
def wSeq (w1 w2 : WS) : WS := fun d ρ => w1 (d.seq (w2 d)) ρ
def wDrop (wa : WE) : WS := fun d ρ => wa ρ fun _ ρ1 => d.nx ρ1
def wRet (wa : WE) : WS := fun d ρ => wa ρ d.rt
def wRetN : WS := fun d ρ => d.rt (.fz .none) ρ
def wIfS (wt : WT) (w1 w2 : WS) : WS := fun d ρ => wt ρ fun b ρ1 => bmt b (w1 d ρ1) (w2 d ρ1)
/-- name = value -/
def toSlot (i : Nat) (r : RV) (ρ : Rho) (k : Rho → Prop) : Prop := match r with
  | .tm t => k (ρ.set i (some t))
  | .sl j => frz (.sl j) ρ fun d ρ2 => k (ρ2.set i (some (.fz d)))
def wSet (wa : WE) (i : Nat) : WS := fun d ρ => wa ρ fun r ρ1 => toSlot i r ρ1 d.nx
section
variable {K : PySem.W.Frag} {F H : Hp} {σ : Sg} {ρ : Rho} {fr m : Fp} {t : OT} {v : V}
theorem SI.set (S : SI K F H σ ρ (padd fr m)) (o : OwnT K F H t v m) (i : Nat) : SI K F H (σ.set i (some v)) (ρ.set i (some t)) fr := by
  by_cases hi : i < ρ.length
  · obtain ⟨m0, ow, q⟩ := S.own
    obtain ⟨m1, m2, em, _, _, _, _, h3⟩ := ow.at hi
    obtain ⟨m3, o3, e3⟩ := h3 t v m o
    refine ⟨S.ex, m3, o3, fun a => ?_⟩
    obtain ⟨q1, q2⟩ := q a
    rw [em] at q1 q2
    unfold padd at q1 q2
    rw [e3 a]
    exact ⟨by omega, fun z => q2 (by omega)⟩
  · obtain ⟨m0, ow, q⟩ := S.own
    have hl := ow.len
    rw [List.set_eq_of_length_le (by omega), List.set_eq_of_length_le (by omega)]
    exact S.left
theorem SI.setF (S : SI K F H σ ρ fr) {d : PyData} (o : Dp K F v d) (i : Nat) : SI K F H (σ.set i (some v)) (ρ.set i (some (.fz d))) fr :=
  SI.set (m := z0) (t := .fz d) S ⟨o, rfl⟩ i
theorem toSlot_ok {r : RV} {i : Nat} {k : Rho → Prop} (S : SI K F H σ ρ (padd fr m)) (o : RVok K F H σ r v m) (h : toSlot i r ρ k) : ∃ ρ' F', k ρ' ∧ SI K F' H (σ.set i (some v)) ρ' fr ∧ Same F F' := by
  cases r with
  | tm t => exact ⟨_, F, h, S.set o i, Same.refl _⟩
  | sl j =>
    obtain ⟨d, ρ2, F2, h, dp, s, S2⟩ := frz_ok (r := .sl j) (k := fun d ρ2 => k (ρ2.set i (some (.fz d)))) S o (fun a => by unfold padd; omega) h
    refine ⟨_, F2, h, SI.setF (S2.less fun a => ?_) dp i, s⟩
    unfold padd
    omega
end
section
variable {X : Cx} {st : Stmt} {sts : List Stmt} {w1 w2 : WS} {wa wb : WE} {wt : WT} {e c : Expr} {pos pos' : Pos}
theorem dss_nil : DSs X [] wNext := ⟨⟨_, pss_nil, fun σ H F ρ fr d e S E h => E.nx σ H F ρ h S Kp.refl⟩⟩
theorem dss_cons (h1 : DS X st w1) (h2 : DSs X sts w2) : DSs X (st :: sts) (wSeq w1 w2) := by
  obtain ⟨⟨t, p, r⟩⟩ := h1
  obtain ⟨⟨u, q, r2⟩⟩ := h2
  refine ⟨⟨_, pss_cons p q, fun σ H F ρ fr d e S E h => ?_⟩⟩
  exact r σ H F ρ fr (d.seq (w2 d)) { e with nx := u e } S ⟨fun σ' H' F' ρ' a b c => r2 σ' H' F' ρ' fr d e b (E.go c) a, E.bk, E.ct, E.rt⟩ h
theorem dss_one (h1 : DS X st w1) : DSs X [st] w1 := let ⟨⟨t, p, r⟩⟩ := h1; ⟨⟨_, pss_one p, r⟩⟩
theorem ds_pass : DS X (.Pass pos) wNext := ⟨⟨_, ps_pass, fun σ H F ρ fr d e S E h => E.nx σ H F ρ h S Kp.refl⟩⟩
theorem ds_doc {x : Str} {j : Nat} : DS X (.Expr (.Constant (.str x) j pos) pos') wNext := ⟨⟨_, ps_doc, fun σ H F ρ fr d e S E h => E.nx σ H F ρ h S Kp.refl⟩⟩
theorem ds_break : DS X (.Break pos) wBrk := ⟨⟨_, ps_break, fun σ H F ρ fr d e S E h => E.bk σ H F ρ h S Kp.refl⟩⟩
theorem ds_continue : DS X (.Continue pos) wCnt := ⟨⟨_, ps_continue, fun σ H F ρ fr d e S E h => E.ct σ H F ρ h S Kp.refl⟩⟩
theorem ds_expr (h : DE X e wa) (hs : swapsWith e none pos.line X.env = pure false := by rfl) : DS X (.Expr e pos) (wDrop wa) := by
  obtain ⟨⟨t, p, r⟩⟩ := h
  refine ⟨⟨_, ps_expr p hs, fun σ H F ρ fr d e S E h => ?_⟩⟩
  exact r σ H F ρ fr _ _ S h fun v H' F' ρ' r m a b c k => E.nx σ H' F' ρ' a c.left k
theorem ds_ret (h : DE X e wa) : DS X (.Return (some e) pos) (wRet wa) := by
  obtain ⟨⟨t, p, r⟩⟩ := h
  refine ⟨⟨_, ps_ret p, fun σ H F ρ fr d e S E h => ?_⟩⟩
  exact r σ H F ρ fr _ _ S h fun v H' F' ρ' r m a b c k => E.rt v H' F' σ ρ' r m a b c k
theorem ds_retN : DS X (.Return none pos) wRetN := ⟨⟨_, ps_retN, fun σ H F ρ fr d e S E h => E.rt .non H F σ ρ (.fz .none) z0 h ⟨.non, rfl⟩ S Kp.refl⟩⟩
theorem ds_if {a b : List Stmt} (hc : DT X c wt) (ha : DSs X a w1) (hb : DSs X b w2) : DS X (.If c a b pos) (wIfS wt w1 w2) := by
  obtain ⟨⟨t, p, r⟩⟩ := hc
  obtain ⟨⟨t1, p1, r1⟩⟩ := ha
  obtain ⟨⟨t2, p2, r2⟩⟩ := hb
  refine ⟨⟨_, ps_if p p1 p2, fun σ H F ρ fr d e S E h => ?_⟩⟩
  refine r σ H F ρ fr _ _ S h fun b H' F' ρ' a S' k => ?_
  cases b with
  | true => exact r1 σ H' F' ρ' fr d e S' (E.go k) a
  | false => exact r2 σ H' F' ρ' fr d e S' (E.go k) a
theorem ds_set {i : Nat} {x : Str} (hN : X.N.Nodup) (hi : X.N[i]? = some x) (hx : Loc X.env.scope x) (he : DE X e wa) (hs : swapsWith e (some (.Name x pos')) pos.line X.env = pure false := by rfl)
    (hf : X.fn x = true ∨ X.env.scope.names.lookup x = some .local := by first | exact .inl rfl | exact .inr rfl | assumption) : DS X (.Assign [.Name x pos'] e pos) (wSet wa i) := by
  obtain ⟨⟨t, p, r⟩⟩ := he
  refine ⟨⟨_, ps_set hN hi hx p hs hf, fun σ H F ρ fr d e S E h => ?_⟩⟩
  refine r σ H F ρ fr _ _ S h fun v H' F' ρ' r m a b c k => ?_
  obtain ⟨ρ2, F2, q, S2, s⟩ := toSlot_ok c b a
  exact E.nx _ H' F2 ρ2 q S2 (k.trans (Kp.ofF s))

/-! targets of frozen data -/
abbrev WG := PyData → Rho → (Rho → Prop) → Prop
structure DG (X : Cx) (tg : Expr) (w : WG) : Prop where
  run : ∃ t : TG, PG X tg t ∧ ∀ (σ : Sg) (H F : Hp) (ρ : Rho) (fr : Fp) (x : PyData) (v : V) (Q : Rho → Prop) (Q' : Sg → Hp → Prop), SI X.K F H σ ρ fr → Dp X.K F v x → w x ρ Q →
    (∀ σ' H' F' ρ', Q ρ' → SI X.K F' H' σ' ρ' fr → Kp F H fr F' H' → Q' σ' H') → t v σ H Q'
abbrev WGs := List PyData → Rho → (Rho → Prop) → Prop
structure DGs (X : Cx) (tgs : List Expr) (w : WGs) : Prop where
  run : ∃ t : TGs, PGs X tgs t ∧ ∀ (σ : Sg) (H F : Hp) (ρ : Rho) (fr : Fp) (xs : List PyData) (vs : List V) (Q : Rho → Prop) (Q' : Sg → Hp → Prop), SI X.K F H σ ρ fr → DpAll X.K F vs xs → w xs ρ Q →
    (∀ σ' H' F' ρ', Q ρ' → SI X.K F' H' σ' ρ' fr → Kp F H fr F' H' → Q' σ' H') → t vs σ H Q'
def gvName (i : Nat) : WG := fun x ρ Q => Q (ρ.set i (some (.fz x)))
def gvNil : WGs := fun xs ρ Q => match xs with
  | [] => Q ρ
  | _ => False
def gvCons (g : WG) (gs : WGs) : WGs := fun xs ρ Q => match xs with
  | x :: r => g x ρ fun ρ1 => gs r ρ1 Q
  | [] => False
def gvTup (n : Nat) (gs : WGs) : WG := fun x ρ Q => match x with
  | .tuple xs => bmt (decide (xs.length = n)) (gs xs ρ Q) False
  | _ => False
theorem dg_name {i : Nat} {x : Str} (hN : X.N.Nodup) (hi : X.N[i]? = some x) (hx : Loc X.env.scope x) (hf : X.fn x = true ∨ X.env.scope.names.lookup x = some .local := by first | exact .inl rfl | exact .inr rfl | assumption) : DG X (.Name x pos) (gvName i) :=
  ⟨⟨_, pg_name hN hi hx hf, fun σ H F ρ fr x v Q Q' S dp h k => k _ H F _ h (S.setF dp i) Kp.refl⟩⟩
theorem dgs_nil : DGs X [] gvNil := by
  refine ⟨⟨_, pgs_nil, fun σ H F ρ fr xs vs Q Q' S dp h k => ?_⟩⟩
  cases dp with
  | nil => exact ⟨rfl, k σ H F ρ h S Kp.refl⟩
  | cons _ _ => exact h.elim
theorem dgs_cons {g : WG} {gs : WGs} {es : List Expr} (h1 : DG X e g) (h2 : DGs X es gs) (hs : (assignEach (e :: es) X.env).map (·.2) = assign e X.env :: (assignEach es X.env).map (·.2) := by rfl) : DGs X (e :: es) (gvCons g gs) := by
  obtain ⟨⟨t, p, r⟩⟩ := h1
  obtain ⟨⟨u, q, r2⟩⟩ := h2
  refine ⟨⟨_, pgs_cons p q hs, fun σ H F ρ fr xs vs Q Q' S dp h k => ?_⟩⟩
  cases dp with
  | nil => exact h.elim
  | cons d1 d2 => exact ⟨_, _, rfl, r σ H F ρ fr _ _ _ _ S d1 h fun σ' H' F' ρ' a S' k' => r2 σ' H' F' ρ' fr _ _ _ _ S' (dpam k'.exF _ _ d2) a fun σ2 H2 F2 ρ2 a S2 k2 => k σ2 H2 F2 ρ2 a S2 (k'.trans k2)⟩
theorem dg_tup {gs : WGs} {es : List Expr} {k n : Nat} (hc : X.calm = true) (h : DGs X es gs) (hn : (assignEach es X.env).length = n := by rfl) (hst : (assignEach es X.env).findIdx? (·.1) = none := by rfl) : DG X (.Tuple es k pos) (gvTup n gs) := by
  obtain ⟨⟨u, q, r2⟩⟩ := h
  refine ⟨⟨_, pg_tup hc q hn hst, fun σ H F ρ fr xs vs Q Q' S dp h k => ?_⟩⟩
  cases dp with
  | tup hs ha => have h := bmt_and h; exact ⟨_, _, rfl, same_t S.ex hs, by rw [ha.length]; exact h.1, r2 σ H F ρ fr _ _ Q Q' S ha h.2 k⟩
  | _ => exact h.elim
/-- targets = value -/
def wAsg (wa : WE) (g : WG) : WS := fun d ρ => wa ρ fun r ρ1 => frz r ρ1 fun x ρ2 => g x ρ2 d.nx
theorem ds_asg {tg : Expr} {g : WG} (he : DE X e wa) (hg : DG X tg g) (hs : swapsWithSole [tg] e pos.line X.env = pure false := by rfl) (hw : swappedStores [tg] e X.env = pure none := by rfl)
    (h1 : (assignEach [tg] X.env).map (·.2) = [assign tg X.env] := by rfl) : DS X (.Assign [tg] e pos) (wAsg wa g) := by
  obtain ⟨⟨t, p, r⟩⟩ := he
  obtain ⟨⟨u, q, r2⟩⟩ := hg
  refine ⟨⟨_, ps_asg p q hs hw h1, fun σ H F ρ fr d e S E h => ?_⟩⟩
  refine r σ H F ρ fr _ _ S h fun v H' F' ρ' r m a b c k => ?_
  obtain ⟨x, ρ2, F2, a, dp, s, S2⟩ := frz_ok c b (fun a => by unfold padd; omega) a
  have S2' : SI X.K F2 H' σ ρ2 fr := S2.less fun a => by unfold padd; omega
  exact r2 σ H' F2 ρ2 fr x v _ _ S2' dp a fun σ3 H3 F3 ρ3 a S3 k3 => E.nx σ3 H3 F3 ρ3 a S3 ((k.trans (Kp.ofF s)).trans k3)
/-- unpacking a list -/
def gvUnl (n : Nat) (gs : WGs) : WG := fun x ρ Q => match x with
  | .list xs => bmt (decide (xs.length = n)) (gs xs ρ Q) False
  | _ => False
theorem dg_unl {gs : WGs} {es : List Expr} {k n : Nat} (hc : X.calm = true) (h : DGs X es gs) (hn : (assignEach es X.env).length = n := by rfl) (hst : (assignEach es X.env).findIdx? (·.1) = none := by rfl) : DG X (.Tuple es k pos) (gvUnl n gs) := by
  obtain ⟨⟨u, q, r2⟩⟩ := h
  refine ⟨⟨_, pg_unl hc q hn hst, fun σ H F ρ fr xs vs Q Q' S dp h k => ?_⟩⟩
  cases dp with
  | lst hs ha => have h := bmt_and h; exact ⟨_, _, rfl, S.ex.seq hs, by rw [ha.length]; exact h.1, r2 σ H F ρ fr _ _ Q Q' S ha h.2 k⟩
  | _ => exact h.elim
/-- a, b = x, y -/
def wPar (i j : Nat) (ws : WA) : WS := fun d ρ => ws ρ fun rs ρ1 => frzs rs ρ1 fun ds ρ2 => match ds with
  | [x, y] => d.nx ((ρ2.set i (some (.fz x))).set j (some (.fz y)))
  | _ => False
theorem ds_par {i j : Nat} {x y : Str} {a b : Expr} {ws : WA} {px py pt : Pos} {kt k2 : Nat} {pt2 : Pos} (hc : X.calm = true) (hN : X.N.Nodup) (hi : X.N[i]? = some x) (hj : X.N[j]? = some y) (hij : i ≠ j)
    (hx : X.env.scope.names.lookup x = some .local) (hy : X.env.scope.names.lookup y = some .local) (ha : DA X [a, b] ws)
    (hw : swappedStores [.Tuple [.Name x px, .Name y py] kt pt] (.Tuple [a, b] k2 pt2) X.env = pure (some [x, y]))
    (hs : swapsWithSole [.Tuple [.Name x px, .Name y py] kt pt] (.Tuple [a, b] k2 pt2) pos.line X.env = pure false := by rfl) :
    DS X (.Assign [.Tuple [.Name x px, .Name y py] kt pt] (.Tuple [a, b] k2 pt2) pos) (wPar i j ws) := by
  obtain ⟨⟨t, p, r⟩⟩ := ha
  refine ⟨⟨_, ps_par hc hN hi hj hij hx hy p hw hs, fun σ H F ρ fr d e S E h => ?_⟩⟩
  refine r σ H F ρ fr _ _ S h fun vs H1 F1 ρ1 rs m hw o S1 k1 => ?_
  obtain ⟨ds, ρ2, F2, hw, dp, s, S2⟩ := frzs_ok (vs := vs) S1 o (fun a => by unfold padd; omega) hw
  have S2' : SI X.K F2 H1 σ ρ2 fr := S2.less fun a => by unfold padd; omega
  cases dp with
  | nil => exact hw.elim
  | cons d1 t1 =>
    cases t1 with
    | nil => exact hw.elim
    | cons d2 t2 =>
      cases t2 with
      | cons _ _ => exact hw.elim
      | nil => exact ⟨_, _, rfl, E.nx _ H1 F2 _ hw ((S2'.setF d1 i).setF d2 j) (k1.trans (Kp.ofF s))⟩
end

/-! ### own lists that change -/
section
variable {K : PySem.W.Frag} {F H : Hp} {σ : Sg} {ρ : Rho} {fr : Fp} {ds : List PyData} {i : Nat}
/-- the own list of a slot, and what comes of another one put in its place -/
theorem SI.lst {p : Addr} (S : SI K F H σ ρ fr) (h : look ρ i = some (.lst p ds)) : ∃ vs, σ[i]? = some (some (.ref p)) ∧ H p = some (.lst vs) ∧ DpAll K F vs ds ∧
    ∀ vs' ds', DpAll K F vs' ds' → SI K F (upd H p (.lst vs')) σ (ρ.set i (some (.lst p ds'))) fr ∧ Kp F H fr F (upd H p (.lst vs')) := by
  obtain ⟨m, ow, q⟩ := S.own
  obtain ⟨m1, m2, em, h1, _, _, h2, h3⟩ := ow.at (look_lt h)
  obtain ⟨v, e1, vs, rfl, hp, ha, rfl⟩ := h1 _ h
  refine ⟨vs, e1, hp, ha, fun vs' ds' ha' => ?_⟩
  have q1 := q p
  rw [em] at q1
  have h1p : one p p = 1 := by simp [one]
  have hz : m2 p + fr p = 0 := by have := q1.1; unfold padd at this; omega
  have hFp : F p = none := (q1.2 (by unfold padd; omega)).1
  have o' : OwnT K F (upd H p (.lst vs')) (.lst p ds') (.ref p) (one p) := ⟨vs', rfl, upd_same, ha', rfl⟩
  have ow2 : OwnS K F (upd H p (.lst vs')) (ρ.set i none) σ m2 := h2.kp (Same.refl _) fun a z => upd_ne fun e => by subst e; omega
  obtain ⟨n1, n2, en, g1, g0, _, _, g3⟩ := ow2.at (i := i) (by rw [List.length_set]; exact look_lt h)
  have hlk : ∀ (ρ : Rho) (i : Nat) (x : Option OT), i < ρ.length → look (ρ.set i x) i = x := by
    intro ρ
    induction ρ with
    | nil => intro i x h; cases h
    | cons y r ih => intro i x h; cases i with
      | zero => rfl
      | succ i => exact ih i x (by simpa using h)
  have en1 : n1 = z0 := g0 (hlk ρ i none (look_lt h))
  obtain ⟨m3, o3, e3⟩ := g3 _ _ _ o'
  rw [List.set_set] at o3
  have hσ : σ.set i (some (.ref p)) = σ := by
    apply List.ext_getElem?
    intro j
    by_cases hj : i = j
    · subst hj
      rw [List.getElem?_set_self (List.getElem?_eq_some_iff.mp e1).1, e1]
    · rw [List.getElem?_set_ne hj]
  rw [hσ] at o3
  refine ⟨⟨fun b u e => ?_, m3, o3, fun a => ?_⟩, Same.refl _, fun a z => upd_ne fun e => by subst e; omega, fun a z => ?_⟩
  · rw [upd_ne fun e' => by subst e'; rw [hFp] at e; cases e]
    exact S.ex b u e
  · have e4 : m3 a = m a := by
      rw [e3 a, em]
      unfold padd
      have : m2 a = n2 a := by rw [en, en1]; exact Nat.zero_add _
      omega
    rw [e4]
    refine ⟨(q a).1, fun z => ⟨((q a).2 z).1, ?_⟩⟩
    by_cases hb : a = p
    · subst hb; rw [upd_same]; simp
    · rw [upd_ne hb]; exact ((q a).2 z).2
  · by_cases hb : a = p
    · subst hb; rw [upd_same]; simp
    · rw [upd_ne hb]; exact z
end
/-- x.append(e) of an own list, the answer dropped -/
def isOwn (ρ : Rho) (i : Nat) (k : Prop) : Prop := match look ρ i with
  | some (.lst _ _) => k
  | _ => False
theorem isOwn_iff {ρ : Rho} {i : Nat} {k : Prop} (h : isOwn ρ i k) : (∃ q ds, look ρ i = some (.lst q ds)) ∧ k := by
  unfold isOwn at h
  split at h
  · exact ⟨⟨_, _, by assumption⟩, h⟩
  · exact h.elim
def wApp (i : Nat) (wa : WE) : WS := fun d ρ => isOwn ρ i <| wa ρ fun r ρ1 => frz r ρ1 fun x ρ2 => match look ρ2 i with
  | some (.lst p ds) => ds.length < sizeLine ∧ d.nx (ρ2.set i (some (.lst p (ds ++ [x]))))
  | _ => False
/-- x[k] = e of an own list -/
def wSub (i : Nat) (wk wa : WE) : WS := fun d ρ => wa ρ fun r ρ1 => frz r ρ1 fun x ρ2 => isOwn ρ2 i <| wk ρ2 fun rk ρ3 => match look ρ3 i, rk.dat ρ3 with
  | some (.lst p ds), some (.int k) => (match ixN ds.length k with
    | some j => d.nx (ρ3.set i (some (.lst p (ds.set j x))))
    | none => False)
  | _, _ => False
section
variable {X : Cx} {e k : Expr} {wa wk : WE} {pos apos cpos p0 tpos : Pos} {x : Str} {i : Nat}
theorem ds_app (hN : X.N[i]? = some x) (hv : Vis X.env.scope x) (ha : DE X e wa)
    (hd : (x == ("__debug__" : Str)) = false := by decide) (hcd : (x == ("__classdict__" : Str)) = false := by decide)
    (hbase : attributeBase (.Name x p0) "append" X.env (eval (.Name x p0) X.env) = eval (.Name x p0) X.env := by rfl)
    (hfew : ((backTo cpos (starEach [e] X.env)).all (fun x => !x.1) && (backToKw cpos (keywordEach [] X.env)).all (fun x => x.1.isSome)
      && decide ([e].length + ([] : List Keyword).length + (if ([] : List Keyword).isEmpty then 0 else 1) < 30)) = true := by rfl)
    (hline : (apos.endLine == cpos.line) = true := by rfl) (hs : starEach (e :: []) X.env = (false, eval e X.env) :: starEach [] X.env := by rfl) (hplain : (backTo cpos (starEach [] X.env)).any (·.1) = false := by rfl)
    (hsw : swapsWith (.Call (.Attribute (.Name x p0) "append" apos) [e] [] cpos) none pos.line X.env = pure false := by rfl) :
    DS X (.Expr (.Call (.Attribute (.Name x p0) "append" apos) [e] [] cpos) pos) (wApp i wa) := by
  obtain ⟨⟨t, p, r⟩⟩ := ha
  refine ⟨⟨_, ps_expr (pe_bm PySem.F.plainAttrs_list PySem.F.slot_list_append PySem.F.type_list_append mt_append (pe_var hN hv hd hcd) (pa_cons p pa_nil hs) hbase hfew hline hs hplain) hsw, fun σ H F ρ fr d e S E h => ?_⟩⟩
  obtain ⟨⟨q, ds0, e0⟩, h⟩ := isOwn_iff h
  obtain ⟨vs, e1, hp, _, _⟩ := S.lst e0
  refine ⟨.ref q, e1, .inl ⟨rfl, _, SqL.of hp⟩, ?_⟩
  refine r σ H F ρ fr _ _ S h fun v H1 F1 ρ1 r1 m a b c k1 => ?_
  obtain ⟨y, ρ2, F2, a, dp, s, S2⟩ := frz_ok c b (fun a => by unfold padd; omega) a
  have S2' : SI X.K F2 H1 σ ρ2 fr := S2.less fun a => by unfold padd; omega
  split at a
  · rename_i q' ds e2
    obtain ⟨vs', e1', hp', ha', fin⟩ := S2'.lst e2
    rw [e1] at e1'
    cases e1'
    obtain ⟨S3, k3⟩ := fin (vs' ++ [v]) (ds ++ [y]) (ha'.append (.cons dp .nil))
    exact ⟨q, vs', v, rfl, rfl, hp', by rw [ha'.length]; exact a.1, E.nx σ _ F2 _ a.2 S3 ((k1.trans (Kp.ofF s)).trans k3)⟩
  · exact a.elim
theorem ds_sub (hN : X.N[i]? = some x) (hv : Vis X.env.scope x) (hk : DE X k wk) (ha : DE X e wa)
    (hd : (x == ("__debug__" : Str)) = false := by decide) (hcd : (x == ("__classdict__" : Str)) = false := by decide)
    (h2 : ∀ v, assign (.Subscript (.Name x p0) k tpos) X.env v = (do
      let ov ← holding [v] (eval (.Name x p0) X.env)
      let iv ← holding [v, ov] (eval k X.env)
      standAt tpos
      holding [v, ov, iv] (setItem ov iv v)
      release [v, ov, iv] []) := by intro _; rfl)
    (hs : swapsWithSole [.Subscript (.Name x p0) k tpos] e pos.line X.env = pure false := by rfl) (hw : swappedStores [.Subscript (.Name x p0) k tpos] e X.env = pure none := by rfl)
    (h1 : (assignEach [.Subscript (.Name x p0) k tpos] X.env).map (·.2) = [assign (.Subscript (.Name x p0) k tpos) X.env] := by rfl) :
    DS X (.Assign [.Subscript (.Name x p0) k tpos] e pos) (wSub i wk wa) := by
  obtain ⟨⟨t, p, r⟩⟩ := ha
  obtain ⟨⟨tk, pk, rk⟩⟩ := hk
  refine ⟨⟨_, ps_asg p (pg_sub (pe_var hN hv hd hcd) pk set_list h2) hs hw h1, fun σ H F ρ fr d e S E h => ?_⟩⟩
  refine r σ H F ρ fr _ _ S h fun v H1 F1 ρ1 r1 m a b c k1 => ?_
  obtain ⟨y, ρ2, F2, a, dp, s, S2⟩ := frz_ok c b (fun a => by unfold padd; omega) a
  have S2' : SI X.K F2 H1 σ ρ2 fr := S2.less fun a => by unfold padd; omega
  obtain ⟨⟨q, ds0, e0⟩, a⟩ := isOwn_iff a
  obtain ⟨vs, e1, hp, _, _⟩ := S2'.lst e0
  refine ⟨.ref q, e1, ?_⟩
  refine rk σ H1 F2 ρ2 fr _ _ S2' a fun vk H3 F3 ρ3 r3 m3 a o3 S3 k3 => ?_
  split at a
  · rename_i q' ds kk e2 e3
    have := o3.dp S3 e3
    cases this
    obtain ⟨vs', e1', hp', ha', fin⟩ := S3.left.lst e2
    rw [e1] at e1'
    cases e1'
    split at a
    · rename_i j hj
      obtain ⟨S4, k4⟩ := fin (vs'.set j v) (ds.set j y) (ha'.set (dpm k3.exF _ _ dp) j)
      exact ⟨q, vs', _, j, rfl, rfl, hp', by rw [ha'.length]; exact hj, E.nx σ _ F3 _ a S4 (((k1.trans (Kp.ofF s)).trans k3).trans k4)⟩
    · exact a.elim
  · exact a.elim
end

/-! ### loops -/
/-- what is walked: the data xs -/
def JOk (K : PySem.W.Frag) (F1 : Hp) (J : It) (xs : List PyData) : Prop := ∀ (i : Nat) (F' H' : Hp), Same F1 F' → Same F' H' →
  (xs.length ≤ i → J.stop i H') ∧ ∀ d, xs[i]? = some d → J.go i H' ∧ ∀ x H'', J.yld i H' x H'' →
    (H'' = H' ∧ Dp K F' x d) ∨ (∃ p u, H' p = none ∧ H'' = upd H' p u ∧ Dp K (upd F' p u) x d)
abbrev WI := Rho → (List PyData → Rho → Prop) → Prop
structure DI (X : Cx) (tg iter : Expr) (w : WI) : Prop where
  run : ∃ t : TI, PI X tg iter t ∧ ∀ (σ : Sg) (H F : Hp) (ρ : Rho) (fr : Fp) (Q : List PyData → Rho → Prop) (R : It → Hp → Prop), SI X.K F H σ ρ fr → w ρ Q →
    (∀ xs H' F' ρ' J, Q xs ρ' → SI X.K F' H' σ ρ' fr → Kp F H fr F' H' → JOk X.K F' J xs → R J H') → t σ H R
/-- a loop, by what holds ahead of each turn -/
def wFor (wi : WI) (g : WG) (wb : WS) : WS := fun d ρ => wi ρ fun xs ρ1 => ∃ I : Nat → Rho → Prop, I 0 ρ1 ∧
  (∀ i x ρ2, xs[i]? = some x → I i ρ2 → g x ρ2 fun ρ3 => wb (d.loop (I (i + 1))) ρ3) ∧ ∀ ρ2, I xs.length ρ2 → d.nx ρ2
def wWhile (wt : WT) (wb : WS) : WS := fun d ρ => ∃ I : Nat → Rho → Prop, (∃ m, I m ρ) ∧ ∀ m ρ1, I m ρ1 → wt ρ1 fun b ρ2 => bmt b (wb (d.loop fun ρ' => ∃ m', m' < m ∧ I m' ρ') ρ2) (d.nx ρ2)
section
variable {X : Cx} {tg iter c : Expr} {body : List Stmt} {wi : WI} {g : WG} {wb : WS} {wt : WT} {pos : Pos}
theorem ds_for (hp : PassesOwn (model X.prog X.w) X.A X.env X.xe) (hc : X.calm = true) (hi : DI X tg iter wi) (hg : DG X tg g) (hb : DSs X body wb) (hs : ∀ x, foldedSetIterable iter X.env x = pure x := by intro _; rfl) : DS X (.For tg iter body [] pos) (wFor wi g wb) := by
  obtain ⟨⟨ti, pi, ri⟩⟩ := hi
  obtain ⟨⟨tg', pg, rg⟩⟩ := hg
  obtain ⟨⟨tb, pb, rb⟩⟩ := hb
  refine ⟨⟨_, ps_for hp hc pi pg pb hs, fun σ H F ρ fr d e S E h => ?_⟩⟩
  refine ri σ H F ρ fr _ _ S h fun xs H1 F1 ρ1 J a S1 k1 hJ => ?_
  obtain ⟨I, i0, it, ie⟩ := a
  refine ⟨fun i m σ' H' => m = xs.length - i ∧ i ≤ xs.length ∧ ∃ ρ' F', I i ρ' ∧ SI X.K F' H' σ' ρ' fr ∧ Kp F1 H1 fr F' H', ⟨xs.length, by simp, Nat.zero_le _, ρ1, F1, i0, S1, Kp.refl⟩, ?_⟩
  rintro i m σ2 H2 ⟨rfl, hi, ρ2, F2, i2, S2, k2⟩
  obtain ⟨jstop, jgo⟩ := hJ i F2 H2 k2.exF S2.ex
  by_cases hlt : i < xs.length
  · obtain ⟨x, hx⟩ : ∃ x, xs[i]? = some x := ⟨xs[i], by simp [hlt]⟩
    obtain ⟨go, yl⟩ := jgo x hx
    refine .inr ⟨go, fun σ' H' => ∃ ρ' F', I (i + 1) ρ' ∧ SI X.K F' H' σ' ρ' fr ∧ Kp F1 H1 fr F' H', fun σ' H' n => ⟨xs.length - (i + 1), by omega, rfl, hlt, n⟩, fun v H3 y => ?_⟩
    have main : ∀ F3, SI X.K F3 H3 σ2 ρ2 fr → Kp F1 H1 fr F3 H3 → Dp X.K F3 v x → tg' v σ2 H3 fun σ4 H4 => tb { nx := fun σ' H' => ∃ ρ' F', I (i + 1) ρ' ∧ SI X.K F' H' σ' ρ' fr ∧ Kp F1 H1 fr F' H', rt := e.rt, bk := e.nx, ct := fun σ' H' => ∃ ρ' F', I (i + 1) ρ' ∧ SI X.K F' H' σ' ρ' fr ∧ Kp F1 H1 fr F' H' } σ4 H4 := by
      intro F3 S3 k3 dp
      refine rg σ2 H3 F3 ρ2 fr x v _ _ S3 dp (it i x ρ2 hx i2) fun σ4 H4 F4 ρ4 a S4 k4 => ?_
      have E4 : EndsOk X.K F4 H4 fr d e := (E.go k1).go (k3.trans k4)
      refine rb σ4 H4 F4 ρ4 fr (d.loop (I (i + 1))) _ S4 ⟨fun σ' H' F' ρ' a b c => ⟨ρ', F', a, b, (k3.trans k4).trans c⟩, E4.nx, fun σ' H' F' ρ' a b c => ⟨ρ', F', a, b, (k3.trans k4).trans c⟩, E4.rt⟩ a
    rcases yl v H3 y with ⟨rfl, dp⟩ | ⟨p, u, hp, rfl, dp⟩
    · exact main F2 S2 k2 dp
    · obtain ⟨S3, _, k3⟩ := S2.newF (o := u) hp
      exact main _ S3 (k2.trans k3) dp
  · have e' : i = xs.length := by omega
    subst e'
    exact .inl ⟨jstop (Nat.le_refl _), E.nx σ2 H2 F2 ρ2 (ie ρ2 i2) S2 (k1.trans k2)⟩
theorem ds_while (hp : PassesOwn (model X.prog X.w) X.A X.env X.xe) (hc : DT X c wt) (hb : DSs X body wb) : DS X (.While c body [] pos) (wWhile wt wb) := by
  obtain ⟨⟨tc, pc, rc⟩⟩ := hc
  obtain ⟨⟨tb, pb, rb⟩⟩ := hb
  refine ⟨⟨_, ps_while hp pc pb, fun σ H F ρ fr d e S E h => ?_⟩⟩
  obtain ⟨I, ⟨m0, i0⟩, it⟩ := h
  refine ⟨fun m σ' H' => ∃ ρ' F', I m ρ' ∧ SI X.K F' H' σ' ρ' fr ∧ Kp F H fr F' H', ⟨m0, ρ, F, i0, S, Kp.refl⟩, ?_⟩
  rintro m σ1 H1 ⟨ρ1, F1, i1, S1, k1⟩
  refine rc σ1 H1 F1 ρ1 fr _ _ S1 (it m ρ1 i1) fun b H2 F2 ρ2 a S2 k2 => ?_
  have E2 : EndsOk X.K F2 H2 fr d e := E.go (k1.trans k2)
  cases b with
  | false => exact E2.nx σ1 H2 F2 ρ2 a S2 Kp.refl
  | true =>
    refine ⟨fun σ' H' => ∃ m', m' < m ∧ ∃ ρ' F', I m' ρ' ∧ SI X.K F' H' σ' ρ' fr ∧ Kp F H fr F' H', fun σ' H' n => n, ?_⟩
    refine rb σ1 H2 F2 ρ2 fr (d.loop fun ρ' => ∃ m', m' < m ∧ I m' ρ') _ S2 ⟨fun σ' H' F' ρ' a b c => ?_, E2.nx, fun σ' H' F' ρ' a b c => ?_, E2.rt⟩ a
    · obtain ⟨m', hm, a⟩ := a
      exact ⟨m', hm, ρ', F', a, b, (k1.trans k2).trans c⟩
    · obtain ⟨m', hm, a⟩ := a
      exact ⟨m', hm, ρ', F', a, b, (k1.trans k2).trans c⟩
end

/-! what is walked -/
/-- the signs of a text -/
def signsD (z : Str) : List PyData := z.cps.toList.map fun c => .str ⟨#[c]⟩
def wIter (wa : WE) : WI := fun ρ Q => wa ρ fun r ρ1 => frz r ρ1 fun d ρ2 => match d with
  | .list ds => Q ds ρ2
  | _ => False
def wIterT (wa : WE) : WI := fun ρ Q => wa ρ fun r ρ1 => frz r ρ1 fun d ρ2 => match d with
  | .tuple ds => Q ds ρ2
  | _ => False
def wIterS (wa : WE) : WI := fun ρ Q => wa ρ fun r ρ1 => frz r ρ1 fun d ρ2 => match d with
  | .str z => Q (signsD z) ρ2
  | _ => False
def rng (lo : Int) (n : Nat) : List PyData := (List.range n).map fun k => .int (lo + (k : Nat))
def wRng1 (ws : WA) : WI := fun ρ Q => ws ρ fun rs ρ1 => dats rs ρ1 fun ds => match ds with
  | [.int j] => (-(2 ^ 62) ≤ j ∧ j < 2 ^ 62) ∧ Q (rng 0 j.toNat) ρ1
  | _ => False
def wRng2 (ws : WA) : WI := fun ρ Q => ws ρ fun rs ρ1 => dats rs ρ1 fun ds => match ds with
  | [.int i, .int j] => (-(2 ^ 62) ≤ i ∧ i < 2 ^ 62 ∧ -(2 ^ 62) ≤ j ∧ j < 2 ^ 62) ∧ Q (rng i (j - i).toNat) ρ1
  | _ => False
section
variable {X : Cx} {tg a b : Expr} {wa : WE} {ws : WA} {p pos : Pos} {K : PySem.W.Frag} {F1 : Hp}
theorem j_list {a : Addr} {vs : List V} {ds : List PyData} (hs : SqL K F1 a vs) (ha : DpAll K F1 vs ds) : JOk K F1 (Itl K a) ds := by
  intro i F' H' s s'
  have h' : SqL K H' a vs := (s.trans s').seq hs
  refine ⟨fun h => ⟨vs, h', by rw [ha.length]; exact h⟩, fun d hd => ?_⟩
  obtain ⟨v, hv, dp⟩ := ha.get hd
  refine ⟨⟨vs, v, h', hv⟩, fun x H'' y => .inl ⟨y.1, ?_⟩⟩
  have := y.2 vs h'
  rw [hv] at this
  cases this
  exact dpm s _ _ dp
theorem j_tup {a : Addr} {vs : List V} {ds : List PyData} (hs : SqT K F1 a vs) (ha : DpAll K F1 vs ds) : JOk K F1 (Itt K a) ds := by
  intro i F' H' s s'
  have h' : SqT K H' a vs := same_t (s.trans s') hs
  refine ⟨fun h => ⟨vs, h', by rw [ha.length]; exact h⟩, fun d hd => ?_⟩
  obtain ⟨v, hv, dp⟩ := ha.get hd
  refine ⟨⟨vs, v, h', hv⟩, fun x H'' y => .inl ⟨y.1, ?_⟩⟩
  have := y.2 vs h'
  rw [hv] at this
  cases this
  exact dpm s _ _ dp
theorem j_str {z : Str} : JOk K F1 (Its z) (signsD z) := by
  intro i F' H' s s'
  refine ⟨fun h => ?_, fun d hd => ?_⟩
  · have : z.cps.size ≤ i := by simpa [signsD] using h
    exact this
  · unfold signsD at hd
    rw [List.getElem?_map] at hd
    cases e : z.cps.toList[i]? with
    | none => rw [e] at hd; cases hd
    | some c =>
      rw [e] at hd
      cases hd
      have hi : i < z.cps.size := by
        have := (List.getElem?_eq_some_iff.mp e).1
        simpa using this
      refine ⟨hi, fun x H'' y => .inl ⟨y.1, ?_⟩⟩
      obtain ⟨_, c', e', rfl⟩ := y
      have : c' = c := by
        have e2 : z.cps[i]? = some c := by rw [← Array.getElem?_toList]; exact e
        rw [e'] at e2
        exact Option.some.inj e2
      subst this
      exact .str _
theorem j_rng {lo : Int} {n : Nat} : JOk K F1 (Itr lo n) (rng lo n) := by
  intro i F' H' s s'
  refine ⟨fun h => ?_, fun d hd => ?_⟩
  · have : n ≤ i := by simpa [rng] using h
    exact this
  · unfold rng at hd
    rw [List.getElem?_map] at hd
    cases e : (List.range n)[i]? with
    | none => rw [e] at hd; cases hd
    | some c =>
      rw [e] at hd
      cases hd
      obtain ⟨h1, h2⟩ := List.getElem?_eq_some_iff.mp e
      have h1' : i < n := by simpa using h1
      have : c = i := by rw [← h2]; simp
      subst this
      refine ⟨h1', fun x H'' y => .inl ⟨y.1, ?_⟩⟩
      obtain ⟨_, rfl⟩ := y
      exact .int _
theorem di_list (ha : DE X a wa) : DI X tg a (wIter wa) := by
  obtain ⟨⟨t, p, r⟩⟩ := ha
  refine ⟨⟨_, pi_list p, fun σ H F ρ fr Q R S h k => ?_⟩⟩
  refine r σ H F ρ fr _ _ S h fun v H1 F1 ρ1 r1 m a b c k1 => ?_
  obtain ⟨y, ρ2, F2, a, dp, s, S2⟩ := frz_ok c b (fun a => by unfold padd; omega) a
  have S2' : SI X.K F2 H1 σ ρ2 fr := S2.less fun a => by unfold padd; omega
  split at a
  · cases dp with
    | lst hs ha => exact ⟨_, rfl, ⟨_, S2'.ex.seq hs⟩, k _ H1 F2 ρ2 _ a S2' (k1.trans (Kp.ofF s)) (j_list hs ha)⟩
  · exact a.elim
theorem di_tup (ha : DE X a wa) : DI X tg a (wIterT wa) := by
  obtain ⟨⟨t, p, r⟩⟩ := ha
  refine ⟨⟨_, pi_tup p, fun σ H F ρ fr Q R S h k => ?_⟩⟩
  refine r σ H F ρ fr _ _ S h fun v H1 F1 ρ1 r1 m a b c k1 => ?_
  obtain ⟨y, ρ2, F2, a, dp, s, S2⟩ := frz_ok c b (fun a => by unfold padd; omega) a
  have S2' : SI X.K F2 H1 σ ρ2 fr := S2.less fun a => by unfold padd; omega
  split at a
  · cases dp with
    | tup hs ha => exact ⟨_, rfl, ⟨_, same_t S2'.ex hs⟩, k _ H1 F2 ρ2 _ a S2' (k1.trans (Kp.ofF s)) (j_tup hs ha)⟩
  · exact a.elim
theorem di_str (ha : DE X a wa) : DI X tg a (wIterS wa) := by
  obtain ⟨⟨t, p, r⟩⟩ := ha
  refine ⟨⟨_, pi_str p, fun σ H F ρ fr Q R S h k => ?_⟩⟩
  refine r σ H F ρ fr _ _ S h fun v H1 F1 ρ1 r1 m a b c k1 => ?_
  obtain ⟨y, ρ2, F2, a, dp, s, S2⟩ := frz_ok c b (fun a => by unfold padd; omega) a
  have S2' : SI X.K F2 H1 σ ρ2 fr := S2.less fun a => by unfold padd; omega
  split at a
  · cases dp
    exact ⟨_, rfl, k _ H1 F2 ρ2 _ a S2' (k1.trans (Kp.ofF s)) j_str⟩
  · exact a.elim
theorem di_rng1 (hg : Gl X "range") (hm : X.mg "range" = none) (ha : DA X [a] ws) (hs : starEach [a] X.env = [(false, eval a X.env)] := by rfl) : DI X tg (.Call (.Name "range" p) [a] [] pos) (wRng1 ws) := by
  obtain ⟨⟨t, p, r⟩⟩ := ha
  refine ⟨⟨_, pi_range1 hg hm p hs, fun σ H F ρ fr Q R S h k => ?_⟩⟩
  refine r σ H F ρ fr _ _ S h fun vs H1 F1 ρ1 rs m hw o S1 k1 => ?_
  obtain ⟨ds, h1, h2⟩ := dats_ok S1 o hw
  split at h2
  · cases h1 with
    | cons a b =>
      cases a
      cases b
      exact ⟨_, rfl, h2.1.1, h2.1.2, k _ H1 F1 ρ1 _ h2.2 S1.left k1 j_rng⟩
  · exact h2.elim
theorem di_rng2 (hg : Gl X "range") (hm : X.mg "range" = none) (ha : DA X [a, b] ws) (hs : starEach [a, b] X.env = [(false, eval a X.env), (false, eval b X.env)] := by rfl) (hs2 : starEach [b] X.env = [(false, eval b X.env)] := by rfl) : DI X tg (.Call (.Name "range" p) [a, b] [] pos) (wRng2 ws) := by
  obtain ⟨⟨t, p, r⟩⟩ := ha
  refine ⟨⟨_, pi_range2 hg hm p hs hs2, fun σ H F ρ fr Q R S h k => ?_⟩⟩
  refine r σ H F ρ fr _ _ S h fun vs H1 F1 ρ1 rs m hw o S1 k1 => ?_
  obtain ⟨ds, h1, h2⟩ := dats_ok S1 o hw
  split at h2
  · cases h1 with
    | cons a b =>
      cases a
      cases b with
      | cons a b =>
        cases a
        cases b
        exact ⟨_, _, rfl, h2.1, k _ H1 F1 ρ1 _ h2.2 S1.left k1 j_rng⟩
  · exact h2.elim
end
end DL

namespace DL
open PySem PySem.Spec PyProof.Rows L2

/-! ### what a def promises, over data -/
inductive OwnTs (K : PySem.W.Frag) (F H : Hp) : List OT → List V → Fp → Prop
  | nil : OwnTs K F H [] [] z0
  | cons {t : OT} {v : V} {m n : Fp} {ts : List OT} {vs : List V} : OwnT K F H t v m → OwnTs K F H ts vs n → OwnTs K F H (t :: ts) (v :: vs) (padd m n)
abbrev FS := List OT → (OT → List OT → Prop) → Prop
structure FreeOk (F H : Hp) (m : Fp) : Prop where
  ok : ∀ a, m a ≤ 1 ∧ (m a ≠ 0 → F a = none ∧ H a ≠ none)
structure CallEnd (K : PySem.W.Frag) (F H : Hp) (m : Fp) (F' H' : Hp) (n : Fp) : Prop where
  sF : Same F F'
  ex : Same F' H'
  ok : ∀ a, n a ≤ 1 ∧ (n a ≠ 0 → F' a = none ∧ H' a ≠ none)
  keep : ∀ a, H a ≠ none → F a = none → m a = 0 → H' a = H a ∧ n a = 0 ∧ F' a = none
  grow : ∀ a, H a ≠ none → H' a ≠ none
def spD (K : PySem.W.Frag) (np : Nat) (φ : FS) : Sp := fun vs H Q _ => vs.length = np ∧ ∃ F ts m, Same F H ∧ OwnTs K F H ts vs m ∧ FreeOk F H m ∧
  ∃ Q0, φ ts Q0 ∧ ∀ r ts', Q0 r ts' → ∀ v H' F' mv m', OwnT K F' H' r v mv → OwnTs K F' H' ts' vs m' → CallEnd K F H m F' H' (padd mv m') → Q v H'
theorem OwnTs.kp {K : PySem.W.Frag} {F H F' H' : Hp} {ts : List OT} {vs : List V} {m : Fp} (o : OwnTs K F H ts vs m) (e : Same F F') (h : ∀ a, m a ≠ 0 → H' a = H a) : OwnTs K F' H' ts vs m := by
  induction o with
  | nil => exact .nil
  | cons ht _ ih => exact .cons (ht.kp e fun a q => h a (by unfold padd; omega)) (ih fun a q => h a (by unfold padd; omega))
theorem own_fz {K : PySem.W.Frag} {F H : Hp} {v : V} {d : PyData} (h : Dp K F v d) : OwnT K F H (.fz d) v z0 := ⟨h, rfl⟩
theorem own_vv {K : PySem.W.Frag} {F H : Hp} {u v : V} (h : v = u) : OwnT K F H (.vv u) v z0 := ⟨h, rfl⟩
theorem own_exc {K : PySem.W.Frag} {F H : Hp} {n : Str} {y : Option (Str × PyData)} {v : V} (h : ExcT K F n y v) : OwnT K F H (.exc n y) v z0 := ⟨h, rfl⟩
theorem own_fx {K : PySem.W.Frag} {F H : Hp} {t : DD} {v : V} (h : FxT K F t v) : OwnT K F H (.fx t) v z0 := ⟨h, rfl⟩
theorem own_lst {K : PySem.W.Frag} {F H : Hp} {p : Addr} {vs : List V} {ds : List PyData} {m : Fp} (h : H p = some (.lst vs)) (a : DpAll K F vs ds) (e : m = one p) : OwnT K F H (.lst p ds) (.ref p) m := ⟨vs, rfl, h, a, e⟩
/-! the start of a def's body -/
def startR (n : Nat) (ts : List OT) : Rho := ts.map some ++ List.replicate (n - ts.length) none
theorem ownS_none {K : PySem.W.Frag} {F H : Hp} : ∀ n : Nat, OwnS K F H (List.replicate n none) (List.replicate n none) z0
  | 0 => .nil
  | n + 1 => by rw [List.replicate_succ, List.replicate_succ]; exact .un (ownS_none n)
theorem OwnTs.len {K : PySem.W.Frag} {F H : Hp} {ts : List OT} {vs : List V} {m : Fp} (o : OwnTs K F H ts vs m) : vs.length = ts.length := by
  induction o with
  | nil => rfl
  | cons _ _ ih => simp [ih]
theorem OwnTs.start {K : PySem.W.Frag} {F H : Hp} {ts : List OT} {vs : List V} {m : Fp} (o : OwnTs K F H ts vs m) (k : Nat) : OwnS K F H (ts.map some ++ List.replicate k none) (vs.map some ++ List.replicate k none) m := by
  induction o with
  | nil => exact ownS_none k
  | cons h _ ih => exact .sm h ih
/-- the arguments behind the body: own lists as they stand, frozen things as they were -/
def backs : List OT → Rho → (List OT → Prop) → Prop
  | [], _, k => k []
  | .lst p _ :: ts, some (.lst q ds) :: ρ, k => p = q ∧ backs ts ρ fun ts' => k (.lst q ds :: ts')
  | .fz d :: ts, _ :: ρ, k => backs ts ρ fun ts' => k (.fz d :: ts')
  | .vv v :: ts, _ :: ρ, k => backs ts ρ fun ts' => k (.vv v :: ts')
  | .exc n y :: ts, _ :: ρ, k => backs ts ρ fun ts' => k (.exc n y :: ts')
  | .fx d :: ts, _ :: ρ, k => backs ts ρ fun ts' => k (.fx d :: ts')
  | _, _, _ => False
theorem backs_ok {K : PySem.W.Frag} {F H F' H' : Hp} (s : Same F F') : ∀ {ts : List OT} {vs : List V} {m : Fp} {ρ : Rho} {σ : Sg} {n : Fp} {k : List OT → Prop}, OwnTs K F H ts vs m → OwnS K F' H' ρ σ n → backs ts ρ k →
    ∃ ts' m', OwnTs K F' H' ts' vs m' ∧ (∀ a, m' a ≤ n a) ∧ k ts'
  | _, _, _, ρ, σ, n, k, .nil, _, h => ⟨[], z0, .nil, fun a => Nat.zero_le _, h⟩
  | .fz d :: ts, _, _, x :: ρ, _, n, k, .cons o os, w, h => by
    have h' : backs ts ρ fun ts' => k (.fz d :: ts') := by cases x with
      | none => exact h
      | some t => cases t <;> exact h
    cases w with
    | un w =>
      obtain ⟨ts', m', a, b, c⟩ := backs_ok s os w h'
      exact ⟨_, padd z0 m', .cons (own_fz (dpm s _ _ o.1)) a, fun x => by unfold padd z0; have := b x; omega, c⟩
    | sm _ w =>
      obtain ⟨ts', m', a, b, c⟩ := backs_ok s os w h'
      exact ⟨_, padd z0 m', .cons (own_fz (dpm s _ _ o.1)) a, fun x => by unfold padd z0; have := b x; omega, c⟩
  | .vv d :: ts, _, _, x :: ρ, _, n, k, .cons o os, w, h => by
    have h' : backs ts ρ fun ts' => k (.vv d :: ts') := by cases x with
      | none => exact h
      | some t => cases t <;> exact h
    cases w with
    | un w =>
      obtain ⟨ts', m', a, b, c⟩ := backs_ok s os w h'
      exact ⟨_, padd z0 m', .cons (own_vv o.1) a, fun x => by unfold padd z0; have := b x; omega, c⟩
    | sm _ w =>
      obtain ⟨ts', m', a, b, c⟩ := backs_ok s os w h'
      exact ⟨_, padd z0 m', .cons (own_vv o.1) a, fun x => by unfold padd z0; have := b x; omega, c⟩
  | .exc d y :: ts, _, _, x :: ρ, _, n, k, .cons o os, w, h => by
    have h' : backs ts ρ fun ts' => k (.exc d y :: ts') := by cases x with
      | none => exact h
      | some t => cases t <;> exact h
    cases w with
    | un w =>
      obtain ⟨ts', m', a, b, c⟩ := backs_ok s os w h'
      exact ⟨_, padd z0 m', .cons (own_exc (o.1.kp s)) a, fun x => by unfold padd z0; have := b x; omega, c⟩
    | sm _ w =>
      obtain ⟨ts', m', a, b, c⟩ := backs_ok s os w h'
      exact ⟨_, padd z0 m', .cons (own_exc (o.1.kp s)) a, fun x => by unfold padd z0; have := b x; omega, c⟩
  | .fx d :: ts, _, _, x :: ρ, _, n, k, .cons o os, w, h => by
    have h' : backs ts ρ fun ts' => k (.fx d :: ts') := by cases x with
      | none => exact h
      | some t => cases t <;> exact h
    cases w with
    | un w =>
      obtain ⟨ts', m', a, b, c⟩ := backs_ok s os w h'
      exact ⟨_, padd z0 m', .cons (own_fx (o.1.kp s)) a, fun x => by unfold padd z0; have := b x; omega, c⟩
    | sm _ w =>
      obtain ⟨ts', m', a, b, c⟩ := backs_ok s os w h'
      exact ⟨_, padd z0 m', .cons (own_fx (o.1.kp s)) a, fun x => by unfold padd z0; have := b x; omega, c⟩
  | .lst p es :: ts, _, _, some (.lst q ds) :: ρ, _, n, k, .cons o os, w, h => by
    obtain ⟨rfl, h⟩ := h
    cases w with
    | sm w0 w =>
      obtain ⟨ts', m', a, b, c⟩ := backs_ok s os w h
      obtain ⟨vs, rfl, _⟩ := o
      obtain ⟨vs', rfl, e1, e2, e3⟩ := w0
      exact ⟨_, padd _ m', .cons (own_lst e1 e2 e3) a, fun x => by unfold padd; have := b x; omega, c⟩
  | .lst _ _ :: _, _, _, [], _, _, _, _, _, h => by cases h
  | .lst _ _ :: _, _, _, none :: _, _, _, _, _, _, h => by cases h
  | .lst _ _ :: _, _, _, some (.fz _) :: _, _, _, _, _, _, h => by cases h
  | .lst _ _ :: _, _, _, some (.lls _ _) :: _, _, _, _, _, _, h => by cases h
  | .lst _ _ :: _, _, _, some (.vv _) :: _, _, _, _, _, _, h => by cases h
  | .lst _ _ :: _, _, _, some (.exc _ _) :: _, _, _, _, _, _, h => by cases h
  | .lst _ _ :: _, _, _, some (.fx _) :: _, _, _, _, _, _, h => by cases h
  | .lst _ _ :: _, _, _, some (.ox _ _) :: _, _, _, _, _, _, h => by cases h
  | .fx _ :: _, _, _, [], _, _, _, _, _, h => by cases h
  | .ox _ _ :: _, _, _, [], _, _, _, _, _, h => by cases h
  | .ox _ _ :: _, _, _, _ :: _, _, _, _, _, _, h => by cases h
  | .fz _ :: _, _, _, [], _, _, _, _, _, h => by cases h
  | .vv _ :: _, _, _, [], _, _, _, _, _, h => by cases h
  | .exc _ _ :: _, _, _, [], _, _, _, _, _, h => by cases h
  | .lls _ _ :: _, _, _, [], _, _, _, _, _, h => by cases h
  | .lls _ _ :: _, _, _, _ :: _, _, _, _, _, _, h => by cases h
/-- what a return hands back -/
def outD (r : RV) (ρ : Rho) (k : OT → Rho → Prop) : Prop := match r with
  | .tm t => k t ρ
  | .sl i => frz (.sl i) ρ fun d ρ2 => k (.fz d) ρ2
def endsF (n : Nat) (ts : List OT) (Q : OT → List OT → Prop) : DEnds where
  nx := fun ρ => backs ts ρ fun ts' => Q (.fz .none) ts'
  rt := fun r ρ => outD r ρ fun t ρ' => backs ts ρ' fun ts' => Q t ts'
def frO (F H : Hp) (m : Fp) : Fp := fun a => if (H a).isSome && (F a).isNone && decide (m a = 0) then 1 else 0
theorem frO_one {F H : Hp} {m : Fp} {a : Addr} (h1 : H a ≠ none) (h2 : F a = none) (h3 : m a = 0) : frO F H m a = 1 := by
  unfold frO
  have i1 : (H a).isSome = true := by cases e : H a with
    | none => exact absurd e h1
    | some _ => rfl
  rw [i1, h2, h3]
  rfl
theorem frO_cases (F H : Hp) (m : Fp) (a : Addr) : frO F H m a = 0 ∨ (frO F H m a = 1 ∧ H a ≠ none ∧ F a = none ∧ m a = 0) := by
  unfold frO
  cases e1 : H a with
  | none => exact .inl rfl
  | some o =>
    cases e2 : F a with
    | some _ => exact .inl rfl
    | none =>
      by_cases h : m a = 0
      · exact .inr ⟨by rw [h]; rfl, by simp, rfl, h⟩
      · exact .inl (by simp [h])
/-- THE RULE for a def -/
theorem fnD {P : Program} {w : World} {K : PySem.W.Frag} {mg : Str → Option Value} {base : Heap} {x qual : Str} {st : Stmt} {f : Addr} {fd : FuncData} {N ps : List Str} {k : Nat} {φ : FS} (F : Fun K x qual st f fd) (S : FnScope N ps (defScope st))
    (h : ∀ (cdv : Value) (A : Around) (outer : List Env) (s : Shared) (H : Hp) (E : XK), Room k (A.deeper (envOfC qual (defScope st) s.heap.objs.size f cdv)) →
      ∃ w', DSs (cxOf CX0 P w K mg base N qual (defScope st) f cdv A outer s H E).nox (defBody st) w' ∧ ∀ ts Q, ts.length = ps.length → φ ts Q → w' (endsF N.length ts Q) (startR N.length ts)) :
    FnOk P w K mg base CX0 (k + 1) f fd ps (spD K ps.length φ) := by
  refine F.ok S (fun vs H Q E h => h.1) (fun cdv A outer s H vs Q E hr hs => ?_)
  obtain ⟨w', ⟨⟨t, p, r⟩⟩, hw⟩ := h cdv A outer s H E hr
  refine ⟨t, p, ?_⟩
  obtain ⟨hl, F0, ts, m, sF, ow, fo, Q0, hφ, hQ0⟩ := hs
  have el := ow.len
  have e2 : start N vs = vs.map some ++ List.replicate (N.length - vs.length) none := rfl
  have e3 : startR N.length ts = ts.map some ++ List.replicate (N.length - vs.length) none := by unfold startR; rw [el]
  have hst : OwnS K F0 H (startR N.length ts) (start N vs) m := by rw [e2, e3]; exact ow.start _
  have fin : ∀ (v : V) (H' F' : Hp) (t : OT) (mv n : Fp) (ρ' : Rho) (σ' : Sg), OwnT K F' H' t v mv → OwnS K F' H' ρ' σ' n → Same F' H' → (∀ a, n a + (padd (frO F0 H m) mv) a ≤ 1 ∧ (n a + (padd (frO F0 H m) mv) a ≠ 0 → F' a = none ∧ H' a ≠ none)) →
      Kp F0 H (frO F0 H m) F' H' → (backs ts ρ' fun ts' => Q0 t ts') → Q v H' := by
    intro v H' F' t mv n ρ' σ' o1 o2 ex q kp hb
    obtain ⟨ts', m', a, b, c⟩ := backs_ok kp.exF ow o2 hb
    refine hQ0 _ _ c v H' F' mv m' o1 a ⟨kp.exF, ex, fun a => ?_, fun a h1 h2 h3 => ?_, kp.grow⟩
    · obtain ⟨q1, q2⟩ := q a
      have := b a
      unfold padd at q1 q2 ⊢
      exact ⟨by omega, fun z => q2 (by omega)⟩
    · have e1 := frO_one h1 h2 h3
      obtain ⟨q1, q2⟩ := q a
      have := b a
      unfold padd at q1 q2 ⊢
      rw [e1] at q1 q2
      exact ⟨kp.keep a (by rw [e1]; decide), by omega, (q2 (by omega)).1⟩
  refine r (start N vs) H F0 (startR N.length ts) (frO F0 H m) (endsF N.length ts Q0) _ ⟨sF, m, hst, fun a => ?_⟩ ⟨fun σ' H' F' ρ' a b c => ?_, fun _ _ _ _ a => a.elim, fun _ _ _ _ a => a.elim, fun v H' F' σ' ρ' r m1 a b c kp => ?_⟩ (hw ts Q0 (by rw [← el, hl]) hφ)
  · obtain ⟨q1, q2⟩ := fo.ok a
    rcases frO_cases F0 H m a with e | ⟨e, e1, e2, e3⟩
    · rw [e]; exact ⟨by omega, fun z => q2 (by omega)⟩
    · rw [e]; exact ⟨by omega, fun _ => ⟨e2, e1⟩⟩
  · obtain ⟨n, o2, q⟩ := b.own
    exact fin .non H' F' (.fz .none) z0 n ρ' σ' ⟨.non, rfl⟩ o2 b.ex q c a
  · have a' : outD r ρ' fun t ρ' => backs ts ρ' fun ts' => Q0 t ts' := a
    cases r with
    | tm t =>
      obtain ⟨n, o2, q⟩ := c.own
      exact fin v H' F' t m1 n ρ' σ' b o2 c.ex q kp a'
    | sl i =>
      obtain ⟨d, ρ2, F2, a2, dp, s, S2⟩ := frz_ok (r := .sl i) (k := fun d ρ' => backs ts ρ' fun ts' => Q0 (.fz d) ts') c b (fun a => by unfold padd; omega) a'
      obtain ⟨n, o2, q⟩ := S2.own
      refine fin v H' F2 (.fz d) z0 n ρ2 σ' ⟨dp, rfl⟩ o2 S2.ex (fun a => ?_) (kp.trans (Kp.ofF s)) a2
      obtain ⟨q1, q2⟩ := q a
      have hm : m1 a = 0 := by rw [b.1]; rfl
      unfold padd at q1 q2 ⊢
      show _ + (_ + 0) ≤ 1 ∧ (_ + (_ + 0) ≠ 0 → _)
      exact ⟨by omega, fun z => q2 (by omega)⟩

/-! ### calls -/
def frzV (r : RV) (ρ : Rho) (k : OT → Rho → Prop) : Prop := match r with
  | .tm (.vv v) => k (.vv v) ρ
  | .tm (.exc n y) => k (.exc n y) ρ
  | .tm (.fx t) => k (.fx t) ρ
  | r => frz r ρ fun d ρ1 => k (.fz d) ρ1
/-- bs: which arguments are handed over as own lists -/
def argsD : List Bool → List RV → Rho → (List OT → List (Option Nat) → Rho → Prop) → Prop
  | _, [], ρ, k => k [] [] ρ
  | true :: bs, .sl i :: rs, ρ, k => (match look ρ i with
    | some t => argsD bs rs (ρ.set i none) fun ts is ρ' => k (t :: ts) (some i :: is) ρ'
    | none => False)
  | bs, r :: rs, ρ, k => frzV r ρ fun t ρ1 => argsD bs.tail rs ρ1 fun ts is ρ' => k (t :: ts) (none :: is) ρ'
def putB : List (Option Nat) → List OT → Rho → Rho
  | some i :: is, t :: ts, ρ => putB is ts (ρ.set i (some t))
  | none :: is, _ :: ts, ρ => putB is ts ρ
  | _, _, ρ => ρ
def wCall (np : Nat) (bs : List Bool) (φ : FS) (ws : WA) : WE := fun ρ Q => ws ρ fun rs ρ1 => bmt (decide (rs.length = np)) (argsD bs rs ρ1 fun ts is ρ2 => φ ts fun r ts' => Q (.tm r) (putB is ts' ρ2)) False
inductive Als (σ : Sg) : List (Option Nat) → List V → Prop
  | nil : Als σ [] []
  | no {is : List (Option Nat)} {vs : List V} {v : V} : Als σ is vs → Als σ (none :: is) (v :: vs)
  | yes {is : List (Option Nat)} {vs : List V} {v : V} {i : Nat} : σ[i]? = some (some v) → Als σ is vs → Als σ (some i :: is) (v :: vs)
section
variable {K : PySem.W.Frag} {F H : Hp} {σ : Sg}
theorem set_self {i : Nat} {v : V} (h : σ[i]? = some (some v)) : σ.set i (some v) = σ := by
  apply List.ext_getElem?
  intro j
  by_cases hj : i = j
  · subst hj
    rw [List.getElem?_set_self (List.getElem?_eq_some_iff.mp h).1, h]
  · rw [List.getElem?_set_ne hj]
theorem frzV_ok {ρ : Rho} {fr m : Fp} {r : RV} {v : V} {k : OT → Rho → Prop} (S : SI K F H σ ρ fr) (o : RVok K F H σ r v m) (hm : ∀ a, m a ≤ fr a) (h : frzV r ρ k) :
    ∃ t ρ' F', k t ρ' ∧ OwnT K F' H t v z0 ∧ Same F F' ∧ SI K F' H σ ρ' (fun a => fr a - m a) := by
  unfold frzV at h
  split at h
  · exact ⟨_, ρ, F, h, ⟨o.1, rfl⟩, Same.refl _, S.less fun a => Nat.sub_le _ _⟩
  · exact ⟨_, ρ, F, h, own_exc o.1, Same.refl _, S.less fun a => Nat.sub_le _ _⟩
  · exact ⟨_, ρ, F, h, own_fx o.1, Same.refl _, S.less fun a => Nat.sub_le _ _⟩
  · obtain ⟨d, ρ', F', a, dp, s, S'⟩ := frz_ok S o hm h
    exact ⟨.fz d, ρ', F', a, ⟨dp, rfl⟩, s, S'⟩
theorem argsD_nil {bs : List Bool} {ρ : Rho} {k : List OT → List (Option Nat) → Rho → Prop} (h : argsD bs [] ρ k) : k [] [] ρ := by
  cases bs with
  | nil => exact h
  | cons b bs => cases b <;> exact h
theorem argsD_cons {bs : List Bool} {r : RV} {rs : List RV} {ρ : Rho} {k : List OT → List (Option Nat) → Rho → Prop} (h : argsD bs (r :: rs) ρ k) :
    (∃ i t, r = .sl i ∧ look ρ i = some t ∧ argsD bs.tail rs (ρ.set i none) fun ts is ρ' => k (t :: ts) (some i :: is) ρ') ∨ (frzV r ρ fun t ρ1 => argsD bs.tail rs ρ1 fun ts is ρ' => k (t :: ts) (none :: is) ρ') := by
  cases bs with
  | nil => refine .inr ?_; cases r <;> exact h
  | cons b bs =>
    cases b with
    | false => refine .inr ?_; cases r <;> exact h
    | true =>
      cases r with
      | tm t => exact .inr h
      | sl i =>
        have h' : (match look ρ i with
          | some t => argsD bs rs (ρ.set i none) fun ts is ρ' => k (t :: ts) (some i :: is) ρ'
          | none => False) := h
        cases e : look ρ i with
        | none => rw [e] at h'; exact h'.elim
        | some t => rw [e] at h'; exact .inl ⟨i, t, rfl, e, h'⟩
theorem argsD_ok : ∀ {rs : List RV} {bs : List Bool} {vs : List V} {F : Hp} {ρ : Rho} {fr m : Fp} {k : List OT → List (Option Nat) → Rho → Prop}, SI K F H σ ρ (padd fr m) → RVsOk K F H σ rs vs m → argsD bs rs ρ k →
    ∃ ts is ρ' F' n, k ts is ρ' ∧ OwnTs K F' H ts vs n ∧ Same F F' ∧ SI K F' H σ ρ' (padd fr n) ∧ Als σ is vs := by
  intro rs
  induction rs with
  | nil =>
    intro bs vs F ρ fr m k S o h
    cases o
    exact ⟨[], [], ρ, F, z0, argsD_nil h, .nil, Same.refl _, S, .nil⟩
  | cons r rs ih =>
    intro bs vs F ρ fr m k S o h
    cases o with
    | @cons _ v m n _ vs o os =>
    rcases argsD_cons h with ⟨i, t, rfl, hl, h⟩ | h
    · obtain ⟨rfl, hv⟩ := o
      obtain ⟨m0, ow, q⟩ := S.own
      obtain ⟨m1, m2, em, h1, _, _, h2, _⟩ := ow.at (look_lt hl)
      obtain ⟨v', e1, o1⟩ := h1 t hl
      rw [hv] at e1
      cases e1
      have S1 : SI K F H σ (ρ.set i none) (padd (padd fr m1) n) := ⟨S.ex, m2, h2, fun a => by
        have := q a
        rw [em] at this
        unfold padd at this ⊢
        have hz : z0 a = 0 := rfl
        simp only [hz] at this
        exact ⟨by omega, fun z => this.2 (by omega)⟩⟩
      obtain ⟨ts, is, ρ', F', n', a, b, c, d, e⟩ := ih S1 os h
      refine ⟨t :: ts, some i :: is, ρ', F', padd m1 n', a, .cons (o1.kp c fun _ _ => rfl) b, c, ?_, .yes hv e⟩
      rw [← padd_assoc]
      exact d
    · obtain ⟨t, ρ1, F1, a, ot, s, S1⟩ := frzV_ok S o (fun a => by unfold padd; omega) h
      have os' : RVsOk K F1 H σ rs vs n := os.kp (fr := z0) ⟨s, fun _ _ => rfl, fun _ z => z⟩
      have S1' : SI K F1 H σ ρ1 (padd fr n) := S1.less fun a => by unfold padd; omega
      obtain ⟨ts, is, ρ', F', n', a, b, c, d, e⟩ := ih S1' os' a
      exact ⟨t :: ts, none :: is, ρ', F', padd z0 n', a, .cons (ot.kp c fun _ _ => rfl) b, s.trans c, by rw [z_padd]; exact d, .no e⟩
theorem putB_ok : ∀ {is : List (Option Nat)} {ts : List OT} {vs : List V} {ρ : Rho} {m n : Fp}, Als σ is vs → OwnTs K F H ts vs m → OwnS K F H ρ σ n → ∃ n', OwnS K F H (putB is ts ρ) σ n' ∧ ∀ a, n' a ≤ m a + n a := by
  intro is
  induction is with
  | nil => intro ts vs ρ m n a o w; exact ⟨n, w, fun x => Nat.le_add_left _ _⟩
  | cons i is ih =>
    intro ts vs ρ m n a o w
    cases a with
    | no a =>
      cases o with
      | cons o os =>
        obtain ⟨n', h1, h2⟩ := ih a os w
        exact ⟨n', h1, fun x => by have := h2 x; unfold padd; omega⟩
    | @yes _ _ v i hv a =>
      cases o with
      | @cons t _ m n2 ts _ o os =>
        by_cases hi : i < ρ.length
        · obtain ⟨m1, m2, em, _, _, _, _, h3⟩ := w.at hi
          obtain ⟨m3, w3, e3⟩ := h3 t v m o
          rw [set_self hv] at w3
          obtain ⟨n', h1, h2⟩ := ih a os w3
          refine ⟨n', h1, fun x => ?_⟩
          have := h2 x
          have := e3 x
          rw [em]
          unfold padd
          omega
        · obtain ⟨n', h1, h2⟩ := ih a os w
          refine ⟨n', ?_, fun x => by have := h2 x; unfold padd; omega⟩
          show OwnS K F H (putB is ts (ρ.set i (some t))) σ n'
          rw [List.set_eq_of_length_le (by omega)]
          exact h1
end
section
variable {X : Cx} {k np : Nat} {f : Addr} {fd : FuncData} {ps : List Str} {φ : FS} {x : Str} {p pos : Pos} {e : Expr} {es : List Expr} {ws : WA} {bs : List Bool}
theorem RVsOk.len {K : PySem.W.Frag} {F H : Hp} {σ : Sg} {rs : List RV} {vs : List V} {m : Fp} (o : RVsOk K F H σ rs vs m) : vs.length = rs.length := by
  induction o with
  | nil => rfl
  | cons _ _ ih => simp [ih]
theorem call_run {K : PySem.W.Frag} {t : TA} (ra : ∀ (σ : Sg) (H F : Hp) (ρ : Rho) (fr : Fp) (Q : List RV → Rho → Prop) (Q' : List V → Hp → Prop), SI K F H σ ρ fr → ws ρ Q →
    (∀ vs H' F' ρ' rs m, Q rs ρ' → RVsOk K F' H' σ rs vs m → SI K F' H' σ ρ' (padd fr m) → Kp F H fr F' H' → Q' vs H') → t σ H Q') : RE K (tCall (spD K np φ) [] E0 t) (wCall np bs φ ws) := by
  intro σ H F ρ fr Q Q' S hw k
  refine ra σ H F ρ fr _ _ S hw fun vs H1 F1 ρ1 rs m hw o S1 k1 => ?_
  obtain ⟨hl, hw⟩ := bmt_and hw
  obtain ⟨ts, is, ρ2, F2, n, hw, ot, s, S2, al⟩ := argsD_ok S1 o hw
  rw [List.append_nil]
  obtain ⟨m2, w2, q⟩ := S2.own
  refine ⟨o.len.trans hl, F2, ts, n, S2.ex, ot, ⟨fun a => ?_⟩, _, hw, ?_⟩
  · obtain ⟨q1, q2⟩ := q a
    unfold padd at q1 q2
    exact ⟨by omega, fun z => q2 (by omega)⟩
  · -- behind the call
    intro r ts' hq v H' F' mv m' o1 o2 ce
    have w3 : OwnS K F' H' ρ2 σ m2 := w2.kp ce.sF fun a z => by
      obtain ⟨q1, q2⟩ := q a
      obtain ⟨e1, e2⟩ := q2 (by unfold padd; omega)
      unfold padd at q1
      exact (ce.keep a e2 e1 (by omega)).1
    obtain ⟨m4, w4, e4⟩ := putB_ok al o2 w3
    have S4 : SI K F' H' σ (putB is ts' ρ2) (padd fr mv) := by
      refine ⟨ce.ex, m4, w4, fun a => ?_⟩
      obtain ⟨q1, q2⟩ := q a
      obtain ⟨c1, c2⟩ := ce.ok a
      have e4 := e4 a
      unfold padd at q1 q2 c1 c2 ⊢
      by_cases hz : m2 a + fr a = 0
      · exact ⟨by omega, fun z => c2 (by omega)⟩
      · obtain ⟨e1, e2⟩ := q2 (by omega)
        have ck := ce.keep a e2 e1 (by omega)
        unfold padd at ck
        obtain ⟨k1, k2, k3⟩ := ck
        exact ⟨by omega, fun _ => ⟨k3, by rw [k1]; exact e2⟩⟩
    refine k v H' F' _ (.tm r) mv hq o1 S4 ((k1.trans (Kp.ofF s)).trans ⟨ce.sF, fun a z => ?_, ce.grow⟩)
    obtain ⟨q1, q2⟩ := q a
    obtain ⟨e1, e2⟩ := q2 (by unfold padd; omega)
    unfold padd at q1
    exact (ce.keep a e2 e1 (by omega)).1
end
end DL

namespace DL
open PySem PySem.Spec PyProof.Rows L2
section
variable {X : Cx} {k np : Nat} {f : Addr} {fd : FuncData} {ps : List Str} {φ : FS} {x : Str} {p pos : Pos} {e : Expr} {es : List Expr} {ws : WA} {bs : List Bool}
theorem de_call (F : FnOk X.prog X.w X.K X.mg X.base CX0 k f fd ps (spD X.K np φ)) (hr : Room k X.A) (hg : Gl X x) (hm : X.mg x = some (.ref f)) (hk : PySem.W.keepIn X.K (.ref f) = true) (hb : Binds X.K fd ps []) (bs : List Bool)
    (ha : DA X (e :: es) ws) (hdb : (x == ("__debug__" : Str)) = false := by decide) (he : starEach (e :: es) X.env = (false, eval e X.env) :: starEach es X.env := by rfl) (hpl : (backTo pos (starEach es X.env)).any (·.1) = false := by rfl) :
    DE X (.Call (.Name x p) (e :: es) [] pos) (wCall np bs φ ws) := by
  obtain ⟨⟨t, pa, ra⟩⟩ := ha
  exact ⟨⟨_, pe_call F hr hg hm hk hb .nil pass0 pa hdb he hpl, call_run ra⟩⟩
end

/-! ### comprehensions -/
def wipeR (ρ : Rho) : List Nat → Rho
  | [] => ρ
  | v :: vs => (wipeR ρ vs).set v none
/-- the slots vs as they stood in ρ0: nothing own -/
def still (ρ0 : Rho) : List Nat → Prop
  | [] => True
  | v :: vs => (match look ρ0 v with
    | none => True
    | some (.fz _) => True
    | some (.vv _) => True
    | some (.exc _ _) => True
    | some (.fx _) => True
    | _ => False) ∧ still ρ0 vs
def restR (ρ0 ρ : Rho) : List Nat → Rho
  | [] => ρ
  | v :: vs => restR ρ0 (ρ.set v (look ρ0 v)) vs
/-- a comprehension: I says what is made so far -/
def wLc (vs : List Nat) (wi : WI) (g : WG) (wt : WT) (we : WE) : WE := fun ρ Q => wi ρ fun xs ρ1 => still ρ1 vs ∧ ∃ I : Nat → List PyData → Rho → Prop, I 0 [] (wipeR ρ1 vs) ∧
  (∀ i x ds ρ2, xs[i]? = some x → I i ds ρ2 → g x (wipeR ρ2 vs) fun ρ3 => wt ρ3 fun b ρ4 => bmt b (we ρ4 fun r ρ5 => frz r ρ5 fun y ρ6 => ds.length < sizeLine ∧ I (i + 1) (ds ++ [y]) ρ6) (I (i + 1) ds ρ4)) ∧
  ∀ ds ρ2, I xs.length ds ρ2 → ∀ p, Q (.tm (.lst p ds)) (restR ρ1 (wipeR ρ2 vs) vs)
structure DTs (X : Cx) (ifs : List Expr) (w : WT) : Prop where
  run : ∃ t : TT, PTs X ifs t ∧ RT X.K t w
def wYes : WT := fun ρ Q => Q true ρ
section
variable {K : PySem.W.Frag} {F H : Hp} {σ : Sg} {ρ : Rho} {fr m : Fp}
theorem OwnS.unset {ρ : Rho} {m : Fp} (o : OwnS K F H ρ σ m) : ∀ (i : Nat), ∃ m', OwnS K F H (ρ.set i none) (σ.set i none) m' ∧ ∀ a, m' a ≤ m a := by
  intro i
  by_cases hi : i < ρ.length
  · obtain ⟨m1, m2, em, _, _, h2, _⟩ := o.at hi
    exact ⟨m2, h2 none, fun a => by rw [em]; unfold padd; omega⟩
  · have := o.len
    rw [List.set_eq_of_length_le (by omega), List.set_eq_of_length_le (by omega)]
    exact ⟨m, o, fun _ => Nat.le_refl _⟩
theorem OwnS.wipe (o : OwnS K F H ρ σ m) : ∀ vs : List Nat, ∃ m', OwnS K F H (wipeR ρ vs) (L2.wipe σ vs) m' ∧ ∀ a, m' a ≤ m a
  | [] => ⟨m, o, fun _ => Nat.le_refl _⟩
  | v :: vs => by
    obtain ⟨m1, o1, h1⟩ := o.wipe vs
    obtain ⟨m2, o2, h2⟩ := o1.unset v
    exact ⟨m2, o2, fun a => Nat.le_trans (h2 a) (h1 a)⟩
theorem SI.wipe (S : SI K F H σ ρ fr) (vs : List Nat) : SI K F H (L2.wipe σ vs) (wipeR ρ vs) fr := by
  obtain ⟨m, o, q⟩ := S.own
  obtain ⟨m', o', h⟩ := OwnS.wipe o vs
  refine ⟨S.ex, m', o', fun a => ?_⟩
  have := h a
  obtain ⟨q1, q2⟩ := q a
  exact ⟨by omega, fun z => q2 (by omega)⟩
/-- a wiped slot filled again with what is not own -/
theorem OwnS.fill {τ : Sg} : ∀ {ρ : Rho} {τ : Sg} {m : Fp} {i : Nat} {x : Option OT}, OwnS K F H ρ (τ.set i none) m → (x = none ∨ ∃ t u, x = some t ∧ τ[i]? = some (some u) ∧ OwnT K F H t u z0) → OwnS K F H (ρ.set i x) τ m := by
  intro ρ
  induction ρ with
  | nil =>
    intro τ m i x o h
    cases τ with
    | nil => exact o
    | cons y τ => cases i <;> cases o
  | cons r ρ ih =>
    intro τ m i x o h
    cases τ with
    | nil => cases o
    | cons y τ =>
      cases i with
      | zero =>
        rw [List.set_cons_zero] at o ⊢
        cases o with
        | un o =>
          rcases h with rfl | ⟨t, u, rfl, hu, ot⟩
          · exact .un o
          · have hy : y = some u := by simpa using hu
            subst hy
            have := OwnS.sm ot o
            rw [z_padd] at this
            exact this
      | succ i =>
        rw [List.set_cons_succ] at o ⊢
        have h' : x = none ∨ ∃ t u, x = some t ∧ τ[i]? = some (some u) ∧ OwnT K F H t u z0 := by
          rcases h with h | ⟨t, u, a, b, c⟩
          · exact .inl h
          · exact .inr ⟨t, u, a, by simpa using b, c⟩
        cases o with
        | un o => exact .un (ih o h')
        | sm a o => exact .sm a (ih o h')
/-- the wiped slots restored -/
theorem OwnS.rest {ρ0 : Rho} : ∀ {vs : List Nat} {ρ : Rho} {m : Fp}, OwnS K F H ρ (L2.wipe σ vs) m → (∀ i, i ∈ vs → look ρ0 i = none ∨ ∃ t u, look ρ0 i = some t ∧ σ[i]? = some (some u) ∧ OwnT K F H t u z0) → vs.Nodup →
    ∃ ρ', OwnS K F H ρ' σ m ∧ ρ' = restR ρ0 ρ vs := by
  intro vs
  induction vs with
  | nil => intro ρ m o h _; exact ⟨ρ, o, rfl⟩
  | cons v vs ih =>
    intro ρ m o h nd
    have hv : v ∉ vs := (List.nodup_cons.mp nd).1
    have o1 : OwnS K F H (ρ.set v (look ρ0 v)) (L2.wipe σ vs) m := by
      refine OwnS.fill (τ := L2.wipe σ vs) o ?_
      rcases h v (by simp) with e | ⟨t, u, e1, e2, e3⟩
      · exact .inl e
      · exact .inr ⟨t, u, e1, by rw [wipe_out hv]; exact e2, e3⟩
    exact ih o1 (fun i hi => h i (by simp [hi])) (List.nodup_cons.mp nd).2
theorem still_ok (S : SI K F H σ ρ fr) : ∀ {vs : List Nat}, still ρ vs → ∀ i, i ∈ vs → look ρ i = none ∨ ∃ t u, look ρ i = some t ∧ σ[i]? = some (some u) ∧ OwnT K F H t u z0
  | v :: vs, h, i, hi => by
    rcases List.mem_cons.mp hi with rfl | hi
    · cases e : look ρ i with
      | none => exact .inl rfl
      | some t =>
        obtain ⟨u, m1, e1, o⟩ := S.slot e
        have h1 := h.1
        rw [e] at h1
        refine .inr ⟨t, u, rfl, e1, ?_⟩
        cases t with
        | fz d => exact ⟨o.1, rfl⟩
        | vv v => exact ⟨o.1, rfl⟩
        | exc n y => exact ⟨o.1, rfl⟩
        | fx t => exact ⟨o.1, rfl⟩
        | ox _ _ => exact h1.elim
        | lst _ _ => exact h1.elim
        | lls _ _ => exact h1.elim
    · exact still_ok S h.2 i hi
theorem OwnT.z (o : OwnT K F H t v z0) {F' H' : Hp} (e : Same F F') : OwnT K F' H' t v z0 := o.kp e fun a z => absurd rfl z
end
section
variable {X : Cx} {elt tg iter : Expr} {ifs : List Expr} {scope : Scope} {own : List (Str × Nat)} {pos : Pos} {wi : WI} {g : WG} {wt : WT} {we : WE}
theorem dts_nil : DTs X [] wYes := ⟨⟨_, pts_nil, fun σ H F ρ fr Q Q' S h k => k true H F ρ h S Kp.refl⟩⟩
theorem dts_one {c : Expr} (h : DT X c wt) : DTs X [c] wt := let ⟨⟨t, p, r⟩⟩ := h; ⟨⟨_, pts_one p, r⟩⟩
theorem wipe_set : ∀ (vs : List Nat) (σ : Sg) (i : Nat) (v : Option V), i ∈ vs → L2.wipe (σ.set i v) vs = L2.wipe σ vs := by
  intro vs
  induction vs with
  | nil => intro σ i v h; cases h
  | cons w vs ih =>
    intro σ i v h
    show (L2.wipe (σ.set i v) vs).set w none = (L2.wipe σ vs).set w none
    by_cases hm : i ∈ vs
    · rw [ih σ i v hm]
    · have e : i = w := by
        rcases List.mem_cons.mp h with e | e
        · exact e
        · exact absurd e hm
      subst e
      have out : ∀ (vs : List Nat) (σ : Sg), i ∉ vs → L2.wipe (σ.set i v) vs = (L2.wipe σ vs).set i v := by
        intro vs
        induction vs with
        | nil => intro σ _; rfl
        | cons w vs ih =>
          intro σ h
          show (L2.wipe (σ.set i v) vs).set w none = ((L2.wipe σ vs).set w none).set i v
          rw [ih σ (fun z => h (by simp [z]))]
          exact List.set_comm _ _ (fun z => h (by simp [z]))
      rw [out vs σ hm, List.set_set]
theorem wipe_wipe : ∀ (ws vs : List Nat) (σ : Sg), (∀ i ∈ ws, i ∈ vs) → L2.wipe (L2.wipe σ ws) vs = L2.wipe σ vs := by
  intro ws
  induction ws with
  | nil => intro vs σ _; rfl
  | cons w ws ih =>
    intro vs σ hs
    show L2.wipe ((L2.wipe σ ws).set w none) vs = L2.wipe σ vs
    rw [wipe_set _ _ _ _ (hs w (by simp)), ih vs σ fun i hi => hs i (by simp [hi])]
/-- a comprehension's targets -/
structure DGW (X : Cx) (vs : List Nat) (tg : Expr) (w : WG) : Prop where
  run : ∃ t : TG, PG X tg t ∧ ∀ (σ : Sg) (H F : Hp) (ρ : Rho) (fr : Fp) (x : PyData) (v : V) (Q : Rho → Prop) (Q' : Sg → Hp → Prop), SI X.K F H σ ρ fr → Dp X.K F v x → w x ρ Q →
    (∀ σ' H' F' ρ', Q ρ' → L2.wipe σ' vs = L2.wipe σ vs → SI X.K F' H' σ' ρ' fr → Kp F H fr F' H' → Q' σ' H') → t v σ H Q'
structure DGWs (X : Cx) (vs : List Nat) (tgs : List Expr) (w : WGs) : Prop where
  run : ∃ t : TGs, PGs X tgs t ∧ ∀ (σ : Sg) (H F : Hp) (ρ : Rho) (fr : Fp) (xs : List PyData) (us : List V) (Q : Rho → Prop) (Q' : Sg → Hp → Prop), SI X.K F H σ ρ fr → DpAll X.K F us xs → w xs ρ Q →
    (∀ σ' H' F' ρ', Q ρ' → L2.wipe σ' vs = L2.wipe σ vs → SI X.K F' H' σ' ρ' fr → Kp F H fr F' H' → Q' σ' H') → t us σ H Q'
theorem dgw_name {i : Nat} {x : Str} {vs : List Nat} (hm : i ∈ vs) (hN : X.N.Nodup) (hi : X.N[i]? = some x) (hx : Loc X.env.scope x) (hf : X.fn x = true ∨ X.env.scope.names.lookup x = some .local := by first | exact .inl rfl | exact .inr rfl | assumption) : DGW X vs (.Name x pos) (gvName i) :=
  ⟨⟨_, pg_name hN hi hx hf, fun σ H F ρ fr x v Q Q' S dp h k => k _ H F _ h (wipe_set vs σ i _ hm) (S.setF dp i) Kp.refl⟩⟩
theorem dgws_nil {vs : List Nat} : DGWs X vs [] gvNil := by
  refine ⟨⟨_, pgs_nil, fun σ H F ρ fr xs us Q Q' S dp h k => ?_⟩⟩
  cases dp with
  | nil => exact ⟨rfl, k σ H F ρ h rfl S Kp.refl⟩
  | cons _ _ => exact h.elim
theorem dgws_cons {vs : List Nat} {e : Expr} {gs : WGs} {es : List Expr} (h1 : DGW X vs e g) (h2 : DGWs X vs es gs) (hs : (assignEach (e :: es) X.env).map (·.2) = assign e X.env :: (assignEach es X.env).map (·.2) := by rfl) : DGWs X vs (e :: es) (gvCons g gs) := by
  obtain ⟨⟨t, p, r⟩⟩ := h1
  obtain ⟨⟨u, q, r2⟩⟩ := h2
  refine ⟨⟨_, pgs_cons p q hs, fun σ H F ρ fr xs us Q Q' S dp h k => ?_⟩⟩
  cases dp with
  | nil => exact h.elim
  | cons d1 d2 => exact ⟨_, _, rfl, r σ H F ρ fr _ _ _ _ S d1 h fun σ' H' F' ρ' a w1 S' k' => r2 σ' H' F' ρ' fr _ _ _ _ S' (dpam k'.exF _ _ d2) a fun σ2 H2 F2 ρ2 a w2 S2 k2 => k σ2 H2 F2 ρ2 a (w2.trans w1) S2 (k'.trans k2)⟩
theorem dgw_tup {vs : List Nat} {gs : WGs} {es : List Expr} {k n : Nat} (hc : X.calm = true) (h : DGWs X vs es gs) (hn : (assignEach es X.env).length = n := by rfl) (hst : (assignEach es X.env).findIdx? (·.1) = none := by rfl) : DGW X vs (.Tuple es k pos) (gvTup n gs) := by
  obtain ⟨⟨u, q, r2⟩⟩ := h
  refine ⟨⟨_, pg_tup hc q hn hst, fun σ H F ρ fr xs us Q Q' S dp h k => ?_⟩⟩
  cases dp with
  | tup hs ha => have h := bmt_and h; exact ⟨_, _, rfl, same_t S.ex hs, by rw [ha.length]; exact h.1, r2 σ H F ρ fr _ _ Q Q' S ha h.2 k⟩
  | _ => exact h.elim
/-- the reading of a comprehension -/
theorem lc_run {K : PySem.W.Frag} {vs : List Nat} {ti : TI} {tg : TG} {tt : TT} {te : TE} (nd : vs.Nodup)
    (ri : ∀ (σ : Sg) (H F : Hp) (ρ : Rho) (fr : Fp) (Q : List PyData → Rho → Prop) (R : It → Hp → Prop), SI K F H σ ρ fr → wi ρ Q → (∀ xs H' F' ρ' J, Q xs ρ' → SI K F' H' σ ρ' fr → Kp F H fr F' H' → JOk K F' J xs → R J H') → ti σ H R)
    (rg : ∀ (σ : Sg) (H F : Hp) (ρ : Rho) (fr : Fp) (x : PyData) (v : V) (Q : Rho → Prop) (Q' : Sg → Hp → Prop), SI K F H σ ρ fr → Dp K F v x → g x ρ Q → (∀ σ' H' F' ρ', Q ρ' → L2.wipe σ' vs = L2.wipe σ vs → SI K F' H' σ' ρ' fr → Kp F H fr F' H' → Q' σ' H') → tg v σ H Q')
    (rt : RT K tt wt) (re : RE K te we) : RE K (tLc ti tg tt te vs) (wLc vs wi g wt we) := by
  intro σ H F ρ fr Q Q' S hw k
  refine ri σ H F ρ fr _ _ S hw fun xs H1 F1 ρ1 J a S1 k1 hJ => ?_
  obtain ⟨hst, I, i0, it, ie⟩ := a
  intro D hD
  obtain ⟨S2, k2⟩ := S1.newL (o := .lst []) hD
  -- what stands ahead of turn i
  refine ⟨fun i m H' => m = xs.length - i ∧ i ≤ xs.length ∧ ∃ ρ' F' acc ds, I i ds ρ' ∧ SI K F' H' (L2.wipe σ vs) (wipeR ρ' vs) (padd fr (one D)) ∧ Kp F1 H1 fr F' H' ∧ H' D = some (.lst acc) ∧ DpAll K F' acc ds, ⟨xs.length, by simp, Nat.zero_le _, wipeR ρ1 vs, F1, [], [], i0, ?_, k2, upd_same, .nil⟩, ?_⟩
  · have := (S2.wipe vs).wipe vs
    rw [wipe_wipe vs vs σ fun i hi => hi] at this
    exact this
  · rintro i m H2 ⟨rfl, hi, ρ2, F2, acc, ds, i2, S3, k3, hDl, dpa⟩
    obtain ⟨jstop, jgo⟩ := hJ i F2 H2 k3.exF S3.ex
    by_cases hlt : i < xs.length
    · obtain ⟨x, hx⟩ : ∃ x, xs[i]? = some x := ⟨xs[i], by simp [hlt]⟩
      obtain ⟨go, yl⟩ := jgo x hx
      refine .inr ⟨go, fun H' => ∃ ρ' F' acc ds, I (i + 1) ds ρ' ∧ SI K F' H' (L2.wipe σ vs) (wipeR ρ' vs) (padd fr (one D)) ∧ Kp F1 H1 fr F' H' ∧ H' D = some (.lst acc) ∧ DpAll K F' acc ds, fun H' n => ⟨xs.length - (i + 1), by omega, rfl, hlt, n⟩, fun v H3 y => ?_⟩
      have main : ∀ F3, SI K F3 H3 (L2.wipe σ vs) (wipeR ρ2 vs) (padd fr (one D)) → Kp F1 H1 fr F3 H3 → H3 D = some (.lst acc) → Same F2 F3 → Dp K F3 v x → tg v (L2.wipe σ vs) H3 fun σ2 H2 => L2.wipe σ2 vs = L2.wipe σ vs ∧ tt σ2 H2 fun b H3 =>
          if b = true then te σ2 H3 fun y H4 => ∃ acc, H4 D = some (.lst acc) ∧ acc.length < sizeLine ∧ (∃ ρ' F' acc' ds, I (i + 1) ds ρ' ∧ SI K F' (upd H4 D (.lst (acc ++ [y]))) (L2.wipe σ vs) (wipeR ρ' vs) (padd fr (one D)) ∧ Kp F1 H1 fr F' (upd H4 D (.lst (acc ++ [y]))) ∧ (upd H4 D (.lst (acc ++ [y]))) D = some (.lst acc') ∧ DpAll K F' acc' ds)
          else (∃ ρ' F' acc ds, I (i + 1) ds ρ' ∧ SI K F' H3 (L2.wipe σ vs) (wipeR ρ' vs) (padd fr (one D)) ∧ Kp F1 H1 fr F' H3 ∧ H3 D = some (.lst acc) ∧ DpAll K F' acc ds) := by
        intro F3 S4 k4 hD3 sF dp
        have frD : ∀ {F H F' H' : Hp}, Kp F H (padd fr (one D)) F' H' → H' D = H D := fun k => k.keep D (by unfold padd one; simp)
        refine rg (L2.wipe σ vs) H3 F3 _ _ x v _ _ S4 dp (it i x ds ρ2 hx i2) fun σ5 H5 F5 ρ5 a w5 S5 k5 => ?_
        rw [wipe_wipe vs vs σ fun i hi => hi] at w5
        refine ⟨w5, ?_⟩
        refine rt σ5 H5 F5 ρ5 _ _ _ S5 a fun b H6 F6 ρ6 a S6 k6 => ?_
        cases b with
        | true =>
          rw [if_pos rfl]
          refine re σ5 H6 F6 ρ6 _ _ _ S6 a fun yv H7 F7 ρ7 r7 m7 a o7 S7 k7 => ?_
          obtain ⟨y, ρ8, F8, a, dp8, s8, S8⟩ := frz_ok S7 o7 (fun a => by unfold padd; omega) a
          have S8' : SI K F8 H7 σ5 ρ8 (padd fr (one D)) := S8.less fun a => by unfold padd; omega
          have hD7 : H7 D = some (.lst acc) := (frD k7).trans ((frD k6).trans ((frD k5).trans hD3))
          have kk : Kp F1 H1 fr F8 H7 := (((k4.trans k5.left).trans k6.left).trans k7.left).trans (Kp.ofF s8)
          have dpa8 : DpAll K F8 acc ds := dpam (sF.trans (((k5.exF.trans k6.exF).trans k7.exF).trans s8)) _ _ dpa
          obtain ⟨m9, w9, q9⟩ := (S8'.wipe vs).own
          rw [w5] at w9
          have hz : m9 D = 0 ∧ fr D = 0 := by
            have := (q9 D).1
            have e1 : one D D = 1 := by unfold one; rw [if_pos rfl]
            unfold padd at this
            omega
          have hFD : F8 D = none := ((q9 D).2 (by unfold padd one; simp)).1
          refine ⟨acc, hD7, by rw [dpa8.length]; exact a.1, ρ8, F8, acc ++ [yv], ds ++ [y], a.2, ⟨fun b u e => ?_, m9, w9.kp (Same.refl _) fun c z => upd_ne fun e => by subst e; omega, fun c => ⟨(q9 c).1, fun z => ⟨((q9 c).2 z).1, ?_⟩⟩⟩, ⟨kk.exF, fun c z => ?_, fun c z => ?_⟩, upd_same, dpa8.append (.cons dp8 .nil)⟩
          · rw [upd_ne fun e' => by subst e'; rw [hFD] at e; cases e]
            exact S8'.ex b u e
          · by_cases hc : c = D
            · subst hc; rw [upd_same]; simp
            · rw [upd_ne hc]; exact ((q9 c).2 z).2
          · rw [upd_ne fun e => by subst e; omega]
            exact kk.keep c z
          · by_cases hc : c = D
            · subst hc; rw [upd_same]; simp
            · rw [upd_ne hc]; exact kk.grow c z
        | false =>
          rw [if_neg Bool.false_ne_true]
          refine ⟨ρ6, F6, acc, ds, a, ?_, (k4.trans k5.left).trans k6.left, (frD k6).trans ((frD k5).trans hD3), dpam (sF.trans (k5.exF.trans k6.exF)) _ _ dpa⟩
          have := S6.wipe vs
          rw [w5] at this
          exact this
      rcases yl v H3 y with ⟨rfl, dp⟩ | ⟨p, u, hp, rfl, dp⟩
      · exact main F2 S3 k3 hDl (Same.refl _) dp
      · obtain ⟨S4, s4, k4⟩ := S3.newF (o := u) hp
        have hne : D ≠ p := fun e => by subst e; rw [hDl] at hp; cases hp
        exact main _ S4 (k3.trans k4.left) (by rw [upd_ne hne]; exact hDl) s4 dp
    · have e' : i = xs.length := by omega
      subst e'
      refine .inl ⟨jstop (Nat.le_refl _), ?_⟩
      obtain ⟨m9, w9, q9⟩ := S3.own
      obtain ⟨ρ', w10, rfl⟩ := OwnS.rest (ρ0 := ρ1) w9 (fun i hi => by
        rcases still_ok S1 hst i hi with e | ⟨t, u, e1, e2, e3⟩
        · exact .inl e
        · exact .inr ⟨t, u, e1, e2, OwnT.z e3 k3.exF⟩) nd
      exact k _ H2 F2 _ _ (one D) (ie ds ρ2 i2 D) (own_lst hDl dpa rfl) ⟨S3.ex, m9, w10, q9⟩ (k1.trans k3)
/-- one reading for all blocks -/
theorem pe_all {I : Type} {Xs : I → Cx} {e : Expr} {K : PySem.W.Frag} {w : WE} (hK : ∀ i, (Xs i).K = K) (h : ∀ i, DE (Xs i) e w) : ∃ t : TE, (∀ i, PE (Xs i) e t) ∧ RE K t w := by
  have h' : ∀ i, ∃ t, PE (Xs i) e t ∧ RE K t w := fun i => by
    obtain ⟨t, p, r⟩ := (h i).run
    rw [hK i] at r
    exact ⟨t, p, r⟩
  exact ⟨fun σ H Q => ∀ i, Classical.choose (h' i) σ H Q, fun i => ⟨fun pins s σ H Q I hw => (Classical.choose_spec (h' i)).1.run pins s σ H Q I (hw i)⟩, fun σ H F ρ fr Q Q' S hw k i => (Classical.choose_spec (h' i)).2 σ H F ρ fr Q Q' S hw k⟩
theorem pts_all {I : Type} {Xs : I → Cx} {ifs : List Expr} {K : PySem.W.Frag} {w : WT} (hK : ∀ i, (Xs i).K = K) (h : ∀ i, DTs (Xs i) ifs w) : ∃ t : TT, (∀ i, PTs (Xs i) ifs t) ∧ RT K t w := by
  have h' : ∀ i, ∃ t, PTs (Xs i) ifs t ∧ RT K t w := fun i => by
    obtain ⟨t, p, r⟩ := (h i).run
    rw [hK i] at r
    exact ⟨t, p, r⟩
  exact ⟨fun σ H Q => ∀ i, Classical.choose (h' i) σ H Q, fun i => ⟨fun pins s σ H Q I hw => (Classical.choose_spec (h' i)).1.run pins s σ H Q I (hw i)⟩, fun σ H F ρ fr Q Q' S hw k i => (Classical.choose_spec (h' i)).2 σ H F ρ fr Q Q' S hw k⟩
abbrev RGW (K : PySem.W.Frag) (vs : List Nat) (t : TG) (w : WG) : Prop := ∀ (σ : Sg) (H F : Hp) (ρ : Rho) (fr : Fp) (x : PyData) (v : V) (Q : Rho → Prop) (Q' : Sg → Hp → Prop), SI K F H σ ρ fr → Dp K F v x → w x ρ Q → (∀ σ' H' F' ρ', Q ρ' → L2.wipe σ' vs = L2.wipe σ vs → SI K F' H' σ' ρ' fr → Kp F H fr F' H' → Q' σ' H') → t v σ H Q'
theorem pg_all {I : Type} {Xs : I → Cx} {tg : Expr} {K : PySem.W.Frag} {w : WG} {vs : List Nat} (hK : ∀ i, (Xs i).K = K) (h : ∀ i, DGW (Xs i) vs tg w) : ∃ t : TG, (∀ i, PG (Xs i) tg t) ∧ RGW K vs t w := by
  have h' : ∀ i, ∃ t, PG (Xs i) tg t ∧ RGW K vs t w := fun i => by
    obtain ⟨t, p, r⟩ := (h i).run
    rw [hK i] at r
    exact ⟨t, p, r⟩
  exact ⟨fun v σ H Q => ∀ i, Classical.choose (h' i) v σ H Q, fun i => ⟨fun pins s σ H v u Q I r hw => (Classical.choose_spec (h' i)).1.run pins s σ H v u Q I r (hw i)⟩, fun σ H F ρ fr x v Q Q' S dp hw k i => (Classical.choose_spec (h' i)).2 σ H F ρ fr x v Q Q' S dp hw k⟩
abbrev BIx := Shared × Hp × Addr × List (Str × Addr) × List Addr
theorem lc_parts {vs : List Nat} (hg : ∀ (s : Shared) (H : Hp) (C : Addr) (cl : List (Str × Addr)) (fp : List Addr), DGW (X.blk s H scope (compEnvC scope cl C X.env) fp) vs tg g) (ht : ∀ (s : Shared) (H : Hp) (C : Addr) (cl : List (Str × Addr)) (fp : List Addr), DTs (X.blk s H scope (compEnvC scope cl C X.env) fp) ifs wt)
    (he : ∀ (s : Shared) (H : Hp) (C : Addr) (cl : List (Str × Addr)) (fp : List Addr), DE (X.blk s H scope (compEnvC scope cl C X.env) fp) elt we) : ∃ (tg' : TG) (tt : TT) (te : TE), (∀ (s : Shared) (H : Hp) (C : Addr) (cl : List (Str × Addr)) (fp : List Addr), PG (X.blk s H scope (compEnvC scope cl C X.env) fp) tg tg') ∧
      (∀ (s : Shared) (H : Hp) (C : Addr) (cl : List (Str × Addr)) (fp : List Addr), PTs (X.blk s H scope (compEnvC scope cl C X.env) fp) ifs tt) ∧ (∀ (s : Shared) (H : Hp) (C : Addr) (cl : List (Str × Addr)) (fp : List Addr), PE (X.blk s H scope (compEnvC scope cl C X.env) fp) elt te) ∧
      (∀ (σ : Sg) (H F : Hp) (ρ : Rho) (fr : Fp) (x : PyData) (v : V) (Q : Rho → Prop) (Q' : Sg → Hp → Prop), SI X.K F H σ ρ fr → Dp X.K F v x → g x ρ Q → (∀ σ' H' F' ρ', Q ρ' → L2.wipe σ' vs = L2.wipe σ vs → SI X.K F' H' σ' ρ' fr → Kp F H fr F' H' → Q' σ' H') → tg' v σ H Q') ∧ RT X.K tt wt ∧ RE X.K te we := by
  obtain ⟨a, a1, a2⟩ := pg_all (I := BIx) (Xs := fun i => X.blk i.1 i.2.1 scope (compEnvC scope i.2.2.2.1 i.2.2.1 X.env) i.2.2.2.2) (K := X.K) (fun _ => rfl) (fun i => hg i.1 i.2.1 i.2.2.1 i.2.2.2.1 i.2.2.2.2)
  obtain ⟨b, b1, b2⟩ := pts_all (I := BIx) (Xs := fun i => X.blk i.1 i.2.1 scope (compEnvC scope i.2.2.2.1 i.2.2.1 X.env) i.2.2.2.2) (K := X.K) (fun _ => rfl) (fun i => ht i.1 i.2.1 i.2.2.1 i.2.2.2.1 i.2.2.2.2)
  obtain ⟨c, c1, c2⟩ := pe_all (I := BIx) (Xs := fun i => X.blk i.1 i.2.1 scope (compEnvC scope i.2.2.2.1 i.2.2.1 X.env) i.2.2.2.2) (K := X.K) (fun _ => rfl) (fun i => he i.1 i.2.1 i.2.2.1 i.2.2.2.1 i.2.2.2.2)
  exact ⟨a, b, c, fun s H C cl fp => a1 (s, H, C, cl, fp), fun s H C cl fp => b1 (s, H, C, cl, fp), fun s H C cl fp => c1 (s, H, C, cl, fp), a2, b2, c2⟩
theorem de_lc {vs : List Nat} (hvs : own.map (·.2) = vs) (nd : vs.Nodup) (hc : X.calm = true) (hN : X.N.Nodup) (hi : DI X tg iter wi) (ok : BlkOk X.N X.env.scope scope own)
    (hg : ∀ (s : Shared) (H : Hp) (C : Addr) (cl : List (Str × Addr)) (fp : List Addr), DGW (X.blk s H scope (compEnvC scope cl C X.env) fp) vs tg g) (ht : ∀ (s : Shared) (H : Hp) (C : Addr) (cl : List (Str × Addr)) (fp : List Addr), DTs (X.blk s H scope (compEnvC scope cl C X.env) fp) ifs wt)
    (he : ∀ (s : Shared) (H : Hp) (C : Addr) (cl : List (Str × Addr)) (fp : List Addr), DE (X.blk s H scope (compEnvC scope cl C X.env) fp) elt we) (hs : ∀ x, foldedSetIterable iter X.env x = pure x := by intro _; rfl) :
    DE X (.ListComp elt [⟨tg, iter, ifs, 0⟩] scope pos) (wLc vs wi g wt we) := by
  subst hvs
  obtain ⟨⟨ti, pi, ri⟩⟩ := hi
  obtain ⟨a, b, c, pa, pb, pc, ra, rb, rc⟩ := lc_parts hg ht he
  exact ⟨⟨_, pe_lc hc hN pi ok pa pb pc hs, lc_run nd ri ra rb rc⟩⟩
theorem ds_setLc {vs : List Nat} {i : Nat} {y : Str} {py spos : Pos} (hvs : own.map (·.2) = vs) (nd : vs.Nodup) (hc : X.calm = true) (hN : X.N.Nodup) (hy : X.N[i]? = some y) (hyl : X.env.scope.names.lookup y = some .local)
    (hsw : swapsWith (.ListComp elt [⟨tg, iter, ifs, 0⟩] scope pos) (some (.Name y py)) spos.line X.env = pure true) (hi : DI X tg iter wi) (ok : BlkOk X.N X.env.scope scope own)
    (hg : ∀ (s : Shared) (H : Hp) (C : Addr) (cl : List (Str × Addr)) (fp : List Addr), DGW (X.blk s H scope (compEnvC scope cl C X.env) fp) vs tg g) (ht : ∀ (s : Shared) (H : Hp) (C : Addr) (cl : List (Str × Addr)) (fp : List Addr), DTs (X.blk s H scope (compEnvC scope cl C X.env) fp) ifs wt)
    (he : ∀ (s : Shared) (H : Hp) (C : Addr) (cl : List (Str × Addr)) (fp : List Addr), DE (X.blk s H scope (compEnvC scope cl C X.env) fp) elt we) (hs : ∀ x, foldedSetIterable iter X.env x = pure x := by intro _; rfl) :
    DS X (.Assign [.Name y py] (.ListComp elt [⟨tg, iter, ifs, 0⟩] scope pos) spos) (wSet (wLc vs wi g wt we) i) := by
  subst hvs
  obtain ⟨⟨ti, pi, ri⟩⟩ := hi
  obtain ⟨a, b, c, pa, pb, pc, ra, rb, rc⟩ := lc_parts hg ht he
  refine ⟨⟨_, ps_setLc hc hN hy hyl hsw pi ok pa pb pc hs, fun σ H F ρ fr d e S E h => ?_⟩⟩
  refine lc_run nd ri ra rb rc σ H F ρ fr _ _ S h fun v H' F' ρ' r m a b c k => ?_
  obtain ⟨ρ2, F2, q, S2, s⟩ := toSlot_ok c b a
  exact E.nx _ H' F2 ρ2 q S2 (k.trans (Kp.ofF s))
end
end DL

namespace DL
open PySem PySem.Spec PyProof.Rows L2

/-! ### x[::-1] -/
def revS (z : Str) : Str := ⟨z.cps.toList.reverse.toArray⟩
theorem revS_slice (z : Str) : ((Builtin.Str.strSliceIndices none none (-1) z.length).filterMap (z.cps[·]?)) = z.cps.toList.reverse := by
  rw [picked_rev, PySem.W.krv_range, List.filterMap_reverse]
  exact congrArg List.reverse (PySem.W.krv_all z.cps)
def tRevA (K : PySem.W.Frag) (te : TE) : TE := fun σ H Q => te σ H fun x H1 => (∃ a xs, x = .ref a ∧ SqL K H1 a xs ∧ ∀ p, H1 p = none → Q (.ref p) (upd H1 p (.lst xs.reverse))) ∨ (∃ z, x = .str z ∧ z.length ≤ sizeLine ∧ Q (.str (revS z)) H1)
section
variable {X : Cx} {e : Expr} {wa wb : WE} {k : Nat} {p1 p2 p3 pos : Pos}
theorem pe_revA {te : TE} (he : PE X e te) : PE X (.Subscript e (.Slice none none (some (.UnaryOp .USub (.Constant (.int 1) k p1) p2)) p3) pos) (tRevA X.K te) := by
  refine ⟨fun pins s σ H Q I h => ?_⟩
  refine Subscript_ (thn (he.run pins s σ H _ I h) fun v s1 ⟨x, H1, I1, r1, q1⟩ => ?_)
  have hst : PO X (some (.UnaryOp .USub (.Constant (.int 1) k p1) p2)) (tPart (tUn (rU fun i => .int (-i)) (tC (.int 1)))) := po_some (pe_un un_neg pe_int)
  refine wpAny_Slice (thn (po_none.run pins s1 σ H1 (fun o H2 => o = none ∧ H2 = H1) I1 ⟨rfl, rfl⟩) fun vl s2 ⟨l, H2, I2, pl, el, e2⟩ => ?_)
  subst el e2
  refine thn (po_none.run pins s2 σ H2 (fun o H3 => o = none ∧ H3 = H2) I2 ⟨rfl, rfl⟩) fun vu s3 ⟨u, H3, I3, pu, eu, e3⟩ => ?_
  subst eu e3
  refine thn (hst.run pins s3 σ H3 (fun o H4 => o = some (-1) ∧ H4 = H3) I3 ⟨1, rfl, -1, rfl, rfl, rfl⟩) fun vs s4 ⟨o, H4, I4, ps, eo, e4⟩ => ?_
  subst eo e4
  have I5 : Inv X pins σ H4 { s4 with heap := s4.heap.push { cls := .type "slice", data := .fields #[vl, vu, vs] } } := I4.kept (t' := s4.toks) fun b ob q => Heap.get?_push_of_some _ q
  show wpAny (model X.prog X.w) X.A (subscriptTail e (.Slice none none (some (.UnaryOp .USub (.Constant (.int 1) k p1) p2)) p3) v (.ref s4.heap.objs.size)) (EP X pins σ Q) X.xe { s4 with heap := s4.heap.push { cls := .type "slice", data := .fields #[vl, vu, vs] } }
  rcases q1 with ⟨a, xs, rfl, hx, q⟩ | ⟨z, rfl, hz, q⟩
  · cases r1
    obtain ⟨its, r, ht, hz⟩ := I5.list hx
    have hlen := r.length
    refine tail_any (ops := [.ref a, .ref s4.heap.objs.size]) ht.isList.typeIs (PySem.slot_list_getitem.lookup) ?_ (by with_unfolding_all rfl)
    refine wpAny_getItem_list_slice ht.isList (Heap.IsSliceOf.new _ vl vu vs) pl pu ps (by decide) ?_ (by rw [List.size_toArray]; omega)
    rw [PySem.W.krv_pick]
    refine ⟨.ref _, _, I5.laid (t' := s4.toks) (o := .lst xs.reverse) (fun b ob q => Heap.get?_push_of_some _ q) (Nat.le_refl _) ?_, rfl, q _ (I5.hok.fresh (Nat.le_refl _))⟩
    exact ⟨by rw [List.length_reverse]; exact hz, _, 0, r.reverse, Heap.get?_push_size _ rfl⟩
  · obtain ⟨t, rfl⟩ := r1
    obtain ⟨l, rfl, el⟩ := IsPart.raw pl
    obtain ⟨u, rfl, eu⟩ := IsPart.raw pu
    obtain ⟨st, rfl, es⟩ := IsPart.raw ps
    refine tail_any (ops := [.str z t, .ref s4.heap.objs.size]) (typeIs_str _ z t) F.slot_str_getitem.lookup ?_ (by with_unfolding_all rfl)
    refine wpAny_getItem_str_slice (l := l) (u := u) (st := st) ⟨_, Heap.get?_push_size _ rfl, rfl, rfl⟩ (by rw [es]; rfl) ?_
    show Made.post (if (((st.map (·.1)).getD 1 == 1) && (Builtin.Str.strSliceIndices (l.map (·.1)) (u.map (·.1)) ((st.map (·.1)).getD 1) z.length).length == z.length) = true then Made.val (.str z t)
      else Made.str ⟨((Builtin.Str.strSliceIndices (l.map (·.1)) (u.map (·.1)) ((st.map (·.1)).getD 1) z.length).filterMap (z.cps[·]?)).toArray⟩) (EP X pins σ Q) _
    rw [el, eu, es]
    show Made.post (if (((-1 : Int) == 1) && (Builtin.Str.strSliceIndices none none (-1) z.length).length == z.length) = true then Made.val (.str z t)
      else Made.str ⟨((Builtin.Str.strSliceIndices none none (-1) z.length).filterMap (z.cps[·]?)).toArray⟩) (EP X pins σ Q) _
    rw [if_neg (by rw [show ((-1 : Int) == 1) = false by decide, Bool.false_and]; exact Bool.false_ne_true), revS_slice]
    refine ⟨?_, .str (revS z), _, I5.tok _, ⟨_, rfl⟩, q⟩
    show z.cps.toList.reverse.toArray.size ≤ sizeLine
    rw [List.size_toArray, List.length_reverse, Array.length_toList]
    exact hz
def wRev (wa : WE) : WE := fun ρ Q => wa ρ fun r ρ1 => match r.ot ρ1 with
  | some (.fz (.list ds)) => ∀ p, Q (.tm (.lst p ds.reverse)) ρ1
  | some (.lst _ ds) => ∀ p, Q (.tm (.lst p ds.reverse)) ρ1
  | some (.fz (.str z)) => z.length ≤ sizeLine ∧ Q (.fz (.str (revS z))) ρ1
  | _ => False
theorem de_rev (ha : DE X e wa) : DE X (.Subscript e (.Slice none none (some (.UnaryOp .USub (.Constant (.int 1) k p1) p2)) p3) pos) (wRev wa) := by
  obtain ⟨⟨t, p, r⟩⟩ := ha
  refine ⟨⟨_, pe_revA p, fun σ H F ρ fr Q Q' S hw kk => ?_⟩⟩
  refine r σ H F ρ fr _ _ S hw fun v1 H1 F1 ρ1 r1 m1 hw o1 S1 k1 => ?_
  split at hw
  · rename_i ds hd
    obtain ⟨m', o'⟩ := o1.own S1 hd
    obtain ⟨o', _⟩ := o'
    cases o' with
    | lst hs ha =>
      refine .inl ⟨_, _, rfl, S1.ex.seq hs, fun p hp => ?_⟩
      obtain ⟨S4, k4⟩ := S1.left.newL (o := .lst _) hp
      exact kk _ _ _ ρ1 _ (one p) (hw p) (own_lst upd_same ha.reverse rfl) S4 (k1.trans k4)
  · rename_i p0 ds hd
    obtain ⟨m', o'⟩ := o1.own S1 hd
    obtain ⟨vs, rfl, h0, ha, _⟩ := o'
    refine .inl ⟨_, _, rfl, SqL.of h0, fun p hp => ?_⟩
    obtain ⟨S4, k4⟩ := S1.left.newL (o := .lst _) hp
    exact kk _ _ _ ρ1 _ (one p) (hw p) (own_lst upd_same ha.reverse rfl) S4 (k1.trans k4)
  · rename_i z hd
    obtain ⟨m', o'⟩ := o1.own S1 hd
    obtain ⟨o', _⟩ := o'
    cases o'
    exact .inr ⟨z, rfl, hw.1, kk _ H1 F1 ρ1 _ z0 hw.2 ⟨.str _, rfl⟩ S1.left k1⟩
  · exact hw.elim

/-! ### own lists joined, repeated -/
def ownL (r : RV) (ρ : Rho) : Option (List PyData) := match r.ot ρ with
  | some (.lst _ ds) => some ds
  | _ => none
def wCat (wa wb : WE) : WE := fun ρ Q => wa ρ fun r1 ρ1 => wb ρ1 fun r2 ρ2 => match ownL r1 ρ2, ownL r2 ρ2 with
  | some ds, some es => ds.length + es.length ≤ sizeLine ∧ ∀ p, Q (.tm (.lst p (ds ++ es))) ρ2
  | _, _ => False
def repD (k : Nat) (ds : List PyData) : List PyData := (List.replicate k ds).flatten
def wRep (wa wb : WE) : WE := fun ρ Q => wa ρ fun r1 ρ1 => wb ρ1 fun r2 ρ2 => match ownL r1 ρ2, r2.dat ρ2 with
  | some ds, some (.int k) => (-(2 ^ 63) ≤ k ∧ k < 2 ^ 63 ∧ ds.length * k.toNat ≤ sizeLine) ∧ ∀ p, Q (.tm (.lst p (repD k.toNat ds))) ρ2
  | _, _ => False
theorem ownL_ok {K : PySem.W.Frag} {F H : Hp} {σ : Sg} {ρ : Rho} {fr m : Fp} {r : RV} {v : V} {ds : List PyData} (o : RVok K F H σ r v m) (S : SI K F H σ ρ fr) (h : ownL r ρ = some ds) : ∃ p vs, v = .ref p ∧ H p = some (.lst vs) ∧ DpAll K F vs ds := by
  unfold ownL at h
  split at h
  · rename_i p ds' hd
    cases h
    obtain ⟨m', o'⟩ := o.own S hd
    obtain ⟨vs, rfl, h0, ha, _⟩ := o'
    exact ⟨_, vs, rfl, h0, ha⟩
  · cases h
theorem de_cat {a b : Expr} (ha : DE X a wa) (hb : DE X b wb) : DE X (.BinOp a .Add b pos) (wCat wa wb) := by
  obtain ⟨⟨ta, pa, ra⟩⟩ := ha
  obtain ⟨⟨tb, pb, rb⟩⟩ := hb
  refine ⟨⟨_, pe_op op_cat pa pb, fun σ H F ρ fr Q Q' S hw k => ?_⟩⟩
  refine ra σ H F ρ fr _ _ S hw fun v1 H1 F1 ρ1 r1 m1 hw o1 S1 k1 => ?_
  refine rb σ H1 F1 ρ1 _ _ _ S1 hw fun v2 H2 F2 ρ2 r2 m2 hw o2 S2 k2 => ?_
  split at hw
  · rename_i ds es h1 h2
    obtain ⟨p1, vs, rfl, e1, d1⟩ := ownL_ok (o1.kp k2) S2 h1
    obtain ⟨p2, ws, rfl, e2, d2⟩ := ownL_ok o2 S2 h2
    refine ⟨_, _, _, _, rfl, rfl, e1, e2, by rw [d1.length, d2.length]; exact hw.1, fun p hp => ?_⟩
    obtain ⟨S3, k3⟩ := S2.left.left.newL (o := .lst _) hp
    exact k _ _ _ ρ2 _ (one p) (hw.2 p) (own_lst upd_same (d1.append d2) rfl) S3 ((k1.trans k2.left).trans k3)
  · exact hw.elim
theorem dpa_rep {K : PySem.W.Frag} {F : Hp} {vs : List V} {ds : List PyData} (h : DpAll K F vs ds) : ∀ n : Nat, DpAll K F (List.replicate n vs).flatten (repD n ds)
  | 0 => .nil
  | n + 1 => by
    unfold repD
    rw [List.replicate_succ, List.replicate_succ, List.flatten_cons, List.flatten_cons]
    exact h.append (dpa_rep h n)
theorem de_rep {a b : Expr} (ha : DE X a wa) (hb : DE X b wb) : DE X (.BinOp a .Mult b pos) (wRep wa wb) := by
  obtain ⟨⟨ta, pa, ra⟩⟩ := ha
  obtain ⟨⟨tb, pb, rb⟩⟩ := hb
  refine ⟨⟨_, pe_op op_rep pa pb, fun σ H F ρ fr Q Q' S hw k => ?_⟩⟩
  refine ra σ H F ρ fr _ _ S hw fun v1 H1 F1 ρ1 r1 m1 hw o1 S1 k1 => ?_
  refine rb σ H1 F1 ρ1 _ _ _ S1 hw fun v2 H2 F2 ρ2 r2 m2 hw o2 S2 k2 => ?_
  split at hw
  · rename_i ds n h1 h2
    obtain ⟨p1, vs, rfl, e1, d1⟩ := ownL_ok (o1.kp k2) S2 h1
    have := o2.dp S2 h2
    cases this
    obtain ⟨⟨q1, q2, q3⟩, hw⟩ := hw
    refine ⟨_, n, _, rfl, rfl, e1, q1, q2, by rw [d1.length]; exact q3, fun p hp => ?_⟩
    obtain ⟨S3, k3⟩ := S2.left.left.newL (o := .lst _) hp
    exact k _ _ _ ρ2 _ (one p) (hw p) (own_lst upd_same (dpa_rep d1 _) rfl) S3 ((k1.trans k2.left).trans k3)
  · exact hw.elim
end

/-! ### sep.join(texts), tuple(x), list(x) -/
def strsOf : List PyData → Option (List Str)
  | [] => some []
  | .str i :: r => (strsOf r).map (i :: ·)
  | _ => none
theorem strsOf_dp {K : PySem.W.Frag} {H : Hp} : ∀ {ds : List PyData} {vs : List V} {ns : List Str}, DpAll K H vs ds → strsOf ds = some ns → vs = ns.map V.str
  | [], _, _, .nil, e => by cases e; rfl
  | d :: ds, _, _, .cons h t, e => by
    cases h with
    | str i =>
      unfold strsOf at e
      cases q : strsOf ds with
      | none => rw [q] at e; cases e
      | some ms =>
        rw [q] at e
        cases e
        rw [List.map_cons, strsOf_dp t q]
    | _ => cases e
def joinOk (a : Str) (ys : List Str) : Prop := (ys.map (·.length)).sum + ys.length * a.length ≤ 16777216
def wJoin (wo wa : WE) : WE := fun ρ Q => wo ρ fun r1 ρ1 => match r1.dat ρ1 with
  | some (.str a) => wa ρ1 fun r2 ρ2 => (match r2.dat ρ2 with
    | some (.list ds) => (match strsOf ds with | some ys => joinOk a ys ∧ Q (.fz (.str (Txt.join a ys))) ρ2 | none => False)
    | some (.tuple ds) => (match strsOf ds with | some ys => joinOk a ys ∧ Q (.fz (.str (Txt.join a ys))) ρ2 | none => False)
    | _ => False)
  | _ => False
def wTupOf (ws : WA) : WE := fun ρ Q => ws ρ fun rs ρ1 => match rs with
  | [r] => (match r.ot ρ1 with
    | some (.fz (.list ds)) => Q (.fz (.tuple ds)) ρ1
    | some (.lst _ ds) => Q (.fz (.tuple ds)) ρ1
    | some (.fz (.tuple ds)) => Q (.fz (.tuple ds)) ρ1
    | _ => False)
  | _ => False
def wLstOf (ws : WA) : WE := fun ρ Q => ws ρ fun rs ρ1 => match rs with
  | [r] => (match r.ot ρ1 with
    | some (.fz (.list ds)) => ∀ p, Q (.tm (.lst p ds)) ρ1
    | some (.lst _ ds) => ∀ p, Q (.tm (.lst p ds)) ρ1
    | some (.fz (.tuple ds)) => ∀ p, Q (.tm (.lst p ds)) ρ1
    | _ => False)
  | _ => False
section
variable {X : Cx} {o e : Expr} {es : List Expr} {wo wa : WE} {ws : WA} {pos apos p : Pos} {x : Str}
theorem de_join (ho : DE X o wo) (he : DE X e wa) (hs : starEach [e] X.env = [(false, eval e X.env)] := by rfl) (hbase : attributeBase o "join" X.env (eval o X.env) = eval o X.env := by rfl) (hline : (apos.endLine == pos.line) = true := by rfl) :
    DE X (.Call (.Attribute o "join" apos) [e] [] pos) (wJoin wo wa) := by
  obtain ⟨⟨ta, pa, ra⟩⟩ := ho
  obtain ⟨⟨tb, pb, rb⟩⟩ := he
  refine ⟨⟨_, pe_join pa pb hs hbase hline, fun σ H F ρ fr Q Q' S hw k => ?_⟩⟩
  refine ra σ H F ρ fr _ _ S hw fun v1 H1 F1 ρ1 r1 m1 hw o1 S1 k1 => ?_
  split at hw
  · rename_i a ha
    have := o1.dp S1 ha
    cases this
    refine ⟨⟨a, rfl⟩, ?_⟩
    refine rb σ H1 F1 ρ1 _ _ _ S1 hw fun v2 H2 F2 ρ2 r2 m2 hw o2 S2 k2 => ?_
    split at hw
    · rename_i ds hd
      have := o2.dp S2 hd
      cases this with
      | lst hs ha =>
        split at hw
        · rename_i ys hy
          have := strsOf_dp ha hy
          subst this
          exact ⟨a, _, ys, rfl, rfl, .inl hs, hw.1, k _ H2 F2 ρ2 _ z0 hw.2 ⟨.str _, rfl⟩ S2.left.left (k1.trans k2.left)⟩
        · exact hw.elim
    · rename_i ds hd
      have := o2.dp S2 hd
      cases this with
      | tup hs ha =>
        split at hw
        · rename_i ys hy
          have := strsOf_dp ha hy
          subst this
          exact ⟨a, _, ys, rfl, rfl, .inr hs, hw.1, k _ H2 F2 ρ2 _ z0 hw.2 ⟨.str _, rfl⟩ S2.left.left (k1.trans k2.left)⟩
        · exact hw.elim
    · exact hw.elim
  · exact hw.elim
theorem de_tupOf (hg : Gl X x) (hm : X.mg x = none) (hv : bootBuiltins x = some (.type "tuple")) (ha : DA X (e :: es) ws)
    (hn : x ≠ "__name__" := by decide) (hdb : (x == ("__debug__" : Str)) = false := by decide)
    (he : starEach (e :: es) X.env = (false, eval e X.env) :: starEach es X.env := by rfl) (hpl : (backTo pos (starEach es X.env)).any (·.1) = false := by rfl) : DE X (.Call (.Name x p) (e :: es) [] pos) (wTupOf ws) := by
  obtain ⟨⟨ta, pa, ra⟩⟩ := ha
  refine ⟨⟨_, pe_callTy call_tuple_of hg hm hv pa hn hdb he hpl, fun σ H F ρ fr Q Q' S hw k => ?_⟩⟩
  refine ra σ H F ρ fr _ _ S hw fun vs H1 F1 ρ1 rs m hw o S1 k1 => ?_
  split at hw
  · rename_i r
    cases o with
    | cons o os =>
      cases os
      split at hw
      · rename_i ds hd
        obtain ⟨m', o', _⟩ := o.own S1 hd
        cases o' with
        | lst hs ha =>
          refine ⟨_, _, rfl, .inl ⟨S1.ex.seq hs, fun l hl => ?_⟩⟩
          obtain ⟨S2, s2, k2⟩ := S1.left.newF (o := .tup _) hl
          exact k _ _ _ ρ1 _ z0 hw ⟨.tup (SqT.of upd_same) (dpam s2 _ _ ha), rfl⟩ S2 (k1.trans k2)
      · rename_i p0 ds hd
        obtain ⟨m', vs, rfl, h0, ha, _⟩ := o.own S1 hd
        refine ⟨_, _, rfl, .inl ⟨SqL.of h0, fun l hl => ?_⟩⟩
        obtain ⟨S2, s2, k2⟩ := S1.left.newF (o := .tup _) hl
        exact k _ _ _ ρ1 _ z0 hw ⟨.tup (SqT.of upd_same) (dpam s2 _ _ ha), rfl⟩ S2 (k1.trans k2)
      · rename_i ds hd
        obtain ⟨m', o', _⟩ := o.own S1 hd
        cases o' with
        | tup hs ha => exact ⟨_, _, rfl, .inr ⟨same_t S1.ex hs, k _ H1 F1 ρ1 _ z0 hw ⟨.tup hs ha, rfl⟩ S1.left k1⟩⟩
      · exact hw.elim
  · exact hw.elim
theorem de_lstOf (hg : Gl X x) (hm : X.mg x = none) (hv : bootBuiltins x = some (.type "list")) (ha : DA X (e :: es) ws)
    (hn : x ≠ "__name__" := by decide) (hdb : (x == ("__debug__" : Str)) = false := by decide)
    (he : starEach (e :: es) X.env = (false, eval e X.env) :: starEach es X.env := by rfl) (hpl : (backTo pos (starEach es X.env)).any (·.1) = false := by rfl) : DE X (.Call (.Name x p) (e :: es) [] pos) (wLstOf ws) := by
  obtain ⟨⟨ta, pa, ra⟩⟩ := ha
  refine ⟨⟨_, pe_callTy call_list_of hg hm hv pa hn hdb he hpl, fun σ H F ρ fr Q Q' S hw k => ?_⟩⟩
  refine ra σ H F ρ fr _ _ S hw fun vs H1 F1 ρ1 rs m hw o S1 k1 => ?_
  split at hw
  · rename_i r
    cases o with
    | cons o os =>
      cases os
      split at hw
      · rename_i ds hd
        obtain ⟨m', o', _⟩ := o.own S1 hd
        cases o' with
        | lst hs ha =>
          refine ⟨_, _, rfl, .inl (S1.ex.seq hs), fun l hl => ?_⟩
          obtain ⟨S2, k2⟩ := S1.left.newL (o := .lst _) hl
          exact k _ _ _ ρ1 _ (one l) (hw l) (own_lst upd_same ha rfl) S2 (k1.trans k2)
      · rename_i p0 ds hd
        obtain ⟨m', vs, rfl, h0, ha, _⟩ := o.own S1 hd
        refine ⟨_, _, rfl, .inl (SqL.of h0), fun l hl => ?_⟩
        obtain ⟨S2, k2⟩ := S1.left.newL (o := .lst _) hl
        exact k _ _ _ ρ1 _ (one l) (hw l) (own_lst upd_same ha rfl) S2 (k1.trans k2)
      · rename_i ds hd
        obtain ⟨m', o', _⟩ := o.own S1 hd
        cases o' with
        | tup hs ha =>
          refine ⟨_, _, rfl, .inr (same_t S1.ex hs), fun l hl => ?_⟩
          obtain ⟨S2, k2⟩ := S1.left.newL (o := .lst _) hl
          exact k _ _ _ ρ1 _ (one l) (hw l) (own_lst upd_same ha rfl) S2 (k1.trans k2)
      · exact hw.elim
  · exact hw.elim
end

/-! ### isinstance(x, T), T a built-in type -/
def tyOf : PyData → Option String
  | .none => some "NoneType"
  | .bool _ => some "bool"
  | .int _ => some "int"
  | .str _ => some "str"
  | .list _ => some "list"
  | .tuple _ => some "tuple"
  | .dict _ => none
theorem tyOf_dp {K : PySem.W.Frag} {H : Hp} {v : V} {d : PyData} {T : String} (h : Dp K H v d) (e : tyOf d = some T) : TyX K H v (.type T) := by
  cases h with
  | non => cases e; exact .base .non
  | bl b => cases e; exact .base (.bl b)
  | int i => cases e; exact .base (.int i)
  | str x => cases e; exact .base (.str x)
  | lst hs _ =>
    cases e
    rcases hs with (h | ⟨o, h⟩) | ⟨o, its, n, h, hc, _⟩
    · exact .base (.lst h)
    · exact .base (.frz h)
    · exact .kList h hc
  | tup hs _ =>
    cases e
    rcases hs with (h | ⟨o, h⟩) | ⟨o, its, n, h, hc, _⟩
    · exact .base (.tup h)
    · exact .fTuple h
    · exact .kTuple h hc
def wIsi (T : String) (wa : WE) : WE := fun ρ Q => wa ρ fun r ρ1 => match r.dat ρ1 with
  | some d => (match tyOf d with
    | some S => (match kitB S T with | some b => Q (.fz (.bool b)) ρ1 | none => False)
    | none => False)
  | none => False
section
variable {X : Cx} {e : Expr} {wa : WE} {pos p p2 : Pos} {y : Str} {T : String}
theorem de_isi (hg : Gl X "isinstance") (hm : X.mg "isinstance" = none) (hgT : Gl X y) (hmT : X.mg y = none) (hT : bootBuiltins y = some (.type T)) (ha : DE X e wa)
    (hv : bootBuiltins "isinstance" = some (.builtin "isinstance") := by decide +kernel) (hny : y ≠ "__name__" := by decide) (hdy : (y == ("__debug__" : Str)) = false := by decide)
    (h1 : starEach [e, .Name y p2] X.env = (false, eval e X.env) :: starEach [.Name y p2] X.env := by rfl) (h2 : starEach [.Name y p2] X.env = (false, eval (.Name y p2) X.env) :: starEach [] X.env := by rfl)
    (hpl : (backTo pos (starEach [.Name y p2] X.env)).any (·.1) = false := by rfl) : DE X (.Call (.Name "isinstance" p) [e, .Name y p2] [] pos) (wIsi T wa) := by
  obtain ⟨⟨ta, pa, ra⟩⟩ := ha
  refine ⟨⟨_, pe_callB call_isi hg hm hv (pa_cons pa (pa_cons (pe_bltn (v := .ty T) hgT hmT hT rfl hny hdy) pa_nil h2) h1) (by decide) (by decide) h1 hpl, fun σ H F ρ fr Q Q' S hw k => ?_⟩⟩
  refine ra σ H F ρ fr _ _ S hw fun v1 H1 F1 ρ1 r1 m1 hw o1 S1 k1 => ?_
  split at hw
  · rename_i d hd
    split at hw
    · rename_i S' hS
      split at hw
      · rename_i b hb
        exact ⟨v1, .ty T, .type S', .type T, b, rfl, .ty T, tyOf_dp (o1.dp S1 hd) hS, kit_ty hb, k _ H1 F1 ρ1 _ z0 hw ⟨.bl b, rfl⟩ S1.left k1⟩
      · exact hw.elim
    · exact hw.elim
  · exact hw.elim
end
end DL

namespace DL
open PySem PySem.Spec PyProof.Rows L2

theorem fresh_F {F H : Hp} {p : Addr} (s : Same F H) (h : H p = none) : F p = none := s.free h
/-! ### a list, a tuple or a text walked -/
theorem pi_or {X : Cx} {tg e : Expr} {t u : TI} (h : PI X tg e t) (h' : PI X tg e u) : PI X tg e (fun σ H R => t σ H R ∨ u σ H R) := ⟨fun pins s σ H R I q => by
  rcases q with q | q
  · exact h.run pins s σ H R I q
  · exact h'.run pins s σ H R I q⟩
/-- an iterable's parts: what it yields -/
def tMulti (te : TE) (k : V → Hp → (It → Hp → Prop) → Prop) : TI := fun σ H R => te σ H fun x H1 => k x H1 R
def wIterA (wa : WE) : WI := fun ρ Q => wa ρ fun r ρ1 => frz r ρ1 fun d ρ2 => match d with
  | .list ds => Q ds ρ2
  | .tuple ds => Q ds ρ2
  | .str z => Q (signsD z) ρ2
  | _ => False
theorem pi_multi {X : Cx} {tg l : Expr} {tl : TE} (hl : PE X l tl) : PI X tg l (fun σ H R => tl σ H fun x H1 => (∃ a, x = .ref a ∧ (∃ xs, SqL X.K H1 a xs) ∧ R (Itl X.K a) H1) ∨ (∃ a, x = .ref a ∧ (∃ xs, SqT X.K H1 a xs) ∧ R (Itt X.K a) H1) ∨ (∃ z, x = .str z ∧ R (Its z) H1)) := by
  refine ⟨fun pins s σ H R I h => ?_⟩
  refine thn (hl.run pins s σ H _ I h) fun v s1 ⟨x, H1, I1, r1, q1⟩ => ?_
  rcases q1 with ⟨a, e, ⟨xs, hq⟩, q⟩ | ⟨a, e, ⟨xs, hq⟩, q⟩ | ⟨z, e, q⟩
  · subst e
    cases r1
    obtain ⟨its, rv, p, hz⟩ := I1.list hq
    refine wpAny_pyIter_list p.isList ?_
    refine ⟨s1.heap.objs.size, [s1.heap.objs.size], _, _, H1, rfl, I1.kept (t' := s1.toks) fun b o e => Heap.get?_push_of_some _ e, turn_list a _, ⟨_, Heap.get?_push_size _ rfl, rfl, rfl⟩, fun b hb => ?_, q⟩
    have e : b = s1.heap.objs.size := by simpa using hb
    subst e
    exact I1.fpOk (Nat.le_refl _) (I1.hok.fresh (Nat.le_refl _))
  · subst e
    cases r1
    obtain ⟨its, rv, p, hz⟩ := I1.tuple hq
    refine wpAny_pyIter_tuple (show s1.heap.IsTuple a its.toArray from p) ?_
    refine ⟨s1.heap.objs.size, [s1.heap.objs.size], _, _, H1, rfl, I1.kept (t' := s1.toks) fun b o e => Heap.get?_push_of_some _ e, turn_tuple a _, ⟨_, Heap.get?_push_size _ rfl, rfl, rfl⟩, fun b hb => ?_, q⟩
    have e : b = s1.heap.objs.size := by simpa using hb
    subst e
    exact I1.fpOk (Nat.le_refl _) (I1.hok.fresh (Nat.le_refl _))
  · subst e
    obtain ⟨t, rfl⟩ := r1
    cases ha : z.cps.all (· < 128)
    · exact wpAny_pyIter_wide ha (pi_one (tk := s1.toks) I1 _ (turn_str _ z t "str_iterator" (.inr rfl)) ⟨_, Heap.get?_push_size _ rfl, rfl, rfl⟩ q)
    · exact wpAny_pyIter_ascii ha (pi_one (tk := s1.toks) I1 _ (turn_str _ z t "str_ascii_iterator" (.inl rfl)) ⟨_, Heap.get?_push_size _ rfl, rfl, rfl⟩ q)
theorem di_any {X : Cx} {tg a : Expr} {wa : WE} (ha : DE X a wa) : DI X tg a (wIterA wa) := by
  obtain ⟨⟨t, p, r⟩⟩ := ha
  refine ⟨⟨_, pi_multi p, fun σ H F ρ fr Q R S h k => ?_⟩⟩
  refine r σ H F ρ fr _ _ S h fun v H1 F1 ρ1 r1 m a b c k1 => ?_
  obtain ⟨y, ρ2, F2, a, dp, s, S2⟩ := frz_ok c b (fun a => by unfold padd; omega) a
  have S2' : SI X.K F2 H1 σ ρ2 fr := S2.less fun a => by unfold padd; omega
  split at a
  · cases dp with
    | lst hs ha => exact .inl ⟨_, rfl, ⟨_, S2'.ex.seq hs⟩, k _ H1 F2 ρ2 _ a S2' (k1.trans (Kp.ofF s)) (j_list hs ha)⟩
  · cases dp with
    | tup hs ha => exact .inr (.inl ⟨_, rfl, ⟨_, same_t S2'.ex hs⟩, k _ H1 F2 ρ2 _ a S2' (k1.trans (Kp.ofF s)) (j_tup hs ha)⟩)
  · cases dp
    exact .inr (.inr ⟨_, rfl, k _ H1 F2 ρ2 _ a S2' (k1.trans (Kp.ofF s)) j_str⟩)
  · exact a.elim
/-! ### enumerate(a list) -/
def enumD (i : Nat) : List PyData → List PyData
  | [] => []
  | d :: ds => .tuple [.int i, d] :: enumD (i + 1) ds
theorem enumD_len : ∀ (i : Nat) (ds : List PyData), (enumD i ds).length = ds.length
  | _, [] => rfl
  | i, d :: ds => by
    show (enumD (i + 1) ds).length + 1 = ds.length + 1
    rw [enumD_len]
theorem enumD_get : ∀ (ds : List PyData) (i k : Nat), (enumD i ds)[k]? = (ds[k]?).map fun d => .tuple [.int ((i + k : Nat) : Int), d]
  | [], _, _ => by simp [enumD]
  | d :: ds, i, 0 => by simp [enumD]
  | d :: ds, i, k + 1 => by
    show (enumD (i + 1) ds)[k]? = _
    rw [enumD_get ds (i + 1) k]
    have : i + 1 + k = i + (k + 1) := by omega
    rw [this]
    simp
def wEnumerate (ws : WA) : WI := fun ρ Q => ws ρ fun rs ρ1 => frzs rs ρ1 fun ds ρ2 => match ds with
  | [.list es] => Q (enumD 0 es) ρ2
  | _ => False
theorem di_enumerate {X : Cx} {e : Expr} {ws : WA} {p pos tpos : Pos} {elts : List Expr} {kk : Nat} (hg : Gl X "enumerate") (hm : X.mg "enumerate" = none) (ha : DA X [e] ws) (hs : starEach [e] X.env = [(false, eval e X.env)] := by rfl) :
    DI X (.Tuple elts kk tpos) (.Call (.Name "enumerate" p) [e] [] pos) (wEnumerate ws) := by
  obtain ⟨⟨t, p, r⟩⟩ := ha
  refine ⟨⟨_, pi_enum hg hm p hs, fun σ H F ρ fr Q R S h k => ?_⟩⟩
  refine r σ H F ρ fr _ _ S h fun vs H1 F1 ρ1 rs m hw o S1 k1 => ?_
  obtain ⟨ds, ρ2, F2, hw, dp, s, S2⟩ := frzs_ok (vs := vs) S1 o (fun a => by unfold padd; omega) hw
  have S2' : SI X.K F2 H1 σ ρ2 fr := S2.less fun a => by unfold padd; omega
  split at hw
  · rename_i es
    cases dp with
    | cons d1 d2 =>
      cases d2
      cases d1 with
      | @lst a xs _ hs ha =>
        refine ⟨a, xs, rfl, S2'.ex.seq hs, k _ H1 F2 ρ2 _ hw S2' (k1.trans (Kp.ofF s)) ?_⟩
        intro i F' H' s1 s2
        have h' : SqL X.K H' a xs := (s1.trans s2).seq hs
        refine ⟨fun hl => ⟨xs, h', by rw [enumD_len] at hl; rw [ha.length]; exact hl⟩, fun d hd => ?_⟩
        rw [enumD_get] at hd
        cases e : es[i]? with
        | none => rw [e] at hd; cases hd
        | some d0 =>
          rw [e] at hd
          cases hd
          obtain ⟨v, hv, dv⟩ := ha.get e
          refine ⟨⟨xs, v, h', hv⟩, fun x H'' y => .inr ?_⟩
          obtain ⟨T, x1, rfl, nT, rfl, f1⟩ := y
          have e1 : x1 = v := Option.some.inj ((f1 _ h').symm.trans hv)
          subst e1
          refine ⟨T, _, nT, rfl, .tup (SqT.of upd_same) (.cons ?_ (.cons ?_ .nil))⟩
          · rw [Nat.zero_add]
            exact .int _
          · exact dpm (fun b u q => by rw [upd_ne (ne_of_none q (fresh_F s2 nT))]; exact q) _ _ (dpm s1 _ _ dv)
  · exact hw.elim
end DL

namespace DL
open PySem PySem.Spec PyProof.Rows L2

/-! ### all(a list of truths), text.split(sep), a way that is never gone, -n -/
def boolsOf : List PyData → Option (List Bool)
  | [] => some []
  | .bool i :: r => (boolsOf r).map (i :: ·)
  | _ => none
theorem boolsOf_dp {K : PySem.W.Frag} {H : Hp} : ∀ {ds : List PyData} {vs : List V} {ns : List Bool}, DpAll K H vs ds → boolsOf ds = some ns → vs = ns.map V.bl
  | [], _, _, .nil, e => by cases e; rfl
  | d :: ds, _, _, .cons h t, e => by
    cases h with
    | bl i =>
      unfold boolsOf at e
      cases q : boolsOf ds with
      | none => rw [q] at e; cases e
      | some ms =>
        rw [q] at e
        cases e
        rw [List.map_cons, boolsOf_dp t q]
    | _ => cases e
def gAll : GN
  | [.list ds], G => (match boolsOf ds with | some ns => G (.bool (ns.all id)) | none => False)
  | _, _ => False
theorem o_all {K : PySem.W.Frag} : OpN K (rAll K) gAll := by
  intro xs ds H G Q hx hg k
  unfold gAll at hg
  split at hg
  · cases hx with
    | cons h t =>
      cases t
      cases h with
      | lst hs ha =>
        split at hg
        · rename_i ns e
          have := boolsOf_dp ha e
          subst this
          exact ⟨_, ns, rfl, hs, k _ _ (.bl _) hg⟩
        · exact hg.elim
  · exact hg.elim
def wM_split (wo : WE) (ws : WA) : WE := fun ρ Q => wo ρ fun r1 ρ1 => match r1.dat ρ1 with
  | some (.str a) => ws ρ1 fun rs ρ2 => dats rs ρ2 fun ds => (match ds with
    | [.str b] => ((b.length == 0) = false ∧ a.length + 2 ≤ sizeLine) ∧ ∀ p, Q (.tm (.lst p ((Txt.split a b).map .str))) ρ2
    | _ => False)
  | _ => False
theorem dpa_strs {K : PySem.W.Frag} {H : Hp} : ∀ ys : List Str, DpAll K H (ys.map V.str) (ys.map .str)
  | [] => .nil
  | y :: ys => .cons (.str y) (dpa_strs ys)
section
variable {X : Cx} {o e : Expr} {wo wa : WE} {ws : WA} {pos apos p : Pos}
theorem de_m_split (ho : DE X o wo) (he : DA X [e] ws) (hs : starEach [e] X.env = [(false, eval e X.env)] := by rfl) (hbase : attributeBase o "split" X.env (eval o X.env) = eval o X.env := by rfl) (hline : (apos.endLine == pos.line) = true := by rfl)
    (hfew : ((backTo pos (starEach (e :: []) X.env)).all (fun x => !x.1) && (backToKw pos (keywordEach [] X.env)).all (fun x => x.1.isSome) && decide ((e :: []).length + ([] : List Keyword).length + (if ([] : List Keyword).isEmpty then 0 else 1) < 30)) = true := by rfl)
    (hs2 : starEach (e :: []) X.env = (false, eval e X.env) :: starEach [] X.env := by rfl) (hplain : (backTo pos (starEach [] X.env)).any (·.1) = false := by rfl) :
    DE X (.Call (.Attribute o "split" apos) [e] [] pos) (wM_split wo ws) := by
  obtain ⟨⟨ta, pa, ra⟩⟩ := ho
  obtain ⟨⟨tb, pb, rb⟩⟩ := he
  refine ⟨⟨_, pe_bm PySem.F.plainAttrs_str PySem.F.slot_str_split PySem.F.type_str_split mt_split pa pb hbase hfew hline hs2 hplain, fun σ H F ρ fr Q Q' S hw k => ?_⟩⟩
  refine ra σ H F ρ fr _ _ S hw fun v1 H1 F1 ρ1 r1 m1 hw o1 S1 k1 => ?_
  split at hw
  · rename_i a ha
    have := o1.dp S1 ha
    cases this
    refine ⟨rfl, ?_⟩
    refine rb σ H1 F1 ρ1 _ _ _ S1 hw fun vs H2 F2 ρ2 rs m2 hw o2 S2 k2 => ?_
    obtain ⟨ds, dp, hw⟩ := dats_ok S2 o2 hw
    split at hw
    · rename_i b
      cases dp with
      | cons d1 d2 =>
        cases d2
        cases d1
        refine ⟨a, b, rfl, rfl, hw.1.1, hw.1.2, fun q hq => ?_⟩
        obtain ⟨S3, k3⟩ := S2.left.left.newL (o := .lst _) hq
        exact k _ _ _ ρ2 _ (one q) (hw.2 q) (own_lst upd_same (dpa_strs _) rfl) S3 ((k1.trans k2.left).trans k3)
    · exact hw.elim
  · exact hw.elim
def wNever : WS := fun _ _ => False
theorem ds_never {st : Stmt} : DS X st wNever := ⟨⟨_, ps_never, fun _ _ _ _ _ _ _ _ _ h => h.elim⟩⟩
def wNeg (wa : WE) : WE := fun ρ Q => wa ρ fun r ρ1 => match r.dat ρ1 with
  | some (.int i) => Q (.fz (.int (-i))) ρ1
  | _ => False
theorem de_neg (ha : DE X o wa) : DE X (.UnaryOp .USub o pos) (wNeg wa) := by
  obtain ⟨⟨ta, pa, ra⟩⟩ := ha
  refine ⟨⟨_, pe_un un_neg pa, fun σ H F ρ fr Q Q' S hw k => ?_⟩⟩
  refine ra σ H F ρ fr _ _ S hw fun v1 H1 F1 ρ1 r1 m1 hw o1 S1 k1 => ?_
  split at hw
  · rename_i i hi
    have := o1.dp S1 hi
    cases this
    exact ⟨i, rfl, k _ H1 F1 ρ1 _ z0 hw ⟨.int _, rfl⟩ S1.left k1⟩
  · exact hw.elim
end

/-! ### own lists of own lists -/
def wLcL (vs : List Nat) (wi : WI) (g : WG) (wt : WT) (we : WE) : WE := fun ρ Q => wi ρ fun xs ρ1 => still ρ1 vs ∧ ∃ I : Nat → List (List PyData) → Rho → Prop, I 0 [] (wipeR ρ1 vs) ∧
  (∀ i x ds ρ2, xs[i]? = some x → I i ds ρ2 → g x (wipeR ρ2 vs) fun ρ3 => wt ρ3 fun b ρ4 => bmt b (we ρ4 fun r ρ5 => match r with
    | .tm (.lst _ y) => ds.length < sizeLine ∧ I (i + 1) (ds ++ [y]) ρ5
    | _ => False) (I (i + 1) ds ρ4)) ∧
  ∀ ds ρ2, I xs.length ds ρ2 → ∀ p, Q (.tm (.lls p ds)) (restR ρ1 (wipeR ρ2 vs) vs)
section
variable {wi : WI} {g : WG} {wt : WT} {we : WE}
/-- a list of lists, its objects -/
structure LLs (K : PySem.W.Frag) (F H : Hp) (D : Addr) (acc : List V) (dss : List (List PyData)) (m : Fp) : Prop where
  ex : ∃ ps : List Addr, acc = ps.map V.ref ∧ ps.length = dss.length ∧ (∀ (i : Nat) q ds, ps[i]? = some q → dss[i]? = some ds → ∃ vs, H q = some (.lst vs) ∧ DpAll K F vs ds) ∧ (D :: ps).Nodup ∧ m = fun a => (D :: ps).count a
theorem lcL_run {K : PySem.W.Frag} {vs : List Nat} {ti : TI} {tg : TG} {tt : TT} {te : TE} (nd : vs.Nodup)
    (ri : ∀ (σ : Sg) (H F : Hp) (ρ : Rho) (fr : Fp) (Q : List PyData → Rho → Prop) (R : It → Hp → Prop), SI K F H σ ρ fr → wi ρ Q → (∀ xs H' F' ρ' J, Q xs ρ' → SI K F' H' σ ρ' fr → Kp F H fr F' H' → JOk K F' J xs → R J H') → ti σ H R)
    (rg : RGW K vs tg g) (rt : RT K tt wt) (re : RE K te we) : RE K (tLc ti tg tt te vs) (wLcL vs wi g wt we) := by
  intro σ H F ρ fr Q Q' S hw k
  refine ri σ H F ρ fr _ _ S hw fun xs H1 F1 ρ1 J a S1 k1 hJ => ?_
  obtain ⟨hst, I, i0, it, ie⟩ := a
  intro D hD
  obtain ⟨S2, k2⟩ := S1.newL (o := .lst []) hD
  have frD : ∀ {F H F' H' : Hp} {m : Fp}, m D = 1 → Kp F H (padd fr m) F' H' → H' D = H D := fun e k => k.keep D (by unfold padd; omega)
  refine ⟨fun i m H' => m = xs.length - i ∧ i ≤ xs.length ∧ ∃ ρ' F' acc ds mD, I i ds ρ' ∧ SI K F' H' (L2.wipe σ vs) (wipeR ρ' vs) (padd fr mD) ∧ Kp F1 H1 fr F' H' ∧ H' D = some (.lst acc) ∧ LLs K F' H' D acc ds mD, ⟨xs.length, by simp, Nat.zero_le _, wipeR ρ1 vs, F1, [], [], one D, i0, ?_, k2, upd_same, ⟨[], rfl, rfl, fun i q ds e => by simp at e, by simp, ?_⟩⟩, ?_⟩
  · have := (S2.wipe vs).wipe vs
    rw [wipe_wipe vs vs σ fun i hi => hi] at this
    exact this
  · funext a
    unfold one
    by_cases h : a = D
    · subst h; simp
    · rw [if_neg h, List.count_cons, List.count_nil, if_neg (by simpa using fun e => h e.symm)]
  · rintro i m H2 ⟨rfl, hi, ρ2, F2, acc, ds, mD, i2, S3, k3, hDl, ll⟩
    obtain ⟨jstop, jgo⟩ := hJ i F2 H2 k3.exF S3.ex
    have mDD : mD D = 1 := by
      obtain ⟨ps, _, _, _, n, e⟩ := ll.ex
      rw [e]
      show List.count D (D :: ps) = 1
      rw [List.count_cons_self, List.count_eq_zero.mpr (List.nodup_cons.mp n).1]
    by_cases hlt : i < xs.length
    · obtain ⟨x, hx⟩ : ∃ x, xs[i]? = some x := ⟨xs[i], by simp [hlt]⟩
      obtain ⟨go, yl⟩ := jgo x hx
      refine .inr ⟨go, fun H' => ∃ ρ' F' acc ds mD, I (i + 1) ds ρ' ∧ SI K F' H' (L2.wipe σ vs) (wipeR ρ' vs) (padd fr mD) ∧ Kp F1 H1 fr F' H' ∧ H' D = some (.lst acc) ∧ LLs K F' H' D acc ds mD, fun H' n => ⟨xs.length - (i + 1), by omega, rfl, hlt, n⟩, fun v H3 y => ?_⟩
      have llk : ∀ {F H F' H' : Hp}, LLs K F H D acc ds mD → Kp F H (padd fr mD) F' H' → LLs K F' H' D acc ds mD := by
        intro F H F' H' l k
        obtain ⟨ps, e1, e2, e3, e4, e5⟩ := l.ex
        refine ⟨ps, e1, e2, fun i q ds a b => ?_, e4, e5⟩
        obtain ⟨vs, h1, h2⟩ := e3 i q ds a b
        refine ⟨vs, (k.keep q ?_).trans h1, dpam k.exF _ _ h2⟩
        have hm : q ∈ D :: ps := List.mem_cons_of_mem _ (List.mem_of_getElem? a)
        have := List.count_pos_iff.mpr hm
        unfold padd
        rw [e5]
        show fr q + List.count q (D :: ps) ≠ 0
        omega
      have main : ∀ F3, SI K F3 H3 (L2.wipe σ vs) (wipeR ρ2 vs) (padd fr mD) → Kp F1 H1 fr F3 H3 → H3 D = some (.lst acc) → LLs K F3 H3 D acc ds mD → Dp K F3 v x → tg v (L2.wipe σ vs) H3 fun σ2 H2 => L2.wipe σ2 vs = L2.wipe σ vs ∧ tt σ2 H2 fun b H3 =>
          if b = true then te σ2 H3 fun y H4 => ∃ acc, H4 D = some (.lst acc) ∧ acc.length < sizeLine ∧ (∃ ρ' F' acc' ds mD, I (i + 1) ds ρ' ∧ SI K F' (upd H4 D (.lst (acc ++ [y]))) (L2.wipe σ vs) (wipeR ρ' vs) (padd fr mD) ∧ Kp F1 H1 fr F' (upd H4 D (.lst (acc ++ [y]))) ∧ (upd H4 D (.lst (acc ++ [y]))) D = some (.lst acc') ∧ LLs K F' (upd H4 D (.lst (acc ++ [y]))) D acc' ds mD)
          else (∃ ρ' F' acc ds mD, I (i + 1) ds ρ' ∧ SI K F' H3 (L2.wipe σ vs) (wipeR ρ' vs) (padd fr mD) ∧ Kp F1 H1 fr F' H3 ∧ H3 D = some (.lst acc) ∧ LLs K F' H3 D acc ds mD) := by
        intro F3 S4 k4 hD3 l3 dp
        refine rg (L2.wipe σ vs) H3 F3 _ _ x v _ _ S4 dp (it i x ds ρ2 hx i2) fun σ5 H5 F5 ρ5 a w5 S5 k5 => ?_
        rw [wipe_wipe vs vs σ fun i hi => hi] at w5
        refine ⟨w5, ?_⟩
        refine rt σ5 H5 F5 ρ5 _ _ _ S5 a fun b H6 F6 ρ6 a S6 k6 => ?_
        cases b with
        | true =>
          rw [if_pos rfl]
          refine re σ5 H6 F6 ρ6 _ _ _ S6 a fun yv H7 F7 ρ7 r7 m7 a o7 S7 k7 => ?_
          have l7 : LLs K F7 H7 D acc ds mD := llk (llk (llk l3 k5) k6) k7
          have hD7 : H7 D = some (.lst acc) := (frD mDD k7).trans ((frD mDD k6).trans ((frD mDD k5).trans hD3))
          have kk : Kp F1 H1 fr F7 H7 := ((k4.trans k5.left).trans k6.left).trans k7.left
          split at a
          · rename_i q y
            obtain ⟨vs', rfl, hq, dq, rfl⟩ := o7
            obtain ⟨ps, e1, e2, e3, e4, e5⟩ := l7.ex
            obtain ⟨m9, w9, q9⟩ := (S7.wipe vs).own
            rw [w5] at w9
            have oneq : one q q = 1 := by unfold one; rw [if_pos rfl]
            have hnq : q ∉ D :: ps := fun hm => by
              have := List.count_pos_iff.mpr hm
              have q1 := (q9 q).1
              unfold padd at q1
              have e6 : mD q = List.count q (D :: ps) := by rw [e5]
              omega
            have hqD : q ≠ D := fun e => hnq (by simp [e])
            have hz : m9 D = 0 ∧ fr D = 0 := by
              have := (q9 D).1
              unfold padd at this
              omega
            have hFD : F7 D = none := ((q9 D).2 (by unfold padd; omega)).1
            have nm : (fun a => List.count a (D :: (ps ++ [q]))) = padd mD (one q) := by
              funext a
              unfold padd
              rw [e5]
              show List.count a (D :: (ps ++ [q])) = List.count a (D :: ps) + one q a
              rw [show D :: (ps ++ [q]) = (D :: ps) ++ [q] from rfl, List.count_append]
              congr 1
              unfold one
              by_cases h : a = q
              · subst h; simp
              · rw [if_neg h, List.count_cons, List.count_nil, if_neg (by simpa using fun e => h e.symm)]
            refine ⟨acc, hD7, by rw [e1, List.length_map, e2]; exact a.1, ρ7, F7, acc ++ [.ref q], ds ++ [y], padd mD (one q), a.2, ⟨fun b u e => ?_, m9, w9.kp (Same.refl _) fun c z => upd_ne fun e => by subst e; omega, fun c => ?_⟩, ⟨kk.exF, fun c z => ?_, fun c z => ?_⟩, upd_same, ⟨ps ++ [q], by rw [e1, List.map_append]; rfl, by simp [e2], fun j r es a b => ?_, ?_, nm.symm⟩⟩
            · rw [upd_ne fun e' => by subst e'; rw [hFD] at e; cases e]
              exact S7.ex b u e
            · have e7 : padd fr (padd mD (one q)) c = padd (padd fr mD) (one q) c := by unfold padd; omega
              rw [e7]
              refine ⟨(q9 c).1, fun z => ⟨((q9 c).2 z).1, ?_⟩⟩
              by_cases hc : c = D
              · subst hc; rw [upd_same]; simp
              · rw [upd_ne hc]; exact ((q9 c).2 z).2
            · rw [upd_ne fun e => by subst e; omega]
              exact kk.keep c z
            · by_cases hc : c = D
              · subst hc; rw [upd_same]; simp
              · rw [upd_ne hc]; exact kk.grow c z
            · have hr : r ≠ D := by
                rcases List.mem_append.mp (List.mem_of_getElem? a) with h | h
                · exact fun e => (List.nodup_cons.mp e4).1 (e ▸ h)
                · rw [List.mem_singleton.mp h]; exact hqD
              rw [upd_ne hr]
              by_cases hj : j < ps.length
              · rw [List.getElem?_append_left hj] at a
                rw [List.getElem?_append_left (by omega)] at b
                exact e3 j r es a b
              · have hj2 : j = ps.length := by
                  have := (List.getElem?_eq_some_iff.mp a).1
                  simp at this
                  omega
                subst hj2
                rw [List.getElem?_append_right (Nat.le_refl _)] at a
                rw [e2, List.getElem?_append_right (Nat.le_refl _)] at b
                simp at a b
                subst a b
                exact ⟨vs', hq, dq⟩
            · rw [show D :: (ps ++ [q]) = (D :: ps) ++ [q] from rfl]
              exact List.nodup_append.mpr ⟨e4, by simp, fun a ha b hb e => by rw [List.mem_singleton.mp hb] at e; subst e; exact hnq ha⟩
          · exact a.elim
        | false =>
          rw [if_neg Bool.false_ne_true]
          refine ⟨ρ6, F6, acc, ds, mD, a, ?_, (k4.trans k5.left).trans k6.left, (frD mDD k6).trans ((frD mDD k5).trans hD3), llk (llk l3 k5) k6⟩
          have := S6.wipe vs
          rw [w5] at this
          exact this
      rcases yl v H3 y with ⟨rfl, dp⟩ | ⟨p, u, hp, rfl, dp⟩
      · exact main F2 S3 k3 hDl ll dp
      · obtain ⟨S4, s4, k4⟩ := S3.newF (o := u) hp
        have hne : D ≠ p := fun e => by subst e; rw [hDl] at hp; cases hp
        exact main _ S4 (k3.trans k4.left) (by rw [upd_ne hne]; exact hDl) (llk ll k4) dp
    · have e' : i = xs.length := by omega
      subst e'
      refine .inl ⟨jstop (Nat.le_refl _), ?_⟩
      obtain ⟨m9, w9, q9⟩ := S3.own
      obtain ⟨ρ', w10, rfl⟩ := OwnS.rest (ρ0 := ρ1) w9 (fun i hi => by
        rcases still_ok S1 hst i hi with e | ⟨t, u, e1, e2, e3⟩
        · exact .inl e
        · exact .inr ⟨t, u, e1, e2, OwnT.z e3 k3.exF⟩) nd
      obtain ⟨ps, rfl, e2, e3, e4, e5⟩ := ll.ex
      refine k _ H2 F2 _ _ mD (ie ds ρ2 i2 D) ?_ ⟨S3.ex, m9, w10, q9⟩ (k1.trans k3)
      exact ⟨ps, rfl, hDl, e2, e3, e4, e5⟩
end
section
variable {X : Cx} {elt tg iter : Expr} {ifs : List Expr} {scope : Scope} {own : List (Str × Nat)} {pos : Pos} {wi : WI} {g : WG} {wt : WT} {we : WE}
theorem ds_setLcL {vs : List Nat} {i : Nat} {y : Str} {py spos : Pos} (hvs : own.map (·.2) = vs) (nd : vs.Nodup) (hc : X.calm = true) (hN : X.N.Nodup) (hy : X.N[i]? = some y) (hyl : X.env.scope.names.lookup y = some .local)
    (hsw : swapsWith (.ListComp elt [⟨tg, iter, ifs, 0⟩] scope pos) (some (.Name y py)) spos.line X.env = pure true) (hi : DI X tg iter wi) (ok : BlkOk X.N X.env.scope scope own)
    (hg : ∀ (s : Shared) (H : Hp) (C : Addr) (cl : List (Str × Addr)) (fp : List Addr), DGW (X.blk s H scope (compEnvC scope cl C X.env) fp) vs tg g) (ht : ∀ (s : Shared) (H : Hp) (C : Addr) (cl : List (Str × Addr)) (fp : List Addr), DTs (X.blk s H scope (compEnvC scope cl C X.env) fp) ifs wt)
    (he : ∀ (s : Shared) (H : Hp) (C : Addr) (cl : List (Str × Addr)) (fp : List Addr), DE (X.blk s H scope (compEnvC scope cl C X.env) fp) elt we) (hs : ∀ x, foldedSetIterable iter X.env x = pure x := by intro _; rfl) :
    DS X (.Assign [.Name y py] (.ListComp elt [⟨tg, iter, ifs, 0⟩] scope pos) spos) (wSet (wLcL vs wi g wt we) i) := by
  subst hvs
  obtain ⟨⟨ti, pi, ri⟩⟩ := hi
  obtain ⟨a, b, c, pa, pb, pc, ra, rb, rc⟩ := lc_parts hg ht he
  refine ⟨⟨_, ps_setLc hc hN hy hyl hsw pi ok pa pb pc hs, fun σ H F ρ fr d e S E h => ?_⟩⟩
  refine lcL_run nd ri ra rb rc σ H F ρ fr _ _ S h fun v H' F' ρ' r m a b c k => ?_
  obtain ⟨ρ2, F2, q, S2, s⟩ := toSlot_ok c b a
  exact E.nx _ H' F2 ρ2 q S2 (k.trans (Kp.ofF s))
end
end DL

namespace DL
open PySem PySem.Spec PyProof.Rows L2

def isLL (ρ : Rho) (i : Nat) (k : Prop) : Prop := match look ρ i with
  | some (.lls _ _) => k
  | _ => False
theorem isLL_iff {ρ : Rho} {i : Nat} {k : Prop} (h : isLL ρ i k) : (∃ q ds, look ρ i = some (.lls q ds)) ∧ k := by
  unfold isLL at h
  split at h
  · exact ⟨⟨_, _, by assumption⟩, h⟩
  · exact h.elim
def wIxx (i : Nat) (wa wb : WE) : WE := fun ρ Q => isLL ρ i <| wa ρ fun ra ρ1 => match look ρ1 i, ra.dat ρ1 with
  | some (.lls p dss), some (.int k) => (match atI dss k with
    | some ds => wb (ρ1.set i none) fun rb ρ2 => (match rb.dat ρ2 with
      | some (.int j) => (match atI ds j with
        | some d => Q (.fz d) (ρ2.set i (some (.lls p dss)))
        | none => False)
      | _ => False)
    | none => False)
  | _, _ => False
def wSubb (i : Nat) (w1 w2 wa : WE) : WS := fun d ρ => wa ρ fun r ρ1 => frz r ρ1 fun x ρ2 => isLL ρ2 i <| w1 ρ2 fun ra ρ3 => match look ρ3 i, ra.dat ρ3 with
  | some (.lls p dss), some (.int k) => (match ixN dss.length k with
    | some kk => (match dss[kk]? with
      | some ds => w2 (ρ3.set i none) fun rb ρ4 => (match rb.dat ρ4 with
        | some (.int j) => (match ixN ds.length j with
          | some jj => d.nx (ρ4.set i (some (.lls p (dss.set kk (ds.set jj x)))))
          | none => False)
        | _ => False)
      | none => False)
    | none => False)
  | _, _ => False
section
variable {K : PySem.W.Frag} {F H F' H' : Hp} {σ : Sg} {ρ : Rho} {fr : Fp} {i : Nat} {t : OT}
/-- a slot taken out, its things framed -/
theorem SI.out (S : SI K F H σ ρ fr) (h : look ρ i = some t) : ∃ v m1, σ[i]? = some (some v) ∧ OwnT K F H t v m1 ∧ SI K F H σ (ρ.set i none) (padd fr m1) := by
  obtain ⟨m, ow, q⟩ := S.own
  obtain ⟨m1, m2, em, h1, _, _, h2, _⟩ := ow.at (look_lt h)
  obtain ⟨v, e1, o1⟩ := h1 t h
  refine ⟨v, m1, e1, o1, S.ex, m2, h2, fun a => ?_⟩
  have := q a
  rw [em] at this
  unfold padd at this ⊢
  exact ⟨by omega, fun z => this.2 (by omega)⟩
/-- .. and back -/
theorem SI.inn {m1 : Fp} {v : V} (S : SI K F H σ ρ (padd fr m1)) (o : OwnT K F H t v m1) (hv : σ[i]? = some (some v)) : SI K F H σ (ρ.set i (some t)) fr := by
  have := S.set o i
  rw [set_self hv] at this
  exact this
theorem lls_at {p : Addr} {dss : List (List PyData)} {v : V} {m : Fp} {k : Int} {ds : List PyData} (o : OwnT K F H (.lls p dss) v m) (e : atI dss k = some ds) :
    ∃ vs q ws, v = .ref p ∧ H p = some (.lst vs) ∧ atI vs k = some (.ref q) ∧ H q = some (.lst ws) ∧ DpAll K F ws ds ∧ m q ≠ 0 := by
  obtain ⟨ps, rfl, hp, hl, hi, nd, rfl⟩ := o
  unfold atI at e
  cases q : ixN dss.length k with
  | none => rw [q] at e; cases e
  | some j =>
    rw [q] at e
    have e : dss[j]? = some ds := e
    have hj : j < ps.length := by rw [hl]; exact (List.getElem?_eq_some_iff.mp e).1
    obtain ⟨ws, h1, h2⟩ := hi j ps[j] ds (List.getElem?_eq_getElem hj) e
    refine ⟨ps.map V.ref, ps[j], ws, rfl, hp, ?_, h1, h2, ?_⟩
    · unfold atI
      rw [List.length_map, hl, q]
      show (ps.map V.ref)[j]? = _
      rw [List.getElem?_map, List.getElem?_eq_getElem hj]
      rfl
    · have := List.count_pos_iff.mpr (List.mem_cons_of_mem p (List.getElem_mem hj))
      show List.count ps[j] (p :: ps) ≠ 0
      omega
end
section
variable {X : Cx} {a b e : Expr} {wa wb we w1 w2 : WE} {pos pos2 p0 tpos : Pos} {x : Str} {i : Nat}
theorem de_ix2 (hN : X.N[i]? = some x) (hv : Vis X.env.scope x) (ha : DE X a wa) (hb : DE X b wb) (hs : PlainIx a := by exact fun _ _ => rfl) (hs2 : PlainIx b := by exact fun _ _ => rfl)
    (hd : (x == ("__debug__" : Str)) = false := by decide) (hcd : (x == ("__classdict__" : Str)) = false := by decide) : DE X (.Subscript (.Subscript (.Name x p0) a pos2) b pos) (wIxx i wa wb) := by
  obtain ⟨⟨ta, pa, ra⟩⟩ := ha
  obtain ⟨⟨tb, pb, rb⟩⟩ := hb
  refine ⟨⟨_, pe_ix ix_seq (pe_ix ix_seq (pe_var hN hv hd hcd) pa hs) pb hs2, fun σ H F ρ fr Q Q' S hw k => ?_⟩⟩
  obtain ⟨⟨q0, ds0, e0⟩, hw⟩ := isLL_iff hw
  obtain ⟨v0, _, ev, _⟩ := S.slot e0
  refine ⟨v0, ev, ?_⟩
  refine ra σ H F ρ fr _ _ S hw fun v1 H1 F1 ρ1 r1 m1 hw o1 S1 k1 => ?_
  split at hw
  · rename_i p dss kk e1 e2
    have := o1.dp S1 e2
    cases this
    split at hw
    · rename_i ds e3
      obtain ⟨v, m2, ev2, o2, S2⟩ := S1.left.out e1
      rw [ev] at ev2
      cases ev2
      obtain ⟨vs, q, ws, rfl, hp, hq, hq2, dws, mq⟩ := lls_at o2 e3
      refine .inl ⟨p, vs, kk, .ref q, rfl, rfl, SqL.of hp, hq, ?_⟩
      refine rb σ H1 F1 _ _ _ _ S2 hw fun v3 H3 F3 ρ3 r3 m3 hw o3 S3 k3 => ?_
      split at hw
      · rename_i j e4
        have := o3.dp S3 e4
        cases this
        split at hw
        · rename_i dd e5
          have hq3 : H3 q = some (.lst ws) := (k3.keep q (by unfold padd; omega)).trans hq2
          obtain ⟨u, e6, du⟩ := ix_get (dpam k3.exF _ _ dws) e5
          have o4 : OwnT X.K F3 H3 (.lls p dss) (.ref p) m2 := o2.kp k3.exF fun a z => k3.keep a (by unfold padd; omega)
          exact .inl ⟨q, ws, j, u, rfl, rfl, SqL.of hq3, e6, k u H3 F3 _ (.fz dd) z0 hw ⟨du, rfl⟩ (S3.left.inn o4 ev) (k1.trans k3.left)⟩
        · exact hw.elim
      · exact hw.elim
    · exact hw.elim
  · exact hw.elim
theorem ds_sub2 (hN : X.N[i]? = some x) (hv : Vis X.env.scope x) (ha : DE X a w1) (hb : DE X b w2) (he : DE X e we) (hs1 : PlainIx a := by exact fun _ _ => rfl)
    (hd : (x == ("__debug__" : Str)) = false := by decide) (hcd : (x == ("__classdict__" : Str)) = false := by decide)
    (h2 : ∀ v, assign (.Subscript (.Subscript (.Name x p0) a pos2) b tpos) X.env v = (do
      let ov ← holding [v] (eval (.Subscript (.Name x p0) a pos2) X.env)
      let iv ← holding [v, ov] (eval b X.env)
      standAt tpos
      holding [v, ov, iv] (setItem ov iv v)
      release [v, ov, iv] []) := by intro _; rfl)
    (hs : swapsWithSole [.Subscript (.Subscript (.Name x p0) a pos2) b tpos] e pos.line X.env = pure false := by rfl) (hw : swappedStores [.Subscript (.Subscript (.Name x p0) a pos2) b tpos] e X.env = pure none := by rfl)
    (h1 : (assignEach [.Subscript (.Subscript (.Name x p0) a pos2) b tpos] X.env).map (·.2) = [assign (.Subscript (.Subscript (.Name x p0) a pos2) b tpos) X.env] := by rfl) :
    DS X (.Assign [.Subscript (.Subscript (.Name x p0) a pos2) b tpos] e pos) (wSubb i w1 w2 we) := by
  obtain ⟨⟨ta, pa, ra⟩⟩ := ha
  obtain ⟨⟨tb, pb, rb⟩⟩ := hb
  obtain ⟨⟨te, pe, re⟩⟩ := he
  refine ⟨⟨_, ps_asg pe (pg_sub (pe_ix ix_seq (pe_var hN hv hd hcd) pa hs1) pb set_list h2) hs hw h1, fun σ H F ρ fr d e S E h => ?_⟩⟩
  refine re σ H F ρ fr _ _ S h fun v H1 F1 ρ1 r1 m hw oo cc k1 => ?_
  obtain ⟨y, ρ2, F2, hw, dp, s, S2⟩ := frz_ok cc oo (fun a => by unfold padd; omega) hw
  have S2' : SI X.K F2 H1 σ ρ2 fr := S2.less fun a => by unfold padd; omega
  obtain ⟨⟨q0, ds0, e0⟩, hw⟩ := isLL_iff hw
  obtain ⟨v0, _, ev, _⟩ := S2'.slot e0
  refine ⟨v0, ev, ?_⟩
  refine ra σ H1 F2 ρ2 fr _ _ S2' hw fun v1 H3 F3 ρ3 r3 m3 hw o3 S3 k3 => ?_
  split at hw
  · rename_i p dss kk e1 e2
    have := o3.dp S3 e2
    cases this
    split at hw
    · rename_i kn en
      split at hw
      · rename_i ds e3
        obtain ⟨vv, m2, ev2, o2, S4⟩ := S3.left.out e1
        rw [ev] at ev2
        cases ev2
        have e3' : atI dss kk = some ds := by unfold atI; rw [en]; exact e3
        obtain ⟨ps, rfl, hp, hl, hi, nd, hm⟩ := id o2
        have hj : kn < ps.length := by rw [hl]; exact (List.getElem?_eq_some_iff.mp e3).1
        obtain ⟨ws, hq2, dws⟩ := hi kn ps[kn] ds (List.getElem?_eq_getElem hj) e3
        have hq : atI (ps.map V.ref) kk = some (.ref ps[kn]) := by
          unfold atI
          rw [List.length_map, hl, en]
          show (ps.map V.ref)[kn]? = _
          rw [List.getElem?_map, List.getElem?_eq_getElem hj]
          rfl
        have mq : m2 ps[kn] ≠ 0 := by
          have := List.count_pos_iff.mpr (List.mem_cons_of_mem p (List.getElem_mem hj))
          rw [hm]
          show List.count ps[kn] (p :: ps) ≠ 0
          omega
        refine .inl ⟨p, _, kk, .ref ps[kn], rfl, rfl, SqL.of hp, hq, ?_⟩
        refine rb σ H3 F3 _ _ _ _ S4 hw fun v5 H5 F5 ρ5 r5 m5 hw o5 S5 k5 => ?_
        split at hw
        · rename_i j e4
          have := o5.dp S5 e4
          cases this
          split at hw
          · rename_i jj e5
            have kp5 : ∀ a, m2 a ≠ 0 → H5 a = H3 a := fun a z => k5.keep a (by unfold padd; omega)
            have hq3 : H5 ps[kn] = some (.lst ws) := (kp5 _ mq).trans hq2
            refine ⟨ps[kn], ws, j, jj, rfl, rfl, hq3, by rw [dws.length]; exact e5, ?_⟩
            -- the list written
            have hpn : p ∉ ps := (List.nodup_cons.mp nd).1
            have hne : p ≠ ps[kn] := fun e => hpn (e ▸ List.getElem_mem hj)
            have nps : ps.Nodup := (List.nodup_cons.mp nd).2
            have mp : m2 p ≠ 0 := by
              rw [hm]
              show List.count p (p :: ps) ≠ 0
              rw [List.count_cons_self]
              omega
            have o6 : OwnT X.K F5 (upd H5 ps[kn] (.lst (ws.set jj v))) (.lls p (dss.set kn (ds.set jj y))) (.ref p) m2 := by
              refine ⟨ps, rfl, by rw [upd_ne hne]; exact (kp5 p mp).trans hp, by rw [List.length_set]; exact hl, fun b r es hb hes => ?_, nd, hm⟩
              by_cases hbk : b = kn
              · subst hbk
                rw [List.getElem?_eq_getElem hj] at hb
                cases hb
                rw [List.getElem?_set_self (by rw [← hl]; exact hj)] at hes
                cases hes
                exact ⟨_, upd_same, (dpam k5.exF _ _ dws).set (dpm (k3.exF.trans k5.exF) _ _ dp) jj⟩
              · rw [List.getElem?_set_ne (Ne.symm hbk)] at hes
                obtain ⟨us, h1, h2⟩ := hi b r es hb hes
                have hr : r ≠ ps[kn] := fun e => hbk (by
                  obtain ⟨hb1, hb2⟩ := List.getElem?_eq_some_iff.mp hb
                  exact (List.getElem_inj nps).mp (hb2.trans e))
                have mr : m2 r ≠ 0 := by
                  have := List.count_pos_iff.mpr (List.mem_cons_of_mem p (List.mem_of_getElem? hb))
                  rw [hm]
                  show List.count r (p :: ps) ≠ 0
                  omega
                exact ⟨us, by rw [upd_ne hr]; exact (kp5 r mr).trans h1, dpam k5.exF _ _ h2⟩
            obtain ⟨m9, w9, q9⟩ := S5.left.own
            have zq : m9 ps[kn] = 0 ∧ fr ps[kn] = 0 := by
              have := (q9 ps[kn]).1
              unfold padd at this
              omega
            have hFq : F5 ps[kn] = none := ((q9 ps[kn]).2 (by unfold padd; omega)).1
            have S6 : SI X.K F5 (upd H5 ps[kn] (.lst (ws.set jj v))) σ ρ5 (padd fr m2) := by
              refine ⟨fun b u e => ?_, m9, w9.kp (Same.refl _) fun c z => upd_ne fun e => by subst e; omega, fun c => ⟨(q9 c).1, fun z => ⟨((q9 c).2 z).1, ?_⟩⟩⟩
              · rw [upd_ne fun e' => by subst e'; rw [hFq] at e; cases e]
                exact S5.ex b u e
              · by_cases hc : c = ps[kn]
                · subst hc; rw [upd_same]; simp
                · rw [upd_ne hc]; exact ((q9 c).2 z).2
            refine E.nx σ _ F5 _ hw (S6.inn o6 ev) ((((k1.trans (Kp.ofF s)).trans k3).trans k5.left).trans ⟨Same.refl _, fun c z => upd_ne fun e => by subst e; omega, fun c z => ?_⟩)
            by_cases hc : c = ps[kn]
            · subst hc; rw [upd_same]; simp
            · rw [upd_ne hc]; exact z
          · exact hw.elim
        · exact hw.elim
      · exact hw.elim
    · exact hw.elim
  · exact hw.elim
end
end DL

namespace DL
open PySem PySem.Spec PyProof.Rows L2
/-! ### x in l, x not in l: l a list or a tuple of data -/
def inSeq (f : Bool → Bool) (d : PyData) (ds : List PyData) (G : PyData → Prop) : Prop := SeqAt.shaped d = true ∧ SeqAt.shaped (.list ds) = true ∧ G (.bool (f (ds.any fun z => PyData.eqv z d)))
def gInF (f : Bool → Bool) : G2 := fun d e G => match e with
  | .list ds => inSeq f d ds G
  | .tuple ds => inSeq f d ds G
  | _ => False
def gIn : G2 := gInF fun b => b
def gNotIn : G2 := gInF fun b => !b
def rInF (f : Bool → Bool) (K : PySem.W.Frag) : R2 := fun x y H Q => ∃ d e, Dp K H x d ∧ Dp K H y e ∧ gInF f d e fun d' => ∃ k, d' = .bool k ∧ Q (.bl k) H
theorem o_inF {f : Bool → Bool} {K : PySem.W.Frag} : Op2 K (rInF f K) (gInF f) := by
  intro x y d e H G Q hx hy hg k
  refine ⟨d, e, hx, hy, ?_⟩
  unfold gInF at hg ⊢
  split at hg
  · exact ⟨hg.1, hg.2.1, _, rfl, k _ _ (.bl _) hg.2.2⟩
  · exact ⟨hg.1, hg.2.1, _, rfl, k _ _ (.bl _) hg.2.2⟩
  · exact hg.elim
section
variable {X : Cx}
theorem op_inA (hu : X.A.units + 65 < cLine) : OpR X (compareOp .In) (rInF (fun b => b) X.K) := by
  intro pins s σ H x y v u Q I rx ry h
  obtain ⟨d, e, hd, he, q⟩ := h
  obtain ⟨as, r1⟩ := Dp.reads I d x v hd rx
  obtain ⟨bs, r2⟩ := Dp.reads I e y u he ry
  unfold gInF at q
  split at q
  · obtain ⟨sd, se, k, e, q⟩ := q
    cases e
    exact SeqAt.in_list_reads r2 r1 (SeqAt.canLay_of_shaped se) (SeqAt.canLay_of_shaped sd) (room_in_shaped sd hu) ⟨.bl _, H, I, rfl, q⟩
  · obtain ⟨sd, se, k, e, q⟩ := q
    cases e
    exact SeqAt.in_tuple_reads r2 r1 (SeqAt.canLay_of_shaped se) (SeqAt.canLay_of_shaped sd) (room_in_shaped sd hu) ⟨.bl _, H, I, rfl, q⟩
  · exact q.elim
theorem op_notInA (hu : X.A.units + 65 < cLine) : OpR X (compareOp .NotIn) (rInF (fun b => !b) X.K) := by
  intro pins s σ H x y v u Q I rx ry h
  obtain ⟨d, e, hd, he, q⟩ := h
  obtain ⟨as, r1⟩ := Dp.reads I d x v hd rx
  obtain ⟨bs, r2⟩ := Dp.reads I e y u he ry
  unfold gInF at q
  split at q
  · obtain ⟨sd, se, k, e, q⟩ := q
    cases e
    exact SeqAt.notIn_list_reads r2 r1 (SeqAt.canLay_of_shaped se) (SeqAt.canLay_of_shaped sd) (room_in_shaped sd hu) ⟨.bl _, H, I, rfl, q⟩
  · obtain ⟨sd, se, k, e, q⟩ := q
    cases e
    exact SeqAt.notIn_tuple_reads r2 r1 (SeqAt.canLay_of_shaped se) (SeqAt.canLay_of_shaped sd) (room_in_shaped sd hu) ⟨.bl _, H, I, rfl, q⟩
  · exact q.elim
variable {a b : Expr} {wa wb : WE} {pos : Pos} {k : Nat}
theorem units65 {A : Around} (r : Room k A) : A.units + 65 < cLine := by
  have := r.un
  omega
theorem de_in (hr : Room k X.A) (ha : DE X a wa) (hb : DE X b wb) (hm : behindInMarks .In b = false := by rfl) : DE X (.Compare a [.In] [b] pos) (wOp2 gIn wa wb) := de_cmp (op_inA (units65 hr)) o_inF ha hb hm
theorem de_notIn (hr : Room k X.A) (ha : DE X a wa) (hb : DE X b wb) (hm : behindInMarks .NotIn b = false := by rfl) : DE X (.Compare a [.NotIn] [b] pos) (wOp2 gNotIn wa wb) := de_cmp (op_notInA (units65 hr)) o_inF ha hb hm
theorem dt_in (hr : Room k X.A) (ha : DE X a wa) (hb : DE X b wb) (hm : behindInMarks .In b = false := by rfl) : DT X (.Compare a [.In] [b] pos) (wTst (wOp2 gIn wa wb)) := dt_cmp (op_inA (units65 hr)) o_inF ha hb hm
theorem dt_notIn (hr : Room k X.A) (ha : DE X a wa) (hb : DE X b wb) (hm : behindInMarks .NotIn b = false := by rfl) : DT X (.Compare a [.NotIn] [b] pos) (wTst (wOp2 gNotIn wa wb)) := dt_cmp (op_notInA (units65 hr)) o_inF ha hb hm
end
end DL

namespace DL
open PySem PySem.Spec PyProof.Rows L2
/-! ### l.extend(a list made just now) -/
def wExt (i : Nat) (wa : WE) : WS := fun d ρ => isOwn ρ i <| wa ρ fun r ρ1 => match look ρ1 i, ownL r ρ1 with
  | some (.lst p ds), some es => ds.length + es.length ≤ sizeLine ∧ d.nx (ρ1.set i (some (.lst p (ds ++ es))))
  | _, _ => False
section
variable {X : Cx} {e : Expr} {wa : WE} {pos apos cpos p0 : Pos} {x : Str} {i : Nat}
theorem ds_ext (hN : X.N[i]? = some x) (hv : Vis X.env.scope x) (ha : DE X e wa)
    (hd : (x == ("__debug__" : Str)) = false := by decide) (hcd : (x == ("__classdict__" : Str)) = false := by decide)
    (hbase : attributeBase (.Name x p0) "extend" X.env (eval (.Name x p0) X.env) = eval (.Name x p0) X.env := by rfl)
    (hfew : ((backTo cpos (starEach [e] X.env)).all (fun x => !x.1) && (backToKw cpos (keywordEach [] X.env)).all (fun x => x.1.isSome)
      && decide ([e].length + ([] : List Keyword).length + (if ([] : List Keyword).isEmpty then 0 else 1) < 30)) = true := by rfl)
    (hline : (apos.endLine == cpos.line) = true := by rfl) (hs : starEach (e :: []) X.env = (false, eval e X.env) :: starEach [] X.env := by rfl) (hplain : (backTo cpos (starEach [] X.env)).any (·.1) = false := by rfl)
    (hsw : swapsWith (.Call (.Attribute (.Name x p0) "extend" apos) [e] [] cpos) none pos.line X.env = pure false := by rfl) :
    DS X (.Expr (.Call (.Attribute (.Name x p0) "extend" apos) [e] [] cpos) pos) (wExt i wa) := by
  obtain ⟨⟨t, p, r⟩⟩ := ha
  refine ⟨⟨_, ps_expr (pe_bm PySem.F.plainAttrs_list PySem.F.slot_list_extend PySem.F.type_list_extend mt_extend (pe_var hN hv hd hcd) (pa_cons p pa_nil hs) hbase hfew hline hs hplain) hsw, fun σ H F ρ fr d e S E h => ?_⟩⟩
  obtain ⟨⟨q, ds0, e0⟩, h⟩ := isOwn_iff h
  obtain ⟨vs, e1, hp, _, _⟩ := S.lst e0
  refine ⟨.ref q, e1, .inl ⟨rfl, _, SqL.of hp⟩, ?_⟩
  refine r σ H F ρ fr _ _ S h fun v H1 F1 ρ1 r1 m a b c k1 => ?_
  split at a
  · rename_i q' ds es e2 e3
    obtain ⟨pz, zs, rfl, hz, hza⟩ := ownL_ok b c e3
    have c' : SI X.K F1 H1 σ ρ1 fr := c.less fun a => by unfold padd; omega
    obtain ⟨vs', e1', hp', ha', fin⟩ := c'.lst e2
    rw [e1] at e1'
    cases e1'
    obtain ⟨S3, k3⟩ := fin (vs' ++ zs) (ds ++ es) (ha'.append hza)
    exact ⟨q, pz, vs', zs, rfl, rfl, hp', hz, by rw [ha'.length, hza.length]; exact a.1, E.nx σ _ F1 _ a.2 S3 (k1.trans k3)⟩
  · exact a.elim
end
/-! ### zip of two lists, of two tuples -/
def zipD : List PyData → List PyData → List PyData
  | d :: ds, e :: es => .tuple [d, e] :: zipD ds es
  | _, _ => []
theorem zipD_len : ∀ xs ys : List PyData, (zipD xs ys).length = min xs.length ys.length
  | [], _ => by simp [zipD]
  | _ :: _, [] => by simp [zipD]
  | d :: ds, e :: es => by
    show (zipD ds es).length + 1 = _
    rw [zipD_len ds es]
    simp only [List.length_cons]
    omega
theorem zipD_get : ∀ (xs ys : List PyData) (i : Nat) (z : PyData), (zipD xs ys)[i]? = some z → ∃ d e, xs[i]? = some d ∧ ys[i]? = some e ∧ z = .tuple [d, e]
  | [], _, _, _, h => by simp [zipD] at h
  | _ :: _, [], _, _, h => by simp [zipD] at h
  | d :: ds, e :: es, 0, z, h => by
    cases h
    exact ⟨d, e, rfl, rfl, rfl⟩
  | d :: ds, e :: es, i + 1, z, h => by
    obtain ⟨d', e', h1, h2, h3⟩ := zipD_get ds es i z (by simpa [zipD] using h)
    exact ⟨d', e', by simpa using h1, by simpa using h2, h3⟩
theorem tup_in {K : PySem.W.Frag} {F H : Hp} {a : Addr} {xs : List V} (s : ∀ b o, F b = some o → H b = some o) (h : SqT K F a xs) : SqT K H a xs := by
  rcases h with (h | ⟨o, h⟩) | h
  · exact Or.inl (Or.inl (s _ _ h))
  · exact Or.inl (Or.inr ⟨o, s _ _ h⟩)
  · exact Or.inr h
def wZip (ws : WA) : WI := fun ρ Q => ws ρ fun rs ρ1 => frzs rs ρ1 fun ds ρ2 => match ds with
  | [.list xs, .list ys] => Q (zipD xs ys) ρ2
  | [.tuple xs, .tuple ys] => Q (zipD xs ys) ρ2
  | _ => False
theorem di_zip {X : Cx} {e e2 : Expr} {ws : WA} {p pos tpos : Pos} {elts : List Expr} {kk : Nat} (hg : Gl X "zip") (hm : X.mg "zip" = none) (ha : DA X [e, e2] ws)
    (hs : starEach [e, e2] X.env = (false, eval e X.env) :: starEach [e2] X.env := by rfl) (hpl : (backTo pos (starEach [e2] X.env)).any (·.1) = false := by rfl) :
    DI X (.Tuple elts kk tpos) (.Call (.Name "zip" p) [e, e2] [] pos) (wZip ws) := by
  obtain ⟨⟨t, pp, r⟩⟩ := ha
  refine ⟨⟨_, RZ.pi_zipA hg hm pp hs hpl, fun σ H F ρ fr Q R S h k => ?_⟩⟩
  refine r σ H F ρ fr _ _ S h fun vs H1 F1 ρ1 rs m hw o S1 k1 => ?_
  obtain ⟨ds, ρ2, F2, hw, dp, s, S2⟩ := frzs_ok (vs := vs) S1 o (fun a => by unfold padd; omega) hw
  have S2' : SI X.K F2 H1 σ ρ2 fr := S2.less fun a => by unfold padd; omega
  split at hw
  · rename_i xd yd
    cases dp with
    | cons d1 d2 =>
    cases d2 with
    | cons d2 d3 =>
    cases d3
    cases d1 with
    | @lst a xs _ hs ha =>
    cases d2 with
    | @lst b ys _ hs' ha' =>
    refine ⟨a, b, xs, ys, rfl, .inl ⟨S2'.ex.seq hs, S2'.ex.seq hs', k _ H1 F2 ρ2 _ hw S2' (k1.trans (Kp.ofF s)) ?_⟩⟩
    intro i F' H' s1 s2
    have h1 : SqL X.K H' a xs := (s1.trans s2).seq hs
    have h2 : SqL X.K H' b ys := (s1.trans s2).seq hs'
    refine ⟨fun hl => ⟨xs, ys, h1, h2, by rw [zipD_len] at hl; rw [ha.length, ha'.length]; omega⟩, fun d hd => ?_⟩
    obtain ⟨dx, dy, ex, ey, rfl⟩ := zipD_get _ _ _ _ hd
    obtain ⟨v, hv, dv⟩ := ha.get ex
    obtain ⟨u, hu, du⟩ := ha'.get ey
    refine ⟨⟨xs, ys, v, u, h1, h2, hv, hu⟩, fun x H'' y => .inr ?_⟩
    obtain ⟨T, x1, y1, rfl, nT, rfl, f1, f2⟩ := y
    have e1 : x1 = v := Option.some.inj ((f1 _ h1).symm.trans hv)
    have e2 : y1 = u := Option.some.inj ((f2 _ h2).symm.trans hu)
    subst e1 e2
    refine ⟨T, _, nT, rfl, .tup (SqT.of upd_same) (.cons ?_ (.cons ?_ .nil))⟩
    · exact dpm (fun b u q => by rw [upd_ne (ne_of_none q (fresh_F s2 nT))]; exact q) _ _ (dpm s1 _ _ dv)
    · exact dpm (fun b u q => by rw [upd_ne (ne_of_none q (fresh_F s2 nT))]; exact q) _ _ (dpm s1 _ _ du)
  · rename_i xd yd
    cases dp with
    | cons d1 d2 =>
    cases d2 with
    | cons d2 d3 =>
    cases d3
    cases d1 with
    | @tup a xs _ hs ha =>
    cases d2 with
    | @tup b ys _ hs' ha' =>
    refine ⟨a, b, xs, ys, rfl, .inr ⟨tup_in S2'.ex hs, tup_in S2'.ex hs', k _ H1 F2 ρ2 _ hw S2' (k1.trans (Kp.ofF s)) ?_⟩⟩
    intro i F' H' s1 s2
    have h1 : SqT X.K H' a xs := tup_in (s1.trans s2) hs
    have h2 : SqT X.K H' b ys := tup_in (s1.trans s2) hs'
    refine ⟨fun hl => ⟨xs, ys, h1, h2, by rw [zipD_len] at hl; rw [ha.length, ha'.length]; omega⟩, fun d hd => ?_⟩
    obtain ⟨dx, dy, ex, ey, rfl⟩ := zipD_get _ _ _ _ hd
    obtain ⟨v, hv, dv⟩ := ha.get ex
    obtain ⟨u, hu, du⟩ := ha'.get ey
    refine ⟨⟨xs, ys, v, u, h1, h2, hv, hu⟩, fun x H'' y => .inr ?_⟩
    obtain ⟨T, x1, y1, rfl, nT, rfl, f1, f2⟩ := y
    have e1 : x1 = v := Option.some.inj ((f1 _ h1).symm.trans hv)
    have e2 : y1 = u := Option.some.inj ((f2 _ h2).symm.trans hu)
    subst e1 e2
    refine ⟨T, _, nT, rfl, .tup (SqT.of upd_same) (.cons ?_ (.cons ?_ .nil))⟩
    · exact dpm (fun b u q => by rw [upd_ne (ne_of_none q (fresh_F s2 nT))]; exact q) _ _ (dpm s1 _ _ dv)
    · exact dpm (fun b u q => by rw [upd_ne (ne_of_none q (fresh_F s2 nT))]; exact q) _ _ (dpm s1 _ _ du)
  · exact hw.elim
end DL

namespace DL
open PySem PySem.Spec PyProof.Rows L2

/-! ### a written dict of the module: texts to data -/
/-- the name x of the module holds a written dict with just the entries tab, in this order -/
structure GDict (K : PySem.W.Frag) (w : World) (mg : Str → Option Value) (x : Str) (tab : List (Str × PyData)) : Prop where
  at_ : ∃ d es n, mg x = some (.ref d) ∧ KDict K w d es n ∧ es.size = tab.length ∧ (∀ (i : Nat) z dat, tab[i]? = some (z, dat) → ∃ en t, es[i]? = some en ∧ en.key = .str z t) ∧
    (∀ z dat, tab.lookup z = some dat → ∃ u v, PySem.W.nsIn K d z = some (some u) ∧ RelV v u ∧ ∀ H : Hp, Dp K H v dat)
def wGdIx (tab : List (Str × PyData)) (wb : WE) : WE := fun ρ Q => wb ρ fun r ρ1 => match r.dat ρ1 with
  | some (.str z) => (match tab.lookup z with | some d => Q (.fz d) ρ1 | none => False)
  | _ => False
section
variable {X : Cx} {b : Expr} {wb : WE} {x : Str} {pos p : Pos} {tab : List (Str × PyData)}
theorem de_gdIx (hg : Gl X x) (G : GDict X.K X.w X.mg x tab) (hb : DE X b wb) (hd : (x == ("__debug__" : Str)) = false := by decide) (hs : PlainIx b := by exact fun _ _ => rfl) : DE X (.Subscript (.Name x p) b pos) (wGdIx tab wb) := by
  obtain ⟨⟨tb, pb, rb⟩⟩ := hb
  obtain ⟨d, es, n, hm, KD, hsz, hk, hv⟩ := G.at_
  refine ⟨⟨_, pe_ix ix_kdict (pe_glob hg hm (show RelV (.ref d) (.ref d) from rfl) hd) pb hs, fun σ H F ρ fr Q Q' S hw k => ?_⟩⟩
  refine rb σ H F ρ fr _ _ S hw fun v2 H2 F2 ρ2 r2 m2 hw o2 S2 k2 => ?_
  split at hw
  · rename_i z e2
    have d2 := o2.dp S2 e2
    cases d2
    split at hw
    · rename_i dat e
      obtain ⟨u, v, h1, h2, h3⟩ := hv z dat e
      exact ⟨d, z, v, rfl, rfl, ⟨es, n, u, KD.at_, KD.lit, h1, h2⟩, k v H2 F2 ρ2 (.fz dat) z0 hw ⟨h3 F2, rfl⟩ S2.left k2⟩
    · exact hw.elim
  · exact hw.elim
end
/-- its keys -/
def Itg (zs : List Str) : It := ⟨fun i _ => i < zs.length, fun i H x H' => H' = H ∧ ∃ z, zs[i]? = some z ∧ x = .str z, fun i _ => zs.length ≤ i⟩
theorem turn_kd {P : Program} {w : World} {K : PySem.W.Frag} {tg : Expr} {d : Addr} {es : Array DictEntry} {n : Nat} {zs : List Str} (it : Addr) (KD : KDict K w d es n) (hsz : es.size = zs.length)
    (hk : ∀ (i : Nat) z, zs[i]? = some z → ∃ en t, es[i]? = some en ∧ en.key = .str z t) : Turn P w K tg (Itg zs) [it] it (fun i h => h.IsKeyIter it d i zs.length n) where
  mem := by simp
  obj := fun i h st b hb => by
    have e : b = it := by simpa using hb
    subst e
    obtain ⟨oi, e, c, dd⟩ := st
    exact ⟨oi, e, fun v z => by rw [dd] at z; cases z⟩
  keep := fun i h h' st k => st.at fun oi e => k it (by simp) oi e
  item := by
    intro X hP hw hK hc i pins s σ H E I hf st hg
    subst hP hw hK
    obtain ⟨f0, f1, f2, f3, f4, f5⟩ := hf it (by simp)
    have hi : i < zs.length := hg
    obtain ⟨z, hz⟩ : ∃ z, zs[i]? = some z := ⟨zs[i], List.getElem?_eq_getElem hi⟩
    obtain ⟨en, t, he, hkey⟩ := hk i z hz
    have hod := I.kIn d _ KD.at_
    refine next_key_item st hod rfl hsz he fun h' st' sb => ?_
    have I1 : Inv X pins σ H { s with heap := h' } := I.turned (t' := s.toks) (fun b ob hb e => (sb.2 b hb).trans e) f0 f1 f3 f4 f5
    obtain ⟨oi, e, c, dd⟩ := id st'
    exact ⟨en.key, rfl, go_of (s := { s with heap := h' }) e c dd (by decide) ⟨.str z, H, I1, ⟨t, hkey⟩, ⟨rfl, z, hz, rfl⟩, st', fun b hb => (hf b hb).1⟩⟩
  done := by
    intro X hP hw hK hc i pins s σ H E I hf st hg
    subst hP hw hK
    obtain ⟨f0, f1, f2, f3, f4, f5⟩ := hf it (by simp)
    have hi : zs.length ≤ i := hg
    exact next_key_end (I.ok.hd hc) st (I.kIn d _ KD.at_) rfl hsz hi fun h' eb => ⟨rfl, I.turned (t' := s.toks) (fun b ob hb e => eb b ob hb e) f0 f1 f3 f4 f5⟩
  self := fun A i s Q E st h => wpAny_pyIter_keyiter st h
def wGdKeys (tab : List (Str × PyData)) : WI := fun ρ Q => Q (tab.map fun e => .str e.1) ρ
section
variable {X : Cx} {tg : Expr} {x : Str} {p : Pos} {tab : List (Str × PyData)}
theorem pi_kd {d : Addr} {es : Array DictEntry} {n : Nat} {zs : List Str} (hg : Gl X x) (hm : X.mg x = some (.ref d)) (KD : KDict X.K X.w d es n) (hsz : es.size = zs.length)
    (hk : ∀ (i : Nat) z, zs[i]? = some z → ∃ en t, es[i]? = some en ∧ en.key = .str z t) (hd : (x == ("__debug__" : Str)) = false) : PI X tg (.Name x p) (fun σ H R => R (Itg zs) H) := by
  refine ⟨fun pins s σ H R I h => ?_⟩
  refine ld_glob I hg hm ?_ hd
  have hod := I.kIn d _ KD.at_
  refine iter_keys KD.low hod ⟨rfl, rfl, rfl⟩ rfl (pi_one (tk := s.toks) I _ (turn_kd _ KD hsz hk) ⟨_, Heap.get?_push_size _ rfl, rfl, ?_⟩ h)
  rw [hsz] <;> rfl
theorem di_gdKeys (hg : Gl X x) (G : GDict X.K X.w X.mg x tab) (hd : (x == ("__debug__" : Str)) = false := by decide) : DI X tg (.Name x p) (wGdKeys tab) := by
  obtain ⟨d, es, n, hm, KD, hsz, hk, hv⟩ := G.at_
  have hk' : ∀ (i : Nat) z, (tab.map (·.1))[i]? = some z → ∃ en t, es[i]? = some en ∧ en.key = .str z t := by
    intro i z e
    rw [List.getElem?_map] at e
    cases q : tab[i]? with
    | none => rw [q] at e; cases e
    | some p =>
      rw [q] at e
      cases e
      exact hk i p.1 p.2 q
  refine ⟨⟨_, pi_kd (zs := tab.map (·.1)) hg hm KD (by rw [List.length_map]; exact hsz) hk' hd, fun σ H F ρ fr Q R S h k => ?_⟩⟩
  refine k _ H F ρ _ h S Kp.refl ?_
  intro i F' H' s s'
  refine ⟨fun hl => ?_, fun dd hdd => ?_⟩
  · show (tab.map (·.1)).length ≤ i
    rw [List.length_map] at hl ⊢
    exact hl
  · rw [List.getElem?_map] at hdd
    cases q : tab[i]? with
    | none => rw [q] at hdd; cases hdd
    | some pr =>
      rw [q] at hdd
      cases hdd
      have hlt := (List.getElem?_eq_some_iff.mp q).1
      refine ⟨?_, fun v H'' y => .inl ⟨y.1, ?_⟩⟩
      · show i < (tab.map (·.1)).length
        rw [List.length_map]
        exact hlt
      · obtain ⟨_, z, hz, rfl⟩ := y
        rw [List.getElem?_map, q] at hz
        cases hz
        exact .str _
/-- z in D -/
def wGdIn (f : Bool → Bool) (tab : List (Str × PyData)) (wb : WE) : WE := fun ρ Q => wb ρ fun r ρ1 => match r.dat ρ1 with
  | some (.str z) => Q (.fz (.bool (f (tab.lookup z).isSome))) ρ1
  | _ => False
end

/-! ### a tuple's own index -/
/-- the first place of an equal one -/
def ixOf (d : PyData) : List PyData → Option Nat
  | [] => none
  | z :: zs => if PyData.eqv z d = true then some 0 else (ixOf d zs).map (· + 1)
theorem ixOf_some {d : PyData} : ∀ {zs : List PyData} {j : Nat}, ixOf d zs = some j → ∃ z, zs[j]? = some z ∧ PyData.eqv z d = true ∧ ∀ (m : Nat) z', m < j → zs[m]? = some z' → PyData.eqv z' d = false
  | [], _, h => by cases h
  | z :: zs, j, h => by
    unfold ixOf at h
    split at h
    · rename_i q
      cases h
      exact ⟨z, rfl, q, fun m z' hm => absurd hm (Nat.not_lt_zero _)⟩
    · rename_i q
      cases e : ixOf d zs with
      | none => rw [e] at h; cases h
      | some i =>
        rw [e] at h
        cases h
        obtain ⟨w, h1, h2, h3⟩ := ixOf_some e
        refine ⟨w, by simpa using h1, h2, fun m z' hm hz => ?_⟩
        cases m with
        | zero =>
          simp only [List.getElem?_cons_zero, Option.some.injEq] at hz
          subst hz
          exact Bool.eq_false_iff.mpr q
        | succ m => exact h3 m z' (Nat.lt_of_succ_lt_succ hm) (by simpa using hz)
def tTix (K : PySem.W.Frag) (t : TA) (te : TE) : TE := fun σ H Q => t σ H fun xs H1 => xs.length ≤ sizeLine ∧ ∀ p, H1 p = none → te σ (upd H1 p (.tup xs)) fun x H2 =>
  ∃ y, [x] = [y] ∧ ∃ d ds j, Dp K H2 (.ref p) (.tuple ds) ∧ Dp K H2 y d ∧ SeqAt.shaped (.tuple ds) = true ∧ SeqAt.shaped d = true ∧ ixOf d ds = some j ∧ Q (.int (j : Nat)) H2
section
variable {X : Cx} {es : List Expr} {e : Expr} {t : TA} {te : TE} {k : Nat} {tpos apos cpos : Pos}
theorem pe_tix (hu : X.A.units + 65 < cLine) (hs0 : PA X es t) (ha : PE X e te)
    (hbase : attributeBase (.Tuple es k tpos) "index" X.env (eval (.Tuple es k tpos) X.env) = eval (.Tuple es k tpos) X.env := by rfl)
    (hfew : ((backTo cpos (starEach [e] X.env)).all (fun x => !x.1) && (backToKw cpos (keywordEach [] X.env)).all (fun x => x.1.isSome)
      && decide ([e].length + ([] : List Keyword).length + (if ([] : List Keyword).isEmpty then 0 else 1) < 30)) = true := by rfl)
    (hline : (apos.endLine == cpos.line) = true := by rfl) (hs : starEach (e :: []) X.env = (false, eval e X.env) :: starEach [] X.env := by rfl) (hplain : (backTo cpos (starEach [] X.env)).any (·.1) = false := by rfl) :
    PE X (.Call (.Attribute (.Tuple es k tpos) "index" apos) [e] [] cpos) (tTix X.K t te) := by
  refine ⟨fun pins s σ H Q I h => ?_⟩
  refine wpAny_Call_method_late hbase hfew hline rfl (wpAny_Tuple_spliced (thn (hs0.run tpos pins s σ H _ I h) fun us s1 ⟨xs, H1, I1, r1, z, q1⟩ => ⟨by rw [← r1.length]; exact z, ?_⟩))
  have hf : H1 s1.heap.objs.size = none := I1.hok.fresh (Nat.le_refl _)
  have hgt : (s1.heap.push { cls := .type "tuple", data := .seq us.toArray }).get? s1.heap.objs.size = some { cls := .type "tuple", data := .seq us.toArray } := Heap.get?_push_size _ rfl
  have I2 : Inv X pins σ (upd H1 s1.heap.objs.size (.tup xs)) { s1 with heap := s1.heap.push { cls := .type "tuple", data := .seq us.toArray } } :=
    I1.laid (t' := s1.toks) (fun b u e => Heap.get?_push_of_some _ e) (Nat.le_refl _) ⟨z, us, r1, ⟨_, hgt, rfl, _, rfl⟩⟩
  refine ⟨"tuple", "tuple.index", PySem.F.plainAttrs_tuple, PySem.F.slot_tuple_index, PySem.F.type_tuple_index, ⟨_, hgt, rfl⟩, fun a ea => by cases ea; exact ⟨_, hgt, rfl⟩, ?_⟩
  have hA := (pa_cons ha pa_nil hs).run cpos pins _ σ _ (fun vs H' => ∃ y, vs = [y] ∧ ∃ d ds j, Dp X.K H' (.ref s1.heap.objs.size) (.tuple ds) ∧ Dp X.K H' y d ∧ SeqAt.shaped (.tuple ds) = true ∧ SeqAt.shaped d = true ∧ ixOf d ds = some j ∧ Q (.int (j : Nat)) H') I2 ?_
  · rw [hs] at hA ⊢
    refine Calls.callWith_builtin (by show (false || (backTo cpos (starEach [] X.env)).any (·.1)) = false; rw [hplain] <;> rfl) (Calls.evalArgs_plain ?_)
    refine thn hA fun us2 s2 ⟨vs, H2, I3, r2, y, ev, d, ds, j, h1, h2, h3, h4, h5, q⟩ => ?_
    subst ev
    cases r2 with
    | @cons _ uy _ ut ry rt =>
      cases rt
      obtain ⟨z', hz, hzj, hno⟩ := ixOf_some h5
      obtain ⟨bs, rb⟩ := Dp.reads I3 d y uy h2 ry
      have hxs : PyData.canLayAll0 ds = true := SeqAt.canLay_of_shaped (d := .tuple ds) h3
      have hroom : X.A.units + 1 + min (PyData.depthAll ds) d.depth < cLine := room_in_shaped h4 hu
      cases h1 with
      | tup hs ha =>
        obtain ⟨its, rv, ⟨⟨cls, dd, data, sls⟩, ho, hc, n, hdt⟩, hlen⟩ := I3.tuple hs
        simp only at hc hdt
        subst hc hdt
        obtain ⟨as, h4'⟩ := Dp.readsAll I3 ds _ its ha rv
        have hn : its.length = ds.length := SeqAt.ReadsAll.length ds its as h4'
        have hmap : its.map (SeqAt.readOf s2.heap) = ds := SeqAt.readsAll_map ds its as hxs h4'
        have hvl := rv.length
        have hsl := sizeLine_eq
        obtain ⟨hjd, _⟩ := List.getElem?_eq_some_iff.mp hz
        have hjl : j < its.length := by omega
        have hj : j < its.toArray.size := by simpa using hjl
        have at_ : ∀ (m : Nat) (hm : m < its.toArray.size) (z' : PyData), ds[m]? = some z' → SeqAt.readOf s2.heap its.toArray[m] = z' := by
          intro m hm z' hz'
          have hml : m < its.length := by simpa using hm
          rw [← hmap, List.getElem?_map, List.getElem?_eq_getElem hml] at hz'
          have e1 : SeqAt.readOf s2.heap its[m] = z' := Option.some.inj (show some (SeqAt.readOf s2.heap its[m]) = some z' from hz')
          simpa using e1
        refine call_meets PySem.F.slot_tuple_index ⟨_, ho, rfl⟩ PySem.F.entry_tuple_index (PySem.F.args_tuple_index_2 _ _)
          (PySem.SeqAt.tuple_index2_found s1.heap.objs.size its.toArray n dd sls uy (fun m => (ds[m]?.map fun z => PyData.eqv z d).getD false) j hj (Nat.zero_le _) hj ?_ ?_) ⟨ho, ?_, ?_⟩
        · show (ds[j]?.map _).getD false = true
          rw [hz]
          exact hzj
        · intro m hm _ hmj
          have hmd : m < ds.length := by have : m < its.length := by simpa using hm
                                         omega
          have hz' : ds[m]? = some ds[m] := List.getElem?_eq_getElem hmd
          show (ds[m]?.map _).getD false = false
          rw [hz']
          exact hno m _ hmj hz'
        · intro m hm
          have hmd : m < ds.length := by have : m < its.length := by simpa using hm
                                         omega
          have hz' : ds[m]? = some ds[m] := List.getElem?_eq_getElem hmd
          have := SeqAt.items_eqAt (A := X.A) (vs := its.toArray) (show ReadsAll s2.heap its.toArray.toList ds as from h4') rb hxs (SeqAt.canLay_of_shaped h4) hroom its.toArray[m] (Array.getElem_mem hm)
          rw [at_ m hm _ hz'] at this
          rw [hz']
          exact this
        · exact ⟨.int (j : Nat), H2, I3.tok _, ⟨_, rfl⟩, q⟩
  · exact q1 _ hf
end
end DL

namespace DL
open PySem PySem.Spec PyProof.Rows L2

/-! ### (..).index(x) -/
def wTix (ws : WA) (wa : WE) : WE := fun ρ Q => ws ρ fun rs ρ1 => frzs rs ρ1 fun ds ρ2 => ds.length ≤ sizeLine ∧ wa ρ2 fun r ρ3 => match r.dat ρ3 with
  | some d => SeqAt.shaped (.tuple ds) = true ∧ SeqAt.shaped d = true ∧ (match ixOf d ds with | some j => Q (.fz (.int (j : Nat))) ρ3 | none => False)
  | none => False
section
variable {X : Cx} {es : List Expr} {e : Expr} {ws : WA} {wa : WE} {k n : Nat} {tpos apos cpos : Pos}
theorem de_tix (hr : Room n X.A) (hs0 : DA X es ws) (ha : DE X e wa)
    (hbase : attributeBase (.Tuple es k tpos) "index" X.env (eval (.Tuple es k tpos) X.env) = eval (.Tuple es k tpos) X.env := by rfl)
    (hfew : ((backTo cpos (starEach [e] X.env)).all (fun x => !x.1) && (backToKw cpos (keywordEach [] X.env)).all (fun x => x.1.isSome)
      && decide ([e].length + ([] : List Keyword).length + (if ([] : List Keyword).isEmpty then 0 else 1) < 30)) = true := by rfl)
    (hline : (apos.endLine == cpos.line) = true := by rfl) (hs : starEach (e :: []) X.env = (false, eval e X.env) :: starEach [] X.env := by rfl) (hplain : (backTo cpos (starEach [] X.env)).any (·.1) = false := by rfl) :
    DE X (.Call (.Attribute (.Tuple es k tpos) "index" apos) [e] [] cpos) (wTix ws wa) := by
  obtain ⟨⟨t, p, r⟩⟩ := hs0
  obtain ⟨⟨te, pe, re⟩⟩ := ha
  refine ⟨⟨_, pe_tix (units65 hr) p pe hbase hfew hline hs hplain, fun σ H F ρ fr Q Q' S hw k => ?_⟩⟩
  refine r σ H F ρ fr _ _ S hw fun vs H1 F1 ρ1 rs m hw o S1 k1 => ?_
  obtain ⟨ds, ρ2, F2, hw, dp, s, S2⟩ := frzs_ok (vs := vs) S1 o (fun a => by unfold padd; omega) hw
  have S2' : SI X.K F2 H1 σ ρ2 fr := S2.less fun a => by unfold padd; omega
  refine ⟨by rw [dp.length]; exact hw.1, fun q hq => ?_⟩
  obtain ⟨S3, s3, k3⟩ := S2'.newF (o := .tup vs) hq
  have dt : Dp X.K (upd F2 q (.tup vs)) (.ref q) (.tuple ds) := .tup (SqT.of upd_same) (dpam s3 _ _ dp)
  refine re σ _ _ ρ2 fr _ _ S3 hw.2 fun v H4 F4 ρ4 r4 m4 hw o4 S4 k4 => ?_
  split at hw
  · rename_i d e4
    have dd := o4.dp S4 e4
    obtain ⟨h1, h2, hw⟩ := hw
    split at hw
    · rename_i j hj
      exact ⟨v, rfl, d, ds, j, dpm S4.ex _ _ (dpm k4.exF _ _ dt), dd, h1, h2, hj, k _ H4 F4 ρ4 (.fz (.int (j : Nat))) z0 hw ⟨.int _, rfl⟩ S4.left (((k1.trans (Kp.ofF s)).trans k3).trans k4)⟩
    · exact hw.elim
  · exact hw.elim
end

/-! ### l[i] as a target of data -/
def gvSub (i : Nat) (wk : WE) : WG := fun y ρ Q => isOwn ρ i <| wk ρ fun r3 ρ3 => match look ρ3 i, r3.dat ρ3 with
  | some (.lst q ds), some (.int kk) => (match ixN ds.length kk with | some j => Q (ρ3.set i (some (.lst q (ds.set j y)))) | none => False)
  | _, _ => False
section
variable {X : Cx} {k : Expr} {wk : WE} {tpos p0 : Pos} {x : Str} {i : Nat}
theorem dg_sub (hN : X.N[i]? = some x) (hv : Vis X.env.scope x) (hk : DE X k wk)
    (hd : (x == ("__debug__" : Str)) = false := by decide) (hcd : (x == ("__classdict__" : Str)) = false := by decide)
    (h2 : ∀ v, assign (.Subscript (.Name x p0) k tpos) X.env v = (do
      let ov ← holding [v] (eval (.Name x p0) X.env)
      let iv ← holding [v, ov] (eval k X.env)
      standAt tpos
      holding [v, ov, iv] (setItem ov iv v)
      release [v, ov, iv] []) := by intro _; rfl) : DG X (.Subscript (.Name x p0) k tpos) (gvSub i wk) := by
  obtain ⟨⟨tk, pk, rk⟩⟩ := hk
  refine ⟨⟨_, pg_sub (pe_var hN hv hd hcd) pk set_list h2, fun σ H F ρ fr y v Q Q' S dp a kk => ?_⟩⟩
  obtain ⟨⟨q, ds0, e0⟩, a⟩ := isOwn_iff a
  obtain ⟨vs, e1, hp, _, _⟩ := S.lst e0
  refine ⟨.ref q, e1, ?_⟩
  refine rk σ H F ρ fr _ _ S a fun vk H3 F3 ρ3 r3 m3 a o3 S3 k3 => ?_
  split at a
  · rename_i q' ds kk' e2 e3
    have := o3.dp S3 e3
    cases this
    obtain ⟨vs', e1', hp', ha', fin⟩ := S3.left.lst e2
    rw [e1] at e1'
    cases e1'
    split at a
    · rename_i j hj
      obtain ⟨S4, k4⟩ := fin (vs'.set j v) (ds.set j y) (ha'.set (dpm k3.exF _ _ dp) j)
      exact ⟨q, vs', _, j, rfl, rfl, hp', by rw [ha'.length]; exact hj, kk σ _ F3 _ a S4 (k3.trans k4)⟩
    · exact a.elim
  · exact a.elim
end

/-! ### enumerate: a list, a tuple, a text -/
def Itet (K : PySem.W.Frag) (a : Addr) : It :=
  ⟨fun i H => ∃ (xs : List V) (x : V), SqT K H a xs ∧ xs[i]? = some x, fun i H v H' => ∃ T x, v = .ref T ∧ H T = none ∧ H' = upd H T (.tup [.int (i : Nat), x]) ∧ ∀ xs, SqT K H a xs → xs[i]? = some x, fun i H => ∃ xs : List V, SqT K H a xs ∧ xs.length ≤ i⟩
theorem turn_enumT {P : Program} {w : World} {K : PySem.W.Frag} {elts : List Expr} {kk : Nat} {tpos : Pos} (a e it : Addr) :
    Turn P w K (.Tuple elts kk tpos) (Itet K a) [e, it] e (fun i h => (∃ old, IsEnum h e it ((i : Nat) : Int) old) ∧ h.IsTupleIter it a i ∧ e ≠ it) where
  mem := by simp
  obj := fun i h st b hb => by
    obtain ⟨⟨old, he⟩, ⟨o, ho, hc, hd⟩, _⟩ := st
    have e' : b = e ∨ b = it := by simpa using hb
    rcases e' with z | z
    · rw [z]; exact ⟨_, he, fun v q => nomatch q⟩
    · rw [z]; exact ⟨o, ho, fun v q => by rw [hd] at q; cases q⟩
  keep := fun i h h' st k => let ⟨⟨old, he⟩, hi, hne⟩ := st; ⟨⟨old, k e (by simp) _ he⟩, hi.at fun o q => k it (by simp) o q, hne⟩
  item := by
    intro X hP hw hK hc i pins s σ H E I hf st hg
    subst hP hw hK
    obtain ⟨⟨old, he⟩, hit, hne⟩ := st
    obtain ⟨xs, x, hq, hx⟩ := hg
    obtain ⟨its, rv, p, hz⟩ := I.tuple hq
    obtain ⟨u, hu, ru⟩ := rv.get hx
    have hel : e < s.heap.objs.size := Heap.lt_size he
    have hil : it < s.heap.objs.size := by obtain ⟨_, q, _⟩ := hit; exact Heap.lt_size q
    have hai : a ≠ it := fun z => by
      obtain ⟨o1, g1, c1, _⟩ := hit
      obtain ⟨o2, g2, c2, _⟩ := p
      rw [z, g1] at g2
      cases g2
      rw [c1] at c2
      exact absurd (Value.type.inj c2) (by decide)
    have hae : a ≠ e := fun z => by
      obtain ⟨o2, g2, c2, _⟩ := p
      have he' : s.heap.get? e = some _ := he
      rw [z, he'] at g2
      cases g2
      exact absurd (Value.type.inj c2) (by decide)
    have hlt : i < its.toArray.size := by
      have := (List.getElem?_eq_some_iff.mp hu).1
      simpa using this
    refine wpAny_pyNext_enum_itemD (Draws.tuple (prog := X.prog) (w := X.w) (A := X.A.in1) (show X.A.in1.handled = none from I.ok.hd hc) it a hai its.toArray) he ⟨hit, p⟩ hlt hne (by simp [hne, Ne.symm hae]) fun x' h' tk hx' ho st' hT hsz hk => ?_
    have ex' : x' = u := by
      have h1 : its[i]? = some x' := by simpa using hx'
      rw [hu] at h1
      exact (Option.some.inj h1).symm
    subst ex'
    refine ⟨_, rfl, wpAny_letOwnedTupleGo_enum (s := { s with heap := h', toks := tk + 1 }) ho fun h'' he' sb => ?_⟩
    have hT2 : h''.get? s.heap.objs.size = some { cls := .type "tuple", data := .seq #[.int i tk, x'] } := (sb.2 _ (Nat.ne_of_gt hel)).trans hT
    have new : ObjOk X.prog X.w (upd H s.heap.objs.size (.tup [.int (i : Nat), x])) h'' s.heap.objs.size (.tup [.int (i : Nat), x]) :=
      ⟨by show 2 ≤ sizeLine; decide, [.int i tk, x'], .cons ⟨_, rfl⟩ (.cons ru .nil), ⟨_, hT2, rfl, _, rfl⟩⟩
    have I1 : Inv X pins σ (upd H s.heap.objs.size (.tup [.int (i : Nat), x])) { s with heap := h'', toks := tk + 1 } :=
      I.turnedNew (ch := [e, it]) (fun b ob hb q => (sb.2 b (fun z => hb (by simp [z]))).trans (hk b ob (fun z => hb (by simp [z])) (fun z => hb (by simp [z])) q)) hf (Nat.le_refl _) new
    refine ⟨.ref s.heap.objs.size, _, I1, rfl, ⟨_, x, rfl, I.hok.fresh (Nat.le_refl _), rfl, fun ys hy => by rw [I.tuple_inj hy hq]; exact hx⟩, ⟨⟨x', ?_⟩, st'.1.at fun o q => (sb.2 it (Ne.symm hne)).trans q, hne⟩, fun b hb => ?_⟩
    · have e1 : ((i + 1 : Nat) : Int) = (i : Int) + 1 := by omega
      rw [e1]; exact he'
    · have hb' : b < s.heap.objs.size := by
        have e' : b = e ∨ b = it := by simpa using hb
        rcases e' with z | z
        · rw [z]; exact hel
        · rw [z]; exact hil
      rw [upd_ne (Nat.ne_of_lt hb')]
      exact (hf b hb).1
  done := by
    intro X hP hw hK hc i pins s σ H E I hf st hg
    subst hP hw hK
    obtain ⟨⟨old, he⟩, hit, hne⟩ := st
    obtain ⟨xs, hq, hx⟩ := hg
    obtain ⟨its, rv, p, hz⟩ := I.tuple hq
    obtain ⟨f0, f1, f2, f3, f4, f5⟩ := hf it (by simp)
    have hl := rv.length
    have hT : s.TypeIs (.ref e) "enumerate" := ⟨_, he, rfl⟩
    unfold pyNext
    refine wpAny_bind (wpAny_attempt (wpAny_callSpecial?_slot (name := Str.ofString "__next__") hT F.slot_enumerate_next
      (wpAny_call_entry F.slot_enumerate_next hT F.entry_enumerate_next ?_ (F.args_enumerate_next_1 _))))
    show wpAny _ _ (field (.ref e) 2 >>= _) _ _ _
    refine wpAny_bind (wpAny_field he rfl (x := .ref it) rfl ?_)
    refine wpAny_bind (wpAny_nextOf_tuple_end (I.ok.hd hc) hit p (by simp; omega) fun h' x he' hx' => ?_)
    obtain ⟨o, ho, hc⟩ := hx'
    refine wpAny_bind (wpAny_isInstance (T := "StopIteration") (b := true) ⟨o, ho, hc⟩ isSubtype_stop ?_)
    exact wpAny_pure ⟨rfl, I.turned (t' := s.toks) (fun b o hb q => he' b o hb q) f0 f1 f3 f4 f5⟩
  self := fun A i s Q E st h => let ⟨⟨_, he⟩, _⟩ := st; wpAny_pyIter_enum he h
end DL

namespace DL
open PySem PySem.Spec PyProof.Rows L2
theorem meets_enumerate_newG {v : Value} {o : Obj} {H : Heap → Prop} (B : Begins v o H) :
    Meets (Builtin.«enumerate.__new__» ⟨[.type "enumerate", v], []⟩) (fun _ R s => H s.heap ∧
      R (.ok (.ret (.ref (s.heap.push o).objs.size))) { s with heap := (s.heap.push o).push { cls := .type "enumerate", data := .fields #[.none, .bool false, .ref s.heap.objs.size, rawInt 0, .none, .none] } }) :=
  .of_wp fun prog w A R s h => by
    obtain ⟨hp, g, d, tk, os⟩ := s; obtain ⟨h1, h⟩ := h
    have hsub := sub_enumerate
    have q1 : ∀ {A' : Around} {E : Value → Shared → Prop} {Q : Value → Shared → Prop}, Q (.ref hp.objs.size) ⟨hp.push o, g, d, tk, os⟩ → wpAny (model prog w) A' (pyIter v) Q E ⟨hp, g, d, tk, os⟩ :=
      fun q => B.iter prog w _ _ ⟨hp, g, d, tk, os⟩ _ h1 q
    wp_walk using q1
    refine wpAny_stack_any fun st => wpAny_pure ?_
    split
    · rename_i c _ _ _ _ _
      cases (c == Value.type "enumerate")
      · wp_walk using q1
        exact ⟨_, rfl, h⟩
      · wp_walk using q1
        exact ⟨_, rfl, h⟩
    · wp_walk using q1
      exact ⟨_, rfl, h⟩
theorem enum_beginsG {prog : Program} {w : World} {A : Around} {E : Value → Shared → Prop} {s : Shared} {v : Value} {o : Obj} {H : Heap → Prop} {Q : Value → Shared → Prop} (B : Begins v o H) (h1 : H s.heap)
    (h : ∀ h', IsEnum h' (s.heap.objs.size + 1) s.heap.objs.size 0 .none → h'.get? s.heap.objs.size = some o → h'.objs.size = s.heap.objs.size + 2 →
      (∀ b o, s.heap.get? b = some o → h'.get? b = some o) → Q (.ref (s.heap.objs.size + 1)) { s with heap := h' }) :
    wpAny (model prog w) A (call (.type "enumerate") [v]) Q E s := by
  refine callType_new F.called_enumerate (by decide) (F.typeCall_enumerate_1 _) (F.newCall_enumerate_1 _) (fun obj => F.args_object_init_2 obj _) F.entry_enumerate_new
    (meets_enumerate_newG B) ⟨h1, ?_⟩
  have hz : (s.heap.push o).objs.size = s.heap.objs.size + 1 := Heap.size_push ..
  show _ ∧ _
  rw [hz]
  have he : IsEnum ((s.heap.push o).push { cls := .type "enumerate", data := .fields #[.none, .bool false, .ref s.heap.objs.size, rawInt 0, .none, .none] }) (s.heap.objs.size + 1) s.heap.objs.size 0 .none := by
    have := Heap.get?_push_size (s.heap.push o) (o := { cls := .type "enumerate", data := .fields #[.none, .bool false, .ref s.heap.objs.size, rawInt 0, .none, .none] }) rfl
    rw [hz] at this; exact this
  refine ⟨⟨_, he, rfl⟩, h _ he (Heap.get?_push_of_some _ (Heap.get?_push_size _ B.free)) (by rw [Heap.size_push, hz]) fun b o x => Heap.get?_push_of_some _ (Heap.get?_push_of_some _ x)⟩
/-- a text's signs, each in a new pair -/
def Ites (x : Str) : It := ⟨fun i _ => i < x.cps.size, fun i H v H' => ∃ T c, v = .ref T ∧ H T = none ∧ H' = upd H T (.tup [.int (i : Nat), .str ⟨#[c]⟩]) ∧ x.cps[i]? = some c, fun i _ => x.cps.size ≤ i⟩
theorem turn_enumS {P : Program} {w : World} {K : PySem.W.Frag} {elts : List Expr} {kk : Nat} {tpos : Pos} (x : Str) (t : Tok) (e it : Addr) :
    Turn P w K (.Tuple elts kk tpos) (Ites x) [e, it] e (fun i h => i ≤ x.cps.size ∧ (∃ old, IsEnum h e it ((i : Nat) : Int) old) ∧ h.IsStrIter it (strIterType x) x t i ∧ e ≠ it) where
  mem := by simp
  obj := fun i h st b hb => by
    obtain ⟨_, ⟨old, he⟩, ⟨o, ho, hc, hd⟩, _⟩ := st
    have e' : b = e ∨ b = it := by simpa using hb
    rcases e' with z | z
    · rw [z]; exact ⟨_, he, fun v q => nomatch q⟩
    · rw [z]; exact ⟨o, ho, fun v q => by rw [hd] at q; cases q⟩
  keep := fun i h h' st k => let ⟨hl, ⟨old, he⟩, hi, hne⟩ := st; ⟨hl, ⟨old, k e (by simp) _ he⟩, let ⟨o, ho, r⟩ := hi; ⟨o, k it (by simp) o ho, r⟩, hne⟩
  item := by
    intro X hP hw hK hc i pins s σ H E I hf st hg
    subst hP hw hK
    obtain ⟨_, ⟨old, he⟩, hit, hne⟩ := st
    have hlt : i < x.cps.size := hg
    have hel : e < s.heap.objs.size := Heap.lt_size he
    have hil : it < s.heap.objs.size := by obtain ⟨_, q, _⟩ := hit; exact Heap.lt_size q
    refine wpAny_pyNext_enum_itemD (Draws.text (prog := X.prog) (w := X.w) (A := X.A.in1) (show X.A.in1.handled = none from I.ok.hd hc) it x t) he hit hlt hne (by simp [hne]) fun x' h' tk hx' ho st' hT hsz hk => ?_
    obtain ⟨c, u, hcx, rfl⟩ := hx'
    refine ⟨_, rfl, wpAny_letOwnedTupleGo_enum (s := { s with heap := h', toks := tk + 1 }) ho fun h'' he' sb => ?_⟩
    have hT2 : h''.get? s.heap.objs.size = some { cls := .type "tuple", data := .seq #[.int i tk, .str ⟨#[c]⟩ u] } := (sb.2 _ (Nat.ne_of_gt hel)).trans hT
    have new : ObjOk X.prog X.w (upd H s.heap.objs.size (.tup [.int (i : Nat), .str ⟨#[c]⟩])) h'' s.heap.objs.size (.tup [.int (i : Nat), .str ⟨#[c]⟩]) :=
      ⟨by show 2 ≤ sizeLine; decide, [.int i tk, .str ⟨#[c]⟩ u], .cons ⟨_, rfl⟩ (.cons ⟨_, rfl⟩ .nil), ⟨_, hT2, rfl, _, rfl⟩⟩
    have I1 : Inv X pins σ (upd H s.heap.objs.size (.tup [.int (i : Nat), .str ⟨#[c]⟩])) { s with heap := h'', toks := tk + 1 } :=
      I.turnedNew (ch := [e, it]) (fun b ob hb q => (sb.2 b (fun z => hb (by simp [z]))).trans (hk b ob (fun z => hb (by simp [z])) (fun z => hb (by simp [z])) q)) hf (Nat.le_refl _) new
    refine ⟨.ref s.heap.objs.size, _, I1, rfl, ⟨_, c, rfl, I.hok.fresh (Nat.le_refl _), rfl, hcx⟩, ⟨hlt, ⟨.str ⟨#[c]⟩ u, ?_⟩, ?_, hne⟩, fun b hb => ?_⟩
    · have e1 : ((i + 1 : Nat) : Int) = (i : Int) + 1 := by omega
      rw [e1]; exact he'
    · obtain ⟨o, ho, r⟩ := st'
      exact ⟨o, (sb.2 it (Ne.symm hne)).trans ho, r⟩
    · have hb' : b < s.heap.objs.size := by
        have e' : b = e ∨ b = it := by simpa using hb
        rcases e' with z | z
        · rw [z]; exact hel
        · rw [z]; exact hil
      rw [upd_ne (Nat.ne_of_lt hb')]
      exact (hf b hb).1
  done := by
    intro X hP hw hK hc i pins s σ H E I hf st hg
    subst hP hw hK
    obtain ⟨hle, ⟨old, he⟩, hit, hne⟩ := st
    obtain ⟨f0, f1, f2, f3, f4, f5⟩ := hf it (by simp)
    have hi : i = x.cps.size := Nat.le_antisymm hle hg
    subst hi
    exact wpAny_pyNext_enum_endD (Draws.text (prog := X.prog) (w := X.w) (A := X.A.in1) (show X.A.in1.handled = none from I.ok.hd hc) it x t) he hit fun h' eb => ⟨rfl, I.turned (t' := s.toks) (fun b o hb q => eb b o hb q) f0 f1 f3 f4 f5⟩
  self := fun A i s Q E st h => let ⟨_, ⟨_, he⟩, _⟩ := st; wpAny_pyIter_enum he h
def iEnumA (K : PySem.W.Frag) (ta : TA) : TI := fun σ H R => ta σ H fun vs H1 => (∃ a xs, vs = [.ref a] ∧ SqL K H1 a xs ∧ R (Ite K a) H1) ∨ (∃ a xs, vs = [.ref a] ∧ SqT K H1 a xs ∧ R (Itet K a) H1) ∨ (∃ z, vs = [.str z] ∧ R (Ites z) H1)
theorem pi_enumA {X : Cx} {e : Expr} {ta : TA} {p pos tpos : Pos} {elts : List Expr} {kk : Nat} (hg : Gl X "enumerate") (hm : X.mg "enumerate" = none) (ha : PA X [e] ta) (hs : starEach [e] X.env = [(false, eval e X.env)] := by rfl) :
    PI X (.Tuple elts kk tpos) (.Call (.Name "enumerate" p) [e] [] pos) (iEnumA X.K ta) := by
  refine ⟨fun pins s σ H R I h => ?_⟩
  refine Call_ (ld_blt I hg hm boot_enumerate (PyProof.Rows.callWith_type1 (thn (ha.run pos pins s σ H _ I h) fun us s1 ⟨vs, H1, I1, r1, q1⟩ => ?_) hs rfl))
  have fp2 : ∀ b ∈ [s1.heap.objs.size + 1, s1.heap.objs.size], FpOk X pins H1 b := fun b hb => by
    have e' : b = s1.heap.objs.size + 1 ∨ b = s1.heap.objs.size := by simpa using hb
    have hle : s1.heap.objs.size ≤ b := by
      rcases e' with z | z
      · rw [z]; exact Nat.le_add_right _ _
      · rw [z]; exact Nat.le_refl _
    exact I1.fpOk hle (I1.hok.fresh hle)
  rcases q1 with ⟨a, xs, ex, hq, q⟩ | ⟨a, xs, ex, hq, q⟩ | ⟨z, ex, q⟩
  · subst ex
    cases r1 with
    | cons r rr =>
      cases rr
      cases r
      obtain ⟨its, rv, p', hz⟩ := I1.list hq
      refine call_enumerate_list p'.isList fun h' he hit hsz hk => wpAny_pyIter_enum he ?_
      exact ⟨s1.heap.objs.size + 1, [s1.heap.objs.size + 1, s1.heap.objs.size], _, _, H1, rfl, I1.kept (t' := s1.toks) hk, turn_enum a (s1.heap.objs.size + 1) s1.heap.objs.size, ⟨⟨.none, he⟩, hit, Nat.succ_ne_self _⟩, fp2, q⟩
  · subst ex
    cases r1 with
    | cons r rr =>
      cases rr
      cases r
      obtain ⟨its, rv, p', hz⟩ := I1.tuple hq
      refine enum_beginsG (begins_tuple a its.toArray) p' fun h' he hit hsz hk => wpAny_pyIter_enum he ?_
      exact ⟨s1.heap.objs.size + 1, [s1.heap.objs.size + 1, s1.heap.objs.size], _, _, H1, rfl, I1.kept (t' := s1.toks) hk, turn_enumT a (s1.heap.objs.size + 1) s1.heap.objs.size, ⟨⟨.none, he⟩, ⟨_, hit, rfl, rfl⟩, Nat.succ_ne_self _⟩, fp2, q⟩
  · subst ex
    cases r1 with
    | cons r rr =>
      cases rr
      obtain ⟨t, rfl⟩ := r
      refine enum_beginsG (begins_text z t) trivial fun h' he hit hsz hk => wpAny_pyIter_enum he ?_
      exact ⟨s1.heap.objs.size + 1, [s1.heap.objs.size + 1, s1.heap.objs.size], _, _, H1, rfl, I1.kept (t' := s1.toks) hk, turn_enumS z t (s1.heap.objs.size + 1) s1.heap.objs.size, ⟨Nat.zero_le _, ⟨.none, he⟩, ⟨_, hit, rfl, rfl⟩, Nat.succ_ne_self _⟩, fp2, q⟩
def wEnumA (ws : WA) : WI := fun ρ Q => ws ρ fun rs ρ1 => frzs rs ρ1 fun ds ρ2 => match ds with
  | [.list es] => Q (enumD 0 es) ρ2
  | [.tuple es] => Q (enumD 0 es) ρ2
  | [.str z] => Q (enumD 0 (signsD z)) ρ2
  | _ => False
theorem signsD_get {z : Str} {i : Nat} {d : PyData} (h : (signsD z)[i]? = some d) : ∃ c, z.cps[i]? = some c ∧ d = .str ⟨#[c]⟩ := by
  unfold signsD at h
  rw [List.getElem?_map] at h
  cases e : z.cps.toList[i]? with
  | none => rw [e] at h; cases h
  | some c =>
    rw [e] at h
    cases h
    exact ⟨c, by rw [← Array.getElem?_toList]; exact e, rfl⟩
theorem di_enumA {X : Cx} {e : Expr} {ws : WA} {p pos tpos : Pos} {elts : List Expr} {kk : Nat} (hg : Gl X "enumerate") (hm : X.mg "enumerate" = none) (ha : DA X [e] ws) (hs : starEach [e] X.env = [(false, eval e X.env)] := by rfl) :
    DI X (.Tuple elts kk tpos) (.Call (.Name "enumerate" p) [e] [] pos) (wEnumA ws) := by
  obtain ⟨⟨t, p, r⟩⟩ := ha
  refine ⟨⟨_, pi_enumA hg hm p hs, fun σ H F ρ fr Q R S h k => ?_⟩⟩
  refine r σ H F ρ fr _ _ S h fun vs H1 F1 ρ1 rs m hw o S1 k1 => ?_
  obtain ⟨ds, ρ2, F2, hw, dp, s, S2⟩ := frzs_ok (vs := vs) S1 o (fun a => by unfold padd; omega) hw
  have S2' : SI X.K F2 H1 σ ρ2 fr := S2.less fun a => by unfold padd; omega
  split at hw
  · rename_i es
    cases dp with
    | cons d1 d2 =>
      cases d2
      cases d1 with
      | @lst a xs _ hs ha =>
        refine .inl ⟨a, xs, rfl, S2'.ex.seq hs, k _ H1 F2 ρ2 _ hw S2' (k1.trans (Kp.ofF s)) ?_⟩
        intro i F' H' s1 s2
        have h' : SqL X.K H' a xs := (s1.trans s2).seq hs
        refine ⟨fun hl => ⟨xs, h', by rw [enumD_len] at hl; rw [ha.length]; exact hl⟩, fun d hd => ?_⟩
        rw [enumD_get] at hd
        cases e : es[i]? with
        | none => rw [e] at hd; cases hd
        | some d0 =>
          rw [e] at hd
          cases hd
          obtain ⟨v, hv, dv⟩ := ha.get e
          refine ⟨⟨xs, v, h', hv⟩, fun x H'' y => .inr ?_⟩
          obtain ⟨T, x1, rfl, nT, rfl, f1⟩ := y
          have e1 : x1 = v := Option.some.inj ((f1 _ h').symm.trans hv)
          subst e1
          refine ⟨T, _, nT, rfl, .tup (SqT.of upd_same) (.cons ?_ (.cons ?_ .nil))⟩
          · rw [Nat.zero_add]
            exact .int _
          · exact dpm (fun b u q => by rw [upd_ne (ne_of_none q (fresh_F s2 nT))]; exact q) _ _ (dpm s1 _ _ dv)
  · rename_i es
    cases dp with
    | cons d1 d2 =>
      cases d2
      cases d1 with
      | @tup a xs _ hs ha =>
        refine .inr (.inl ⟨a, xs, rfl, same_t S2'.ex hs, k _ H1 F2 ρ2 _ hw S2' (k1.trans (Kp.ofF s)) ?_⟩)
        intro i F' H' s1 s2
        have h' : SqT X.K H' a xs := same_t (s1.trans s2) hs
        refine ⟨fun hl => ⟨xs, h', by rw [enumD_len] at hl; rw [ha.length]; exact hl⟩, fun d hd => ?_⟩
        rw [enumD_get] at hd
        cases e : es[i]? with
        | none => rw [e] at hd; cases hd
        | some d0 =>
          rw [e] at hd
          cases hd
          obtain ⟨v, hv, dv⟩ := ha.get e
          refine ⟨⟨xs, v, h', hv⟩, fun x H'' y => .inr ?_⟩
          obtain ⟨T, x1, rfl, nT, rfl, f1⟩ := y
          have e1 : x1 = v := Option.some.inj ((f1 _ h').symm.trans hv)
          subst e1
          refine ⟨T, _, nT, rfl, .tup (SqT.of upd_same) (.cons ?_ (.cons ?_ .nil))⟩
          · rw [Nat.zero_add]
            exact .int _
          · exact dpm (fun b u q => by rw [upd_ne (ne_of_none q (fresh_F s2 nT))]; exact q) _ _ (dpm s1 _ _ dv)
  · rename_i z
    cases dp with
    | cons d1 d2 =>
      cases d2
      cases d1
      refine .inr (.inr ⟨z, rfl, k _ H1 F2 ρ2 _ hw S2' (k1.trans (Kp.ofF s)) ?_⟩)
      intro i F' H' s1 s2
      refine ⟨fun hl => ?_, fun d hd => ?_⟩
      · rw [enumD_len] at hl
        show z.cps.size ≤ i
        simpa [signsD] using hl
      · rw [enumD_get] at hd
        cases e : (signsD z)[i]? with
        | none => rw [e] at hd; cases hd
        | some d0 =>
          rw [e] at hd
          cases hd
          obtain ⟨c, hc, rfl⟩ := signsD_get e
          have hlt : i < z.cps.size := by
            rw [Array.getElem?_eq_some_iff] at hc
            exact hc.1
          refine ⟨hlt, fun x H'' y => .inr ?_⟩
          obtain ⟨T, c', rfl, nT, rfl, f1⟩ := y
          rw [hc] at f1
          cases f1
          refine ⟨T, _, nT, rfl, .tup (SqT.of upd_same) (.cons ?_ (.cons (.str _) .nil))⟩
          rw [Nat.zero_add]
          exact .int _
  · exact hw.elim
end DL
namespace DL
open PySem PySem.Spec PyProof.Rows L2
/-- a written pair of whole numbers -/
def KPair (o : Obj) (i j : Int) : Prop := o.cls = .type "tuple" ∧ ∃ its n, o.data = .seq its n ∧ its.size ≤ sizeLine ∧ Vals [.int i, .int j] its.toList
theorem dp_kpair {K : PySem.W.Frag} {a : Addr} {o : Obj} {i j : Int} (l : K.lookup a = some o) (t : KPair o i j) (H : Hp) : Dp K H (.ref a) (.tuple [.int i, .int j]) := by
  obtain ⟨h1, its, n, h2, h3, h4⟩ := t
  exact .tup (.inr ⟨o, its, n, l, h1, h2, h3, h4⟩) (.cons (.int _) (.cons (.int _) .nil))
def GEnt (K : PySem.W.Frag) (d : Addr) (e : Str × PyData) : Prop := ∃ u v, PySem.W.nsIn K d e.1 = some (some u) ∧ RelV v u ∧ ∀ H : Hp, Dp K H v e.2
theorem gent_pair {K : PySem.W.Frag} {d a : Addr} {z : Str} {o : Obj} {i j : Int} (q : PySem.W.nsIn K d z = some (some (.ref a))) (l : K.lookup a = some o) (t : KPair o i j) : GEnt K d (z, .tuple [.int i, .int j]) :=
  ⟨_, .ref a, q, rfl, dp_kpair l t⟩
theorem gdict_mk {K : PySem.W.Frag} {w : World} {mg : Str → Option Value} {x : Str} {tab : List (Str × PyData)} {d : Addr} {es : Array DictEntry} {n : Nat} (hm : mg x = some (.ref d)) (l : K.lookup d = some ⟨.type "dict", none, .dict es n, #[]⟩)
    (lit : PySem.W.KeysLit w.params es.toList) (low : (d == sysModules) = false) (hk : es.toList.map (fun e => match e.key with | .str z _ => some z | _ => none) = tab.map (fun e => some e.1)) (he : ∀ e ∈ tab, GEnt K d e) : GDict K w mg x tab := by
  refine ⟨d, es, n, hm, ⟨l, lit, low⟩, ?_, fun i z dat h => ?_, fun z dat h => ?_⟩
  · have := congrArg List.length hk
    simpa using this
  · have h1 := congrArg (fun l => l[i]?) hk
    simp only [List.getElem?_map, h, Option.map_some] at h1
    cases e : es.toList[i]? with
    | none => rw [e] at h1; cases h1
    | some en =>
      rw [e] at h1
      simp only [Option.map_some, Option.some.injEq] at h1
      refine ⟨en, ?_⟩
      split at h1
      · rename_i z' t hz
        cases h1
        exact ⟨t, by rw [← Array.getElem?_toList]; exact e, hz⟩
      · cases h1
  · have : (z, dat) ∈ tab := by
      clear hk he
      induction tab with
      | nil => cases h
      | cons p r ih =>
        obtain ⟨y, d'⟩ := p
        rw [List.lookup_cons] at h
        split at h
        · rename_i e
          cases h
          rw [eq_of_beq e]
          exact List.mem_cons_self
        · exact List.mem_cons_of_mem _ (ih h)
    exact he _ this
end DL

namespace DL
open PySem PySem.Spec PyProof.Rows L2
/-! ### is True, is False -/
def gIsB : G2
  | .bool a, .bool b, G => G (.bool (decide (a = b)))
  | _, _, _ => False
def gNotB : G2
  | .bool a, .bool b, G => G (.bool (!decide (a = b)))
  | _, _, _ => False
theorem o_isB {K : PySem.W.Frag} : Op2 K rIsB gIsB := by
  intro x y d e H G Q hx hy hg k
  unfold gIsB at hg
  split at hg
  · cases hx
    cases hy
    exact ⟨_, _, rfl, rfl, k _ _ (.bl _) hg⟩
  · exact hg.elim
theorem o_notB {K : PySem.W.Frag} : Op2 K rNotB gNotB := by
  intro x y d e H G Q hx hy hg k
  unfold gNotB at hg
  split at hg
  · cases hx
    cases hy
    exact ⟨_, _, rfl, rfl, k _ _ (.bl _) hg⟩
  · exact hg.elim
end DL

namespace DL
open PySem PySem.Spec PyProof.Rows L2
/-! ### an exception that was caught is kept in hand -/
section
variable {X : Cx} {pins : List (Addr × Obj)} {σ : L2.St} {H : Hp} {s : Shared} {a : Addr} {o : HO}
theorem inv_track (I : Inv X pins σ H s) (hex : X.ex = []) (hn : H a = none) (h0 : X.s_0.heap.get? a = none) (hL : a ≠ X.env.locals) (hp : ∀ p ∈ X.pn ++ pins, p.1 ≠ a) (hc : ∀ x c, X.env.cells.lookup x = some c → c ≠ a)
    (new : ObjOk X.prog X.w (upd H a o) s.heap a o) : Inv X pins σ (upd H a o) s where
  ok := I.ok
  os := I.os
  bare := I.bare
  base := {
    keep := I.base.keep
    slot := I.base.slot
    free := fun b u q n hx => by
      rw [upd_ne (fun z => by rw [z, h0] at q; cases q)]
      exact I.base.free b u q n hx
    there := I.base.there
    tups := fun b xs q => by
      have := I.base.tups b xs q
      rw [upd_ne (ne_of_none this hn)]
      exact this
    frzs := fun b u xs q => by
      have := I.base.frzs b u xs q
      rw [upd_ne (ne_of_none this hn)]
      exact this
    tbls := fun b ps q => by
      obtain ⟨m, this⟩ := I.base.tbls b ps q
      exact ⟨m, by rw [upd_ne (ne_of_none this hn)]; exact this⟩ }
  loc := I.loc
  cell := I.cell
  free := by rw [upd_ne (Ne.symm hL)]; exact I.free
  freeC := fun x c e => by rw [upd_ne (hc x c e)]; exact I.freeC x c e
  pin := fun p hm => by
    obtain ⟨h1, h2, h3⟩ := I.pin p hm
    exact ⟨h1, by rw [upd_ne (hp p hm)]; exact h2, h3⟩
  hok := fun b u e => by
    by_cases hb : b = a
    · subst hb
      rw [upd_same] at e
      cases e
      exact new
    · rw [upd_ne hb] at e
      exact (I.hok b u e).stay (fun c v _ q => q) (fun c q => by rw [upd_ne (ne_of_none q hn)]; exact q) fun c xs q => by rw [upd_ne (ne_of_none q hn)]; exact q
  len := I.len
theorem exK_ok {P : Program} {w : World} {H : Hp} {h : Heap} {cls : Value} {d : Option Addr} {oe : Obj} {vs : Array Value} (e : h.get? a = some oe) (h1 : oe.cls = cls) (h2 : oe.dict = d) (h3 : oe.data = .fields vs) : ObjOk P w H h a (exK a cls d) :=
  ⟨⟨oe, vs, e, h1, h2, h3⟩, ⟨oe, e⟩, fun _ _ ⟨oe', vs', q, r⟩ k => ⟨oe', vs', k _ q, r⟩⟩
theorem exK_at {P : Program} {w : World} {H : Hp} {h : Heap} {cls : Value} {d : Option Addr} (hok : HOk P w H h) (e : H a = some (exK a cls d)) : ∃ oe vs, h.get? a = some oe ∧ oe.cls = cls ∧ oe.dict = d ∧ oe.data = .fields vs :=
  (show ObjOk P w H h a (exK a cls d) from hok a _ e).1
end
/-- what the clause 'except x as n: m = n' wishes of an exception of the body -/
def wCatch (K : PySem.W.Frag) (c : Value) (i j : Nat) (D : Ends) : WX := fun cls d σ H =>
  PySem.W.exmOne K cls c = some true ∧ ∀ a, H a = none → D.nx ((σ.set j (some (.ref a))).set i none) (upd H a (exK a cls d))
section
variable {X : Cx} {x n m : Str} {c : Value} {i j : Nat} {body : List Stmt} {np mp np2 pos pos' apos : Pos}
theorem set_comm' {σ : L2.St} {i j : Nat} {u v : Option V} (h : i ≠ j) : (σ.set i u).set j v = (σ.set j v).set i u := List.set_comm _ _ h
theorem ps_try_catch (hs : X.stack = X.env :: X.outer) (hf : X.env.frame = some X.env.locals) (hex : X.ex = []) (hN : X.N.Nodup) (hi : X.N[i]? = some n) (hj : X.N[j]? = some m) (hij : i ≠ j) (hln : X.env.kindOf n = some .local) (hlm : X.env.kindOf m = some .local) (hc : Names X x c)
    (hnd : (n == ("__debug__" : Str)) = false := by decide) (hnc : (n == ("__classdict__" : Str)) = false := by decide)
    (hsw : ∀ a oe pn, swapsWith (.Name n np2) (some (.Name m mp)) apos.line (X.suite a ((a, oe) :: pn)).env = pure false := by intro _ _ _; rfl) :
    PS X (.Try body [.ExceptHandler (some (.Name x np)) (some n) [.Assign [.Name m mp] (.Name n np2) apos] pos'] [] [] pos)
      (fun D σ H => ∀ pn xe, Takes (X.tr pn xe) (wCatch X.K c i j D) → PassesOwn (model X.prog X.w) X.A X.env xe → ∃ t, PSs (X.tr pn xe) body t ∧ t D σ H) := by
  refine ⟨fun pins s σ H D I h => ?_⟩
  have ok := I.ok
  have hfr : X.A.frames = some (X.env :: X.outer) := by rw [ok.frames, hs]
  have hloc : Loc X.env.scope n := .inl hln
  refine wpAny_Try_except ?_
  have tk : Takes (X.tr (X.pn ++ pins) (fun e s₁ => wpAny (model X.prog X.w) X.A (noteFrame e X.env) (fun _ s₂ => wpAny (model X.prog X.w) X.A (setFlight e none) (fun _ s₃ =>
    wpAny (model X.prog X.w) X.A (handleBy e X.env [.ExceptHandler (some (.Name x np)) (some n) [.Assign [.Name m mp] (.Name n np2) apos] pos']) (SP X pins D) X.xe s₃) X.xe s₂) X.xe s₁)) (wCatch X.K c i j D) := by
    intro u s' xx
    obtain ⟨a, B, sI, pins', σ', H', cls, d, rfl, J', nb, up, sky, na, os, ag, hb1, hyes⟩ := xx
    have J : Inv X pins σ' H' sI := J'.ofTry ok
    have sky' : Sky B (X.env :: X.outer) a (Zc cls d) X.env.locals s'.heap := by rw [← hs]; exact sky
    show wpAny (model X.prog X.w) X.A (noteFrame (.ref a) X.env) _ _ _
    refine Sky.land Zc.steady hfr hf sky' fun h3 fl3 up3 => ?_
    have J3 : Inv X pins σ' H' { s' with heap := h3 } := J.landed nb fl3.1 (up.trans up3) os ag
    obtain ⟨oe3, vs3, he3, hz3, hd3⟩ := fl3.there
    have notFr : ∀ {h : Heap} {o : Obj} {vs : Array Value}, h.FunFrames B (X.env :: X.outer) → h.get? a = some o → o.data = .fields vs → a ∉ frs (X.env :: X.outer) := fun {h o vs} ff e dd hm => by
      obtain ⟨_, o', e', hnf⟩ := ff.mem hm
      rw [e] at e'; cases e'
      exact hnf _ dd
    have nfr := notFr fl3.2.2.1 he3 hd3
    have nL : a ≠ X.env.locals := fun z => nfr (List.mem_filterMap.mpr ⟨X.env, List.mem_cons_self, by rw [hf, z]⟩)
    have nF : a ∉ X.fs := fun hm => by
      obtain ⟨e, he, q⟩ := List.mem_filterMap.mp hm
      exact nfr (List.mem_filterMap.mpr ⟨e, List.mem_cons_of_mem _ he, q⟩)
    -- it is new
    have nI : sI.heap.get? a = none := by
      cases q : sI.heap.get? a with
      | none => rfl
      | some u =>
        have := nb a u q (by rw [hs]; exact nfr)
        rw [fl3.2.1] at this
        cases this
    have n0 : X.s_0.heap.get? a = none := by
      cases q : X.s_0.heap.get? a with
      | none => rfl
      | some u =>
        obtain ⟨o', e'⟩ := J.base.there a u q (by rw [hex]; simp)
        rw [nI] at e'
        cases e'
    have nP : ∀ p ∈ X.pn ++ pins, p.1 ≠ a := fun p hp z => by
      have := (J.pin p hp).1
      rw [z, nI] at this
      cases this
    have S3 := J3.suite he3 hd3 na nL nF
    refine wpAny_handleBy_cons (codeAny_handlers_test ?_) (by intro q; cases q)
    have LT : PySem.W.Looks (model X.prog X.w) h3 (typeOf (.ref a)) cls := fun A Q E s k q => wpAny_typeOf_ref (k _ _ he3) (by rw [hz3.1]; exact q)
    have LM := PySem.W.exm_one (M := model X.prog X.w) (J3.kIn) LT hb1
    have test : ∀ {Q : Value → Shared → Prop} {E : Value → Shared → Prop}, Q c { s' with heap := h3 } → wpAny (model X.prog X.w) (X.A.mark (some (.ref a))) (eval (.Name x np) X.env) Q E { s' with heap := h3 } := fun {Q E} q => by
      obtain ⟨hg, hdbg, hm | ⟨hm, hv, hnn⟩⟩ := hc
      · exact ld_glob (X := X.suite a ((a, oe3) :: (X.pn ++ pins))) S3 hg hm q hdbg
      · exact ld_blt (X := X.suite a ((a, oe3) :: (X.pn ++ pins))) S3 hg hm hv q hnn hdbg
    refine test (LM.here ?_)
    refine codeAny_handlers_suite_as ?_
    refine HandSPX.lands_againZ fl3 fun h4 fl4 up4 => ?_
    have J4 : Inv X pins σ' H' { s' with heap := h4 } := J.landed nb fl4.1 ((up.trans up3).trans up4) os ag
    obtain ⟨oe4, vs4, he4, hz4, hd4⟩ := fl4.there
    have S4 := J4.suite he4 hd4 na nL nF
    refine store_ok (X := X.suite a ((a, oe4) :: (X.pn ++ pins))) (v := .ref a) S4 hN hi hloc rfl (fun s5 S5 => ?_) (.inr hln)
    have hsu : PSs (X.suite a ((a, oe4) :: (X.pn ++ pins))) [.Assign [.Name m mp] (.Name n np2) apos] (fun D σ H => tVar i σ H fun v H1 => D.nx (σ.set j (some v)) H1) :=
      pss_one (ps_set (X := X.suite a ((a, oe4) :: (X.pn ++ pins))) (i := j) hN hj (.inl hlm) (pe_var (X := X.suite a ((a, oe4) :: (X.pn ++ pins))) hi (.inl hln) hnd hnc) (hsw a oe4 _) (.inr hlm))
    have hlt : i < σ'.length := by
      rw [J4.len]
      exact (List.getElem?_eq_some_iff.mp hi).1
    refine wpAny_mono (hsu.run [] s5 _ H' { nx := fun σ6 H6 => σ6 = (σ'.set i (some (.ref a))).set j (some (.ref a)) ∧ H6 = H', rt := fun _ _ => False, bk := fun _ _ => False, ct := fun _ _ => False } S5 ⟨.ref a, by rw [List.getElem?_set_self hlt], rfl, rfl⟩) (fun f s6 hsp => ?_) (fun _ _ z => False.elim z)
    cases f with
    | next =>
      obtain ⟨σ6, H6, S6, rfl, rfl⟩ := hsp
      have S6' : Inv X ((a, oe4) :: pins) _ _ s6 := ⟨ok, S6.os, S6.bare, S6.base, S6.loc, S6.cell, S6.free, S6.freeC, fun p hp => S6.pin p (by
        rw [List.append_nil]
        rcases List.mem_append.mp hp with h | h
        · exact List.mem_cons_of_mem _ (List.mem_append_left _ h)
        · rcases List.mem_cons.mp h with h | h
          · rw [h]; exact List.mem_cons_self
          · exact List.mem_cons_of_mem _ (List.mem_append_right _ h)), S6.hok, S6.len⟩
      refine gone_ok S6' hN hi hln fun s7 J7 => ?_
      obtain ⟨g1, g2, g3, g4, g5⟩ := J7.pin (a, oe4) (List.mem_append_right _ List.mem_cons_self)
      have J7' : Inv X pins _ _ s7 := J7.pins_of fun p hp => J7.pin p (List.mem_append_right _ (List.mem_cons_of_mem _ hp))
      refine ⟨_, _, inv_track (a := a) (o := exK a cls d) J7' hex na n0 nL nP (fun y cc hy z => ?_) (exK_ok g1 hz4.1 hz4.2 hd4), ?_⟩
      · obtain ⟨v, o, ho, hv⟩ := J7'.cell y cc hy
        rw [z, g1] at ho
        cases ho
        exact g5 _ hv
      · have := hyes a na
        rw [show (((σ'.set i (some (V.ref a))).set j (some (V.ref a))).set i none) = (σ'.set j (some (V.ref a))).set i none by rw [List.set_comm _ _ hij, List.set_set]]
        exact this
    | brk =>
      obtain ⟨σ6, H6, S6, q6⟩ := hsp
      exact q6.elim
    | cont =>
      obtain ⟨σ6, H6, S6, q6⟩ := hsp
      exact q6.elim
    | ret u =>
      obtain ⟨v6, σ6, H6, S6, r6, q6⟩ := hsp
      exact q6.elim
  obtain ⟨t, pt, ht⟩ := h _ _ tk PassesOwn.looking
  refine wpAny_mono (pt.run [] s σ H D (I.toTry _) ht) (fun f s1 hsp => ?_) (fun e s1 he => he)
  cases f with
  | next =>
    obtain ⟨σ', H', J', q⟩ := hsp
    exact wpAny_execs_nil ⟨σ', H', J'.ofTry ok, q⟩
  | brk =>
    obtain ⟨σ', H', J', q⟩ := hsp
    exact ⟨σ', H', J'.ofTry ok, q⟩
  | cont =>
    obtain ⟨σ', H', J', q⟩ := hsp
    exact ⟨σ', H', J'.ofTry ok, q⟩
  | ret u =>
    obtain ⟨v, σ', H', J', r, q⟩ := hsp
    exact ⟨v, σ', H', J'.ofTry ok, r, q⟩
end
end DL

namespace DL
open PySem PySem.Spec PyProof.Rows L2
/-! ### code that may raise -/
abbrev Kpt := Option (Str × PyData)
abbrev PK := Str → Kpt → Rho → Prop
def ExcD (K : PySem.W.Frag) (F : Hp) (n : Str) (y : Kpt) (cls : Value) (d : Option Addr) : Prop := ∃ C, cls = .ref C ∧ PySem.W.nsIn K mainGlobals n = some (some (.ref C)) ∧ match y with
  | none => d = none
  | some (f, x) => ∃ dd u, d = some dd ∧ F dd = some (.xd [(f, u)]) ∧ Dp K F u x
theorem ExcD.t {K : PySem.W.Frag} {F F' : Hp} {n : Str} {y : Kpt} {cls : Value} {d : Option Addr} {a : Addr} (x : ExcD K F n y cls d) (s : Same F F') (h : F' a = some (exK a cls d)) : ExcT K F' n y (.ref a) := by
  obtain ⟨C, h1, h2, h3⟩ := x
  refine ⟨a, C, d, rfl, h2, by rw [← h1]; exact h, ?_⟩
  cases y with
  | none => exact h3
  | some p =>
    obtain ⟨dd, u, g1, g2, g3⟩ := h3
    exact ⟨dd, u, g1, s _ _ g2, dpm s _ _ g3⟩
structure ExOk (K : PySem.W.Frag) (F H : Hp) (fr : Fp) (P : PK) (W : WX) : Prop where
  ex : ∀ n y σ' H' F' ρ' cls dd, P n y ρ' → ExcD K F' n y cls dd → SI K F' H' σ' ρ' fr → Kp F H fr F' H' → W cls dd σ' H'
theorem ExOk.go {K : PySem.W.Frag} {F H F1 H1 : Hp} {fr : Fp} {P : PK} {W : WX} (E : ExOk K F H fr P W) (k : Kp F H fr F1 H1) : ExOk K F1 H1 fr P W :=
  ⟨fun n y σ' H' F' ρ' cls dd a b c x => E.ex n y σ' H' F' ρ' cls dd a b c (k.trans x)⟩
abbrev RSX (K : PySem.W.Frag) (W : WX) (t : TS) (w : WS) : Prop := ∀ (σ : Sg) (H F : Hp) (ρ : Rho) (fr : Fp) (d : DEnds) (e : Ends), SI K F H σ ρ fr → EndsOk K F H fr d e → ExOk K F H fr d.ex W → w d ρ → t e σ H
structure DSX (X : Cx) (W : WX) (st : Stmt) (w : WS) : Prop where
  run : ∃ t : TS, PS X st t ∧ RSX X.K W t w
structure DSsX (X : Cx) (W : WX) (st : List Stmt) (w : WS) : Prop where
  run : ∃ t : TS, PSs X st t ∧ RSX X.K W t w
theorem PS.nox {X : Cx} {st : Stmt} {t : TS} (h : PS X.nox st t) : PS X st t := ⟨fun pins s σ H D I hw =>
  wpAny_mono (h.run pins s σ H D (I.wish _) hw) (fun _ _ q => q.unwish) fun _ _ z => False.elim z⟩
section
variable {X : Cx} {W : WX} {st : Stmt} {sts : List Stmt} {w1 w2 : WS} {wt : WT} {e c tg iter : Expr} {pos pos' : Pos} {wi : WI} {g : WG} {wb : WS}
theorem dsx_pure (h : DS X.nox st w1) : DSX X W st w1 := by
  obtain ⟨⟨t, p, r⟩⟩ := h
  exact ⟨⟨t, PS.nox p, fun σ H F ρ fr d e S E _ h => r σ H F ρ fr d e S E h⟩⟩
theorem dssx_nil : DSsX X W [] wNext := ⟨⟨_, pss_nil, fun σ H F ρ fr d e S E _ h => E.nx σ H F ρ h S Kp.refl⟩⟩
theorem dssx_cons (h1 : DSX X W st w1) (h2 : DSsX X W sts w2) : DSsX X W (st :: sts) (wSeq w1 w2) := by
  obtain ⟨⟨t, p, r⟩⟩ := h1
  obtain ⟨⟨u, q, r2⟩⟩ := h2
  refine ⟨⟨_, pss_cons p q, fun σ H F ρ fr d e S E Ex h => ?_⟩⟩
  exact r σ H F ρ fr (d.seq (w2 d)) { e with nx := u e } S ⟨fun σ' H' F' ρ' a b c => r2 σ' H' F' ρ' fr d e b (E.go c) (Ex.go c) a, E.bk, E.ct, E.rt⟩ Ex h
theorem dssx_one (h1 : DSX X W st w1) : DSsX X W [st] w1 := let ⟨⟨t, p, r⟩⟩ := h1; ⟨⟨_, pss_one p, r⟩⟩
theorem dsx_if {a b : List Stmt} (hc : DT X c wt) (ha : DSsX X W a w1) (hb : DSsX X W b w2) : DSX X W (.If c a b pos) (wIfS wt w1 w2) := by
  obtain ⟨⟨t, p, r⟩⟩ := hc
  obtain ⟨⟨t1, p1, r1⟩⟩ := ha
  obtain ⟨⟨t2, p2, r2⟩⟩ := hb
  refine ⟨⟨_, ps_if p p1 p2, fun σ H F ρ fr d e S E Ex h => ?_⟩⟩
  refine r σ H F ρ fr _ _ S h fun b H' F' ρ' a S' k => ?_
  cases b with
  | true => exact r1 σ H' F' ρ' fr d e S' (E.go k) (Ex.go k) a
  | false => exact r2 σ H' F' ρ' fr d e S' (E.go k) (Ex.go k) a
theorem dsx_for {body : List Stmt} (hp : PassesOwn (model X.prog X.w) X.A X.env X.xe) (hc : X.calm = true) (hi : DI X tg iter wi) (hg : DG X tg g) (hb : DSsX X W body wb) (hs : ∀ x, foldedSetIterable iter X.env x = pure x := by intro _; rfl) : DSX X W (.For tg iter body [] pos) (wFor wi g wb) := by
  obtain ⟨⟨ti, pi, ri⟩⟩ := hi
  obtain ⟨⟨tg', pg, rg⟩⟩ := hg
  obtain ⟨⟨tb, pb, rb⟩⟩ := hb
  refine ⟨⟨_, ps_for hp hc pi pg pb hs, fun σ H F ρ fr d e S E Ex h => ?_⟩⟩
  refine ri σ H F ρ fr _ _ S h fun xs H1 F1 ρ1 J a S1 k1 hJ => ?_
  obtain ⟨I, i0, it, ie⟩ := a
  refine ⟨fun i m σ' H' => m = xs.length - i ∧ i ≤ xs.length ∧ ∃ ρ' F', I i ρ' ∧ SI X.K F' H' σ' ρ' fr ∧ Kp F1 H1 fr F' H', ⟨xs.length, by simp, Nat.zero_le _, ρ1, F1, i0, S1, Kp.refl⟩, ?_⟩
  rintro i m σ2 H2 ⟨rfl, hi, ρ2, F2, i2, S2, k2⟩
  obtain ⟨jstop, jgo⟩ := hJ i F2 H2 k2.exF S2.ex
  by_cases hlt : i < xs.length
  · obtain ⟨x, hx⟩ : ∃ x, xs[i]? = some x := ⟨xs[i], by simp [hlt]⟩
    obtain ⟨go, yl⟩ := jgo x hx
    refine .inr ⟨go, fun σ' H' => ∃ ρ' F', I (i + 1) ρ' ∧ SI X.K F' H' σ' ρ' fr ∧ Kp F1 H1 fr F' H', fun σ' H' n => ⟨xs.length - (i + 1), by omega, rfl, hlt, n⟩, fun v H3 y => ?_⟩
    have main : ∀ F3, SI X.K F3 H3 σ2 ρ2 fr → Kp F1 H1 fr F3 H3 → Dp X.K F3 v x → tg' v σ2 H3 fun σ4 H4 => tb { nx := fun σ' H' => ∃ ρ' F', I (i + 1) ρ' ∧ SI X.K F' H' σ' ρ' fr ∧ Kp F1 H1 fr F' H', rt := e.rt, bk := e.nx, ct := fun σ' H' => ∃ ρ' F', I (i + 1) ρ' ∧ SI X.K F' H' σ' ρ' fr ∧ Kp F1 H1 fr F' H' } σ4 H4 := by
      intro F3 S3 k3 dp
      refine rg σ2 H3 F3 ρ2 fr x v _ _ S3 dp (it i x ρ2 hx i2) fun σ4 H4 F4 ρ4 a S4 k4 => ?_
      have E4 : EndsOk X.K F4 H4 fr d e := (E.go k1).go (k3.trans k4)
      refine rb σ4 H4 F4 ρ4 fr (d.loop (I (i + 1))) _ S4 ⟨fun σ' H' F' ρ' a b c => ⟨ρ', F', a, b, (k3.trans k4).trans c⟩, E4.nx, fun σ' H' F' ρ' a b c => ⟨ρ', F', a, b, (k3.trans k4).trans c⟩, E4.rt⟩ ((Ex.go k1).go (k3.trans k4)) a
    rcases yl v H3 y with ⟨rfl, dp⟩ | ⟨p, u, hp, rfl, dp⟩
    · exact main F2 S2 k2 dp
    · obtain ⟨S3, _, k3⟩ := S2.newF (o := u) hp
      exact main _ S3 (k2.trans k3) dp
  · have e' : i = xs.length := by omega
    subst e'
    exact .inl ⟨jstop (Nat.le_refl _), E.nx σ2 H2 F2 ρ2 (ie ρ2 i2) S2 (k1.trans k2)⟩
end

/-! ### defs that may raise -/
abbrev FSX := List OT → (OT → List OT → Prop) → (Str → Kpt → List OT → Prop) → Prop
def spX (K : PySem.W.Frag) (np : Nat) (φ : FSX) : Sp := fun vs H Q E => vs.length = np ∧ ∃ F ts m, Same F H ∧ OwnTs K F H ts vs m ∧ FreeOk F H m ∧
  ∃ Q0 X0, φ ts Q0 X0 ∧ (∀ r ts', Q0 r ts' → ∀ v H' F' mv m', OwnT K F' H' r v mv → OwnTs K F' H' ts' vs m' → CallEnd K F H m F' H' (padd mv m') → Q v H') ∧
    ∀ n y ts', X0 n y ts' → ∀ cls dd H' F' m', ExcD K F' n y cls dd → OwnTs K F' H' ts' vs m' → CallEnd K F H m F' H' m' → E cls dd H'
def endsFX (n : Nat) (ts : List OT) (Q : OT → List OT → Prop) (Xx : Str → Kpt → List OT → Prop) : DEnds where
  nx := fun ρ => backs ts ρ fun ts' => Q (.fz .none) ts'
  rt := fun r ρ => outD r ρ fun t ρ' => backs ts ρ' fun ts' => Q t ts'
  ex := fun nm y ρ => backs ts ρ fun ts' => Xx nm y ts'
/-- THE RULE for a def that may raise -/
theorem fnX {P : Program} {w : World} {K : PySem.W.Frag} {mg : Str → Option Value} {base : Heap} {x qual : Str} {st : Stmt} {f : Addr} {fd : FuncData} {N ps : List Str} {k : Nat} {φ : FSX} (F : Fun K x qual st f fd) (S : FnScope N ps (defScope st))
    (h : ∀ (cdv : Value) (A : Around) (outer : List Env) (s : Shared) (H : Hp) (E : XK), Room k (A.deeper (envOfC qual (defScope st) s.heap.objs.size f cdv)) →
      ∃ w', DSsX (cxOf (L2.CX P w) P w K mg base N qual (defScope st) f cdv A outer s H E) (fun cls d _ H => E cls d H) (defBody st) w' ∧ ∀ ts Q Xx, ts.length = ps.length → φ ts Q Xx → w' (endsFX N.length ts Q Xx) (startR N.length ts)) :
    FnOk P w K mg base (L2.CX P w) (k + 1) f fd ps (spX K ps.length φ) := by
  refine F.okX S (fun vs H Q E h => h.1) (fun cdv A outer s H vs Q E hr hs => ?_)
  obtain ⟨w', ⟨⟨t, p, r⟩⟩, hw⟩ := h cdv A outer s H E hr
  refine ⟨t, p, ?_⟩
  obtain ⟨hl, F0, ts, m, sF, ow, fo, Q0, X0, hφ, hQ0, hX0⟩ := hs
  have el := ow.len
  have e2 : start N vs = vs.map some ++ List.replicate (N.length - vs.length) none := rfl
  have e3 : startR N.length ts = ts.map some ++ List.replicate (N.length - vs.length) none := by unfold startR; rw [el]
  have hst : OwnS K F0 H (startR N.length ts) (start N vs) m := by rw [e2, e3]; exact ow.start _
  have fin : ∀ (v : V) (H' F' : Hp) (t : OT) (mv n : Fp) (ρ' : Rho) (σ' : Sg), OwnT K F' H' t v mv → OwnS K F' H' ρ' σ' n → Same F' H' → (∀ a, n a + (padd (frO F0 H m) mv) a ≤ 1 ∧ (n a + (padd (frO F0 H m) mv) a ≠ 0 → F' a = none ∧ H' a ≠ none)) →
      Kp F0 H (frO F0 H m) F' H' → (backs ts ρ' fun ts' => Q0 t ts') → Q v H' := by
    intro v H' F' t mv n ρ' σ' o1 o2 ex q kp hb
    obtain ⟨ts', m', a, b, c⟩ := backs_ok kp.exF ow o2 hb
    refine hQ0 _ _ c v H' F' mv m' o1 a ⟨kp.exF, ex, fun a => ?_, fun a h1 h2 h3 => ?_, kp.grow⟩
    · obtain ⟨q1, q2⟩ := q a
      have := b a
      unfold padd at q1 q2 ⊢
      exact ⟨by omega, fun z => q2 (by omega)⟩
    · have e1 := frO_one h1 h2 h3
      obtain ⟨q1, q2⟩ := q a
      have := b a
      unfold padd at q1 q2 ⊢
      rw [e1] at q1 q2
      exact ⟨kp.keep a (by rw [e1]; decide), by omega, (q2 (by omega)).1⟩
  refine r (start N vs) H F0 (startR N.length ts) (frO F0 H m) (endsFX N.length ts Q0 X0) _ ⟨sF, m, hst, fun a => ?_⟩ ⟨fun σ' H' F' ρ' a b c => ?_, fun _ _ _ _ a => a.elim, fun _ _ _ _ a => a.elim, fun v H' F' σ' ρ' r m1 a b c kp => ?_⟩ ⟨fun nm y σ' H' F' ρ' cls dd a b c kp => ?_⟩ (hw ts Q0 X0 (by rw [← el, hl]) hφ)
  · obtain ⟨q1, q2⟩ := fo.ok a
    rcases frO_cases F0 H m a with e | ⟨e, e1, e2, e3⟩
    · rw [e]; exact ⟨by omega, fun z => q2 (by omega)⟩
    · rw [e]; exact ⟨by omega, fun _ => ⟨e2, e1⟩⟩
  · obtain ⟨n, o2, q⟩ := b.own
    exact fin .non H' F' (.fz .none) z0 n ρ' σ' ⟨.non, rfl⟩ o2 b.ex q c a
  · have a' : outD r ρ' fun t ρ' => backs ts ρ' fun ts' => Q0 t ts' := a
    cases r with
    | tm t =>
      obtain ⟨n, o2, q⟩ := c.own
      exact fin v H' F' t m1 n ρ' σ' b o2 c.ex q kp a'
    | sl i =>
      obtain ⟨d, ρ2, F2, a2, dp, s, S2⟩ := frz_ok (r := .sl i) (k := fun d ρ' => backs ts ρ' fun ts' => Q0 (.fz d) ts') c b (fun a => by unfold padd; omega) a'
      obtain ⟨n, o2, q⟩ := S2.own
      refine fin v H' F2 (.fz d) z0 n ρ2 σ' ⟨dp, rfl⟩ o2 S2.ex (fun a => ?_) (kp.trans (Kp.ofF s)) a2
      obtain ⟨q1, q2⟩ := q a
      have hm : m1 a = 0 := by rw [b.1]; rfl
      unfold padd at q1 q2 ⊢
      show _ + (_ + 0) ≤ 1 ∧ (_ + (_ + 0) ≠ 0 → _)
      exact ⟨by omega, fun z => q2 (by omega)⟩
  · obtain ⟨n, o2, q⟩ := c.own
    have a' : backs ts ρ' fun ts' => X0 nm y ts' := a
    obtain ⟨ts', m', a1, b1, c1⟩ := backs_ok kp.exF ow o2 a'
    refine hX0 nm y ts' c1 cls dd H' F' m' b a1 ⟨kp.exF, c.ex, fun a => ?_, fun a h1 h2 h3 => ?_, kp.grow⟩
    · obtain ⟨q1, q2⟩ := q a
      have := b1 a
      exact ⟨by omega, fun z => q2 (by omega)⟩
    · have e1 := frO_one h1 h2 h3
      obtain ⟨q1, q2⟩ := q a
      have := b1 a
      rw [e1] at q1 q2
      exact ⟨kp.keep a (by rw [e1]; decide), by omega, (q2 (by omega)).1⟩

/-! ### calls of such defs -/
abbrev WEX := Rho → (RV → Rho → Prop) → PK → Prop
abbrev REX (K : PySem.W.Frag) (W : WX) (t : TE) (w : WEX) : Prop := ∀ (σ : Sg) (H F : Hp) (ρ : Rho) (fr : Fp) (Q : RV → Rho → Prop) (P : PK) (Q' : VK), SI K F H σ ρ fr → ExOk K F H fr P W → w ρ Q P →
    (∀ v H' F' ρ' r m, Q r ρ' → RVok K F' H' σ r v m → SI K F' H' σ ρ' (padd fr m) → Kp F H fr F' H' → Q' v H') → t σ H Q'
structure DEX (X : Cx) (W : WX) (e : Expr) (w : WEX) : Prop where
  run : ∃ t : TE, PE X e t ∧ REX X.K W t w
def wCallX (np : Nat) (bs : List Bool) (φ : FSX) (ws : WA) : WEX := fun ρ Q P => ws ρ fun rs ρ1 => bmt (decide (rs.length = np)) (argsD bs rs ρ1 fun ts is ρ2 => φ ts (fun r ts' => Q (.tm r) (putB is ts' ρ2)) fun n y ts' => P n y (putB is ts' ρ2)) False
section
variable {X : Cx} {W : WX} {k np : Nat} {f : Addr} {fd : FuncData} {ps : List Str} {φ : FSX} {x : Str} {p pos : Pos} {e : Expr} {es : List Expr} {ws : WA} {bs : List Bool}
theorem callX_run {K : PySem.W.Frag} {t : TA} (ra : ∀ (σ : Sg) (H F : Hp) (ρ : Rho) (fr : Fp) (Q : List RV → Rho → Prop) (Q' : List V → Hp → Prop), SI K F H σ ρ fr → ws ρ Q →
    (∀ vs H' F' ρ' rs m, Q rs ρ' → RVsOk K F' H' σ rs vs m → SI K F' H' σ ρ' (padd fr m) → Kp F H fr F' H' → Q' vs H') → t σ H Q') : REX K W (tCallS (spX K np φ) (L2.WE W) t) (wCallX np bs φ ws) := by
  intro σ H F ρ fr Q P Q' S Ex hw k
  refine ra σ H F ρ fr _ _ S hw fun vs H1 F1 ρ1 rs m hw o S1 k1 => ?_
  obtain ⟨hl, hw⟩ := bmt_and hw
  obtain ⟨ts, is, ρ2, F2, n, hw, ot, s, S2, al⟩ := argsD_ok S1 o hw
  obtain ⟨m2, w2, q⟩ := S2.own
  have back : ∀ (ts' : List OT) (H' F' : Hp) (mv m' : Fp), OwnTs K F' H' ts' vs m' → CallEnd K F2 H1 n F' H' (padd mv m') → SI K F' H' σ (putB is ts' ρ2) (padd fr mv) ∧ Kp F H fr F' H' := by
    intro ts' H' F' mv m' o2 ce
    have w3 : OwnS K F' H' ρ2 σ m2 := w2.kp ce.sF fun a z => by
      obtain ⟨q1, q2⟩ := q a
      obtain ⟨e1, e2⟩ := q2 (by unfold padd; omega)
      unfold padd at q1
      exact (ce.keep a e2 e1 (by omega)).1
    obtain ⟨m4, w4, e4⟩ := putB_ok al o2 w3
    refine ⟨⟨ce.ex, m4, w4, fun a => ?_⟩, ?_⟩
    · obtain ⟨q1, q2⟩ := q a
      obtain ⟨c1, c2⟩ := ce.ok a
      have e4 := e4 a
      unfold padd at q1 q2 c1 c2 ⊢
      by_cases hz : m2 a + fr a = 0
      · exact ⟨by omega, fun z => c2 (by omega)⟩
      · obtain ⟨e1, e2⟩ := q2 (by omega)
        have ck := ce.keep a e2 e1 (by omega)
        have hk0 : mv a + m' a = 0 := ck.2.1
        refine ⟨by omega, fun _ => ⟨ck.2.2, ?_⟩⟩
        rw [ck.1]
        exact e2
    · refine (k1.trans (Kp.ofF s)).trans ⟨ce.sF, fun a z => ?_, ce.grow⟩
      obtain ⟨q1, q2⟩ := q a
      obtain ⟨e1, e2⟩ := q2 (by unfold padd; omega)
      unfold padd at q1
      exact (ce.keep a e2 e1 (by omega)).1
  refine ⟨o.len.trans hl, F2, ts, n, S2.ex, ot, ⟨fun a => ?_⟩, _, _, hw, ?_, ?_⟩
  · obtain ⟨q1, q2⟩ := q a
    unfold padd at q1 q2
    exact ⟨by omega, fun z => q2 (by omega)⟩
  · intro r ts' hq v H' F' mv m' o1 o2 ce
    obtain ⟨S4, kk⟩ := back ts' H' F' mv m' o2 ce
    exact k v H' F' _ (.tm r) mv hq o1 S4 kk
  · intro nm y ts' hq cls dd H' F' m' xd o2 ce
    obtain ⟨S4, kk⟩ := back ts' H' F' z0 m' o2 (by rw [z_padd]; exact ce)
    exact Ex.ex nm y σ H' F' _ cls dd hq xd S4 kk
theorem dex_call (G : FnOk X.prog X.w X.K X.mg X.base (L2.CX X.prog X.w) k f fd ps (spX X.K np φ)) (tk : Takes X W) (hr : Room k X.A) (hg : Gl X x) (hm : X.mg x = some (.ref f)) (hk : PySem.W.keepIn X.K (.ref f) = true) (hb : Binds X.K fd ps []) (bs : List Bool) (ha : DA X (e :: es) ws)
    (hdb : (x == ("__debug__" : Str)) = false := by decide) (he : starEach (e :: es) X.env = (false, eval e X.env) :: starEach es X.env := by rfl) (hpl : (backTo pos (starEach es X.env)).any (·.1) = false := by rfl) :
    DEX X W (.Call (.Name x p) (e :: es) [] pos) (wCallX np bs φ ws) := by
  obtain ⟨⟨t, pa, ra⟩⟩ := ha
  exact ⟨⟨_, pe_callS G hr hg hm hk hb (fun σ => passAt tk σ) pa hdb he hpl, callX_run ra⟩⟩
/-- .. where it doesn't raise -/
def wCallN (np : Nat) (bs : List Bool) (φ : FSX) (ws : WA) : WE := fun ρ Q => wCallX np bs φ ws ρ Q fun _ _ _ => False
end
end DL

namespace DL
open PySem PySem.Spec PyProof.Rows L2
section
variable {X : Cx} {W : WX} {k np : Nat} {f : Addr} {fd : FuncData} {ps : List Str} {φ : FSX} {x : Str} {p pos pos' apos cpos p0 : Pos} {e : Expr} {es : List Expr} {ws : WA} {bs : List Bool} {i : Nat} {wa : WE}
/-- anything, where one never comes -/
def wNo : WE := fun _ _ => False
theorem de_no : DE X e wNo := ⟨⟨fun _ _ _ => False, ⟨fun _ _ _ _ _ _ h => h.elim⟩, fun σ H F ρ fr Q Q' S hw k => hw.elim⟩⟩
theorem dex_no {w : WEX} (hw : ∀ ρ Q P, ¬ w ρ Q P) : DEX X W e w := ⟨⟨fun _ _ _ => False, ⟨fun _ _ _ _ _ _ h => h.elim⟩, fun σ H F ρ fr Q P Q' S Ex h k => hw _ _ _ h⟩⟩
/-- a def that may raise, called where it doesn't -/
theorem de_callN (G : FnOk X.prog X.w X.K X.mg X.base (L2.CX X.prog X.w) k f fd ps (spX X.K np φ)) (hr : Room k X.A) (hg : Gl X x) (hm : X.mg x = some (.ref f)) (hk : PySem.W.keepIn X.K (.ref f) = true) (hb : Binds X.K fd ps []) (bs : List Bool) (ha : DA X (e :: es) ws)
    (hdb : (x == ("__debug__" : Str)) = false := by decide) (he : starEach (e :: es) X.env = (false, eval e X.env) :: starEach es X.env := by rfl) (hpl : (backTo pos (starEach es X.env)).any (·.1) = false := by rfl) :
    DE X (.Call (.Name x p) (e :: es) [] pos) (wCallN np bs φ ws) := by
  obtain ⟨⟨t, pa, ra⟩⟩ := dex_call (W := fun _ _ _ _ => False) G takes0 hr hg hm hk hb bs ha hdb he hpl
  exact ⟨⟨t, pa, fun σ H F ρ fr Q Q' S hw k => ra σ H F ρ fr Q (fun _ _ _ => False) Q' S ⟨fun _ _ _ _ _ _ _ _ h => h.elim⟩ hw k⟩⟩
/-! statements with such a call on top -/
def wDropX (wx : WEX) : WS := fun d ρ => wx ρ (fun _ ρ1 => d.nx ρ1) d.ex
def wRetX (wx : WEX) : WS := fun d ρ => wx ρ d.rt d.ex
def wSetX (wx : WEX) (i : Nat) : WS := fun d ρ => wx ρ (fun r ρ1 => toSlot i r ρ1 d.nx) d.ex
variable {wx : WEX}
theorem dsx_expr (h : DEX X W e wx) (hs : swapsWith e none pos.line X.env = pure false := by rfl) : DSX X W (.Expr e pos) (wDropX wx) := by
  obtain ⟨⟨t, p, r⟩⟩ := h
  refine ⟨⟨_, ps_expr p hs, fun σ H F ρ fr d e S E Ex h => ?_⟩⟩
  exact r σ H F ρ fr _ _ _ S Ex h fun v H' F' ρ' r m a b c k => E.nx σ H' F' ρ' a c.left k
theorem dsx_ret (h : DEX X W e wx) : DSX X W (.Return (some e) pos) (wRetX wx) := by
  obtain ⟨⟨t, p, r⟩⟩ := h
  refine ⟨⟨_, ps_ret p, fun σ H F ρ fr d e S E Ex h => ?_⟩⟩
  exact r σ H F ρ fr _ _ _ S Ex h fun v H' F' ρ' r m a b c k => E.rt v H' F' σ ρ' r m a b c k
theorem dsx_set (hN : X.N.Nodup) (hi : X.N[i]? = some x) (hx : Loc X.env.scope x) (he : DEX X W e wx) (hs : swapsWith e (some (.Name x pos')) pos.line X.env = pure false := by rfl)
    (hf : X.fn x = true ∨ X.env.scope.names.lookup x = some .local := by first | exact .inl rfl | exact .inr rfl | assumption) : DSX X W (.Assign [.Name x pos'] e pos) (wSetX wx i) := by
  obtain ⟨⟨t, p, r⟩⟩ := he
  refine ⟨⟨_, ps_set hN hi hx p hs hf, fun σ H F ρ fr d e S E Ex h => ?_⟩⟩
  refine r σ H F ρ fr _ _ _ S Ex h fun v H' F' ρ' r m a b c k => ?_
  obtain ⟨ρ2, F2, q, S2, s⟩ := toSlot_ok c b a
  exact E.nx _ H' F2 ρ2 q S2 (k.trans (Kp.ofF s))
/-- l.append(f(..)) -/
def wAppX (i : Nat) (wx : WEX) : WS := fun d ρ => isOwn ρ i <| wx ρ (fun r ρ1 => frz r ρ1 fun x ρ2 => match look ρ2 i with
  | some (.lst p ds) => ds.length < sizeLine ∧ d.nx (ρ2.set i (some (.lst p (ds ++ [x]))))
  | _ => False) d.ex
theorem dsx_app (hN : X.N[i]? = some x) (hv : Vis X.env.scope x) (ha : DEX X W e wx)
    (hd : (x == ("__debug__" : Str)) = false := by decide) (hcd : (x == ("__classdict__" : Str)) = false := by decide)
    (hbase : attributeBase (.Name x p0) "append" X.env (eval (.Name x p0) X.env) = eval (.Name x p0) X.env := by rfl)
    (hfew : ((backTo cpos (starEach [e] X.env)).all (fun x => !x.1) && (backToKw cpos (keywordEach [] X.env)).all (fun x => x.1.isSome)
      && decide ([e].length + ([] : List Keyword).length + (if ([] : List Keyword).isEmpty then 0 else 1) < 30)) = true := by rfl)
    (hline : (apos.endLine == cpos.line) = true := by rfl) (hs : starEach (e :: []) X.env = (false, eval e X.env) :: starEach [] X.env := by rfl) (hplain : (backTo cpos (starEach [] X.env)).any (·.1) = false := by rfl)
    (hsw : swapsWith (.Call (.Attribute (.Name x p0) "append" apos) [e] [] cpos) none pos.line X.env = pure false := by rfl) :
    DSX X W (.Expr (.Call (.Attribute (.Name x p0) "append" apos) [e] [] cpos) pos) (wAppX i wx) := by
  obtain ⟨⟨t, p, r⟩⟩ := ha
  refine ⟨⟨_, ps_expr (pe_bm PySem.F.plainAttrs_list PySem.F.slot_list_append PySem.F.type_list_append mt_append (pe_var hN hv hd hcd) (pa_cons p pa_nil hs) hbase hfew hline hs hplain) hsw, fun σ H F ρ fr d e S E Ex h => ?_⟩⟩
  obtain ⟨⟨q, ds0, e0⟩, h⟩ := isOwn_iff h
  obtain ⟨vs, e1, hp, _, _⟩ := S.lst e0
  refine ⟨.ref q, e1, .inl ⟨rfl, _, SqL.of hp⟩, ?_⟩
  refine r σ H F ρ fr _ _ _ S Ex h fun v H1 F1 ρ1 r1 m a b c k1 => ?_
  obtain ⟨y, ρ2, F2, a, dp, s, S2⟩ := frz_ok c b (fun a => by unfold padd; omega) a
  have S2' : SI X.K F2 H1 σ ρ2 fr := S2.less fun a => by unfold padd; omega
  split at a
  · rename_i q' ds e2
    obtain ⟨vs', e1', hp', ha', fin⟩ := S2'.lst e2
    rw [e1] at e1'
    cases e1'
    obtain ⟨S3, k3⟩ := fin (vs' ++ [v]) (ds ++ [y]) (ha'.append (.cons dp .nil))
    exact ⟨q, vs', v, rfl, rfl, hp', by rw [ha'.length]; exact a.1, E.nx σ _ F2 _ a.2 S3 ((k1.trans (Kp.ofF s)).trans k3)⟩
  · exact a.elim
end

/-! ### raise, of a class without its own __init__ -/
abbrev veMro : List Value := [.type "ValueError", .type "Exception", .type "BaseException", .type "object"]
structure XPlain (K : PySem.W.Frag) (mg : Str → Option Value) (n : Str) : Prop where
  ex : ∃ C, mg n = some (.ref C) ∧ PySem.W.nsIn K mainGlobals n = some (some (.ref C)) ∧ PySem.W.excIn K C veMro "ValueError.__new__" = true ∧ PySem.W.keepIn K (.ref C) = true ∧
    PySem.W.subIn K (.ref C) (.type "BaseException") = some true ∧ PySem.W.typeIn K (.ref C) = some (.type "type")
def wRaise (n : Str) : WS := fun d ρ => d.ex n none ρ
section
variable {X : Cx} {W : WX} {n m : Str} {j : Nat} {p p2 pos cpos : Pos}
theorem dsx_raise (hc : X.calm = true) (tk : Takes X W) (T : XPlain X.K X.mg n) (hg : Gl X n) (hdb : (n == ("__debug__" : Str)) = false := by decide) :
    DSX X W (.Raise (some (.Call (.Name n p) [.Constant (.str m) j p2] [] cpos)) none pos) (wRaise n) := by
  obtain ⟨C, h1, h2, h3, h4, h5, h6⟩ := T.ex
  refine ⟨⟨_, ps_raise hc tk (pmk_own PySem.F.excBase_ValueError h3 h1 h4 (raises_own h5 h6) hg hdb), fun σ H F ρ fr d e S E Ex h => ?_⟩⟩
  exact Ex.ex n none σ H F ρ (.ref C) none h ⟨C, rfl, h2, rfl⟩ S Kp.refl
end

/-! ### try: .. except T as n: m = n -/
def wTry (cat : Str → Bool) (i j : Nat) (wb : WS) : WS := fun d ρ => wb { d with ex := fun nm y ρ' => cat nm = true ∧ d.nx ((ρ'.set j (some (.exc nm y))).set i none) } ρ
section
variable {X : Cx} {x n m : Str} {c : Value} {i j : Nat} {body : List Stmt} {np mp np2 pos pos' apos : Pos} {wb : WS} {cat : Str → Bool}
theorem SI.unset {K : PySem.W.Frag} {F H : Hp} {σ : Sg} {ρ : Rho} {fr : Fp} (S : SI K F H σ ρ fr) (i : Nat) : SI K F H (σ.set i none) (ρ.set i none) fr := by
  obtain ⟨m, o, q⟩ := S.own
  obtain ⟨m', o', h⟩ := OwnS.unset o i
  refine ⟨S.ex, m', o', fun a => ?_⟩
  obtain ⟨q1, q2⟩ := q a
  have := h a
  exact ⟨by omega, fun z => q2 (by omega)⟩
theorem ds_try (hs : X.stack = X.env :: X.outer) (hf : X.env.frame = some X.env.locals) (hex : X.ex = []) (hN : X.N.Nodup) (hi : X.N[i]? = some n) (hj : X.N[j]? = some m) (hij : i ≠ j) (hln : X.env.kindOf n = some .local) (hlm : X.env.kindOf m = some .local) (hc : Names X x c)
    (hcat : ∀ nm C, cat nm = true → PySem.W.nsIn X.K mainGlobals nm = some (some (.ref C)) → PySem.W.exmOne X.K (.ref C) c = some true)
    (hb : ∀ (W : WX) pn xe, Takes (X.tr pn xe) W → PassesOwn (model X.prog X.w) X.A X.env xe → DSsX (X.tr pn xe) W body wb)
    (hnd : (n == ("__debug__" : Str)) = false := by decide) (hnc : (n == ("__classdict__" : Str)) = false := by decide)
    (hsw : ∀ a oe pn, swapsWith (.Name n np2) (some (.Name m mp)) apos.line (X.suite a ((a, oe) :: pn)).env = pure false := by intro _ _ _; rfl) :
    DS X (.Try body [.ExceptHandler (some (.Name x np)) (some n) [.Assign [.Name m mp] (.Name n np2) apos] pos'] [] [] pos) (wTry cat i j wb) := by
  refine ⟨⟨_, ps_try_catch hs hf hex hN hi hj hij hln hlm hc hnd hnc hsw, fun σ H F ρ fr d e S E h => ?_⟩⟩
  intro pn xe tk po
  obtain ⟨⟨t, p, r⟩⟩ := hb _ pn xe tk po
  refine ⟨t, p, r σ H F ρ fr { d with ex := fun nm y ρ' => cat nm = true ∧ d.nx ((ρ'.set j (some (.exc nm y))).set i none) } e S ⟨E.nx, E.bk, E.ct, E.rt⟩ ⟨fun nm y σ' H' F' ρ' cls dd a xd S' k => ?_⟩ h⟩
  obtain ⟨a1, a2⟩ := a
  obtain ⟨C, e1, e2, e3⟩ := id xd
  refine ⟨by rw [e1]; exact hcat nm C a1 e2, fun a ha => ?_⟩
  obtain ⟨S2, s2, k2⟩ := S'.newF (o := exK a cls dd) ha
  have S3 := SI.set (m := z0) (t := .exc nm y) S2 (own_exc (xd.t s2 upd_same)) j
  exact E.nx _ _ _ _ a2 (S3.unset i) (k.trans k2)
end

/-! ### a caught exception asked -/
def exSub (n c : Str) : Option Bool := if n = "NoWay" then some (decide (c = "NoWay" ∨ c = "TurnError" ∨ c = "ValueError")) else none
/-- the class c, told by cv, and those that are asked of it -/
def XIs (K : PySem.W.Frag) (c : Str) (cv : Value) : Prop := ∀ n b, exSub n c = some b → ∃ D, PySem.W.nsIn K mainGlobals n = some (some (.ref D)) ∧ ExcC K D ∧ PySem.W.kitOne K (.ref D) cv = some b
def wIsX (c : Str) (wa : WE) : WE := fun ρ Q => wa ρ fun r ρ1 => match r.ot ρ1 with
  | some (.exc n none) => (match exSub n c with | some b => Q (.fz (.bool b)) ρ1 | none => False)
  | _ => False
/-- isinstance(x, c) of a caught exception without fields -/
def rIsX (K : PySem.W.Frag) : List V → Hp → VK → Prop := fun xs H Q => ∃ (a D : Addr) (c : V) (cv : Value) (b : Bool), xs = [.ref a, c] ∧ (∀ u, RelV c u → u = cv) ∧ H a = some (exK a (.ref D) none) ∧ ExcC K D ∧ PySem.W.kitOne K (.ref D) cv = some b ∧ Q (.bl b) H
theorem call_isX {X : Cx} : CallR X (.builtin "isinstance") (rIsX X.K) := by
  intro pins s σ H xs us Q I r h
  obtain ⟨a, D, c, cv, b, rfl, hcv, ha, C, e, q⟩ := h
  cases r with
  | cons rx rr =>
    cases rr with
    | cons rt rr =>
      cases rr
      cases rx
      have ec := hcv _ rt
      subst ec
      obtain ⟨oe, vs, hget, h1, h2, hv⟩ := exK_at I.hok ha
      have J : PySem.W.InstAt s.heap a oe D none := by
        obtain ⟨oc, od, oda, osl⟩ := oe
        dsimp only at h1 h2 hv
        subst h1 h2 hv
        exact ⟨hget, rfl, rfl, trivial⟩
      exact PySem.W.kia_one (PySem.W.handS_kitx_exc C.hg C.hk C.hs C.hd C.ha C.hn C.ht C.hm) I.kIn J e (fun z => nomatch z) fun tk => ⟨.bl b, H, I.kept (t' := tk) fun _ _ z => z, rfl, q⟩
section
variable {X : Cx} {e : Expr} {wa : WE} {pos p p2 : Pos} {y : Str}
theorem isX_run {K : PySem.W.Frag} {ta : TE} {cv : Value} {c : V} (hI : XIs K y cv) (hcv : ∀ u, RelV c u → u = cv) (ra : RE K ta wa) : RE K (tCB (rIsX K) (tCons ta (tCons (tC c) tNil))) (wIsX y wa) := by
  intro σ H F ρ fr Q Q' S hw k
  refine ra σ H F ρ fr _ _ S hw fun v1 H1 F1 ρ1 r1 m1 hw o1 S1 k1 => ?_
  split at hw
  · rename_i n hr
    obtain ⟨m', o'⟩ := o1.own S1 hr
    split at hw
    · rename_i b hb
      obtain ⟨⟨a, C, d, rfl, h2, h3, h4⟩, _⟩ := o'
      have h4 : d = none := h4
      subst h4
      obtain ⟨D, g1, g2, g3⟩ := hI n b hb
      rw [h2] at g1
      cases g1
      exact ⟨a, C, c, cv, b, rfl, hcv, S1.ex _ _ h3, g2, g3, k _ H1 F1 ρ1 _ z0 hw ⟨.bl b, rfl⟩ S1.left k1⟩
    · exact hw.elim
  · exact hw.elim
theorem de_isX {C : Addr} (hg : Gl X "isinstance") (hm : X.mg "isinstance" = none) (hgT : Gl X y) (hmT : X.mg y = some (.ref C)) (hI : XIs X.K y (.ref C)) (ha : DE X e wa)
    (hv : bootBuiltins "isinstance" = some (.builtin "isinstance") := by decide +kernel) (hdy : (y == ("__debug__" : Str)) = false := by decide)
    (h1 : starEach [e, .Name y p2] X.env = (false, eval e X.env) :: starEach [.Name y p2] X.env := by rfl) (h2 : starEach [.Name y p2] X.env = (false, eval (.Name y p2) X.env) :: starEach [] X.env := by rfl)
    (hpl : (backTo pos (starEach [.Name y p2] X.env)).any (·.1) = false := by rfl) : DE X (.Call (.Name "isinstance" p) [e, .Name y p2] [] pos) (wIsX y wa) := by
  obtain ⟨⟨ta, pa, ra⟩⟩ := ha
  exact ⟨⟨_, pe_callB call_isX hg hm hv (pa_cons pa (pa_cons (pe_glob (v := .ref C) hgT hmT rfl hdy) pa_nil h2) h1) (by decide) (by decide) h1 hpl, isX_run hI (fun u r => r) ra⟩⟩
theorem de_isXB {T : String} (hg : Gl X "isinstance") (hm : X.mg "isinstance" = none) (hgT : Gl X y) (hmT : X.mg y = none) (hT : bootBuiltins y = some (.type T)) (hI : XIs X.K y (.type T)) (ha : DE X e wa)
    (hv : bootBuiltins "isinstance" = some (.builtin "isinstance") := by decide +kernel) (hny : y ≠ "__name__" := by decide) (hdy : (y == ("__debug__" : Str)) = false := by decide)
    (h1 : starEach [e, .Name y p2] X.env = (false, eval e X.env) :: starEach [.Name y p2] X.env := by rfl) (h2 : starEach [.Name y p2] X.env = (false, eval (.Name y p2) X.env) :: starEach [] X.env := by rfl)
    (hpl : (backTo pos (starEach [.Name y p2] X.env)).any (·.1) = false := by rfl) : DE X (.Call (.Name "isinstance" p) [e, .Name y p2] [] pos) (wIsX y wa) := by
  obtain ⟨⟨ta, pa, ra⟩⟩ := ha
  exact ⟨⟨_, pe_callB call_isX hg hm hv (pa_cons pa (pa_cons (pe_bltn (v := .ty T) hgT hmT hT rfl hny hdy) pa_nil h2) h1) (by decide) (by decide) h1 hpl, isX_run hI (fun u r => r) ra⟩⟩
/-- x is None, x is not None, x perhaps a caught exception -/
def isNoneX (t : OT) : Option Bool := match t with
  | .exc _ _ => some false
  | .fx _ => some false
  | t => t.data.map isNone
def wNonX (f : Bool → Bool) (wa : WE) : WE := fun ρ Q => wa ρ fun r ρ1 => match r.ot ρ1 with
  | some t => (match isNoneX t with | some b => Q (.fz (.bool (f b))) ρ1 | none => False)
  | none => False
theorem isNoneX_ok {K : PySem.W.Frag} {F H : Hp} {t : OT} {v : V} {m : Fp} {b : Bool} (o : OwnT K F H t v m) (s : Same F H) (h : isNoneX t = some b) : decide (v = .non) = b := by
  cases t with
  | exc n y =>
    obtain ⟨⟨a, C, d, rfl, _⟩, _⟩ := o
    cases h
    rfl
  | fx d =>
    obtain ⟨⟨a, _, _, rfl, _⟩, _⟩ := o
    cases h
    rfl
  | ox _ _ => cases h
  | fz d =>
    cases h
    exact isNone_dp (H := F) o.1
  | lst p ds =>
    cases h
    exact isNone_dp (OwnT.dp o s rfl)
  | lls p dss =>
    cases h
    exact isNone_dp (OwnT.dp o s rfl)
  | vv _ => cases h
theorem nonX_run {K : PySem.W.Frag} {ta : TE} {f : Bool → Bool} (ra : RE K ta wa) : ∀ (σ : Sg) (H F : Hp) (ρ : Rho) (fr : Fp) (Q : RV → Rho → Prop) (Q' : VK), SI K F H σ ρ fr → wNonX f wa ρ Q →
    (∀ b H' F' ρ', Q (.fz (.bool b)) ρ' → SI K F' H' σ ρ' fr → Kp F H fr F' H' → Q' (.bl b) H') → ta σ H fun v H1 => Q' (.bl (f (decide (v = .non)))) H1 := by
  intro σ H F ρ fr Q Q' S hw k
  refine ra σ H F ρ fr _ _ S hw fun v1 H1 F1 ρ1 r1 m1 hw o1 S1 k1 => ?_
  split at hw
  · rename_i t ht
    split at hw
    · rename_i b hb
      obtain ⟨m', o'⟩ := o1.own S1 ht
      rw [isNoneX_ok o' S1.ex hb]
      exact k _ H1 F1 ρ1 hw S1.left k1
    · exact hw.elim
  · exact hw.elim
end
end DL

namespace DL
open PySem PySem.Spec PyProof.Rows L2
section
variable {X : Cx} {e : Expr} {wa wb : WE} {pos p : Pos} {j : Nat}
theorem de_isNX (ha : DE X e wa) (hm : behindInMarks .Is (.Constant .none j p) = false := by rfl) : DE X (.Compare e [.Is] [.Constant .none j p] pos) (wNonX (fun b => b) wa) := by
  obtain ⟨⟨ta, pa, ra⟩⟩ := ha
  refine ⟨⟨_, pe_cmpR op_isN pa pe_non hm, fun σ H F ρ fr Q Q' S hw k => ?_⟩⟩
  refine ra σ H F ρ fr _ _ S hw fun v1 H1 F1 ρ1 r1 m1 hw o1 S1 k1 => ?_
  split at hw
  · rename_i t ht
    split at hw
    · rename_i b hb
      obtain ⟨m', o'⟩ := o1.own S1 ht
      refine ⟨rfl, ?_⟩
      rw [isNoneX_ok o' S1.ex hb]
      exact k _ H1 F1 ρ1 (.fz (.bool b)) z0 hw ⟨.bl b, rfl⟩ S1.left k1
    · exact hw.elim
  · exact hw.elim
theorem de_notNX (ha : DE X e wa) (hm : behindInMarks .IsNot (.Constant .none j p) = false := by rfl) : DE X (.Compare e [.IsNot] [.Constant .none j p] pos) (wNonX (fun b => !b) wa) := by
  obtain ⟨⟨ta, pa, ra⟩⟩ := ha
  refine ⟨⟨_, pe_cmpR op_notN pa pe_non hm, fun σ H F ρ fr Q Q' S hw k => ?_⟩⟩
  refine ra σ H F ρ fr _ _ S hw fun v1 H1 F1 ρ1 r1 m1 hw o1 S1 k1 => ?_
  split at hw
  · rename_i t ht
    split at hw
    · rename_i b hb
      obtain ⟨m', o'⟩ := o1.own S1 ht
      refine ⟨rfl, ?_⟩
      rw [isNoneX_ok o' S1.ex hb]
      exact k _ H1 F1 ρ1 (.fz (.bool (!b))) z0 hw ⟨.bl _, rfl⟩ S1.left k1
    · exact hw.elim
  · exact hw.elim
theorem dt_isNX (ha : DE X e wa) (hm : behindInMarks .Is (.Constant .none j p) = false := by rfl) : DT X (.Compare e [.Is] [.Constant .none j p] pos) (wTst (wNonX (fun b => b) wa)) := by
  obtain ⟨⟨ta, pa, ra⟩⟩ := ha
  refine ⟨⟨_, pt_cmpR op_isN pa pe_non hm, fun σ H F ρ fr Q Q' S hw k => ?_⟩⟩
  refine ra σ H F ρ fr _ _ S hw fun v1 H1 F1 ρ1 r1 m1 hw o1 S1 k1 => ?_
  split at hw
  · rename_i t ht
    split at hw
    · rename_i b hb
      obtain ⟨m', o'⟩ := o1.own S1 ht
      refine ⟨rfl, _, rfl, ?_⟩
      rw [isNoneX_ok o' S1.ex hb]
      exact k _ H1 F1 ρ1 hw S1.left k1
    · exact hw.elim
  · exact hw.elim
theorem dt_notNX (ha : DE X e wa) (hm : behindInMarks .IsNot (.Constant .none j p) = false := by rfl) : DT X (.Compare e [.IsNot] [.Constant .none j p] pos) (wTst (wNonX (fun b => !b) wa)) := by
  obtain ⟨⟨ta, pa, ra⟩⟩ := ha
  refine ⟨⟨_, pt_cmpR op_notN pa pe_non hm, fun σ H F ρ fr Q Q' S hw k => ?_⟩⟩
  refine ra σ H F ρ fr _ _ S hw fun v1 H1 F1 ρ1 r1 m1 hw o1 S1 k1 => ?_
  split at hw
  · rename_i t ht
    split at hw
    · rename_i b hb
      obtain ⟨m', o'⟩ := o1.own S1 ht
      refine ⟨rfl, _, rfl, ?_⟩
      rw [isNoneX_ok o' S1.ex hb]
      exact k _ H1 F1 ρ1 hw S1.left k1
    · exact hw.elim
  · exact hw.elim
end
/-! ### l.count(x), l.index(x) -/
def rCountD (K : PySem.W.Frag) : V → List V → Hp → VK → Prop := fun x xs H Q => ∃ (a : Addr) (y : V) (d : PyData) (ds : List PyData), x = V.ref a ∧ xs = [y] ∧ Dp K H (V.ref a) (.list ds) ∧ Dp K H y d ∧
  SeqAt.shaped (.list ds) = true ∧ SeqAt.shaped d = true ∧ Q (.int ((ds.countP fun z => PyData.eqv z d : Nat) : Int)) H
theorem mt_countD {X : Cx} (hu : X.A.units + 65 < cLine) : MtR X "list.count" (rCountD X.K) := by
  intro pins s σ H x xs v us Q I rx rxs h
  obtain ⟨a, y, d, ds, rfl, rfl, hl, hy, sl, sd, q⟩ := h
  cases rx
  cases rxs with
  | @cons _ uy _ ut ry rt =>
    cases rt
    obtain ⟨bs, r1⟩ := Dp.reads I d y uy hy ry
    have hxs : PyData.canLayAll0 ds = true := SeqAt.canLay_of_shaped sl
    have hroom : X.A.units + 1 + min (PyData.depthAll ds) d.depth < cLine := room_in_shaped sd hu
    cases hl with
    | lst hs ha =>
      obtain ⟨its, rv, ⟨⟨cls, dd, data, sls⟩, n, ho, hc, hdn, hdt⟩, hlen⟩ := I.list hs
      simp only at hc hdt
      subst hc hdt
      obtain ⟨as, h4⟩ := Dp.readsAll I ds _ its ha rv
      have hmap : its.map (SeqAt.readOf s.heap) = ds := SeqAt.readsAll_map ds its as hxs h4
      refine call_meets PySem.F.slot_list_count ⟨_, ho, rfl⟩ PySem.F.entry_list_count (PySem.F.args_list_count_2 _ _)
        (PySem.SeqAt.list_countAt a its.toArray n dd sls uy (fun u => PyData.eqv (SeqAt.readOf s.heap u) d)) ⟨ho, SeqAt.items_eqAt (vs := its.toArray) (show ReadsAll s.heap its.toArray.toList ds as from h4) r1 hxs (SeqAt.canLay_of_shaped sd) hroom, ?_⟩
      have e1 : (its.toArray.toList.countP fun u => PyData.eqv (SeqAt.readOf s.heap u) d) = ds.countP fun z => PyData.eqv z d := by
        rw [← hmap, List.countP_map]
        rfl
      rw [e1]
      exact ⟨.int _, H, I.tok _, ⟨_, rfl⟩, q⟩
/-- the list of a name -/
def listOf (r : RV) (ρ : Rho) : Option (List PyData) := match r.dat ρ with
  | some (.list ds) => some ds
  | _ => none
def wM_count (wo : WE) (ws : WA) : WE := fun ρ Q => wo ρ fun r1 ρ1 => ws ρ1 fun rs ρ2 => match listOf r1 ρ2, rs with
  | some ds, [r2] => (match r2.dat ρ2 with
    | some d => SeqAt.shaped (.list ds) = true ∧ SeqAt.shaped d = true ∧ Q (.fz (.int ((ds.countP fun z => PyData.eqv z d : Nat) : Int))) ρ2
    | none => False)
  | _, _ => False
def wM_index (wo : WE) (ws : WA) : WE := fun ρ Q => wo ρ fun r1 ρ1 => ws ρ1 fun rs ρ2 => match listOf r1 ρ2, rs with
  | some ds, [r2] => (match r2.dat ρ2 with
    | some d => SeqAt.shaped (.list ds) = true ∧ SeqAt.shaped d = true ∧ (match ixOf d ds with | some j => Q (.fz (.int (j : Nat))) ρ2 | none => False)
    | none => False)
  | _, _ => False
/-- a list whose value is asked first, and told to be one at once -/
def wLfirst (wo : WE) : WE := fun ρ Q => wo ρ fun r ρ1 => match listOf r ρ1 with
  | some _ => Q r ρ1
  | none => False
section
variable {X : Cx} {o e : Expr} {wo : WE} {ws : WA} {pos apos : Pos} {n : Nat}
theorem listOf_dp {K : PySem.W.Frag} {F H : Hp} {σ : Sg} {ρ : Rho} {fr m : Fp} {r : RV} {v : V} {ds : List PyData} (o : RVok K F H σ r v m) (S : SI K F H σ ρ fr) (h : listOf r ρ = some ds) : Dp K H v (.list ds) := by
  unfold listOf at h
  split at h
  · rename_i ds' e
    cases h
    exact o.dp S e
  · cases h
theorem dp_seqL {K : PySem.W.Frag} {H : Hp} {v : V} {ds : List PyData} (h : Dp K H v (.list ds)) : ∃ a xs, v = .ref a ∧ SqL K H a xs := by
  cases h with
  | lst hs _ => exact ⟨_, _, rfl, hs⟩
theorem de_m_count (hr : Room n X.A) (ho : DE X o wo) (ha : DA X [e] ws)
    (hbase : attributeBase o "count" X.env (eval o X.env) = eval o X.env := by rfl)
    (hfew : ((backTo pos (starEach [e] X.env)).all (fun x => !x.1) && (backToKw pos (keywordEach [] X.env)).all (fun x => x.1.isSome)
      && decide ([e].length + ([] : List Keyword).length + (if ([] : List Keyword).isEmpty then 0 else 1) < 30)) = true := by rfl)
    (hline : (apos.endLine == pos.line) = true := by rfl) (hs : starEach [e] X.env = (false, eval e X.env) :: starEach [] X.env := by rfl) (hplain : (backTo pos (starEach [] X.env)).any (·.1) = false := by rfl) :
    DE X (.Call (.Attribute o "count" apos) [e] [] pos) (wM_count (wLfirst wo) ws) := by
  obtain ⟨⟨to, po, ro⟩⟩ := ho
  obtain ⟨⟨ta, pa, ra⟩⟩ := ha
  refine ⟨⟨_, pe_bm PySem.F.plainAttrs_list PySem.F.slot_list_count PySem.F.type_list_count (mt_countD (units65 hr)) po pa hbase hfew hline hs hplain, fun σ H F ρ fr Q Q' S hw k => ?_⟩⟩
  refine ro σ H F ρ fr _ _ S hw fun v1 H1 F1 ρ1 r1 m1 hw o1 S1 k1 => ?_
  split at hw
  · rename_i ds0 e0
    obtain ⟨a, xs, rfl, hsq⟩ := dp_seqL (listOf_dp o1 S1 e0)
    refine ⟨.inl ⟨rfl, xs, hsq⟩, ?_⟩
    refine ra σ H1 F1 ρ1 _ _ _ S1 hw fun vs H2 F2 ρ2 rs m2 hw o2 S2 k2 => ?_
    split at hw
    · rename_i ds r2 e1
      cases o2 with
      | cons ob ot =>
        cases ot
        split at hw
        · rename_i d e2
          exact ⟨a, _, d, ds, rfl, rfl, listOf_dp (o1.kp k2) S2 e1, ob.dp S2 e2, hw.1, hw.2.1, k _ H2 F2 ρ2 _ z0 hw.2.2 ⟨.int _, rfl⟩ S2.left.left (k1.trans k2.left)⟩
        · exact hw.elim
    · exact hw.elim
  · exact hw.elim
theorem de_m_index (hr : Room n X.A) (ho : DE X o wo) (ha : DA X [e] ws)
    (hbase : attributeBase o "index" X.env (eval o X.env) = eval o X.env := by rfl)
    (hfew : ((backTo pos (starEach [e] X.env)).all (fun x => !x.1) && (backToKw pos (keywordEach [] X.env)).all (fun x => x.1.isSome)
      && decide ([e].length + ([] : List Keyword).length + (if ([] : List Keyword).isEmpty then 0 else 1) < 30)) = true := by rfl)
    (hline : (apos.endLine == pos.line) = true := by rfl) (hs : starEach [e] X.env = (false, eval e X.env) :: starEach [] X.env := by rfl) (hplain : (backTo pos (starEach [] X.env)).any (·.1) = false := by rfl) :
    DE X (.Call (.Attribute o "index" apos) [e] [] pos) (wM_index (wLfirst wo) ws) := by
  obtain ⟨⟨to, po, ro⟩⟩ := ho
  obtain ⟨⟨ta, pa, ra⟩⟩ := ha
  refine ⟨⟨_, pe_bm PySem.F.plainAttrs_list PySem.F.slot_list_index PySem.F.type_list_index (mt_indexD (units65 hr)) po pa hbase hfew hline hs hplain, fun σ H F ρ fr Q Q' S hw k => ?_⟩⟩
  refine ro σ H F ρ fr _ _ S hw fun v1 H1 F1 ρ1 r1 m1 hw o1 S1 k1 => ?_
  split at hw
  · rename_i ds0 e0
    obtain ⟨a, xs, rfl, hsq⟩ := dp_seqL (listOf_dp o1 S1 e0)
    refine ⟨.inl ⟨rfl, xs, hsq⟩, ?_⟩
    refine ra σ H1 F1 ρ1 _ _ _ S1 hw fun vs H2 F2 ρ2 rs m2 hw o2 S2 k2 => ?_
    split at hw
    · rename_i ds r2 e1
      cases o2 with
      | cons ob ot =>
        cases ot
        split at hw
        · rename_i d e2
          obtain ⟨h1, h2, hw⟩ := hw
          split at hw
          · rename_i j hj
            obtain ⟨z', hz, hzj, hno⟩ := ixOf_some hj
            exact ⟨a, _, d, ds, j, z', rfl, rfl, listOf_dp (o1.kp k2) S2 e1, ob.dp S2 e2, h1, h2, hz, hzj, hno, k _ H2 F2 ρ2 _ z0 hw ⟨.int _, rfl⟩ S2.left.left (k1.trans k2.left)⟩
          · exact hw.elim
        · exact hw.elim
    · exact hw.elim
  · exact hw.elim
end
/-! ### the classes' facts -/
def catNoWay (nm : Str) : Bool := decide (nm = "NoWay")
theorem cat_NoWay {K : PySem.W.Frag} {D : Addr} {c : Value} (q : PySem.W.nsIn K mainGlobals "NoWay" = some (some (.ref D))) (h : PySem.W.exmOne K (.ref D) c = some true) :
    ∀ nm C, catNoWay nm = true → PySem.W.nsIn K mainGlobals nm = some (some (.ref C)) → PySem.W.exmOne K (.ref C) c = some true := by
  intro nm C h1 h2
  have e : nm = "NoWay" := of_decide_eq_true h1
  subst e
  rw [q] at h2
  cases h2
  exact h
theorem kit_refs {K : PySem.W.Frag} {D C : Addr} {b : Bool} (h1 : PySem.W.isClsIn K C = true) (h2 : PySem.W.typeIn K (.ref C) = some (.type "type")) (h3 : PySem.W.subIn K (.ref D) (.ref C) = some b) (h4 : D = C → b = true) : PySem.W.kitOne K (.ref D) (.ref C) = some b := by
  unfold PySem.W.kitOne
  by_cases e : D = C
  · subst e
    rw [if_pos (by simp), h4 rfl]
  · rw [if_neg (by simpa using e)]
    unfold PySem.W.kitCls
    have e2 : ((PySem.W.clsIn K C).isSome && PySem.W.typeIn K (.ref C) == some (.type "type")) = true := by
      rw [show (PySem.W.clsIn K C).isSome = true from h1, h2]
      rfl
    show (if ((PySem.W.clsIn K C).isSome && PySem.W.typeIn K (.ref C) == some (.type "type")) = true then PySem.W.subIn K (.ref D) (.ref C) else none) = some b
    rw [if_pos e2]
    exact h3
theorem kit_VE {K : PySem.W.Frag} {D : Addr} {b : Bool} (h3 : PySem.W.subIn K (.ref D) (.type "ValueError") = some b) : PySem.W.kitOne K (.ref D) (.type "ValueError") = some b := by
  unfold PySem.W.kitOne
  rw [if_neg (by simp)]
  unfold PySem.W.kitCls
  show (if PySem.W.kitMeta "ValueError" = true then PySem.W.subIn K (.ref D) (.type "ValueError") else none) = some b
  rw [if_pos (by decide +kernel)]
  exact h3
theorem xis_mk {K : PySem.W.Frag} {c : Str} {cv : Value} {D : Addr} (q : PySem.W.nsIn K mainGlobals "NoWay" = some (some (.ref D))) (E : ExcC K D) (h : PySem.W.kitOne K (.ref D) cv = some (decide (c = "NoWay" ∨ c = "TurnError" ∨ c = "ValueError"))) : XIs K c cv := by
  intro n b e
  unfold exSub at e
  split at e
  · rename_i e1
    subst e1
    cases e
    exact ⟨D, q, E, h⟩
  · cases e
/-! ### x += e, whole numbers -/
def wAugI (f : Int → Int → Int) (i : Nat) (wa : WE) : WS := fun d ρ => match look ρ i with
  | some (.fz (.int a)) => wa ρ fun r ρ1 => (match r.dat ρ1 with | some (.int b) => d.nx (ρ1.set i (some (.fz (.int (f a b))))) | _ => False)
  | _ => False
section
variable {X : Cx} {e : Expr} {wa : WE} {pos pos' : Pos} {i : Nat} {x : Str} {f : Int → Int → Int} {op : Operator}
theorem ds_augI (hp : PIp X op (ipI f)) (hN : X.N.Nodup) (hi : X.N[i]? = some x) (hx : Loc X.env.scope x) (he : DE X e wa) (hf : X.fn x = true ∨ X.env.scope.names.lookup x = some .local := by first | exact .inl rfl | exact .inr rfl | assumption) : DS X (.AugAssign (.Name x pos') op e pos) (wAugI f i wa) := by
  obtain ⟨⟨t, p, r⟩⟩ := he
  refine ⟨⟨_, ps_aug hN hi hx p hp hf, fun σ H F ρ fr d e S E h => ?_⟩⟩
  have h' := h
  unfold wAugI at h'
  split at h'
  · rename_i a ha
    obtain ⟨v, m1, e1, o⟩ := S.slot ha
    obtain ⟨o1, _⟩ := o
    cases o1
    refine ⟨.int a, e1, ?_⟩
    refine r σ H F ρ fr _ _ S h' fun v H1 F1 ρ1 r1 m1 hw o1 S1 k1 => ?_
    split at hw
    · rename_i b hb
      have d2 := o1.dp S1 hb
      cases d2
      exact ⟨a, b, rfl, rfl, E.nx _ H1 F1 _ hw (SI.setF S1.left (.int (f a b)) i) k1⟩
    · exact hw.elim
  · exact h'.elim
end
abbrev wAugA := wAugI fun i j => i + j
abbrev wAugS := wAugI fun i j => i - j
section
variable {X : Cx} {e : Expr} {wa : WE} {pos pos' : Pos} {i : Nat} {x : Str}
theorem ds_augA (hN : X.N.Nodup) (hi : X.N[i]? = some x) (hx : Loc X.env.scope x) (he : DE X e wa) (hf : X.fn x = true ∨ X.env.scope.names.lookup x = some .local := by first | exact .inl rfl | exact .inr rfl | assumption) : DS X (.AugAssign (.Name x pos') .Add e pos) (wAugA i wa) := ds_augI ip_add hN hi hx he hf
theorem ds_augS (hN : X.N.Nodup) (hi : X.N[i]? = some x) (hx : Loc X.env.scope x) (he : DE X e wa) (hf : X.fn x = true ∨ X.env.scope.names.lookup x = some .local := by first | exact .inl rfl | exact .inr rfl | assumption) : DS X (.AugAssign (.Name x pos') .Sub e pos) (wAugS i wa) := ds_augI ip_sub hN hi hx he hf
end
end DL

namespace DL
open PySem PySem.Spec PyProof.Rows L2
/-! ### t[::-1] of a tuple -/
section
open HT
variable {prog : Program} {w : World} {A : Around} {E : Value → Shared → Prop} {s : Shared}
theorem places_rev (n : Nat) : Builtin.Slice.slicePlaces ((n : Int) - 1) (-1) (-1) = n := by
  unfold Builtin.Slice.slicePlaces
  have h1 : ¬ ((-1 : Int) > 0) := by omega
  simp only [h1, if_false, Int.neg_neg, Int.ediv_one]
  split <;> omega
theorem sliceApplied_rev {sl : Addr} {vl vu vs : Value} {n : Nat} {Q : Int × Int × Nat → Shared → Prop} (hs : s.heap.IsSliceOf sl vl vu vs) (pl : IsPart vl none) (pu : IsPart vu none) (ps : IsPart vs (some (-1)))
    (h : Q ((n : Int) - 1, -1, n) s) : wpAny (model prog w) A (Builtin.Slice.sliceApplied (.ref sl) (pure (n : Int))) Q E s := by
  obtain ⟨os, hos, hcs, hds⟩ := id hs
  unfold Builtin.Slice.sliceApplied Builtin.Slice.sliceFields
  refine wpAny_bind (wpAny_bind (wpAny_field hos hds (x := vl) rfl (wpAny_bind (wpAny_field hos hds (x := vu) rfl (wpAny_bind (wpAny_field hos hds (x := vs) rfl (wpAny_pure ?_)))))))
  refine wpAny_bind (slicePart_ ps ?_)
  show wpAny _ _ (if ((-1 : Int) == 0) = true then _ else _) _ _ s
  rw [if_neg (by decide)]
  refine wpAny_bind (slicePart_ pl (wpAny_bind (slicePart_ pu (wpAny_bind (wpAny_pure ?_)))))
  show wpAny _ _ (pure ((n : Int) - 1, (-1 : Int), Builtin.Slice.slicePlaces ((n : Int) - 1) (-1) (-1))) _ _ s
  rw [places_rev]
  exact wpAny_pure h
theorem pick_rev (xs : Array Value) : ((List.range xs.size).filterMap fun (m : Nat) => xs[(((xs.size : Nat) : Int) - 1 + (m : Int) * -1).toNat]?).toArray = xs.toList.reverse.toArray := by
  congr 1
  apply List.ext_getElem?
  intro k
  have key : ∀ n, n ≤ xs.size → (List.range n).filterMap (fun (m : Nat) => xs[(((xs.size : Nat) : Int) - 1 + (m : Int) * -1).toNat]?) = (xs.toList.reverse.take n) := by
    intro n
    induction n with
    | zero => intro _; rfl
    | succ n ih =>
      intro hn
      rw [List.range_succ, List.filterMap_append, ih (by omega), List.take_add_one]
      congr 1
      have e : (((xs.size : Nat) : Int) - 1 + (n : Int) * -1).toNat = xs.size - 1 - n := by omega
      rw [List.getElem?_reverse (by simp only [Array.length_toList]; omega)]
      simp only [List.filterMap_cons, List.filterMap_nil, e, Array.length_toList, Array.getElem?_toList]
      cases xs[xs.size - 1 - n]? <;> rfl
  rw [key _ (Nat.le_refl _), List.take_of_length_le (by simp)]
theorem getItem_tuple_rev {t sl : Addr} {items : Array Value} {vl vu vs : Value} {Q : Value → Shared → Prop} (ht : IsTup s.heap t items) (hs : s.heap.IsSliceOf sl vl vu vs) (pl : IsPart vl none) (pu : IsPart vu none) (ps : IsPart vs (some (-1)))
    (h : Q (.ref s.heap.objs.size) { s with heap := s.heap.push { cls := .type "tuple", data := .seq items.toList.reverse.toArray } })
    (hsz : items.size ≤ sizeLine) : wpAny (model prog w) A (getItem (.ref t) (.ref sl)) Q E s := by
  have htake : sizeOk (.seq items.toList.reverse.toArray) := by
    show items.toList.reverse.toArray.size ≤ sizeLine
    rw [List.size_toArray, List.length_reverse, Array.length_toList]
    exact hsz
  obtain ⟨os, hos, hcs, hds⟩ := id hs
  have hTs : s.TypeIs (.ref sl) "slice" := ⟨os, hos, hcs⟩
  unfold getItem
  try with_reducible refine wpAny_holding ?_
  first | refine wpAny_bind (wpAny_pure ?_) | skip
  refine wpAny_bind (wpAny_sequenceKey ht.typeIs (by decide) ?_)
  refine wpAny_bind (wpAny_callSpecial?_slot (name := Str.ofString "__getitem__") ht.typeIs PyProof.Rows.slot_tuple_getitem
    (wpAny_call_entry PyProof.Rows.slot_tuple_getitem ht.typeIs entry_tuple_getitem ?_ (args_tuple_getitem _ _)))
  show wpAny _ _ (Builtin.Tuple.tupleItemsOf (.ref t) >>= _) _ _ s
  refine wpAny_bind (tupleItemsOf_ ht ?_)
  refine wpAny_bind (wpAny_typeOf hTs ?_)
  rw [if_pos (by decide)]
  refine wpAny_bind (sliceApplied_rev hs pl pu ps ?_)
  have hno : ¬ (((((items.size : Nat) : Int) - 1) == 0 && (-1 : Int) == 1 && items.size == items.size) = true) := by
    rw [show ((-1 : Int) == 1) = false by decide, Bool.and_false, Bool.false_and]
    exact Bool.false_ne_true
  show wpAny _ _ (if ((((items.size : Nat) : Int) - 1) == 0 && (-1 : Int) == 1 && items.size == items.size) = true then _ else _) _ _ s
  rw [if_neg hno, pick_rev]
  first
    | exact wpAny_bind (m := Builtin.Tuple.tupleExact _) (wpAny_newObj_type (wpAny_pure ⟨_, rfl, wpAny_pure h⟩) htake)
    | exact wpAny_bind (m := Builtin.Tuple.tupleExact _) (wpAny_newObj_type (wpAny_bind (wpAny_pure (wpAny_pure ⟨_, rfl, wpAny_pure h⟩))) htake)
    | exact wpAny_bind (wpAny_bind (m := Builtin.Tuple.tupleExact _) (wpAny_newObj_type (wpAny_pure (wpAny_pure ⟨_, rfl, wpAny_pure h⟩)) htake))
    | exact wpAny_bind (wpAny_bind (m := Builtin.Tuple.tupleExact _) (wpAny_newObj_type (wpAny_pure ⟨_, rfl, wpAny_pure h⟩) htake))
end
def tRevT (K : PySem.W.Frag) (te : TE) : TE := fun σ H Q => te σ H fun x H1 => ∃ a xs, x = .ref a ∧ SqT K H1 a xs ∧ ∀ p, H1 p = none → Q (.ref p) (upd H1 p (.tup xs.reverse))
def wRevT (wa : WE) : WE := fun ρ Q => wa ρ fun r ρ1 => match r.ot ρ1 with
  | some (.fz (.tuple ds)) => Q (.fz (.tuple ds.reverse)) ρ1
  | _ => False
def wCatT (wa wb : WE) : WE := fun ρ Q => wa ρ fun r1 ρ1 => wb ρ1 fun r2 ρ2 => match r1.ot ρ2, r2.ot ρ2 with
  | some (.fz (.tuple ds)), some (.fz (.tuple es)) => ds.length + es.length ≤ sizeLine ∧ Q (.fz (.tuple (ds ++ es))) ρ2
  | _, _ => False
section
variable {X : Cx} {e a b : Expr} {wa wb : WE} {k : Nat} {p1 p2 p3 pos : Pos}
theorem pe_revT {te : TE} (he : PE X e te) : PE X (.Subscript e (.Slice none none (some (.UnaryOp .USub (.Constant (.int 1) k p1) p2)) p3) pos) (tRevT X.K te) := by
  refine ⟨fun pins s σ H Q I h => ?_⟩
  refine Subscript_ (thn (he.run pins s σ H _ I h) fun v s1 ⟨x, H1, I1, r1, q1⟩ => ?_)
  have hst : PO X (some (.UnaryOp .USub (.Constant (.int 1) k p1) p2)) (tPart (tUn (rU fun i => .int (-i)) (tC (.int 1)))) := po_some (pe_un un_neg pe_int)
  refine wpAny_Slice (thn (po_none.run pins s1 σ H1 (fun o H2 => o = none ∧ H2 = H1) I1 ⟨rfl, rfl⟩) fun vl s2 ⟨l, H2, I2, pl, el, e2⟩ => ?_)
  subst el e2
  refine thn (po_none.run pins s2 σ H2 (fun o H3 => o = none ∧ H3 = H2) I2 ⟨rfl, rfl⟩) fun vu s3 ⟨u, H3, I3, pu, eu, e3⟩ => ?_
  subst eu e3
  refine thn (hst.run pins s3 σ H3 (fun o H4 => o = some (-1) ∧ H4 = H3) I3 ⟨1, rfl, -1, rfl, rfl, rfl⟩) fun vs s4 ⟨o, H4, I4, ps, eo, e4⟩ => ?_
  subst eo e4
  have I5 : Inv X pins σ H4 { s4 with heap := s4.heap.push { cls := .type "slice", data := .fields #[vl, vu, vs] } } := I4.kept (t' := s4.toks) fun b ob q => Heap.get?_push_of_some _ q
  show wpAny (model X.prog X.w) X.A (subscriptTail e (.Slice none none (some (.UnaryOp .USub (.Constant (.int 1) k p1) p2)) p3) v (.ref s4.heap.objs.size)) (EP X pins σ Q) X.xe { s4 with heap := s4.heap.push { cls := .type "slice", data := .fields #[vl, vu, vs] } }
  obtain ⟨a, xs, rfl, hx, q⟩ := q1
  cases r1
  obtain ⟨its, r, ht, hz⟩ := I5.tuple hx
  have hlen := r.length
  refine tail_any (ops := [.ref a, .ref s4.heap.objs.size]) ht.typeIs PyProof.Rows.slot_tuple_getitem.lookup ?_ (by with_unfolding_all rfl)
  refine getItem_tuple_rev ht (Heap.IsSliceOf.new _ vl vu vs) pl pu ps ?_ (by rw [List.size_toArray]; omega)
  refine ⟨.ref _, _, I5.laid (t' := s4.toks) (o := .tup xs.reverse) (fun b ob q => Heap.get?_push_of_some _ q) (Nat.le_refl _) ?_, rfl, q _ (I5.hok.fresh (Nat.le_refl _))⟩
  exact ⟨by rw [List.length_reverse]; exact hz, its.reverse, r.reverse, ⟨_, Heap.get?_push_size _ rfl, rfl, 0, rfl⟩⟩
theorem de_revT (ha : DE X e wa) : DE X (.Subscript e (.Slice none none (some (.UnaryOp .USub (.Constant (.int 1) k p1) p2)) p3) pos) (wRevT wa) := by
  obtain ⟨⟨t, p, r⟩⟩ := ha
  refine ⟨⟨_, pe_revT p, fun σ H F ρ fr Q Q' S hw kk => ?_⟩⟩
  refine r σ H F ρ fr _ _ S hw fun v1 H1 F1 ρ1 r1 m1 hw o1 S1 k1 => ?_
  split at hw
  · rename_i ds hd
    obtain ⟨m', o'⟩ := o1.own S1 hd
    obtain ⟨o', _⟩ := o'
    cases o' with
    | tup hs ha =>
      refine ⟨_, _, rfl, same_t S1.ex hs, fun p hp => ?_⟩
      obtain ⟨S4, s4, k4⟩ := S1.left.newF (o := .tup _) hp
      exact kk _ _ _ ρ1 _ z0 hw ⟨.tup (SqT.of upd_same) (dpam s4 _ _ ha.reverse), rfl⟩ S4 (k1.trans k4)
  · exact hw.elim
theorem de_catT (ha : DE X a wa) (hb : DE X b wb) : DE X (.BinOp a .Add b pos) (wCatT wa wb) := by
  obtain ⟨⟨ta, pa, ra⟩⟩ := ha
  obtain ⟨⟨tb, pb, rb⟩⟩ := hb
  refine ⟨⟨_, pe_op op_catA pa pb, fun σ H F ρ fr Q Q' S hw k => ?_⟩⟩
  refine ra σ H F ρ fr _ _ S hw fun v1 H1 F1 ρ1 r1 m1 hw o1 S1 k1 => ?_
  refine rb σ H1 F1 ρ1 _ _ _ S1 hw fun v2 H2 F2 ρ2 r2 m2 hw o2 S2 k2 => ?_
  split at hw
  · rename_i ds es h1 h2
    obtain ⟨m', o'⟩ := (o1.kp k2).own S2.left h1
    obtain ⟨o', _⟩ := o'
    obtain ⟨m'', o''⟩ := o2.own S2 h2
    obtain ⟨o'', _⟩ := o''
    cases o' with
    | tup hs ha =>
      cases o'' with
      | tup hs2 ha2 =>
        refine ⟨_, _, _, _, rfl, rfl, same_t S2.ex hs, same_t S2.ex hs2, by rw [ha.length, ha2.length]; exact hw.1, fun hx => ?_, fun _ hx => ?_, fun _ _ p hp => ?_⟩
        · subst hx
          cases ha
          exact k _ H2 F2 ρ2 _ z0 hw.2 ⟨.tup hs2 ha2, rfl⟩ S2.left.left (k1.trans k2.left)
        · subst hx
          cases ha2
          have hw := hw.2
          rw [List.append_nil] at hw
          exact k _ H2 F2 ρ2 _ z0 hw ⟨.tup hs ha, rfl⟩ S2.left.left (k1.trans k2.left)
        · obtain ⟨S4, s4, k4⟩ := S2.left.left.newF (o := .tup _) hp
          exact k _ _ _ ρ2 _ z0 hw.2 ⟨.tup (SqT.of upd_same) (dpam s4 _ _ (ha.append ha2)), rfl⟩ S4 ((k1.trans k2.left).trans k4)
  · exact hw.elim
end
/-- a comprehension in a comprehension -/
theorem blkOk_in {N : List Str} {sc outer scope : Scope} {own : List (Str × Nat)} {cl : List (Str × Addr)} {C : Addr} {env : Env} (e : env.scope = sc) (h : blkC N (relS outer sc) scope own = true) : BlkOk N (PySem.compEnvC outer cl C env).scope scope own := by
  subst e
  exact blkOk_by h
end DL

namespace DL
open PySem PySem.Spec PyProof.Rows L2
/-! ### str(i) -/
abbrev intS (i : Int) : Str := toString i
def gStr : GN
  | [.int i], G => i.natAbs.log2 < 1920 ∧ G (.str (intS i))
  | _, _ => False
theorem o_str {K : PySem.W.Frag} : OpN K (fun xs H Q => ∃ i, xs = [V.int i] ∧ i.natAbs.log2 < 1920 ∧ Q (.str (toString i)) H) gStr := by
  intro xs ds H G Q hx hg k
  unfold gStr at hg
  split at hg
  · cases hx with
    | cons h t =>
      cases t
      cases h
      exact ⟨_, rfl, hg.1, k _ _ (.str _) hg.2⟩
  · exact hg.elim
/-! ### text * i -/
def gMulS : G2
  | .str x, .int n, G => MulOk x n ∧ G (.str (Txt.mul x n))
  | _, _, _ => False
section
variable {X : Cx}
theorem op_mulS : OpR X (binaryOp .Mult) (fun x y H Q => ∃ z n, x = V.str z ∧ y = V.int n ∧ MulOk z n ∧ Q (.str (Txt.mul z n)) H) := by
  intro pins s σ H x y v u Q I rx ry h
  obtain ⟨z, n, rfl, rfl, hk, q⟩ := h
  obtain ⟨t, rfl⟩ := rx
  obtain ⟨t', rfl⟩ := ry
  exact SB.mul hk fun t2 k => ⟨.str _, H, I.tok _, ⟨_, rfl⟩, q⟩
theorem o_mulS {K : PySem.W.Frag} : Op2 K (fun x y H Q => ∃ z n, x = V.str z ∧ y = V.int n ∧ MulOk z n ∧ Q (.str (Txt.mul z n)) H) gMulS := by
  intro x y d e H G Q hx hy hg k
  unfold gMulS at hg
  split at hg
  · cases hx
    cases hy
    exact ⟨_, _, rfl, rfl, hg.1, k _ _ (.str _) hg.2⟩
  · exact hg.elim
end
/-! ### texts written with things in them -/
def wFmt (wa : WE) : WE := fun ρ Q => wa ρ fun r ρ1 => match r.dat ρ1 with
  | some (.str y) => y.length ≤ sizeLine ∧ Q (.fz (.str y)) ρ1
  | some (.int i) => i.natAbs.log2 < 1920 ∧ Q (.fz (.str (intS i))) ρ1
  | _ => False
def wJs : List WE → Str → Rho → (Str → Rho → Prop) → Prop
  | [], acc, ρ, Q => Q acc ρ
  | w :: ws, acc, ρ, Q => w ρ fun r ρ1 => match r.dat ρ1 with
    | some (.str y) => (acc ++ y).length ≤ sizeLine ∧ wJs ws (acc ++ y) ρ1 Q
    | _ => False
def wFs (ws : List WE) : WE := fun ρ Q => wJs ws Str.empty ρ fun out ρ1 => Q (.fz (.str out)) ρ1
structure DJ (X : Cx) (es : List Expr) (ws : List WE) : Prop where
  run : ∃ ts, PJ X es ts ∧ ∀ (acc : Str) (σ : Sg) (H F : Hp) (ρ : Rho) (fr : Fp) (Q : Str → Rho → Prop) (Q' : Str → Hp → Prop), SI X.K F H σ ρ fr → wJs ws acc ρ Q →
    (∀ out H' F' ρ', Q out ρ' → SI X.K F' H' σ ρ' fr → Kp F H fr F' H' → Q' out H') → tJs ts acc σ H Q'
section
variable {X : Cx} {e : Expr} {es : List Expr} {wa : WE} {ws : List WE} {pos : Pos}
theorem de_fmt (he : DE X e wa) : DE X (.FormattedValue e (-1) none pos) (wFmt wa) := by
  obtain ⟨⟨t, p, r⟩⟩ := he
  refine ⟨⟨_, pe_fmt p, fun σ H F ρ fr Q Q' S hw k => ?_⟩⟩
  refine r σ H F ρ fr _ _ S hw fun v1 H1 F1 ρ1 r1 m1 hw o1 S1 k1 => ?_
  split at hw
  · rename_i y hd
    have d1 := o1.dp S1 hd
    cases d1
    exact .inl ⟨y, rfl, hw.1, k _ H1 F1 ρ1 _ z0 hw.2 ⟨.str _, rfl⟩ S1.left k1⟩
  · rename_i i hd
    have d1 := o1.dp S1 hd
    cases d1
    exact .inr ⟨i, rfl, hw.1, k _ H1 F1 ρ1 _ z0 hw.2 ⟨.str _, rfl⟩ S1.left k1⟩
  · exact hw.elim
theorem dj_nil : DJ X [] [] := ⟨⟨[], .nil, fun acc σ H F ρ fr Q Q' S hw k => k acc H F ρ hw S Kp.refl⟩⟩
theorem dj_cons (he : DE X e wa) (hs : DJ X es ws) : DJ X (e :: es) (wa :: ws) := by
  obtain ⟨⟨t, p, r⟩⟩ := he
  obtain ⟨⟨ts, ps, rs⟩⟩ := hs
  refine ⟨⟨t :: ts, .cons p ps, fun acc σ H F ρ fr Q Q' S hw k => ?_⟩⟩
  refine r σ H F ρ fr _ _ S hw fun v1 H1 F1 ρ1 r1 m1 hw o1 S1 k1 => ?_
  split at hw
  · rename_i y hd
    have d1 := o1.dp S1 hd
    cases d1
    exact ⟨y, rfl, hw.1, rs _ σ H1 F1 ρ1 fr Q _ S1.left hw.2 fun out H2 F2 ρ2 q S2 k2 => k out H2 F2 ρ2 q S2 (k1.trans k2)⟩
  · exact hw.elim
theorem de_fs {v1 v2 : Expr} {rest : List Expr} (h : DJ X (v1 :: v2 :: rest) ws) : DE X (.JoinedStr (v1 :: v2 :: rest) pos) (wFs ws) := by
  obtain ⟨⟨ts, ps, rs⟩⟩ := h
  refine ⟨⟨_, pe_joined ps, fun σ H F ρ fr Q Q' S hw k => ?_⟩⟩
  exact rs Str.empty σ H F ρ fr _ _ S hw fun out H1 F1 ρ1 q S1 k1 => k _ H1 F1 ρ1 _ z0 q ⟨.str _, rfl⟩ S1 k1
end
section
variable {X : Cx} {pos : Pos}
theorem dgw_unl {vs : List Nat} {gs : WGs} {es : List Expr} {k n : Nat} (hc : X.calm = true) (h : DGWs X vs es gs) (hn : (assignEach es X.env).length = n := by rfl) (hst : (assignEach es X.env).findIdx? (·.1) = none := by rfl) : DGW X vs (.Tuple es k pos) (gvUnl n gs) := by
  obtain ⟨⟨u, q, r2⟩⟩ := h
  refine ⟨⟨_, pg_unl hc q hn hst, fun σ H F ρ fr xs us Q Q' S dp h k => ?_⟩⟩
  cases dp with
  | lst hs ha => have h := bmt_and h; exact ⟨_, _, rfl, S.ex.seq hs, by rw [ha.length]; exact h.1, r2 σ H F ρ fr _ _ Q Q' S ha h.2 k⟩
  | _ => exact h.elim
end
/-! ### truth of any value -/
def asT (r : RV) (ρ : Rho) (k : Bool → Prop) : Prop := match r.dat ρ with
  | some (.bool b) => k b
  | some .none => k false
  | some (.int i) => k (i != 0)
  | some (.str y) => y.length ≤ sizeLine ∧ k ((y.length : Int) != 0)
  | some (.list ds) => k (!ds.isEmpty)
  | some (.tuple ds) => k (!ds.isEmpty)
  | _ => False
def wTru (wa : WE) : WT := fun ρ Q => wa ρ fun r ρ1 => asT r ρ1 fun b => Q b ρ1
def wOrT (wa wb : WE) : WE := fun ρ Q => wa ρ fun r ρ1 => asT r ρ1 fun b => bmt b (Q r ρ1) (wb ρ1 Q)
section
variable {K : PySem.W.Frag} {F H : Hp} {σ : Sg} {ρ : Rho} {fr m : Fp} {r : RV} {v : V} {k : Bool → Prop}
theorem isEmpty_dp {vs : List V} {ds : List PyData} (h : DpAll K H vs ds) : ds.isEmpty = vs.isEmpty := by
  cases h <;> rfl
theorem asT_ok (h : asT r ρ k) (o : RVok K F H σ r v m) (S : SI K F H σ ρ fr) : ∃ b, TruV K v H b ∧ k b := by
  unfold asT at h
  split at h
  · rename_i b hd
    have d := o.dp S hd
    cases d
    exact ⟨b, rfl, h⟩
  · rename_i hd
    have d := o.dp S hd
    cases d
    exact ⟨false, rfl, h⟩
  · rename_i i hd
    have d := o.dp S hd
    cases d
    exact ⟨_, rfl, h⟩
  · rename_i y hd
    have d := o.dp S hd
    cases d
    exact ⟨_, ⟨h.1, rfl⟩, h.2⟩
  · rename_i ds hd
    have d := o.dp S hd
    cases d with
    | lst hs ha => exact ⟨_, .inl ⟨_, hs, by rw [isEmpty_dp ha]⟩, h⟩
  · rename_i ds hd
    have d := o.dp S hd
    cases d with
    | tup hs ha => exact ⟨_, .inr (.inl ⟨_, hs, by rw [isEmpty_dp ha]⟩), h⟩
  · exact h.elim
end
section
variable {X : Cx} {a b e : Expr} {rest : List Expr} {wa wb : WE} {pos : Pos}
theorem dt_tru (ha : DE X e wa) (he : ∀ whole, isTrue e X.env whole = (do let v ← whole; standAt e.pos; holding [v] (truthy v)) := by intro _; rfl) : DT X e (wTru wa) := by
  obtain ⟨ta, pa, ra⟩ := ha
  refine ⟨_, pt_truth pa he, fun σ H F ρ fr Q Q' S hw k => ?_⟩
  refine ra σ H F ρ fr _ _ S hw fun v H' F' ρ' r m q o S' k' => ?_
  obtain ⟨b, hb, q⟩ := asT_ok q o S'
  exact ⟨b, hb, k b H' F' ρ' q S'.left k'⟩
theorem de_orT (ha : DE X a wa) (hb : DE X (.BoolOp .Or (b :: rest) pos) wb) : DE X (.BoolOp .Or (a :: b :: rest) pos) (wOrT wa wb) := by
  obtain ⟨⟨t, p, r⟩⟩ := ha
  obtain ⟨⟨u, q, r2⟩⟩ := hb
  refine ⟨⟨_, pe_orT p q, fun σ H F ρ fr Q Q' S hw k => ?_⟩⟩
  refine r σ H F ρ fr _ _ S hw fun v H1 F1 ρ1 r1 m1 hw o1 S1 k1 => ?_
  obtain ⟨b, hb, hw⟩ := asT_ok hw o1 S1
  refine ⟨b, hb, ?_⟩
  cases b with
  | false => exact r2 σ H1 F1 ρ1 fr _ _ S1.left hw fun v H2 F2 ρ2 r m q o S2 k2 => k v H2 F2 ρ2 r m q o S2 (k1.trans k2)
  | true => exact k v H1 F1 ρ1 r1 m1 hw o1 S1 k1
end
/-! ### an own list of own lists, from none on -/
def wLL0 (wa : WE) : WE := fun ρ Q => wa ρ fun r ρ1 => match r with
  | .tm (.lst p []) => Q (.tm (.lls p [])) ρ1
  | _ => False
def wAppLL (i : Nat) (wa : WE) : WS := fun d ρ => isLL ρ i <| wa ρ fun r ρ1 => match r, look ρ1 i with
  | .tm (.lst _ ds), some (.lls p dss) => dss.length < sizeLine ∧ d.nx (ρ1.set i (some (.lls p (dss ++ [ds]))))
  | _, _ => False
/-- x[a][b] op= e of ints -/
def wAugg (f : Int → Int → Int) (i : Nat) (w1 w2 wa : WE) : WS := fun d ρ => isLL ρ i <| w1 ρ fun ra ρ1 => match look ρ1 i, ra.dat ρ1 with
  | some (.lls p dss), some (.int k) => (match ixN dss.length k with
    | some kk => (match dss[kk]? with
      | some ds => w2 (ρ1.set i none) fun rb ρ2 => (match rb.dat ρ2 with
        | some (.int j) => (match ixN ds.length j with
          | some jj => (match ds[jj]? with
            | some (.int u) => wa ρ2 fun re ρ3 => (match re.dat ρ3 with
              | some (.int w) => d.nx (ρ3.set i (some (.lls p (dss.set kk (ds.set jj (.int (f u w)))))))
              | _ => False)
            | _ => False)
          | none => False)
        | _ => False)
      | none => False)
    | none => False)
  | _, _ => False
section
variable {K : PySem.W.Frag} {F H : Hp} {σ : Sg} {ρ : Rho} {fr m : Fp}
theorem SI.put (S : SI K F H σ ρ (padd fr m)) {p : Addr} (hp : m p ≠ 0) (o : HO) : SI K F (upd H p o) σ ρ (padd fr m) ∧ Kp F H fr F (upd H p o) := by
  obtain ⟨m9, w9, q9⟩ := S.own
  have zq : m9 p = 0 ∧ fr p = 0 := by
    have := (q9 p).1
    unfold padd at this
    omega
  have hFq : F p = none := ((q9 p).2 (by unfold padd; omega)).1
  refine ⟨⟨fun b u e => ?_, m9, w9.kp (Same.refl _) fun c z => upd_ne fun e => by subst e; omega, fun c => ⟨(q9 c).1, fun z => ⟨((q9 c).2 z).1, ?_⟩⟩⟩, Same.refl _, fun c z => upd_ne fun e => by subst e; omega, fun c z => ?_⟩
  · rw [upd_ne fun e' => by subst e'; rw [hFq] at e; cases e]
    exact S.ex b u e
  · by_cases hc : c = p
    · subst hc; rw [upd_same]; simp
    · rw [upd_ne hc]; exact ((q9 c).2 z).2
  · by_cases hc : c = p
    · subst hc; rw [upd_same]; simp
    · rw [upd_ne hc]; exact z
end
section
variable {X : Cx}
def rGetL (K : PySem.W.Frag) : V → V → Hp → VK → Prop := fun x y H Q => ∃ p xs i v, x = .ref p ∧ y = .int i ∧ SqL K H p xs ∧ atI xs i = some v ∧ Q v H
theorem get_list : PGet X (rGetL X.K) := by
  intro pins s σ H o i ov iv Q I rx ry h
  obtain ⟨p, xs, i, z, rfl, rfl, hq, he, q⟩ := h
  cases rx
  obtain ⟨t, rfl⟩ := ry
  obtain ⟨its, r, pl, hz⟩ := I.list hq
  obtain ⟨j, h1, h2, h3, h4, h5⟩ := atI_get he
  obtain ⟨w, ew, rw'⟩ := r.get h2
  have hl := r.length
  have hn := line63
  have fin : EP X pins σ Q w s := ⟨z, H, I, rw', q⟩
  by_cases h0 : 0 ≤ i
  · have hj : i.toNat = j := by
      rw [seqIndex_of h0 h5] at h1
      exact Option.some.inj h1
    exact wpAny_getItem_list pl.isList h0 (by omega) (by rw [hj]; simpa using ew) fin
  · have hj : (i + (its.toArray.size : Int)).toNat = j := by
      rw [seqIndex_neg (by omega) h4] at h1
      rw [List.size_toArray, ← hl]
      exact Option.some.inj h1
    exact wpAny_getItem_list_neg pl.isList (by omega) (by rw [List.size_toArray] <;> omega) (by omega) (by rw [hj]; simpa using ew) fin
variable {a b e : Expr} {wa w1 w2 : WE} {pos pos2 p0 apos cpos tpos : Pos} {x : Str} {i : Nat}
theorem de_ll0 (ha : DE X e wa) : DE X e (wLL0 wa) := by
  obtain ⟨⟨t, p, r⟩⟩ := ha
  refine ⟨⟨t, p, fun σ H F ρ fr Q Q' S hw k => ?_⟩⟩
  refine r σ H F ρ fr _ _ S hw fun v1 H1 F1 ρ1 r1 m1 hw o1 S1 k1 => ?_
  split at hw
  · rename_i p
    obtain ⟨vs, rfl, hp, ha, rfl⟩ := o1
    cases ha
    refine k _ H1 F1 ρ1 _ (one p) hw ⟨[], rfl, hp, rfl, fun i q ds e _ => (by simp at e), (by simp), ?_⟩ S1 k1
    funext a
    unfold one
    by_cases h : a = p
    · subst h; simp
    · rw [if_neg h, List.count_cons_of_ne (fun q => h q.symm)]; simp
  · exact hw.elim
theorem ds_appLL (hN : X.N[i]? = some x) (hv : Vis X.env.scope x) (ha : DE X e wa)
    (hd : (x == ("__debug__" : Str)) = false := by decide) (hcd : (x == ("__classdict__" : Str)) = false := by decide)
    (hbase : attributeBase (.Name x p0) "append" X.env (eval (.Name x p0) X.env) = eval (.Name x p0) X.env := by rfl)
    (hfew : ((backTo cpos (starEach [e] X.env)).all (fun x => !x.1) && (backToKw cpos (keywordEach [] X.env)).all (fun x => x.1.isSome)
      && decide ([e].length + ([] : List Keyword).length + (if ([] : List Keyword).isEmpty then 0 else 1) < 30)) = true := by rfl)
    (hline : (apos.endLine == cpos.line) = true := by rfl) (hs : starEach (e :: []) X.env = (false, eval e X.env) :: starEach [] X.env := by rfl) (hplain : (backTo cpos (starEach [] X.env)).any (·.1) = false := by rfl)
    (hsw : swapsWith (.Call (.Attribute (.Name x p0) "append" apos) [e] [] cpos) none pos.line X.env = pure false := by rfl) :
    DS X (.Expr (.Call (.Attribute (.Name x p0) "append" apos) [e] [] cpos) pos) (wAppLL i wa) := by
  obtain ⟨⟨t, p, r⟩⟩ := ha
  refine ⟨⟨_, ps_expr (pe_bm PySem.F.plainAttrs_list PySem.F.slot_list_append PySem.F.type_list_append mt_append (pe_var hN hv hd hcd) (pa_cons p pa_nil hs) hbase hfew hline hs hplain) hsw, fun σ H F ρ fr d e S E h => ?_⟩⟩
  obtain ⟨⟨q0, dss0, e0⟩, h⟩ := isLL_iff h
  obtain ⟨v0, m0, ev0, o0⟩ := S.slot e0
  obtain ⟨ps0, rfl, hp0, _⟩ := o0
  refine ⟨.ref q0, ev0, .inl ⟨rfl, _, SqL.of hp0⟩, ?_⟩
  refine r σ H F ρ fr _ _ S h fun v H1 F1 ρ1 r1 m hw c b k1 => ?_
  split at hw
  · rename_i q ds p dss e2
    obtain ⟨vs, rfl, hq, dvs, rfl⟩ := c
    obtain ⟨v2, m2, ev2, o2, S2⟩ := b.out e2
    rw [ev0] at ev2
    cases ev2
    obtain ⟨ps, e3, hp, hl, hi, nd, hm⟩ := o2
    cases e3
    have mp : m2 q0 ≠ 0 := by
      rw [hm]
      show List.count q0 (q0 :: ps) ≠ 0
      rw [List.count_cons_self]
      omega
    obtain ⟨S3, k3⟩ := S2.put mp (.lst (ps.map V.ref ++ [.ref q]))
    -- q is none of the others
    obtain ⟨m9, w9, q9⟩ := S2.own
    have zq : m2 q = 0 := by
      have := (q9 q).1
      have h1 : one q q = 1 := by simp [one]
      unfold padd at this
      omega
    have hqn : q ∉ q0 :: ps := fun hh => by
      have := List.count_pos_iff.mpr hh
      rw [hm] at zq
      have zq : List.count q (q0 :: ps) = 0 := zq
      omega
    have hqp : q ≠ q0 := fun e => hqn (by rw [e]; simp)
    have hpn : q0 ∉ ps := (List.nodup_cons.mp nd).1
    have o4 : OwnT X.K F1 (upd H1 q0 (.lst (ps.map V.ref ++ [.ref q]))) (.lls q0 (dss ++ [ds])) (.ref q0) (padd (one q) m2) := by
      refine ⟨ps ++ [q], rfl, by rw [upd_same, List.map_append]; rfl, by simp [hl], fun j r es hb hes => ?_, ?_, ?_⟩
      · by_cases hj : j < ps.length
        · rw [List.getElem?_append_left hj] at hb
          rw [List.getElem?_append_left (by omega)] at hes
          obtain ⟨us, h1, h2⟩ := hi j r es hb hes
          have hr : r ≠ q0 := fun e => hpn (by rw [← e]; exact List.mem_of_getElem? hb)
          exact ⟨us, by rw [upd_ne hr]; exact h1, h2⟩
        · rw [List.getElem?_append_right (by omega)] at hb hes
          have hj0 : j - ps.length = 0 := by
            have := (List.getElem?_eq_some_iff.mp hb).1
            simp at this
            exact this
          rw [hj0] at hb
          rw [← hl, hj0] at hes
          cases hb
          cases hes
          exact ⟨vs, by rw [upd_ne hqp]; exact hq, dvs⟩
      · rw [← List.cons_append, List.nodup_append]
        refine ⟨nd, by simp, fun c hc d hd e => ?_⟩
        rw [List.mem_singleton.mp hd] at e
        subst e
        exact hqn hc
      · rw [hm]
        funext c
        show (if c = q then 1 else 0) + List.count c (q0 :: ps) = List.count c (q0 :: (ps ++ [q]))
        rw [← List.cons_append, List.count_append]
        by_cases h : c = q
        · subst h; simp; omega
        · rw [if_neg h, show List.count c [q] = 0 from List.count_eq_zero.mpr fun hh => h (List.mem_singleton.mp hh)]; omega
    have S4 : SI X.K F1 (upd H1 q0 (.lst (ps.map V.ref ++ [.ref q]))) σ (ρ1.set i none) (padd fr (padd (one q) m2)) := by rw [← padd_assoc]; exact S3
    have S5 := S4.inn o4 ev0
    rw [List.set_set] at S5
    exact ⟨q0, _, _, rfl, rfl, hp, by rw [List.length_map, hl]; exact hw.1, E.nx σ _ F1 _ hw.2 S5 (k1.trans k3.left)⟩
  · exact hw.elim
theorem ds_aug2 {f : Int → Int → Int} {op : Operator} (hop : PIp X op (ipI f)) (hN : X.N[i]? = some x) (hv : Vis X.env.scope x) (ha : DE X a w1) (hb : DE X b w2) (he : DE X e wa) (hs1 : PlainIx a := by exact fun _ _ => rfl)
    (hd : (x == ("__debug__" : Str)) = false := by decide) (hcd : (x == ("__classdict__" : Str)) = false := by decide)
    (hst : ∀ ov iv new, augStore b ov iv new = (do holding [new, ov, iv] (setItem ov iv new); release [new, ov, iv] []; pure .next) := by intros; rfl) :
    DS X (.AugAssign (.Subscript (.Subscript (.Name x p0) a pos2) b tpos) op e pos) (wAugg f i w1 w2 wa) := by
  obtain ⟨⟨ta, pa, ra⟩⟩ := ha
  obtain ⟨⟨tb, pb, rb⟩⟩ := hb
  obtain ⟨⟨te, pe, re⟩⟩ := he
  refine ⟨⟨_, ps_augS (pe_ix ix_seq (pe_var hN hv hd hcd) pa hs1) pb get_list pe hop set_list hst, fun σ H F ρ fr d e S E h => ?_⟩⟩
  obtain ⟨⟨q0, ds0, e0⟩, hw⟩ := isLL_iff h
  obtain ⟨v0, _, ev, _⟩ := S.slot e0
  refine ⟨v0, ev, ?_⟩
  refine ra σ H F ρ fr _ _ S hw fun v1 H3 F3 ρ3 r3 m3 hw o3 S3 k3 => ?_
  split at hw
  · rename_i p dss kk e1 e2
    have := o3.dp S3 e2
    cases this
    split at hw
    · rename_i kn en
      split at hw
      · rename_i ds e3
        obtain ⟨vv, m2, ev2, o2, S4⟩ := S3.left.out e1
        rw [ev] at ev2
        cases ev2
        obtain ⟨ps, rfl, hp, hl, hi, nd, hm⟩ := id o2
        have hj : kn < ps.length := by rw [hl]; exact (List.getElem?_eq_some_iff.mp e3).1
        obtain ⟨ws, hq2, dws⟩ := hi kn ps[kn] ds (List.getElem?_eq_getElem hj) e3
        have hq : atI (ps.map V.ref) kk = some (.ref ps[kn]) := by
          unfold atI
          rw [List.length_map, hl, en]
          show (ps.map V.ref)[kn]? = _
          rw [List.getElem?_map, List.getElem?_eq_getElem hj]
          rfl
        have mq : m2 ps[kn] ≠ 0 := by
          have := List.count_pos_iff.mpr (List.mem_cons_of_mem p (List.getElem_mem hj))
          rw [hm]
          show List.count ps[kn] (p :: ps) ≠ 0
          omega
        refine .inl ⟨p, _, kk, .ref ps[kn], rfl, rfl, SqL.of hp, hq, ?_⟩
        refine rb σ H3 F3 _ _ _ _ S4 hw fun v5 H5 F5 ρ5 r5 m5 hw o5 S5 k5 => ?_
        split at hw
        · rename_i j e4
          have := o5.dp S5 e4
          cases this
          split at hw
          · rename_i jj e5
            split at hw
            · rename_i u e6
              have kp5 : ∀ a, m2 a ≠ 0 → H5 a = H3 a := fun a z => k5.keep a (by unfold padd; omega)
              have hq3 : H5 ps[kn] = some (.lst ws) := (kp5 _ mq).trans hq2
              obtain ⟨u', eu, du⟩ := (dpam k5.exF _ _ dws).get e6
              cases du
              refine ⟨ps[kn], ws, j, .int u, rfl, rfl, SqL.of hq3, by unfold atI; rw [dws.length, e5]; exact eu, ?_⟩
              refine re σ H5 F5 _ _ _ _ S5.left hw fun v7 H7 F7 ρ7 r7 m7 hw o7 S7 k7 => ?_
              split at hw
              · rename_i w e7
                have := o7.dp S7 e7
                cases this
                have kp7 : ∀ a, m2 a ≠ 0 → H7 a = H5 a := fun a z => k7.keep a (by unfold padd; omega)
                have hq4 : H7 ps[kn] = some (.lst ws) := (kp7 _ mq).trans hq3
                refine ⟨u, w, rfl, rfl, ps[kn], ws, j, jj, rfl, rfl, hq4, by rw [dws.length]; exact e5, ?_⟩
                have hpn : p ∉ ps := (List.nodup_cons.mp nd).1
                have hne : p ≠ ps[kn] := fun e => hpn (e ▸ List.getElem_mem hj)
                have nps : ps.Nodup := (List.nodup_cons.mp nd).2
                have mp : m2 p ≠ 0 := by
                  rw [hm]
                  show List.count p (p :: ps) ≠ 0
                  rw [List.count_cons_self]
                  omega
                have o6 : OwnT X.K F7 (upd H7 ps[kn] (.lst (ws.set jj (.int (f u w))))) (.lls p (dss.set kn (ds.set jj (.int (f u w))))) (.ref p) m2 := by
                  refine ⟨ps, rfl, by rw [upd_ne hne]; exact (kp7 p mp).trans ((kp5 p mp).trans hp), by rw [List.length_set]; exact hl, fun b r es hb hes => ?_, nd, hm⟩
                  by_cases hbk : b = kn
                  · subst hbk
                    rw [List.getElem?_eq_getElem hj] at hb
                    cases hb
                    rw [List.getElem?_set_self (by rw [← hl]; exact hj)] at hes
                    cases hes
                    exact ⟨_, upd_same, (dpam (k5.exF.trans k7.exF) _ _ dws).set (.int (f u w)) jj⟩
                  · rw [List.getElem?_set_ne (Ne.symm hbk)] at hes
                    obtain ⟨us, h1, h2⟩ := hi b r es hb hes
                    have hr : r ≠ ps[kn] := fun e => hbk (by
                      obtain ⟨hb1, hb2⟩ := List.getElem?_eq_some_iff.mp hb
                      exact (List.getElem_inj nps).mp (hb2.trans e))
                    have mr : m2 r ≠ 0 := by
                      have := List.count_pos_iff.mpr (List.mem_cons_of_mem p (List.mem_of_getElem? hb))
                      rw [hm]
                      show List.count r (p :: ps) ≠ 0
                      omega
                    exact ⟨us, by rw [upd_ne hr]; exact (kp7 r mr).trans ((kp5 r mr).trans h1), dpam (k5.exF.trans k7.exF) _ _ h2⟩
                obtain ⟨S8, k8⟩ := S7.left.put mq (.lst (ws.set jj (.int (f u w))))
                have S9 := S8.inn o6 ev
                exact E.nx σ _ F7 _ hw S9 (((k3.trans k5.left).trans k7.left).trans k8)
              · exact hw.elim
            · exact hw.elim
          · exact hw.elim
        · exact hw.elim
      · exact hw.elim
    · exact hw.elim
  · exact hw.elim
end
end DL

namespace DL
open PySem PySem.Spec PyProof.Rows L2
/-! ### super().__init__(x) in an own exception over ValueError -/
section
open PySem.W PySem.Calls
variable {prog : Program} {w : World} {M : Model} {A : Around} {E : Value → Shared → Prop} {h : Heap} {g : Array GenState} {d : Drawn} {t : Nat} {os : OsState}
variable {nm q : Str} {C N : Addr} {bs bm : List Value} {hdct : Bool} {sn : List Str} {sub : List Value} {ab : Bool} {col : Option Bool} {dd : Option Addr} {k0 k1 k2 k3 k5 : Option Value}
theorem call_mwV {u e t0 : Addr} {rest : List Value} {Q : Value → Shared → Prop}
    (hC : h.get? C = some (excClassObj nm q C N bs bm hdct sn sub ab col dd k0 k1 k2 k3 k5 "ValueError.__new__")) (he : h.get? e = some (HandSPX.excO C t0)) (hu : h.get? u = some (kxs_mw "ValueError.__init__" e)) (hrest : rest.length ≤ sizeLine)
    (hq : ∀ h' t1, (∀ b o, b ≠ e → h.get? b = some o → h'.get? b = some o) → h'.get? e = some (HandSPX.excO C t1) → Q .none ⟨h', g, d, t, os⟩) :
    wpAny (model prog w) A (call (.ref u) rest) Q E ⟨h, g, d, t, os⟩ := by
  refine wpAny_call (codeAny_of_tree ?_)
  show wpAny _ A.in1 (callAny (.ref u) ⟨rest, []⟩) _ _ _
  simp only [callAny]
  refine wpAny_bind (wpAny_load hu ?_)
  simp only [kxs_mw, show (Value.type "method-wrapper" == Value.type "method" || Value.type "method-wrapper" == Value.type "builtin_function_or_method" || Value.type "method-wrapper" == Value.type "method-wrapper") = true by decide, if_true]
  refine W.KFB.if_so (by decide) ?_
  refine wpAny_bind (check_bound_init F.excBase_ValueError.toExcCallFacts hC he rfl ?_)
  refine wpAny_bind (wpAny_pure (wpAny_pure ?_))
  refine ⟨Code.quiet_builtin _ (by decide +kernel), codeAny_builtin F.excBase_ValueError.initEntry ?_⟩
  rw [Around.under_plainId F.excBase_ValueError.init.plain _]
  wp_walk
  refine hq _ h.objs.size (fun b o hb ho => ?_) ?_
  · rw [Heap.get?_update_other _ _ (Ne.symm hb)]
    exact Heap.get?_push_of_some _ ho
  · rw [Heap.get?_update_self _ (Heap.get?_push_of_some _ he) rfl]
    rfl
end
section
variable {P : Program} {w : World} {K : PySem.W.Frag} {mg : Str → Option Value} {base : Heap}
/-- the context of such a body, at its entry -/
def cxS (P : Program) (w : World) (K : PySem.W.Frag) (mg : Str → Option Value) (base : Heap) (N : List Str) (fd : FuncData) (f : Addr) (A : Around) (outer : List Env) (s : Shared) (H : Hp) : Cx where
  prog := P
  w := w
  K := K
  mg := mg
  base := base
  A := A.deeper (callEnv fd s.heap.objs.size f)
  N := N
  s_0 := s
  H_0 := H
  env := callEnv fd s.heap.objs.size f
  outer := outer
  stack := callEnv fd s.heap.objs.size f :: outer
  ex := []
  calm := true
  fn := fun _ => false
  pn := []
  xe := fun _ _ => False
/-- what the written part holds of it -/
structure SupFn (P : Program) (K : PySem.W.Frag) (mg : Str → Option Value) (C f cc cda : Addr) (p0 p1 : Str) (body : List Stmt) (fd : FuncData) : Prop where
  fdE : ∃ name qual params scope dV kV doc pm an ct, fd = PySem.W.ksFn name qual params body scope dV kV doc pm an (.ref cda) ct cc
  lk : ∃ oc od osl, K.lookup f = some ⟨oc, od, .func fd, osl⟩
  hcd : PySem.W.codeIn K fd.code fd.qualname = true
  cell : ∃ cl cld csl, K.lookup cc = some ⟨cl, cld, .cell (some (.ref C)), csl⟩
  code : ∃ ccl cdd vs ccs file tf, K.lookup cda = some ⟨ccl, cdd, .fields vs, ccs⟩ ∧ vs[2]? = some (.str file tf) ∧ ((P.main.file : Str) == file) = true
  head : ∃ ar, (fd.params.posonlyargs ++ fd.params.args).head? = some ar ∧ ar.arg = p0
  kind : fd.scope.kind = .function
  co : fd.scope.isCoroutine = false
  gen : fd.scope.isGenerator = false
  ncell : ∀ x ∈ fd.scope.names, x.2 ≠ .cell
  nfree : ∀ x ∈ fd.scope.names, x.2 = .free → x.1 = "__class__"
  l0 : fd.scope.names.lookup p0 = some .local
  l1 : fd.scope.names.lookup p1 = some .local
  ne : p0 ≠ p1
  sup : fd.scope.names.lookup ("super" : Str) = some .globalImplicit
  cls : fd.scope.names.lookup ("__class__" : Str) = some .free
  top : (P.main.scope.names.lookup ("super" : Str)).isSome = false
  sup2 : PySem.W.ks_superIn K C C "__init__" = some (some (.builtin "ValueError.__init__"))
  mro : PySem.W.mroIn K C (.ref C) = some true
  subV : PySem.W.subIn K (.ref C) (.type "ValueError") = some true
  d0 : (p0 == ("__debug__" : Str)) = false
  c0 : (p0 == ("__classdict__" : Str)) = false
  d1 : (p1 == ("__debug__" : Str)) = false
  c1 : (p1 == ("__classdict__" : Str)) = false
  mgs : mg ("super" : Str) = none
  nst : PySem.W.nsIn K cStatics "thirdparty.any" = some none
theorem inv_startS {C f cc cda : Addr} {p0 p1 : Str} {body : List Stmt} {fd : FuncData} {A : Around} {outer : List Env} {s : Shared} {H : Hp} {h₀ : Heap} {tk : Nat} {v0 v1 : V} {u0 u1 : Value} (F : SupFn P K mg C f cc cda p0 p1 body fd)
    (hd : A.handled = none) (e0 : Env0 P w K mg base A outer s H) (r0 : RelV v0 u0) (r1 : RelV v1 u1) (hns : h₀.Ns s.heap.objs.size (fun x => ([(p0, u0), (p1, u1)] : List (Str × Value)).reverse.lookup x)) (hk : ∀ b o, s.heap.get? b = some o → h₀.get? b = some o) :
    Inv (cxS P w K mg base [p0, p1] fd f A outer s H) [] [some v0, some v1] H { s with heap := h₀, toks := tk } := by
  obtain ⟨name, qual, params, scope, dV, kV, doc, pm, an, ct, rfl⟩ := F.fdE
  have KX : K.In s.heap := e0.mod.kin.keeps fun b o e => (e0.bs b o e).1
  obtain ⟨cl, cld, csl, hcell⟩ := F.cell
  have noA : ∀ b : Addr, b ∉ (cxS P w K mg base [p0, p1] (PySem.W.ksFn name qual params body scope dV kV doc pm an (.ref cda) ct cc) f A outer s H).ex := fun b z => absurd (show b ∈ ([] : List Addr) from z) (by simp)
  have only : ∀ {y : Str} {c : Addr}, (callEnv (PySem.W.ksFn name qual params body scope dV kV doc pm an (.ref cda) ct cc) s.heap.objs.size f).cells.lookup y = some c → y = "__class__" ∧ c = cc := fun {y c} e => by
    have e : ([("__class__", cc)] : List (Str × Addr)).lookup y = some c := e
    by_cases hy : y = "__class__"
    · subst hy
      simp [List.lookup] at e
      exact ⟨rfl, e.symm⟩
    · have : (y == ("__class__" : Str)) = false := by simpa using hy
      simp [List.lookup, this] at e
  refine ⟨⟨e0.mod, F.kind, rfl, rfl, Nat.le_refl _, fun y z c h1 h2 => (only h1).1.trans (only h2).1.symm, fun y hy => ?_, fun y c h _ => (by cases h), fun _ => hd, Around.frames_deeper e0.frames, .inr ⟨rfl, rfl⟩, fun b z => absurd z (noA b), e0.bs, e0.bsz, fun b _ _ => noA b, fun b z => absurd z (noA b), e0.funs, e0.frf⟩,
    rfl, e0.bare, Un.kept hk, ⟨_, hns, fun i y v h1 h2 h3 => ?_⟩, fun y c h => ?_, e0.hok.fresh (Nat.le_refl _), fun y c h => ?_, fun p hp => absurd (show p ∈ ([] : List (Addr × Obj)) from hp) (by simp), e0.hok.kept hk, rfl⟩
  · have hy : scope.names.lookup y = some .cell ∨ scope.names.lookup y = some .free := hy
    rcases hy with hy | hy
    · exact absurd rfl (F.ncell _ (PySem.mem_of_lookup hy))
    · have := F.nfree _ (PySem.mem_of_lookup hy) rfl
      have : y = "__class__" := this
      subst this
      exact ⟨cc, by rfl⟩
  · match i, h1, h2 with
    | 0, h1, h2 =>
      cases h1; cases h2
      refine ⟨u0, r0, .inl ⟨F.l0, ?_⟩⟩
      show ([(p1, u1), (p0, u0)] : List (Str × Value)).lookup p0 = some u0
      have : (p0 == p1) = false := by simpa using F.ne
      simp [List.lookup, this]
    | 1, h1, h2 =>
      cases h1; cases h2
      refine ⟨u1, r1, .inl ⟨F.l1, ?_⟩⟩
      show ([(p1, u1), (p0, u0)] : List (Str × Value)).lookup p1 = some u1
      simp [List.lookup]
    | n + 2, h1, h2 => cases h1
  · obtain ⟨_, rfl⟩ := only h
    exact ⟨some (.ref C), _, hk _ _ (KX _ _ hcell), rfl⟩
  · obtain ⟨_, rfl⟩ := only h
    exact (e0.bs _ _ (e0.mod.kin _ _ hcell)).2
def spIni (C : Addr) (fld : Str) (φ : V → Hp → Prop) : Sp := fun vs H Q _ => ∃ (a : Addr) (x : V), vs = [.ref a, x] ∧ φ x H ∧ H a = some (exo a C none) ∧ ∀ dx, H dx = none → dx ≠ a → Q .non (upd (upd H dx (exd dx [(fld, x)])) a (exo a C (some dx)))
theorem sup_ok {CX : CXT} {k : Nat} {C f cc cda : Addr} {p0 p1 fld : Str} {body : List Stmt} {fd : FuncData} {e : Expr} {q0 q1 q2 q3 q4 q5 q6 q7 q8 : Pos} {φ : V → Hp → Prop} (F : SupFn P K mg C f cc cda p0 p1 body fd) (hfb : fd.body = .stmts body) (T : OexC K C) (hno : PySem.W.findIn K (.ref C) fld = some none)
    (hbody : body = [.Expr (.Call (.Attribute (.Call (.Name "super" q0) [] [] q1) "__init__" q2) [e] [] q3) q4, .Assign [.Attribute (.Name p0 q5) fld q6] (.Name p1 q7) q8])
    {pl : Env → Sem Bool} (hev : ∀ env, eval (.Call (.Attribute (.Call (.Name "super" q0) [] [] q1) "__init__" q2) [e] [] q3) env = (do
      let ov ← attributeBase (.Call (.Name "super" q0) [] [] q1) "__init__" env (eval (.Call (.Name "super" q0) [] [] q1) env)
      standAt q2.atName
      let (f, first) ← holding [ov] (getMethod ov "__init__" (pl env))
      callWith q3 f first (backTo q3 (starEach [e] env)) []))
    (hsw : ∀ env, swapsWith (.Call (.Attribute (.Call (.Name "super" q0) [] [] q1) "__init__" q2) [e] [] q3) none q4.line env = pure false)
    (hse : ∀ env, starEach (e :: []) env = (false, eval e env) :: starEach [] env)
    (he : ∀ (A : Around) (outer : List Env) (s : Shared) (H : Hp), Room k A → ∃ te, PE (cxS P w K mg base [p0, p1] fd f A outer s H) e te ∧ ∀ σ H' Q x, σ[1]? = some (some x) → φ x H' → (∀ z, Q (.str z) H') → te σ H' Q) :
    FnOk P w K mg base CX (k + 1) f fd [p0, p1] (spIni C fld φ) := by
  refine ⟨fun vs H Q E h => by obtain ⟨a, x, rfl, _⟩ := h; rfl, fun A outer s H args us vs Q E hr e0 hbt r hsp => ?_⟩
  obtain ⟨a, x, rfl, hφ, ea, hq⟩ := hsp
  cases r with
  | @cons _ u0 _ us' r0 rs =>
  cases rs with
  | @cons _ u1 _ us'' r1 rs =>
  cases rs
  obtain rfl : u0 = .ref a := r0
  have KX : K.In s.heap := e0.mod.kin.keeps fun b o e => (e0.bs b o e).1
  have lim : s.heap.NoLimit := e0.mod.nolimit.keeps fun b o e => (e0.bs b o e).1
  obtain ⟨oc, od, osl, lk⟩ := F.lk
  have hloc : ∀ y ∈ [p0, p1].zip [Value.ref a, u1], fd.scope.names.lookup y.1 = some .local := fun y hy => by
    have hy : y = (p0, .ref a) ∨ y = (p1, u1) := by simpa using hy
    rcases hy with rfl | rfl
    · exact F.l0
    · exact F.l1
  refine ks_codeAny_call_defAt hr.depth (KX _ _ lk) rfl lim (PySem.W.codeRec_of KX F.hcd) hfb hbt F.ncell hloc (fun h₀ hns hk => ?_) F.co F.gen F.kind
  have I : Inv (cxS P w K mg base [p0, p1] fd f A outer s H) [] [some (.ref a), some x] H { s with heap := h₀, toks := s.toks + 2 } := inv_startS F hr.hd e0 rfl r1 hns hk
  obtain ⟨nm, q, N, bs, bm, sn, sub, ab, col, dd, k0, k1, k2, k3, k5, hC, hbm⟩ := T.cls
  have hcl : PySem.W.clsIn K C = some { name := nm, bases := bs, mro := .ref C :: bm, ns := N, qualname := q, hasDict := true, slotNames := sn, subclasses := sub, abstract := ab, collection := col, hasDel := false } := by unfold PySem.W.clsIn; rw [hC] <;> rfl
  obtain ⟨name, qual, params, scope, dV, kV, doc, pm, an, ct, rfl⟩ := F.fdE
  obtain ⟨cl, cld, csl, hcell⟩ := F.cell
  obtain ⟨ccl, cdd, cvs, ccs, file, tf, hcode, hvs, hfile⟩ := F.code
  obtain ⟨ar, har, hare⟩ := F.head
  subst hare
  cases hfb
  have hmk : ∀ b o, K.lookup b = some o → h₀.get? b = some o := fun b o z => hk _ _ (KX _ _ z)
  have K0 : K.In h₀ := fun b o z => hmk b o z
  obtain ⟨t1, hoe⟩ := exo_at I.hok ea
  refine ks_wpAt_mono (Q := SP (cxS P w K mg base [ar.arg, p1] (PySem.W.ksFn name qual params body scope dV kV doc pm an (.ref cda) ct cc) f A outer s H) [] { nx := fun _ H' => Q .non H', rt := Q }) (E := fun _ _ => False) ?_ (fun fl s' hs => ?_) (fun _ _ z => z.elim)
  rotate_left
  · have fin : ∀ {σ' : L2.St} {H' : Hp} {v : V} {u : Value}, Inv (cxS P w K mg base [ar.arg, p1] (PySem.W.ksFn name qual params body scope dV kV doc pm an (.ref cda) ct cc) f A outer s H) [] σ' H' s' → RelV v u → Q v H' → CE outer P w H s Q u s' :=
      fun {σ' H' v u} J rv q => ⟨v, H', J.os, J.bare, J.base, J.hok, rv, q⟩
    cases fl with
    | ret u =>
      obtain ⟨v, σ', H', J, rv, q⟩ := hs
      exact fin J rv q
    | next =>
      obtain ⟨σ', H', J, q⟩ := hs
      exact fin (v := V.non) (u := Value.none) J rfl q
    | brk =>
      obtain ⟨_, _, _, q⟩ := hs
      exact False.elim q
    | cont =>
      obtain ⟨_, _, _, q⟩ := hs
      exact False.elim q
  subst hbody
  have hint : interactive (callEnv (PySem.W.ksFn name qual params [.Expr (.Call (.Attribute (.Call (.Name "super" q0) [] [] q1) "__init__" q2) [e] [] q3) q4, .Assign [.Attribute (.Name ar.arg q5) fld q6] (.Name p1 q7) q8] scope dV kV doc pm an (.ref cda) ct cc) s.heap.objs.size f) = false := by
    unfold interactive
    simp [callEnv, newEnv, show scope.kind = .function from F.kind]
  refine ks_wpAt_execs_cons (ks_wpAt_Expr_any (ks_wpAt_MethodCall (pl := pl _) ?_ (hev _)) hint (hsw _))
  have mb := I.mod.blt
  obtain ⟨mb, b1, b2⟩ := mb
  refine ks_wpAt_super_base (f := f) (cc := cda) F.sup F.cls (by decide) rfl (hmk _ _ lk) rfl har rfl (hmk _ _ hcode) rfl hvs hfile F.top ?_
  refine PySem.W.ks_loadName_global F.kind F.sup (PySem.Calls.loadGlobal_builtin (I.mod.glob.keeps I.bk) F.mgs (b1.keeps I.bk) ((b2 _ (by decide)).trans (by kernel_rfl)) ⟨rfl, ?_⟩)
  refine wpAny_loadName_free F.kind F.cls rfl ⟨_, hmk _ _ hcell, rfl⟩ ?_
  refine wpAny_loadName_local F.kind F.l0 hns (v := .ref a) (by
    show ([(p1, u1), (ar.arg, .ref a)] : List (Str × Value)).lookup ar.arg = some (.ref a)
    have : (ar.arg == p1) = false := by simpa using F.ne
    simp [List.lookup, this]) ?_
  refine ks_wpAny_isType_cls (hmk _ _ hC) rfl ⟨rfl, ?_⟩
  refine ks_wpAny_call_super (hmk _ _ hC) rfl hoe rfl (fun c z => by cases z) (PySem.W.looks_mroIn K0 F.mro) (fun h1 e1 k1 => ?_)
  have K1 : K.In h1 := K0.keeps k1
  have hoe1 := k1 _ _ hoe
  have IA : PySem.W.InstAt h1 a ({ cls := .ref C, data := .fields #[.ref t1, .none, .none, .none, .bool false, .none] } : Obj) C none := ⟨hoe1, rfl, rfl, trivial⟩
  have hI : PySem.W.Looks (model P w) h1 (isInstance (.ref a) (.type "ValueError")) true := IA.type.andThen (PySem.W.looks_subIn K1 F.subV)
  have halong : PySem.W.alongIn K "__init__" (((Value.ref C :: bm).dropWhile (· != .ref C)).drop 1) = some (some (.builtin "ValueError.__init__")) := by
    have := F.sup2
    unfold PySem.W.ks_superIn at this
    rw [hcl] at this
    exact this
  refine PySem.W.kxs_getMethod PySem.W.kxs_ValueError e1 (PySem.W.looks_opaque K1 F.nst) ((PySem.W.looks_clsIn K1 hcl).andThen .now) rfl K1 halong hI (PySem.W.ks_ne K1 IA hcl) (by decide) ?_
  -- the arguments, the wrapper pinned
  have I0 : Inv (cxS P w K mg base [ar.arg, p1] (PySem.W.ksFn name qual params [.Expr (.Call (.Attribute (.Call (.Name "super" q0) [] [] q1) "__init__" q2) [e] [] q3) q4, .Assign [.Attribute (.Name ar.arg q5) fld q6] (.Name p1 q7) q8] scope dV kV doc pm an (.ref cda) ct cc) f A outer s H) [] [some (.ref a), some x] H { heap := h1, gens := s.gens, drawn := s.drawn, toks := s.toks + 2, os := s.os } := I.kept (t' := s.toks + 2) fun b o z => k1 _ _ z
  have I1 : Inv (cxS P w K mg base [ar.arg, p1] (PySem.W.ksFn name qual params [.Expr (.Call (.Attribute (.Call (.Name "super" q0) [] [] q1) "__init__" q2) [e] [] q3) q4, .Assign [.Attribute (.Name ar.arg q5) fld q6] (.Name p1 q7) q8] scope dV kV doc pm an (.ref cda) ct cc) f A outer s H) [(h1.objs.size, PySem.W.kxs_mw "ValueError.__init__" a)] [some (.ref a), some x] H
      { heap := h1.push (PySem.W.kxs_mw "ValueError.__init__" a), gens := s.gens, drawn := s.drawn, toks := s.toks + 2 + 1, os := s.os } :=
    ClX.pin_new (s := { heap := h1, gens := s.gens, drawn := s.drawn, toks := s.toks + 2, os := s.os }) (t' := s.toks + 2 + 1) I0 (fun b o z => Heap.get?_push_of_some _ z) (Nat.le_refl _) (Heap.get?_push_at rfl rfl) (fun v z => by cases z)
  obtain ⟨te, pe, hte⟩ := he A outer s H (hr.mono (Nat.le_succ k))
  have hsp := thn ((pa_cons pe pa_nil (hse _)).run q3 _ _ _ _ (fun vs H' => (∃ z : Str, vs = [V.str z]) ∧ H' = H) I1 (hte _ _ _ x rfl hφ fun z => ⟨⟨z, rfl⟩, rfl⟩)) fun us s2 ⟨vs, H2, I2, rv, ⟨z, ez⟩, eH⟩ => (show PySem.W.KxsAt "ValueError.__init__" h1.objs.size a s2.heap ∧ wpAny (model P w) (A.deeper (callEnv (PySem.W.ksFn name qual params [.Expr (.Call (.Attribute (.Call (.Name "super" q0) [] [] q1) "__init__" q2) [e] [] q3) q4, .Assign [.Attribute (.Name ar.arg q5) fld q6] (.Name p1 q7) q8] scope dV kV doc pm an (.ref cda) ct cc) s.heap.objs.size f)) (call (.ref h1.objs.size) us) (fun _ s' => PySem.wpAt (model P w) (A.deeper (callEnv (PySem.W.ksFn name qual params [.Expr (.Call (.Attribute (.Call (.Name "super" q0) [] [] q1) "__init__" q2) [e] [] q3) q4, .Assign [.Attribute (.Name ar.arg q5) fld q6] (.Name p1 q7) q8] scope dV kV doc pm an (.ref cda) ct cc) s.heap.objs.size f)) (.func [.Expr (.Call (.Attribute (.Call (.Name "super" q0) [] [] q1) "__init__" q2) [e] [] q3) q4, .Assign [.Attribute (.Name ar.arg q5) fld q6] (.Name p1 q7) q8] (callEnv (PySem.W.ksFn name qual params [.Expr (.Call (.Attribute (.Call (.Name "super" q0) [] [] q1) "__init__" q2) [e] [] q3) q4, .Assign [.Attribute (.Name ar.arg q5) fld q6] (.Name p1 q7) q8] scope dV kV doc pm an (.ref cda) ct cc) s.heap.objs.size f))
      (execs [.Assign [.Attribute (.Name ar.arg q5) fld q6] (.Name p1 q7) q8] (callEnv (PySem.W.ksFn name qual params [.Expr (.Call (.Attribute (.Call (.Name "super" q0) [] [] q1) "__init__" q2) [e] [] q3) q4, .Assign [.Attribute (.Name ar.arg q5) fld q6] (.Name p1 q7) q8] scope dV kV doc pm an (.ref cda) ct cc) s.heap.objs.size f))
      (SP (cxS P w K mg base [ar.arg, p1] (PySem.W.ksFn name qual params [.Expr (.Call (.Attribute (.Call (.Name "super" q0) [] [] q1) "__init__" q2) [e] [] q3) q4, .Assign [.Attribute (.Name ar.arg q5) fld q6] (.Name p1 q7) q8] scope dV kV doc pm an (.ref cda) ct cc) f A outer s H) [] { nx := fun _ H' => Q .non H', rt := Q }) (fun _ _ => False) s') (fun _ _ => False) s2 from by
    subst eH ez
    have hpin := (I2.pin _ (List.mem_append_right _ (List.mem_singleton.mpr rfl))).1
    refine ⟨hpin, ?_⟩
    obtain ⟨hp2, g2, d2, tk2, os2⟩ := s2
    obtain ⟨t2, hoe2⟩ := exo_at I2.hok ea
    have hlen : us.length ≤ sizeLine := by
      rw [← Paired.length rv, sizeLine_eq]
      show 1 ≤ 16777216
      decide
    refine call_mwV (I2.kIn _ _ hC) hoe2 hpin hlen fun h' t3 kk hx => ?_
    have J := I2.write (t' := tk2) (x := a) (e := a) (o := exo a C none) (by rw [ea]; exact True.intro) (.inl rfl) kk ⟨_, hx⟩ (exo_ok hx)
    have eu : upd H2 a (exo a C none) = H2 := by
      funext b
      by_cases hb : b = a
      · rw [hb, upd_same, ea]
      · rw [upd_ne hb]
    rw [eu] at J
    refine wpAt_of_wpAny ((pss_one (ps_ost (pe_var (i := 0) rfl (.inl F.l0) F.d0 F.c0) (pe_var (i := 1) rfl (.inl F.l1) F.d1 F.c1))).run [] _ _ H2 _ (ClX.unpin J) ?_)
    exact ⟨x, rfl, .ref a, rfl, a, C, rfl, T, hno, .inl ⟨ea, fun dx h1 h2 => hq dx h1 h2⟩⟩)
  rw [hse] at hsp ⊢
  refine PySem.W.kxs_callWith (i := "ValueError.__init__") (x := a) (by rfl) ?_
  exact PySem.Calls.evalArgs_plain hsp
end
end DL

namespace DL
open PySem PySem.Spec PyProof.Rows L2
/-! ### raise n(x), n's own __init__ saying super().__init__(..) and keeping x as f -/
def wRaiseK (n f : Str) (ok : PyData → Prop) (wa : WE) : WS := fun d ρ => wa ρ fun r ρ1 => frz r ρ1 fun y ρ2 => ok y ∧ d.ex n (some (f, y)) ρ2
/-- what is asked of the data that is kept -/
def KeptOk (K : PySem.W.Frag) (ok : PyData → Prop) (φ : V → Hp → Prop) : Prop := ∀ (F H : Hp) (v : V) (y : PyData), Same F H → Dp K F v y → ok y → φ v H
section
variable {X : Cx} {W : WX} {CX : CXT} {n f : Str} {k : Nat} {C fI : Addr} {fd : FuncData} {ps : List Str} {ok : PyData → Prop} {φ : V → Hp → Prop} {e : Expr} {wa : WE} {p pos cpos : Pos}
theorem dsx_raiseK (hc : X.calm = true) (tk : Takes X W) (T : OexC X.K C) (hn : PySem.W.nsIn X.K mainGlobals n = some (some (.ref C))) (iC : PySem.W.findIn X.K (.ref C) "__init__" = some (some (.ref fI))) (tI : PySem.W.typeIn X.K (.ref fI) = some (.type "function"))
    (F1 : FnOk X.prog X.w X.K X.mg X.base CX k fI fd ps (spIni C f φ)) (hr : Room (k + 1) X.A) (hb : Binds X.K fd ps []) (hx : Passes CX X (fun _ _ _ => False)) (hg : Gl X n) (hm : X.mg n = some (.ref C)) (hφ : KeptOk X.K ok φ) (ha : DE X e wa)
    (hdb : (n == ("__debug__" : Str)) = false := by decide) (he : starEach (e :: []) X.env = (false, eval e X.env) :: starEach [] X.env := by rfl) (hpl : (backTo cpos (starEach [] X.env)).any (·.1) = false := by rfl) :
    DSX X W (.Raise (some (.Call (.Name n p) [e] [] cpos)) none pos) (wRaiseK n f ok wa) := by
  obtain ⟨⟨t, pe, r⟩⟩ := ha
  refine ⟨⟨_, ps_raise hc tk (pmk_oex T iC tI F1 hr hb .nil hx hg hm (pa_cons pe pa_nil he) hdb he hpl), fun σ H F ρ fr d en S E Ex h => ?_⟩⟩
  refine r σ H F ρ fr _ _ S h fun v H1 F1' ρ1 r1 m hw oo cc k1 => ?_
  obtain ⟨y, ρ2, F2, hw, dp, s, S2⟩ := frz_ok cc oo (fun a => by unfold padd; omega) hw
  have S2' : SI X.K F2 H1 σ ρ2 fr := S2.less fun a => by unfold padd; omega
  refine ⟨by show 1 ≤ 1000; decide, fun a hna => ?_⟩
  have up_a : upd H1 a (exo a C none) a = some (exo a C none) := upd_same
  have sm : Same F2 (upd H1 a (exo a C none)) := fun b o q => by
    rw [upd_ne fun z => by rw [z] at q; have := S2'.ex _ _ q; rw [hna] at this; cases this]
    exact S2'.ex _ _ q
  refine ⟨a, v, rfl, hφ F2 _ v y sm dp hw.1, up_a, fun dx hdx hne => ⟨rfl, dx, [(f, v)], upd_same, ?_, ?_, ?_⟩⟩
  · rw [upd_ne hne, upd_same]
  · rw [upd_ne hne] at hdx
    exact hdx
  · have hdx1 : H1 dx = none := by rw [upd_ne hne] at hdx; exact hdx
    have eH : upd (del (upd (upd (upd H1 a (exo a C none)) dx (exd dx [(f, v)])) a (exo a C (some dx))) a) dx (.xd [(f, v)]) = upd H1 dx (.xd [(f, v)]) := by
      funext b
      by_cases hbd : b = dx
      · rw [hbd, upd_same, upd_same]
      · rw [upd_ne hbd, upd_ne hbd]
        by_cases hba : b = a
        · rw [hba, del_same, hna]
        · rw [del_ne hba, upd_ne hba, upd_ne hbd, upd_ne hba]
    rw [eH]
    obtain ⟨S4, s4, k4⟩ := S2'.newF (o := .xd [(f, v)]) hdx1
    exact Ex.ex n (some (f, y)) σ _ _ ρ2 (.ref C) (some dx) hw.2 ⟨C, rfl, hn, dx, v, rfl, upd_same, dpm s4 _ _ dp⟩ S4 ((k1.trans (Kp.ofF s)).trans k4)
end
/-! ### a caught exception's field -/
def wXf (ns : List Str) (f : Str) (wa : WE) : WE := fun ρ Q => wa ρ fun r ρ1 => match r.ot ρ1 with
  | some (.exc n (some (g, y))) => n ∈ ns ∧ g = f ∧ Q (.fz y) ρ1
  | _ => False
/-- the classes of the module whose exceptions keep f -/
def XfIn (K : PySem.W.Frag) (ns : List Str) (f : Str) : Prop := ∀ n ∈ ns, ∃ C, PySem.W.nsIn K mainGlobals n = some (some (.ref C)) ∧ XfC K C ∧ PySem.W.findIn K (.ref C) f = some none
section
variable {X : Cx} {e : Expr} {te : TE} {wa : WE} {pos : Pos} {f : Str}
def tXfT (K : PySem.W.Frag) (f : Str) (te : TE) : TE := fun σ H Q => te σ H fun x H1 => ∃ (a C dd : Addr) (fs : List (Str × V)) (v : V), x = .ref a ∧ H1 a = some (exK a (.ref C) (some dd)) ∧ XfC K C ∧ PySem.W.findIn K (.ref C) f = some none ∧ H1 dd = some (.xd fs) ∧ fs.lookup f = some v ∧ Q v H1
theorem pe_xfT (he : PE X e te) (hb : attributeBase e f X.env (eval e X.env) = eval e X.env := by rfl) : PE X (.Attribute e f pos) (tXfT X.K f te) := by
  refine ⟨fun pins s σ H Q I h => ?_⟩
  refine attr_of hb (thn (he.run pins s σ H _ I h) fun u s1 hh => ?_)
  obtain ⟨x, H1, I1, rx, a, C, dd, fs, v, ex, hx0, T, hno, ea, l, q⟩ := hh
  subst ex
  obtain rfl : u = Value.ref a := rx
  obtain ⟨oe, vs, hget, h1, h2, hd⟩ := exK_at I1.hok hx0
  have hx : ObjOk X.prog X.w H1 s1.heap dd (.xd fs) := I1.hok dd _ ea
  obtain ⟨mA, hns, hr⟩ := hx
  obtain ⟨od, ho, hl⟩ := lookIn_ns hns
  obtain ⟨u, hu, ru⟩ := RelO.some_of (v := v) (o := mA f) (by rw [← l]; exact hr f)
  have J : PySem.W.InstAt s1.heap a oe C (some od) := ⟨hget, h1, by unfold PySem.W.notCls; rw [hd] <;> rfl, by rw [h2]; exact ho⟩
  exact HandSPX.exc_get I1.kIn J T.ga T.gg T.exC (PySem.W.findObj_own T.hdC hno rfl (by rw [hl, hu])) (handed_of ru) ⟨v, H1, I1.tok _, ru, q⟩
variable {ns : List Str}
theorem de_xf (hI : XfIn X.K ns f) (ha : DE X e wa) (hb : attributeBase e f X.env (eval e X.env) = eval e X.env := by rfl) : DE X (.Attribute e f pos) (wXf ns f wa) := by
  obtain ⟨⟨t, p, r⟩⟩ := ha
  refine ⟨⟨_, pe_xfT p hb, fun σ H F ρ fr Q Q' S hw k => ?_⟩⟩
  refine r σ H F ρ fr _ _ S hw fun v1 H1 F1 ρ1 r1 m1 hw o1 S1 k1 => ?_
  split at hw
  · rename_i n g y hr
    obtain ⟨hn, rfl, hw2⟩ := hw
    obtain ⟨m', o'⟩ := o1.own S1 hr
    obtain ⟨⟨a, C, d, rfl, h2, h3, dd, u, rfl, h4, h5⟩, _⟩ := o'
    obtain ⟨C', g1, g2, g3⟩ := hI n hn
    rw [h2] at g1
    cases g1
    exact ⟨a, C, dd, _, u, rfl, S1.ex _ _ h3, g2, g3, S1.ex _ _ h4, by simp [List.lookup], k _ H1 F1 ρ1 _ z0 hw2 ⟨h5, rfl⟩ S1.left k1⟩
  · exact hw.elim
end
/-! ### __class__ of an exception that has its dict -/
section
open PySem.W PySem.Calls
variable {prog : Program} {w : World} {A : Around} {E : Value → Shared → Prop} {sh : Shared} {K : Frag} {a D : Addr} {oa : Obj} {oda : Option Obj}
theorem findObj_data {name : Str} {b g : Value} (hc : (clsIn K D).isSome = true) (hb : findIn K (.ref D) name = some (some b)) (hg : specialIn K b "__get__" = some (some g)) (hk : takesIn K b = some true) : findObj K D oda name = some (.bind g b) := by
  obtain ⟨cd, hc'⟩ := Option.isSome_iff_exists.mp hc
  simp [findObj, hc', hb, hg, hk]
theorem exc_class_any {Q : Option Value → Shared → Prop} (T : ExcC K D) (X : K.In sh.heap) (I : InstAt sh.heap a oa D oda) (h : Q (some (.ref D)) { sh with toks := sh.toks + 1 }) : wpAny (model prog w) A (getAttr? (.ref a) "__class__") Q E sh := by
  have found : findObj K D oda "__class__" = some (.bind (.builtin "getset_descriptor.__get__") (.builtin "object.__class__")) :=
    findObj_data (by obtain ⟨cd, z, _⟩ := any_some T.hd; rw [z]; rfl) T.ha T.hn T.ht
  obtain ⟨hq, gq, dq, tq, oq⟩ := sh
  have ty := I.type (M := model prog w)
  have ga := looks_findIn (M := model prog w) X T.hg
  have gg := looks_findIn (M := model prog w) X T.hk
  have fo := looks_find (M := model prog w) X I found
  have isB : Looks (model prog w) hq (isInstance (.ref a) (.type "BaseException")) true := ty.andThen (looks_subIn X T.hs)
  have nob : (onTheHeap (Value.ref D) && Value.builtin "BaseException.__getattribute__" == Value.builtin "object.__getattribute__") = false := by
    rw [show (Value.builtin "BaseException.__getattribute__" == Value.builtin "object.__getattribute__") = false by decide +kernel]
    rfl
  unfold getAttr? getAttrBy? getAttrBy
  refine wpAny_bind (wpAny_mkText (wpAny_bind (wpAny_attempt (wpAny_holding (wpAny_bind (ty.at (wpAny_bind (ga.at ?_))))))))
  show wpAny _ _ (if (onTheHeap (Value.ref D) && Value.builtin "BaseException.__getattribute__" == Value.builtin "object.__getattribute__") = true then _ else _) _ _ _
  rw [nob, if_neg Bool.false_ne_true]
  unfold getAttrByItsOwn hookBefore
  refine wpAny_bind ?_
  rw [if_pos (show onTheHeap (Value.ref D) = true from rfl)]
  refine gg.at (wpAny_bind (wpAny_attempt (wpAny_holding ?_)))
  unfold callGetattribute
  rw [show (false && onTheHeap (Value.builtin "BaseException.__getattribute__")) = false from rfl, if_neg Bool.false_ne_true]
  unfold boundAndCalled
  rw [PySem.F.excAttr_ValueError.ga.bind (.ref a)]
  refine wpAny_bind (wpAny_pure ?_)
  show wpAny _ _ (call (.builtin "BaseException.__getattribute__") [.ref a, .str "__class__" tq]) _ _ _
  refine wpAny_call (codeAny_call_builtin PySem.F.excAttr_ValueError.ga.plain PySem.F.entry_bexc_ga ?_)
  refine @check_slot (model prog w) _ _ ⟨hq, gq, dq, tq + 1, oq⟩ "BaseException.__getattribute__" "BaseException" "__getattribute__" (.ref a) [.str "__class__" tq] [] _ (by decide +kernel) (by decide +kernel) isB (PySem.F.args_bexc_ga (.ref a) (.str "__class__" tq)) ?_
  unfold Builtin.«object.__getattribute__»
  refine wpAny_bind (wpAny_of_eq (a := ((Value.ref a : Value), [Value.str "__class__" tq])) (by first | rfl | (simp only [slotArgs]; rfl)) ?_)
  refine wpAny_bind (wpAny_pure (wpAny_bind (ty.at (wpAny_bind (fo.at ?_)))))
  show wpAny _ _ (holding [Value.builtin "object.__class__"] (call (.builtin "getset_descriptor.__get__") [.builtin "object.__class__", .ref a, .ref D]) >>= ret) _ _ _
  refine wpAny_bind (wpAny_holding (wpAny_call (class_get (s := ⟨hq, gq, dq, tq + 1, oq⟩) (ox := oa) (od := oda) X I T.hm ?_)))
  refine wpAny_pure ?_
  show wpAny _ _ (handedOut (.ref D)) _ _ _
  rw [handedOut_of (v := .ref D) rfl]
  first
    | exact wpAny_pure (wpAny_pure h)
    | exact wpAny_pure h
    | exact wpAny_pure (wpAny_bind (wpAny_pure (wpAny_pure h)))
theorem kitx_any (T : ExcC K D) : KitX K (.ref a) (.ref D) (fun h => ∃ oa od, InstAt h a oa D od) :=
  let Z := handS_kitx_exc (x := a) (ox := default) T.hg T.hk T.hs T.hd T.ha T.hn T.ht T.hm
  { ty := fun _ _ _ ⟨_, _, I⟩ => I.type
    it := fun M h X ⟨_, _, I⟩ => by
      obtain ⟨cd, hc, _⟩ := any_some T.hd
      unfold clsIn at hc
      split at hc
      · rename_i ho
        intro A' Q' E' s' k q
        unfold isType loadHead
        exact wpAny_bind (wpAny_loadPart (k _ _ (X _ _ ho)) (wpAny_pure q))
      · cases hc
    ne := fun h tp dd its n sl X htp => Z.ne h tp dd its n sl X htp
    ca := fun X ⟨_, _, I⟩ k => exc_class_any T X I k }
end
/-! ### isinstance of a caught exception, fields or none -/
def exSubK (n c : Str) : Option Bool := if n = "NoWay" ∨ n = "NoAsk" ∨ n = "NoGrid" ∨ n = "NoRuns" ∨ n = "NoPlace" then some (decide (c = n ∨ c = "TurnError" ∨ c = "ValueError")) else none
def XIsK (K : PySem.W.Frag) (c : Str) (cv : Value) : Prop := ∀ n b C, exSubK n c = some b → PySem.W.nsIn K mainGlobals n = some (some (.ref C)) → ExcC K C ∧ PySem.W.kitOne K (.ref C) cv = some b
def wIsK (c : Str) (wa : WE) : WE := fun ρ Q => wa ρ fun r ρ1 => match r.ot ρ1 with
  | some (.exc n _) => (match exSubK n c with | some b => Q (.fz (.bool b)) ρ1 | none => False)
  | _ => False
def rIsK (K : PySem.W.Frag) : List V → Hp → VK → Prop := fun xs H Q => ∃ (a D : Addr) (d : Option Addr) (c : V) (cv : Value) (b : Bool), xs = [.ref a, c] ∧ (∀ u, RelV c u → u = cv) ∧ H a = some (exK a (.ref D) d) ∧ (∀ dd, d = some dd → ∃ fs, H dd = some (.xd fs)) ∧ ExcC K D ∧ PySem.W.kitOne K (.ref D) cv = some b ∧ Q (.bl b) H
theorem call_isK {X : Cx} : CallR X (.builtin "isinstance") (rIsK X.K) := by
  intro pins s σ H xs us Q I r h
  obtain ⟨a, D, d, c, cv, b, rfl, hcv, ha, hd, C, e, q⟩ := h
  cases r with
  | cons rx rr =>
    cases rr with
    | cons rt rr =>
      cases rr
      cases rx
      have ec := hcv _ rt
      subst ec
      obtain ⟨oe, vs, hget, h1, h2, hv⟩ := exK_at I.hok ha
      have J : ∃ od, PySem.W.InstAt s.heap a oe D od := by
        cases d with
        | none =>
          refine ⟨none, hget, h1, ?_, ?_⟩
          · unfold PySem.W.notCls; rw [hv] <;> rfl
          · rw [h2]; exact trivial
        | some dd =>
          obtain ⟨fs, hfs⟩ := hd dd rfl
          have hx : ObjOk X.prog X.w H s.heap dd (.xd fs) := I.hok dd _ hfs
          obtain ⟨mA, hns, hr⟩ := hx
          obtain ⟨od, ho, hl⟩ := lookIn_ns hns
          exact ⟨some od, hget, h1, by unfold PySem.W.notCls; rw [hv] <;> rfl, by rw [h2]; exact ho⟩
      exact PySem.W.kia_one (kitx_any C) I.kIn ⟨_, J⟩ e (fun z => nomatch z) fun tk => ⟨.bl b, H, I.kept (t' := tk) fun _ _ z => z, rfl, q⟩
end DL

namespace DL
open PySem PySem.Spec PyProof.Rows L2
/-! ### isinstance of a caught exception, fields or none -/
section
variable {X : Cx} {e : Expr} {wa : WE} {pos p p2 : Pos} {y : Str}
theorem isK_run {K : PySem.W.Frag} {ta : TE} {cv : Value} {c : V} (hI : XIsK K y cv) (hcv : ∀ u, RelV c u → u = cv) (ra : RE K ta wa) : RE K (tCB (rIsK K) (tCons ta (tCons (tC c) tNil))) (wIsK y wa) := by
  intro σ H F ρ fr Q Q' S hw k
  refine ra σ H F ρ fr _ _ S hw fun v1 H1 F1 ρ1 r1 m1 hw o1 S1 k1 => ?_
  split at hw
  · rename_i n kp hr
    obtain ⟨m', o'⟩ := o1.own S1 hr
    split at hw
    · rename_i b hb
      obtain ⟨⟨a, C, d, rfl, h2, h3, h4⟩, _⟩ := o'
      obtain ⟨g2, g3⟩ := hI n b C hb h2
      refine ⟨a, C, d, c, cv, b, rfl, hcv, S1.ex _ _ h3, fun dd e => ?_, g2, g3, k _ H1 F1 ρ1 _ z0 hw ⟨.bl b, rfl⟩ S1.left k1⟩
      subst e
      cases kp with
      | none => cases h4
      | some z =>
        obtain ⟨dd', u, e, h5, _⟩ := h4
        cases e
        exact ⟨_, S1.ex _ _ h5⟩
    · exact hw.elim
  · exact hw.elim
theorem de_isK {C : Addr} (hg : Gl X "isinstance") (hm : X.mg "isinstance" = none) (hgT : Gl X y) (hmT : X.mg y = some (.ref C)) (hI : XIsK X.K y (.ref C)) (ha : DE X e wa)
    (hv : bootBuiltins "isinstance" = some (.builtin "isinstance") := by decide +kernel) (hdy : (y == ("__debug__" : Str)) = false := by decide)
    (h1 : starEach [e, .Name y p2] X.env = (false, eval e X.env) :: starEach [.Name y p2] X.env := by rfl) (h2 : starEach [.Name y p2] X.env = (false, eval (.Name y p2) X.env) :: starEach [] X.env := by rfl)
    (hpl : (backTo pos (starEach [.Name y p2] X.env)).any (·.1) = false := by rfl) : DE X (.Call (.Name "isinstance" p) [e, .Name y p2] [] pos) (wIsK y wa) := by
  obtain ⟨⟨ta, pa, ra⟩⟩ := ha
  exact ⟨⟨_, pe_callB call_isK hg hm hv (pa_cons pa (pa_cons (pe_glob (v := .ref C) hgT hmT rfl hdy) pa_nil h2) h1) (by decide) (by decide) h1 hpl, isK_run hI (fun u r => r) ra⟩⟩
theorem de_isKB {T : String} (hg : Gl X "isinstance") (hm : X.mg "isinstance" = none) (hgT : Gl X y) (hmT : X.mg y = none) (hT : bootBuiltins y = some (.type T)) (hI : XIsK X.K y (.type T)) (ha : DE X e wa)
    (hv : bootBuiltins "isinstance" = some (.builtin "isinstance") := by decide +kernel) (hny : y ≠ "__name__" := by decide) (hdy : (y == ("__debug__" : Str)) = false := by decide)
    (h1 : starEach [e, .Name y p2] X.env = (false, eval e X.env) :: starEach [.Name y p2] X.env := by rfl) (h2 : starEach [.Name y p2] X.env = (false, eval (.Name y p2) X.env) :: starEach [] X.env := by rfl)
    (hpl : (backTo pos (starEach [.Name y p2] X.env)).any (·.1) = false := by rfl) : DE X (.Call (.Name "isinstance" p) [e, .Name y p2] [] pos) (wIsK y wa) := by
  obtain ⟨⟨ta, pa, ra⟩⟩ := ha
  exact ⟨⟨_, pe_callB call_isK hg hm hv (pa_cons pa (pa_cons (pe_bltn (v := .ty T) hgT hmT hT rfl hny hdy) pa_nil h2) h1) (by decide) (by decide) h1 hpl, isK_run hI (fun u r => r) ra⟩⟩
end
/-! ### int(text) -/
def gIntS : GN
  | [.str a], G => ∃ n, PySem.intText? a = some n ∧ a.length ≤ 640 ∧ G (.int n)
  | [.bool k], G => G (.int (if k then 1 else 0))
  | [.int i], G => G (.int i)
  | _, _ => False
theorem o_intS {K : PySem.W.Frag} : OpN K (fun xs H Q => (∃ a n, xs = [V.str a] ∧ PySem.intText? a = some n ∧ a.length ≤ 640 ∧ Q (.int n) H)) (fun ds G => ∃ a, ds = [.str a] ∧ gIntS ds G) := by
  intro xs ds H G Q hx hg k
  obtain ⟨a, rfl, n, h1, h2, h3⟩ := hg
  cases hx with
  | cons h t =>
    cases t
    cases h
    exact ⟨a, n, rfl, h1, h2, k _ _ (.int _) h3⟩
/-! ### one sign in a text -/
def gInSg : G2
  | .str x, .str z, G => (∃ c, x = ⟨#[c]⟩ ∧ G (.bool (decide (c ∈ z.cps.toList))))
  | _, _, _ => False
def gNotInSg : G2
  | .str x, .str z, G => (∃ c, x = ⟨#[c]⟩ ∧ G (.bool (!decide (c ∈ z.cps.toList))))
  | _, _, _ => False
section
variable {K : PySem.W.Frag}
theorem o_inSg : Op2 K (fun x y H Q => ∃ (c : Nat) (z : Str), x = V.str ⟨#[c]⟩ ∧ y = V.str z ∧ Q (.bl (decide (c ∈ z.cps.toList))) H) gInSg := by
  intro x y d e H G Q hx hy hg k
  unfold gInSg at hg
  split at hg
  · obtain ⟨c, rfl, h⟩ := hg
    cases hx
    cases hy
    exact ⟨c, _, rfl, rfl, k _ _ (.bl _) h⟩
  · exact hg.elim
end
/-! ### x.isascii(), x.isdigit() -/
def wM0 (g : Str → PyData) (wo : WE) : WE := fun ρ Q => wo ρ fun r1 ρ1 => match r1.dat ρ1 with
  | some (.str a) => Q (.fz (g a)) ρ1
  | _ => False
/-! ### raise n(text), n a class without its own __init__ -/
section
variable {X : Cx} {C : Addr} {bmB : List Value} {B newId initId : String}
theorem pmk_ownT {x : Str} {e : Expr} {te : TE} {p pos : Pos} (F : ExcBaseFacts B newId initId bmB) (q : PySem.W.excIn X.K C bmB newId = true) (gC : X.mg x = some (.ref C)) (kC : PySem.W.keepIn X.K (.ref C) = true) (r : Raises X (.ref C)) (hg : Gl X x) (he : PE X e te)
    (hdb : (x == ("__debug__" : Str)) = false := by decide) (hs : starEach (e :: []) X.env = (false, eval e X.env) :: starEach [] X.env := by rfl) (hpl : (backTo pos (starEach [] X.env)).any (·.1) = false := by rfl) :
    PMk X (.Call (.Name x p) [e] [] pos) (fun σ H Q => te σ H fun v H1 => [v].length = 1 ∧ Q (.ref C) none H1) := by
  intro pins s σ H Q I h
  refine wpAny_Call_Name_kw (ld_glob I hg gC ?_ hdb)
  refine PySem.W.callWith_K (h₀ := X.base) I.ok.mod.kin kC (thn ((pa_cons he pa_nil hs).run pos pins s σ H (fun vs H1 => vs.length = 1 ∧ Q (.ref C) none H1) I ?_) fun us s1 ⟨vs, H1, I1, r1, ev, q1⟩ => ⟨I1.kIn, ?_⟩) hs hpl
  · exact h
  · have hl : us.length = 1 := by rw [← r1.length]; exact ev
    match us, hl with
    | [u], _ =>
      show wpAny _ _ (call (.ref C) [u]) _ _ _
      obtain ⟨bm, N, nm, qn, bs, hdct, sn, sub, ab, col, dd, k0, k1, k2, k3, k5, mN, hC, hN, hni, T⟩ := exc_obj I1.kIn q
      refine wpAny_call_exc_subT F T hC hN hni (fun h' ea hm => ?_) (by show 1 ≤ sizeLine; rw [sizeLine_eq]; omega)
      exact mk_of I1 hm r q1 (I1.hok.gone hm.new)
end
def wRaiseT (n : Str) (wa : WE) : WS := fun d ρ => wa ρ fun _ ρ1 => d.ex n none ρ1
section
variable {X : Cx} {W : WX} {n : Str} {e : Expr} {wa : WE} {p pos cpos : Pos}
theorem dsx_raiseT (hc : X.calm = true) (tk : Takes X W) (T : XPlain X.K X.mg n) (hg : Gl X n) (ha : DE X e wa) (hdb : (n == ("__debug__" : Str)) = false := by decide)
    (hs : starEach (e :: []) X.env = (false, eval e X.env) :: starEach [] X.env := by rfl) (hpl : (backTo cpos (starEach [] X.env)).any (·.1) = false := by rfl) :
    DSX X W (.Raise (some (.Call (.Name n p) [e] [] cpos)) none pos) (wRaiseT n wa) := by
  obtain ⟨C, h1, h2, h3, h4, h5, h6⟩ := T.ex
  obtain ⟨⟨t, pe, r⟩⟩ := ha
  refine ⟨⟨_, ps_raise hc tk (pmk_ownT PySem.F.excBase_ValueError h3 h1 h4 (raises_own h5 h6) hg pe hdb hs hpl), fun σ H F ρ fr d en S E Ex h => ?_⟩⟩
  refine r σ H F ρ fr _ _ S h fun v H1 F1 ρ1 r1 m hw oo cc k1 => ⟨rfl, ?_⟩
  exact Ex.ex n none σ H1 F1 ρ1 (.ref C) none hw ⟨C, rfl, h2, rfl⟩ cc.left k1
end
/-! ### methods of a text without arguments -/
section
variable {X : Cx} {o : Expr} {wo : WE} {apos cpos : Pos}
theorem m0_run {K : PySem.W.Frag} {T : String} {to : TE} {g : Str → V} {g' : Str → PyData} (hT : T = "str") (hs : ∀ a, Sc (g a) (g' a)) (ro : RE K to wo) : RE K (tBM0 K T (fun x xs H Q => ∃ a, x = .str a ∧ xs = [] ∧ True ∧ Q (g a) H) to) (wM0 g' wo) := by
  intro σ H F ρ fr Q Q' S hw k
  refine ro σ H F ρ fr _ _ S hw fun v1 H1 F1 ρ1 r1 m1 hw o1 S1 k1 => ?_
  split at hw
  · rename_i a hd
    have d := o1.dp S1 hd
    cases d
    exact ⟨by rw [hT]; rfl, a, rfl, rfl, trivial, k _ H1 F1 ρ1 (.fz (g' a)) z0 hw ⟨(hs a).dp, rfl⟩ S1.left k1⟩
  · exact hw.elim
theorem de_m_isascii (ho : DE X o wo) (hbase : attributeBase o "isascii" X.env (eval o X.env) = eval o X.env := by rfl) (hline : (apos.endLine == cpos.line) = true := by rfl) : DE X (.Call (.Attribute o "isascii" apos) [] [] cpos) (wM0 (fun a => .bool (Txt.isascii a)) wo) := by
  obtain ⟨⟨t, p, r⟩⟩ := ho
  exact ⟨⟨_, pe_bm0 PySem.F.plainAttrs_str PySem.F.slot_str_isascii PySem.F.type_str_isascii mt_isascii p hbase hline, m0_run rfl (fun a => .bl _) r⟩⟩
theorem de_m_isdigit (ho : DE X o wo) (hbase : attributeBase o "isdigit" X.env (eval o X.env) = eval o X.env := by rfl) (hline : (apos.endLine == cpos.line) = true := by rfl) : DE X (.Call (.Attribute o "isdigit" apos) [] [] cpos) (wM0 (fun a => .bool (Txt.isdigit a)) wo) := by
  obtain ⟨⟨t, p, r⟩⟩ := ho
  exact ⟨⟨_, pe_bm0 PySem.F.plainAttrs_str PySem.F.slot_str_isdigit PySem.F.type_str_isdigit mt_isdigit p hbase hline, m0_run rfl (fun a => .bl _) r⟩⟩
end
/-! ### key in a dict of the module -/
theorem gd_none {K : PySem.W.Frag} {w : World} {d : Addr} {es : Array DictEntry} {n : Nat} {tab : List (Str × PyData)} {z : Str} (D : KDict K w d es n) (hsz : es.size = tab.length) (hk : ∀ (i : Nat) z dat, tab[i]? = some (z, dat) → ∃ en t, es[i]? = some en ∧ en.key = .str z t) (hz : tab.lookup z = none) :
    PySem.W.nsIn K d z = some none := by
  have keys : ∀ en ∈ es.toList, ∃ y t, en.key = .str y t ∧ y ≠ z := by
    intro en hen
    obtain ⟨i, hi, rfl⟩ := List.mem_iff_getElem.mp hen
    have hi' : i < tab.length := by rw [← hsz]; simpa using hi
    obtain ⟨en', t, h1, h2⟩ := hk i tab[i].1 tab[i].2 (List.getElem?_eq_getElem hi')
    have e : en' = es.toList[i] := by
      have : es[i]? = some es.toList[i] := by simp at hi; simp [hi]
      rw [this] at h1
      exact (Option.some.inj h1).symm
    subst e
    refine ⟨_, t, h2, fun q => ?_⟩
    have hm : tab[i] ∈ tab := List.getElem_mem hi'
    have := List.lookup_eq_none_iff.mp hz tab[i] hm
    simp [q] at this
  have f1 : es.toList.find? (·.key.isStr z) = none := by
    refine List.find?_eq_none.mpr fun en hen => ?_
    obtain ⟨y, t, h1, h2⟩ := keys en hen
    rw [h1]
    simp only [Value.isStr, beq_iff_eq]
    exact h2
  have f2 : es.toList.any (·.refKey) = false := by
    refine List.any_eq_false.mpr fun en hen => ?_
    obtain ⟨y, t, h1, h2⟩ := keys en hen
    simp [DictEntry.refKey, h1]
  unfold PySem.W.nsIn
  rw [D.at_]
  simp only [f1, f2]
  rfl
section
variable {X : Cx} {e : Expr} {wa : WE} {pos p : Pos} {x : Str} {tab : List (Str × PyData)}
theorem de_gdIn (hg : Gl X x) (G : GDict X.K X.w X.mg x tab) (ha : DE X e wa) (hm : behindInMarks .In (.Name x p) = false := by rfl) (hdb : (x == ("__debug__" : Str)) = false := by decide) : DE X (.Compare e [.In] [.Name x p] pos) (wGdIn (fun b => b) tab wa) := by
  obtain ⟨d, es, n, hmg, D, hsz, hk, hv⟩ := G.at_
  obtain ⟨⟨t, pe, r⟩⟩ := ha
  refine ⟨⟨_, pe_cmpR (op_in_kd D) pe (pe_glob hg hmg (show RelV (.ref d) (.ref d) from rfl) hdb) hm, fun σ H F ρ fr Q Q' S hw k => ?_⟩⟩
  refine r σ H F ρ fr _ _ S hw fun v2 H2 F2 ρ2 r2 m2 hw o2 S2 k2 => ?_
  split at hw
  · rename_i z e2
    have d2 := o2.dp S2 e2
    cases d2
    cases e : tab.lookup z with
    | none =>
      rw [e] at hw
      exact ⟨z, none, rfl, rfl, gd_none D hsz hk e, k _ H2 F2 ρ2 (.fz (.bool false)) z0 hw ⟨.bl _, rfl⟩ S2.left k2⟩
    | some dat =>
      rw [e] at hw
      obtain ⟨u, v, h1, _, _⟩ := hv z dat e
      exact ⟨z, some u, rfl, rfl, h1, k _ H2 F2 ρ2 (.fz (.bool true)) z0 hw ⟨.bl _, rfl⟩ S2.left k2⟩
  · exact hw.elim
end
end DL

namespace DL
open PySem PySem.Spec PyProof.Rows L2
/-! ### {p}, p a pair of whole numbers -/
def wFmtP (wa : WE) : WE := fun ρ Q => wa ρ fun r ρ1 => match r.dat ρ1 with
  | some (.tuple [.int i, .int j]) => (i.natAbs < 10 ^ 18 ∧ j.natAbs < 10 ^ 18) ∧ ∀ m : Str, m.length ≤ 100 → Q (.fz (.str m)) ρ1
  | _ => False
def tFmtP (K : PySem.W.Frag) (te : TE) : TE := fun σ H Q => te σ H fun x H1 => ∃ (a : Addr) (i j : Int), x = .ref a ∧ SqT K H1 a [V.int i, V.int j] ∧ (i.natAbs < 10 ^ 18 ∧ j.natAbs < 10 ^ 18) ∧ ∀ m : Str, m.length ≤ 100 → Q (.str m) H1
section
variable {X : Cx} {e : Expr} {te : TE} {wa : WE} {pos : Pos} {k : Nat}
theorem int_short {i : Int} (h : i.natAbs < 10 ^ 18) : (Str.ofString (toString i)).length ≤ 20 := by
  have e := int_text_length_le10 (k := 18) (by decide) h
  rw [PySem.ofString_length]
  omega
theorem pe_fmtP (hr : Room k X.A) (he : PE X e te) : PE X (.FormattedValue e (-1) none pos) (tFmtP X.K te) := by
  refine ⟨fun pins s σ H Q I h => ?_⟩
  refine wpAny_FormattedValue_plain (thn (he.run pins s σ H _ I h) fun v s1 hv => ?_)
  obtain ⟨x, H1, I1, r1, a, i, j, rfl, ht, ⟨hi, hj⟩, q⟩ := hv
  cases r1
  obtain ⟨its, rv, ⟨o, ho, hcl, n, hd⟩, _⟩ := I1.tuple ht
  have hu := hr.units
  have h64 : ∀ {z : Int}, z.natAbs < 10 ^ 18 → z.natAbs.log2 < 1920 := fun {z} hz => by
    have h2 : z.natAbs < 2 ^ 64 := by omega
    by_cases h0 : z.natAbs = 0
    · rw [h0]; decide
    · have := (Nat.log2_lt h0).mpr h2
      omega
  have hlen : (tupleText [Str.ofString (toString i), Str.ofString (toString j)]).length ≤ 50 := by
    have h1 := fmt_text [Str.ofString (toString i), Str.ofString (toString j)]
    have h2 := int_short hi
    have h3 := int_short hj
    unfold piled at h1
    simp only [List.map_cons, List.map_nil, List.sum_cons, List.sum_nil] at h1
    omega
  cases rv with
  | cons r1 rv =>
    cases rv with
    | cons r2 rv =>
      cases rv
      obtain ⟨t1, rfl⟩ := r1
      obtain ⟨t2, rfl⟩ := r2
      refine fmt_tuple (ts := [Str.ofString (toString i), Str.ofString (toString j)]) (by omega) ho hcl hd (.cons (ReprIs.int t1 (h64 hi)) (.cons (ReprIs.int t2 (h64 hj)) .nil)) (by rw [sizeLine_eq]; omega) fun m u tk hm => ⟨.str m, H1, I1.tok _, ⟨u, rfl⟩, q m (by omega)⟩
theorem de_fmtP (hr : Room k X.A) (he : DE X e wa) : DE X (.FormattedValue e (-1) none pos) (wFmtP wa) := by
  obtain ⟨⟨t, p, r⟩⟩ := he
  refine ⟨⟨_, pe_fmtP hr p, fun σ H F ρ fr Q Q' S hw k => ?_⟩⟩
  refine r σ H F ρ fr _ _ S hw fun v1 H1 F1 ρ1 r1 m1 hw o1 S1 k1 => ?_
  split at hw
  · rename_i i j hd
    have d1 := o1.dp S1 hd
    cases d1 with
    | tup hs ha =>
      cases ha with
      | cons a1 ha =>
        cases ha with
        | cons a2 ha =>
          cases ha
          cases a1
          cases a2
          exact ⟨_, i, j, rfl, hs, hw.1, fun m hm => k _ H1 F1 ρ1 _ z0 (hw.2 m hm) ⟨.str _, rfl⟩ S1.left k1⟩
  · exact hw.elim
end
/-! ### own classes that keep a small number -/
def okN (y : PyData) : Prop := ∃ n : Nat, y = .int (n : Int) ∧ n ≤ 100000
def phN (v : V) (_ : Hp) : Prop := ∃ n : Nat, v = .int (n : Int) ∧ n ≤ 100000
theorem keptN {K : PySem.W.Frag} : KeptOk K okN phN := by
  rintro F H v y _ dp ⟨n, rfl, hn⟩
  cases dp
  exact ⟨n, rfl, hn⟩
/-- f'a {x} b' -/
theorem he_three {X : Cx} {p1 m1 m2 : Str} {j1 j2 : Nat} {q1 q2 q3 q4 q5 : Pos} (hN : X.N[1]? = some p1) (hv : Vis X.env.scope p1) (hd : (p1 == ("__debug__" : Str)) = false) (hc : (p1 == ("__classdict__" : Str)) = false) (h1 : m1.length ≤ 1000) (h2 : m2.length ≤ 1000) :
    ∃ te, PE X (.JoinedStr [.Constant (.str m1) j1 q1, .FormattedValue (.Name p1 q2) (-1) none q3, .Constant (.str m2) j2 q4] q5) te ∧ ∀ σ H Q x, σ[1]? = some (some x) → phN x H → (∀ z, Q (.str z) H) → te σ H Q := by
  refine ⟨_, pe_joined (.cons pe_str (.cons (pe_fmt (pe_var hN hv hd hc)) (.cons pe_str .nil))), fun σ H Q x hx hp hq => ?_⟩
  obtain ⟨n, rfl, hn⟩ := hp
  have hl : (Str.ofString (toString (n : Int))).length ≤ 20 := int_short (by simp only [Int.natAbs_natCast]; omega)
  have hg : (n : Int).natAbs.log2 < 1920 := by
    simp only [Int.natAbs_natCast]
    by_cases h0 : n = 0
    · rw [h0]; decide
    · have := (Nat.log2_lt h0).mpr (show n < 2 ^ 64 by omega)
      omega
  have hz : sizeLine = 16777216 := sizeLine_eq
  refine ⟨m1, rfl, ?_, _, hx, .inr ⟨_, rfl, hg, _, rfl, ?_, m2, rfl, ?_, hq _⟩⟩
  all_goals simp only [strLen_append, show Str.empty.length = 0 from rfl]
  all_goals omega
/-- raise n(x) of a class whose __init__ keeps x as f -/
structure RaisesK (P : Program) (w : World) (K : PySem.W.Frag) (mg : Str → Option Value) (n f : Str) (ok : PyData → Prop) : Prop where
  ex : ∃ (C fI : Addr) (fd : FuncData) (ps : List Str) (φ : V → Hp → Prop), OexC K C ∧ PySem.W.nsIn K mainGlobals n = some (some (.ref C)) ∧ PySem.W.findIn K (.ref C) "__init__" = some (some (.ref fI)) ∧ PySem.W.typeIn K (.ref fI) = some (.type "function") ∧ mg n = some (.ref C) ∧
    Binds K fd ps [] ∧ KeptOk K ok φ ∧ ∀ base, FnOk P w K mg base CX0 2 fI fd ps (spIni C f φ)
theorem dsx_raiseR {X : Cx} {W : WX} {n f : Str} {ok : PyData → Prop} {e : Expr} {wa : WE} {p pos cpos : Pos} (hc : X.calm = true) (tk : Takes X W) (R : RaisesK X.prog X.w X.K X.mg n f ok) (hr : Room 3 X.A) (hg : Gl X n) (ha : DE X e wa)
    (hdb : (n == ("__debug__" : Str)) = false := by decide) (he : starEach (e :: []) X.env = (false, eval e X.env) :: starEach [] X.env := by rfl) (hpl : (backTo cpos (starEach [] X.env)).any (·.1) = false := by rfl) :
    DSX X W (.Raise (some (.Call (.Name n p) [e] [] cpos)) none pos) (wRaiseK n f ok wa) := by
  obtain ⟨C, fI, fd, ps, φ, h1, h2, h3, h4, h5, h6, h7, h8⟩ := R.ex
  exact dsx_raiseK hc tk h1 h2 h3 h4 (h8 X.base) hr h6 (fun _ _ _ _ _ _ _ z => z.elim) hg h5 h7 ha hdb he hpl
/-- its making, from the facts of the written part -/
theorem raisesN {P : Program} {w : World} {K : PySem.W.Frag} {mg : Str → Option Value} {n f m1 m2 : Str} {C fI cc cda : Addr} {body : List Stmt} {fd : FuncData} {j1 j2 : Nat} {q0 q1 q2 q3 q4 q5 q6 q7 q8 a1 a2 a3 a4 a5 : Pos} (F : SupFn P K mg C fI cc cda "self" f body fd) (hfb : fd.body = .stmts body) (T : OexC K C)
    (hn : PySem.W.nsIn K mainGlobals n = some (some (.ref C))) (hm : mg n = some (.ref C)) (iC : PySem.W.findIn K (.ref C) "__init__" = some (some (.ref fI))) (tI : PySem.W.typeIn K (.ref fI) = some (.type "function")) (hno : PySem.W.findIn K (.ref C) f = some none) (hb : Binds K fd ["self", f] [])
    (hbody : body = [.Expr (.Call (.Attribute (.Call (.Name "super" q0) [] [] q1) "__init__" q2) [.JoinedStr [.Constant (.str m1) j1 a1, .FormattedValue (.Name f a2) (-1) none a3, .Constant (.str m2) j2 a4] a5] [] q3) q4, .Assign [.Attribute (.Name "self" q5) f q6] (.Name f q7) q8])
    (h1 : m1.length ≤ 1000) (h2 : m2.length ≤ 1000)
    {pl : Env → Sem Bool} (hev : ∀ env, eval (.Call (.Attribute (.Call (.Name "super" q0) [] [] q1) "__init__" q2) [.JoinedStr [.Constant (.str m1) j1 a1, .FormattedValue (.Name f a2) (-1) none a3, .Constant (.str m2) j2 a4] a5] [] q3) env = (do
      let ov ← attributeBase (.Call (.Name "super" q0) [] [] q1) "__init__" env (eval (.Call (.Name "super" q0) [] [] q1) env)
      standAt q2.atName
      let (g, first) ← holding [ov] (getMethod ov "__init__" (pl env))
      callWith q3 g first (backTo q3 (starEach [.JoinedStr [.Constant (.str m1) j1 a1, .FormattedValue (.Name f a2) (-1) none a3, .Constant (.str m2) j2 a4] a5] env)) []) := by intro env; rfl)
    (hsw : ∀ env, swapsWith (.Call (.Attribute (.Call (.Name "super" q0) [] [] q1) "__init__" q2) [.JoinedStr [.Constant (.str m1) j1 a1, .FormattedValue (.Name f a2) (-1) none a3, .Constant (.str m2) j2 a4] a5] [] q3) none q4.line env = pure false := by intro env; rfl)
    (hse : ∀ env, starEach [.JoinedStr [.Constant (.str m1) j1 a1, .FormattedValue (.Name f a2) (-1) none a3, .Constant (.str m2) j2 a4] a5] env = (false, eval (.JoinedStr [.Constant (.str m1) j1 a1, .FormattedValue (.Name f a2) (-1) none a3, .Constant (.str m2) j2 a4] a5) env) :: starEach [] env := by intro env; rfl) :
    RaisesK P w K mg n f okN :=
  ⟨⟨C, fI, fd, ["self", f], phN, T, hn, iC, tI, hm, hb, keptN, fun base => (sup_ok (k := 0) F hfb T hno hbody hev hsw hse fun A outer s H _ => he_three rfl (.inl F.l1) F.d1 F.c1 h1 h2).mono (by decide)⟩⟩
/-! ### own classes that keep a pair -/
def okP (y : PyData) : Prop := ∃ i j : Int, y = .tuple [.int i, .int j] ∧ i.natAbs < 10 ^ 18 ∧ j.natAbs < 10 ^ 18
def phP (K : PySem.W.Frag) (v : V) (H : Hp) : Prop := ∃ (a : Addr) (i j : Int), v = .ref a ∧ SqT K H a [V.int i, V.int j] ∧ i.natAbs < 10 ^ 18 ∧ j.natAbs < 10 ^ 18
theorem keptP {K : PySem.W.Frag} : KeptOk K okP (phP K) := by
  rintro F H v y sm dp ⟨i, j, rfl, hi, hj⟩
  cases dp with
  | tup hs ha =>
    cases ha with
    | cons a1 ha =>
      cases ha with
      | cons a2 ha =>
        cases ha
        cases a1
        cases a2
        exact ⟨_, i, j, rfl, same_t sm hs, hi, hj⟩
/-- f'{p} b' -/
theorem he_pair {X : Cx} {k : Nat} {p1 m2 : Str} {j2 : Nat} {q2 q3 q4 q5 : Pos} (hr : Room k X.A) (hN : X.N[1]? = some p1) (hv : Vis X.env.scope p1) (hd : (p1 == ("__debug__" : Str)) = false) (hc : (p1 == ("__classdict__" : Str)) = false) (h2 : m2.length ≤ 1000) :
    ∃ te, PE X (.JoinedStr [.FormattedValue (.Name p1 q2) (-1) none q3, .Constant (.str m2) j2 q4] q5) te ∧ ∀ σ H Q x, σ[1]? = some (some x) → phP X.K x H → (∀ z, Q (.str z) H) → te σ H Q := by
  refine ⟨_, pe_joined (.cons (pe_fmtP hr (pe_var hN hv hd hc)) (.cons pe_str .nil)), fun σ H Q x hx hp hq => ?_⟩
  obtain ⟨a, i, j, rfl, hs, hi, hj⟩ := hp
  have hz : sizeLine = 16777216 := sizeLine_eq
  refine ⟨_, hx, a, i, j, rfl, hs, ⟨hi, hj⟩, fun m hm => ⟨m, rfl, ?_, m2, rfl, ?_, hq _⟩⟩
  all_goals simp only [strLen_append, show Str.empty.length = 0 from rfl]
  all_goals omega
theorem raisesP {P : Program} {w : World} {K : PySem.W.Frag} {mg : Str → Option Value} {n f m2 : Str} {C fI cc cda : Addr} {body : List Stmt} {fd : FuncData} {j2 : Nat} {q0 q1 q2 q3 q4 q5 q6 q7 q8 a2 a3 a4 a5 : Pos} (F : SupFn P K mg C fI cc cda "self" f body fd) (hfb : fd.body = .stmts body) (T : OexC K C)
    (hn : PySem.W.nsIn K mainGlobals n = some (some (.ref C))) (hm : mg n = some (.ref C)) (iC : PySem.W.findIn K (.ref C) "__init__" = some (some (.ref fI))) (tI : PySem.W.typeIn K (.ref fI) = some (.type "function")) (hno : PySem.W.findIn K (.ref C) f = some none) (hb : Binds K fd ["self", f] [])
    (hbody : body = [.Expr (.Call (.Attribute (.Call (.Name "super" q0) [] [] q1) "__init__" q2) [.JoinedStr [.FormattedValue (.Name f a2) (-1) none a3, .Constant (.str m2) j2 a4] a5] [] q3) q4, .Assign [.Attribute (.Name "self" q5) f q6] (.Name f q7) q8])
    (h2 : m2.length ≤ 1000)
    {pl : Env → Sem Bool} (hev : ∀ env, eval (.Call (.Attribute (.Call (.Name "super" q0) [] [] q1) "__init__" q2) [.JoinedStr [.FormattedValue (.Name f a2) (-1) none a3, .Constant (.str m2) j2 a4] a5] [] q3) env = (do
      let ov ← attributeBase (.Call (.Name "super" q0) [] [] q1) "__init__" env (eval (.Call (.Name "super" q0) [] [] q1) env)
      standAt q2.atName
      let (g, first) ← holding [ov] (getMethod ov "__init__" (pl env))
      callWith q3 g first (backTo q3 (starEach [.JoinedStr [.FormattedValue (.Name f a2) (-1) none a3, .Constant (.str m2) j2 a4] a5] env)) []) := by intro env; rfl)
    (hsw : ∀ env, swapsWith (.Call (.Attribute (.Call (.Name "super" q0) [] [] q1) "__init__" q2) [.JoinedStr [.FormattedValue (.Name f a2) (-1) none a3, .Constant (.str m2) j2 a4] a5] [] q3) none q4.line env = pure false := by intro env; rfl)
    (hse : ∀ env, starEach [.JoinedStr [.FormattedValue (.Name f a2) (-1) none a3, .Constant (.str m2) j2 a4] a5] env = (false, eval (.JoinedStr [.FormattedValue (.Name f a2) (-1) none a3, .Constant (.str m2) j2 a4] a5) env) :: starEach [] env := by intro env; rfl) :
    RaisesK P w K mg n f okP :=
  ⟨⟨C, fI, fd, ["self", f], phP K, T, hn, iC, tI, hm, hb, keptP, fun base => sup_ok (k := 1) F hfb T hno hbody hev hsw hse fun A outer s H hr => he_pair (hr.deeper _) rfl (.inl F.l1) F.d1 F.c1 h2⟩⟩
/-! ### int(text), as a whole number's text -/
def gInt2 : GN
  | [.str a], G => ∃ n, PySem.intText? a = some n ∧ a.length ≤ 640 ∧ G (.int n)
  | _, _ => False
theorem o_int2 {K : PySem.W.Frag} : OpN K (fun xs H Q => ∃ a n, xs = [V.str a] ∧ PySem.intText? a = some n ∧ a.length ≤ 640 ∧ Q (.int n) H) gInt2 := by
  intro xs ds H G Q hx hg k
  unfold gInt2 at hg
  split at hg
  · obtain ⟨n, h1, h2, h3⟩ := hg
    cases hx with
    | cons h t =>
      cases t
      cases h
      exact ⟨_, n, rfl, h1, h2, k _ _ (.int _) h3⟩
  · exact hg.elim
theorem o_notInSg {K : PySem.W.Frag} : Op2 K (fun x y H Q => ∃ (c : Nat) (z : Str), x = V.str ⟨#[c]⟩ ∧ y = V.str z ∧ Q (.bl (!decide (c ∈ z.cps.toList))) H) gNotInSg := by
  intro x y d e H G Q hx hy hg k
  unfold gNotInSg at hg
  split at hg
  · obtain ⟨c, rfl, h⟩ := hg
    cases hx
    cases hy
    exact ⟨c, _, rfl, rfl, k _ _ (.bl _) h⟩
  · exact hg.elim
/-! ### which classes a clause takes -/
def catL (ns : List Str) (nm : Str) : Bool := decide (nm ∈ ns)
theorem cat_nil {K : PySem.W.Frag} {c : Value} : ∀ nm C, catL [] nm = true → PySem.W.nsIn K mainGlobals nm = some (some (.ref C)) → PySem.W.exmOne K (.ref C) c = some true := fun nm C h => by
  have : nm ∈ ([] : List Str) := of_decide_eq_true h
  cases this
theorem cat_cons {K : PySem.W.Frag} {c : Value} {n : Str} {ns : List Str} {D : Addr} (hn : PySem.W.nsIn K mainGlobals n = some (some (.ref D))) (hD : PySem.W.exmOne K (.ref D) c = some true) (r : ∀ nm C, catL ns nm = true → PySem.W.nsIn K mainGlobals nm = some (some (.ref C)) → PySem.W.exmOne K (.ref C) c = some true) :
    ∀ nm C, catL (n :: ns) nm = true → PySem.W.nsIn K mainGlobals nm = some (some (.ref C)) → PySem.W.exmOne K (.ref C) c = some true := fun nm C h e => by
  have h : nm ∈ n :: ns := of_decide_eq_true h
  rcases List.mem_cons.mp h with rfl | h
  · rw [hn] at e
    cases e
    exact hD
  · exact r nm C (decide_eq_true h) e
end DL

namespace DL
open PySem PySem.Spec PyProof.Rows L2
/-! ### isinstance of a caught exception: which classes it may have is said -/
def subB (n c : Str) : Bool := decide (c = n ∨ c = "TurnError" ∨ c = "ValueError")
def XIsL (K : PySem.W.Frag) (ns : List Str) (c : Str) (cv : Value) : Prop := ∀ n ∈ ns, ∀ C, PySem.W.nsIn K mainGlobals n = some (some (.ref C)) → ExcC K C ∧ PySem.W.kitOne K (.ref C) cv = some (subB n c)
theorem xisl_nil {K : PySem.W.Frag} {c : Str} {cv : Value} : XIsL K [] c cv := fun n h => by cases h
theorem xisl_cons {K : PySem.W.Frag} {c n : Str} {ns : List Str} {cv : Value} {D : Addr} (q : PySem.W.nsIn K mainGlobals n = some (some (.ref D))) (E : ExcC K D) (h : PySem.W.kitOne K (.ref D) cv = some (subB n c)) (r : XIsL K ns c cv) : XIsL K (n :: ns) c cv := by
  intro m hm C e
  rcases List.mem_cons.mp hm with rfl | hm
  · rw [q] at e
    cases e
    exact ⟨E, h⟩
  · exact r m hm C e
theorem xfin_nil {K : PySem.W.Frag} {f : Str} : XfIn K [] f := fun n h => by cases h
theorem xfin_cons {K : PySem.W.Frag} {f n : Str} {ns : List Str} {D : Addr} (q : PySem.W.nsIn K mainGlobals n = some (some (.ref D))) (E : XfC K D) (h : PySem.W.findIn K (.ref D) f = some none) (r : XfIn K ns f) : XfIn K (n :: ns) f := by
  intro m hm
  rcases List.mem_cons.mp hm with rfl | hm
  · exact ⟨D, q, E, h⟩
  · exact r m hm
def wIsL (ns : List Str) (c : Str) (wa : WE) : WE := fun ρ Q => wa ρ fun r ρ1 => match r.ot ρ1 with
  | some (.exc n _) => n ∈ ns ∧ Q (.fz (.bool (subB n c))) ρ1
  | _ => False
section
variable {X : Cx} {e : Expr} {wa : WE} {pos p p2 : Pos} {y : Str} {ns : List Str}
theorem isL_run {K : PySem.W.Frag} {ta : TE} {cv : Value} {c : V} (hI : XIsL K ns y cv) (hcv : ∀ u, RelV c u → u = cv) (ra : RE K ta wa) : RE K (tCB (rIsK K) (tCons ta (tCons (tC c) tNil))) (wIsL ns y wa) := by
  intro σ H F ρ fr Q Q' S hw k
  refine ra σ H F ρ fr _ _ S hw fun v1 H1 F1 ρ1 r1 m1 hw o1 S1 k1 => ?_
  split at hw
  · rename_i n kp hr
    obtain ⟨m', o'⟩ := o1.own S1 hr
    obtain ⟨hb, hw⟩ := hw
    obtain ⟨⟨a, C, d, rfl, h2, h3, h4⟩, _⟩ := o'
    obtain ⟨g2, g3⟩ := hI n hb C h2
    refine ⟨a, C, d, c, cv, _, rfl, hcv, S1.ex _ _ h3, fun dd e => ?_, g2, g3, k _ H1 F1 ρ1 _ z0 hw ⟨.bl _, rfl⟩ S1.left k1⟩
    subst e
    cases kp with
    | none => cases h4
    | some z =>
      obtain ⟨dd', u, e, h5, _⟩ := h4
      cases e
      exact ⟨_, S1.ex _ _ h5⟩
  · exact hw.elim
theorem de_isL {C : Addr} (hg : Gl X "isinstance") (hm : X.mg "isinstance" = none) (hgT : Gl X y) (hmT : X.mg y = some (.ref C)) (hI : XIsL X.K ns y (.ref C)) (ha : DE X e wa)
    (hv : bootBuiltins "isinstance" = some (.builtin "isinstance") := by decide +kernel) (hdy : (y == ("__debug__" : Str)) = false := by decide)
    (h1 : starEach [e, .Name y p2] X.env = (false, eval e X.env) :: starEach [.Name y p2] X.env := by rfl) (h2 : starEach [.Name y p2] X.env = (false, eval (.Name y p2) X.env) :: starEach [] X.env := by rfl)
    (hpl : (backTo pos (starEach [.Name y p2] X.env)).any (·.1) = false := by rfl) : DE X (.Call (.Name "isinstance" p) [e, .Name y p2] [] pos) (wIsL ns y wa) := by
  obtain ⟨⟨ta, pa, ra⟩⟩ := ha
  exact ⟨⟨_, pe_callB call_isK hg hm hv (pa_cons pa (pa_cons (pe_glob (v := .ref C) hgT hmT rfl hdy) pa_nil h2) h1) (by decide) (by decide) h1 hpl, isL_run hI (fun u r => r) ra⟩⟩
theorem de_isLB {T : String} (hg : Gl X "isinstance") (hm : X.mg "isinstance" = none) (hgT : Gl X y) (hmT : X.mg y = none) (hT : bootBuiltins y = some (.type T)) (hI : XIsL X.K ns y (.type T)) (ha : DE X e wa)
    (hv : bootBuiltins "isinstance" = some (.builtin "isinstance") := by decide +kernel) (hny : y ≠ "__name__" := by decide) (hdy : (y == ("__debug__" : Str)) = false := by decide)
    (h1 : starEach [e, .Name y p2] X.env = (false, eval e X.env) :: starEach [.Name y p2] X.env := by rfl) (h2 : starEach [.Name y p2] X.env = (false, eval (.Name y p2) X.env) :: starEach [] X.env := by rfl)
    (hpl : (backTo pos (starEach [.Name y p2] X.env)).any (·.1) = false := by rfl) : DE X (.Call (.Name "isinstance" p) [e, .Name y p2] [] pos) (wIsL ns y wa) := by
  obtain ⟨⟨ta, pa, ra⟩⟩ := ha
  exact ⟨⟨_, pe_callB call_isK hg hm hv (pa_cons pa (pa_cons (pe_bltn (v := .ty T) hgT hmT hT rfl hny hdy) pa_nil h2) h1) (by decide) (by decide) h1 hpl, isL_run hI (fun u r => r) ra⟩⟩
end
/-! ### dicts: what is at a key -/
section
variable {κ : Type} [DecidableEq κ]
def lookK {β : Type} (es : List (κ × β)) (k : κ) : Option β := (es.find? fun kv => decide (kv.1 = k)).map (·.2)
def putE {β : Type} (es : List (κ × β)) (k : κ) (v : β) : List (κ × β) :=
  if (es.any fun kv => decide (kv.1 = k)) = true then es.map (fun kv => if kv.1 = k then (kv.1, v) else kv) else es ++ [(k, v)]
theorem look_val {K : PySem.W.Frag} {F : Hp} {k : κ} : ∀ {es : List (κ × PyData)} {kvs : List (κ × V)}, kvs.map (·.1) = es.map (·.1) → DpAll K F (kvs.map (·.2)) (es.map (·.2)) →
    match lookK es k with | none => valV kvs k = none | some d => ∃ v, valV kvs k = some v ∧ Dp K F v d
  | [], [], _, _ => rfl
  | [], _ :: _, e, _ => by simp at e
  | _ :: _, [], e, _ => by simp at e
  | p :: es, q :: kvs, e, h => by
    simp only [List.map_cons, List.cons.injEq] at e
    obtain ⟨e1, e2⟩ := e
    cases h with
    | cons h1 h2 =>
    have ih := look_val (k := k) e2 h2
    by_cases hk : p.1 = k
    · have : lookK (p :: es) k = some p.2 := by simp [lookK, List.find?_cons, hk]
      rw [this]
      exact ⟨q.2, valV_pos (e1.trans hk), h1⟩
    · have : lookK (p :: es) k = lookK es k := by simp [lookK, List.find?_cons, hk]
      rw [this, valV_neg (fun z => hk (e1.symm.trans z))]
      exact ih
theorem merge_nodup : ∀ (kvs acc : List (L2.Key × V)), ((acc ++ kvs).map (·.1)).Nodup → L2.mergeK acc kvs = acc ++ kvs
  | [], acc, _ => by simp [L2.mergeK]
  | p :: kvs, acc, h => by
    have e : L2.mergeK acc (p :: kvs) = L2.mergeK (putK acc p.1 p.2) kvs := rfl
    have hn : valV acc p.1 = none := by
      cases q : valV acc p.1 with
      | none => rfl
      | some v =>
        have h1 := valV_in q
        rw [List.map_append, List.nodup_append] at h
        exact absurd rfl (h.2.2 _ h1 p.1 (by simp))
    rw [e, putK_new _ hn, merge_nodup kvs _ (by simpa using h)]
    simp
end
/-! ### {'a': x, ..} with written texts as keys -/
def wDisp (ks : List Str) (ws : WA) : WE := fun ρ Q => ws ρ fun rs ρ1 => frzs rs ρ1 fun ds ρ2 => bmt (decide (ds.length = ks.length)) (∀ p, Q (.tm (.ox p (.dk ((ks.map Sum.inr).zip ds)))) ρ2) False
structure DPs (X : Cx) (pos : Pos) (keys : List (Option Expr)) (values : List Expr) (ks : List Str) (w : WA) : Prop where
  run : ∃ trs, PPs X pos keys values trs ∧ ∀ (σ : Sg) (H F : Hp) (ρ : Rho) (fr : Fp) (Q : List RV → Rho → Prop) (Q' : List (V × V) → Hp → Prop), SI X.K F H σ ρ fr → w ρ Q →
    (∀ vs H' F' ρ' rs m, vs.length = ks.length → Q rs ρ' → RVsOk X.K F' H' σ rs vs m → SI X.K F' H' σ ρ' (padd fr m) → Kp F H fr F' H' → Q' ((ks.map V.str).zip vs) H') → tPairs trs σ H Q'
section
variable {X : Cx} {pos kp : Pos} {keys : List (Option Expr)} {values : List Expr} {ks : List Str} {wa : WE} {ws : WA} {x : Str} {j : Nat} {v : Expr}
theorem dps_nil : DPs X pos [] [] [] wNil := ⟨⟨_, pps_nil, fun σ H F ρ fr Q Q' S hw k => k [] H F ρ [] z0 rfl hw .nil S Kp.refl⟩⟩
theorem dps_cons (hv : DE X v wa) (hr : DPs X pos keys values ks ws) : DPs X pos (some (.Constant (.str x) j kp) :: keys) (v :: values) (x :: ks) (wCons wa ws) := by
  obtain ⟨⟨t, p, r⟩⟩ := hv
  obtain ⟨⟨trs, pp, rr⟩⟩ := hr
  refine ⟨⟨_, pps_cons pe_str p pp, fun σ H F ρ fr Q Q' S hw k => ?_⟩⟩
  show t σ H _
  refine r σ H F ρ fr _ _ S hw fun v1 H1 F1 ρ1 r1 m1 hw o1 S1 k1 => ?_
  refine rr σ H1 F1 ρ1 _ _ _ S1 hw fun vs H2 F2 ρ2 rs m2 hl hw o2 S2 k2 => ?_
  refine k (v1 :: vs) _ _ _ _ _ (by simp [hl]) hw (.cons (o1.kp k2) o2) ?_ (k1.trans k2.left)
  rw [← padd_assoc]
  exact S2
theorem de_disp (h : DPs X pos keys values ks ws) (hnd : ks.Nodup) (hall : keys.all (·.isSome) = true) (hl : keys.length = values.length) (h0 : keys ≠ []) (h15 : keys.length ≤ 15) (hk : keys.length = ks.length) : DE X (.Dict keys values pos) (wDisp ks ws) := by
  obtain ⟨⟨trs, pp, rr⟩⟩ := h
  refine ⟨⟨_, pe_disp pp hall hl h0 h15, fun σ H F ρ fr Q Q' S hw k => ?_⟩⟩
  intro p hp
  obtain ⟨S0, k0⟩ := S.newL (o := .dK []) hp
  refine rr σ _ F ρ _ _ _ S0 hw fun vs H1 F1 ρ1 rs m hlv hw o S1 k1 => ?_
  obtain ⟨ds, ρ2, F2, hw, dp, s, S2⟩ := frzs_ok (vs := vs) S1 o (fun a => by unfold padd; omega) hw
  have S2' : SI X.K F2 H1 σ ρ2 (padd fr (one p)) := S2.less fun a => by unfold padd; omega
  obtain ⟨hld, hw⟩ := bmt_and hw
  have hp1 : H1 p = some (.dK []) := (k1.keep p (by simp [padd, one])).trans upd_same
  have hzl : ∀ (ks : List Str) (vs : List V), ((ks.map V.str).zip vs) = ((ks.map (Sum.inr : Str → L2.Key)).zip vs).map fun kv => (kV kv.1, kv.2) := by
    intro ks
    induction ks with
    | nil => intro vs; rfl
    | cons a ks ih => intro vs; cases vs with
      | nil => rfl
      | cons b vs => simp only [List.map_cons, List.zip_cons_cons, ih vs]; rfl
  have hz1 : ∀ {α : Type} (ks : List L2.Key) (vs : List α), vs.length = ks.length → (ks.zip vs).map (·.1) = ks ∧ (ks.zip vs).map (·.2) = vs := by
    intro α ks
    induction ks with
    | nil => intro vs h; cases vs with
      | nil => exact ⟨rfl, rfl⟩
      | cons _ _ => simp at h
    | cons a ks ih => intro vs h; cases vs with
      | nil => simp at h
      | cons b vs =>
        obtain ⟨h1, h2⟩ := ih vs (by simpa using h)
        exact ⟨by simp only [List.zip_cons_cons, List.map_cons, h1], by simp only [List.zip_cons_cons, List.map_cons, h2]⟩
  obtain ⟨a1, a2⟩ := hz1 (ks.map Sum.inr) vs (by simpa using hlv)
  obtain ⟨b1, b2⟩ := hz1 (ks.map Sum.inr) ds (by simpa using hld)
  refine ⟨hp1, (ks.map Sum.inr).zip vs, hzl ks vs, ?_, ?_⟩
  · have : ((ks.map (Sum.inr : Str → L2.Key)).zip vs).length ≤ (ks.map (Sum.inr : Str → L2.Key)).length := by rw [List.length_zip]; omega
    rw [List.length_map] at this
    omega
  · have hm : L2.mergeK [] ((ks.map Sum.inr).zip vs) = (ks.map Sum.inr).zip vs := merge_nodup _ [] (by
      rw [List.nil_append, a1]
      exact List.Pairwise.map _ (fun _ _ h e => h (Sum.inr.inj e)) hnd)
    rw [hm]
    obtain ⟨S3, k3⟩ := S2'.put (p := p) (by simp [one]) (.dK ((ks.map Sum.inr).zip vs))
    refine k _ _ F2 ρ2 _ (one p) (hw p) ⟨⟨_, rfl, upd_same, _, rfl, by rw [a1, b1], by rw [a2, b2]; exact dp⟩, rfl⟩ S3 (((k0.trans k1.left).trans (Kp.ofF s)).trans k3)
end
/-! ### d[k], d a dict with texts as keys -/
def ixDk : OT → PyData → (PyData → Prop) → Prop
  | .fx (.dk es), .str z, G => (match lookK es (Sum.inr z) with | some d => G d | none => False)
  | .ox _ (.dk es), .str z, G => (match lookK es (Sum.inr z) with | some d => G d | none => False)
  | _, _, _ => False
def wIxK (wa wb : WE) : WE := fun ρ Q => wa ρ fun r1 ρ1 => wb ρ1 fun r2 ρ2 => otd r1 r2 ρ2 fun t e => ixDk t e fun d' => Q (.fz d') ρ2
section
variable {X : Cx} {o i : Expr} {wa wb : WE} {pos : Pos} {k : Nat}
theorem de_ixK (hr : Room k X.A) (ha : DE X o wa) (hb : DE X i wb) (hs : NoSl i) : DE X (.Subscript o i pos) (wIxK wa wb) := by
  obtain ⟨⟨ta, pa, ra⟩⟩ := ha
  obtain ⟨⟨tb, pb, rb⟩⟩ := hb
  have hu := hr.units
  refine ⟨⟨_, pe_dget (by omega) pa pb hs, fun σ H F ρ fr Q Q' S hw k => ?_⟩⟩
  refine ra σ H F ρ fr _ _ S hw fun v1 H1 F1 ρ1 r1 m1 hw o1 S1 k1 => ?_
  refine rb σ H1 F1 ρ1 _ _ _ S1 hw fun v2 H2 F2 ρ2 r2 m2 hw o2 S2 k2 => ?_
  unfold otd at hw
  split at hw
  · rename_i t e ht he
    have o1' := o1.kp k2
    obtain ⟨m', ow⟩ := o1'.own S2 ht
    have d2 := o2.dp S2 he
    unfold ixDk at hw
    split at hw
    · skip
      rename_i es z
      cases d2
      obtain ⟨⟨a, od, o, rfl, hF, kvs, rfl, e1, e2⟩, _⟩ := ow
      have hv := look_val (k := (Sum.inr z : L2.Key)) e1 e2
      split at hw
      · rename_i d hd
        rw [hd] at hv
        obtain ⟨v, hv, dp⟩ := hv
        refine ⟨a, v, rfl, ?_, k v H2 F2 ρ2 (.fz d) z0 hw ⟨dp, rfl⟩ S2.left.left (k1.trans k2.left)⟩
        exact .inl ⟨kvs, Sum.inr z, .inr ⟨od, S2.ex _ _ hF⟩, rfl, hv.symm⟩
      · exact hw.elim
    · rename_i p es z
      cases d2
      obtain ⟨⟨o, rfl, hH, kvs, rfl, e1, e2⟩, _⟩ := ow
      have hv := look_val (k := (Sum.inr z : L2.Key)) e1 e2
      split at hw
      · rename_i d hd
        rw [hd] at hv
        obtain ⟨v, hv, dp⟩ := hv
        refine ⟨p, v, rfl, ?_, k v H2 F2 ρ2 (.fz d) z0 hw ⟨dp, rfl⟩ S2.left.left (k1.trans k2.left)⟩
        have := DGet.k (k := Sum.inr z) hH
        rw [hv] at this
        exact this
      · exact hw.elim
    · exact hw.elim
  · exact hw.elim
end
/-! ### [a, b, ..][i], the items perhaps own lists -/
def wPick (ws : WA) (wb : WE) : WE := fun ρ Q => ws ρ fun rs ρ1 => bmt (decide (rs.length ≤ 1000)) (wb ρ1 fun r2 ρ2 => match r2.dat ρ2 with
  | some (.int i) => (match atI rs i with | some r => Q r ρ2 | none => False)
  | _ => False) False
section
variable {X : Cx} {es : List Expr} {i : Expr} {ws : WA} {wb : WE} {pos pos2 : Pos}
theorem rvs_get {K : PySem.W.Frag} {F H : Hp} {σ : Sg} {rs : List RV} {vs : List V} {m : Fp} (o : RVsOk K F H σ rs vs m) {j : Nat} {r : RV} (h : rs[j]? = some r) : ∃ v m1, vs[j]? = some v ∧ RVok K F H σ r v m1 ∧ ∀ a, m1 a ≤ m a := by
  induction o generalizing j with
  | nil => simp at h
  | @cons r' v m n rs vs h1 _ ih =>
    cases j with
    | zero =>
      simp at h
      subst h
      exact ⟨v, m, rfl, h1, fun a => by unfold padd; omega⟩
    | succ j =>
      obtain ⟨v', m1, a, b, c⟩ := ih (j := j) (by simpa using h)
      exact ⟨v', m1, by simpa using a, b, fun x => by have := c x; unfold padd; omega⟩
theorem de_pick (ha : DA X es ws) (hb : DE X i wb) (hs : PlainIx i := by exact fun _ _ => rfl) : DE X (.Subscript (.List es pos) i pos2) (wPick ws wb) := by
  obtain ⟨⟨t, p, r⟩⟩ := ha
  obtain ⟨⟨tb, pb, rb⟩⟩ := hb
  refine ⟨⟨_, pe_ix ix_list (pe_lst p) pb hs, fun σ H F ρ fr Q Q' S hw k => ?_⟩⟩
  refine r σ H F ρ fr _ _ S hw fun vs H1 F1 ρ1 rs m hw o S1 k1 => ?_
  have hsz : sizeLine = 16777216 := sizeLine_eq
  have hlen := o.len
  obtain ⟨hl, hw⟩ := bmt_and hw
  refine ⟨by omega, fun q hq => ?_⟩
  obtain ⟨S2, k2⟩ := S1.newL (o := .lst vs) hq
  refine rb σ _ F1 ρ1 _ _ _ S2 hw fun v2 H2 F2 ρ2 r2 m2 hw o2 S3 k3 => ?_
  have hq2 : H2 q = some (.lst vs) := (k3.keep q (by unfold padd one; simp)).trans upd_same
  split at hw
  · rename_i i hi
    have d2 := o2.dp S3 hi
    cases d2
    split at hw
    · rename_i r hr
      have o3 : RVsOk X.K F2 H2 σ rs vs m := (o.kp k2).kp (fr := padd fr (one q)) (k3.less fun a z => by unfold padd at z ⊢; omega)
      unfold atI at hr
      cases e : ixN rs.length i with
      | none => rw [e] at hr; cases hr
      | some j =>
        rw [e] at hr
        obtain ⟨v, m1, h1, h2, h3⟩ := rvs_get o3 hr
        refine ⟨q, vs, i, v, rfl, rfl, SqL.of hq2, ?_, k v H2 F2 ρ2 r m1 hw h2 (S3.less fun a => ?_) ((k1.trans k2.left).trans (k3.less fun a z => by unfold padd; omega))⟩
        · unfold atI
          rw [hlen, e]
          exact h1
        · have := h3 a
          unfold padd
          omega
    · exact hw.elim
  · exact hw.elim
end
end DL

namespace DL
open PySem PySem.Spec PyProof.Rows L2
/-! ### try: .. except A: .. except B: .. -/
def CatB (K : PySem.W.Frag) (ns : List Str) (c : Str) (cv : Value) : Prop := ∀ n ∈ ns, ∀ C, PySem.W.nsIn K mainGlobals n = some (some (.ref C)) → PySem.W.exmOne K (.ref C) cv = some (subB n c)
theorem catb_nil {K : PySem.W.Frag} {c : Str} {cv : Value} : CatB K [] c cv := fun n h => by cases h
theorem catb_cons {K : PySem.W.Frag} {c n : Str} {ns : List Str} {cv : Value} {D : Addr} (q : PySem.W.nsIn K mainGlobals n = some (some (.ref D))) (h : PySem.W.exmOne K (.ref D) cv = some (subB n c)) (r : CatB K ns c cv) : CatB K (n :: ns) c cv := by
  intro m hm C e
  rcases List.mem_cons.mp hm with rfl | hm
  · rw [q] at e
    cases e
    exact h
  · exact r m hm C e
def wTry2 (ns : List Str) (n1 n2 : Str) (w1 w2 wb : WS) : WS := fun d ρ => wb { d with ex := fun nm y ρ' => nm ∈ ns ∧ bmt (subB nm n1) (w1 d ρ') (bmt (subB nm n2) (w2 d ρ') False) } ρ
section
variable {X : Cx} {x1 x2 n1 n2 : Str} {c1 c2 : Value} {ns : List Str} {body s1 s2 : List Stmt} {b1 b2 : Stmt} {np1 np2 pos pos1 pos2 : Pos} {wb w1 w2 : WS}
theorem ds_try2 (hs : X.stack = X.env :: X.outer) (hf : X.env.frame = some X.env.locals) (hc1 : Names X x1 c1) (hc2 : Names X x2 c2) (hk1 : CatB X.K ns n1 c1) (hk2 : CatB X.K ns n2 c2)
    (hb : ∀ (W : WX) pn xe, Takes (X.tr pn xe) W → PassesOwn (model X.prog X.w) X.A X.env xe → DSsX (X.tr pn xe) W body wb)
    (h1 : ∀ (a : Addr) (oe : Obj) (cls : Value) (d : Option Addr) (pn : List (Addr × Obj)), Zc cls d oe → (∃ vs, oe.data = .fields vs) → DSs (X.suite a ((a, oe) :: pn)) (b1 :: s1) w1)
    (h2 : ∀ (a : Addr) (oe : Obj) (cls : Value) (d : Option Addr) (pn : List (Addr × Obj)), Zc cls d oe → (∃ vs, oe.data = .fields vs) → DSs (X.suite a ((a, oe) :: pn)) (b2 :: s2) w2) :
    DS X (.Try body [.ExceptHandler (some (.Name x1 np1)) none (b1 :: s1) pos1, .ExceptHandler (some (.Name x2 np2)) none (b2 :: s2) pos2] [] [] pos) (wTry2 ns n1 n2 w1 w2 wb) := by
  let tb : WX → TS := fun W D σ H => ∀ pn xe, Takes (X.tr pn xe) W → PassesOwn (model X.prog X.w) X.A X.env xe → ∃ t, PSs (X.tr pn xe) body t ∧ t D σ H
  let u1 : Addr → Value → Option Addr → TS := fun a cls d D σ H => ∀ oe pn, Zc cls d oe → (∃ vs, oe.data = .fields vs) → ∃ t, PSs (X.suite a ((a, oe) :: pn)) (b1 :: s1) t ∧ t D σ H
  let u2 : Addr → Value → Option Addr → TS := fun a cls d D σ H => ∀ oe pn, Zc cls d oe → (∃ vs, oe.data = .fields vs) → ∃ t, PSs (X.suite a ((a, oe) :: pn)) (b2 :: s2) t ∧ t D σ H
  refine ⟨⟨_, ps_try_many (tb := tb) (Wout := fun _ _ _ _ => False) (l := [(c1, u1), (c2, u2)]) hs hf takes_none5 (fun W pn xe tk po => ⟨fun pins s σ H D I h => ?_⟩) (.cons hc1 (fun a oe cls d pn hz hf => ⟨fun pins s σ H D I h => ?_⟩) (.cons hc2 (fun a oe cls d pn hz hf => ⟨fun pins s σ H D I h => ?_⟩) .nil)), fun σ H F ρ fr d e S E h => ?_⟩⟩
  · obtain ⟨t, pt, ht⟩ := h pn xe tk po
    exact pt.run pins s σ H D I ht
  · obtain ⟨t, pt, ht⟩ := h oe pn hz hf
    exact pt.run pins s σ H D I ht
  · obtain ⟨t, pt, ht⟩ := h oe pn hz hf
    exact pt.run pins s σ H D I ht
  · intro pn xe tk po
    obtain ⟨⟨t, p, r⟩⟩ := hb _ pn xe tk po
    refine ⟨t, p, r σ H F ρ fr { d with ex := fun nm y ρ' => nm ∈ ns ∧ bmt (subB nm n1) (w1 d ρ') (bmt (subB nm n2) (w2 d ρ') False) } e S ⟨E.nx, E.bk, E.ct, E.rt⟩ ⟨fun nm y σ' H' F' ρ' cls dd a xd S' k => ?_⟩ h⟩
    obtain ⟨hn, a⟩ := a
    obtain ⟨C, e1, e2, e3⟩ := id xd
    subst e1
    refine ⟨subB nm n1, hk1 nm hn C e2, fun hb a' ha => ?_, fun hb => ⟨subB nm n2, hk2 nm hn C e2, fun hb2 a' ha => ?_, fun hb2 => ?_⟩⟩
    · rw [hb] at a
      intro oe pn hz hf
      obtain ⟨⟨t1, p1, r1⟩⟩ := h1 a' oe _ dd pn hz hf
      exact ⟨t1, p1, r1 σ' H' F' ρ' fr d e S' (E.go k) a⟩
    · rw [hb, hb2] at a
      intro oe pn hz hf
      obtain ⟨⟨t1, p1, r1⟩⟩ := h2 a' oe _ dd pn hz hf
      exact ⟨t1, p1, r1 σ' H' F' ρ' fr d e S' (E.go k) a⟩
    · rw [hb, hb2] at a
      exact a.elim
end
/-! ### s.find(t), s.count(t) -/
def wMS (g : Str → Str → PyData) (wo : WE) (ws : WA) : WE := fun ρ Q => wo ρ fun r1 ρ1 => match r1.dat ρ1 with
  | some (.str a) => ws ρ1 fun rs ρ2 => dats rs ρ2 fun ds => (match ds with
    | [.str b] => Q (.fz (g a b)) ρ2
    | _ => False)
  | _ => False
section
variable {X : Cx} {o e : Expr} {wo wa : WE} {ws : WA} {pos apos p : Pos}
theorem mS_run {K : PySem.W.Frag} {T : String} {ta : TE} {tb : TA} {g : Str → Str → V} {g' : Str → Str → PyData} (hT : T = "str") (hs : ∀ a b, Sc (g a b) (g' a b)) (ra : RE K ta wo)
    (rb : ∀ (σ : Sg) (H F : Hp) (ρ : Rho) (fr : Fp) (Q : List RV → Rho → Prop) (Q' : List V → Hp → Prop), SI K F H σ ρ fr → ws ρ Q → (∀ vs H' F' ρ' rs m, Q rs ρ' → RVsOk K F' H' σ rs vs m → SI K F' H' σ ρ' (padd fr m) → Kp F H fr F' H' → Q' vs H') → tb σ H Q') :
    RE K (tBM K T (fun x xs H Q => ∃ a b, x = .str a ∧ xs = [.str b] ∧ Q (g a b) H) ta tb) (wMS g' wo ws) := by
  intro σ H F ρ fr Q Q' S hw k
  refine ra σ H F ρ fr _ _ S hw fun v1 H1 F1 ρ1 r1 m1 hw o1 S1 k1 => ?_
  split at hw
  · rename_i a ha
    have := o1.dp S1 ha
    cases this
    refine ⟨by rw [hT]; rfl, ?_⟩
    refine rb σ H1 F1 ρ1 _ _ _ S1 hw fun vs H2 F2 ρ2 rs m2 hw o2 S2 k2 => ?_
    obtain ⟨ds, dp, hw⟩ := dats_ok S2 o2 hw
    split at hw
    · rename_i b
      cases dp with
      | cons d1 d2 =>
        cases d2
        cases d1
        exact ⟨a, b, rfl, rfl, k _ H2 F2 ρ2 (.fz (g' a b)) z0 hw ⟨(hs a b).dp, rfl⟩ S2.left.left (k1.trans k2.left)⟩
    · exact hw.elim
  · exact hw.elim
theorem de_m_find (ho : DE X o wo) (he : DA X [e] ws) (hbase : attributeBase o "find" X.env (eval o X.env) = eval o X.env := by rfl) (hline : (apos.endLine == pos.line) = true := by rfl)
    (hfew : ((backTo pos (starEach (e :: []) X.env)).all (fun x => !x.1) && (backToKw pos (keywordEach [] X.env)).all (fun x => x.1.isSome) && decide ((e :: []).length + ([] : List Keyword).length + (if ([] : List Keyword).isEmpty then 0 else 1) < 30)) = true := by rfl)
    (hs2 : starEach (e :: []) X.env = (false, eval e X.env) :: starEach [] X.env := by rfl) (hplain : (backTo pos (starEach [] X.env)).any (·.1) = false := by rfl) :
    DE X (.Call (.Attribute o "find" apos) [e] [] pos) (wMS (fun a b => .int (Txt.find a b)) wo ws) := by
  obtain ⟨⟨ta, pa, ra⟩⟩ := ho
  obtain ⟨⟨tb, pb, rb⟩⟩ := he
  exact ⟨⟨_, pe_bm PySem.F.plainAttrs_str PySem.F.slot_str_find PySem.F.type_str_find mt_find pa pb hbase hfew hline hs2 hplain, mS_run rfl (fun _ _ => .int _) ra rb⟩⟩
theorem de_m_countS (ho : DE X o wo) (he : DA X [e] ws) (hbase : attributeBase o "count" X.env (eval o X.env) = eval o X.env := by rfl) (hline : (apos.endLine == pos.line) = true := by rfl)
    (hfew : ((backTo pos (starEach (e :: []) X.env)).all (fun x => !x.1) && (backToKw pos (keywordEach [] X.env)).all (fun x => x.1.isSome) && decide ((e :: []).length + ([] : List Keyword).length + (if ([] : List Keyword).isEmpty then 0 else 1) < 30)) = true := by rfl)
    (hs2 : starEach (e :: []) X.env = (false, eval e X.env) :: starEach [] X.env := by rfl) (hplain : (backTo pos (starEach [] X.env)).any (·.1) = false := by rfl) :
    DE X (.Call (.Attribute o "count" apos) [e] [] pos) (wMS (fun a b => .int (Txt.count a b)) wo ws) := by
  obtain ⟨⟨ta, pa, ra⟩⟩ := ho
  obtain ⟨⟨tb, pb, rb⟩⟩ := he
  exact ⟨⟨_, pe_bm PySem.F.plainAttrs_str PySem.F.slot_str_count PySem.F.type_str_count mt_count pa pb hbase hfew hline hs2 hplain, mS_run rfl (fun _ _ => .int _) ra rb⟩⟩
end
end DL

namespace DL
open PySem PySem.Spec PyProof.Rows L2
/-! ### an exception made as a value -/
section
variable {X : Cx} {e : Expr} {t : L2.St → Hp → XK → Prop}
theorem pe_of_pmk (h : PMk X e t) : PE X e (fun σ H Q => t σ H fun cls d H1 => ∀ a, H1 a = none → Q (.ref a) (upd H1 a (exK a cls d))) := by
  refine ⟨fun pins s σ H Q I hw => ?_⟩
  refine wpAny_mono (h pins s σ H _ I hw) (fun u s1 hu => ?_) fun _ _ x => x
  obtain ⟨a, oe, vs, sI, H', cls, d, rfl, J, k, hne, ha, hz, hd, h1, na, os, ag, r, q⟩ := hu
  have J2 := J.laidN (t' := sI.toks) (o := exK a cls d) k hne na (exK_ok ha hz.1 hz.2 hd)
  exact ⟨.ref a, upd H' a (exK a cls d), ⟨J.ok, os.trans J.os, ag, J2.base, J2.loc, J2.cell, J2.free, J2.freeC, J2.pin, J2.hok, J2.len⟩, rfl, q a na⟩
end
def wMkT (n : Str) (wa : WE) : WE := fun ρ Q => wa ρ fun _ ρ1 => Q (.tm (.exc n none)) ρ1
def wMkK (n f : Str) (ok : PyData → Prop) (wa : WE) : WE := fun ρ Q => wa ρ fun r ρ1 => frz r ρ1 fun y ρ2 => ok y ∧ Q (.tm (.exc n (some (f, y)))) ρ2
section
variable {X : Cx} {n f : Str} {e : Expr} {wa : WE} {p pos cpos : Pos} {ok : PyData → Prop}
theorem de_mkT (T : XPlain X.K X.mg n) (hg : Gl X n) (ha : DE X e wa) (hdb : (n == ("__debug__" : Str)) = false := by decide)
    (hs : starEach (e :: []) X.env = (false, eval e X.env) :: starEach [] X.env := by rfl) (hpl : (backTo cpos (starEach [] X.env)).any (·.1) = false := by rfl) :
    DE X (.Call (.Name n p) [e] [] cpos) (wMkT n wa) := by
  obtain ⟨C, h1, h2, h3, h4, h5, h6⟩ := T.ex
  obtain ⟨⟨t, pe, r⟩⟩ := ha
  refine ⟨⟨_, pe_of_pmk (pmk_ownT PySem.F.excBase_ValueError h3 h1 h4 (raises_own h5 h6) hg pe hdb hs hpl), fun σ H F ρ fr Q Q' S hw k => ?_⟩⟩
  refine r σ H F ρ fr _ _ S hw fun v H1 F1 ρ1 r1 m hw oo S1 k1 => ⟨rfl, fun a ha => ?_⟩
  obtain ⟨S2, s2, k2⟩ := S1.left.newF (o := exK a (.ref C) none) ha
  exact k _ _ _ ρ1 _ z0 hw (own_exc (H := upd H1 a (exK a (.ref C) none)) (ExcD.t (n := n) (y := none) (d := none) ⟨C, rfl, h2, rfl⟩ s2 upd_same)) S2 (k1.trans k2)
theorem de_mkK {CX : CXT} {k : Nat} {C fI : Addr} {fd : FuncData} {ps : List Str} {φ : V → Hp → Prop} (T : OexC X.K C) (hn : PySem.W.nsIn X.K mainGlobals n = some (some (.ref C))) (iC : PySem.W.findIn X.K (.ref C) "__init__" = some (some (.ref fI))) (tI : PySem.W.typeIn X.K (.ref fI) = some (.type "function"))
    (F1 : FnOk X.prog X.w X.K X.mg X.base CX k fI fd ps (spIni C f φ)) (hr : Room (k + 1) X.A) (hb : Binds X.K fd ps []) (hx : Passes CX X (fun _ _ _ => False)) (hg : Gl X n) (hm : X.mg n = some (.ref C)) (hφ : KeptOk X.K ok φ) (ha : DE X e wa)
    (hdb : (n == ("__debug__" : Str)) = false := by decide) (he : starEach (e :: []) X.env = (false, eval e X.env) :: starEach [] X.env := by rfl) (hpl : (backTo cpos (starEach [] X.env)).any (·.1) = false := by rfl) :
    DE X (.Call (.Name n p) [e] [] cpos) (wMkK n f ok wa) := by
  obtain ⟨⟨t, pe, r⟩⟩ := ha
  refine ⟨⟨_, pe_of_pmk (pmk_oex T iC tI F1 hr hb .nil hx hg hm (pa_cons pe pa_nil he) hdb he hpl), fun σ H F ρ fr Q Q' S hw k => ?_⟩⟩
  refine r σ H F ρ fr _ _ S hw fun v H1 F1' ρ1 r1 m hw oo cc k1 => ?_
  obtain ⟨y, ρ2, F2, hw, dp, s, S2⟩ := frz_ok cc oo (fun a => by unfold padd; omega) hw
  have S2' : SI X.K F2 H1 σ ρ2 fr := S2.less fun a => by unfold padd; omega
  refine ⟨by show 1 ≤ 1000; decide, fun a hna => ?_⟩
  have up_a : upd H1 a (exo a C none) a = some (exo a C none) := upd_same
  have sm : Same F2 (upd H1 a (exo a C none)) := fun b o q => by
    rw [upd_ne fun z => by rw [z] at q; have := S2'.ex _ _ q; rw [hna] at this; cases this]
    exact S2'.ex _ _ q
  refine ⟨a, v, rfl, hφ F2 _ v y sm dp hw.1, up_a, fun dx hdx hne => ⟨rfl, dx, [(f, v)], upd_same, ?_, ?_, ?_⟩⟩
  · rw [upd_ne hne, upd_same]
  · rw [upd_ne hne] at hdx
    exact hdx
  · have hdx1 : H1 dx = none := by rw [upd_ne hne] at hdx; exact hdx
    have eH : upd (del (upd (upd (upd H1 a (exo a C none)) dx (exd dx [(f, v)])) a (exo a C (some dx))) a) dx (.xd [(f, v)]) = upd H1 dx (.xd [(f, v)]) := by
      funext b
      by_cases hbd : b = dx
      · rw [hbd, upd_same, upd_same]
      · rw [upd_ne hbd, upd_ne hbd]
        by_cases hba : b = a
        · rw [hba, del_same, hna]
        · rw [del_ne hba, upd_ne hba, upd_ne hbd, upd_ne hba]
    rw [eH]
    obtain ⟨S4, s4, k4⟩ := S2'.newF (o := .xd [(f, v)]) hdx1
    intro a' ha'
    obtain ⟨S5, s5, k5⟩ := S4.newF (o := exK a' (.ref C) (some dx)) ha'
    exact k _ _ _ ρ2 _ z0 hw.2 (own_exc (H := upd (upd H1 dx (.xd [(f, v)])) a' (exK a' (.ref C) (some dx))) (ExcD.t (n := n) (y := some (f, y)) (d := some dx) ⟨C, rfl, hn, dx, v, rfl, upd_same, dpm s4 _ _ dp⟩ s5 upd_same)) S5 (((k1.trans (Kp.ofF s)).trans k4).trans k5)
theorem de_mkR (R : RaisesK X.prog X.w X.K X.mg n f ok) (hr : Room 3 X.A) (hg : Gl X n) (ha : DE X e wa)
    (hdb : (n == ("__debug__" : Str)) = false := by decide) (he : starEach (e :: []) X.env = (false, eval e X.env) :: starEach [] X.env := by rfl) (hpl : (backTo cpos (starEach [] X.env)).any (·.1) = false := by rfl) :
    DE X (.Call (.Name n p) [e] [] cpos) (wMkK n f ok wa) := by
  obtain ⟨C, fI, fd, ps, φ, h1, h2, h3, h4, h5, h6, h7, h8⟩ := R.ex
  exact de_mkK h1 h2 h3 h4 (h8 X.base) hr h6 (fun _ _ _ _ _ _ _ z => z.elim) hg h5 h7 ha hdb he hpl
end
/-! ### str(n(text)), n a class without its own __init__ -/
/-- what str of such a class is -/
def XStr (K : PySem.W.Frag) (mg : Str → Option Value) (n : Str) : Prop := ∃ C, mg n = some (.ref C) ∧ PySem.W.excIn K C veMro "ValueError.__new__" = true ∧ PySem.W.keepIn K (.ref C) = true ∧ PySem.W.subIn K (.ref C) (.type "BaseException") = some true ∧ PySem.W.findIn K (.ref C) "__str__" = some (some (.builtin "BaseException.__str__"))
def wStrX (wa : WE) : WE := fun ρ Q => wa ρ fun r ρ1 => match r.dat ρ1 with
  | some (.str z) => Q (.fz (.str z)) ρ1
  | _ => False
section
variable {X : Cx} {n : Str} {e : Expr} {te : TE} {wa : WE} {p p0 pos cpos : Pos} {k : Nat}
theorem pe_strX (T : XStr X.K X.mg n) (hr : Room k X.A) (hgs : Gl X "str") (hms : X.mg "str" = none) (hg : Gl X n) (he : PE X e te)
    (hs1 : starEach [.Call (.Name n p) [e] [] cpos] X.env = (false, eval (.Call (.Name n p) [e] [] cpos) X.env) :: starEach [] X.env := by rfl)
    (hdb : (n == ("__debug__" : Str)) = false := by decide) (hs : starEach (e :: []) X.env = (false, eval e X.env) :: starEach [] X.env := by rfl) (hpl : (backTo cpos (starEach [] X.env)).any (·.1) = false := by rfl) :
    PE X (.Call (.Name "str" p0) [.Call (.Name n p) [e] [] cpos] [] pos) (fun σ H Q => te σ H fun v H1 => ∃ z, v = V.str z ∧ Q (.str z) H1) := by
  obtain ⟨C, h1, h3, h4, h5, h6⟩ := T
  refine ⟨fun pins s σ H Q I h => ?_⟩
  have hu := hr.units
  refine Call_ (ld_blt I hgs hms (show bootBuiltins "str" = some (.type "str") by decide +kernel) (PyProof.Rows.callWith_type1 (args_cons (?_) hs1) hs1))
  refine wpAny_Call_Name_kw (ld_glob I hg h1 ?_ hdb)
  refine PySem.W.callWith_K (h₀ := X.base) I.ok.mod.kin h4 ?_ hs hpl
  rw [hs]
  show wpAny _ _ (spliced ((false, eval e X.env) :: backTo cpos (starEach [] X.env))) _ _ s
  refine Calls.spliced_cons (thn (he.run pins s σ H _ I h) fun u s1 ⟨v, H1, I1, r1, z, ev, q1⟩ => ?_)
  subst ev
  obtain ⟨tz, rfl⟩ := r1
  refine Calls.spliced_nil ⟨I1.kIn, ?_⟩
  show wpAny _ _ (call (.ref C) [.str z tz]) _ _ _
  obtain ⟨bm, N, nm, qn, bs, hdct, sn, sub, ab, col, dd, k0, k1, k2, k3, k5, mN, hC, hN, hni, T⟩ := exc_obj I1.kIn h3
  refine wpAny_call_exc_subT PySem.F.excBase_ValueError T hC hN hni (fun h' a hm => ?_) (by show 1 ≤ sizeLine; rw [sizeLine_eq]; omega)
  obtain ⟨t0, ht, _, ht0⟩ := hm.there
  refine args_nil ?_
  have K1 : X.K.In h' := I1.kIn.keeps hm.keeps
  exact PySem.P.str_of_C_one (t0 := t0) (m := z) (tk := tz) (by omega) ⟨K1, _, _, ht, rfl, rfl, rfl⟩ ⟨_, _, ht0, rfl, rfl⟩ h6 h5 ⟨.str z, H1, I1.kept (t' := s1.toks) hm.keeps, ⟨tz, rfl⟩, q1⟩
theorem de_strX (T : XStr X.K X.mg n) (hr : Room k X.A) (hgs : Gl X "str") (hms : X.mg "str" = none) (hg : Gl X n) (ha : DE X e wa)
    (hs1 : starEach [.Call (.Name n p) [e] [] cpos] X.env = (false, eval (.Call (.Name n p) [e] [] cpos) X.env) :: starEach [] X.env := by rfl)
    (hdb : (n == ("__debug__" : Str)) = false := by decide) (hs : starEach (e :: []) X.env = (false, eval e X.env) :: starEach [] X.env := by rfl) (hpl : (backTo cpos (starEach [] X.env)).any (·.1) = false := by rfl) :
    DE X (.Call (.Name "str" p0) [.Call (.Name n p) [e] [] cpos] [] pos) (wStrX wa) := by
  obtain ⟨⟨t, pe, r⟩⟩ := ha
  refine ⟨⟨_, pe_strX T hr hgs hms hg pe hs1 hdb hs hpl, fun σ H F ρ fr Q Q' S hw k => ?_⟩⟩
  refine r σ H F ρ fr _ _ S hw fun v H1 F1 ρ1 r1 m hw oo S1 k1 => ?_
  split at hw
  · rename_i z hz
    have d1 := oo.dp S1 hz
    cases d1
    exact ⟨z, rfl, k _ H1 F1 ρ1 _ z0 hw ⟨.str z, rfl⟩ S1.left k1⟩
  · exact hw.elim
end
/-! ### x.pop(i), x.insert(i, e) of an own list, the answer dropped -/
def wPopAt (i : Nat) (wa : WE) : WS := fun d ρ => isOwn ρ i <| wa ρ fun r ρ1 => match look ρ1 i, r.dat ρ1 with
  | some (.lst p ds), some (.int k) => 0 ≤ k ∧ k < ds.length ∧ ds.length ≤ sizeLine ∧ d.nx (ρ1.set i (some (.lst p (ds.eraseIdx k.toNat))))
  | _, _ => False
def wInsert (i : Nat) (wa wb : WE) : WS := fun d ρ => isOwn ρ i <| wa ρ fun r ρ1 => wb ρ1 fun r2 ρ2 => dat2 r r2 ρ2 fun k y => frz r2 ρ2 fun x ρ3 => match look ρ3 i, k with
  | some (.lst p ds), .int k => 0 ≤ k ∧ k < 2 ^ 62 ∧ ds.length < sizeLine ∧ d.nx (ρ3.set i (some (.lst p (ds.take k.toNat ++ [x] ++ ds.drop k.toNat))))
  | _, _ => False
section
variable {X : Cx} {e e2 : Expr} {wa wb : WE} {pos apos cpos p0 : Pos} {x : Str} {i : Nat}
theorem dpa_erase {K : PySem.W.Frag} {H : Hp} : ∀ {vs : List V} {ds : List PyData} (n : Nat), DpAll K H vs ds → DpAll K H (vs.eraseIdx n) (ds.eraseIdx n)
  | _, _, _, .nil => .nil
  | _, _, 0, .cons _ t => t
  | _, _, n + 1, .cons r t => .cons r (dpa_erase n t)
theorem ds_popAt (hN : X.N[i]? = some x) (hv : Vis X.env.scope x) (ha : DE X e wa)
    (hd : (x == ("__debug__" : Str)) = false := by decide) (hcd : (x == ("__classdict__" : Str)) = false := by decide)
    (hbase : attributeBase (.Name x p0) "pop" X.env (eval (.Name x p0) X.env) = eval (.Name x p0) X.env := by rfl)
    (hfew : ((backTo cpos (starEach [e] X.env)).all (fun x => !x.1) && (backToKw cpos (keywordEach [] X.env)).all (fun x => x.1.isSome)
      && decide ([e].length + ([] : List Keyword).length + (if ([] : List Keyword).isEmpty then 0 else 1) < 30)) = true := by rfl)
    (hline : (apos.endLine == cpos.line) = true := by rfl) (hs : starEach (e :: []) X.env = (false, eval e X.env) :: starEach [] X.env := by rfl) (hplain : (backTo cpos (starEach [] X.env)).any (·.1) = false := by rfl)
    (hsw : swapsWith (.Call (.Attribute (.Name x p0) "pop" apos) [e] [] cpos) none pos.line X.env = pure false := by rfl) :
    DS X (.Expr (.Call (.Attribute (.Name x p0) "pop" apos) [e] [] cpos) pos) (wPopAt i wa) := by
  obtain ⟨⟨t, p, r⟩⟩ := ha
  refine ⟨⟨_, ps_expr (pe_bm PySem.F.plainAttrs_list PySem.F.slot_list_pop PySem.F.type_list_pop mt_popAt (pe_var hN hv hd hcd) (pa_cons p pa_nil hs) hbase hfew hline hs hplain) hsw, fun σ H F ρ fr d e S E h => ?_⟩⟩
  obtain ⟨⟨q, ds0, e0⟩, h⟩ := isOwn_iff h
  obtain ⟨vs, e1, hp, _, _⟩ := S.lst e0
  refine ⟨.ref q, e1, .inl ⟨rfl, _, SqL.of hp⟩, ?_⟩
  refine r σ H F ρ fr _ _ S h fun v H1 F1 ρ1 r1 m a b c k1 => ?_
  have c' : SI X.K F1 H1 σ ρ1 fr := c.left
  split at a
  · rename_i q' ds kk e2 e3
    have dk := b.dp c e3
    cases dk
    obtain ⟨vs', e1', hp', ha', fin⟩ := c'.lst e2
    rw [e1] at e1'
    cases e1'
    obtain ⟨a1, a2, a3, a4⟩ := a
    obtain ⟨S3, k3⟩ := fin (vs'.eraseIdx kk.toNat) (ds.eraseIdx kk.toNat) (dpa_erase _ ha')
    have hl := ha'.length
    have hsz : sizeLine = 16777216 := sizeLine_eq
    refine ⟨q, vs', kk, kk.toNat, _, rfl, rfl, hp', by omega, by omega, ?_, List.getElem?_eq_getElem (show kk.toNat < vs'.length by omega), E.nx σ _ F1 _ a4 S3 (k1.trans k3)⟩
    have : ixN vs'.length kk = some kk.toNat := by
      unfold ixN
      rw [if_pos a1, if_pos (by omega)]
    exact (ixN_seq this).1
  · exact a.elim
theorem ds_insert (hN : X.N[i]? = some x) (hv : Vis X.env.scope x) (ha : DE X e wa) (hb : DE X e2 wb)
    (hd : (x == ("__debug__" : Str)) = false := by decide) (hcd : (x == ("__classdict__" : Str)) = false := by decide)
    (hbase : attributeBase (.Name x p0) "insert" X.env (eval (.Name x p0) X.env) = eval (.Name x p0) X.env := by rfl)
    (hfew : ((backTo cpos (starEach [e, e2] X.env)).all (fun x => !x.1) && (backToKw cpos (keywordEach [] X.env)).all (fun x => x.1.isSome)
      && decide ([e, e2].length + ([] : List Keyword).length + (if ([] : List Keyword).isEmpty then 0 else 1) < 30)) = true := by rfl)
    (hline : (apos.endLine == cpos.line) = true := by rfl) (hs : starEach (e :: [e2]) X.env = (false, eval e X.env) :: starEach [e2] X.env := by rfl) (hs2 : starEach (e2 :: []) X.env = (false, eval e2 X.env) :: starEach [] X.env := by rfl) (hplain : (backTo cpos (starEach [e2] X.env)).any (·.1) = false := by rfl)
    (hsw : swapsWith (.Call (.Attribute (.Name x p0) "insert" apos) [e, e2] [] cpos) none pos.line X.env = pure false := by rfl) :
    DS X (.Expr (.Call (.Attribute (.Name x p0) "insert" apos) [e, e2] [] cpos) pos) (wInsert i wa wb) := by
  obtain ⟨⟨t, p, r⟩⟩ := ha
  obtain ⟨⟨t2, p2, r2⟩⟩ := hb
  refine ⟨⟨_, ps_expr (pe_bm PySem.F.plainAttrs_list PySem.F.slot_list_insert PySem.F.type_list_insert mt_insert (pe_var hN hv hd hcd) (pa_cons p (pa_cons p2 pa_nil hs2) hs) hbase hfew hline hs hplain) hsw, fun σ H F ρ fr d e S E h => ?_⟩⟩
  obtain ⟨⟨q, ds0, e0⟩, h⟩ := isOwn_iff h
  obtain ⟨vs, e1, hp, _, _⟩ := S.lst e0
  refine ⟨.ref q, e1, .inl ⟨rfl, _, SqL.of hp⟩, ?_⟩
  refine r σ H F ρ fr _ _ S h fun v H1 F1 ρ1 r1 m a b c k1 => ?_
  refine r2 σ H1 F1 ρ1 _ _ _ c a fun v2 H2 F2 ρ2 r2' m2 a b2 c2 k2 => ?_
  obtain ⟨dk, dy, f1, f2, a⟩ := dat2_iff a
  have dpk := (b.kp k2).dp c2 f1
  obtain ⟨y, ρ3, F3, az, dp, s, S3⟩ := frz_ok c2 b2 (fun a => by unfold padd; omega) a
  clear a
  have S3' : SI X.K F3 H2 σ ρ3 fr := S3.less fun a => by unfold padd; omega
  split at az
  · rename_i q' ds kk e2
    cases dpk
    obtain ⟨vs', e1', hp', ha', fin⟩ := S3'.lst e2
    rw [e1] at e1'
    cases e1'
    obtain ⟨a1, a2, a3, a4⟩ := az
    obtain ⟨S4, k4⟩ := fin (vs'.take kk.toNat ++ [v2] ++ vs'.drop kk.toNat) (ds.take kk.toNat ++ [y] ++ ds.drop kk.toNat) (((ha'.take _).append (.cons dp .nil)).append (ha'.drop _))
    exact ⟨q, vs', kk, v2, rfl, rfl, hp', by rw [ha'.length]; exact a3, a1, by omega, E.nx σ _ F3 _ a4 S4 (((k1.trans k2.left).trans (Kp.ofF s)).trans k4)⟩
  · exact az.elim
end
end DL

namespace DL
open PySem PySem.Spec PyProof.Rows L2
/-! ### dicts with tuples as keys: the object -/
abbrev XT := List (List Int × Addr × V)
abbrev YT := List (List Int × Addr × Value)
def xkv (xs : XT) : List (List Int × V) := xs.map fun x => (x.1, x.2.2)
def valX (xs : XT) (k : List Int) : Option V := valV (xkv xs) k
def putX (xs : XT) (k : List Int) (b : Addr) (v : V) : XT := if (xs.any fun x => decide (x.1 = k)) = true then xs.map (fun x => if x.1 = k then (x.1, x.2.1, v) else x) else xs ++ [(k, b, v)]
theorem ents_of {P : Program} {w : World} {es : Array DictEntry} {ys : YT} (h : es.toList = ys.map (entryOfKey (tupleKind (intKind P w)))) : EntsT es ys := fun _ _ => h
theorem dTo_ok {P : Program} {w : World} {H : Hp} {h : Heap} {a : Addr} {xs : XT} (x : PhiT a xs h) : ObjOk P w H h a (dTo a xs) := by
  obtain ⟨h1, h2, h3, ys, h4, o, es, ep, h5, h6⟩ := id x
  refine ⟨x, ⟨o, h5⟩, fun g1 g2 y k => ?_⟩
  obtain ⟨j1, j2, j3, zs, j4, o', es', ep', j5, j6⟩ := y
  exact ⟨j1, j2, j3, zs, j4, o', es', ep', k _ j5, j6⟩
theorem dTo_at {P : Program} {w : World} {H : Hp} {h : Heap} {a : Addr} {xs : XT} (ok : HOk P w H h) (e : Rd H a (dTo a xs)) : PhiT a xs h := by
  rcases e with e | ⟨o, e⟩
  · exact (show ObjOk P w H h a (dTo a xs) from ok a _ e).1
  · exact (show ObjOk P w H h a (.frz o (dTo a xs)) from ok a _ e).2.1
theorem xrel_val {xs : XT} {ys : YT} (r : XRel xs ys) (k : List Int) : RelO (valX xs k) ((atKey ys k).map (·.2)) := by
  induction r with
  | nil => exact True.intro
  | @cons p q ps qs h t ih =>
    obtain ⟨e1, _, e3⟩ := h
    have u : valX (p :: ps) k = if p.1 = k then some p.2.2 else valX ps k := by
      by_cases e : p.1 = k
      · rw [if_pos e]; exact valV_pos (p := (p.1, p.2.2)) e
      · rw [if_neg e]; exact valV_neg (p := (p.1, p.2.2)) e
    have v : (atKey (q :: qs) k).map (·.2) = if q.1 = k then some q.2.2 else (atKey qs k).map (·.2) := by
      by_cases e : q.1 = k
      · simp [atKey, List.find?_cons, e]
      · simp [atKey, List.find?_cons, e]
    rw [u, v, e1]
    by_cases e : q.1 = k
    · rw [if_pos e, if_pos e]; exact e3
    · rw [if_neg e, if_neg e]; exact ih
theorem xrel_any {xs : XT} {ys : YT} (r : XRel xs ys) (k : List Int) : (xs.any fun x => decide (x.1 = k)) = (atKey ys k).isSome := by
  induction r with
  | nil => rfl
  | @cons p q ps qs h t ih =>
    rw [List.any_cons, ih, h.1]
    by_cases e : q.1 = k
    · simp [atKey, List.find?_cons, e]
    · simp [atKey, List.find?_cons, e]
theorem xrel_put {xs : XT} {ys : YT} (r : XRel xs ys) (k : List Int) (b : Addr) {v : V} {u : Value} (rv : RelV v u) : XRel (putX xs k b v) (storedH ys k b u) := by
  unfold putX storedH
  rw [xrel_any r k]
  by_cases q : (atKey ys k).isSome = true
  · rw [if_pos q, if_pos q]
    clear q
    induction r with
    | nil => exact .nil
    | @cons p q ps qs h t ih =>
      obtain ⟨e1, e2, e3⟩ := h
      refine .cons ?_ ih
      unfold putAt
      dsimp only
      by_cases e : p.1 = k
      · rw [if_pos e, if_pos (e1.symm.trans e)]; exact ⟨e1, e2, rv⟩
      · rw [if_neg e, if_neg fun z => e (e1.trans z)]; exact ⟨e1, e2, e3⟩
  · rw [if_neg q, if_neg q]
    exact Paired.snoc r ⟨rfl, rfl, rv⟩
theorem put_len (xs : XT) (k : List Int) (b : Addr) (v : V) : (putX xs k b v).length ≤ xs.length + 1 := by
  unfold putX
  split
  · rw [List.length_map]; omega
  · rw [List.length_append]; exact Nat.le_refl _
theorem put_keys (xs : XT) (k : List Int) (b : Addr) (v : V) : (k ∈ xs.map (·.1) ∧ (putX xs k b v).map (·.1) = xs.map (·.1)) ∨ (k ∉ xs.map (·.1) ∧ putX xs k b v = xs ++ [(k, b, v)]) := by
  have e : (xs.any fun x => decide (x.1 = k)) = true ↔ k ∈ xs.map (·.1) := by
    rw [List.any_eq_true, List.mem_map]
    exact ⟨fun ⟨x, h1, h2⟩ => ⟨x, h1, of_decide_eq_true h2⟩, fun ⟨x, h1, h2⟩ => ⟨x, h1, decide_eq_true h2⟩⟩
  unfold putX
  by_cases q : k ∈ xs.map (·.1)
  · refine .inl ⟨q, ?_⟩
    rw [if_pos (e.mpr q), List.map_map]
    refine List.map_congr_left fun x _ => ?_
    show (if x.1 = k then _ else x).1 = x.1
    split <;> rfl
  · exact .inr ⟨q, if_neg fun z => q (e.mp z)⟩
theorem put_nodup {xs : XT} {k : List Int} {b : Addr} {v : V} (h : (xs.map (·.1)).Nodup) : ((putX xs k b v).map (·.1)).Nodup := by
  rcases put_keys xs k b v with ⟨_, q⟩ | ⟨q, e⟩
  · rw [q]; exact h
  · rw [e, List.map_append, List.nodup_append]
    refine ⟨h, by simp, fun a ha c hc e => q ?_⟩
    have hc : c = k := by simpa using hc
    rw [← hc, ← e]
    exact ha
section
variable {X : Cx} {pins : List (Addr × Obj)} {σ : L2.St} {H : Hp} {s : Shared} {a b : Addr} {xs : XT} {k ks : List Int}
theorem ints_are {P : Program} {w : World} : ∀ {ks : List Int} {us : List Value}, Vals (ks.map V.int) us → ItemsAre (intKind P w) ks us
  | [], _, r => by rw [List.map_nil] at r; cases r; exact .nil
  | k :: ks, _, r => by
    rw [List.map_cons] at r
    cases r with
    | cons h t =>
      obtain ⟨g, rfl⟩ := h
      exact .cons (by show Value.isInt k (.int k g) = true; simp [Value.isInt]) (ints_are t)
/-- a tuple of numbers is a key, wherever it stands -/
theorem key_at (I : Inv X pins σ H s) (h : SqT X.K H b (ks.map V.int)) : (tupleKind (intKind X.prog X.w)).is s.heap ks b := by
  rcases h with h | ⟨o, its, n, hl, hc, hd, _, rv⟩
  · obtain ⟨_, its, rv, o, h1, h2, n, h3⟩ := (show ObjOk X.prog X.w H s.heap b (.tup (ks.map V.int)) from rd_of I.hok h)
    exact ⟨o, its.toArray, n, h1, h2, h3, by simpa using ints_are rv⟩
  · exact ⟨o, its, n, I.kIn b o hl, hc, hd, ints_are rv⟩
/-- the dict, as the heap's rules know it -/
theorem d_held (I : Inv X pins σ H s) (e : Rd H a (dTo a xs)) (hk : KsT X.K H xs) : xs.length ≤ sizeLine ∧ (a == sysModules) = false ∧ (xs.map (·.1)).Nodup ∧ ∃ ys, XRel xs ys ∧ s.heap.DictOfH (tupleKind (intKind X.prog X.w)) a ys := by
  obtain ⟨h1, h2, h3, ys, h4, o, es, ep, h5, h6, h7, h8⟩ := dTo_at I.hok e
  refine ⟨h1, h2, h3, ys, h4, o, es, ep, h5, h6, h7, h8 _ _, ?_, ?_⟩
  · have : ∀ {xs : XT} {ys : YT}, XRel xs ys → KsT X.K H xs → ∀ y ∈ ys, (tupleKind (intKind X.prog X.w)).is s.heap y.1 y.2.1 := by
      intro xs ys r
      induction r with
      | nil => intro _ y hy; cases hy
      | @cons p q ps qs h t ih =>
        intro hk y hy
        rcases List.mem_cons.mp hy with rfl | hy
        · rw [← h.1, ← h.2.1]
          exact key_at I (hk p (by simp))
        · exact ih (fun x hx => hk x (List.mem_cons_of_mem _ hx)) y hy
    exact this h4 hk
  · have : ∀ {xs : XT} {ys : YT}, XRel xs ys → xs.map (·.1) = ys.map (·.1) := by
      intro xs ys r
      induction r with
      | nil => rfl
      | cons h t ih => rw [List.map_cons, List.map_cons, h.1, ih]
    rw [← this h4]
    exact h3
/-- d[k] = v, at the heap -/
theorem d_put {A : Around} {E : Value → Shared → Prop} {v : V} {u : Value} {Q : Unit → Shared → Prop} (hu : A.units + 1 < cLine) (I : Inv X pins σ H s) (e : H a = some (dTo a xs)) (hk : KsT X.K H xs) (hb : SqT X.K H b (k.map V.int)) (hz : xs.length < sizeLine) (rv : RelV v u)
    (h : ∀ s', Inv X pins σ (upd H a (dTo a (putX xs k b v))) s' → Q () s') : wpAny (model X.prog X.w) A (setItem (.ref a) (.ref b) u) Q E s := by
  obtain ⟨h1, h2, h3, ys, h4, dd⟩ := d_held I (.inl e) hk
  refine wpAny_setItem_heap (hsz := by rw [← Paired.length h4]; exact h1) (tupleKind_room_in1 hu) (key_at I hb) dd fun h' dd' sb => h _ ?_
  obtain ⟨o, es, ep, g1, g2, g3, g4, _, _⟩ := dd'
  exact d_write I (by rw [e]; exact True.intro) sb ⟨o, g1⟩ (dTo_ok ⟨Nat.le_trans (put_len ..) hz, h2, put_nodup h3, _, xrel_put h4 k b rv, o, es, ep, g1, g2, g3, ents_of g4⟩)
/-- d[k] -/
def rIxX (K : PySem.W.Frag) : R2 := fun x y H Q => ∃ a xs b k v, x = .ref a ∧ y = .ref b ∧ Rd H a (dTo a xs) ∧ KsT K H xs ∧ SqT K H b (k.map V.int) ∧ valX xs k = some v ∧ Q v H
theorem ix_dx (hu : X.A.units + 1 < cLine) : IxR X (rIxX X.K) := by
  intro value slice pins s σ H x y v u Q I rx ry h hs
  obtain ⟨a, xs, b, k, r, rfl, rfl, e, hk, hb, hv, q⟩ := h
  obtain rfl : v = Value.ref a := rx
  obtain rfl : u = Value.ref b := ry
  obtain ⟨h1, h2, h3, ys, h4, dd⟩ := d_held I e hk
  obtain ⟨w', hw, rw'⟩ := RelO.some_of (v := r) (o := (atKey ys k).map (·.2)) (by rw [← hv]; exact xrel_val h4 k)
  obtain ⟨p, hp, rfl⟩ := Option.map_eq_some_iff.mp hw
  exact tail_any dd.typeIs PySem.F.slot_dict_getitem.lookup (wpAny_getItem_heap (tupleKind_room_in1 hu) (key_at I hb) dd hp ⟨r, H, I.tok _, rw', q⟩) hs
/-- k in d, k not in d -/
def rInX (K : PySem.W.Frag) (f : Bool → Bool) : R2 := fun x y H Q => ∃ a xs b k, x = .ref b ∧ y = .ref a ∧ Rd H a (dTo a xs) ∧ KsT K H xs ∧ SqT K H b (k.map V.int) ∧ Q (.bl (f (valX xs k).isSome)) H
theorem op_inX (hu : X.A.units + 1 < cLine) : OpR X (compareOp .In) (rInX X.K id) := by
  intro pins s σ H x y v u Q I rx ry h
  obtain ⟨a, xs, b, k, rfl, rfl, e, hk, hb, q⟩ := h
  obtain rfl : v = Value.ref b := rx
  obtain rfl : u = Value.ref a := ry
  obtain ⟨h1, h2, h3, ys, h4, dd⟩ := d_held I e hk
  refine wpAny_in_heap (tupleKind_room_in1 hu) (key_at I hb) h2 dd ⟨_, H, I.tok _, ?_, q⟩
  have z := (xrel_val h4 k).isSome_eq
  rw [Option.isSome_map] at z
  show Value.bool _ = Value.bool _
  rw [← z]
  rfl
theorem op_ninX (hu : X.A.units + 1 < cLine) : OpR X (compareOp .NotIn) (rInX X.K not) := by
  intro pins s σ H x y v u Q I rx ry h
  obtain ⟨a, xs, b, k, rfl, rfl, e, hk, hb, q⟩ := h
  obtain rfl : v = Value.ref b := rx
  obtain rfl : u = Value.ref a := ry
  obtain ⟨h1, h2, h3, ys, h4, dd⟩ := d_held I e hk
  refine wpAny_notIn_heap (tupleKind_room_in1 hu) (key_at I hb) h2 dd ⟨_, H, I.tok _, ?_, q⟩
  have z := (xrel_val h4 k).isSome_eq
  rw [Option.isSome_map] at z
  show Value.bool _ = Value.bool _
  rw [← z]
/-- d[k] = v -/
def rSetX (K : PySem.W.Frag) : V → V → V → Hp → (Hp → Prop) → Prop := fun o i v H Q => ∃ a xs b k, o = .ref a ∧ i = .ref b ∧ H a = some (dTo a xs) ∧ KsT K H xs ∧ SqT K H b (k.map V.int) ∧ xs.length < sizeLine ∧ Q (upd H a (dTo a (putX xs k b v)))
theorem set_dx (hu : X.A.units + 1 < cLine) : PSet X (rSetX X.K) := by
  intro pins s σ H o i v ov iv u Q I ro ri rv h
  obtain ⟨a, xs, b, k, rfl, rfl, e, hk, hb, hz, q⟩ := h
  cases ro
  cases ri
  exact d_put hu I e hk hb hz rv fun s' I' => ⟨_, I', q⟩
end
end DL

namespace DL
open PySem PySem.Spec PyProof.Rows L2
/-! ### keys by their data -/
def intsD : List PyData → Option (List Int)
  | [] => some []
  | .int i :: ds => (match intsD ds with | some is => some (i :: is) | none => none)
  | _ => none
def keyI : PyData → Option (List Int)
  | .tuple ds => intsD ds
  | _ => none
theorem ints_dp {K : PySem.W.Frag} {F : Hp} : ∀ {ds : List PyData} {vs : List V} {is : List Int}, DpAll K F vs ds → intsD ds = some is → vs = is.map V.int
  | [], _, _, .nil, e => by cases e; rfl
  | d :: ds, _, is, .cons h t, e => by
    cases d with
    | int i =>
      unfold intsD at e
      cases q : intsD ds with
      | none => rw [q] at e; cases e
      | some js =>
        rw [q] at e
        cases e
        cases h
        rw [ints_dp t q]
        rfl
    | _ => cases e
theorem key_dp {K : PySem.W.Frag} {F : Hp} {d : PyData} {v : V} {k : List Int} (h : Dp K F v d) (e : keyI d = some k) : ∃ b, v = .ref b ∧ SqT K F b (k.map V.int) := by
  cases h with
  | tup hs ha => exact ⟨_, rfl, by rw [← ints_dp ha e]; exact hs⟩
  | _ => cases e
section
variable {K : PySem.W.Frag} {F : Hp} {xs : XT}
theorem look_dt {es : List (List Int × PyData)} (k : List Int) (h1 : xs.map (·.1) = es.map (·.1)) (h2 : DpAll K F (xs.map (·.2.2)) (es.map (·.2))) :
    match lookK es k with | none => valX xs k = none | some d => ∃ v, valX xs k = some v ∧ Dp K F v d :=
  look_val (kvs := xkv xs) (by unfold xkv; rw [List.map_map]; exact h1) (by unfold xkv; rw [List.map_map]; exact h2)
theorem look_isSome {α : Type} : ∀ {es : List (List Int × α)} {xs : XT} (k : List Int), xs.map (·.1) = es.map (·.1) → (valX xs k).isSome = (lookK es k).isSome
  | [], [], _, _ => rfl
  | [], _ :: _, _, e => by simp at e
  | _ :: _, [], _, e => by simp at e
  | p :: es, q :: xs, k, e => by
    simp only [List.map_cons, List.cons.injEq] at e
    have ih := look_isSome k e.2
    by_cases hk : p.1 = k
    · rw [show lookK (p :: es) k = some p.2 by simp [lookK, List.find?_cons, hk], show valX (q :: xs) k = some q.2.2 from valV_pos (p := (q.1, q.2.2)) (e.1.trans hk)]
      rfl
    · rw [show lookK (p :: es) k = lookK es k by simp [lookK, List.find?_cons, hk], show valX (q :: xs) k = valX xs k from valV_neg (p := (q.1, q.2.2)) fun z => hk (e.1.symm.trans z)]
      exact ih
theorem look_dd {ess : List (List Int × List (List Int × PyData))} : ∀ {xs : XT} {ess : List (List Int × List (List Int × PyData))} {k : List Int} {es : List (List Int × PyData)}, xs.map (·.1) = ess.map (·.1) →
    (∀ (i : Nat) v es, (xs.map (·.2.2))[i]? = some v → (ess.map (·.2))[i]? = some es → FxT K F (.dt es) v) → lookK ess k = some es → ∃ v, valX xs k = some v ∧ FxT K F (.dt es) v
  | [], [], _, _, _, _, e => by cases e
  | [], _ :: _, _, _, e, _, _ => by simp at e
  | _ :: _, [], _, _, e, _, _ => by simp at e
  | q :: xs, p :: ess, k, es, e, hv, h => by
    simp only [List.map_cons, List.cons.injEq] at e
    by_cases hk : p.1 = k
    · rw [show lookK (p :: ess) k = some p.2 by simp [lookK, List.find?_cons, hk]] at h
      cases h
      exact ⟨q.2.2, valV_pos (p := (q.1, q.2.2)) (e.1.trans hk), hv 0 q.2.2 p.2 rfl rfl⟩
    · rw [show lookK (p :: ess) k = lookK ess k by simp [lookK, List.find?_cons, hk]] at h
      rw [show valX (q :: xs) k = valX xs k from valV_neg (p := (q.1, q.2.2)) fun z => hk (e.1.symm.trans z)]
      exact look_dd (ess := ess) e.2 (fun i v es a b => hv (i + 1) v es (by simpa using a) (by simpa using b)) h
end
/-! ### what an owned or a frozen dict is at the heap -/
def OT.dict : OT → Option DD
  | .fx t => some t
  | .ox _ t => some t
  | _ => none
theorem own_dict {K : PySem.W.Frag} {F H : Hp} {t : OT} {d : DD} {v : V} {m : Fp} (o : OwnT K F H t v m) (s : Same F H) (h : t.dict = some d) : ∃ a u, v = .ref a ∧ Rd H a u ∧ HoT K F a d u := by
  cases t with
  | fx t =>
    cases h
    obtain ⟨⟨a, od, u, rfl, h1, h2⟩, _⟩ := o
    exact ⟨a, u, rfl, .inr ⟨od, s _ _ h1⟩, h2⟩
  | ox p t =>
    cases h
    obtain ⟨⟨u, rfl, h1, h2⟩, _⟩ := o
    exact ⟨p, u, rfl, .inl h1, h2⟩
  | _ => cases h
theorem KsT.up {K : PySem.W.Frag} {F H : Hp} {xs : XT} (h : KsT K F xs) (s : Same F H) : KsT K H xs := h.kp s
/-- d[k] -/
def ixT (t : OT) (d : PyData) : Option OT := match t.dict, keyI d with
  | some (.dt es), some k => (match lookK es k with | some x => some (.fz x) | none => none)
  | some (.dd ess), some k => (match lookK ess k with | some es => some (.fx (.dt es)) | none => none)
  | _, _ => none
def hasT (t : OT) (d : PyData) : Option Bool := match t.dict, keyI d with
  | some (.dt es), some k => some (lookK es k).isSome
  | some (.dd ess), some k => some (lookK ess k).isSome
  | _, _ => none
def wIxT (wa wb : WE) : WE := fun ρ Q => wa ρ fun r1 ρ1 => wb ρ1 fun r2 ρ2 => otd r1 r2 ρ2 fun t e => match ixT t e with | some x => Q (.tm x) ρ2 | none => False
/-- k in d (f = id), k not in d (f = not) -/
def wInT (f : Bool → Bool) (wa wb : WE) : WE := fun ρ Q => wa ρ fun r1 ρ1 => wb ρ1 fun r2 ρ2 => otd r2 r1 ρ2 fun t e => match hasT t e with | some b => Q (.fz (.bool (f b))) ρ2 | none => False
theorem hot_dt {K : PySem.W.Frag} {F : Hp} {a : Addr} {d : DD} {u : HO} (h : HoT K F a d u) (hd : ∀ es, d ≠ .dk es) : ∃ xs, u = dTo a xs ∧ KsT K F xs := by
  cases d with
  | dk es => exact absurd rfl (hd es)
  | dt es => obtain ⟨xs, h1, h2, _⟩ := h; exact ⟨xs, h1, h2⟩
  | dd ess => obtain ⟨xs, h1, h2, _⟩ := h; exact ⟨xs, h1, h2⟩
theorem ixT_ok {K : PySem.W.Frag} {F H : Hp} {t x : OT} {e : PyData} {v1 v2 : V} {m : Fp} {Q : VK} (o : OwnT K F H t v1 m) (s : Same F H) (h2 : Dp K F v2 e) (h : ixT t e = some x) (q : ∀ v, OwnT K F H x v z0 → Q v H) : rIxX K v1 v2 H Q := by
  unfold ixT at h
  split at h
  · rename_i es k ht hk
    obtain ⟨a, u, rfl, hr, xs, rfl, g1, g2, g3⟩ := own_dict o s ht
    obtain ⟨b, rfl, hb⟩ := key_dp h2 hk
    have lv := look_dt k g2 g3
    split at h
    · rename_i d hd
      cases h
      rw [hd] at lv
      obtain ⟨v, hv, dp⟩ := lv
      exact ⟨a, xs, b, k, v, rfl, rfl, hr, g1.up s, same_t s hb, hv, q v ⟨dp, rfl⟩⟩
    · cases h
  · rename_i ess k ht hk
    obtain ⟨a, u, rfl, hr, xs, rfl, g1, g2, g3⟩ := own_dict o s ht
    obtain ⟨b, rfl, hb⟩ := key_dp h2 hk
    split at h
    · rename_i es hd
      cases h
      obtain ⟨v, hv, fx⟩ := look_dd (ess := ess) g2 (fun i v es a1 b1 => by
        obtain ⟨q, od, zs, e1, e2, e5, e3, e4⟩ := g3 i v es a1 b1
        exact ⟨q, od, _, e1, e2, zs, rfl, e5, e3, e4⟩) hd
      exact ⟨a, xs, b, k, v, rfl, rfl, hr, g1.up s, same_t s hb, hv, q v ⟨fx, rfl⟩⟩
    · cases h
  · cases h
theorem hasT_ok {K : PySem.W.Frag} {F H : Hp} {t : OT} {e : PyData} {v1 v2 : V} {m : Fp} {Q : VK} {b : Bool} {f : Bool → Bool} (o : OwnT K F H t v2 m) (s : Same F H) (h2 : Dp K F v1 e) (h : hasT t e = some b) (q : Q (.bl (f b)) H) : rInX K f v1 v2 H Q := by
  unfold hasT at h
  split at h
  · rename_i es k ht hk
    obtain ⟨a, u, rfl, hr, xs, rfl, g1, g2, g3⟩ := own_dict o s ht
    obtain ⟨c, rfl, hb⟩ := key_dp h2 hk
    cases h
    exact ⟨a, xs, c, k, rfl, rfl, hr, g1.up s, same_t s hb, by rw [look_isSome k g2]; exact q⟩
  · rename_i ess k ht hk
    obtain ⟨a, u, rfl, hr, xs, rfl, g1, g2, g3⟩ := own_dict o s ht
    obtain ⟨c, rfl, hb⟩ := key_dp h2 hk
    cases h
    exact ⟨a, xs, c, k, rfl, rfl, hr, g1.up s, same_t s hb, by rw [look_isSome k g2]; exact q⟩
  · cases h
/-- data read from a slot or a value that no list of one's own is stands in F -/
def isTup : PyData → Bool
  | .tuple _ => true
  | _ => false
theorem key_tup {d : PyData} {k : List Int} (h : keyI d = some k) : isTup d = true := by
  cases d with
  | tuple ds => rfl
  | _ => cases h
theorem RVok.fdp {K : PySem.W.Frag} {F H : Hp} {σ : Sg} {ρ : Rho} {fr m : Fp} {r : RV} {v : V} {d : PyData} (o : RVok K F H σ r v m) (S : SI K F H σ ρ fr) (h : r.dat ρ = some d) (ht : isTup d = true) : Dp K F v d := by
  unfold RV.dat at h
  cases e : r.ot ρ with
  | none => rw [e] at h; cases h
  | some t =>
    rw [e] at h
    obtain ⟨m', ow⟩ := o.own S e
    cases t with
    | fz x => cases h; exact ow.1
    | lst p ds => cases h; cases ht
    | lls p dss => cases h; cases ht
    | _ => cases h
section
variable {X : Cx} {o i : Expr} {wa wb : WE} {pos : Pos} {k : Nat} {f : Bool → Bool}
theorem de_ixT (hr : Room k X.A) (ha : DE X o wa) (hb : DE X i wb) (hs : PlainIx i := by exact fun _ _ => rfl) : DE X (.Subscript o i pos) (wIxT wa wb) := by
  obtain ⟨⟨ta, pa, ra⟩⟩ := ha
  obtain ⟨⟨tb, pb, rb⟩⟩ := hb
  have hu := hr.units
  refine ⟨⟨_, pe_ix (ix_dx (by omega)) pa pb hs, fun σ H F ρ fr Q Q' S hw kk => ?_⟩⟩
  refine ra σ H F ρ fr _ _ S hw fun v1 H1 F1 ρ1 r1 m1 hw o1 S1 k1 => ?_
  refine rb σ H1 F1 ρ1 _ _ _ S1 hw fun v2 H2 F2 ρ2 r2 m2 hw o2 S2 k2 => ?_
  unfold otd at hw
  split at hw
  · rename_i t e ht he
    split at hw
    · rename_i x hx
      obtain ⟨m', ow⟩ := (o1.kp k2).own S2 ht
      have hk : isTup e = true := by
        unfold ixT at hx
        split at hx
        · rename_i h; exact key_tup h
        · rename_i h; exact key_tup h
        · cases hx
      exact ixT_ok ow S2.ex (o2.fdp S2 he hk) hx fun v hv => kk v H2 F2 ρ2 (.tm x) z0 hw hv S2.left.left (k1.trans k2.left)
    · exact hw.elim
  · exact hw.elim
theorem in_runT {ta tb : TE} (ha : RE X.K ta wa) (hb : RE X.K tb wb) : RE X.K (tOp (rInX X.K f) ta tb) (wInT f wa wb) := by
  intro σ H F ρ fr Q Q' S hw kk
  refine ha σ H F ρ fr _ _ S hw fun v1 H1 F1 ρ1 r1 m1 hw o1 S1 k1 => ?_
  refine hb σ H1 F1 ρ1 _ _ _ S1 hw fun v2 H2 F2 ρ2 r2 m2 hw o2 S2 k2 => ?_
  unfold otd at hw
  split at hw
  · rename_i t e ht he
    split at hw
    · rename_i b hx
      obtain ⟨m', ow⟩ := o2.own S2 ht
      have hk : isTup e = true := by
        unfold hasT at hx
        split at hx
        · rename_i h; exact key_tup h
        · rename_i h; exact key_tup h
        · cases hx
      exact hasT_ok ow S2.ex ((o1.kp k2).fdp S2 he hk) hx (kk _ H2 F2 ρ2 (.fz _) z0 hw ⟨.bl _, rfl⟩ S2.left.left (k1.trans k2.left))
    · exact hw.elim
  · exact hw.elim
theorem de_inT (hr : Room k X.A) (ha : DE X o wa) (hb : DE X i wb) (hm : behindInMarks .In i = false := by rfl) : DE X (.Compare o [.In] [i] pos) (wInT id wa wb) := by
  obtain ⟨⟨ta, pa, ra⟩⟩ := ha
  obtain ⟨⟨tb, pb, rb⟩⟩ := hb
  have hu := hr.units
  exact ⟨⟨_, pe_cmpR (op_inX (by omega)) pa pb hm, in_runT ra rb⟩⟩
theorem de_ninT (hr : Room k X.A) (ha : DE X o wa) (hb : DE X i wb) (hm : behindInMarks .NotIn i = false := by rfl) : DE X (.Compare o [.NotIn] [i] pos) (wInT not wa wb) := by
  obtain ⟨⟨ta, pa, ra⟩⟩ := ha
  obtain ⟨⟨tb, pb, rb⟩⟩ := hb
  have hu := hr.units
  exact ⟨⟨_, pe_cmpR (op_ninX (by omega)) pa pb hm, in_runT ra rb⟩⟩
theorem tst_run {ta : TE} (ra : RE X.K ta wa) : RT X.K (tTest ta) (wTst wa) := by
  intro σ H F ρ fr Q Q' S hw kk
  refine ra σ H F ρ fr _ _ S hw fun v H1 F1 ρ1 r m q o S1 k1 => ?_
  unfold asB at q
  split at q
  · rename_i b hb
    have := o.dp S1 hb
    cases this
    exact ⟨b, rfl, kk b H1 F1 ρ1 q S1.left k1⟩
  · exact q.elim
theorem dt_inT (hr : Room k X.A) (ha : DE X o wa) (hb : DE X i wb) (hm : behindInMarks .In i = false := by rfl) : DT X (.Compare o [.In] [i] pos) (wTst (wInT id wa wb)) := by
  obtain ⟨⟨ta, pa, ra⟩⟩ := ha
  obtain ⟨⟨tb, pb, rb⟩⟩ := hb
  have hu := hr.units
  exact ⟨_, pt_cmpR (op_inX (by omega)) pa pb hm, tst_run (in_runT ra rb)⟩
theorem dt_ninT (hr : Room k X.A) (ha : DE X o wa) (hb : DE X i wb) (hm : behindInMarks .NotIn i = false := by rfl) : DT X (.Compare o [.NotIn] [i] pos) (wTst (wInT not wa wb)) := by
  obtain ⟨⟨ta, pa, ra⟩⟩ := ha
  obtain ⟨⟨tb, pb, rb⟩⟩ := hb
  have hu := hr.units
  exact ⟨_, pt_cmpR (op_ninX (by omega)) pa pb hm, tst_run (in_runT ra rb)⟩
end
end DL

namespace DL
open PySem PySem.Spec PyProof.Rows L2
/-! ### d[k] = v of an own dict -/
def isOx (ρ : Rho) (i : Nat) (k : Prop) : Prop := match look ρ i with
  | some (.ox _ (.dt _)) => k
  | _ => False
theorem isOx_iff {ρ : Rho} {i : Nat} {k : Prop} (h : isOx ρ i k) : (∃ q es, look ρ i = some (.ox q (.dt es))) ∧ k := by
  unfold isOx at h
  split at h
  · exact ⟨⟨_, _, by assumption⟩, h⟩
  · exact h.elim
def putOx (ρ : Rho) (i : Nat) (kd : Option PyData) (x : PyData) (G : Rho → Prop) : Prop := match look ρ i, kd.bind keyI with
  | some (.ox p (.dt es)), some k => es.length < sizeLine ∧ G (ρ.set i (some (.ox p (.dt (putE es k x)))))
  | _, _ => False
def wPutT (i : Nat) (wk wa : WE) : WS := fun d ρ => wa ρ fun r ρ1 => frz r ρ1 fun x ρ2 => isOx ρ2 i <| wk ρ2 fun rk ρ3 => putOx ρ3 i (rk.dat ρ3) x d.nx
section
variable {K : PySem.W.Frag} {F : Hp}
theorem put_rel {xs : XT} {es : List (List Int × PyData)} {k : List Int} {b : Addr} {v : V} {d : PyData} (h1 : xs.map (·.1) = es.map (·.1)) (h2 : DpAll K F (xs.map (·.2.2)) (es.map (·.2))) (dv : Dp K F v d) :
    (putX xs k b v).map (·.1) = (putE es k d).map (·.1) ∧ DpAll K F ((putX xs k b v).map (·.2.2)) ((putE es k d).map (·.2)) := by
  have ea : (xs.any fun x => decide (x.1 = k)) = es.any fun x => decide (x.1 = k) := by
    have : ∀ {xs : XT} {es : List (List Int × PyData)}, xs.map (·.1) = es.map (·.1) → (xs.any fun x => decide (x.1 = k)) = es.any fun x => decide (x.1 = k) := by
      intro xs
      induction xs with
      | nil => intro es e; cases es with
        | nil => rfl
        | cons _ _ => simp at e
      | cons p xs ih => intro es e; cases es with
        | nil => simp at e
        | cons q es =>
          simp only [List.map_cons, List.cons.injEq] at e
          rw [List.any_cons, List.any_cons, ih e.2, e.1]
    exact this h1
  unfold putX putE
  rw [ea]
  by_cases q : (es.any fun x => decide (x.1 = k)) = true
  · rw [if_pos q, if_pos q]
    clear q ea
    induction xs generalizing es with
    | nil => cases es with
      | nil => exact ⟨rfl, .nil⟩
      | cons _ _ => simp at h1
    | cons p xs ih => cases es with
      | nil => simp at h1
      | cons q es =>
        simp only [List.map_cons, List.cons.injEq] at h1
        cases h2 with
        | cons a1 a2 =>
        obtain ⟨i1, i2⟩ := ih h1.2 a2
        simp only [List.map_cons]
        rw [i1]
        by_cases e : p.1 = k
        · rw [if_pos e, if_pos (h1.1.symm.trans e)]
          exact ⟨by rw [h1.1], .cons dv i2⟩
        · rw [if_neg e, if_neg fun z => e (h1.1.trans z)]
          exact ⟨by rw [h1.1], .cons a1 i2⟩
  · rw [if_neg q, if_neg q]
    rw [List.map_append, List.map_append, List.map_append, List.map_append, h1]
    exact ⟨rfl, h2.append (.cons dv .nil)⟩
theorem put_ks {xs : XT} {k : List Int} {b : Addr} {v : V} (h : KsT K F xs) (hb : SqT K F b (k.map V.int)) : KsT K F (putX xs k b v) := by
  intro x hx
  unfold putX at hx
  split at hx
  · obtain ⟨y, hy, rfl⟩ := List.mem_map.mp hx
    have := h y hy
    split
    · exact this
    · exact this
  · rcases List.mem_append.mp hx with hx | hx
    · exact h x hx
    · rw [List.mem_singleton.mp hx]
      exact hb
end
section
variable {X : Cx} {e kx : Expr} {wa wk : WE} {pos p0 tpos : Pos} {x : Str} {i n : Nat}
theorem ds_putT (hr : Room n X.A) (hN : X.N[i]? = some x) (hv : Vis X.env.scope x) (hk : DE X kx wk) (ha : DE X e wa)
    (hd : (x == ("__debug__" : Str)) = false := by decide) (hcd : (x == ("__classdict__" : Str)) = false := by decide)
    (hw2 : ∀ v, assign (.Subscript (.Name x p0) kx tpos) X.env v = (do
      let ov ← holding [v] (eval (.Name x p0) X.env)
      let iv ← holding [v, ov] (eval kx X.env)
      standAt tpos
      holding [v, ov, iv] (setItem ov iv v)
      release [v, ov, iv] []) := by intro _; rfl)
    (hs : swapsWithSole [.Subscript (.Name x p0) kx tpos] e pos.line X.env = pure false := by rfl) (hw : swappedStores [.Subscript (.Name x p0) kx tpos] e X.env = pure none := by rfl)
    (h1 : (assignEach [.Subscript (.Name x p0) kx tpos] X.env).map (·.2) = [assign (.Subscript (.Name x p0) kx tpos) X.env] := by rfl) :
    DS X (.Assign [.Subscript (.Name x p0) kx tpos] e pos) (wPutT i wk wa) := by
  obtain ⟨⟨t, p, r⟩⟩ := ha
  obtain ⟨⟨tk, pk, rk⟩⟩ := hk
  have hu := hr.units
  refine ⟨⟨_, ps_asg p (pg_sub (pe_var hN hv hd hcd) pk (set_dx (by omega)) hw2) hs hw h1, fun σ H F ρ fr d e S E h => ?_⟩⟩
  refine r σ H F ρ fr _ _ S h fun v H1 F1 ρ1 r1 m a b c k1 => ?_
  obtain ⟨y, ρ2, F2, a, dp, s, S2⟩ := frz_ok c b (fun a => by unfold padd; omega) a
  have S2' : SI X.K F2 H1 σ ρ2 fr := S2.less fun a => by unfold padd; omega
  obtain ⟨⟨q, es0, e0⟩, a⟩ := isOx_iff a
  obtain ⟨v0, m0, e1, o0⟩ := S2'.slot e0
  obtain ⟨⟨u0, rfl, _, _⟩, _⟩ := o0
  refine ⟨.ref q, e1, ?_⟩
  refine rk σ H1 F2 ρ2 fr _ _ S2' a fun vk H3 F3 ρ3 r3 m3 a o3 S3 k3 => ?_
  unfold putOx at a
  split at a
  · rename_i q' es kk e2 e3
    obtain ⟨kd, e4, e5⟩ := Option.bind_eq_some_iff.mp e3
    obtain ⟨kb, rfl, hkb⟩ := key_dp (o3.fdp S3 e4 (key_tup e5)) e5
    obtain ⟨v5, m5, e6, o5, S5⟩ := S3.left.out e2
    obtain ⟨⟨u5, rfl, hp, xs, rfl, g1, g2, g3⟩, rfl⟩ := o5
    rw [e1] at e6
    cases e6
    obtain ⟨hl, a⟩ := a
    have dy : Dp X.K F3 v y := dpm k3.exF _ _ dp
    have hxl : xs.length = es.length := by have := congrArg List.length g2; simpa using this
    refine ⟨q, xs, kb, kk, rfl, rfl, hp, g1.up S3.ex, same_t S3.ex hkb, by omega, ?_⟩
    obtain ⟨S6, k6⟩ := S5.put (p := q) (by simp [one]) (dTo q (putX xs kk kb v))
    obtain ⟨g4, g5⟩ := put_rel (k := kk) (b := kb) g2 g3 dy
    have S7 := S6.inn (t := .ox q (.dt (putE es kk y))) (v := .ref q) ⟨⟨_, rfl, upd_same, _, rfl, put_ks g1 hkb, g4, g5⟩, rfl⟩ e1
    rw [List.set_set] at S7
    exact E.nx σ _ F3 _ a S7 (((k1.trans (Kp.ofF s)).trans k3).trans k6)
  · exact a.elim
end
/-! ### {} -/
def wNewT : WE := fun ρ Q => ∀ p, Q (.tm (.ox p (.dt []))) ρ
theorem dTo_new {P : Program} {w : World} {H : Hp} (h : Heap) (hb : sysModules < h.objs.size) : ObjOk P w H (h.push { cls := .type "dict", data := .dict #[] }) h.objs.size (dTo h.objs.size []) :=
  dTo_ok ⟨Nat.zero_le _, beq_eq_false_iff_ne.mpr (Ne.symm (Nat.ne_of_lt hb)), List.nodup_nil, [], .nil, _, #[], 0, Heap.get?_push_size _ rfl, ⟨rfl, rfl, rfl⟩, rfl, fun _ _ => rfl⟩
def tNewX : TE := fun _ H Q => ∀ p, H p = none → Q (.ref p) (upd H p (dTo p []))
section
variable {X : Cx} {pos : Pos}
theorem pe_newX : PE X (.Dict [] [] pos) tNewX := ⟨fun pins s σ H Q I h =>
  wpAny_Dict_empty ⟨.ref s.heap.objs.size, _, I.laid (a := s.heap.objs.size) (o := dTo s.heap.objs.size []) (t' := s.toks) (fun _ _ q => Heap.get?_push_of_some _ q) (Nat.le_refl _) (dTo_new s.heap I.big), rfl, h _ (I.hok.fresh (Nat.le_refl _))⟩⟩
theorem de_newT : DE X (.Dict [] [] pos) wNewT := ⟨⟨_, pe_newX, fun σ H F ρ fr Q Q' S hw k p hp => by
  obtain ⟨S0, k0⟩ := S.newL (o := dTo p []) hp
  exact k _ _ F ρ _ (one p) (hw p) ⟨⟨_, rfl, upd_same, [], rfl, fun x hx => (by cases hx), rfl, .nil⟩, rfl⟩ S0 k0⟩⟩
end
/-! ### {k: v}, one key, a tuple -/
def wOneT (wk wv : WE) : WE := fun ρ Q => wk ρ fun rk ρ1 => wv ρ1 fun rv ρ2 => frz rv ρ2 fun x ρ3 => match (rk.dat ρ3).bind keyI with
  | some k => ∀ p, Q (.tm (.ox p (.dt [(k, x)]))) ρ3
  | none => False
def tOneX (K : PySem.W.Frag) (tk tv : TE) : TE := fun σ H Q => ∀ p, H p = none → tk σ (upd H p (dTo p [])) fun y H1 => tv σ H1 fun z H2 => ∃ b k, y = .ref b ∧ SqT K H2 b (k.map V.int) ∧ H2 p = some (dTo p []) ∧ Q (.ref p) (upd H2 p (dTo p [(k, b, z)]))
section
variable {X : Cx} {pos : Pos} {kx vx : Expr} {tk tv : TE} {wk wv : WE} {n : Nat}
theorem d_store {pins : List (Addr × Obj)} {σ : L2.St} {H : Hp} {s : Shared} {E : Value → Shared → Prop} {a b : Addr} {xs : XT} {k : List Int} {v : V} {u : Value} {Q : Unit → Shared → Prop} (hu : X.A.units + 1 < cLine) (I : Inv X pins σ H s) (e : H a = some (dTo a xs)) (hk : KsT X.K H xs) (hb : SqT X.K H b (k.map V.int)) (hz : xs.length < sizeLine) (rv : RelV v u)
    (h : ∀ s', Inv X pins σ (upd H a (dTo a (putX xs k b v))) s' → Q () s') : wpAny (model X.prog X.w) X.A (dictSet a (.ref b) u) Q E s := by
  obtain ⟨h1, h2, h3, ys, h4, dd⟩ := d_held I (.inl e) hk
  have hroom : (tupleKind (intKind X.prog X.w)).room X.A := by show X.A.units < cLine; omega
  refine wpAny_dictSet_heap (hsz := by rw [← Paired.length h4]; exact h1) hroom (key_at I hb) dd fun h' dd' sb => h _ ?_
  obtain ⟨o, es, ep, g1, g2, g3, g4, _, _⟩ := dd'
  exact d_write I (by rw [e]; exact True.intro) sb ⟨o, g1⟩ (dTo_ok ⟨Nat.le_trans (put_len ..) hz, h2, put_nodup h3, _, xrel_put h4 k b rv, o, es, ep, g1, g2, g3, ents_of g4⟩)
theorem pe_oneX (hu : X.A.units + 1 < cLine) (hk : PE X kx tk) (hv : PE X vx tv) : PE X (.Dict [some kx] [vx] pos) (tOneX X.K tk tv) := by
  refine ⟨fun pins s σ H Q I h => ?_⟩
  have I1 := I.laid (a := s.heap.objs.size) (o := dTo s.heap.objs.size []) (t' := s.toks) (fun _ _ q => Heap.get?_push_of_some _ q) (Nat.le_refl _) (dTo_new s.heap I.big)
  refine wpAny_Dict_any rfl rfl (List.cons_ne_nil _ _) (by show 1 ≤ 15; decide) ?_
  refine pairTrees_cons_walk (thn (hk.run pins _ σ _ _ I1 (h _ (I.hok.fresh (Nat.le_refl _)))) fun kv s1 ⟨y, H1, I2, ry, q1⟩ => thn (hv.run pins s1 σ H1 _ I2 q1) fun vv s2 ⟨z, H2, I3, rz, b, k, ey, hb, hp, q2⟩ => pairTrees_nil_walk ?_)
  subst ey
  obtain rfl : kv = Value.ref b := ry
  show wpAny _ _ (forIn [(Value.ref b, vv)] PUnit.unit _) _ _ s2
  rw [List.forIn_cons]
  refine wpAny_bind (wpAny_bind (d_store hu I3 hp (fun x hx => (by cases hx)) hb (by show 0 < sizeLine; rw [sizeLine_eq]; decide) rz fun s3 I4 => wpAny_pure ?_))
  exact wpAny_pure ⟨.ref s.heap.objs.size, _, I4, rfl, q2⟩
theorem de_oneT (hr : Room n X.A) (hk : DE X kx wk) (hv : DE X vx wv) : DE X (.Dict [some kx] [vx] pos) (wOneT wk wv) := by
  obtain ⟨⟨ta, pa, ra⟩⟩ := hk
  obtain ⟨⟨tb, pb, rb⟩⟩ := hv
  have hu := hr.units
  refine ⟨⟨_, pe_oneX (by omega) pa pb, fun σ H F ρ fr Q Q' S hw kk p hp => ?_⟩⟩
  obtain ⟨S0, k0⟩ := S.newL (o := dTo p []) hp
  refine ra σ _ F ρ _ _ _ S0 hw fun v1 H1 F1 ρ1 r1 m1 hw o1 S1 k1 => ?_
  refine rb σ H1 F1 ρ1 _ _ _ S1 hw fun v2 H2 F2 ρ2 r2 m2 hw o2 S2 k2 => ?_
  obtain ⟨x, ρ3, F3, hw, dp, s, S3⟩ := frz_ok S2 o2 (fun a => by unfold padd; omega) hw
  split at hw
  · rename_i k e
    obtain ⟨kd, e4, e5⟩ := Option.bind_eq_some_iff.mp e
    have o1' : RVok X.K F3 H2 σ r1 v1 m1 := (o1.kp k2).kp (fr := z0) (Kp.ofF s |>.less fun a q => (by unfold padd z0 at q; omega))
    have S3' : SI X.K F3 H2 σ ρ3 (padd fr (one p)) := S3.less fun a => by unfold padd; omega
    obtain ⟨kb, rfl, hkb⟩ := key_dp (o1'.fdp S3' e4 (key_tup e5)) e5
    have hp2 : H2 p = some (dTo p []) := (k2.keep p (by simp [padd, one])).trans ((k1.keep p (by simp [padd, one])).trans upd_same)
    refine ⟨kb, k, rfl, same_t S3.ex hkb, hp2, ?_⟩
    obtain ⟨S4, k4⟩ := S3'.put (p := p) (by simp [one]) (dTo p [(k, kb, v2)])
    exact kk _ _ F3 ρ3 _ (one p) (hw p) ⟨⟨_, rfl, upd_same, [(k, kb, v2)], rfl, fun x hx => (by rw [List.mem_singleton.mp hx]; exact hkb), rfl, .cons dp .nil⟩, rfl⟩ S4 (((k0.trans k1.left).trans (k2.left.left.trans (Kp.ofF s))).trans k4)
  · exact hw.elim
end
end DL

namespace DL
open PySem PySem.Spec PyProof.Rows L2
/-! ### an own dict that nobody will change is frozen -/
def tLockV (t : TE) : TE := fun σ H Q => t σ H fun v H1 => ∃ d u, v = .ref d ∧ H1 d = some u ∧ Mut (some u) ∧ ∀ od, Q v (upd H1 d (.frz od u))
theorem pe_lockV {X : Cx} {e : Expr} {t : TE} (h : PE X e t) : PE X e (tLockV t) := by
  refine ⟨fun pins s σ H Q I hw => thn (h.run pins s σ H _ I hw) fun w s1 ⟨x, H1, I1, rx, d, u, ex, hd, mu, q⟩ => ?_⟩
  obtain ⟨od, I2⟩ := I1.lock hd mu
  exact ⟨x, _, I2, rx, q od⟩
section
variable {K : PySem.W.Frag} {F H : Hp} {σ : Sg} {ρ : Rho} {fr : Fp} {p : Addr} {u : HO}
theorem SI.lockF (S : SI K F H σ ρ (padd fr (one p))) (hp : H p = some u) (od : Obj) :
    SI K (upd F p (.frz od u)) (upd H p (.frz od u)) σ ρ fr ∧ Same F (upd F p (.frz od u)) ∧ Kp F H fr (upd F p (.frz od u)) (upd H p (.frz od u)) := by
  obtain ⟨m, w, q⟩ := S.own
  have z : m p = 0 ∧ fr p = 0 := by
    have := (q p).1
    have e1 : one p p = 1 := by simp [one]
    unfold padd at this
    omega
  have hF : F p = none := ((q p).2 (by unfold padd one; simp)).1
  have sF : Same F (upd F p (.frz od u)) := fun b o e => by
    rw [upd_ne fun e' => by subst e'; rw [hF] at e; cases e]
    exact e
  refine ⟨⟨fun b o e => ?_, m, w.kp sF fun a za => upd_ne fun e' => by subst e'; omega, fun a => ?_⟩, sF, sF, fun a za => upd_ne fun e' => by subst e'; omega, fun a za => ?_⟩
  · by_cases hb : b = p
    · subst hb
      rw [upd_same] at e ⊢
      exact e
    · rw [upd_ne hb] at e ⊢
      exact S.ex b o e
  · obtain ⟨q1, q2⟩ := q a
    unfold padd at q1 q2
    refine ⟨by omega, fun za => ?_⟩
    have ha : a ≠ p := fun e => by subst e; omega
    rw [upd_ne ha, upd_ne ha]
    exact q2 (by omega)
  · by_cases ha : a = p
    · subst ha; rw [upd_same]; simp
    · rw [upd_ne ha]; exact za
theorem hot_mut {d : DD} (h : HoT K F p d u) : Mut (some u) := by
  cases d with
  | dk es => obtain ⟨kvs, rfl, _⟩ := h; exact True.intro
  | dt es => obtain ⟨xs, rfl, _⟩ := h; exact True.intro
  | dd ess => obtain ⟨xs, rfl, _⟩ := h; exact True.intro
end
def wFx (wa : WE) : WE := fun ρ Q => wa ρ fun r ρ1 => match r with
  | .tm (.ox _ t) => Q (.tm (.fx t)) ρ1
  | _ => False
section
variable {X : Cx} {e : Expr} {wa : WE} {tg : Expr}
theorem de_fx (h : DE X e wa) : DE X e (wFx wa) := by
  obtain ⟨⟨t, p, r⟩⟩ := h
  refine ⟨⟨_, pe_lockV p, fun σ H F ρ fr Q Q' S hw k => ?_⟩⟩
  refine r σ H F ρ fr _ _ S hw fun v1 H1 F1 ρ1 r1 m1 hw o1 S1 k1 => ?_
  split at hw
  · rename_i p t
    obtain ⟨⟨u, rfl, hp, ht⟩, rfl⟩ := o1
    refine ⟨p, u, rfl, hp, hot_mut ht, fun od => ?_⟩
    obtain ⟨S2, s2, k2⟩ := S1.lockF hp od
    exact k _ _ _ ρ1 (.tm (.fx t)) z0 hw ⟨⟨p, od, u, rfl, upd_same, ht.kp s2⟩, rfl⟩ S2 (k1.trans k2)
  · exact hw.elim
/-! ### the keys of a frozen dict, walked -/
def keyD (k : List Int) : PyData := .tuple (k.map .int)
def keysD {α : Type} (es : List (List Int × α)) : List PyData := es.map fun x => keyD x.1
def ItX (a : Addr) (od : Obj) (xs : XT) : It := ⟨fun i H => H a = some (.frz od (dTo a xs)) ∧ i < xs.length, fun i H x H' => H' = H ∧ ∃ k b v, xs[i]? = some (k, b, v) ∧ x = .ref b, fun i H => H a = some (.frz od (dTo a xs)) ∧ xs.length ≤ i⟩
theorem xrel_len {xs : XT} {ys : YT} (r : XRel xs ys) : xs.length = ys.length := Paired.length r
theorem xrel_get {xs : XT} {ys : YT} (r : XRel xs ys) : ∀ {i : Nat} {k : List Int} {b : Addr} {v : V}, xs[i]? = some (k, b, v) → ∃ u, ys[i]? = some (k, b, u) ∧ RelV v u := by
  induction r with
  | nil => intro i k b v e; cases i <;> cases e
  | @cons x y xs ys h t ih =>
    intro i k b v e
    cases i with
    | zero =>
      cases e
      obtain ⟨h1, h2, h3⟩ := h
      refine ⟨y.2.2, ?_, h3⟩
      rw [List.getElem?_cons_zero]
      obtain ⟨y1, y2, y3⟩ := y
      cases h1
      cases h2
      rfl
    | succ i => exact ih (i := i) (by simpa using e)
/-- the known object of a locked dict -/
theorem locked_at {pins : List (Addr × Obj)} {σ : L2.St} {H : Hp} {s : Shared} {a : Addr} {od : Obj} {xs : XT} (I : Inv X pins σ H s) (h : H a = some (.frz od (dTo a xs))) :
    s.heap.get? a = some od ∧ (a == sysModules) = false ∧ xs.length ≤ sizeLine ∧ ∃ ys es ep, XRel xs ys ∧ od.ExactDict ∧ od.data = .dict es ep ∧ EntsT es ys ∧ es.size = xs.length := by
  obtain ⟨h0, h1, _⟩ := (show ObjOk X.prog X.w H s.heap a (.frz od (dTo a xs)) from I.hok a _ h)
  obtain ⟨g1, g2, g3, ys, g4, o, es, ep, g5, g6, g7, g8⟩ := h1
  rw [h0] at g5
  cases g5
  refine ⟨h0, g2, g1, ys, es, ep, g4, g6, g7, g8, ?_⟩
  rw [size_of_entries (g8 X.prog X.w), xrel_len g4]
theorem turn_x {P : Program} {w : World} {K : PySem.W.Frag} (it a : Addr) (od : Obj) (xs : XT) : Turn P w K tg (ItX a od xs) [it] it (fun i h => ∃ es ep, od.data = .dict es ep ∧ h.IsKeyIter it a i xs.length ep) where
  mem := List.mem_singleton.mpr rfl
  obj := fun i h st b hb => by
    obtain ⟨es, ep, _, oi, e, c, dd⟩ := st
    rw [List.mem_singleton.mp hb]
    exact ⟨oi, e, fun v z => by rw [dd] at z; cases z⟩
  keep := fun i h h' st k => by
    obtain ⟨es, ep, g, st⟩ := st
    exact ⟨es, ep, g, st.at fun oi e => k it (List.mem_singleton.mpr rfl) oi e⟩
  item := by
    intro X hP hw hK hc i pins s σ H E I hf st hg
    subst hP hw hK
    obtain ⟨f0, f1, f2, f3, f4, f5⟩ := hf it (List.mem_singleton.mpr rfl)
    obtain ⟨hH, hi⟩ := hg
    obtain ⟨es0, ep0, hdat, st⟩ := st
    obtain ⟨ho, hd, hz, ys, es, ep, g4, g6, g7, g8, g9⟩ := locked_at I hH
    rw [hdat] at g7
    cases g7
    obtain ⟨k, b, v, hx⟩ : ∃ k b v, xs[i]? = some (k, b, v) := ⟨_, _, _, List.getElem?_eq_getElem hi⟩
    obtain ⟨u, hy, ru⟩ := xrel_get g4 hx
    have hen : es0[i]? = some (entryOfKey (tupleKind (intKind X.prog X.w)) (k, b, u)) := by rw [entry_at (g8 X.prog X.w) i, hy]; rfl
    refine next_key_item st ho hdat g9 hen fun h' st' sb => ?_
    have I1 : Inv X pins σ H { s with heap := h' } := I.turned (t' := s.toks) (fun c ob hc e => (sb.2 c hc).trans e) f0 f1 f3 f4 f5
    obtain ⟨oi, e, c, dd⟩ := id st'
    exact ⟨.ref b, rfl, go_of (s := { s with heap := h' }) e c dd (by decide) ⟨.ref b, H, I1, rfl, ⟨rfl, k, b, v, hx, rfl⟩, ⟨es0, ep0, hdat, st'⟩, fun c hc => (hf c hc).1⟩⟩
  done := by
    intro X hP hw hK hc i pins s σ H E I hf st hg
    subst hP hw hK
    obtain ⟨f0, f1, f2, f3, f4, f5⟩ := hf it (List.mem_singleton.mpr rfl)
    obtain ⟨hH, hi⟩ := hg
    obtain ⟨es0, ep0, hdat, st⟩ := st
    obtain ⟨ho, hd, hz, ys, es, ep, g4, g6, g7, g8, g9⟩ := locked_at I hH
    rw [hdat] at g7
    cases g7
    exact next_key_end (I.ok.hd hc) st ho hdat g9 hi fun h' eb => ⟨rfl, I.turned (t' := s.toks) (fun c ob hc e => eb c ob hc e) f0 f1 f3 f4 f5⟩
  self := fun A i s Q E st h => by
    obtain ⟨es, ep, _, st⟩ := st
    exact wpAny_pyIter_keyiter st h
def iKeysX (td : TE) : TI := fun σ H R => td σ H fun x H1 => ∃ a od xs, x = .ref a ∧ H1 a = some (.frz od (dTo a xs)) ∧ R (ItX a od xs) H1
theorem pi_keysX {td : TE} (he : PE X e td) : PI X tg e (iKeysX td) := by
  refine ⟨fun pins s σ H R I h => thn (he.run pins s σ H _ I h) fun v s1 ⟨x, H1, I1, rx, a, od, xs, ex, hH, q⟩ => ?_⟩
  subst ex
  obtain rfl : v = Value.ref a := rx
  obtain ⟨ho, hd, hz, ys, es, ep, g4, g6, g7, g8, g9⟩ := locked_at I1 hH
  refine iter_keys hd ho g6 g7 (pi_one (tk := s1.toks) I1 _ (turn_x _ a od xs) ⟨es, ep, g7, _, Heap.get?_push_size _ rfl, rfl, ?_⟩ q)
  rw [← g9] <;> rfl
def wKeysT (wa : WE) : WI := fun ρ Q => wa ρ fun r ρ1 => match r.ot ρ1 with
  | some (.fx (.dt es)) => Q (keysD es) ρ1
  | some (.fx (.dd ess)) => Q (keysD ess) ρ1
  | _ => False
theorem dp_key {K : PySem.W.Frag} {F : Hp} {b : Addr} {k : List Int} (h : SqT K F b (k.map V.int)) : Dp K F (.ref b) (keyD k) := by
  refine .tup h ?_
  have : ∀ k : List Int, DpAll K F (k.map V.int) (k.map PyData.int) := by
    intro k
    induction k with
    | nil => exact .nil
    | cons i k ih => exact .cons (.int i) ih
  exact this k
theorem jok_keys {K : PySem.W.Frag} {F H : Hp} {α : Type} {a : Addr} {od : Obj} {xs : XT} {es : List (List Int × α)} (hF : F a = some (.frz od (dTo a xs))) (hk : KsT K F xs) (he : xs.map (·.1) = es.map (·.1)) : JOk K F (ItX a od xs) (keysD es) := by
  have hl : xs.length = es.length := by simpa using congrArg List.length he
  intro i F' H' s s'
  have hH : H' a = some (.frz od (dTo a xs)) := s' _ _ (s _ _ hF)
  have hlk : (keysD es).length = es.length := List.length_map ..
  refine ⟨fun hz => ⟨hH, by omega⟩, fun d hd => ?_⟩
  obtain ⟨x, hx, rfl⟩ : ∃ x, es[i]? = some x ∧ keyD x.1 = d := by
    unfold keysD at hd
    rw [List.getElem?_map] at hd
    cases q : es[i]? with
    | none => rw [q] at hd; cases hd
    | some x => rw [q] at hd; cases hd; exact ⟨x, rfl, rfl⟩
  have hi := (List.getElem?_eq_some_iff.mp hx).1
  refine ⟨⟨hH, by omega⟩, fun v H'' y => .inl ⟨y.1, ?_⟩⟩
  obtain ⟨_, k, b, w, e1, rfl⟩ := y
  have e2 : (xs.map (·.1))[i]? = (es.map (·.1))[i]? := by rw [he]
  rw [List.getElem?_map, List.getElem?_map, e1, hx] at e2
  have e3 : k = x.1 := Option.some.inj e2
  subst e3
  exact dp_key (same_t s (hk _ (List.mem_of_getElem? e1)))
theorem di_keysT (he : DE X e wa) : DI X tg e (wKeysT wa) := by
  obtain ⟨⟨t, p, r⟩⟩ := he
  refine ⟨⟨_, pi_keysX p, fun σ H F ρ fr Q R S h k => ?_⟩⟩
  refine r σ H F ρ fr _ _ S h fun v1 H1 F1 ρ1 r1 m1 hw o1 S1 k1 => ?_
  split at hw
  · rename_i es hr
    obtain ⟨m', ow⟩ := o1.own S1 hr
    obtain ⟨⟨a, od, u, rfl, h1, xs, rfl, h2, h3, h4⟩, _⟩ := ow
    exact ⟨a, od, xs, rfl, S1.ex _ _ h1, k _ H1 F1 ρ1 _ hw S1.left k1 (jok_keys (H := H1) h1 h2 h3)⟩
  · rename_i es hr
    obtain ⟨m', ow⟩ := o1.own S1 hr
    obtain ⟨⟨a, od, u, rfl, h1, xs, rfl, h2, h3, h4⟩, _⟩ := ow
    exact ⟨a, od, xs, rfl, S1.ex _ _ h1, k _ H1 F1 ρ1 _ hw S1.left k1 (jok_keys (H := H1) h1 h2 h3)⟩
  · exact hw.elim
end
end DL

namespace DL
open PySem PySem.Spec PyProof.Rows L2
/-! ### {k: v for ..}, the keys tuples of numbers -/
/-- one turn's store, then what stands ahead of the next turn -/
def stepX (K : PySem.W.Frag) (D : Addr) (y z : V) (H : Hp) (N : Hp → Prop) : Prop := ∃ xs b k, y = .ref b ∧ SqT K H b (k.map V.int) ∧ H D = some (dTo D xs) ∧ KsT K H xs ∧ xs.length < sizeLine ∧ N (upd H D (dTo D (putX xs k b z)))
def turnX (K : PySem.W.Frag) (D : Addr) (g : TG) (tt : TT) (tk tv : TE) (vs : List Nat) (σ : Sg) (N : Hp → Prop) (x : V) (H : Hp) : Prop :=
  g x (L2.wipe σ vs) H fun τ Ha => L2.wipe τ vs = L2.wipe σ vs ∧ tt τ Ha fun b Hb => if b = true then tk τ Hb fun y Hc => tv τ Hc fun z Hd => stepX K D y z Hd N else N Hb
def tDcX (K : PySem.W.Frag) (wi : TI) (g : TG) (tt : TT) (tk tv : TE) (vs : List Nat) : TE := fun σ H Q => wi σ H fun J Ha => ∀ D, Ha D = none → ∃ W : Nat → Nat → Hp → Prop, (∃ m, W 0 m (upd Ha D (dTo D []))) ∧
  ∀ i m Hb, W i m Hb → (J.stop i Hb ∧ Q (.ref D) Hb) ∨ (J.go i Hb ∧ ∃ N : Hp → Prop, (∀ Hc, N Hc → ∃ n, n < m ∧ W (i + 1) n Hc) ∧ ∀ x Hc, J.yld i Hb x Hc → turnX K D g tt tk tv vs σ N x Hc)
section
variable {X : Cx} {kx vx tg iter : Expr} {ifs : List Expr} {scope : Scope} {own : List (Str × Nat)} {pos : Pos} {wi : TI} {g : TG} {tt : TT} {tk tv : TE}
abbrev BlkAll (X : Cx) (scope : Scope) (P : Cx → Prop) : Prop := ∀ (s : Shared) (H : Hp) (C : Addr) (cl : List (Str × Addr)) (fp : List Addr), P (X.blk s H scope (compEnvC scope cl C X.env) fp)
theorem pe_dcX (hu : X.A.units + 1 < cLine) (hc : X.calm = true) (hN : X.N.Nodup) (hi : PI X tg iter wi) (ok : BlkOk X.N X.env.scope scope own)
    (hg : BlkAll X scope fun Y => PG Y tg g) (ht : BlkAll X scope fun Y => PTs Y ifs tt) (hk : BlkAll X scope fun Y => PE Y kx tk) (he : BlkAll X scope fun Y => PE Y vx tv) (hs : ∀ x, foldedSetIterable iter X.env x = pure x := by intro _; rfl) :
    PE X (.DictComp kx vx [⟨tg, iter, ifs, 0⟩] scope pos) (tDcX X.K wi g tt tk tv (own.map (·.2))) := by
  refine ⟨fun pins sa σ Ha Q Ia h => ?_⟩
  rw [arm_eval_DictComp]
  have seen : ∀ z ∈ scope.names, z.2 = .free → ∃ c, X.env.cells.lookup z.1 = some c := by
    intro z hz e
    rcases ok.free z hz e with q | q
    · exact Ia.ok.has _ (.inl q)
    · exact Ia.ok.has _ (.inr q)
  refine wpAny_comprehension_free (use := none) rfl hs (closure_ok seen) ok.kind (fun z hz e => by rw [ok.uniq z hz, e]) (thn (hi.run pins sa σ Ha _ Ia h) fun xv sb hx => thn hx fun itv sc hb => ?_)
  obtain ⟨it, fp, tn, J, Hb, rfl, Ib, T, stb, fb, q⟩ := hb
  refine wpAny_newObj_type (newEnv_comp ?_)
  obtain ⟨D, hD⟩ : ∃ D, sc.heap.objs.size = D := ⟨_, rfl⟩
  rw [hD]
  obtain ⟨W, ⟨m0, w0⟩, turn⟩ := q D (Ib.hok.fresh (Nat.le_of_eq hD))
  generalize hsd : ({ sc with heap := sc.heap.push { cls := .type "dict", data := .dict #[] } } : Shared) = sd
  have hsh : sd.heap = sc.heap.push { cls := .type "dict", data := .dict #[] } := by rw [← hsd]
  have Ic : Inv X pins σ (upd Hb D (dTo D [])) sd := by
    rw [← hsd, ← hD]
    exact Ib.laid (t' := sc.toks) (fun b o e => Heap.get?_push_of_some _ e) (Nat.le_refl _) (dTo_new sc.heap Ib.big)
  have low : ∀ b ∈ fp, b < sc.heap.objs.size := fun b hb => let ⟨o, e, _⟩ := T.obj _ _ stb b hb; Heap.lt_size e
  have fc : ∀ b ∈ fp, FpOk X pins (upd Hb D (dTo D [])) b ∧ b < sd.heap.objs.size := fun b hb => by
    have hl := low b hb
    refine ⟨⟨?_, (fb b hb).2⟩, by rw [hsh, Heap.size_push]; exact Nat.lt_succ_of_lt hl⟩
    rw [upd_ne (Nat.ne_of_lt (hD ▸ hl))]
    exact (fb b hb).1
  have stc : tn 0 sd.heap := T.keep _ _ _ stb fun b _ o e => by rw [hsh]; exact Heap.get?_push_of_some _ e
  have Id := block_start Ic ok hN fc
  obtain ⟨Hc, hHc⟩ : ∃ Hc, upd Hb D (dTo D []) = Hc := ⟨_, rfl⟩
  rw [hHc] at Ic Id w0 fc
  have bg := hg sd Hc sd.heap.objs.size (cellsFrom (sd.heap.objs.size + 1) scope.names (cloFrom X.env.cells scope.names [])) fp
  have bt := ht sd Hc sd.heap.objs.size (cellsFrom (sd.heap.objs.size + 1) scope.names (cloFrom X.env.cells scope.names [])) fp
  have bk := hk sd Hc sd.heap.objs.size (cellsFrom (sd.heap.objs.size + 1) scope.names (cloFrom X.env.cells scope.names [])) fp
  have be := he sd Hc sd.heap.objs.size (cellsFrom (sd.heap.objs.size + 1) scope.names (cloFrom X.env.cells scope.names [])) fp
  show codeAny _ _ (.compStart (.DictComp kx vx [⟨tg, iter, ifs, 0⟩] scope pos) 0 (.ref it) (.ref D) (compEnvC scope (cellsFrom (sd.heap.objs.size + 1) scope.names (cloFrom X.env.cells scope.names [])) sd.heap.objs.size X.env))
    (compPost (model X.prog X.w) X.A X.xe none (EP X pins σ Q) (.ref D) sd.heap.objs.size) { sd with heap := pushCells (sd.heap.push { cls := .type "dict", data := .dict #[] }) scope.names }
  have off : ∀ b ∈ fp, Hc b = none := fun b hb => (fc b hb).1.1
  generalize hev : compEnvC scope (cellsFrom (sd.heap.objs.size + 1) scope.names (cloFrom X.env.cells scope.names [])) sd.heap.objs.size X.env = ev at Id bg bt bk be ⊢
  have evl : ev.locals = sd.heap.objs.size := by subst hev; rfl
  generalize hse : ({ sd with heap := pushCells (sd.heap.push { cls := .type "dict", data := .dict #[] }) scope.names } : Shared) = se at Id ⊢
  have ste : tn 0 se.heap := T.keep _ _ _ stc fun b _ o e => by rw [← hse]; exact pushCells_keeps _ _ _ _ (Heap.get?_push_of_some _ e)
  -- what the walk's own objects are while the block runs
  have held : ∀ {τ : Sg} {Hx : Hp} {sx : Shared}, Inv (X.blk sd Hc scope ev fp) [] τ Hx sx → (∀ b ∈ fp, Hx b = none) → ∀ b ∈ fp, FpOk (X.blk sd Hc scope ev fp) [] Hx b := fun {τ Hx sx} Ix hn b hb =>
    ⟨hn b hb, (Ix.ok.exf b hb).1, Ix.ok.exfs b hb, .inl hb, fun x c e => (Ix.ok.exf b hb).2 x c e, fun p hp => by cases (show p ∈ ([] : List (Addr × Obj)) ++ [] from hp)⟩
  have loop : codeAny (model X.prog X.w) X.A (.compLoop (.DictComp kx vx [⟨tg, iter, ifs, 0⟩] scope pos) 0 (.ref it) (.ref D) ev) (compPost (model X.prog X.w) X.A X.xe none (EP X pins σ Q) (.ref D) sd.heap.objs.size) se := by
    refine compLoop_anyD (fun n sx => ∃ i Hx, Inv (X.blk sd Hc scope ev fp) [] (L2.wipe σ (own.map (·.2))) Hx sx ∧ tn i sx.heap ∧ (∀ b ∈ fp, Hx b = none) ∧ W i n Hx) ?_ m0 ⟨0, Hc, Id, ste, off, w0⟩
    rintro n sf ⟨i, Hf, If, stf, nf, wf⟩
    rcases turn i n Hf wf with ⟨stop, qq⟩ | ⟨go, N, hN', step⟩
    · refine thnF (T.done (X.blk sd Hc scope ev fp) rfl rfl rfl hc i [] sf _ Hf (fun _ _ => False) If (held If nf) stf stop) fun r sg ⟨hr, Ig⟩ => ?_
      subst hr
      have Ih : Inv X pins σ Hf sg := Ic.call' (ch := fp) Ig.os Ig.base Ig.hok Ig.bare fun b hb => ⟨(fc b hb).1.2.2.2.1, (fc b hb).1.2.1, (fc b hb).1.2.2.2.2.1, (fc b hb).1.2.2.2.2.2⟩
      have nC : Hf sd.heap.objs.size = none := by
        have z : Hf ev.locals = none := Ig.free
        rw [evl] at z
        exact z
      obtain ⟨m, hn, _⟩ := Ig.loc
      have hn : sg.heap.Ns ev.locals m := hn
      rw [evl] at hn
      obtain ⟨f0, f1, f2, f3, f4, f5⟩ := Ic.fpOk (Nat.le_refl _) nC
      exact ⟨m, hn, fun hx sb => ⟨.ref D, Hf, Ih.turned (t' := sg.toks) (fun b o hb e => (sb.2 b hb).trans e) f0 f1 f3 f4 f5, rfl, qq⟩⟩
    · refine thnF (T.item (X.blk sd Hc scope ev fp) rfl rfl rfl hc i [] sf _ Hf (fun _ _ => False) If (held If nf) stf go) fun r sg ⟨u, hr, hg'⟩ => ?_
      subst hr
      refine thnF hg' fun _ sh ⟨x, Hh, Ih, rh, yh, sth, nh⟩ => ?_
      have Ih' := Ih.pinned (held Ih nh) (T.obj _ _ sth)
      refine thnF (bg.run _ sh _ Hh x u _ Ih' rh (step x Hh yh)) fun _ si ⟨τ, Hi, Ii, wi', qi⟩ => ?_
      refine thnF (bt.run _ si τ Hi _ Ii qi) fun b sj ⟨Hj, Ij, qj⟩ => ?_
      have fin : ∀ {sx : Shared} {Hx : Hp}, Inv (X.blk sd Hc scope ev fp) ([] ++ pinsAt fp sh.heap) τ Hx sx → N Hx → ∃ m, m < n ∧ ∃ i Hx, Inv (X.blk sd Hc scope ev fp) [] (L2.wipe σ (own.map (·.2))) Hx sx ∧ tn i sx.heap ∧ (∀ b ∈ fp, Hx b = none) ∧ W i m Hx := fun {sx Hx} Ix nx => by
        obtain ⟨m1, hm, w1⟩ := hN' Hx nx
        have pinned : ∀ b ∈ fp, ∀ o, sh.heap.get? b = some o → sx.heap.get? b = some o ∧ Hx b = none := fun b hb o e =>
          have z := Ix.pin (b, o) (List.mem_append_right _ (List.mem_append_right _ (mem_pinsAt hb e)))
          ⟨z.1, z.2.1⟩
        refine ⟨m1, hm, i + 1, Hx, (Ix.unpinned (pins := [])).weak (by rw [← wi', wipe_length]) (fun j v e => ?_), T.keep _ _ _ sth fun b hb o e => (pinned b hb o e).1, fun b hb => ?_, w1⟩
        · rw [← wi'] at e
          exact (wipe_some e).1
        · obtain ⟨o, e, _⟩ := T.obj _ _ sth b hb
          exact (pinned b hb o e).2
      cases b with
      | false => exact fin Ij qj
      | true =>
        refine thnF (bk.run _ sj τ Hj _ Ij qj) fun z sk ⟨yk, Hk, Ik, rk, qk⟩ => ?_
        refine thnF (be.run _ sk τ Hk _ Ik qk) fun z2 sl ⟨yv, Hl, Il, rl, xs, bb, k, ek, hb, hDl, hks, hz, nx⟩ => ?_
        subst ek
        obtain rfl : z = Value.ref bb := rk
        exact d_store (X := X.blk sd Hc scope ev fp) hu Il hDl hks hb hz rl fun sm Im => fin Im nx
  exact codeAny_compStart_dict loop (T.self X.A 0 _ _ _ ste loop)
end
end DL

namespace DL
open PySem PySem.Spec PyProof.Rows L2
def putDD (d : DD) (k : List Int) (t : OT) : Option DD := match d, t with
  | .dt es, .fz x => some (.dt (putE es k x))
  | .dd ess, .fx (.dt es) => some (.dd (putE ess k es))
  | _, _ => none
def lenDD : DD → Nat
  | .dk es => es.length
  | .dt es => es.length
  | .dd ess => ess.length
section
variable {K : PySem.W.Frag} {F H : Hp}
/-- the same keys, and values that go together -/
def PWise {β : Type} (R : V → β → Prop) (xs : XT) (es : List (List Int × β)) : Prop := xs.map (·.1) = es.map (·.1) ∧ ∀ (i : Nat) v e, (xs.map (·.2.2))[i]? = some v → (es.map (·.2))[i]? = some e → R v e
theorem PWise.cons {β : Type} {R : V → β → Prop} {x : List Int × Addr × V} {xs : XT} {y : List Int × β} {es : List (List Int × β)} (h : PWise R (x :: xs) (y :: es)) : x.1 = y.1 ∧ R x.2.2 y.2 ∧ PWise R xs es := by
  obtain ⟨h1, h2⟩ := h
  simp only [List.map_cons, List.cons.injEq] at h1
  exact ⟨h1.1, h2 0 _ _ rfl rfl, h1.2, fun i v e a b => h2 (i + 1) v e (by simpa using a) (by simpa using b)⟩
theorem PWise.mk {β : Type} {R : V → β → Prop} {x : List Int × Addr × V} {xs : XT} {y : List Int × β} {es : List (List Int × β)} (h1 : x.1 = y.1) (h2 : R x.2.2 y.2) (h : PWise R xs es) : PWise R (x :: xs) (y :: es) := by
  refine ⟨by rw [List.map_cons, List.map_cons, h1, h.1], fun i v e a b => ?_⟩
  cases i with
  | zero => cases a; cases b; exact h2
  | succ i => exact h.2 i v e (by simpa using a) (by simpa using b)
theorem PWise.any {β : Type} {R : V → β → Prop} (k : List Int) : ∀ {xs : XT} {es : List (List Int × β)}, PWise R xs es → (xs.any fun x => decide (x.1 = k)) = es.any fun x => decide (x.1 = k)
  | [], [], _ => rfl
  | [], _ :: _, h => by have := h.1; simp at this
  | _ :: _, [], h => by have := h.1; simp at this
  | x :: xs, y :: es, h => by
    obtain ⟨h1, _, h3⟩ := h.cons
    rw [List.any_cons, List.any_cons, PWise.any k h3, h1]
theorem PWise.repl {β : Type} {R : V → β → Prop} {k : List Int} {v : V} {d : β} (r : R v d) : ∀ {xs : XT} {es : List (List Int × β)}, PWise R xs es →
    PWise R (xs.map fun x => if x.1 = k then (x.1, x.2.1, v) else x) (es.map fun kv => if kv.1 = k then (kv.1, d) else kv)
  | [], [], h => h
  | [], _ :: _, h => by have := h.1; simp at this
  | _ :: _, [], h => by have := h.1; simp at this
  | x :: xs, y :: es, h => by
    obtain ⟨h1, h2, h3⟩ := h.cons
    rw [List.map_cons, List.map_cons]
    by_cases e : x.1 = k
    · rw [if_pos e, if_pos (h1.symm.trans e)]
      exact .mk h1 r (h3.repl r)
    · rw [if_neg e, if_neg fun z => e (h1.trans z)]
      exact .mk h1 h2 (h3.repl r)
theorem PWise.snoc {β : Type} {R : V → β → Prop} {k : List Int} {b : Addr} {v : V} {d : β} (r : R v d) : ∀ {xs : XT} {es : List (List Int × β)}, PWise R xs es → PWise R (xs ++ [(k, b, v)]) (es ++ [(k, d)])
  | [], [], h => .mk rfl r h
  | [], _ :: _, h => by have := h.1; simp at this
  | _ :: _, [], h => by have := h.1; simp at this
  | x :: xs, y :: es, h => by
    obtain ⟨h1, h2, h3⟩ := h.cons
    exact .mk h1 h2 (h3.snoc r)
theorem PWise.put {β : Type} {R : V → β → Prop} {k : List Int} {b : Addr} {v : V} {d : β} {xs : XT} {es : List (List Int × β)} (h : PWise R xs es) (r : R v d) : PWise R (putX xs k b v) (putE es k d) := by
  unfold putX putE
  rw [h.any k]
  split
  · exact h.repl r
  · exact h.snoc r
theorem putDD_ok {d d' : DD} {p b : Addr} {xs : XT} {k : List Int} {t : OT} {v : V} (h : HoT K F p d (dTo p xs)) (hb : SqT K F b (k.map V.int)) (o : OwnT K F H t v z0) (e : putDD d k t = some d') :
    ∃ ys, dTo p xs = dTo p ys ∧ KsT K F ys ∧ ys.length = lenDD d ∧ HoT K F p d' (dTo p (putX ys k b v)) := by
  unfold putDD at e
  split at e
  · rename_i es x
    cases e
    obtain ⟨ys, h1, h2, h3, h4⟩ := h
    obtain ⟨g1, g2⟩ := put_rel (k := k) (b := b) h3 h4 o.1
    exact ⟨ys, h1, h2, (by simpa using congrArg List.length h3 : ys.length = es.length), _, rfl, put_ks h2 hb, g1, g2⟩
  · rename_i ess es
    cases e
    obtain ⟨ys, h1, h2, h3, h4⟩ := h
    obtain ⟨⟨q, od, u, rfl, f1, zs, rfl, f2, f3, f4⟩, _⟩ := o
    obtain ⟨g1, g2⟩ := PWise.put (k := k) (b := b) (v := .ref q) (d := es) (R := fun v es => ∃ q od zs, v = .ref q ∧ F q = some (.frz od (dTo q zs)) ∧ KsT K F zs ∧ zs.map (·.1) = es.map (·.1) ∧ DpAll K F (zs.map (·.2.2)) (es.map (·.2))) ⟨h3, h4⟩ ⟨q, od, zs, rfl, f1, f2, f3, f4⟩
    exact ⟨ys, h1, h2, (by simpa using congrArg List.length h3 : ys.length = ess.length), _, rfl, put_ks h2 hb, g1, g2⟩
  · cases e
end
/-- what is stored at a turn -/
def keepD (d : DD) (kd : Option PyData) (t : OT) (G : DD → Prop) : Prop := match kd.bind keyI with
  | some k => (match putDD d k t with | some d' => lenDD d < sizeLine ∧ G d' | none => False)
  | none => False
def wDc (d0 : DD) (vs : List Nat) (wi : WI) (g : WG) (wt : WT) (wk wv : WE) : WE := fun ρ Q => wi ρ fun xs ρ1 => still ρ1 vs ∧ ∃ I : Nat → DD → Rho → Prop, I 0 d0 (wipeR ρ1 vs) ∧
  (∀ i x d ρ2, xs[i]? = some x → I i d ρ2 → g x (wipeR ρ2 vs) fun ρ3 => wt ρ3 fun b ρ4 => bmt b (wk ρ4 fun rk ρ5 => wv ρ5 fun rv ρ6 => frzV rv ρ6 fun t ρ7 => keepD d (rk.dat ρ7) t fun d' => I (i + 1) d' ρ7) (I (i + 1) d ρ4)) ∧
  ∀ d ρ2, I xs.length d ρ2 → ∀ p, Q (.tm (.ox p d)) (restR ρ1 (wipeR ρ2 vs) vs)
theorem dTo_inj {p : Addr} {xs ys : XT} (h : dTo p xs = dTo p ys) (P : Heap → Prop) : True := True.intro
/-- the reading of a dict comprehension -/
theorem dc_run {K : PySem.W.Frag} {vs : List Nat} {wi : WI} {g : WG} {wt : WT} {wk wv : WE} {ti : TI} {tg : TG} {tt : TT} {tk tv : TE} {d0 : DD} (nd : vs.Nodup) (h0 : ∀ (F : Hp) (D : Addr), HoT K F D d0 (dTo D []))
    (ri : ∀ (σ : Sg) (H F : Hp) (ρ : Rho) (fr : Fp) (Q : List PyData → Rho → Prop) (R : It → Hp → Prop), SI K F H σ ρ fr → wi ρ Q → (∀ xs H' F' ρ' J, Q xs ρ' → SI K F' H' σ ρ' fr → Kp F H fr F' H' → JOk K F' J xs → R J H') → ti σ H R)
    (rg : RGW K vs tg g) (rt : RT K tt wt) (rk : RE K tk wk) (rv : RE K tv wv) : RE K (tDcX K ti tg tt tk tv vs) (wDc d0 vs wi g wt wk wv) := by
  intro σ H F ρ fr Q Q' S hw kq
  refine ri σ H F ρ fr _ _ S hw fun xs H1 F1 ρ1 J a S1 k1 hJ => ?_
  obtain ⟨hst, I, i0, it, ie⟩ := a
  intro D hD
  obtain ⟨S2, k2⟩ := S1.newL (o := dTo D []) hD
  have frD : ∀ {F H F' H' : Hp}, Kp F H (padd fr (one D)) F' H' → H' D = H D := fun k => k.keep D (by unfold padd one; simp)
  -- what stands ahead of a turn
  refine ⟨fun i m H' => m = xs.length - i ∧ i ≤ xs.length ∧ ∃ ρ' F' ys d, I i d ρ' ∧ SI K F' H' (L2.wipe σ vs) (wipeR ρ' vs) (padd fr (one D)) ∧ Kp F1 H1 fr F' H' ∧ H' D = some (dTo D ys) ∧ HoT K F' D d (dTo D ys), ⟨xs.length, by simp, Nat.zero_le _, wipeR ρ1 vs, F1, [], d0, i0, ?_, k2, upd_same, h0 _ _⟩, ?_⟩
  · have := (S2.wipe vs).wipe vs
    rw [wipe_wipe vs vs σ fun i hi => hi] at this
    exact this
  · rintro i m H2 ⟨rfl, hi, ρ2, F2, ys, d, i2, S3, k3, hDl, hot⟩
    obtain ⟨jstop, jgo⟩ := hJ i F2 H2 k3.exF S3.ex
    by_cases hlt : i < xs.length
    · obtain ⟨x, hx⟩ : ∃ x, xs[i]? = some x := ⟨xs[i], by simp [hlt]⟩
      obtain ⟨go, yl⟩ := jgo x hx
      refine .inr ⟨go, fun H' => ∃ ρ' F' ys d, I (i + 1) d ρ' ∧ SI K F' H' (L2.wipe σ vs) (wipeR ρ' vs) (padd fr (one D)) ∧ Kp F1 H1 fr F' H' ∧ H' D = some (dTo D ys) ∧ HoT K F' D d (dTo D ys), fun H' n => ⟨xs.length - (i + 1), by omega, rfl, hlt, n⟩, fun v H3 y => ?_⟩
      have main : ∀ F3, SI K F3 H3 (L2.wipe σ vs) (wipeR ρ2 vs) (padd fr (one D)) → Kp F1 H1 fr F3 H3 → H3 D = some (dTo D ys) → Same F2 F3 → Dp K F3 v x → turnX K D tg tt tk tv vs σ (fun H' => ∃ ρ' F' ys d, I (i + 1) d ρ' ∧ SI K F' H' (L2.wipe σ vs) (wipeR ρ' vs) (padd fr (one D)) ∧ Kp F1 H1 fr F' H' ∧ H' D = some (dTo D ys) ∧ HoT K F' D d (dTo D ys)) v H3 := by
        intro F3 S4 k4 hD3 sF dp
        refine rg (L2.wipe σ vs) H3 F3 _ _ x v _ _ S4 dp (it i x d ρ2 hx i2) fun σ5 H5 F5 ρ5 a w5 S5 k5 => ?_
        rw [wipe_wipe vs vs σ fun i hi => hi] at w5
        refine ⟨w5, ?_⟩
        refine rt σ5 H5 F5 ρ5 _ _ _ S5 a fun b H6 F6 ρ6 a S6 k6 => ?_
        cases b with
        | true =>
          rw [if_pos rfl]
          refine rk σ5 H6 F6 ρ6 _ _ _ S6 a fun kv H7 F7 ρ7 r7 m7 a o7 S7 k7 => ?_
          refine rv σ5 H7 F7 ρ7 _ _ _ S7 a fun yv H8 F8 ρ8 r8 m8 a o8 S8 k8 => ?_
          obtain ⟨t, ρ9, F9, a, dt9, s9, S9⟩ := frzV_ok S8 o8 (fun a => by unfold padd; omega) a
          have S9' : SI K F9 H8 σ5 ρ9 (padd fr (one D)) := S9.less fun a => by unfold padd; omega
          have hD8 : H8 D = some (dTo D ys) := (frD k8.left).trans ((frD k7).trans ((frD k6).trans ((frD k5).trans hD3)))
          have kk : Kp F1 H1 fr F9 H8 := ((((k4.trans k5.left).trans k6.left).trans k7.left).trans k8.left.left).trans (Kp.ofF s9)
          have sA : Same F2 F9 := sF.trans ((((k5.exF.trans k6.exF).trans k7.exF).trans k8.exF).trans s9)
          have o7' : RVok K F9 H8 σ5 r7 kv m7 := (o7.kp k8).kp (fr := z0) (Kp.ofF s9 |>.less fun a q => (by unfold padd z0 at q; omega))
          unfold keepD at a
          split at a
          · rename_i kk0 e
            obtain ⟨kd, e4, e5⟩ := Option.bind_eq_some_iff.mp e
            obtain ⟨kb, rfl, hkb⟩ := key_dp (o7'.fdp S9' e4 (key_tup e5)) e5
            split at a
            · rename_i d' e6
              obtain ⟨zs, ez, g1, g2, g3⟩ := putDD_ok (v := yv) (hot.kp sA) hkb dt9 e6
              rw [ez] at hD8
              refine ⟨zs, kb, kk0, rfl, same_t S9'.ex hkb, hD8, g1.kp S9'.ex, by rw [g2]; exact a.1, ?_⟩
              have S10 := S9'.wipe vs
              rw [w5] at S10
              obtain ⟨S11, k11⟩ := S10.put (p := D) (by simp [one]) (dTo D (putX zs kk0 kb yv))
              exact ⟨ρ9, F9, _, d', a.2, S11, kk.trans k11, upd_same, g3⟩
            · exact a.elim
          · exact a.elim
        | false =>
          rw [if_neg Bool.false_ne_true]
          refine ⟨ρ6, F6, ys, d, a, ?_, (k4.trans k5.left).trans k6.left, (frD k6).trans ((frD k5).trans hD3), hot.kp (sF.trans (k5.exF.trans k6.exF))⟩
          have := S6.wipe vs
          rw [w5] at this
          exact this
      rcases yl v H3 y with ⟨rfl, dp⟩ | ⟨p, u, hp, rfl, dp⟩
      · exact main F2 S3 k3 hDl (Same.refl _) dp
      · obtain ⟨S4, s4, k4⟩ := S3.newF (o := u) hp
        have hne : D ≠ p := fun e => by subst e; rw [hDl] at hp; cases hp
        exact main _ S4 (k3.trans k4.left) (by rw [upd_ne hne]; exact hDl) s4 dp
    · have e' : i = xs.length := by omega
      subst e'
      refine .inl ⟨jstop (Nat.le_refl _), ?_⟩
      obtain ⟨m9, w9, q9⟩ := S3.own
      obtain ⟨ρ', w10, rfl⟩ := OwnS.rest (ρ0 := ρ1) w9 (fun i hi => by
        rcases still_ok S1 hst i hi with e | ⟨t, u, e1, e2, e3⟩
        · exact .inl e
        · exact .inr ⟨t, u, e1, e2, OwnT.z e3 k3.exF⟩) nd
      exact kq _ H2 F2 _ _ (one D) (ie d ρ2 i2 D) ⟨⟨_, rfl, hDl, hot⟩, rfl⟩ ⟨S3.ex, m9, w10, q9⟩ (k1.trans k3)
section
variable {X : Cx} {kx vx tg iter : Expr} {ifs : List Expr} {scope : Scope} {own : List (Str × Nat)} {pos : Pos} {wi : WI} {g : WG} {wt : WT} {wk wv : WE} {d0 : DD} {n : Nat}
theorem hot_new {K : PySem.W.Frag} {d0 : DD} (h : d0 = .dt [] ∨ d0 = .dd []) (F : Hp) (D : Addr) : HoT K F D d0 (dTo D []) := by
  rcases h with rfl | rfl
  · exact ⟨[], rfl, fun x hx => (by cases hx), rfl, .nil⟩
  · exact ⟨[], rfl, fun x hx => (by cases hx), rfl, fun i v es e => (by simp at e)⟩
theorem de_dc {vs : List Nat} (hr : Room n X.A) (h0 : d0 = .dt [] ∨ d0 = .dd []) (hvs : own.map (·.2) = vs) (nd : vs.Nodup) (hc : X.calm = true) (hN : X.N.Nodup) (hi : DI X tg iter wi) (ok : BlkOk X.N X.env.scope scope own)
    (hg : BlkAll X scope fun Y => DGW Y vs tg g) (ht : BlkAll X scope fun Y => DTs Y ifs wt) (hk : BlkAll X scope fun Y => DE Y kx wk) (he : BlkAll X scope fun Y => DE Y vx wv) (hs : ∀ x, foldedSetIterable iter X.env x = pure x := by intro _; rfl) :
    DE X (.DictComp kx vx [⟨tg, iter, ifs, 0⟩] scope pos) (wDc d0 vs wi g wt wk wv) := by
  subst hvs
  have hu := hr.units
  obtain ⟨⟨ti, pi, ri⟩⟩ := hi
  obtain ⟨a, b, c, pa, pb, pc, ra, rb, rc⟩ := lc_parts (elt := kx) hg ht hk
  obtain ⟨e, e1, e2⟩ := pe_all (I := BIx) (Xs := fun i => X.blk i.1 i.2.1 scope (compEnvC scope i.2.2.2.1 i.2.2.1 X.env) i.2.2.2.2) (K := X.K) (fun _ => rfl) (fun i => he i.1 i.2.1 i.2.2.1 i.2.2.2.1 i.2.2.2.2)
  exact ⟨⟨_, pe_dcX (by omega) hc hN pi ok pa pb pc (fun s H C cl fp => e1 (s, H, C, cl, fp)) hs, dc_run nd (hot_new h0) ri ra rb rc e2⟩⟩
end
end DL

namespace DL
open PySem PySem.Spec PyProof.Rows L2
/-! ### for k, v in d.items(), d a frozen dict with tuples as keys -/
def ItP (a : Addr) (od : Obj) (xs : XT) : It := ⟨fun i H => H a = some (.frz od (dTo a xs)) ∧ i < xs.length, fun i H x H' => ∃ T k b v, xs[i]? = some (k, b, v) ∧ x = .ref T ∧ H T = none ∧ H' = upd H T (.tup [.ref b, v]), fun i H => H a = some (.frz od (dTo a xs)) ∧ xs.length ≤ i⟩
section
variable {P : Program} {w : World} {K : PySem.W.Frag} {elts : List Expr} {kk : Nat} {tpos : Pos}
theorem turn_p (it a : Addr) (od : Obj) (xs : XT) : Turn P w K (.Tuple elts kk tpos) (ItP a od xs) [it] it (fun i h => ∃ es ep ok ov, od.data = .dict es ep ∧ IsItemIter h it a i xs.length ep ok ov) where
  mem := List.mem_singleton.mpr rfl
  obj := fun i h st b hb => by
    obtain ⟨es, ep, ok, ov, _, e⟩ := st
    rw [List.mem_singleton.mp hb]
    exact ⟨_, e, fun v z => nomatch z⟩
  keep := fun i h h' st k => by
    obtain ⟨es, ep, ok, ov, g, e⟩ := st
    exact ⟨es, ep, ok, ov, g, k it (List.mem_singleton.mpr rfl) _ e⟩
  item := by
    intro X hP hw hK hc i pins s σ H E I hf st hg
    subst hP hw hK
    obtain ⟨hH, hi⟩ := hg
    obtain ⟨es0, ep0, ok, ov, hdat, he⟩ := st
    obtain ⟨ho, hd, hz, ys, es, ep, g4, g6, g7, g8, g9⟩ := locked_at I hH
    rw [hdat] at g7
    cases g7
    obtain ⟨k, b, v, hx⟩ : ∃ k b v, xs[i]? = some (k, b, v) := ⟨_, _, _, List.getElem?_eq_getElem hi⟩
    obtain ⟨u, hy, ru⟩ := xrel_get g4 hx
    have hen : es0[i]? = some (entryOfKey (tupleKind (intKind X.prog X.w)) (k, b, u)) := by rw [entry_at (g8 X.prog X.w) i, hy]; rfl
    have hi' : i < es0.size := by rw [g9]; exact hi
    have hget : es0[i] = entryOfKey (tupleKind (intKind X.prog X.w)) (k, b, u) := by
      rw [Array.getElem?_eq_getElem hi'] at hen
      exact Option.some.inj hen
    have hlt : it < s.heap.objs.size := Heap.lt_size he
    rw [← g9] at he
    refine DT.nextI he ⟨od, ho, g6, hdat⟩ hi' fun h' hit hT hzz hk => ?_
    rw [hget] at hit hT
    refine ⟨_, rfl, wpAny_letOwnedTupleGo_items (s := { s with heap := h' }) hit fun h2 he2 sb => ?_⟩
    have hT2 : h2.get? s.heap.objs.size = some { cls := .type "tuple", data := .seq #[.ref b, u] } := (sb.2 _ (Nat.ne_of_gt hlt)).trans hT
    have new : ObjOk X.prog X.w (upd H s.heap.objs.size (.tup [.ref b, v])) h2 s.heap.objs.size (.tup [.ref b, v]) :=
      ⟨by show 2 ≤ sizeLine; decide, [.ref b, u], .cons rfl (.cons ru .nil), ⟨_, hT2, rfl, _, rfl⟩⟩
    have I1 : Inv X pins σ (upd H s.heap.objs.size (.tup [.ref b, v])) { s with heap := h2 } :=
      I.turnedNew (t' := s.toks) (ch := [it]) (fun c ob hc e => (sb.2 c (fun z => hc (List.mem_singleton.mpr z))).trans (hk c ob (fun z => hc (List.mem_singleton.mpr z)) e)) hf (Nat.le_refl _) new
    refine ⟨.ref s.heap.objs.size, _, I1, rfl, ⟨_, k, b, v, hx, rfl, I.hok.fresh (Nat.le_refl _), rfl⟩, ⟨es0, ep0, _, _, hdat, by rw [g9] at he2; exact he2⟩, fun c hc => ?_⟩
    rw [List.mem_singleton.mp hc, upd_ne (Nat.ne_of_lt hlt)]
    exact (hf it (List.mem_singleton.mpr rfl)).1
  done := by
    intro X hP hw hK hc i pins s σ H E I hf st hg
    subst hP hw hK
    obtain ⟨f0, f1, f2, f3, f4, f5⟩ := hf it (List.mem_singleton.mpr rfl)
    obtain ⟨hH, hi⟩ := hg
    obtain ⟨es0, ep0, ok, ov, hdat, he⟩ := st
    obtain ⟨ho, hd, hz, ys, es, ep, g4, g6, g7, g8, g9⟩ := locked_at I hH
    rw [hdat] at g7
    cases g7
    rw [← g9] at he
    exact DT.endI (I.ok.hd hc) he ⟨od, ho, g6, hdat⟩ (by rw [g9]; exact hi) fun h' eb => ⟨rfl, I.turned (t' := s.toks) (fun c ob hc e => eb c ob hc e) f0 f1 f3 f4 f5⟩
  self := fun A i s Q E st h => by
    obtain ⟨es, ep, ok, ov, _, e⟩ := st
    exact PySem.W.kcp_self e h
end
section
variable {X : Cx} {e : Expr} {elts : List Expr} {kk : Nat} {tpos apos cpos : Pos} {wa : WE}
def iItemsX (td : TE) : TI := fun σ H R => td σ H fun x H1 => ∃ a od xs, x = .ref a ∧ H1 a = some (.frz od (dTo a xs)) ∧ R (ItP a od xs) H1
theorem pi_itemsX {td : TE} (he : PE X e td) (hbase : attributeBase e "items" X.env (eval e X.env) = eval e X.env := by rfl) (hline : (apos.endLine == cpos.line) = true := by rfl) :
    PI X (.Tuple elts kk tpos) (.Call (.Attribute e "items" apos) [] [] cpos) (iItemsX td) := by
  refine ⟨fun pins s σ H R I h => wpAny_Call_method (T := "dict") (id := "dict.items") hbase rfl hline PySem.F.plainAttrs_dict PySem.F.slot_dict_items PySem.F.type_dict_items (thn (he.run pins s σ H _ I h) fun u s1 ⟨x, H1, I1, rx, a, od, xs, ex, hH, q⟩ => ?_)⟩
  subst ex
  obtain rfl : u = Value.ref a := rx
  obtain ⟨ho, hd, hz, ys, es, ep, g4, g6, g7, g8, g9⟩ := locked_at I1 hH
  have raw : DT.Raw s1.heap a es ep := ⟨od, ho, g6, g7⟩
  refine ⟨raw.typeIs, fun b z => ?_, ?_⟩
  · cases z
    exact ⟨od, ho, g6.2.1⟩
  have I2 : Inv X pins σ H1 { s1 with heap := s1.heap.push { cls := .type "dict_items", data := .fields #[.ref a] } } := I1.kept (t' := s1.toks) fun b ob z => Heap.get?_push_of_some _ z
  have fin : wpAny (model X.prog X.w) X.A (pyIter (.ref s1.heap.objs.size)) (PIE X pins σ (.Tuple elts kk tpos) R) X.xe { s1 with heap := s1.heap.push { cls := .type "dict_items", data := .fields #[.ref a] } } := by
    refine DT.iterI (d := a) ⟨_, Heap.get?_push_size _ rfl, rfl, rfl⟩ (raw.push _) (pi_one (tk := s1.toks) I2 _ (turn_p _ a od xs) ⟨es, ep, .none, .none, g7, ?_⟩ q)
    rw [← g9]
    exact Heap.get?_push_size _ rfl
  show wpAny _ _ (callWith cpos (.builtin "dict.items") [.ref a] [] []) _ X.xe s1
  exact method_meetsIn PySem.F.slot_dict_items PySem.F.entry_dict_items rfl (PySem.evalArgs_none ⟨rfl, raw.typeIs, PySem.F.args_dict_items_1 _, _, DT.meetsItems (es := es) (ep := ep) hd, raw, fin⟩)
/-- the pairs of a dict -/
def itemsD (es : List (List Int × PyData)) : List PyData := es.map fun x => .tuple [keyD x.1, x.2]
def wItemsT (wa : WE) : WI := fun ρ Q => wa ρ fun r ρ1 => match r.ot ρ1 with
  | some (.fx (.dt es)) => Q (itemsD es) ρ1
  | _ => False
theorem jok_items {K : PySem.W.Frag} {F : Hp} {a : Addr} {od : Obj} {xs : XT} {es : List (List Int × PyData)} (hF : F a = some (.frz od (dTo a xs))) (hk : KsT K F xs) (he : xs.map (·.1) = es.map (·.1)) (hv : DpAll K F (xs.map (·.2.2)) (es.map (·.2))) :
    JOk K F (ItP a od xs) (itemsD es) := by
  have hl : xs.length = es.length := by simpa using congrArg List.length he
  intro i F' H' s s'
  have hH : H' a = some (.frz od (dTo a xs)) := s' _ _ (s _ _ hF)
  have hlk : (itemsD es).length = es.length := List.length_map ..
  refine ⟨fun hz => ⟨hH, by omega⟩, fun d hd => ?_⟩
  obtain ⟨x, hx, rfl⟩ : ∃ x, es[i]? = some x ∧ PyData.tuple [keyD x.1, x.2] = d := by
    unfold itemsD at hd
    rw [List.getElem?_map] at hd
    cases q : es[i]? with
    | none => rw [q] at hd; cases hd
    | some x => rw [q] at hd; cases hd; exact ⟨x, rfl, rfl⟩
  have hi := (List.getElem?_eq_some_iff.mp hx).1
  refine ⟨⟨hH, by omega⟩, fun v H'' y => .inr ?_⟩
  obtain ⟨T, k, b, w, e1, rfl, hT, rfl⟩ := y
  have e2 : (xs.map (·.1))[i]? = (es.map (·.1))[i]? := by rw [he]
  rw [List.getElem?_map, List.getElem?_map, e1, hx] at e2
  have e3 : k = x.1 := Option.some.inj e2
  subst e3
  obtain ⟨w', e4, dw⟩ := DpAll.get hv (i := i) (d := x.2) (by rw [List.getElem?_map, hx]; rfl)
  rw [List.getElem?_map, e1] at e4
  have e5 : w = w' := Option.some.inj e4
  subst e5
  have hFT : F' T = none := by
    cases q : F' T with
    | none => rfl
    | some o => rw [s' _ _ q] at hT; cases hT
  have sU : Same F' (upd F' T (.tup [.ref b, w])) := fun c o e => by
    rw [upd_ne fun z => by subst z; rw [hFT] at e; cases e]
    exact e
  exact ⟨T, _, hT, rfl, .tup (.inl (.inl upd_same)) (.cons (dpm (s.trans sU) _ _ (dp_key (hk _ (List.mem_of_getElem? e1)))) (.cons (dpm (s.trans sU) _ _ dw) .nil))⟩
theorem di_itemsT (he : DE X e wa) (hbase : attributeBase e "items" X.env (eval e X.env) = eval e X.env := by rfl) (hline : (apos.endLine == cpos.line) = true := by rfl) : DI X (.Tuple elts kk tpos) (.Call (.Attribute e "items" apos) [] [] cpos) (wItemsT wa) := by
  obtain ⟨⟨t, p, r⟩⟩ := he
  refine ⟨⟨_, pi_itemsX p hbase hline, fun σ H F ρ fr Q R S h k => ?_⟩⟩
  refine r σ H F ρ fr _ _ S h fun v1 H1 F1 ρ1 r1 m1 hw o1 S1 k1 => ?_
  split at hw
  · rename_i es hr
    obtain ⟨m', ow⟩ := o1.own S1 hr
    obtain ⟨⟨a, od, u, rfl, h1, xs, rfl, h2, h3, h4⟩, _⟩ := ow
    exact ⟨a, od, xs, rfl, S1.ex _ _ h1, k _ H1 F1 ρ1 _ hw S1.left k1 (jok_items h1 h2 h3 h4)⟩
  · exact hw.elim
end
end DL

namespace DL
open PySem PySem.Spec PyProof.Rows L2 PySem.Calls
/-- what is walked is gathered in a list; the heap has grown -/
theorem gather {prog : Program} {w : World} {A : Around} {E : Value → Shared → Prop} {s : Shared} {T : String} {r d : Addr} {n : Nat} {P : Nat → Value → Prop} {OK : Heap → Prop} {R : List Value → Shared → Prop}
    (K : PySem.W.KdlSrc prog w T r d n P OK) (hd : A.handled = none) (ok : OK s.heap) (hn : n ≤ sizeLine)
    (fin : ∀ (g : Heap) (tk : Nat) (xs : Array Value), (∀ b o, s.heap.get? b = some o → g.get? b = some o) → s.heap.objs.size < g.objs.size → ItemsOf P xs n → R xs.toList { s with heap := g, toks := tk }) :
    wpAny (model prog w) A (collect (.ref r)) R E s := by
  obtain ⟨lr, ld⟩ := K.there _ ok
  unfold collect
  refine wpAny_bind (wpAny_runValue (codeAny_builtin entry_proto_collect' ?_))
  rw [Around.under_plainId PySem.F.plain_proto_collect _]
  show wpAny _ A.in1 (newList [] >>= fun z => again (.builtin "list.__iadd__" ⟨[z, .ref r], []⟩)) _ _ s
  refine wpAny_bind (wpAny_newObj_type (wpAny_pure ⟨plainId_quiet PySem.F.plain_list_iadd _, codeAny_builtin entry_list_iadd' ?_⟩))
  rw [Around.under_plainId PySem.F.plain_list_iadd _]
  show wpAny _ A.in1 (Builtin.List.listExtendWith (.ref s.heap.objs.size) (.ref r) (.ref s.heap.objs.size)) _ _ _
  have at0 : (s.heap.push { cls := .type "list", data := .seq ([] : List Value).toArray }).get? s.heap.objs.size = some { cls := .type "list", data := .seq #[] } := Heap.get?_push_size _ rfl
  let Made (q : Result) (t : Shared) : Prop := ∃ (g : Heap) (tk : Nat) (xs : Array Value) (c : Nat), q = .ok (.ret (.ref s.heap.objs.size)) ∧ t = { s with heap := g, toks := tk } ∧ (∀ b o, s.heap.get? b = some o → g.get? b = some o) ∧
    g.get? s.heap.objs.size = some { cls := .type "list", dict := none, data := .seq xs c, slots := #[] } ∧ ItemsOf P xs n
  refine wpAny_mono (PySem.W.kdl_extend (A := A) (s := { s with heap := s.heap.push { cls := .type "list", data := .seq ([] : List Value).toArray } }) (R := Made) K hd (K.keep _ _ ok fun b _ o e => Heap.get?_push_of_some _ e) s.heap.objs.size (Nat.ne_of_gt lr) (Nat.ne_of_gt ld) (.ref s.heap.objs.size) 0 at0
    (fun g tk xs c keep hg it => ⟨g, tk, xs, c, rfl, rfl, fun b o e => keep b o (Nat.ne_of_lt (Heap.lt_size e)) (Heap.get?_push_of_some _ e), hg, it⟩) hn) (fun f t x => ?_) fun e t x => ?_
  · cases f with
    | done f =>
      obtain ⟨g, tk, xs, c, e, rfl, keep, hg, it⟩ := x
      cases e
      exact wpAny_bind (wpAny_load hg (wpAny_pure (fin g tk xs keep (Heap.lt_size hg) it)))
    | again f =>
      refine ⟨x.1, codeAny_mono x.2 fun q t y => ?_⟩
      obtain ⟨g, tk, xs, c, rfl, rfl, keep, hg, it⟩ := y
      exact wpAny_bind (wpAny_load hg (wpAny_pure (fin g tk xs keep (Heap.lt_size hg) it)))
  · obtain ⟨_, _, _, _, e', _⟩ := x
    cases e'
/-! ### sorted(d), d a dict with pairs as keys -/
abbrev PA2 := (Int × Int) × Addr
def prK (z : Int × Int) : List Int := [z.1, z.2]
def lexLe (p q : Int × Int) : Prop := p.1 < q.1 ∨ (p.1 = q.1 ∧ p.2 ≤ q.2)
section
variable {X : Cx} {pins : List (Addr × Obj)} {σ : L2.St} {H : Hp} {s : Shared}
theorem reads_ints {h : Heap} {P : Program} {w : World} : ∀ {ks : List Int} {us : List Value}, ItemsAre (intKind P w) ks us → ReadsAll h us (ks.map .int) []
  | [], _, q => by cases q; exact .nil
  | k :: ks, _, q => by
    cases q with
    | cons a b =>
      obtain ⟨t, rfl⟩ := Value.isInt_shape (show Value.isInt k _ = true from a)
      exact .cons (as := []) (bs := []) (.int k t) (reads_ints b)
theorem key_reads {h : Heap} {P : Program} {w : World} {k : List Int} {b : Addr} (x : (tupleKind (intKind P w)).is h k b) : Reads h (.ref b) (keyD k) [] := by
  obtain ⟨o, items, n, h1, h2, h3, h4⟩ := x
  exact .tuple h1 h2 h3 (reads_ints h4)
def rSortX (K : PySem.W.Frag) : List V → Hp → VK → Prop := fun vs H Q => ∃ a xs, vs = [.ref a] ∧ Rd H a (dTo a xs) ∧ KsT K H xs ∧ (∀ x ∈ xs, ∃ z : Int × Int, x.1 = prK z) ∧
  ∀ zs : List PA2, (zs.map fun z => (prK z.1, z.2)).Perm (xs.map fun x => (x.1, x.2.1)) → (zs.Pairwise fun p q => lexLe p.1 q.1) → ∀ p, H p = none → Q (.ref p) (upd H p (.lst (zs.map fun z => V.ref z.2)))
theorem pairs_of {xs : XT} (h : ∀ x ∈ xs, ∃ z : Int × Int, x.1 = prK z) : ∃ bs : List PA2, xs.map (fun x => (x.1, x.2.1)) = bs.map fun z => (prK z.1, z.2) := by
  induction xs with
  | nil => exact ⟨[], rfl⟩
  | cons x xs ih =>
    obtain ⟨z, hz⟩ := h x (by simp)
    obtain ⟨bs, e⟩ := ih fun y hy => h y (List.mem_cons_of_mem _ hy)
    exact ⟨(z, x.2.1) :: bs, by rw [List.map_cons, List.map_cons, e, hz]⟩
def encP (z : PA2) : PyData := .tuple [.int z.1.1, .int z.1.2]
theorem each_refs {R : Value → PA2 → Prop} : ∀ bs : List PA2, (∀ z ∈ bs, R (.ref z.2) z) → PySem.W.EachIs R (bs.map fun z => Value.ref z.2) bs
  | [], _ => .nil
  | z :: bs, hR => .cons (hR z (by simp)) (each_refs bs fun y hy => hR y (List.mem_cons_of_mem _ hy))
theorem each_eq : ∀ {out : List Value} {bs : List PA2}, PySem.W.EachIs (fun v z => v = Value.ref z.2) out bs → out = bs.map fun z => Value.ref z.2
  | _, _, .nil => rfl
  | _, _, .cons h t => by rw [List.map_cons, h, each_eq t]
theorem cr_sortedX (hc : X.calm = true) (hu : X.A.units + 64 < cLine) : CallR X (.builtin "sorted") (rSortX X.K) := by
  intro pins s σ H vs us Q I r h
  obtain ⟨a, xs, rfl, e, hk, hz2, q⟩ := h
  rw [Vals.ref1 r]
  obtain ⟨h1, h2, h3, ys, h4, o, es, ep, h5, h6, h7, h8⟩ := dTo_at I.hok e
  have hlen : es.size = xs.length := by rw [size_of_entries (h8 X.prog X.w), xrel_len h4]
  obtain ⟨bs, hbs⟩ := pairs_of hz2
  have hbl : bs.length = xs.length := by have := congrArg List.length hbs; simpa using this.symm
  have hd := I.ok.hd hc
  refine call_function_entry kind_sorted plain_sorted entry_sorted (args_sorted1 _) ?_
  unfold Builtin.«sorted»
  refine wpAny_bind (m := checkCount "sorted" 1 1 _) (wpAny_pure ?_)
  refine wpAny_bind (gather (A := X.A.in1) (kdl_raw h2 h6 h7) hd h5 (by rw [hlen]; exact h1) fun h' tk acc keep grow got => ?_)
  have eacc : acc.toList = bs.map fun z => Value.ref z.2 := by
    have hl : acc.toList.length = bs.length := by rw [Array.length_toList, got.1, hlen, hbl]
    apply List.ext_getElem?
    intro j
    rw [List.getElem?_map]
    cases hj : acc.toList[j]? with
    | none =>
      have hj := List.getElem?_eq_none_iff.mp hj
      rw [List.getElem?_eq_none (by omega)]
      rfl
    | some v =>
      obtain ⟨en, hen, rfl⟩ := got.2 j v (by rw [← Array.getElem?_toList]; exact hj)
      have hlt : j < xs.length := by rw [← hlen]; exact (Array.getElem?_eq_some_iff.mp hen).1
      obtain ⟨k, b, v, hx⟩ : ∃ k b v, xs[j]? = some (k, b, v) := ⟨_, _, _, List.getElem?_eq_getElem hlt⟩
      obtain ⟨u, hy, ru⟩ := xrel_get h4 hx
      rw [entry_at (h8 X.prog X.w) j, hy] at hen
      have hen : entryOfKey (tupleKind (intKind X.prog X.w)) (k, b, u) = en := Option.some.inj hen
      have hb : (bs.map fun z => (prK z.1, z.2))[j]? = some (k, b) := by rw [← hbs, List.getElem?_map, hx]; rfl
      rw [List.getElem?_map] at hb
      cases hq : bs[j]? with
      | none => rw [hq] at hb; cases hb
      | some z =>
        rw [hq] at hb
        have hb := Option.some.inj hb
        rw [← hen, show b = z.2 from (congrArg Prod.snd hb).symm]
        rfl
  refine wpAny_bind (wpAny_newList ?_ (by rw [eacc, List.length_map, hbl]; exact h1))
  have hbz : ∀ z ∈ bs, SqT X.K H z.2 ((prK z.1).map V.int) := fun z hz => by
    have : (prK z.1, z.2) ∈ xs.map fun x => (x.1, x.2.1) := by rw [hbs]; exact List.mem_map.mpr ⟨z, hz, rfl⟩
    obtain ⟨x, hx, ex⟩ := List.mem_map.mp this
    have e1 : x.1 = prK z.1 := congrArg Prod.fst ex
    have e2 : x.2.1 = z.2 := congrArg Prod.snd ex
    rw [← e1, ← e2]
    exact hk x hx
  have gone : ∀ (o' : Obj) {b : Addr} {u : Obj}, s.heap.get? b = some u → (h'.push o').get? b = some u := fun o' b u e => Heap.get?_push_of_some _ (keep _ _ e)
  have ho : (h'.push { cls := .type "list", data := .seq acc.toList.toArray }).get? h'.objs.size = some (seqObj "list" acc.toList.toArray 0) := Heap.get?_push_size _ rfl
  refine wpAny_bind (wpAny_holding (PySem.W.list_sort_data (A := X.A.in1) (s := { s with heap := h'.push { cls := .type "list", data := .seq acc.toList.toArray }, toks := tk }) (bs := bs) (enc := encP) (R := fun v z => v = Value.ref z.2) ho
    (by rw [eacc]; exact each_refs bs fun z _ => rfl) (by
      rw [eacc]
      refine each_refs bs fun z hz => ⟨[], ?_, List.not_mem_nil⟩
      obtain ⟨oz, items, n, g1, g2, g3, g4⟩ := key_at I (hbz z hz)
      exact key_reads (P := X.prog) (w := X.w) (k := prK z.1) ⟨oz, items, n, gone _ g1, g2, g3, g4⟩)
    (fun d hd d' hd' => by
      obtain ⟨z, _, rfl⟩ := List.mem_map.mp hd
      obtain ⟨z', _, rfl⟩ := List.mem_map.mp hd'
      rfl)
    (.inl fun d hd => by
      obtain ⟨z, _, rfl⟩ := List.mem_map.mp hd
      exact ⟨_, _, rfl⟩) (by rw [hbl]; exact h1) (fun z _ => by
      have e1 : (encP z).depth = 1 := rfl
      rw [e1]
      have := units_in1 X.A
      omega) fun out hl ho2 => ?_))
  have hout := each_eq ho2
  have hle : PySem.W.dataLe false encP = fun p q : PA2 => decide (p.1.1 < q.1.1 ∨ (p.1.1 = q.1.1 ∧ p.1.2 ≤ q.1.2)) := PySem.W.dataLe_ii (fun z : PA2 => z.1.1) fun z => z.1.2
  rw [hle] at hout
  obtain ⟨zs, hzs⟩ : ∃ zs, bs.mergeSort (fun p q : PA2 => decide (p.1.1 < q.1.1 ∨ (p.1.1 = q.1.1 ∧ p.1.2 ≤ q.1.2))) = zs := ⟨_, rfl⟩
  rw [hzs] at hout
  have pm : zs.Perm bs := by rw [← hzs]; exact List.mergeSort_perm _ _
  have pw : zs.Pairwise fun p q => lexLe p.1 q.1 := by
    rw [← hzs]
    have := List.pairwise_mergeSort (le := fun p q : PA2 => decide (p.1.1 < q.1.1 ∨ (p.1.1 = q.1.1 ∧ p.1.2 ≤ q.1.2))) (fun a b c h1 h2 => by
      have h1 := of_decide_eq_true h1
      have h2 := of_decide_eq_true h2
      exact decide_eq_true (by omega)) (fun a b => by
      rw [Bool.or_eq_true, decide_eq_true_eq, decide_eq_true_eq]
      omega) bs
    exact this.imp fun h => of_decide_eq_true h
  obtain ⟨en, hen⟩ := sortedHeap_at (out := out.toArray) ho
  have kept : ∀ b u, s.heap.get? b = some u → (sortedHeap (h'.push { cls := .type "list", data := .seq acc.toList.toArray }) h'.objs.size acc.toList out.toArray).get? b = some u := fun b u e => by
    have hb : b < h'.objs.size := Nat.lt_trans (Heap.lt_size e) grow
    rw [sortedHeap_old (Nat.ne_of_lt hb) (by rw [Heap.size_push]; exact Nat.lt_succ_of_lt hb)]
    exact gone _ e
  have hzl : zs.length = xs.length := by rw [pm.length_eq, hbl]
  have new : ObjOk X.prog X.w (upd H h'.objs.size (.lst (zs.map fun z => V.ref z.2))) (sortedHeap (h'.push { cls := .type "list", data := .seq acc.toList.toArray }) h'.objs.size acc.toList out.toArray) h'.objs.size (.lst (zs.map fun z => V.ref z.2)) := by
    refine ⟨by rw [List.length_map, hzl]; exact h1, out, en, ?_, hen⟩
    rw [hout]
    have : ∀ zs : List PA2, Vals (zs.map fun z => V.ref z.2) (zs.map fun z => Value.ref z.2) := by
      intro zs
      induction zs with
      | nil => exact .nil
      | cons z zs ih => exact .cons rfl ih
    exact this zs
  have J := I.laid (t' := tk) kept (Nat.le_of_lt grow) new
  have pm2 : (zs.map fun z => (prK z.1, z.2)).Perm (xs.map fun x => (x.1, x.2.1)) := by
    rw [hbs]
    exact pm.map _
  exact wpAny_pure ⟨_, rfl, .ref h'.objs.size, _, J, rfl, q zs pm2 pw _ (I.hok.fresh (Nat.le_of_lt grow))⟩
end
end DL

namespace DL
open PySem PySem.Spec PyProof.Rows L2 PySem.Calls
/-! ### dict(xs), xs a list of pairs, a tuple and a value each -/
theorem storedAll_new {κ : Type} [DecidableEq κ] : ∀ (ps acc : List (κ × Addr × Value)), ((acc ++ ps).map (·.1)).Nodup → storedAllH acc ps = acc ++ ps
  | [], acc, _ => by rw [List.append_nil]; rfl
  | p :: ps, acc, h => by
    have e : storedAllH acc (p :: ps) = storedAllH (storedH acc p.1 p.2.1 p.2.2) ps := rfl
    have hn : atKey acc p.1 = none := by
      unfold atKey
      rw [Option.map_eq_none_iff, List.find?_eq_none]
      intro x hx hq
      have hq := of_decide_eq_true hq
      rw [List.map_append, List.nodup_append] at h
      exact h.2.2 x.1 (List.mem_map.mpr ⟨x, hx, rfl⟩) p.1 (by simp) hq
    rw [e, storedH_new hn, storedAll_new ps _ (by simpa using h)]
    simp
def rDictX (K : PySem.W.Frag) : List V → Hp → VK → Prop := fun vs H Q => ∃ (l : Addr) (ts : List Addr) (ps : XT), vs = [.ref l] ∧ SqL K H l (ts.map V.ref) ∧ ts.length = ps.length ∧
  (∀ (j : Nat) t k b v, ts[j]? = some t → ps[j]? = some (k, b, v) → SqT K H t [.ref b, v] ∧ SqT K H b (k.map V.int)) ∧ (ps.map (·.1)).Nodup ∧ ps.length ≤ sizeLine ∧ ∀ p, H p = none → Q (.ref p) (upd H p (dTo p ps))
section
variable {X : Cx} {pins : List (Addr × Obj)} {σ : L2.St} {H : Hp} {s : Shared}
theorem pairs_at (I : Inv X pins σ H s) : ∀ {ts : List Addr} {ps : XT}, ts.length = ps.length → (∀ (j : Nat) t k b v, ts[j]? = some t → ps[j]? = some (k, b, v) → SqT X.K H t [.ref b, v]) →
    ∃ ys : YT, XRel ps ys ∧ ∀ (j : Nat) t k b u, ts[j]? = some t → ys[j]? = some (k, b, u) → IsTup s.heap t #[.ref b, u]
  | [], [], _, _ => ⟨[], .nil, fun j t k b u e => by simp at e⟩
  | [], _ :: _, e, _ => by simp at e
  | _ :: _, [], e, _ => by simp at e
  | t :: ts, (k, b, v) :: ps, e, h => by
    obtain ⟨ys, r, g⟩ := pairs_at I (ts := ts) (ps := ps) (by simpa using e) fun j t k b v e1 e2 => h (j + 1) t k b v (by simpa using e1) (by simpa using e2)
    obtain ⟨its, rv, tp, _⟩ := I.tuple (h 0 t k b v rfl rfl)
    cases rv with
    | @cons x1 u1 _ _ r1 rr =>
      cases rr with
      | @cons x2 u2 _ _ r2 rr =>
        cases rr
        obtain rfl : u1 = Value.ref b := r1
        refine ⟨(k, b, u2) :: ys, .cons ⟨rfl, rfl, r2⟩ r, fun j t' k' b' u' e1 e2 => ?_⟩
        cases j with
        | zero =>
          cases e1
          cases e2
          exact tp
        | succ j => exact g j t' k' b' u' (by simpa using e1) (by simpa using e2)
theorem xrel_keys {xs : XT} {ys : YT} (r : XRel xs ys) : xs.map (·.1) = ys.map (·.1) := by
  induction r with
  | nil => rfl
  | cons h t ih => rw [List.map_cons, List.map_cons, h.1, ih]
theorem xrel_back {xs : XT} {ys : YT} (r : XRel xs ys) : ∀ {i : Nat} {k : List Int} {b : Addr} {u : Value}, ys[i]? = some (k, b, u) → ∃ v, xs[i]? = some (k, b, v) := by
  induction r with
  | nil => intro i k b v e; cases i <;> cases e
  | @cons x y xs ys h t ih =>
    intro i k b v e
    cases i with
    | zero =>
      cases e
      obtain ⟨x1, x2, x3⟩ := x
      obtain ⟨h1, h2, h3⟩ := h
      cases h1
      cases h2
      exact ⟨x3, rfl⟩
    | succ i => exact ih (i := i) (by simpa using e)
theorem cr_dictX (hc : X.calm = true) (hu : X.A.units + 64 < cLine) : CallR X (.type "dict") (rDictX X.K) := by
  intro pins s σ H vs us Q I r h
  obtain ⟨l, ts, ps, rfl, hl, hlen, hp, nd, hz, q⟩ := h
  rw [Vals.ref1 r]
  obtain ⟨its, rv, pl, _⟩ := I.list hl
  have eits : its = ts.map Value.ref := by
    have : ∀ (ts : List Addr) (its : List Value), Vals (ts.map V.ref) its → its = ts.map Value.ref := by
      intro ts
      induction ts with
      | nil => intro its r; cases r; rfl
      | cons t ts ih => intro its r; cases r with
        | cons a b => rw [List.map_cons, ← ih _ b, show _ = Value.ref t from a]
    exact this ts its rv
  obtain ⟨ys, rel, tup⟩ := pairs_at I hlen fun j t k b v e1 e2 => (hp j t k b v e1 e2).1
  have hyl : ys.length = ts.length := by rw [← xrel_len rel, hlen]
  have keyIs : ∀ {i : Nat} {k : List Int} {b : Addr} {u : Value}, ys[i]? = some (k, b, u) → (tupleKind (intKind X.prog X.w)).is s.heap k b := by
    intro i k b u e
    obtain ⟨v, ev⟩ := xrel_back rel e
    obtain ⟨t, et⟩ : ∃ t, ts[i]? = some t := ⟨_, List.getElem?_eq_getElem (by rw [← hyl]; exact (List.getElem?_eq_some_iff.mp e).1)⟩
    exact key_at I (hp i t k b v et ev).2
  have P := PairArg.list (prog := X.prog) (w := X.w) l its.toArray (fun j => ts.getD j 0) (ys.map fun y => (Value.ref y.2.1, y.2.2))
  have hsz : ∀ b o, s.heap.get? b = some o → b ≠ s.heap.objs.size := fun b o e => Nat.ne_of_lt (Heap.lt_size e)
  refine call_dict_pairsH (knd := tupleKind (intKind X.prog X.w)) (ps := ys) P (I.ok.hd hc) (by show X.A.in1.in1.units < cLine; have := units_in1 X.A; have := units_in1 X.A.in1; omega) ⟨pl, ?_, ?_⟩ ⟨by rw [List.length_map], ?_⟩ ?_ (by rw [List.length_map, hyl, hlen]; exact hz) fun h' tk dd keep => ?_
  · rw [List.length_map, eits, List.size_toArray, List.length_map, hyl]
  · intro j k v e
    rw [List.getElem?_map] at e
    cases hy : ys[j]? with
    | none => rw [hy] at e; cases e
    | some y =>
      rw [hy] at e
      cases e
      obtain ⟨t, et⟩ : ∃ t, ts[j]? = some t := ⟨_, List.getElem?_eq_getElem (by rw [← hyl]; exact (List.getElem?_eq_some_iff.mp hy).1)⟩
      have ed : ts.getD j 0 = t := by rw [List.getD_eq_getElem?_getD, et]; rfl
      dsimp only
      rw [ed, eits]
      refine ⟨by simp [et], .inl (tup j t y.1 y.2.1 y.2.2 et hy)⟩
  · intro i key v e
    have e : (ys.map fun y => (Value.ref y.2.1, y.2.2))[i]? = some (key, v) := e
    rw [List.getElem?_map] at e
    cases hy : ys[i]? with
    | none => rw [hy] at e; cases e
    | some y =>
      rw [hy] at e
      cases e
      exact ⟨y.1, y.2.1, rfl, rfl⟩
  · intro h' k x hx
    obtain ⟨i, hi⟩ := List.mem_iff_getElem?.mp hx
    obtain ⟨o, items, n, g1, g2, g3, g4⟩ := keyIs hi
    exact ⟨o, items, n, k _ _ (hsz _ _ g1) List.not_mem_nil g1, g2, g3, g4⟩
  · rw [storedAll_new ys [] (by rw [List.nil_append, ← xrel_keys rel]; exact nd), List.nil_append] at dd
    obtain ⟨o, es, ep, g1, g2, g3, g4, _, _⟩ := dd
    have new : ObjOk X.prog X.w (upd H s.heap.objs.size (dTo s.heap.objs.size ps)) h' s.heap.objs.size (dTo s.heap.objs.size ps) :=
      dTo_ok ⟨hz, beq_eq_false_iff_ne.mpr (Ne.symm (Nat.ne_of_lt I.big)), nd, ys, rel, o, es, ep, g1, g2, g3, ents_of g4⟩
    exact ⟨.ref s.heap.objs.size, _, I.laid (t' := tk) (fun b u e => keep b u List.not_mem_nil e) (Nat.le_refl _) new, rfl, q _ (I.hok.fresh (Nat.le_refl _))⟩
end
end DL

namespace DL
open PySem PySem.Spec PyProof.Rows L2
/-! ### sorted(d), dict(xs) as data -/
def wSortT (wa : WE) : WE := fun ρ Q => wa ρ fun r ρ1 => match (r.ot ρ1).bind OT.dict with
  | some (.dt es) => (∀ x ∈ es, ∃ z : Int × Int, x.1 = prK z) ∧ ∀ zs : List (Int × Int), (zs.map prK).Perm (es.map (·.1)) → zs.Pairwise lexLe → ∀ p, Q (.tm (.lst p (zs.map fun z => keyD (prK z)))) ρ1
  | _ => False
/-- the entries that a list of pairs tells -/
def pairD : PyData → Option (List Int × PyData)
  | .tuple [k, v] => (keyI k).map fun i => (i, v)
  | _ => none
def pairsD : List PyData → Option (List (List Int × PyData))
  | [] => some []
  | d :: ds => (match pairD d, pairsD ds with | some e, some es => some (e :: es) | _, _ => none)
def wDictP (wa : WE) : WE := fun ρ Q => wa ρ fun r ρ1 => match r.ot ρ1 with
  | some (.lst _ ds) => (match pairsD ds with
    | some es => (es.map (·.1)).Nodup ∧ es.length ≤ sizeLine ∧ ∀ p, Q (.tm (.ox p (.dt es))) ρ1
    | none => False)
  | _ => False
section
variable {K : PySem.W.Frag} {F : Hp}
theorem pairs_dp : ∀ {ds : List PyData} {vs : List V} {es : List (List Int × PyData)}, DpAll K F vs ds → pairsD ds = some es →
    ∃ (ts : List Addr) (ps : XT), vs = ts.map V.ref ∧ ts.length = ps.length ∧ (∀ (j : Nat) t k b v, ts[j]? = some t → ps[j]? = some (k, b, v) → SqT K F t [.ref b, v] ∧ SqT K F b (k.map V.int)) ∧ ps.map (·.1) = es.map (·.1) ∧ DpAll K F (ps.map (·.2.2)) (es.map (·.2)) ∧ KsT K F ps
  | [], _, es, .nil, e => by
    cases e
    exact ⟨[], [], rfl, rfl, fun j t k b v h => by simp at h, rfl, .nil, fun x h => by cases h⟩
  | d :: ds, _, es, .cons h1 h2, e => by
    unfold pairsD at e
    split at e
    · rename_i e0 es' q1 q2
      cases e
      obtain ⟨ts, ps, rfl, g1, g2, g3, g4, g5⟩ := pairs_dp h2 q2
      unfold pairD at q1
      split at q1
      · rename_i k v
        obtain ⟨ki, hk, rfl⟩ := Option.map_eq_some_iff.mp q1
        cases h1 with
        | @tup t xs _ hs ha =>
          cases ha with
          | @cons x1 _ _ _ a1 ar =>
            cases ar with
            | @cons x2 _ _ _ a2 ar =>
              cases ar
              obtain ⟨b, rfl, hb⟩ := key_dp a1 hk
              refine ⟨t :: ts, (ki, b, x2) :: ps, rfl, by rw [List.length_cons, List.length_cons, g1], fun j t' k' b' v' e1 e2 => ?_, by rw [List.map_cons, List.map_cons, g3], .cons a2 g4, fun x hx => ?_⟩
              · cases j with
                | zero => cases e1; cases e2; exact ⟨hs, hb⟩
                | succ j => exact g2 j t' k' b' v' (by simpa using e1) (by simpa using e2)
              · rcases List.mem_cons.mp hx with rfl | hx
                · exact hb
                · exact g5 x hx
      · cases q1
    · cases e
end
section
variable {X : Cx} {e : Expr} {wa : WE} {p pos : Pos} {n : Nat}
theorem de_sortT (hr : Room n X.A) (hc : X.calm = true) (hg : Gl X "sorted") (hm : X.mg "sorted" = none) (ha : DE X e wa) (hv : bootBuiltins "sorted" = some (.builtin "sorted") := by decide +kernel)
    (h1 : starEach [e] X.env = (false, eval e X.env) :: starEach [] X.env := by rfl) (hpl : (backTo pos (starEach [] X.env)).any (·.1) = false := by rfl) : DE X (.Call (.Name "sorted" p) [e] [] pos) (wSortT wa) := by
  obtain ⟨⟨ta, pa, ra⟩⟩ := ha
  have hu := hr.units
  refine ⟨⟨_, pe_callB (cr_sortedX hc (by omega)) hg hm hv (pa_cons pa pa_nil h1) (by decide) (by decide) h1 hpl, fun σ H F ρ fr Q Q' S hw k => ?_⟩⟩
  refine ra σ H F ρ fr _ _ S hw fun v1 H1 F1 ρ1 r1 m1 hw o1 S1 k1 => ?_
  split at hw
  · rename_i es hr
    obtain ⟨t, ht, hd⟩ := Option.bind_eq_some_iff.mp hr
    obtain ⟨m', ow⟩ := o1.own S1 ht
    obtain ⟨a, u, rfl, rd, xs, rfl, g1, g2, g3⟩ := own_dict ow S1.ex hd
    obtain ⟨h2, hw⟩ := hw
    have hx2 : ∀ x ∈ xs, ∃ z : Int × Int, x.1 = prK z := fun x hx => by
      have : x.1 ∈ es.map (·.1) := by rw [← g2]; exact List.mem_map.mpr ⟨x, hx, rfl⟩
      obtain ⟨y, hy, ey⟩ := List.mem_map.mp this
      obtain ⟨z, hz⟩ := h2 y hy
      exact ⟨z, by rw [← ey]; exact hz⟩
    refine ⟨a, xs, rfl, rd, g1.up S1.ex, hx2, fun zs pm pw q hq => ?_⟩
    obtain ⟨S2, k2⟩ := S1.newL (o := .lst (zs.map fun z => V.ref z.2)) hq
    have pk : ((zs.map (·.1)).map prK).Perm (es.map (·.1)) := by
      have := pm.map (·.1)
      rw [List.map_map, List.map_map] at this
      rw [List.map_map, ← g2]
      exact this
    have pp : (zs.map (·.1)).Pairwise lexLe := by rw [List.pairwise_map]; exact pw
    have dp : DpAll X.K F1 (zs.map fun z => V.ref z.2) ((zs.map (·.1)).map fun z => keyD (prK z)) := by
      have mem : ∀ z ∈ zs, SqT X.K F1 z.2 ((prK z.1).map V.int) := fun z hz => by
        have : (prK z.1, z.2) ∈ xs.map fun x => (x.1, x.2.1) := pm.mem_iff.mp (List.mem_map.mpr ⟨z, hz, rfl⟩)
        obtain ⟨x, hx, ex⟩ := List.mem_map.mp this
        rw [← show x.1 = prK z.1 from congrArg Prod.fst ex, ← show x.2.1 = z.2 from congrArg Prod.snd ex]
        exact g1 x hx
      clear pm pw pk pp S2 k2
      induction zs with
      | nil => exact .nil
      | cons z zs ih => exact .cons (dp_key (mem z (by simp))) (ih fun y hy => mem y (List.mem_cons_of_mem _ hy))
    exact k _ _ F1 ρ1 _ (one q) (hw _ pk pp q) (own_lst upd_same dp rfl) ((S1.left.newL hq).1) (k1.trans k2.left)
  · exact hw.elim
theorem de_dictP (hr : Room n X.A) (hc : X.calm = true) (hg : Gl X "dict") (hm : X.mg "dict" = none) (ha : DE X e wa) (hv : bootBuiltins "dict" = some (.type "dict") := by decide +kernel)
    (h1 : starEach [e] X.env = (false, eval e X.env) :: starEach [] X.env := by rfl) (hpl : (backTo pos (starEach [] X.env)).any (·.1) = false := by rfl) : DE X (.Call (.Name "dict" p) [e] [] pos) (wDictP wa) := by
  obtain ⟨⟨ta, pa, ra⟩⟩ := ha
  have hu := hr.units
  refine ⟨⟨_, pe_callTy (cr_dictX hc (by omega)) hg hm hv (pa_cons pa pa_nil h1) (by decide) (by decide) h1 hpl, fun σ H F ρ fr Q Q' S hw k => ?_⟩⟩
  refine ra σ H F ρ fr _ _ S hw fun v1 H1 F1 ρ1 r1 m1 hw o1 S1 k1 => ?_
  split at hw
  · rename_i q ds hr
    split at hw
    · rename_i es hes
      obtain ⟨m', ow⟩ := o1.own S1 hr
      obtain ⟨vs, rfl, hq, dpa, rfl⟩ := ow
      obtain ⟨ts, ps, rfl, g1, g2, g3, g4, g5⟩ := pairs_dp dpa hes
      obtain ⟨nd, hz, hw⟩ := hw
      have hl : ps.length = es.length := by simpa using congrArg List.length g3
      refine ⟨q, ts, ps, rfl, SqL.of hq, g1, fun j t k b v e1 e2 => ⟨same_t S1.ex (g2 j t k b v e1 e2).1, same_t S1.ex (g2 j t k b v e1 e2).2⟩, by rw [g3]; exact nd, by rw [hl]; exact hz, fun a ha => ?_⟩
      obtain ⟨S2, k2⟩ := S1.left.newL (o := dTo a ps) ha
      exact k _ _ F1 ρ1 _ (one a) (hw a) ⟨⟨_, rfl, upd_same, ps, rfl, g5, g3, g4⟩, rfl⟩ S2 (k1.trans k2)
    · exact hw.elim
  · exact hw.elim
end
end DL

namespace DL
open PySem PySem.Spec PyProof.Rows L2
/-! ### a comprehension with two fors -/
def wLc2 (vs vs1 : List Nat) (wi : WI) (g : WG) (wt : WT) (wi1 : WI) (g1 : WG) (wt1 : WT) (we : WE) : WE := fun ρ Q => wi ρ fun xs ρ1 => still ρ1 vs ∧ ∃ I : Nat → List PyData → Rho → Prop, I 0 [] (wipeR ρ1 vs) ∧
  (∀ i x ds ρ2, xs[i]? = some x → I i ds ρ2 → g x (wipeR ρ2 vs) fun ρ3 => wt ρ3 fun b ρ4 => bmt b (wi1 ρ4 fun ys ρ5 => ∃ I1 : Nat → List PyData → Rho → Prop, I1 0 ds ρ5 ∧
    (∀ j y es ρ6, ys[j]? = some y → I1 j es ρ6 → g1 y (wipeR ρ6 vs1) fun ρ7 => wt1 ρ7 fun b ρ8 => bmt b (we ρ8 fun r ρ9 => frz r ρ9 fun z ρa => es.length < sizeLine ∧ I1 (j + 1) (es ++ [z]) ρa) (I1 (j + 1) es ρ8)) ∧
    ∀ es ρ6, I1 ys.length es ρ6 → I (i + 1) es ρ6) (I (i + 1) ds ρ4)) ∧
  ∀ ds ρ2, I xs.length ds ρ2 → ∀ p, Q (.tm (.lst p ds)) (restR ρ1 (wipeR ρ2 vs) vs)
abbrev RIW (K : PySem.W.Frag) (t : TI) (w : WI) : Prop := ∀ (σ : Sg) (H F : Hp) (ρ : Rho) (fr : Fp) (Q : List PyData → Rho → Prop) (R : It → Hp → Prop), SI K F H σ ρ fr → w ρ Q → (∀ xs H' F' ρ' J, Q xs ρ' → SI K F' H' σ ρ' fr → Kp F H fr F' H' → JOk K F' J xs → R J H') → t σ H R
/-- the new list at D while something runs -/
theorem list_app {K : PySem.W.Frag} {F H : Hp} {σ : Sg} {ρ : Rho} {fr : Fp} {D : Addr} (S : SI K F H σ ρ (padd fr (one D))) (o : HO) : SI K F (upd H D o) σ ρ (padd fr (one D)) ∧ Kp F H fr F (upd H D o) := S.put (p := D) (by simp [one]) o
theorem lc2_run {K : PySem.W.Frag} {vs vs1 : List Nat} {wi wi1 : WI} {g g1 : WG} {wt wt1 : WT} {we : WE} {ti ti1 : TI} {tg tg1 : TG} {tt tt1 : TT} {te : TE} (nd : vs.Nodup) (sub : ∀ i ∈ vs1, i ∈ vs) (ri : RIW K ti wi) (rg : RGW K vs tg g) (rt : RT K tt wt) (ri1 : RIW K ti1 wi1) (rg1 : RGW K vs1 tg1 g1) (rt1 : RT K tt1 wt1) (re : RE K te we) :
    RE K (tLc2 ti tg tt ti1 tg1 tt1 te vs vs1) (wLc2 vs vs1 wi g wt wi1 g1 wt1 we) := by
  intro σ H F ρ fr Q Q' S hw kq
  refine ri σ H F ρ fr _ _ S hw fun xs H1 F1 ρ1 J a S1 k1 hJ => ?_
  obtain ⟨hst, I, i0, it, ie⟩ := a
  intro D hD
  obtain ⟨S2, k2⟩ := S1.newL (o := .lst []) hD
  have frD : ∀ {F H F' H' : Hp}, Kp F H (padd fr (one D)) F' H' → H' D = H D := fun k => k.keep D (by unfold padd one; simp)
  -- what stands ahead of a turn of the outer loop
  let St : Nat → Hp → Prop := fun i H' => ∃ ρ' F' acc ds, I i ds ρ' ∧ SI K F' H' (L2.wipe σ vs) (wipeR ρ' vs) (padd fr (one D)) ∧ Kp F1 H1 fr F' H' ∧ H' D = some (.lst acc) ∧ DpAll K F' acc ds
  refine ⟨fun i m H' => m = xs.length - i ∧ i ≤ xs.length ∧ St i H', ⟨xs.length, by simp, Nat.zero_le _, wipeR ρ1 vs, F1, [], [], i0, ?_, k2, upd_same, .nil⟩, ?_⟩
  · have := (S2.wipe vs).wipe vs
    rw [wipe_wipe vs vs σ fun i hi => hi] at this
    exact this
  · rintro i m H2 ⟨rfl, hi, ρ2, F2, acc, ds, i2, S3, k3, hDl, dpa⟩
    obtain ⟨jstop, jgo⟩ := hJ i F2 H2 k3.exF S3.ex
    by_cases hlt : i < xs.length
    · obtain ⟨x, hx⟩ : ∃ x, xs[i]? = some x := ⟨xs[i], by simp [hlt]⟩
      obtain ⟨go, yl⟩ := jgo x hx
      refine .inr ⟨go, St (i + 1), fun H' n => ⟨xs.length - (i + 1), by omega, rfl, hlt, n⟩, fun v H3 y => ?_⟩
      have main : ∀ F3, SI K F3 H3 (L2.wipe σ vs) (wipeR ρ2 vs) (padd fr (one D)) → Kp F1 H1 fr F3 H3 → H3 D = some (.lst acc) → Same F2 F3 → Dp K F3 v x → tg v (L2.wipe σ vs) H3 fun τ Ha => L2.wipe τ vs = L2.wipe σ vs ∧ tt τ Ha fun b Hb =>
          if b = true then ti1 τ Hb fun J1 H4 => ∃ W1 : Nat → Nat → Hp → Prop, (∃ m, W1 0 m H4) ∧ ∀ j k H, W1 j k H →
            (J1.stop j H ∧ St (i + 1) H) ∨ (J1.go j H ∧ ∃ N1 : Hp → Prop, (∀ H', N1 H' → ∃ k', k' < k ∧ W1 (j + 1) k' H') ∧ ∀ x H', J1.yld j H x H' → tg1 x (L2.wipe τ vs1) H' fun τ3 H5 => L2.wipe τ3 vs1 = L2.wipe τ vs1 ∧ tt1 τ3 H5 fun b H6 =>
              if b = true then te τ3 H6 fun y H7 => ∃ acc, H7 D = some (.lst acc) ∧ acc.length < sizeLine ∧ N1 (upd H7 D (.lst (acc ++ [y]))) else N1 H6)
          else St (i + 1) Hb := by
        intro F3 S4 k4 hD3 sF dp
        refine rg (L2.wipe σ vs) H3 F3 _ _ x v _ _ S4 dp (it i x ds ρ2 hx i2) fun σ5 H5 F5 ρ5 a w5 S5 k5 => ?_
        rw [wipe_wipe vs vs σ fun i hi => hi] at w5
        refine ⟨w5, ?_⟩
        refine rt σ5 H5 F5 ρ5 _ _ _ S5 a fun b H6 F6 ρ6 a S6 k6 => ?_
        have kb : Kp F1 H1 fr F6 H6 := (k4.trans k5.left).trans k6.left
        have hD6 : H6 D = some (.lst acc) := (frD k6).trans ((frD k5).trans hD3)
        have dp6 : DpAll K F6 acc ds := dpam (sF.trans (k5.exF.trans k6.exF)) _ _ dpa
        cases b with
        | false =>
          rw [if_neg Bool.false_ne_true]
          have := S6.wipe vs
          rw [w5] at this
          exact ⟨ρ6, F6, acc, ds, a, this, kb, hD6, dp6⟩
        | true =>
          rw [if_pos rfl]
          refine ri1 σ5 H6 F6 ρ6 _ _ _ S6 a fun ys H7 F7 ρ7 J1 a S7 k7 hJ1 => ?_
          obtain ⟨I1, j0, jt, je⟩ := a
          let St1 : Nat → Hp → Prop := fun j H' => ∃ ρ' F' acc es, I1 j es ρ' ∧ SI K F' H' (L2.wipe σ5 vs1) (wipeR ρ' vs1) (padd fr (one D)) ∧ Kp F7 H7 fr F' H' ∧ H' D = some (.lst acc) ∧ DpAll K F' acc es
          have fin1 : ∀ {ρ' F' H' acc es}, I1 ys.length es ρ' → SI K F' H' (L2.wipe σ5 vs1) (wipeR ρ' vs1) (padd fr (one D)) → Kp F7 H7 fr F' H' → H' D = some (.lst acc) → DpAll K F' acc es → St (i + 1) H' := by
            intro ρ' F' H' acc es hI hS hk hD hdp
            refine ⟨ρ', F', acc, es, je es ρ' hI, ?_, (kb.trans k7.left).trans hk, hD, hdp⟩
            have := hS.wipe vs
            rw [wipe_wipe vs1 vs σ5 sub, w5] at this
            have e : wipeR (wipeR ρ' vs1) vs = wipeR ρ' vs := by
              have ww : ∀ (ws vs : List Nat) (ρ : Rho), (∀ i ∈ ws, i ∈ vs) → wipeR (wipeR ρ ws) vs = wipeR ρ vs := by
                intro ws
                have hset : ∀ (vs : List Nat) (ρ : Rho) (i : Nat), i ∈ vs → wipeR (ρ.set i none) vs = wipeR ρ vs := by
                  intro vs
                  induction vs with
                  | nil => intro ρ i h; cases h
                  | cons w vs ih =>
                    intro ρ i h
                    show (wipeR (ρ.set i none) vs).set w none = (wipeR ρ vs).set w none
                    by_cases hm : i ∈ vs
                    · rw [ih ρ i hm]
                    · have ew : i = w := by
                        rcases List.mem_cons.mp h with e | e
                        · exact e
                        · exact absurd e hm
                      subst ew
                      have out : ∀ (vs : List Nat) (ρ : Rho), i ∉ vs → wipeR (ρ.set i none) vs = (wipeR ρ vs).set i none := by
                        intro vs
                        induction vs with
                        | nil => intro ρ _; rfl
                        | cons w vs ih =>
                          intro ρ h
                          show (wipeR (ρ.set i none) vs).set w none = ((wipeR ρ vs).set w none).set i none
                          rw [ih ρ (fun z => h (by simp [z]))]
                          exact List.set_comm _ _ (fun z => h (by simp [z]))
                      rw [out vs ρ hm, List.set_set]
                induction ws with
                | nil => intro vs ρ _; rfl
                | cons w ws ih =>
                  intro vs ρ hs
                  show wipeR ((wipeR ρ ws).set w none) vs = wipeR ρ vs
                  rw [hset _ _ _ (hs w (by simp)), ih vs ρ fun i hi => hs i (by simp [hi])]
              exact ww vs1 vs ρ' sub
            rw [e] at this
            exact this
          refine ⟨fun j k H' => k = ys.length - j ∧ j ≤ ys.length ∧ St1 j H', ⟨ys.length, by simp, Nat.zero_le _, ρ7, F7, acc, ds, j0, S7.wipe vs1, Kp.refl, (frD k7).trans hD6, dpam k7.exF _ _ dp6⟩, ?_⟩
          rintro j k H8 ⟨rfl, hj, ρ8, F8, acc8, es, i8, S8, k8, hD8, dp8⟩
          obtain ⟨jstop1, jgo1⟩ := hJ1 j F8 H8 k8.exF S8.ex
          by_cases hlj : j < ys.length
          · obtain ⟨yd, hyd⟩ : ∃ y, ys[j]? = some y := ⟨ys[j], by simp [hlj]⟩
            obtain ⟨go1, yl1⟩ := jgo1 yd hyd
            refine .inr ⟨go1, St1 (j + 1), fun H' n => ⟨ys.length - (j + 1), by omega, rfl, hlj, n⟩, fun v1 H9 y1 => ?_⟩
            have inner : ∀ F9, SI K F9 H9 (L2.wipe σ5 vs1) (wipeR ρ8 vs1) (padd fr (one D)) → Kp F7 H7 fr F9 H9 → H9 D = some (.lst acc8) → Same F8 F9 → Dp K F9 v1 yd → tg1 v1 (L2.wipe σ5 vs1) H9 fun τ3 H5 => L2.wipe τ3 vs1 = L2.wipe σ5 vs1 ∧ tt1 τ3 H5 fun b H6 =>
                if b = true then te τ3 H6 fun y H7 => ∃ acc, H7 D = some (.lst acc) ∧ acc.length < sizeLine ∧ St1 (j + 1) (upd H7 D (.lst (acc ++ [y]))) else St1 (j + 1) H6 := by
              intro F9 S9 k9 hD9 sF9 dp9
              refine rg1 (L2.wipe σ5 vs1) H9 F9 _ _ yd v1 _ _ S9 dp9 (jt j yd es ρ8 hyd i8) fun σa Ha Fa ρa a wa Sa ka => ?_
              rw [wipe_wipe vs1 vs1 σ5 fun i hi => hi] at wa
              refine ⟨wa, ?_⟩
              refine rt1 σa Ha Fa ρa _ _ _ Sa a fun b Hb Fb ρb a Sb kb' => ?_
              have kB : Kp F7 H7 fr Fb Hb := (k9.trans ka.left).trans kb'.left
              have hDb : Hb D = some (.lst acc8) := (frD kb').trans ((frD ka).trans hD9)
              have dpb : DpAll K Fb acc8 es := dpam (sF9.trans (ka.exF.trans kb'.exF)) _ _ dp8
              cases b with
              | false =>
                rw [if_neg Bool.false_ne_true]
                have := Sb.wipe vs1
                rw [wa] at this
                exact ⟨ρb, Fb, acc8, es, a, this, kB, hDb, dpb⟩
              | true =>
                rw [if_pos rfl]
                refine re σa Hb Fb ρb _ _ _ Sb a fun yv Hc Fc ρc rc mc a oc Sc kc => ?_
                obtain ⟨z, ρd, Fd, a, dpd, sd, Sd⟩ := frz_ok Sc oc (fun a => by unfold padd; omega) a
                have Sd' : SI K Fd Hc σa ρd (padd fr (one D)) := Sd.less fun a => by unfold padd; omega
                have hDc : Hc D = some (.lst acc8) := (frD kc).trans hDb
                have dpc : DpAll K Fd acc8 es := dpam (kc.exF.trans sd) _ _ dpb
                have Sw := Sd'.wipe vs1
                rw [wa] at Sw
                obtain ⟨Se, ke⟩ := list_app Sw (.lst (acc8 ++ [yv]))
                exact ⟨acc8, hDc, by rw [dpc.length]; exact a.1, ρd, Fd, acc8 ++ [yv], es ++ [z], a.2, Se, ((kB.trans kc.left).trans (Kp.ofF sd)).trans ke, upd_same, dpc.append (.cons dpd .nil)⟩
            rcases yl1 v1 H9 y1 with ⟨rfl, dp⟩ | ⟨p, u, hp, rfl, dp⟩
            · exact inner F8 S8 k8 hD8 (Same.refl _) dp
            · obtain ⟨S9, s9, k9⟩ := S8.newF (o := u) hp
              have hne : D ≠ p := fun e => by subst e; rw [hD8] at hp; cases hp
              exact inner _ S9 (k8.trans k9.left) (by rw [upd_ne hne]; exact hD8) s9 dp
          · have e' : j = ys.length := by omega
            subst e'
            exact .inl ⟨jstop1 (Nat.le_refl _), fin1 i8 S8 k8 hD8 dp8⟩
      rcases yl v H3 y with ⟨rfl, dp⟩ | ⟨p, u, hp, rfl, dp⟩
      · exact main F2 S3 k3 hDl (Same.refl _) dp
      · obtain ⟨S4, s4, k4⟩ := S3.newF (o := u) hp
        have hne : D ≠ p := fun e => by subst e; rw [hDl] at hp; cases hp
        exact main _ S4 (k3.trans k4.left) (by rw [upd_ne hne]; exact hDl) s4 dp
    · have e' : i = xs.length := by omega
      subst e'
      refine .inl ⟨jstop (Nat.le_refl _), ?_⟩
      obtain ⟨m9, w9, q9⟩ := S3.own
      obtain ⟨ρ', w10, rfl⟩ := OwnS.rest (ρ0 := ρ1) w9 (fun i hi => by
        rcases still_ok S1 hst i hi with e | ⟨t, u, e1, e2, e3⟩
        · exact .inl e
        · exact .inr ⟨t, u, e1, e2, OwnT.z e3 k3.exF⟩) nd
      exact kq _ H2 F2 _ _ (one D) (ie ds ρ2 i2 D) (own_lst hDl dpa rfl) ⟨S3.ex, m9, w10, q9⟩ (k1.trans k3)
theorem pi_all {I : Type} {Xs : I → Cx} {tg e : Expr} {K : PySem.W.Frag} {w : WI} (hK : ∀ i, (Xs i).K = K) (h : ∀ i, DI (Xs i) tg e w) : ∃ t : TI, (∀ i, PI (Xs i) tg e t) ∧ RIW K t w := by
  have h' : ∀ i, ∃ t, PI (Xs i) tg e t ∧ RIW K t w := fun i => by
    obtain ⟨t, p, r⟩ := (h i).run
    rw [hK i] at r
    exact ⟨t, p, r⟩
  exact ⟨fun σ H R => ∀ i, Classical.choose (h' i) σ H R, fun i => ⟨fun pins s σ H R I hw => (Classical.choose_spec (h' i)).1.run pins s σ H R I (hw i)⟩, fun σ H F ρ fr Q R S hw k i => (Classical.choose_spec (h' i)).2 σ H F ρ fr Q R S hw k⟩
section
variable {X : Cx} {elt tg iter tg1 iter1 : Expr} {ifs ifs1 : List Expr} {scope : Scope} {own : List (Str × Nat)} {pos : Pos} {wi wi1 : WI} {g g1 : WG} {wt wt1 : WT} {we : WE}
theorem de_lc2 {vs vs1 : List Nat} (hvs : own.map (·.2) = vs) (nd : vs.Nodup) (sub : ∀ i ∈ vs1, i ∈ vs) (hc : X.calm = true) (hN : X.N.Nodup) (hi : DI X tg iter wi) (ok : BlkOk X.N X.env.scope scope own)
    (hg : BlkAll X scope fun Y => DGW Y vs tg g) (ht : BlkAll X scope fun Y => DTs Y ifs wt) (hi1 : BlkAll X scope fun Y => DI Y tg1 iter1 wi1) (hg1 : BlkAll X scope fun Y => DGW Y vs1 tg1 g1) (ht1 : BlkAll X scope fun Y => DTs Y ifs1 wt1) (he : BlkAll X scope fun Y => DE Y elt we)
    (hs : ∀ x, foldedSetIterable iter X.env x = pure x := by intro _; rfl) (hs1 : ∀ env x, foldedSetIterable iter1 env x = pure x := by intro _ _; rfl) :
    DE X (.ListComp elt [⟨tg, iter, ifs, 0⟩, ⟨tg1, iter1, ifs1, 0⟩] scope pos) (wLc2 vs vs1 wi g wt wi1 g1 wt1 we) := by
  subst hvs
  obtain ⟨⟨ti, pi, ri⟩⟩ := hi
  let Ys : BIx → Cx := fun i => X.blk i.1 i.2.1 scope (compEnvC scope i.2.2.2.1 i.2.2.1 X.env) i.2.2.2.2
  obtain ⟨a, a1, a2⟩ := pg_all (Xs := Ys) (K := X.K) (fun _ => rfl) fun i => hg i.1 i.2.1 i.2.2.1 i.2.2.2.1 i.2.2.2.2
  obtain ⟨b, b1, b2⟩ := pts_all (Xs := Ys) (K := X.K) (fun _ => rfl) fun i => ht i.1 i.2.1 i.2.2.1 i.2.2.2.1 i.2.2.2.2
  obtain ⟨c, c1, c2⟩ := pi_all (Xs := Ys) (K := X.K) (fun _ => rfl) fun i => hi1 i.1 i.2.1 i.2.2.1 i.2.2.2.1 i.2.2.2.2
  obtain ⟨d, d1, d2⟩ := pg_all (Xs := Ys) (K := X.K) (fun _ => rfl) fun i => hg1 i.1 i.2.1 i.2.2.1 i.2.2.2.1 i.2.2.2.2
  obtain ⟨e, e1, e2⟩ := pts_all (Xs := Ys) (K := X.K) (fun _ => rfl) fun i => ht1 i.1 i.2.1 i.2.2.1 i.2.2.2.1 i.2.2.2.2
  obtain ⟨f, f1, f2⟩ := pe_all (Xs := Ys) (K := X.K) (fun _ => rfl) fun i => he i.1 i.2.1 i.2.2.1 i.2.2.2.1 i.2.2.2.2
  exact ⟨⟨_, pe_lc2 hc hN pi ok sub (fun s H C cl fp => a1 (s, H, C, cl, fp)) (fun s H C cl fp => b1 (s, H, C, cl, fp)) (fun s H C cl fp => c1 (s, H, C, cl, fp)) (fun s H C cl fp => d1 (s, H, C, cl, fp)) (fun s H C cl fp => e1 (s, H, C, cl, fp)) (fun s H C cl fp => f1 (s, H, C, cl, fp)) hs hs1, lc2_run nd sub ri a2 b2 c2 d2 e2 f2⟩⟩
end
/-! ### an own dict handed on by its name -/
def wMove (i : Nat) : WE := fun ρ Q => match look ρ i with
  | some (.ox p t) => Q (.tm (.ox p t)) (ρ.set i none)
  | _ => False
theorem de_move {X : Cx} {x : Str} {i : Nat} {pos : Pos} (hN : X.N[i]? = some x) (hv : Vis X.env.scope x) (hd : (x == ("__debug__" : Str)) = false := by decide) (hcd : (x == ("__classdict__" : Str)) = false := by decide) : DE X (.Name x pos) (wMove i) := by
  refine ⟨⟨_, pe_var hN hv hd hcd, fun σ H F ρ fr Q Q' S hw k => ?_⟩⟩
  unfold wMove at hw
  split at hw
  · rename_i p t e
    obtain ⟨v, m1, e1, o1, S1⟩ := S.out e
    exact ⟨v, e1, k v H F _ _ m1 hw o1 S1 Kp.refl⟩
  · exact hw.elim
end DL

namespace DL
open PySem PySem.Spec PyProof.Rows L2
/-! ### an own list of own lists turned round; a row of it put anew -/
def wRevL (i : Nat) : WE := fun ρ Q => match look ρ i with
  | some (.lls _ dss) => ∀ p, Q (.tm (.lls p dss.reverse)) (ρ.set i none)
  | _ => False
def wSetL (i : Nat) (wk wa : WE) : WS := fun d ρ => wa ρ fun r ρ1 => isLL ρ1 i <| match r with
  | .tm (.lst _ ds) => wk ρ1 fun rk ρ2 => (match look ρ2 i, rk.dat ρ2 with
    | some (.lls p dss), some (.int k) => (match ixN dss.length k with
      | some j => d.nx (ρ2.set i (some (.lls p (dss.set j ds))))
      | none => False)
    | _, _ => False)
  | _ => False
theorem nodup_setA : ∀ {l : List Addr} {q : Addr}, l.Nodup → q ∉ l → ∀ j, (l.set j q).Nodup
  | [], _, h, _, _ => h
  | a :: t, q, h, hq, 0 => List.nodup_cons.mpr ⟨fun e => hq (List.mem_cons_of_mem _ e), (List.nodup_cons.mp h).2⟩
  | a :: t, q, h, hq, j + 1 => by
    refine List.nodup_cons.mpr ⟨fun e => ?_, nodup_setA (List.nodup_cons.mp h).2 (fun e => hq (List.mem_cons_of_mem _ e)) j⟩
    rcases List.mem_or_eq_of_mem_set e with e | e
    · exact (List.nodup_cons.mp h).1 e
    · exact hq (by rw [← e]; exact List.mem_cons_self)
theorem count_setA (a q : Addr) : ∀ (l : List Addr) (j : Nat), List.count a (l.set j q) ≤ List.count a l + one q a
  | [], _ => Nat.zero_le _
  | b :: t, 0 => by
    show List.count a (q :: t) ≤ _
    rw [List.count_cons, List.count_cons]
    unfold one
    by_cases h : a = q
    · subst h; simp
    · have : (q == a) = false := by simp [Ne.symm h]
      rw [this, if_neg h]
      simp
  | b :: t, j + 1 => by
    show List.count a (b :: t.set j q) ≤ _
    have := count_setA a q t j
    rw [List.count_cons, List.count_cons]
    omega
section
variable {X : Cx} {e kx : Expr} {wa wk : WE} {k : Nat} {p0 p1 p2 p3 pos tpos : Pos} {x : Str} {i : Nat}
theorem de_revL (hN : X.N[i]? = some x) (hv : Vis X.env.scope x) (hd : (x == ("__debug__" : Str)) = false := by decide) (hcd : (x == ("__classdict__" : Str)) = false := by decide) :
    DE X (.Subscript (.Name x p0) (.Slice none none (some (.UnaryOp .USub (.Constant (.int 1) k p1) p2)) p3) pos) (wRevL i) := by
  refine ⟨⟨_, pe_revA (pe_var hN hv hd hcd), fun σ H F ρ fr Q Q' S hw kk => ?_⟩⟩
  unfold wRevL at hw
  split at hw
  · rename_i q0 dss e0
    obtain ⟨v, m1, e1, o1, S1⟩ := S.out e0
    obtain ⟨ps, rfl, hp, hl, hi, nd, hm⟩ := o1
    refine ⟨_, e1, .inl ⟨_, _, rfl, SqL.of hp, fun p hf => ?_⟩⟩
    have hpn : p ∉ ps := fun hin => by
      obtain ⟨j, hj, rfl⟩ := List.mem_iff_getElem.mp hin
      obtain ⟨us, h1, _⟩ := hi j ps[j] dss[j] (List.getElem?_eq_getElem hj) (List.getElem?_eq_getElem (by omega))
      rw [hf] at h1
      cases h1
    obtain ⟨S4, k4⟩ := S1.newL (o := .lst (ps.map V.ref).reverse) hf
    refine kk _ _ F _ (.tm (.lls p dss.reverse)) (fun a => List.count a (p :: ps.reverse)) (hw p) ⟨ps.reverse, rfl, by rw [upd_same, List.map_reverse], by rw [List.length_reverse, List.length_reverse]; exact hl, fun j r es hb hes => ?_, List.nodup_cons.mpr ⟨fun h => hpn (List.mem_reverse.mp h), (List.reverse_perm ps).nodup_iff.mpr (List.nodup_cons.mp nd).2⟩, rfl⟩ (S4.less fun a => ?_) k4.left
    · have hj : j < ps.length := by
        have := (List.getElem?_eq_some_iff.mp hb).1
        rwa [List.length_reverse] at this
      rw [List.getElem?_reverse hj] at hb
      rw [List.getElem?_reverse (by omega), ← hl] at hes
      obtain ⟨us, h1, h2⟩ := hi _ r es hb hes
      have hr : r ≠ p := fun e => hpn (by rw [← e]; exact List.mem_of_getElem? hb)
      exact ⟨us, by rw [upd_ne hr]; exact h1, h2⟩
    · show fr a + List.count a (p :: ps.reverse) ≤ (fr a + m1 a) + one p a
      rw [hm, List.count_cons, List.count_reverse]
      show _ ≤ (fr a + List.count a (q0 :: ps)) + one p a
      have : (if (p == a) = true then 1 else 0) ≤ one p a := by
        unfold one
        by_cases h : a = p
        · subst h; simp
        · have : (p == a) = false := by simp [Ne.symm h]
          rw [this]; simp
      rw [List.count_cons]
      omega
  · exact hw.elim
theorem ds_setL (hN : X.N[i]? = some x) (hv : Vis X.env.scope x) (hk : DE X kx wk) (ha : DE X e wa)
    (hd : (x == ("__debug__" : Str)) = false := by decide) (hcd : (x == ("__classdict__" : Str)) = false := by decide)
    (h2 : ∀ v, assign (.Subscript (.Name x p0) kx tpos) X.env v = (do
      let ov ← holding [v] (eval (.Name x p0) X.env)
      let iv ← holding [v, ov] (eval kx X.env)
      standAt tpos
      holding [v, ov, iv] (setItem ov iv v)
      release [v, ov, iv] []) := by intro _; rfl)
    (hs : swapsWithSole [.Subscript (.Name x p0) kx tpos] e pos.line X.env = pure false := by rfl) (hw : swappedStores [.Subscript (.Name x p0) kx tpos] e X.env = pure none := by rfl)
    (h1 : (assignEach [.Subscript (.Name x p0) kx tpos] X.env).map (·.2) = [assign (.Subscript (.Name x p0) kx tpos) X.env] := by rfl) :
    DS X (.Assign [.Subscript (.Name x p0) kx tpos] e pos) (wSetL i wk wa) := by
  obtain ⟨⟨t, p, r⟩⟩ := ha
  obtain ⟨⟨tk, pk, rk⟩⟩ := hk
  refine ⟨⟨_, ps_asg p (pg_sub (pe_var hN hv hd hcd) pk set_list h2) hs hw h1, fun σ H F ρ fr d e S E h => ?_⟩⟩
  refine r σ H F ρ fr _ _ S h fun v H1 F1 ρ1 r1 m a c b k1 => ?_
  obtain ⟨⟨q0, dss0, e0⟩, a2⟩ := isLL_iff a
  clear a
  obtain ⟨v0, m0, ev0, o0⟩ := b.slot e0
  obtain ⟨ps0, rfl, hp0, _⟩ := o0
  refine ⟨.ref q0, ev0, ?_⟩
  split at a2
  · rename_i q ds
    obtain ⟨vs, rfl, hq, dvs, rfl⟩ := c
    refine rk σ H1 F1 ρ1 _ _ _ b a2 fun vk H3 F3 ρ3 r3 m3 a o3 S3 k3 => ?_
    split at a
    · rename_i q' dss kk e2 e3
      have := o3.dp S3 e3
      cases this
      split at a
      · rename_i j hj
        obtain ⟨v2, m2, ev2, o2, S2⟩ := S3.left.out e2
        rw [ev0] at ev2
        cases ev2
        obtain ⟨ps, e3', hp, hl, hi, nd, hm⟩ := o2
        cases e3'
        have hq3 : H3 q = some (.lst vs) := (k3.keep q (by unfold padd one; simp)).trans hq
        have mp : m2 q0 ≠ 0 := by
          rw [hm]
          show List.count q0 (q0 :: ps) ≠ 0
          rw [List.count_cons_self]
          omega
        obtain ⟨S5, k5⟩ := S2.put mp (.lst ((ps.map V.ref).set j (.ref q)))
        obtain ⟨m9, w9, q9⟩ := S2.own
        have zq : m2 q = 0 := by
          have := (q9 q).1
          have h1 : one q q = 1 := by simp [one]
          unfold padd at this
          omega
        have hqn : q ∉ q0 :: ps := fun hh => by
          have := List.count_pos_iff.mpr hh
          rw [hm] at zq
          have zq : List.count q (q0 :: ps) = 0 := zq
          omega
        have hqp : q ≠ q0 := fun e => hqn (by rw [e]; simp)
        have hqs : q ∉ ps := fun e => hqn (List.mem_cons_of_mem _ e)
        have hpn : q0 ∉ ps := (List.nodup_cons.mp nd).1
        have nps := (List.nodup_cons.mp nd).2
        have o4 : OwnT X.K F3 (upd H3 q0 (.lst ((ps.map V.ref).set j (.ref q)))) (.lls q0 (dss.set j ds)) (.ref q0) (fun a => List.count a (q0 :: ps.set j q)) := by
          refine ⟨ps.set j q, rfl, by rw [upd_same, List.map_set], by rw [List.length_set, List.length_set]; exact hl, fun b r es hb hes => ?_, List.nodup_cons.mpr ⟨fun h => ?_, nodup_setA nps hqs j⟩, rfl⟩
          · by_cases hbj : b = j
            · subst hbj
              have hbl : b < ps.length := by
                have := (List.getElem?_eq_some_iff.mp hb).1
                rwa [List.length_set] at this
              rw [List.getElem?_set_self hbl] at hb
              rw [List.getElem?_set_self (by omega)] at hes
              cases hb
              cases hes
              exact ⟨vs, by rw [upd_ne hqp]; exact hq3, dpam k3.exF _ _ dvs⟩
            · rw [List.getElem?_set_ne (Ne.symm hbj)] at hb hes
              obtain ⟨us, h1, h2⟩ := hi b r es hb hes
              have hr : r ≠ q0 := fun e => hpn (by rw [← e]; exact List.mem_of_getElem? hb)
              exact ⟨us, by rw [upd_ne hr]; exact h1, h2⟩
          · rcases List.mem_or_eq_of_mem_set h with h | h
            · exact hpn h
            · exact hqp h.symm
        have S6 : SI X.K F3 (upd H3 q0 (.lst ((ps.map V.ref).set j (.ref q)))) σ (ρ3.set i none) (padd fr (fun a => List.count a (q0 :: ps.set j q))) := S5.less fun a => by
          show fr a + List.count a (q0 :: ps.set j q) ≤ (fr a + one q a) + m2 a
          rw [hm]
          show _ ≤ (fr a + one q a) + List.count a (q0 :: ps)
          have := count_setA a q ps j
          rw [List.count_cons, List.count_cons]
          omega
        have S7 := S6.inn o4 ev0
        rw [List.set_set] at S7
        exact ⟨q0, _, _, j, rfl, rfl, hp, by rw [List.length_map, hl]; exact hj, E.nx σ _ F3 _ a S7 ((k1.trans k3.left).trans k5.left)⟩
      · exact a.elim
    · exact a.elim
  · exact a2.elim
end
end DL

namespace DL
open PySem PySem.Spec PyProof.Rows L2
/-! ### a tuple repeated, once or more -/
theorem mulOne (q : Addr) (xs : Array Value) (n : Nat) (dc : Option Addr) (so : Array (Option Value)) (tk : Tok) :
    Meets (Builtin.«tuple.__mul__» ⟨[.ref q, .int 1 tk], []⟩) (fun _ R st => st.heap.get? q = some { cls := .type "tuple", dict := dc, data := .seq xs n, slots := so } ∧ R (.ok (.ret (Value.ref q))) st) :=
  .of_wp fun _ _ _ R st hh => by
    obtain ⟨x1, x2, x3, x4, x5⟩ := st
    obtain ⟨hq, hh⟩ := hh
    have fi := AutoSeq1.idx_int
    have one1 : (xs.isEmpty || (1 : Int) == 1) = true := by rw [show ((1 : Int) == 1) = true by decide, Bool.or_true]
    have far1 : (decide ((1 : Int) < -(2 ^ 63)) || decide ((1 : Int) ≥ 2 ^ 63)) = false := by decide
    wp_walk using wpAny_loadPart' hq
    repeat (first
      | (refine wpAny_ite_false (decide_eq_false fun e => ?_) ?_; · rw [far1] at e; cases e
         · wp_walk using wpAny_loadPart' hq)
      | (refine wpAny_ite_true (decide_eq_true one1) ?_; wp_walk using wpAny_loadPart' hq))
    all_goals exact ⟨_, rfl, hh⟩
def rRep1 (K : PySem.W.Frag) : R2 := fun x y H Q => ∃ l k xs, x = .ref l ∧ y = .int k ∧ SqT K H l xs ∧ xs ≠ [] ∧ 1 ≤ k ∧ k ≤ 1000 ∧ xs.length ≤ 1000 ∧ (k = 1 → Q (.ref l) H) ∧ ∀ p, H p = none → Q (.ref p) (upd H p (.tup (List.replicate k.toNat xs).flatten))
theorem op_rep1 {X : Cx} : OpR X (binaryOp .Mult) (rRep1 X.K) := by
  intro pn st σ H x y v u Q J rx ry hh
  obtain ⟨q, k, xs, rfl, rfl, ht, hne, k1, k2, hz, one1, more⟩ := hh
  by_cases hk : k = 1
  · subst hk
    cases rx
    obtain ⟨tk, rfl⟩ := ry
    obtain ⟨vs, rv, ⟨⟨cl, dc, da, so⟩, hob, hcl, n, hda⟩, _⟩ := J.tuple ht
    simp only at hcl hda
    subst hcl hda
    exact wpAny_binaryOp_repeat_ref (T := "tuple") (U := "int") (by decide) ⟨_, hob, rfl⟩ (fun _ => typeIs_int _ 1 tk) noFill_tuple_mul F.fills_int_mul F.slot_int_rmul repeat_tuple F.slot_int_index.lookup
      (call_meets F.slot_int_rmul (typeIs_int st 1 tk) F.entry_int_rmul (F.args_int_rmul_2 _ _) (int_rmul_tuple 1 tk q vs.toArray n dc so)
        ⟨hob, rfl, ⟨_, hob, rfl⟩, call_meets F.slot_tuple_mul ⟨_, hob, rfl⟩ F.entry_tuple_mul (F.args_tuple_mul_2 _ _) (mulOne q vs.toArray n dc so tk) ⟨hob, .ref q, _, J, rfl, one1 rfl⟩⟩)
  · exact op_repT pn st σ H _ _ v u Q J rx ry ⟨q, k, xs, rfl, rfl, ht, hne, by omega, k2, hz, more⟩
def wRepT (wa wb : WE) : WE := fun ρ Q => wa ρ fun r1 ρ1 => wb ρ1 fun r2 ρ2 => match r1.ot ρ2, r2.dat ρ2 with
  | some (.fz (.tuple ds)), some (.int k) => (ds ≠ [] ∧ 1 ≤ k ∧ k ≤ 1000 ∧ ds.length ≤ 1000) ∧ Q (.fz (.tuple (repD k.toNat ds))) ρ2
  | _, _ => False
section
variable {X : Cx} {a b : Expr} {wa wb : WE} {pos : Pos}
theorem de_repT (ha : DE X a wa) (hb : DE X b wb) : DE X (.BinOp a .Mult b pos) (wRepT wa wb) := by
  obtain ⟨⟨ta, pa, ra⟩⟩ := ha
  obtain ⟨⟨tb, pb, rb⟩⟩ := hb
  refine ⟨⟨_, pe_op op_rep1 pa pb, fun σ H F ρ fr Q Q' S hw k => ?_⟩⟩
  refine ra σ H F ρ fr _ _ S hw fun v1 H1 F1 ρ1 r1 m1 hw o1 S1 k1 => ?_
  refine rb σ H1 F1 ρ1 _ _ _ S1 hw fun v2 H2 F2 ρ2 r2 m2 hw o2 S2 k2 => ?_
  split at hw
  · rename_i ds n h1 h2
    obtain ⟨m', o'⟩ := (o1.kp k2).own S2.left h1
    obtain ⟨o', _⟩ := o'
    have := o2.dp S2 h2
    cases this
    obtain ⟨⟨g1, g2, g3, g4⟩, hw⟩ := hw
    have o'' := o'
    cases o' with
    | tup hs ha =>
      refine ⟨_, n, _, rfl, rfl, same_t S2.ex hs, fun e => g1 ?_, g2, g3, by rw [ha.length]; exact g4, fun e => ?_, fun p hp => ?_⟩
      · have := ha.length
        rw [e] at this
        exact List.eq_nil_of_length_eq_zero this.symm
      · subst e
        have e1 : repD (1 : Int).toNat ds = ds := by show (List.replicate 1 ds).flatten = ds; simp
        rw [e1] at hw
        exact k _ _ _ ρ2 _ z0 hw ⟨o'', rfl⟩ S2.left.left (k1.trans k2.left)
      · obtain ⟨S4, s4, k4⟩ := S2.left.left.newF (o := .tup _) hp
        exact k _ _ _ ρ2 _ z0 hw ⟨.tup (SqT.of upd_same) (dpam s4 _ _ (dpa_rep ha _)), rfl⟩ S4 ((k1.trans k2.left).trans k4)
  · exact hw.elim
end
end DL

namespace DL
open PySem PySem.Spec PyProof.Rows L2 PySem.Calls
/-! ### list(d), d a dict with tuples as keys -/
def rListX (K : PySem.W.Frag) : List V → Hp → VK → Prop := fun vs H Q => ∃ a xs, vs = [.ref a] ∧ Rd H a (dTo a xs) ∧ ∀ p, H p = none → Q (.ref p) (upd H p (.lst (xs.map fun x => V.ref x.2.1)))
theorem cr_listX {X : Cx} (hc : X.calm = true) : CallR X (.type "list") (rListX X.K) := by
  intro pn s σ H vs us Q J r hh
  obtain ⟨a, xs, rfl, e, q⟩ := hh
  rw [Vals.ref1 r]
  obtain ⟨h1, h2, h3, ys, h4, o, es, ep, h5, h6, h7, h8⟩ := dTo_at J.hok e
  have hlen : es.size = xs.length := by rw [size_of_entries (h8 X.prog X.w), xrel_len h4]
  refine PySem.W.kdl_call (kdl_raw h2 h6 h7) (J.ok.hd hc) h5 (by rw [hlen]; exact h1) fun g tk acc c keep at0 got => ?_
  have eacc : acc.toList = (xs.map fun x => x.2.1).map Value.ref := by
    have hl : acc.toList.length = xs.length := by rw [Array.length_toList, got.1, hlen]
    apply List.ext_getElem?
    intro j
    rw [List.getElem?_map, List.getElem?_map]
    cases hj : acc.toList[j]? with
    | none =>
      rw [List.getElem?_eq_none (by have := List.getElem?_eq_none_iff.mp hj; omega : xs.length ≤ j)]
      rfl
    | some v =>
      obtain ⟨en, hen, rfl⟩ := got.2 j v (by rw [← Array.getElem?_toList]; exact hj)
      have hlt : j < xs.length := by rw [← hlen]; exact (Array.getElem?_eq_some_iff.mp hen).1
      obtain ⟨k, b, v, hx⟩ : ∃ k b v, xs[j]? = some (k, b, v) := ⟨_, _, _, List.getElem?_eq_getElem hlt⟩
      obtain ⟨u, hy, ru⟩ := xrel_get h4 hx
      rw [entry_at (h8 X.prog X.w) j, hy] at hen
      have hen : entryOfKey (tupleKind (intKind X.prog X.w)) (k, b, u) = en := Option.some.inj hen
      rw [← hen, hx]
      rfl
  have rv : Vals (xs.map fun x => V.ref x.2.1) acc.toList := by
    rw [eacc]
    have := vals_refs (xs.map fun x => x.2.1)
    rw [List.map_map] at this
    exact this
  refine ⟨.ref s.heap.objs.size, _, J.laid (t' := tk) (o := .lst (xs.map fun x => V.ref x.2.1)) keep (Nat.le_refl _) ⟨?_, acc.toList, c, rv, ?_⟩, rfl, q _ (J.hok.fresh (Nat.le_refl _))⟩
  · rw [List.length_map]
    exact h1
  · rw [Array.toArray_toList]
    exact at0
def wLstT (wa : WE) : WE := fun ρ Q => wa ρ fun r ρ1 => match (r.ot ρ1).bind OT.dict with
  | some (.dt es) => ∀ p, Q (.tm (.lst p (keysD es))) ρ1
  | _ => False
section
variable {X : Cx} {e : Expr} {wa : WE} {p pos : Pos}
theorem de_lstT (hc : X.calm = true) (hg : Gl X "list") (hm : X.mg "list" = none) (ha : DE X e wa) (hv : bootBuiltins "list" = some (.type "list") := by decide +kernel)
    (h1 : starEach [e] X.env = (false, eval e X.env) :: starEach [] X.env := by rfl) (hpl : (backTo pos (starEach [] X.env)).any (·.1) = false := by rfl) : DE X (.Call (.Name "list" p) [e] [] pos) (wLstT wa) := by
  obtain ⟨⟨ta, pa, ra⟩⟩ := ha
  refine ⟨⟨_, pe_callTy (cr_listX hc) hg hm hv (pa_cons pa pa_nil h1) (by decide) (by decide) h1 hpl, fun σ H F ρ fr Q Q' S hw k => ?_⟩⟩
  refine ra σ H F ρ fr _ _ S hw fun v1 H1 F1 ρ1 r1 m1 hw o1 S1 k1 => ?_
  split at hw
  · rename_i es hr
    obtain ⟨t, ht, hd⟩ := Option.bind_eq_some_iff.mp hr
    obtain ⟨m', ow⟩ := o1.own S1 ht
    obtain ⟨a, u, rfl, rd, xs, rfl, g1, g2, g3⟩ := own_dict ow S1.ex hd
    refine ⟨a, xs, rfl, rd, fun q hq => ?_⟩
    have dp : DpAll X.K F1 (xs.map fun x => V.ref x.2.1) (keysD es) := by
      have e1 : keysD es = (xs.map (·.1)).map keyD := by rw [g2]; unfold keysD; rw [List.map_map]; rfl
      rw [e1]
      clear hw e1 g2 g3 rd hr hd hq
      induction xs with
      | nil => exact .nil
      | cons x xs ih => exact .cons (dp_key (g1 x (by simp))) (ih fun y hy => g1 y (List.mem_cons_of_mem _ hy))
    obtain ⟨S2, k2⟩ := S1.left.newL (o := .lst (xs.map fun x => V.ref x.2.1)) hq
    exact k _ _ F1 ρ1 _ (one q) (hw q) (own_lst upd_same dp rfl) S2 (k1.trans k2)
  · exact hw.elim
end
end DL

namespace DL
open PySem PySem.Spec PyProof.Rows L2 PySem.Calls
/-! ### isinstance(d, T), d a dict with tuples as keys -/
def rIsiX (K : PySem.W.Frag) : List V → Hp → VK → Prop := fun vs H Q => ∃ a xs T b, vs = [.ref a, .ty T] ∧ Rd H a (dTo a xs) ∧ kitB "dict" T = some b ∧ Q (.bl b) H
theorem cr_isiX {X : Cx} : CallR X (.builtin "isinstance") (rIsiX X.K) := by
  intro pn s σ H vs us Q J r hh
  obtain ⟨a, xs, T, b, rfl, rd, hk, q⟩ := hh
  obtain ⟨u1, u2, rfl, r1, r2⟩ := vals2 r
  cases (show u1 = Value.ref a from r1)
  have e2 := (ClsV.ty T).eq r2
  subst e2
  obtain ⟨_, _, _, ys, _, o, es, ep, ho, hx, _⟩ := dTo_at J.hok rd
  exact PySem.W.kia_one PySem.W.kitx_dict J.kIn ⟨o, ho, hx.1⟩ (kit_ty hk) (fun z => nomatch z) fun tk => ⟨.bl b, H, J.tok tk, rfl, q⟩
def wIsiD (T : String) (wa : WE) : WE := fun ρ Q => wa ρ fun r ρ1 => match (r.ot ρ1).bind OT.dict with
  | some (.dt _) => (match kitB "dict" T with | some b => Q (.fz (.bool b)) ρ1 | none => False)
  | _ => False
section
variable {X : Cx} {e : Expr} {wa : WE} {pos p p2 : Pos} {y : Str} {T : String}
theorem de_isiD (hg : Gl X "isinstance") (hm : X.mg "isinstance" = none) (hgT : Gl X y) (hmT : X.mg y = none) (hT : bootBuiltins y = some (.type T)) (ha : DE X e wa)
    (hv : bootBuiltins "isinstance" = some (.builtin "isinstance") := by decide +kernel) (hny : y ≠ "__name__" := by decide) (hdy : (y == ("__debug__" : Str)) = false := by decide)
    (h1 : starEach [e, .Name y p2] X.env = (false, eval e X.env) :: starEach [.Name y p2] X.env := by rfl) (h2 : starEach [.Name y p2] X.env = (false, eval (.Name y p2) X.env) :: starEach [] X.env := by rfl)
    (hpl : (backTo pos (starEach [.Name y p2] X.env)).any (·.1) = false := by rfl) : DE X (.Call (.Name "isinstance" p) [e, .Name y p2] [] pos) (wIsiD T wa) := by
  obtain ⟨⟨ta, pa, ra⟩⟩ := ha
  refine ⟨⟨_, pe_callB cr_isiX hg hm hv (pa_cons pa (pa_cons (pe_bltn (v := .ty T) hgT hmT hT rfl hny hdy) pa_nil h2) h1) (by decide) (by decide) h1 hpl, fun σ H F ρ fr Q Q' S hw k => ?_⟩⟩
  refine ra σ H F ρ fr _ _ S hw fun v1 H1 F1 ρ1 r1 m1 hw o1 S1 k1 => ?_
  split at hw
  · rename_i es hr
    split at hw
    · rename_i b hb
      obtain ⟨t, ht, hd⟩ := Option.bind_eq_some_iff.mp hr
      obtain ⟨m', ow⟩ := o1.own S1 ht
      obtain ⟨a, u, rfl, rd, xs, rfl, g1, g2, g3⟩ := own_dict ow S1.ex hd
      exact ⟨a, xs, T, b, rfl, rd, hb, k _ H1 F1 ρ1 _ z0 hw ⟨.bl b, rfl⟩ S1.left k1⟩
    · exact hw.elim
  · exact hw.elim
end
end DL

namespace DL
open PySem PySem.Spec PyProof.Rows L2 PySem.Calls
/-! ### d.clear(), d an own dict with tuples as keys -/
def tClearX (te : TE) : TE := fun σ H Q => te σ H fun x H1 => ∃ a xs, x = .ref a ∧ H1 a = some (dTo a xs) ∧ Q .non (upd H1 a (dTo a []))
section
variable {X : Cx} {e : Expr} {te : TE} {pos apos cpos p0 : Pos} {x : Str} {i : Nat}
theorem pe_clearX (he : PE X e te) (hbase : attributeBase e "clear" X.env (eval e X.env) = eval e X.env := by rfl) (hline : (apos.endLine == cpos.line) = true := by rfl) :
    PE X (.Call (.Attribute e "clear" apos) [] [] cpos) (tClearX te) := by
  refine ⟨fun pn s σ H Q J hh => wpAny_Call_method0_late hbase hline (thn (he.run pn s σ H _ J hh) fun u s1 ⟨x, H1, J1, rx, a, xs, ex, e1, q⟩ => ?_)⟩
  subst ex
  obtain rfl : u = Value.ref a := rx
  obtain ⟨h1, h2, h3, ys, h4, o, es, ep, h5, h6, h7, h8⟩ := dTo_at J1.hok (.inl e1)
  have raw : s1.heap.DictRaw a es ep := ⟨o, h5, h6, h7⟩
  have hlen : es.size = xs.length := by rw [size_of_entries (h8 X.prog X.w), xrel_len h4]
  refine ⟨"dict", "dict.clear", PySem.F.plainAttrs_dict, PySem.F.slot_dict_clear, PySem.F.type_dict_clear, raw.typeIs, fun b z => ?_, ?_⟩
  · cases z
    exact ⟨o, h5, h6.2.1⟩
  show wpAny _ _ (callWith cpos (.builtin "dict.clear") [.ref a] [] []) _ X.xe s1
  refine Calls.callWith_builtin rfl (PySem.evalArgs_none (call_meetsIn PySem.F.slot_dict_clear raw.typeIs PySem.F.entry_dict_clear (PySem.F.args_dict_clear_1 _) (meets_dict_clear_raw a) ⟨es, ep, raw, by rw [hlen]; exact h1, fun h' r' sb => ?_⟩))
  obtain ⟨o', g1, g2, g3⟩ := r'
  exact ⟨.non, _, d_write J1 (by rw [e1]; exact True.intro) sb ⟨o', g1⟩ (dTo_ok (xs := []) ⟨Nat.zero_le _, h2, List.nodup_nil, [], .nil, o', #[], _, g1, g2, g3, fun _ _ => rfl⟩), rfl, q⟩
def wClearT (i : Nat) : WS := fun d ρ => match look ρ i with
  | some (.ox p (.dt _)) => d.nx (ρ.set i (some (.ox p (.dt []))))
  | _ => False
theorem ds_clearT (hN : X.N[i]? = some x) (hv : Vis X.env.scope x) (hd : (x == ("__debug__" : Str)) = false := by decide) (hcd : (x == ("__classdict__" : Str)) = false := by decide)
    (hbase : attributeBase (.Name x p0) "clear" X.env (eval (.Name x p0) X.env) = eval (.Name x p0) X.env := by rfl) (hline : (apos.endLine == cpos.line) = true := by rfl)
    (hsw : swapsWith (.Call (.Attribute (.Name x p0) "clear" apos) [] [] cpos) none pos.line X.env = pure false := by rfl) :
    DS X (.Expr (.Call (.Attribute (.Name x p0) "clear" apos) [] [] cpos) pos) (wClearT i) := by
  refine ⟨⟨_, ps_expr (pe_clearX (pe_var hN hv hd hcd) hbase hline) hsw, fun σ H F ρ fr d e S E h => ?_⟩⟩
  unfold wClearT at h
  split at h
  · rename_i p es e2
    obtain ⟨v, m, ev, o, S1⟩ := S.out e2
    obtain ⟨⟨u, rfl, hp, xs, rfl, g1, g2, g3⟩, rfl⟩ := o
    obtain ⟨S6, k6⟩ := S1.put (p := p) (by simp [one]) (dTo p [])
    have S7 := S6.inn (t := .ox p (.dt [])) (v := .ref p) ⟨⟨_, rfl, upd_same, [], rfl, fun x hx => (by cases hx), rfl, .nil⟩, rfl⟩ ev
    rw [List.set_set] at S7
    exact ⟨.ref p, ev, p, xs, rfl, hp, E.nx σ _ F _ h S7 k6⟩
  · exact h.elim
end
end DL

namespace DL
open PySem PySem.Spec PyProof.Rows L2 PySem.Calls
/-! ### d == e, d != e: own dicts of the same entries -/
section
variable {prog : Program} {w : World} {K : Type} [DecidableEq K] {knd : HeapKind prog w K} {A : Around} {E : Value → Shared → Prop} {s : Shared}
theorem same_pairs {nm : String} {a b : Addr} {xs ys : List (K × Addr × Value)} {Q : Bool → Shared → Prop} (ha : (a == sysModules) = false) (hb : (b == sysModules) = false) (hu : knd.room A)
    (da : s.heap.DictOfH knd a xs) (db : s.heap.DictOfH knd b ys) (hk : xs.map (·.1) = ys.map (·.1)) (hv : ∀ (j : Nat) x y, xs[j]? = some x → ys[j]? = some y → SeqAt.EqAt A s x.2.2 y.2.2 true) (h : Q true s) :
    wpAny (model prog w) A (Builtin.Dict.samePairs nm a b) Q E s := by
  obtain ⟨oa, ea, pa, a1, a2, a3, a4, a5, a6⟩ := da
  obtain ⟨ob, eb, pb, b1, b2, b3, b4, b5, b6⟩ := db
  have la : ea.size = xs.length := size_of_entries a4
  have lb : eb.size = ys.length := size_of_entries b4
  have lxy : xs.length = ys.length := by simpa using congrArg List.length hk
  unfold Builtin.Dict.samePairs Builtin.Dict.showsAll
  rw [ha, hb, if_neg Bool.false_ne_true]
  refine wpAny_bind (wpAny_pure (wpAny_bind (wpAny_pure (wpAny_bind (wpAny_dictEntries a1 a3 ?_)))))
  dsimp only
  refine wpAny_bind (wpAny_dictEntries b1 b3 ?_)
  rw [if_neg (by rw [la, lb, lxy]; simp)]
  refine wpAny_bind (wpAny_dictEpoch a1 a3 (wpAny_bind ?_))
  rw [Std.Legacy.Range.forIn_eq_forIn_range']
  simp only [Std.Legacy.Range.size, Nat.sub_zero, Nat.add_sub_cancel, Nat.div_one]
  refine wpAny_forIn_list _ (fun rest q st => st = s ∧ q = (none, ()) ∧ ∃ i, rest = List.range' i (ea.size - i) ∧ i ≤ ea.size) _ ?_ ?_ _ _ ⟨rfl, rfl, 0, by simp, Nat.zero_le _⟩
  · rintro x rest q st ⟨rfl, rfl, i, hr, hi⟩
    have hlt : i < ea.size := Nat.lt_of_not_le fun c => by
      rw [Nat.sub_eq_zero_of_le c] at hr
      cases hr
    obtain ⟨rfl, hrest⟩ : x = i ∧ rest = List.range' (i + 1) (ea.size - (i + 1)) := by
      rw [show ea.size - i = (ea.size - (i + 1)) + 1 by omega, List.range'_succ] at hr
      exact ⟨(List.cons.inj hr).1, (List.cons.inj hr).2⟩
    have hx : x < xs.length := by omega
    have hy : x < ys.length := by omega
    have eax : ea[x]? = some (entryOfKey knd xs[x]) := by rw [entry_at a4, List.getElem?_eq_getElem hx]; rfl
    have kxy : ys[x].1 = xs[x].1 := by
      have := congrArg (fun l => l[x]?) hk
      simp [hx, hy] at this
      exact this.symm
    refine wpAny_bind (wpAny_dictEntries a1 a3 ?_)
    rw [eax]
    show wpAny _ _ (holding [.ref xs[x].2.1, xs[x].2.2] _ >>= _) _ _ _
    refine wpAny_bind (wpAny_holding (wpAny_bind (wpAny_dictFind_heap (k := xs[x].1) hu (a5 _ (List.getElem_mem hx)) b1 b3 b4 b5 b6 (fun no => ?_) fun j p hj => ?_)))
    · exact absurd (by rw [List.getElem?_eq_getElem hy, ← kxy]) (no x ys[x].2)
    · have jx : j = x := by
        have hjl := (List.getElem?_eq_some_iff.mp hj).1
        have e1 : (ys.map (·.1))[j]? = (ys.map (·.1))[x]? := by
          rw [List.getElem?_map, List.getElem?_map, hj, List.getElem?_eq_getElem hy]
          show some xs[x].1 = some ys[x].1
          rw [kxy]
        exact (List.getElem?_inj (by rw [List.length_map]; exact hjl) b6).mp e1
      subst jx
      refine wpAny_bind (wpAny_dictEntries b1 b3 ?_)
      rw [entry_at b4, hj]
      refine wpAny_holding (hv j xs[j] (xs[j].1, p) (List.getElem?_eq_getElem hx) hj prog w _ _ ?_)
      show wpAny _ _ (if (!true) = true then _ else _) _ _ _
      rw [if_neg (by decide)]
      refine wpAny_bind (wpAny_dictEpoch a1 a3 ?_)
      rw [if_neg (by simp)]
      exact wpAny_pure ⟨rfl, rfl, j + 1, hrest, hlt⟩
  · rintro q st ⟨rfl, rfl, _⟩
    exact wpAny_pure h
end
def rNeX (K : PySem.W.Frag) : R2 := fun x y H Q => ∃ a xs b zs, x = .ref a ∧ y = .ref b ∧ Rd H a (dTo a xs) ∧ Rd H b (dTo b zs) ∧ KsT K H xs ∧ KsT K H zs ∧ xs.map (·.1) = zs.map (·.1) ∧
  (∀ (j : Nat) k b v k' b' v', xs[j]? = some (k, b, v) → zs[j]? = some (k', b', v') → ∃ n, v = .int n ∧ v' = .int n) ∧ Q (.bl false) H
theorem op_neX {X : Cx} (hu : X.A.units + 1 < cLine) : OpR X (compareOp .NotEq) (rNeX X.K) := by
  intro pn s σ H x y v u Q J rx ry hh
  obtain ⟨a, xs, b, zs, rfl, rfl, ra, rb, ka, kb, hk, hv, q⟩ := hh
  obtain rfl : v = Value.ref a := rx
  obtain rfl : u = Value.ref b := ry
  obtain ⟨_, h2, _, ys, h4, da⟩ := d_held J ra ka
  obtain ⟨_, g2, _, ws, g4, db⟩ := d_held J rb kb
  have ta := da.typeIs
  have tb := db.typeIs
  have hks : ys.map (·.1) = ws.map (·.1) := by rw [← xrel_keys h4, ← xrel_keys g4, hk]
  have hvs : ∀ (j : Nat) y z, ys[j]? = some y → ws[j]? = some z → SeqAt.EqAt X.A.in1 s y.2.2 z.2.2 true := fun j y z e1 e2 => by
    have l1 : j < xs.length := by rw [xrel_len h4]; exact (List.getElem?_eq_some_iff.mp e1).1
    have l2 : j < zs.length := by rw [xrel_len g4]; exact (List.getElem?_eq_some_iff.mp e2).1
    obtain ⟨k, b1, v, hx⟩ : ∃ k b v, xs[j]? = some (k, b, v) := ⟨_, _, _, List.getElem?_eq_getElem l1⟩
    obtain ⟨k', b1', v', hz⟩ : ∃ k b v, zs[j]? = some (k, b, v) := ⟨_, _, _, List.getElem?_eq_getElem l2⟩
    obtain ⟨n, rfl, rfl⟩ := hv j _ _ _ _ _ _ hx hz
    obtain ⟨u, hy, r1⟩ := xrel_get h4 hx
    obtain ⟨u', hw, r2⟩ := xrel_get g4 hz
    rw [hy] at e1
    rw [hw] at e2
    cases e1
    cases e2
    obtain ⟨t, rfl⟩ := r1
    obtain ⟨t', rfl⟩ := r2
    have := SeqAt.EqAt.int_int (A := X.A.in1) (s := s) n t n t'
    rwa [beq_self_eq_true] at this
  refine wpAny_richCompare_same_room (op := .NotEq) ta tb PySem.F.slot_dict_ne (wpAny_call_entry PySem.F.slot_dict_ne ta PySem.F.entry_dict_ne ?_ (PySem.F.args_dict_ne_2 _ _)) (by omega)
  show wpAny _ _ (Builtin.Dict.dictSlotArgs "__ne__" ⟨[.ref a, .ref b], []⟩ >>= _) _ _ s
  refine wpAny_bind ?_
  unfold Builtin.Dict.dictSlotArgs
  refine wpAny_bind (wpAny_notOrdered_dict ta ?_)
  show wpAny _ _ (pure (Value.ref a, Value.ref b)) _ _ s
  refine wpAny_pure (wpAny_bind (wpAny_isInstance (T := "dict") tb PySem.F.sub_dict_dict ?_))
  simp only [Bool.not_true, Bool.false_eq_true, if_false]
  refine wpAny_bind (wpAny_pure (wpAny_bind (wpAny_pure (wpAny_bind ?_))))
  refine same_pairs h2 g2 (knd := tupleKind (intKind X.prog X.w)) (tupleKind_room_in1 hu) da db hks hvs ?_
  refine wpAny_pure ⟨_, rfl, ?_⟩
  exact ⟨(fun x => by cases x), .bl false, H, J, rfl, q⟩
theorem int_at {K : PySem.W.Frag} {F : Hp} {xs : XT} {es : List (List Int × PyData)} (g : DpAll K F (xs.map (·.2.2)) (es.map (·.2))) (hi : ∀ x ∈ es, ∃ n, x.2 = .int n) {j : Nat} {k : List Int} {b : Addr} {v : V} (hx : xs[j]? = some (k, b, v)) :
    ∃ n, v = .int n ∧ (es[j]?).map (·.2) = some (.int n) := by
  have hv : (xs.map (·.2.2))[j]? = some v := by rw [List.getElem?_map, hx]; rfl
  obtain ⟨d, hd, dp⟩ := g.getV hv
  rw [List.getElem?_map] at hd
  cases he : es[j]? with
  | none => rw [he] at hd; cases hd
  | some x =>
    rw [he] at hd
    obtain ⟨n, hn⟩ := hi x (List.mem_of_getElem? he)
    have ed : x.2 = d := Option.some.inj hd
    rw [hn] at ed
    subst ed
    cases dp
    exact ⟨n, rfl, by show some x.2 = _; rw [hn]⟩
def wNeT (wa wb : WE) : WE := fun ρ Q => wa ρ fun r1 ρ1 => wb ρ1 fun r2 ρ2 => match (r1.ot ρ2).bind OT.dict, (r2.ot ρ2).bind OT.dict with
  | some (.dt es), some (.dt fs) => es = fs ∧ (∀ x ∈ es, ∃ n, x.2 = .int n) ∧ Q (.fz (.bool false)) ρ2
  | _, _ => False
section
variable {X : Cx} {o i : Expr} {wa wb : WE} {pos : Pos} {k : Nat}
theorem ne_runT {ta tb : TE} (ha : RE X.K ta wa) (hb : RE X.K tb wb) : RE X.K (tOp (rNeX X.K) ta tb) (wNeT wa wb) := by
  intro σ H F ρ fr Q Q' S hw kk
  refine ha σ H F ρ fr _ _ S hw fun v1 H1 F1 ρ1 r1 m1 hw o1 S1 k1 => ?_
  refine hb σ H1 F1 ρ1 _ _ _ S1 hw fun v2 H2 F2 ρ2 r2 m2 hw o2 S2 k2 => ?_
  split at hw
  · rename_i es fs hr1 hr2
    obtain ⟨rfl, hi, hw⟩ := hw
    obtain ⟨t1, ht1, hd1⟩ := Option.bind_eq_some_iff.mp hr1
    obtain ⟨t2, ht2, hd2⟩ := Option.bind_eq_some_iff.mp hr2
    obtain ⟨_, ow1⟩ := (o1.kp k2).own S2.left ht1
    obtain ⟨_, ow2⟩ := o2.own S2 ht2
    obtain ⟨a, _, rfl, rd1, xs, rfl, g1, g2, g3⟩ := own_dict ow1 S2.ex hd1
    obtain ⟨b, _, rfl, rd2, zs, rfl, f1, f2, f3⟩ := own_dict ow2 S2.ex hd2
    refine ⟨a, xs, b, zs, rfl, rfl, rd1, rd2, g1.up S2.ex, f1.up S2.ex, by rw [g2, f2], fun j k b v k' b' v' e1 e2 => ?_, kk _ H2 F2 ρ2 (.fz _) z0 hw ⟨.bl _, rfl⟩ S2.left.left (k1.trans k2.left)⟩
    obtain ⟨n, h1, h2⟩ := int_at g3 hi e1
    obtain ⟨n', h3, h4⟩ := int_at f3 hi e2
    rw [h2] at h4
    cases h4
    exact ⟨n, h1, h3⟩
  · exact hw.elim
theorem de_neT (hr : Room k X.A) (ha : DE X o wa) (hb : DE X i wb) (hm : behindInMarks .NotEq i = false := by rfl) : DE X (.Compare o [.NotEq] [i] pos) (wNeT wa wb) := by
  obtain ⟨⟨ta, pa, ra⟩⟩ := ha
  obtain ⟨⟨tb, pb, rb⟩⟩ := hb
  have hu := hr.units
  exact ⟨⟨_, pe_cmpR (op_neX (by omega)) pa pb hm, ne_runT ra rb⟩⟩
theorem dt_neT (hr : Room k X.A) (ha : DE X o wa) (hb : DE X i wb) (hm : behindInMarks .NotEq i = false := by rfl) : DT X (.Compare o [.NotEq] [i] pos) (wTst (wNeT wa wb)) := by
  obtain ⟨⟨ta, pa, ra⟩⟩ := ha
  obtain ⟨⟨tb, pb, rb⟩⟩ := hb
  have hu := hr.units
  exact ⟨_, pt_cmpR (op_neX (by omega)) pa pb hm, tst_run (ne_runT ra rb)⟩
end
end DL

namespace DL
open PySem PySem.Spec PyProof.Rows L2
/-! ### an own dict frozen while an expression is reckoned that changes nothing of its own -/
def hideO : Option OT → Option OT
  | some (.lst _ _) => none
  | some (.lls _ _) => none
  | some (.ox _ _) => none
  | x => x
def hideR (ρ : Rho) : Rho := ρ.map hideO
def wThaw (i : Nat) (wa : WE) : WE := fun ρ Q => match look ρ i with
  | some (.ox _ t) => wa ((hideR ρ).set i (some (.fx t))) fun r _ => match r with
    | .tm (.lst q ds) => Q (.tm (.lst q ds)) ρ
    | .tm (.fz d) => Q (.tm (.fz d)) ρ
    | _ => False
  | _ => False
section
variable {K : PySem.W.Frag} {F H : Hp} {σ : Sg} {ρ : Rho} {fr m : Fp} {p : Addr} {u : HO} {od : Obj}
def noP (F : Hp) (p : Addr) : Hp := fun a => if a = p then none else F a
theorem noP_ne {a : Addr} (h : a ≠ p) : noP F p a = F a := if_neg h
theorem noP_same : noP F p p = none := if_pos rfl
theorem hidden (o : OwnS K F H ρ σ m) : OwnS K F H (hideR ρ) σ z0 := by
  induction o with
  | nil => exact .nil
  | un _ ih => exact .un ih
  | @sm ρ σ m n t v ht _ ih =>
    have fin : m = z0 → OwnS K F H (some t :: hideR ρ) (some v :: σ) z0 := fun e => by
      subst e
      exact .sm ht ih
    cases t with
    | fz d => exact fin ht.2
    | lst q ds => exact .un ih
    | lls q dss => exact .un ih
    | vv w => exact fin ht.2
    | exc n k => exact fin ht.2
    | fx t => exact fin ht.2
    | ox q t => exact .un ih
theorem hide_len : ∀ ρ : Rho, (hideR ρ).length = ρ.length := fun ρ => List.length_map ..
/-- what is no list and no tuple -/
def NoSeq (u : HO) : Prop := (∀ xs, u ≠ .lst xs) ∧ (∀ xs, u ≠ .tup xs) ∧ ∀ o v, u ≠ .frz o v
theorem hot_noseq {t : DD} (h : HoT K F p t u) : NoSeq u := by
  cases t with
  | dk es => obtain ⟨kvs, rfl, _⟩ := h; exact ⟨fun _ z => (by cases z), fun _ z => (by cases z), fun _ _ z => (by cases z)⟩
  | dt es => obtain ⟨xs, rfl, _⟩ := h; exact ⟨fun _ z => (by cases z), fun _ z => (by cases z), fun _ _ z => (by cases z)⟩
  | dd es => obtain ⟨xs, rfl, _⟩ := h; exact ⟨fun _ z => (by cases z), fun _ z => (by cases z), fun _ _ z => (by cases z)⟩
theorem rd_no {a : Addr} {w : HO} (hp : F p = some (.frz od u)) (hw : u ≠ w) (hw2 : ∀ o v, w ≠ .frz o v) (h : Rd F a w) : Rd (noP F p) a w := by
  have ne : a ≠ p := fun e => by
    subst e
    rcases h with h | ⟨o, h⟩
    · rw [hp] at h
      cases h
      exact hw2 _ _ rfl
    · rw [hp] at h
      cases h
      exact hw rfl
  unfold Rd
  rw [noP_ne ne]
  exact h
mutual
theorem dp_no (hp : F p = some (.frz od u)) (hu : NoSeq u) : ∀ (d : PyData) (v : V), Dp K F v d → Dp K (noP F p) v d
  | .none, _, h => by cases h; exact .non
  | .bool b, _, h => by cases h; exact .bl b
  | .int i, _, h => by cases h; exact .int i
  | .str x, _, h => by cases h; exact .str x
  | .list ds, _, h => by
    cases h with
    | lst hs ha => exact .lst (hs.imp (rd_no hp (hu.1 _) (fun _ _ z => by cases z)) id) (dpa_no hp hu ds _ ha)
  | .tuple ds, _, h => by
    cases h with
    | tup hs ha => exact .tup (hs.imp (rd_no hp (hu.2.1 _) (fun _ _ z => by cases z)) id) (dpa_no hp hu ds _ ha)
  | .dict _, _, h => by cases h
theorem dpa_no (hp : F p = some (.frz od u)) (hu : NoSeq u) : ∀ (ds : List PyData) (vs : List V), DpAll K F vs ds → DpAll K (noP F p) vs ds
  | [], _, h => by cases h; exact .nil
  | d :: ds, _, h => by
    cases h with
    | cons h1 h2 => exact .cons (dp_no hp hu d _ h1) (dpa_no hp hu ds _ h2)
end
/-- the frozen state to start with -/
theorem SI.freeze (S : SI K F H σ ρ fr) {i : Nat} {t : DD} (hi : look ρ i = some (.ox p t)) : ∃ u m, H p = some u ∧ NoSeq u ∧ Mut (some u) ∧ HoT K F p t u ∧ OwnS K F H ρ σ m ∧ m p = 1 ∧ fr p = 0 ∧ F p = none ∧
    (∀ a, m a + fr a ≤ 1 ∧ (m a + fr a ≠ 0 → F a = none ∧ H a ≠ none)) ∧
    ∀ od, SI K (upd F p (.frz od u)) (upd H p (.frz od u)) σ ((hideR ρ).set i (some (.fx t))) fun a => if a = p then 0 else m a + fr a := by
  obtain ⟨m, o, q⟩ := S.own
  obtain ⟨m1, m2, em, h1, _, _, _, _⟩ := o.at (look_lt hi)
  obtain ⟨v, ev, ow⟩ := h1 _ hi
  obtain ⟨⟨u, rfl, hp, ht⟩, e1⟩ := ow
  have mp : m p = 1 := by
    have := (q p).1
    have e2 : m p = m1 p + m2 p := by rw [em]; rfl
    have e3 : m1 p = 1 := by rw [e1]; simp [one]
    omega
  have fp : fr p = 0 := by have := (q p).1; omega
  have Fp0 : F p = none := ((q p).2 (by omega)).1
  refine ⟨u, m, hp, hot_noseq ht, hot_mut ht, ht, o, mp, fp, Fp0, q, fun od => ?_⟩
  have sF : Same F (upd F p (.frz od u)) := fun b ob e => by
    rw [upd_ne fun e' => by subst e'; rw [Fp0] at e; cases e]
    exact e
  have oh := (hidden o).kp (H' := upd H p (.frz od u)) sF fun a za => absurd rfl za
  obtain ⟨_, m2', _, _, _, _, _, h3⟩ := oh.at (i := i) (by rw [hide_len]; exact look_lt hi)
  have hz : ∀ a, m2' a = 0 := fun a => by
    rename_i m1' em' _ _ _ _
    have := congrFun em' a
    have : (0 : Nat) = m1' a + m2' a := this
    omega
  obtain ⟨m'', o'', e''⟩ := h3 (.fx t) (.ref p) z0 ⟨⟨p, od, u, rfl, upd_same, ht.kp sF⟩, rfl⟩
  rw [show σ.set i (some (V.ref p)) = σ from set_self ev] at o''
  have ez : ∀ a, m'' a = 0 := fun a => by rw [e'' a, hz a]; rfl
  refine ⟨fun b ob e => ?_, m'', o'', fun a => ?_⟩
  · by_cases hb : b = p
    · subst hb
      rw [upd_same] at e ⊢
      exact e
    · rw [upd_ne hb] at e ⊢
      exact S.ex b ob e
  · rw [ez a]
    by_cases ha : a = p
    · subst ha
      simp
    · obtain ⟨q1, q2⟩ := q a
      rw [if_neg ha, upd_ne ha, upd_ne ha]
      exact ⟨by omega, fun n => q2 (by omega)⟩
/-- and back -/
theorem SI.thaw {F' H' : Hp} {ρ' : Rho} {m1 : Fp} (S : SI K F H σ ρ fr) (hp : H p = some u) (o : OwnS K F H ρ σ m) (mp : m p = 1) (fp : fr p = 0) (Fp0 : F p = none)
    (q : ∀ a, m a + fr a ≤ 1 ∧ (m a + fr a ≠ 0 → F a = none ∧ H a ≠ none)) (k1 : Kp (upd F p (.frz od u)) (upd H p (.frz od u)) (fun a => if a = p then 0 else m a + fr a) F' H')
    (S1 : SI K F' H' σ ρ' (padd (fun a => if a = p then 0 else m a + fr a) m1)) (m1p : m1 p = 0) :
    SI K (noP F' p) (upd H' p u) σ ρ (padd fr m1) ∧ Kp F H fr (noP F' p) (upd H' p u) := by
  have sF : Same F (noP F' p) := fun b ob e => by
    have hb : b ≠ p := fun z => by subst z; rw [Fp0] at e; cases e
    rw [noP_ne hb]
    exact k1.exF b ob (by rw [upd_ne hb]; exact e)
  have kH : ∀ a, m a + fr a ≠ 0 → upd H' p u a = H a := fun a za => by
    by_cases ha : a = p
    · subst ha; rw [upd_same, hp]
    · rw [upd_ne ha, k1.keep a (by rw [if_neg ha]; exact za), upd_ne ha]
  refine ⟨⟨fun b ob e => ?_, m, o.kp sF fun a za => kH a (by omega), fun a => ?_⟩, sF, fun a za => kH a (by omega), fun a za => ?_⟩
  · have hb : b ≠ p := fun z => by subst z; rw [noP_same] at e; cases e
    rw [noP_ne hb] at e
    rw [upd_ne hb]
    exact S1.ex b ob e
  · obtain ⟨m', o', q'⟩ := S1.own
    obtain ⟨q1, q2⟩ := q' a
    obtain ⟨q3, q4⟩ := q a
    by_cases ha : a = p
    · subst ha
      rw [noP_same, upd_same]
      unfold padd
      exact ⟨by omega, fun _ => ⟨rfl, by simp⟩⟩
    · rw [noP_ne ha, upd_ne ha]
      unfold padd at q1 q2 ⊢
      dsimp only at q1 q2
      rw [if_neg ha] at q1 q2
      exact ⟨by omega, fun n => q2 (by omega)⟩
  · by_cases ha : a = p
    · subst ha; rw [upd_same]; simp
    · rw [upd_ne ha]
      exact k1.grow a (by rw [upd_ne ha]; exact za)
end
section
variable {X : Cx} {e : Expr} {wa : WE}
theorem de_thaw {i : Nat} (h : DE X e wa) : DE X e (wThaw i wa) := by
  obtain ⟨⟨t, p, r⟩⟩ := h
  refine ⟨⟨_, pe_lock p, fun σ H F ρ fr Q Q' S hw k => ?_⟩⟩
  unfold wThaw at hw
  split at hw
  · rename_i pa td hl
    obtain ⟨u, m, hp, hu, mu, ht, o, mp, fp, Fp0, q, hS⟩ := S.freeze hl
    refine ⟨pa, u, hp, mu, fun od => ?_⟩
    refine r σ _ _ _ _ _ _ (hS od) hw fun v1 H1 F1 ρ1 r1 m1 hw o1 S1 k1 => ?_
    have hF1 : F1 pa = some (.frz od u) := k1.exF _ _ upd_same
    refine ⟨S1.ex _ _ hF1, ?_⟩
    split at hw
    · rename_i q1 ds
      obtain ⟨vs, rfl, hq, ha, rfl⟩ := o1
      have nq : q1 ≠ pa := fun z => by
        obtain ⟨m', o', q'⟩ := S1.own
        have := ((q' q1).2 (by unfold padd one; simp)).1
        rw [z, hF1] at this
        cases this
      have m1p : one q1 pa = 0 := if_neg fun z => nq z.symm
      obtain ⟨S2, k2⟩ := S.thaw hp o mp fp Fp0 q k1 S1 m1p
      exact k _ _ _ ρ _ _ hw ⟨vs, rfl, by rw [upd_ne nq]; exact hq, dpa_no hF1 hu _ _ ha, rfl⟩ S2 k2
    · rename_i d
      obtain ⟨hd, rfl⟩ := o1
      obtain ⟨S2, k2⟩ := S.thaw hp o mp fp Fp0 q k1 S1 rfl
      exact k _ _ _ ρ _ _ hw ⟨dp_no hF1 hu _ _ hd, rfl⟩ S2 k2
    · exact hw.elim
  · exact hw.elim
end
end DL

namespace Lw
open PySem PySem.Spec PyProof.Rows L2 DL
def tab_STEPS : List (Str × PyData) := [("e", .tuple [.int (0), .int (1)]), ("n", .tuple [.int (-1), .int (0)]), ("s", .tuple [.int (1), .int (0)]), ("w", .tuple [.int (0), .int (-1)])]
theorem dpa_ints {K : PySem.W.Frag} {H : Hp} : ∀ ns : List Int, DpAll K H (ns.map V.int) (ns.map .int)
  | [] => .nil
  | n :: ns => .cons (.int n) (dpa_ints ns)
abbrev cs (x : Str) : List Nat := x.cps.toList
abbrev tI (i : Int) : OT := .fz (.int i)
theorem atI_map {α β : Type} (f : α → β) (ns : List α) (a : Int) (h0 : 0 ≤ a) (h1 : a < ns.length) : ∃ x, x ∈ ns ∧ atI (ns.map f) a = some (f x) := by
  obtain ⟨j, rfl⟩ : ∃ j : Nat, a = j := ⟨a.toNat, by omega⟩
  have hj : j < ns.length := by omega
  exact ⟨ns[j], List.getElem_mem hj, atI_nat (by simp [hj])⟩
abbrev strsD (rs : List Str) : List PyData := rs.map .str
def RowsOk (R C : Nat) (rs : List Str) : Prop := rs.length = R ∧ ∀ r ∈ rs, r.length = C ∧ ∀ x ∈ cs r, x = 46 ∨ x = 35
def GridOk (rs : List Str) : Prop := ∃ R C, RowsOk R C rs ∧ 1 ≤ R ∧ R ≤ 12 ∧ 1 ≤ C ∧ C ≤ 12
def nl : Str := Str.ofString "\n"
theorem rng_get {lo : Int} {n i : Nat} {x : PyData} (h : (rng lo n)[i]? = some x) : x = .int (lo + i) ∧ i < n := by
  unfold rng at h
  rw [List.getElem?_map] at h
  cases e : (List.range n)[i]? with
  | none => rw [e] at h; cases h
  | some c =>
    rw [e] at h
    cases h
    obtain ⟨h1, h2⟩ := List.getElem?_eq_some_iff.mp e
    have h1' : i < n := by simpa using h1
    have : c = i := by rw [← h2]; simp
    subst this
    exact ⟨rfl, h1'⟩
theorem rng_len (lo : Int) (n : Nat) : (rng lo n).length = n := by simp [rng]
def SignOk (r : Str) : Prop := ∀ x ∈ cs r, x = 46 ∨ x = 35
theorem sign_app {r z : Str} (h : SignOk r) (h' : SignOk z) : SignOk (r ++ z) := fun x hx => by
  have e : cs (r ++ z) = cs r ++ cs z := TL.tl_append r z
  rw [e] at hx
  rcases List.mem_append.mp hx with q | q
  · exact h x q
  · exact h' x q
theorem len_app (r z : Str) : (r ++ z).length = r.length + z.length := by
  have e : cs (r ++ z) = cs r ++ cs z := TL.tl_append r z
  have h := congrArg List.length e
  simpa [Str.length] using h
theorem dot_ok : SignOk (Str.ofString ".") ∧ (Str.ofString ".").length = 1 := ⟨fun x hx => .inl (by simpa using (show x ∈ [46] from hx)), rfl⟩
theorem wall_ok : SignOk (Str.ofString "#") ∧ (Str.ofString "#").length = 1 := ⟨fun x hx => .inr (by simpa using (show x ∈ [35] from hx)), rfl⟩
theorem strs_app (rs : List Str) (z : Str) : strsD rs ++ [.str z] = strsD (rs ++ [z]) := by simp
theorem rows_app {i C : Nat} {rs : List Str} {z : Str} (h : RowsOk i C rs) (hz : z.length = C) (sz : SignOk z) : RowsOk (i + 1) C (rs ++ [z]) := by
  refine ⟨by simp [h.1], fun r hr => ?_⟩
  rcases List.mem_append.mp hr with q | q
  · exact h.2 r q
  · rw [List.mem_singleton.mp q]; exact ⟨hz, sz⟩
abbrev PI2 := Int × Int
abbrev prD (p : PI2) : PyData := .tuple [.int p.1, .int p.2]
abbrev psD (ps : List PI2) : List PyData := ps.map prD
abbrev tG (rs : List Str) : OT := .fz (.tuple (strsD rs))
abbrev tP (p : PI2) : OT := .fz (prD p)
def cellO (rs : List Str) (a b : Int) : Option Nat := (rs[a.toNat]?).bind fun z => (cs z)[b.toNat]?
def freeB (rs : List Str) (p : PI2) : Bool := decide (0 ≤ p.1) && decide (0 ≤ p.2) && (cellO rs p.1 p.2 == some 46)

theorem sg_eq (a b : Nat) : decide ((⟨#[a]⟩ : Str) = ⟨#[b]⟩) = decide (a = b) := by
  by_cases h : a = b
  · subst h; simp
  · rw [decide_eq_false h, decide_eq_false]
    intro e
    injection e with e
    have := congrArg Array.toList e
    simp at this
    exact h this
theorem signs_get {z : Str} {i : Nat} {x : PyData} (h : (signsD z)[i]? = some x) : ∃ c, (cs z)[i]? = some c ∧ x = .str ⟨#[c]⟩ := by
  unfold signsD at h
  rw [List.getElem?_map] at h
  cases e : (cs z)[i]? with
  | none => rw [show z.cps.toList[i]? = none from e] at h; cases h
  | some c => rw [show z.cps.toList[i]? = some c from e] at h; cases h; exact ⟨c, rfl, rfl⟩
theorem signs_len (z : Str) : (signsD z).length = z.length := by simp [signsD, Str.length]
theorem cs_len (z : Str) : (cs z).length = z.length := by simp [Str.length]
theorem row_in {R C : Nat} {rs : List Str} (h : RowsOk R C rs) {a : Int} (ha : 0 ≤ a ∧ a < R) : ∃ z, z ∈ rs ∧ rs[a.toNat]? = some z ∧ atI (strsD rs) a = some (.str z) ∧ z.length = C := by
  obtain ⟨j, rfl⟩ : ∃ j : Nat, a = j := ⟨a.toNat, by omega⟩
  have hj : j < rs.length := by have := h.1; omega
  have e : rs[j]? = some rs[j] := List.getElem?_eq_getElem hj
  refine ⟨rs[j], List.getElem_mem hj, e, atI_nat (by rw [List.getElem?_map, e]; rfl), (h.2 _ (List.getElem_mem hj)).1⟩
theorem sign_in {C : Nat} {z : Str} (h : z.length = C) {b : Int} (hb : 0 ≤ b ∧ b < C) : ∃ c, (cs z)[b.toNat]? = some c ∧ atI (cs z) b = some c := by
  obtain ⟨j, rfl⟩ : ∃ j : Nat, b = j := ⟨b.toNat, by omega⟩
  have hj : j < (cs z).length := by rw [cs_len]; omega
  have e : (cs z)[j]? = some (cs z)[j] := List.getElem?_eq_getElem hj
  exact ⟨_, e, atI_nat e⟩
theorem free_at {rs : List Str} {a b : Int} {z : Str} {c : Nat} (ha : 0 ≤ a) (hb : 0 ≤ b) (hz : rs[a.toNat]? = some z) (hc : (cs z)[b.toNat]? = some c) : freeB rs (a, b) = decide (c = 46) := by
  unfold freeB cellO
  simp only [decide_eq_true ha, decide_eq_true hb, hz, Option.bind_some, hc, Bool.true_and]
  by_cases h : c = 46
  · subst h; rfl
  · rw [decide_eq_false h]
    exact beq_eq_false_iff_ne.mpr (by simpa using h)
theorem free_in {R C : Nat} {rs : List Str} (h : RowsOk R C rs) {a b : Int} (f : freeB rs (a, b) = true) : (0 ≤ a ∧ a < R) ∧ 0 ≤ b ∧ b < C := by
  unfold freeB cellO at f
  simp only [Bool.and_eq_true, decide_eq_true_eq] at f
  obtain ⟨⟨h1, h2⟩, h3⟩ := f
  cases e : rs[a.toNat]? with
  | none => rw [e] at h3; cases h3
  | some z =>
    rw [e] at h3
    have hz := (List.getElem?_eq_some_iff.mp e).1
    have hm := h.2 z (List.mem_of_getElem? e)
    have h3 := eq_of_beq h3
    have hc := (List.getElem?_eq_some_iff.mp h3).1
    rw [cs_len, hm.1] at hc
    have := h.1
    exact ⟨⟨h1, by omega⟩, h2, by omega⟩
theorem ps_app (ps : List PI2) (p : PI2) : psD ps ++ [prD p] = psD (ps ++ [p]) := by simp
theorem dq (c : Nat) : decide ((⟨#[c]⟩ : Str) = Str.ofString ".") = decide (c = 46) := sg_eq c 46
def isF (t : Option OT) : Prop := t = none ∨ ∃ x, t = some (.fz x)
theorem isF_n : isF none := .inl rfl
theorem isF_s {x : PyData} : isF (some (.fz x)) := .inr ⟨x, rfl⟩
theorem sh_int (i : Int) : PyData.canLay0 (.int i) = true := rfl
theorem pr_lay (p : PI2) : PyData.canLay0 (prD p) = true := rfl
theorem pr_depth (p : PI2) : PyData.depth (prD p) = 1 := rfl
theorem ps_lay : ∀ ps : List PI2, PyData.canLayAll0 (psD ps) = true
  | [] => rfl
  | p :: ps => by
    show (PyData.canLay0 (prD p) && PyData.canLayAll0 (psD ps)) = true
    rw [pr_lay, ps_lay ps]
    rfl
theorem ps_depth : ∀ ps : List PI2, PyData.depthAll (psD ps) ≤ 1
  | [] => by decide
  | p :: ps => by
    show max (PyData.depth (prD p)) (PyData.depthAll (psD ps)) ≤ 1
    have := ps_depth ps
    rw [pr_depth]
    omega
theorem sh_pr (p : PI2) : SeqAt.shaped (prD p) = true := rfl
theorem sh_psL (ps : List PI2) : SeqAt.shaped (.list (psD ps)) = true := by
  unfold SeqAt.shaped
  rw [Bool.and_eq_true, decide_eq_true_eq]
  refine ⟨ps_lay ps, ?_⟩
  show PyData.depthAll (psD ps) + 1 ≤ 64
  have := ps_depth ps
  omega
theorem sh_psT (ps : List PI2) : SeqAt.shaped (.tuple (psD ps)) = true := by
  unfold SeqAt.shaped
  rw [Bool.and_eq_true, decide_eq_true_eq]
  refine ⟨ps_lay ps, ?_⟩
  show PyData.depthAll (psD ps) + 1 ≤ 64
  have := ps_depth ps
  omega
theorem pr_eqv (p q : PI2) : PyData.eqv (prD p) (prD q) = decide (p = q) := by
  obtain ⟨a, b⟩ := p
  obtain ⟨c, d⟩ := q
  have e : PyData.eqv (prD (a, b)) (prD (c, d)) = ((a == c) && ((b == d) && true)) := by simp only [PyData.eqv, PyData.eqvAll]
  rw [e, Bool.and_true]
  by_cases h1 : a = c
  · subst h1
    by_cases h2 : b = d
    · subst h2; simp
    · rw [beq_eq_false_iff_ne.mpr h2, decide_eq_false (fun q => h2 (Prod.mk.inj q).2), Bool.and_false]
  · rw [beq_eq_false_iff_ne.mpr h1, decide_eq_false (fun q => h1 (Prod.mk.inj q).1), Bool.false_and]
theorem eqv_nilL (ds : List PyData) : PyData.eqv (.list ds) (.list []) = ds.isEmpty := by
  cases ds <;> rfl
theorem atI_ps {ps : List PI2} {n : Int} (h0 : 0 ≤ n) (h1 : n < ps.length) : ∃ p, p ∈ ps ∧ atI (psD ps) n = some (prD p) := by
  obtain ⟨j, rfl⟩ : ∃ j : Nat, n = j := ⟨n.toNat, by omega⟩
  have hj : j < ps.length := by omega
  exact ⟨ps[j], List.getElem_mem hj, atI_nat (by simp [hj])⟩
def phi_is_free : FS := fun ts Q => ∃ rs p, ts = [tG rs, tP p] ∧ GridOk rs ∧ Q (.fz (.bool (freeB rs p))) ts
def W_is_free_3 : WS := (wRet (wOp2 gEq (wIx (wIx (wVar 0) (wVar 2)) (wVar 3)) (wC (.str (Str.ofString ".")))))
def W_is_free_2 : WS := wSeq (wIfS (wOr (wTst (wOp2 (gI0 fun i j => .bool (decide (i < j))) (wVar 3) (wC (.int 0)))) (wTst (wOp2 (gI0 fun i j => .bool (decide (j ≤ i))) (wVar 3) (wCB gLen (wCons (wIx (wVar 0) (wVar 2)) wNil))))) (wRet (wC (.bool false))) wNext) W_is_free_3
def W_is_free_1 : WS := wSeq (wIfS (wOr (wTst (wOp2 (gI0 fun i j => .bool (decide (i < j))) (wVar 2) (wC (.int 0)))) (wTst (wOp2 (gI0 fun i j => .bool (decide (j ≤ i))) (wVar 2) (wCB gLen (wCons (wVar 0) wNil))))) (wRet (wC (.bool false))) wNext) W_is_free_2
def W_is_free_0 : WS := wSeq (wAsg (wVar 1) (gvTup 2 (gvCons (gvName 2) (gvCons (gvName 3) gvNil)))) W_is_free_1
def W_is_free : WS := W_is_free_0

theorem free_no {rs : List Str} {a b : Int} (h : ¬ (0 ≤ a ∧ 0 ≤ b)) : freeB rs (a, b) = false := by
  unfold freeB
  by_cases h1 : 0 ≤ a
  · have h2 : ¬ 0 ≤ b := fun q => h ⟨h1, q⟩
    simp [decide_eq_false h2]
  · simp [decide_eq_false h1]
theorem free_out {R C : Nat} {rs : List Str} (hrs : RowsOk R C rs) {a b : Int} (h : ¬ ((0 ≤ a ∧ a < R) ∧ 0 ≤ b ∧ b < C)) : freeB rs (a, b) = false := by
  cases e : freeB rs (a, b) with
  | false => rfl
  | true => exact absurd (free_in hrs e) h
theorem v_is_free (ts : List OT) (Q : OT → List OT → Prop) (h : phi_is_free ts Q) : W_is_free (endsF 4 ts Q) (startR 4 ts) := by
  have hz : sizeLine = 16777216 := sizeLine_eq
  obtain ⟨rs, ⟨a, b⟩, rfl, ⟨R, C, hrs, hR, hR2, hC, hC2⟩, h⟩ := h
  have hlen : (strsD rs).length = R := by rw [List.length_map, hrs.1]
  show W_is_free _ [some (tG rs), some (tP (a, b)), none, none]
  conv => whnf
  show W_is_free_1 _ [some (tG rs), some (tP (a, b)), some (tI a), some (tI b)]
  have no : ¬ ((0 ≤ a ∧ a < R) ∧ 0 ≤ b ∧ b < C) → Q (.fz (.bool false)) [tG rs, tP (a, b)] := fun q => by
    rw [free_out hrs q] at h
    exact h
  conv => whnf
  refine bmd (fun h1 => no (by omega)) (fun h1 => ?_)
  conv => whnf
  rw [hlen]
  refine bmd (fun h2 => no (by omega)) (fun h2 => ?_)
  show W_is_free_2 _ [some (tG rs), some (tP (a, b)), some (tI a), some (tI b)]
  conv => whnf
  refine bmd (fun h3 => no (by omega)) (fun h3 => ?_)
  conv => whnf
  obtain ⟨z, _, e1, e2, e3⟩ := row_in hrs (a := a) ⟨by omega, by omega⟩
  rw [e2]
  conv => whnf
  refine ⟨by rw [e3]; omega, ?_⟩
  rw [e3]
  refine bmd (fun h4 => no (by omega)) (fun h4 => ?_)
  show W_is_free_3 _ [some (tG rs), some (tP (a, b)), some (tI a), some (tI b)]
  conv => whnf
  rw [e2]
  obtain ⟨c, f1, f2⟩ := sign_in e3 (b := b) ⟨by omega, by omega⟩
  conv => whnf
  refine ⟨by rw [e3]; omega, ?_⟩
  rw [show atI z.cps.toList b = _ from f2]
  conv => whnf
  rw [dq, ← free_at (rs := rs) (by omega) (by omega) e1 f1]
  exact h
def phi_place_beside : FS := fun ts Q => ∃ p z d, ts = [tP p, .fz (.str z)] ∧ tab_STEPS.lookup z = some (prD d) ∧ Q (tP (p.1 + d.1, p.2 + d.2)) ts
def W_place_beside_1 : WS := (wRet (wTup (wCons (wOp2 gAdd (wIx (wVar 0) (wC (.int 0))) (wVar 2)) (wCons (wOp2 gAdd (wIx (wVar 0) (wC (.int 1))) (wVar 3)) wNil))))
def W_place_beside_0 : WS := wSeq (wAsg (wGdIx tab_STEPS (wVar 1)) (gvTup 2 (gvCons (gvName 2) (gvCons (gvName 3) gvNil)))) W_place_beside_1
def W_place_beside : WS := W_place_beside_0

theorem v_place_beside (ts : List OT) (Q : OT → List OT → Prop) (h : phi_place_beside ts Q) : W_place_beside (endsF 4 ts Q) (startR 4 ts) := by
  obtain ⟨p, z, d, rfl, hl, h⟩ := h
  show W_place_beside _ [some (tP p), some (.fz (.str z)), none, none]
  conv => whnf
  rw [hl]
  conv => whnf
  exact h
end Lw
namespace Lw
open PySem PySem.Spec PyProof.Rows L2 DL
/-! the free places, row by row -/
def rowF (i : Nat) (l : List Nat) (j : Nat) : List PI2 := ((List.range j).filter fun (k : Nat) => decide (l[k]? = some 46)).map fun (k : Nat) => (((i : Nat) : Int), ((k : Nat) : Int))
def upF (rs : List Str) (i : Nat) : List PI2 := (List.range i).flatMap fun k => match rs[k]? with | some z => rowF k (cs z) z.length | none => []
def freePs (rs : List Str) : List PI2 := upF rs rs.length
theorem rowF_succ (i j : Nat) (l : List Nat) : rowF i l (j + 1) = rowF i l j ++ if l[j]? = some 46 then [((i : Int), (j : Int))] else [] := by
  unfold rowF
  rw [List.range_succ, List.filter_append, List.map_append]
  congr 1
  by_cases h : l[j]? = some 46
  · rw [if_pos h, List.filter_cons, if_pos (decide_eq_true h)]
    rfl
  · rw [if_neg h, List.filter_cons, if_neg (by rw [decide_eq_false h]; exact Bool.false_ne_true)]
    rfl
theorem upF_succ {rs : List Str} {i : Nat} {z : Str} (h : rs[i]? = some z) : upF rs (i + 1) = upF rs i ++ rowF i (cs z) z.length := by
  unfold upF
  rw [List.range_succ, List.flatMap_append]
  congr 1
  rw [List.flatMap_cons, List.flatMap_nil, List.append_nil, h]
theorem rowF_len (i j : Nat) (l : List Nat) : (rowF i l j).length ≤ j := by
  unfold rowF
  rw [List.length_map]
  have := List.length_filter_le (fun (k : Nat) => decide (l[k]? = some 46)) (List.range j)
  rw [List.length_range] at this
  exact this
theorem upF_len {R C : Nat} {rs : List Str} (h : RowsOk R C rs) : ∀ i, (upF rs i).length ≤ i * C
  | 0 => Nat.zero_le _
  | i + 1 => by
    have ih := upF_len h i
    cases e : rs[i]? with
    | none =>
      unfold upF at ih ⊢
      rw [List.range_succ, List.flatMap_append, List.length_append, List.flatMap_cons, List.flatMap_nil, e, Nat.succ_mul]
      show _ + 0 ≤ _
      omega
    | some z =>
      rw [upF_succ e, List.length_append, Nat.succ_mul]
      have := rowF_len i z.length (cs z)
      have := (h.2 z (List.mem_of_getElem? e)).1
      omega
theorem rowF_mem {i j : Nat} {l : List Nat} {p : PI2} : p ∈ rowF i l j ↔ ∃ k : Nat, k < j ∧ l[k]? = some 46 ∧ p = ((i : Int), (k : Int)) := by
  unfold rowF
  rw [List.mem_map]
  constructor
  · rintro ⟨k, hk, rfl⟩
    obtain ⟨h1, h2⟩ := List.mem_filter.mp hk
    exact ⟨k, by simpa using h1, of_decide_eq_true h2, rfl⟩
  · rintro ⟨k, h1, h2, rfl⟩
    exact ⟨k, List.mem_filter.mpr ⟨by simpa using h1, decide_eq_true h2⟩, rfl⟩
theorem free_mem {rs : List Str} {p : PI2} : p ∈ freePs rs ↔ freeB rs p = true := by
  unfold freePs upF
  rw [List.mem_flatMap]
  constructor
  · rintro ⟨i, hi, hp⟩
    cases e : rs[i]? with
    | none => rw [e] at hp; cases hp
    | some z =>
      rw [e] at hp
      obtain ⟨k, h1, h2, rfl⟩ := rowF_mem.mp hp
      have := free_at (rs := rs) (a := (i : Int)) (b := (k : Int)) (z := z) (c := 46) (by omega) (by omega) (by rw [Int.toNat_natCast]; exact e) (by rw [Int.toNat_natCast]; exact h2)
      rw [this]
      rfl
  · intro h
    obtain ⟨a, b⟩ := p
    unfold freeB cellO at h
    simp only [Bool.and_eq_true, decide_eq_true_eq] at h
    obtain ⟨⟨h1, h2⟩, h3⟩ := h
    obtain ⟨i, rfl⟩ : ∃ i : Nat, a = i := ⟨a.toNat, by omega⟩
    obtain ⟨k, rfl⟩ : ∃ k : Nat, b = k := ⟨b.toNat, by omega⟩
    rw [Int.toNat_natCast, Int.toNat_natCast] at h3
    cases e : rs[i]? with
    | none => rw [e] at h3; cases h3
    | some z =>
      rw [e] at h3
      have h3 : (cs z)[k]? = some 46 := eq_of_beq h3
      refine ⟨i, by simpa using (List.getElem?_eq_some_iff.mp e).1, ?_⟩
      rw [e]
      exact rowF_mem.mpr ⟨k, by have := (List.getElem?_eq_some_iff.mp h3).1; rwa [cs_len] at this, h3, rfl⟩
def dotS : Str := Str.ofString "."
def phi_places_with : FS := fun ts Q => ∃ rs, ts = [tG rs, .fz (.str dotS)] ∧ GridOk rs ∧ ∀ q, Q (.lst q (psD (freePs rs))) ts
def W_places_with_0 : WS := (wRet (wLc2 [2, 3, 4, 5] [4, 5] (wEnumA (wCons (wVar 0) wNil)) (gvTup 2 (gvCons (gvName 2) (gvCons (gvName 3) gvNil))) wYes (wEnumA (wCons (wVar 3) wNil)) (gvTup 2 (gvCons (gvName 4) (gvCons (gvName 5) gvNil))) (wTst (wOp2 gEq (wVar 5) (wVar 1))) (wTup (wCons (wVar 2) (wCons (wVar 4) wNil)))))
def W_places_with : WS := W_places_with_0

theorem enum0 {ds : List PyData} {i : Nat} {x : PyData} (h : (enumD 0 ds)[i]? = some x) : ∃ d, ds[i]? = some d ∧ x = .tuple [.int ((i : Nat) : Int), d] := by
  rw [enumD_get] at h
  cases e : ds[i]? with
  | none => rw [e] at h; cases h
  | some d =>
    rw [e] at h
    refine ⟨d, rfl, ?_⟩
    have h := Option.some.inj h
    rw [← h, Nat.zero_add]
theorem v_places_with (ts : List OT) (Q : OT → List OT → Prop) (h : phi_places_with ts Q) : W_places_with (endsF 6 ts Q) (startR 6 ts) := by
  have hz : sizeLine = 16777216 := sizeLine_eq
  obtain ⟨rs, rfl, hg, h⟩ := h
  obtain ⟨R, C, hrs, hR, hR2, hC, hC2⟩ := hg
  have hlen : (strsD rs).length = R := by rw [List.length_map, hrs.1]
  show W_places_with _ [some (tG rs), some (.fz (.str dotS)), none, none, none, none]
  conv => whnf
  refine ⟨⟨trivial, trivial, trivial, trivial, trivial⟩, fun i ds ρ => ds = psD (upF rs i) ∧ ∃ x2 x3 x4 x5, ρ = [some (tG rs), some (.fz (.str dotS)), x2, x3, x4, x5] ∧ isF x2 ∧ isF x3 ∧ isF x4 ∧ isF x5, ⟨rfl, none, none, none, none, rfl, isF_n, isF_n, isF_n, isF_n⟩, ?_, ?_⟩
  · rintro i x ds ρ hx ⟨rfl, x2, x3, x4, x5, rfl, h2, h3, h4, h5⟩
    obtain ⟨d, hd, rfl⟩ := enum0 hx
    rw [List.getElem?_map] at hd
    cases hz' : rs[i]? with
    | none => rw [hz'] at hd; cases hd
    | some z =>
      rw [hz'] at hd
      cases hd
      have hzl := (hrs.2 z (List.mem_of_getElem? hz')).1
      have hi := (List.getElem?_eq_some_iff.mp hz').1
      have h0 := upF_len hrs i
      have him : i * C ≤ 12 * 12 := Nat.mul_le_mul (by have := hrs.1; omega) hC2
      conv => whnf
      refine ⟨fun j es ρ => es = psD (upF rs i ++ rowF i (cs z) j) ∧ ∃ x4 x5, ρ = [some (tG rs), some (.fz (.str dotS)), some (tI i), some (.fz (.str z)), x4, x5] ∧ isF x4 ∧ isF x5, ⟨by unfold rowF; simp, none, none, rfl, isF_n, isF_n⟩, ?_, ?_⟩
      · rintro j y es ρ hy ⟨rfl, y4, y5, rfl, g4, g5⟩
        obtain ⟨d, hd, rfl⟩ := enum0 hy
        obtain ⟨c, hc, rfl⟩ := signs_get hd
        have hj : j < 12 := by
          have := (List.getElem?_eq_some_iff.mp hc).1
          rw [cs_len] at this
          omega
        conv => whnf
        rw [show decide ((⟨#[c]⟩ : Str) = dotS) = decide (c = 46) from dq c]
        have hs := rowF_succ i j (cs z)
        rw [hc] at hs
        refine bmd (fun h46 => ?_) (fun h46 => ?_)
        · conv => whnf
          rw [if_pos (by rw [h46])] at hs
          have hl := rowF_len i j (cs z)
          refine ⟨by rw [List.length_map, List.length_append]; omega, ?_, some (tI j), some (.fz (.str ⟨#[c]⟩)), rfl, isF_s, isF_s⟩
          rw [hs, ← List.append_assoc]
          simp
        · rw [if_neg (fun e => h46 (Option.some.inj e)), List.append_nil] at hs
          exact ⟨by rw [hs], some (tI j), some (.fz (.str ⟨#[c]⟩)), rfl, isF_s, isF_s⟩
      · rintro es ρ ⟨rfl, y4, y5, rfl, g4, g5⟩
        rw [enumD_len, signs_len]
        exact ⟨by rw [upF_succ hz'], some (tI i), some (.fz (.str z)), y4, y5, rfl, isF_s, isF_s, g4, g5⟩
  · rintro ds ρ ⟨rfl, x2, x3, x4, x5, rfl, h2, h3, h4, h5⟩ q
    rw [enumD_len, hlen, ← hrs.1]
    exact h q
def phi_free_places : FS := fun ts Q => ∃ rs, ts = [tG rs] ∧ GridOk rs ∧ ∀ q, Q (.lst q (psD (freePs rs))) ts
def W_free_places_0 : WS := (wRet (wCall 2 [false, false] phi_places_with (wCons (wVar 0) (wCons (wC (.str (Str.ofString "."))) wNil))))
def W_free_places : WS := W_free_places_0

theorem v_free_places (ts : List OT) (Q : OT → List OT → Prop) (h : phi_free_places ts Q) : W_free_places (endsF 1 ts Q) (startR 1 ts) := by
  obtain ⟨rs, rfl, hg, h⟩ := h
  show W_free_places _ [some (tG rs)]
  conv => whnf
  refine ⟨rs, rfl, hg, fun q => ?_⟩
  exact h q
end Lw
namespace Lw
open PySem PySem.Spec PyProof.Rows L2 DL
/-! what is seen from a place -/
def stepsL : List PI2 := [(0, 1), (-1, 0), (1, 0), (0, -1)]
def adv (p d : PI2) (k : Nat) : PI2 := (p.1 + k * d.1, p.2 + k * d.2)
theorem adv_succ (p d : PI2) (k : Nat) : ((adv p d k).1 + d.1, (adv p d k).2 + d.2) = adv p d (k + 1) := by
  unfold adv
  have e : ∀ x : Int, ((k + 1 : Nat) : Int) * x = k * x + x := fun x => by
    rw [show ((k + 1 : Nat) : Int) = (k : Int) + 1 from by omega, Int.add_mul, Int.one_mul]
  rw [e, e]
  exact Prod.ext (by show p.1 + k * d.1 + d.1 = p.1 + (k * d.1 + d.1); omega) (by show p.2 + k * d.2 + d.2 = p.2 + (k * d.2 + d.2); omega)
/-- all free up to the k-th -/
def lineTo (rs : List Str) (p d : PI2) (k : Nat) : Prop := ∀ j : Nat, 1 ≤ j → j ≤ k → freeB rs (adv p d j) = true
def SeesBy (rs : List Str) (p : PI2) (ds : List PI2) (z : PI2) : Prop := ∃ d ∈ ds, ∃ k : Nat, 1 ≤ k ∧ z = adv p d k ∧ lineTo rs p d k
abbrev Sees (rs : List Str) (p z : PI2) : Prop := SeesBy rs p stepsL z
theorem line_short {rs : List Str} {p d : PI2} {k : Nat} (hg : GridOk rs) (hd : d ∈ stepsL) (h : lineTo rs p d k) : k ≤ 12 := by
  obtain ⟨R, C, hrs, hR, hR2, hC, hC2⟩ := hg
  rcases Nat.eq_zero_or_pos k with rfl | hk
  · exact Nat.zero_le _
  have h1 := free_in hrs (h 1 (Nat.le_refl _) hk)
  have h2 := free_in hrs (h k hk (Nat.le_refl _))
  unfold stepsL at hd
  simp only [List.mem_cons, List.not_mem_nil, or_false] at hd
  rcases hd with rfl | rfl | rfl | rfl
  · dsimp only at h1 h2; omega
  · dsimp only at h1 h2; omega
  · dsimp only at h1 h2; omega
  · dsimp only at h1 h2; omega
theorem keys_put {β : Type} (es : List (List Int × β)) (k : List Int) (v : β) (k' : List Int) : k' ∈ (putE es k v).map (·.1) ↔ k' = k ∨ k' ∈ es.map (·.1) := by
  unfold putE
  by_cases q : (es.any fun kv => decide (kv.1 = k)) = true
  · rw [if_pos q]
    have e : (es.map fun kv => if kv.1 = k then (kv.1, v) else kv).map (·.1) = es.map (·.1) := by
      rw [List.map_map]
      refine List.map_congr_left fun x _ => ?_
      show (if x.1 = k then (x.1, v) else x).1 = x.1
      split <;> rfl
    rw [e]
    refine ⟨.inr, fun h => h.elim (fun h => ?_) id⟩
    obtain ⟨x, hx, hk⟩ := List.any_eq_true.mp q
    rw [h, ← of_decide_eq_true hk]
    exact List.mem_map.mpr ⟨x, hx, rfl⟩
  · rw [if_neg q, List.map_append, List.mem_append]
    constructor
    · rintro (h | h)
      · exact .inr h
      · exact .inl (by simpa using h)
    · rintro (h | h)
      · exact .inr (by simpa using h)
      · exact .inl h
theorem len_put {β : Type} (es : List (List Int × β)) (k : List Int) (v : β) : (putE es k v).length ≤ es.length + 1 := by
  unfold putE
  split
  · rw [List.length_map]; omega
  · rw [List.length_append]; exact Nat.le_refl _
theorem prK_inj {a b : PI2} (h : prK a = prK b) : a = b := by
  unfold prK at h
  simp only [List.cons.injEq, and_true] at h
  exact Prod.ext h.1 h.2
/-- the keys are just those places -/
def KeysAre {β : Type} (es : List (List Int × β)) (S : PI2 → Prop) : Prop := ∀ k, k ∈ es.map (·.1) ↔ ∃ z, k = prK z ∧ S z
theorem KeysAre.put {β : Type} {es : List (List Int × β)} {S : PI2 → Prop} (h : KeysAre es S) (p : PI2) (v : β) : KeysAre (putE es (prK p) v) fun z => z = p ∨ S z := fun k => by
  rw [keys_put, h k]
  constructor
  · rintro (e | ⟨z, e, hz⟩)
    · exact ⟨p, e, .inl rfl⟩
    · exact ⟨z, e, .inr hz⟩
  · rintro ⟨z, e, rfl | hz⟩
    · exact .inl e
    · exact .inr ⟨z, e, hz⟩
theorem KeysAre.imp {β : Type} {es : List (List Int × β)} {S T : PI2 → Prop} (h : KeysAre es S) (e : ∀ z, S z ↔ T z) : KeysAre es T := fun k => by
  rw [h k]
  exact ⟨fun ⟨z, a, b⟩ => ⟨z, a, (e z).mp b⟩, fun ⟨z, a, b⟩ => ⟨z, a, (e z).mpr b⟩⟩
theorem KeysAre.nil {β : Type} : KeysAre ([] : List (List Int × β)) fun _ => False := fun k => ⟨fun h => (by cases h), fun ⟨_, _, h⟩ => h.elim⟩
def phi_sights_from : FS := fun ts Q => ∃ rs p, ts = [tG rs, tP p] ∧ GridOk rs ∧ ∀ q es, KeysAre es (Sees rs p) → Q (.ox q (.dt es)) ts
def W_sights_from_b1_2 : WS := (wSet (wCall 2 [false, false] phi_place_beside (wCons (wVar 5) (wCons (wVar 3) wNil))) 5)
def W_sights_from_b1_1 : WS := wSeq (wSet (wOp2 gAdd (wVar 4) (wVar 3)) 4) W_sights_from_b1_2
def W_sights_from_b1_0 : WS := wSeq (wPutT 2 (wVar 5) (wVar 4)) W_sights_from_b1_1
def W_sights_from_b0_2 : WS := (wWhile (wTst (wCall 2 [false, false] phi_is_free (wCons (wVar 0) (wCons (wVar 5) wNil)))) W_sights_from_b1_0)
def W_sights_from_b0_1 : WS := wSeq (wSet (wCall 2 [false, false] phi_place_beside (wCons (wVar 1) (wCons (wVar 3) wNil))) 5) W_sights_from_b0_2
def W_sights_from_b0_0 : WS := wSeq (wSet (wVar 3) 4) W_sights_from_b0_1
def W_sights_from_2 : WS := (wRet (wMove 2))
def W_sights_from_1 : WS := wSeq (wFor (wGdKeys tab_STEPS) (gvName 3) W_sights_from_b0_0) W_sights_from_2
def W_sights_from_0 : WS := wSeq (wSet wNewT 2) W_sights_from_1
def W_sights_from : WS := W_sights_from_0

abbrev SF (rs : List Str) (p : PI2) (q : Addr) (es : List (List Int × PyData)) (x3 x4 x5 : Option OT) : Rho := [some (tG rs), some (tP p), some (.ox q (.dt es)), x3, x4, x5]
def SFI (rs : List Str) (p : PI2) (i : Nat) (ρ : Rho) : Prop := ∃ q es x3 x4 x5, ρ = SF rs p q es x3 x4 x5 ∧ KeysAre es (SeesBy rs p (stepsL.take i)) ∧ es.length ≤ 12 * i
theorem v_sf_turn (D : DEnds) (rs : List Str) (p d : PI2) (q : Addr) (es0 : List (List Int × PyData)) (x4 x5 : Option OT) (z : Str) (i : Nat) (hg : GridOk rs) (hl : tab_STEPS.lookup z = some (prD d)) (hz : z.length = 1) (hd : stepsL[i]? = some d) (hk0 : KeysAre es0 (SeesBy rs p (stepsL.take i))) (hlen : es0.length ≤ 12 * i) (hi : i < 4)
    (h : ∀ ρ, SFI rs p (i + 1) ρ → D.nx ρ) : W_sights_from_b0_0 D (SF rs p q es0 (some (.fz (.str z))) x4 x5) := by
  have hsz : sizeLine = 16777216 := sizeLine_eq
  have hdm : d ∈ stepsL := List.mem_of_getElem? hd
  show W_sights_from_b0_1 D (SF rs p q es0 (some (.fz (.str z))) (some (.fz (.str z))) x5)
  conv => whnf
  refine ⟨p, z, d, rfl, hl, ?_⟩
  have e1 : (p.1 + d.1, p.2 + d.2) = adv p d 1 := by
    unfold adv
    exact Prod.ext (by show p.1 + d.1 = p.1 + 1 * d.1; omega) (by show p.2 + d.2 = p.2 + 1 * d.2; omega)
  rw [e1]
  show W_sights_from_b0_2 D (SF rs p q es0 (some (.fz (.str z))) (some (.fz (.str z))) (some (tP (adv p d 1))))
  conv => whnf
  refine ⟨fun m ρ => ∃ (k : Nat) (hs : Str) (es : List (List Int × PyData)), m = 12 - k ∧ ρ = SF rs p q es (some (.fz (.str z))) (some (.fz (.str hs))) (some (tP (adv p d (k + 1)))) ∧ lineTo rs p d k ∧ hs.length = k + 1 ∧
    KeysAre es (fun y => SeesBy rs p (stepsL.take i) y ∨ ∃ j : Nat, 1 ≤ j ∧ j ≤ k ∧ y = adv p d j) ∧ es.length ≤ 12 * i + k, ⟨12, 0, z, es0, rfl, rfl, fun j h1 h2 => absurd h1 (by omega), by rw [hz], hk0.imp fun y => ⟨.inl, fun h => h.elim id fun ⟨j, h1, h2, _⟩ => absurd h1 (by omega)⟩, by omega⟩, ?_⟩
  rintro m ρ ⟨k, hs, es, rfl, rfl, hlt, hhs, hk, hel⟩
  have hk12 := line_short hg hdm hlt
  conv => whnf
  refine ⟨rs, adv p d (k + 1), rfl, hg, ?_⟩
  refine bm (fun hf => ?_) (fun hf => ?_)
  · have hlt' : lineTo rs p d (k + 1) := fun j h1 h2 => by
      by_cases e : j = k + 1
      · subst e; exact hf
      · exact hlt j h1 (by omega)
    have hk13 := line_short hg hdm hlt'
    show W_sights_from_b1_0 _ (SF rs p q es (some (.fz (.str z))) (some (.fz (.str hs))) (some (tP (adv p d (k + 1)))))
    conv => whnf
    refine ⟨by omega, ?_⟩
    show W_sights_from_b1_1 _ (SF rs p q (putE es (prK (adv p d (k + 1))) (.str hs)) (some (.fz (.str z))) (some (.fz (.str hs))) (some (tP (adv p d (k + 1)))))
    conv => whnf
    refine ⟨by rw [hhs, hz]; omega, ?_⟩
    show W_sights_from_b1_2 _ (SF rs p q (putE es (prK (adv p d (k + 1))) (.str hs)) (some (.fz (.str z))) (some (.fz (.str (hs ++ z)))) (some (tP (adv p d (k + 1)))))
    conv => whnf
    refine ⟨adv p d (k + 1), z, d, rfl, hl, ?_⟩
    rw [adv_succ]
    refine ⟨12 - (k + 1), by omega, k + 1, hs ++ z, _, rfl, rfl, hlt', by rw [len_app, hhs, hz], (hk.put (adv p d (k + 1)) (.str hs)).imp fun y => ?_, Nat.le_trans (len_put ..) (by omega)⟩
    constructor
    · rintro (rfl | h | ⟨j, h1, h2, rfl⟩)
      · exact .inr ⟨k + 1, by omega, Nat.le_refl _, rfl⟩
      · exact .inl h
      · exact .inr ⟨j, h1, by omega, rfl⟩
    · rintro (h | ⟨j, h1, h2, rfl⟩)
      · exact .inr (.inl h)
      · by_cases e : j = k + 1
        · subst e; exact .inl rfl
        · exact .inr (.inr ⟨j, h1, by omega, rfl⟩)
  · refine h _ ⟨q, es, _, _, _, rfl, hk.imp fun y => ?_, by omega⟩
    rw [List.take_add_one, hd]
    constructor
    · rintro (⟨d', h1, h2⟩ | ⟨j, h1, h2, rfl⟩)
      · exact ⟨d', List.mem_append_left _ h1, h2⟩
      · exact ⟨d, List.mem_append_right _ (by simp), j, h1, rfl, fun j' g1 g2 => hlt j' g1 (by omega)⟩
    · rintro ⟨d', h1, j, g1, rfl, g3⟩
      rcases List.mem_append.mp h1 with h1 | h1
      · exact .inl ⟨d', h1, j, g1, rfl, g3⟩
      · have e : d' = d := by simpa using h1
        subst e
        refine .inr ⟨j, g1, ?_, rfl⟩
        rcases Nat.lt_or_ge k j with hj | hj
        · have := g3 (k + 1) (by omega) hj
          rw [hf] at this
          cases this
        · exact hj
theorem v_sights_from (ts : List OT) (Q : OT → List OT → Prop) (h : phi_sights_from ts Q) : W_sights_from (endsF 6 ts Q) (startR 6 ts) := by
  obtain ⟨rs, p, rfl, hg, h⟩ := h
  show W_sights_from _ [some (tG rs), some (tP p), none, none, none, none]
  conv => whnf
  intro q
  show W_sights_from_1 _ (SF rs p q [] none none none)
  conv => whnf
  refine ⟨SFI rs p, ⟨q, [], none, none, none, rfl, KeysAre.nil.imp fun y => ⟨False.elim, fun ⟨_, h, _⟩ => (by cases h)⟩, Nat.zero_le _⟩, ?_, ?_⟩
  · rintro i x ρ hx ⟨q, es, x3, x4, x5, rfl, hk, hl⟩
    rcases i with _ | _ | _ | _ | i
    · cases hx
      exact v_sf_turn _ rs p (0, 1) q es x4 x5 _ 0 hg rfl rfl rfl hk hl (by decide) fun ρ hρ => hρ
    · cases hx
      exact v_sf_turn _ rs p (-1, 0) q es x4 x5 _ 1 hg rfl rfl rfl hk hl (by decide) fun ρ hρ => hρ
    · cases hx
      exact v_sf_turn _ rs p (1, 0) q es x4 x5 _ 2 hg rfl rfl rfl hk hl (by decide) fun ρ hρ => hρ
    · cases hx
      exact v_sf_turn _ rs p (0, -1) q es x4 x5 _ 3 hg rfl rfl rfl hk hl (by decide) fun ρ hρ => hρ
    · cases hx
  · rintro ρ ⟨q, es, x3, x4, x5, rfl, hk, hl⟩
    conv => whnf
    exact h q es hk
end Lw
namespace Lw
open PySem PySem.Spec PyProof.Rows L2 DL
/-! the free places stand in order -/
def lexLt (p q : PI2) : Prop := p.1 < q.1 ∨ (p.1 = q.1 ∧ p.2 < q.2)
theorem rowF_pw (i : Nat) (l : List Nat) : ∀ j, (rowF i l j).Pairwise lexLt
  | 0 => by unfold rowF; simp
  | j + 1 => by
    rw [rowF_succ, List.pairwise_append]
    refine ⟨rowF_pw i l j, by split <;> simp, fun a ha b hb => ?_⟩
    obtain ⟨k, h1, _, rfl⟩ := rowF_mem.mp ha
    split at hb
    · rw [List.mem_singleton.mp hb]
      exact .inr ⟨rfl, by show (k : Int) < (j : Int); omega⟩
    · cases hb
theorem upF_row {rs : List Str} {i : Nat} {p : PI2} (h : p ∈ upF rs i) : p.1 < (i : Int) := by
  unfold upF at h
  rw [List.mem_flatMap] at h
  obtain ⟨k, hk, hp⟩ := h
  have hk : k < i := by simpa using hk
  cases e : rs[k]? with
  | none => rw [e] at hp; cases hp
  | some z =>
    rw [e] at hp
    obtain ⟨c, _, _, rfl⟩ := rowF_mem.mp hp
    show (k : Int) < i
    omega
theorem upF_pw (rs : List Str) : ∀ i, (upF rs i).Pairwise lexLt
  | 0 => by unfold upF; simp
  | i + 1 => by
    cases e : rs[i]? with
    | none =>
      have : upF rs (i + 1) = upF rs i := by
        unfold upF
        rw [List.range_succ, List.flatMap_append, List.flatMap_cons, List.flatMap_nil, e]
        simp
      rw [this]
      exact upF_pw rs i
    | some z =>
      rw [upF_succ e, List.pairwise_append]
      refine ⟨upF_pw rs i, rowF_pw i (cs z) z.length, fun a ha b hb => ?_⟩
      have h1 := upF_row ha
      obtain ⟨k, _, _, rfl⟩ := rowF_mem.mp hb
      exact .inl h1
theorem lex_ne {p q : PI2} (h : lexLt p q) : p ≠ q := by
  rintro rfl
  rcases h with h | ⟨_, h⟩ <;> omega
theorem free_nodup (rs : List Str) : (freePs rs).Nodup := (upF_pw rs rs.length).imp lex_ne
theorem free_len {rs : List Str} (hg : GridOk rs) : (freePs rs).length ≤ 144 := by
  obtain ⟨R, C, hrs, hR, hR2, hC, hC2⟩ := hg
  have h := upF_len hrs rs.length
  have : rs.length * C ≤ 12 * 12 := Nat.mul_le_mul (by have := hrs.1; omega) hC2
  unfold freePs
  omega
/-! all that is seen from each free place -/
def SightsOk (rs : List Str) (ess : List (List Int × List (List Int × PyData))) : Prop := ess.map (·.1) = (freePs rs).map prK ∧ ∀ x ∈ ess, ∃ p, x.1 = prK p ∧ KeysAre x.2 (Sees rs p)
def phi_sights_of : FS := fun ts Q => ∃ rs, ts = [tG rs] ∧ GridOk rs ∧ ∀ q ess, SightsOk rs ess → Q (.ox q (.dd ess)) ts
def W_sights_of_0 : WS := (wRet (wDc (.dd []) [1] (wIterA (wCall 1 [false] phi_free_places (wCons (wVar 0) wNil))) (gvName 1) wYes (wVar 1) (wFx (wCall 2 [false, false] phi_sights_from (wCons (wVar 0) (wCons (wVar 1) wNil))))))
def W_sights_of : WS := W_sights_of_0

theorem put_new {β : Type} {es : List (List Int × β)} {k : List Int} {v : β} (h : k ∉ es.map (·.1)) : putE es k v = es ++ [(k, v)] := by
  unfold putE
  refine if_neg fun q => h ?_
  obtain ⟨x, hx, e⟩ := List.any_eq_true.mp q
  exact List.mem_map.mpr ⟨x, hx, of_decide_eq_true e⟩
theorem v_sights_of (ts : List OT) (Q : OT → List OT → Prop) (h : phi_sights_of ts Q) : W_sights_of (endsF 2 ts Q) (startR 2 ts) := by
  have hz : sizeLine = 16777216 := sizeLine_eq
  obtain ⟨rs, rfl, hg, h⟩ := h
  have hfl := free_len hg
  show W_sights_of _ [some (tG rs), none]
  conv => whnf
  refine ⟨rs, rfl, hg, fun q0 => ?_⟩
  conv => whnf
  refine ⟨⟨trivial, trivial⟩, fun i d ρ => ∃ ess x1, d = .dd ess ∧ ρ = [some (tG rs), x1] ∧ isF x1 ∧ ess.map (·.1) = ((freePs rs).take i).map prK ∧ ∀ x ∈ ess, ∃ p, x.1 = prK p ∧ KeysAre x.2 (Sees rs p), ⟨[], none, rfl, rfl, isF_n, by simp, fun x hx => (by cases hx)⟩, ?_, ?_⟩
  · rintro i x d ρ hx ⟨ess, x1, rfl, rfl, h1, hk, ha⟩
    rw [List.getElem?_map] at hx
    cases hp : (freePs rs)[i]? with
    | none => rw [hp] at hx; cases hx
    | some p =>
      rw [hp] at hx
      cases hx
      conv => whnf
      refine ⟨rs, p, rfl, hg, fun q es hes => ?_⟩
      conv => whnf
      have hi := (List.getElem?_eq_some_iff.mp hp).1
      have hl : ess.length = i := by
        have := congrArg List.length hk
        rw [List.length_map, List.length_map, List.length_take] at this
        omega
      refine ⟨by show ess.length < sizeLine; omega, ?_⟩
      have hnew : prK p ∉ ess.map (·.1) := by
        rw [hk]
        intro hm
        obtain ⟨p', hp', e⟩ := List.mem_map.mp hm
        rw [prK_inj e] at hp'
        obtain ⟨j, hj⟩ := List.mem_iff_getElem?.mp hp'
        rw [List.getElem?_take] at hj
        split at hj
        · rename_i hji
          have := (List.getElem?_inj (by omega) (free_nodup rs)).mp (hj.trans hp.symm)
          omega
        · cases hj
      refine ⟨_, some (tP p), rfl, rfl, isF_s, ?_, ?_⟩
      · rw [show [p.1, p.2] = prK p from rfl, put_new hnew, List.map_append, hk, List.take_add_one, hp, List.map_append]
        rfl
      · rw [show [p.1, p.2] = prK p from rfl, put_new hnew]
        intro x hx
        rcases List.mem_append.mp hx with hx | hx
        · exact ha x hx
        · rw [List.mem_singleton.mp hx]
          exact ⟨p, rfl, hes⟩
  · rintro d ρ ⟨ess, x1, rfl, rfl, h1, hk, ha⟩ q
    refine h q ess ⟨?_, ha⟩
    rw [hk, List.length_map, List.take_length]
/-- what stands at a free place -/
theorem sights_at {rs : List Str} {ess : List (List Int × List (List Int × PyData))} (h : SightsOk rs ess) {p : PI2} (hp : freeB rs p = true) : ∃ es, lookK ess (prK p) = some es ∧ KeysAre es (Sees rs p) := by
  have hm : prK p ∈ ess.map (·.1) := by
    rw [h.1]
    exact List.mem_map.mpr ⟨p, free_mem.mpr hp, rfl⟩
  obtain ⟨x, hx, e⟩ := List.mem_map.mp hm
  unfold lookK
  cases q : ess.find? fun kv => decide (kv.1 = prK p) with
  | none =>
    rw [List.find?_eq_none] at q
    exact absurd (decide_eq_true e) (q x hx)
  | some y =>
    have h1 : y.1 = prK p := by
      have := List.find?_some q
      exact of_decide_eq_true this
    obtain ⟨p', e', hk⟩ := h.2 y (List.mem_of_find?_eq_some q)
    have e'' : p' = p := prK_inj (e'.symm.trans h1)
    subst e''
    exact ⟨y.2, rfl, hk⟩
end Lw
namespace Lw
open PySem PySem.Spec PyProof.Rows L2 DL
/-! rounds: what is come to by so many runs -/
def LvM (rs : List Str) (p : PI2) : Nat → (PI2 → Prop) × (PI2 → Prop)
  | 0 => (fun z => z = p, fun z => z = p)
  | n + 1 => (fun z => ¬ (LvM rs p n).2 z ∧ ∃ y, (LvM rs p n).1 y ∧ Sees rs y z, fun z => (LvM rs p n).2 z ∨ (¬ (LvM rs p n).2 z ∧ ∃ y, (LvM rs p n).1 y ∧ Sees rs y z))
abbrev Lv (rs : List Str) (p : PI2) (n : Nat) : PI2 → Prop := (LvM rs p n).1
abbrev Mt (rs : List Str) (p : PI2) (n : Nat) : PI2 → Prop := (LvM rs p n).2
theorem sees_free {rs : List Str} {y z : PI2} (h : Sees rs y z) : freeB rs z = true := by
  obtain ⟨d, _, k, h1, rfl, h3⟩ := h
  exact h3 k h1 (Nat.le_refl _)
theorem mt_free {rs : List Str} {p : PI2} (hp : freeB rs p = true) : ∀ n z, Mt rs p n z → freeB rs z = true
  | 0, z, h => by rw [show z = p from h]; exact hp
  | n + 1, z, h => by
    rcases h with h | ⟨_, y, _, h⟩
    · exact mt_free hp n z h
    · exact sees_free h
theorem lv_mt {rs : List Str} {p : PI2} : ∀ n z, Lv rs p n z → Mt rs p n z
  | 0, z, h => h
  | n + 1, z, h => .inr h
/-! as many as there are -/
theorem pigeon {α : Type} [DecidableEq α] : ∀ {l m : List α}, l.Nodup → (∀ x ∈ l, x ∈ m) → l.length ≤ m.length
  | [], m, _, _ => Nat.zero_le _
  | a :: l, m, hn, hs => by
    rw [List.nodup_cons] at hn
    have h1 := pigeon (l := l) (m := m.erase a) hn.2 fun x hx => (List.mem_erase_of_ne (fun e => by subst e; exact hn.1 hx)).mpr (hs x (List.mem_cons_of_mem _ hx))
    have h2 := List.length_erase_of_mem (hs a (by simp))
    have h3 : 0 < m.length := List.length_pos_of_mem (hs a (by simp))
    rw [List.length_cons]
    omega
/-- met so far: M0 ahead of the round, S seen in it; b those that are new -/
structure BS {β : Type} (rs : List Str) (M0 S : PI2 → Prop) (V : PI2 → β → Prop) (e0 : Nat) (es : List (List Int × β)) (b : List PI2) : Prop where
  keys : KeysAre es fun z => M0 z ∨ S z
  beh : ∀ z, z ∈ b ↔ (¬ M0 z ∧ S z)
  nd : (es.map (·.1)).Nodup
  fr : ∀ z, M0 z ∨ S z → freeB rs z = true
  vals : ∀ x ∈ es, ∃ z, x.1 = prK z ∧ V z x.2
  ln : es.length = e0 + b.length
  bn : b.Nodup
theorem keys_len {β : Type} {rs : List Str} {S : PI2 → Prop} {es : List (List Int × β)} (hg : GridOk rs) (h : KeysAre es S) (nd : (es.map (·.1)).Nodup) (fr : ∀ z, S z → freeB rs z = true) : es.length ≤ 144 := by
  have h1 := pigeon (l := es.map (·.1)) (m := (freePs rs).map prK) nd fun k hk => by
    obtain ⟨z, rfl, hz⟩ := (h k).mp hk
    exact List.mem_map.mpr ⟨z, free_mem.mpr (fr z hz), rfl⟩
  rw [List.length_map, List.length_map] at h1
  exact Nat.le_trans h1 (free_len hg)
theorem BS.len {β : Type} {rs : List Str} {M0 S : PI2 → Prop} {V : PI2 → β → Prop} {e0 : Nat} {es : List (List Int × β)} {b : List PI2} (h : BS rs M0 S V e0 es b) (hg : GridOk rs) : es.length ≤ 144 := keys_len hg h.keys h.nd h.fr
theorem BS.has {β : Type} {rs : List Str} {M0 S : PI2 → Prop} {V : PI2 → β → Prop} {e0 : Nat} {es : List (List Int × β)} {b : List PI2} (h : BS rs M0 S V e0 es b) {x : PI2} (hx : prK x ∈ es.map (·.1)) : BS rs M0 (fun z => S z ∨ z = x) V e0 es b := by
  obtain ⟨x', e, hx'⟩ := (h.keys _).mp hx
  have e := prK_inj e
  subst e
  refine ⟨h.keys.imp fun z => ⟨fun q => q.elim .inl fun q => .inr (.inl q), ?_⟩, fun z => ?_, h.nd, fun z q => ?_, h.vals, h.ln, h.bn⟩
  · rintro (q | q | rfl)
    · exact .inl q
    · exact .inr q
    · exact hx'
  · rw [h.beh z]
    refine ⟨fun ⟨a, q⟩ => ⟨a, .inl q⟩, ?_⟩
    rintro ⟨a, q | rfl⟩
    · exact ⟨a, q⟩
    · exact ⟨a, hx'.resolve_left a⟩
  · rcases q with q | q | rfl
    · exact h.fr z (.inl q)
    · exact h.fr z (.inr q)
    · exact h.fr z hx'
theorem BS.new {β : Type} {rs : List Str} {M0 S : PI2 → Prop} {V : PI2 → β → Prop} {e0 : Nat} {es : List (List Int × β)} {b : List PI2} (h : BS rs M0 S V e0 es b) {x : PI2} (hx : prK x ∉ es.map (·.1)) (hf : freeB rs x = true) {v : β} (hv : V x v) : BS rs M0 (fun z => S z ∨ z = x) V e0 (putE es (prK x) v) (b ++ [x]) := by
  have no : ¬ (M0 x ∨ S x) := fun q => hx ((h.keys _).mpr ⟨x, rfl, q⟩)
  refine ⟨(h.keys.put x v).imp fun z => ?_, fun z => ?_, ?_, fun z q => ?_, ?_, by rw [put_new hx, List.length_append, List.length_append, h.ln]; exact Nat.add_assoc .., ?_⟩
  · constructor
    · rintro (rfl | q | q)
      · exact .inr (.inr rfl)
      · exact .inl q
      · exact .inr (.inl q)
    · rintro (q | q | rfl)
      · exact .inr (.inl q)
      · exact .inr (.inr q)
      · exact .inl rfl
  · rw [List.mem_append, h.beh z, List.mem_singleton]
    constructor
    · rintro (⟨a, q⟩ | rfl)
      · exact ⟨a, .inl q⟩
      · exact ⟨fun q => no (.inl q), .inr rfl⟩
    · rintro ⟨a, q | rfl⟩
      · exact .inl ⟨a, q⟩
      · exact .inr rfl
  · rw [put_new hx, List.map_append, List.nodup_append]
    refine ⟨h.nd, by simp, fun a ha c hc e => hx ?_⟩
    have hc : c = prK x := by simpa using hc
    rw [← hc, ← e]
    exact ha
  · rcases q with q | q | rfl
    · exact h.fr z (.inl q)
    · exact h.fr z (.inr q)
    · exact hf
  · rw [put_new hx]
    intro y hy
    rcases List.mem_append.mp hy with hy | hy
    · exact h.vals y hy
    · rw [List.mem_singleton.mp hy]
      exact ⟨x, rfl, hv⟩
  · rw [List.nodup_append]
    refine ⟨h.bn, by simp, fun a ha c hc e => ?_⟩
    have hc : c = x := by simpa using hc
    subst hc
    subst e
    exact no (.inr ((h.beh a).mp ha).2)
theorem BS.imp {β : Type} {rs : List Str} {M0 S T : PI2 → Prop} {V : PI2 → β → Prop} {e0 : Nat} {es : List (List Int × β)} {b : List PI2} (h : BS rs M0 S V e0 es b) (e : ∀ z, S z ↔ T z) : BS rs M0 T V e0 es b :=
  ⟨h.keys.imp fun z => by rw [e z], fun z => by rw [h.beh z, e z], h.nd, fun z q => h.fr z (q.imp id (e z).mpr), h.vals, h.ln, h.bn⟩
theorem look_some {β : Type} {es : List (List Int × β)} {k : List Int} : (lookK es k).isSome = true ↔ k ∈ es.map (·.1) := by
  unfold lookK
  cases q : es.find? fun kv => decide (kv.1 = k) with
  | none =>
    refine ⟨fun h => (by cases h), fun h => ?_⟩
    rw [List.find?_eq_none] at q
    obtain ⟨x, hx, e⟩ := List.mem_map.mp h
    exact absurd (decide_eq_true e) (q x hx)
  | some y =>
    refine ⟨fun _ => ?_, fun _ => rfl⟩
    have h1 : y.1 = k := by
      have := List.find?_some q
      exact of_decide_eq_true this
    exact List.mem_map.mpr ⟨y, List.mem_of_find?_eq_some q, h1⟩
/-- the layers, each told by its places -/
def LayersOk (rs : List Str) (p : PI2) (ls : List (List PI2)) : Prop := (∀ (n : Nat) l, ls[n]? = some l → ∀ z, z ∈ l ↔ Lv rs p n z) ∧ (∀ z, ¬ Lv rs p ls.length z) ∧ ls.length ≤ 145
def layD (ls : List (List PI2)) : List PyData := ls.map fun l => .list (psD l)
def phi_layers_of : FS := fun ts Q => ∃ rs ess p, ts = [.fx (.dd ess), tP p] ∧ GridOk rs ∧ SightsOk rs ess ∧ freeB rs p = true ∧ ∀ ls, LayersOk rs p ls → Q (.fz (.list (layD ls))) [.fx (.dd ess), tP p]
def W_layers_of_b1_1 : WS := (wApp 5 (wVar 7))
def W_layers_of_b1_0 : WS := wSeq (wPutT 2 (wVar 7) (wC (.bool true))) W_layers_of_b1_1
def W_layers_of_b0_3 : WS := (wSet (wVar 5) 4)
def W_layers_of_b0_2 : WS := wSeq (wFor (wIterA (wVar 4)) (gvName 6) (wFor (wKeysT (wIxT (wVar 0) (wVar 6))) (gvName 7) (wIfS (wTst (wInT not (wVar 7) (wVar 2))) W_layers_of_b1_0 wNext))) W_layers_of_b0_3
def W_layers_of_b0_1 : WS := wSeq (wSet (wLst wNil) 5) W_layers_of_b0_2
def W_layers_of_b0_0 : WS := wSeq (wApp 3 (wVar 4)) W_layers_of_b0_1
def W_layers_of_4 : WS := (wRet (wVar 3))
def W_layers_of_3 : WS := wSeq (wWhile (wTru (wVar 4)) W_layers_of_b0_0) W_layers_of_4
def W_layers_of_2 : WS := wSeq (wSet (wLst (wCons (wVar 1) wNil)) 4) W_layers_of_3
def W_layers_of_1 : WS := wSeq (wSet (wLst wNil) 3) W_layers_of_2
def W_layers_of_0 : WS := wSeq (wSet (wOneT (wVar 1) (wC (.bool true))) 2) W_layers_of_1
def W_layers_of : WS := W_layers_of_0

abbrev LY (ess : List (List Int × List (List Int × PyData))) (p : PI2) (q2 : Addr) (es : List (List Int × PyData)) (q3 : Addr) (ls : List (List PI2)) (x4 x5 x6 x7 : Option OT) : Rho := [some (.fx (.dd ess)), some (tP p), some (.ox q2 (.dt es)), some (.lst q3 (layD ls)), x4, x5, x6, x7]
def ttV : PI2 → PyData → Prop := fun _ d => d = .bool true
/-- one place of the front: all that it sees -/
theorem v_ly_at (D : DEnds) (rs : List Str) (ess : List (List Int × List (List Int × PyData))) (p at_ : PI2) (q2 q3 q5 : Addr) (es : List (List Int × PyData)) (ls : List (List PI2)) (b : List PI2) (x4 x7 : Option OT) (M0 S : PI2 → Prop) (e0 : Nat) (hg : GridOk rs) (hs : SightsOk rs ess) (hat : freeB rs at_ = true)
    (h : BS rs M0 S ttV e0 es b) (hD : ∀ es' b' x7, BS rs M0 (fun z => S z ∨ Sees rs at_ z) ttV e0 es' b' → D.nx (LY ess p q2 es' q3 ls x4 (some (.lst q5 (psD b'))) (some (tP at_)) x7)) :
    (wFor (wKeysT (wIxT (wVar 0) (wVar 6))) (gvName 7) (wIfS (wTst (wInT not (wVar 7) (wVar 2))) W_layers_of_b1_0 wNext)) D (LY ess p q2 es q3 ls x4 (some (.lst q5 (psD b))) (some (tP at_)) x7) := by
  have hsz : sizeLine = 16777216 := sizeLine_eq
  obtain ⟨ea, e1, hk⟩ := sights_at hs hat
  have hix : ixT (.fx (.dd ess)) (prD at_) = some (.fx (.dt ea)) := by
    unfold ixT
    show (match lookK ess (prK at_) with | some es => some (OT.fx (.dt es)) | none => none) = _
    rw [e1]
  conv => whnf
  rw [show ixT (.fx (.dd ess)) (.tuple [.int at_.1, .int at_.2]) = some (.fx (.dt ea)) from hix]
  conv => whnf
  refine ⟨fun i ρ => ∃ es' b' x7, ρ = LY ess p q2 es' q3 ls x4 (some (.lst q5 (psD b'))) (some (tP at_)) x7 ∧ BS rs M0 (fun z => S z ∨ prK z ∈ (ea.map (·.1)).take i) ttV e0 es' b', ⟨es, b, x7, rfl, h.imp fun z => ⟨.inl, fun q => q.elim id fun q => (by simp at q)⟩⟩, ?_, ?_⟩
  · rintro i x ρ hx ⟨es', b', y7, rfl, hb⟩
    unfold keysD at hx
    rw [List.getElem?_map] at hx
    cases hy : ea[i]? with
    | none => rw [hy] at hx; cases hx
    | some y =>
      rw [hy] at hx
      cases hx
      have hym : y.1 ∈ ea.map (·.1) := List.mem_map.mpr ⟨y, List.mem_of_getElem? hy, rfl⟩
      obtain ⟨z, ez, hz⟩ := (hk _).mp hym
      have hzf := sees_free hz
      have htk : (ea.map (·.1)).take (i + 1) = (ea.map (·.1)).take i ++ [prK z] := by
        rw [List.take_add_one, List.getElem?_map, hy]
        show _ ++ [y.1] = _
        rw [ez]
      have step : ∀ {es b}, BS rs M0 (fun w => (S w ∨ prK w ∈ (ea.map (·.1)).take i) ∨ w = z) ttV e0 es b → BS rs M0 (fun w => S w ∨ prK w ∈ (ea.map (·.1)).take (i + 1)) ttV e0 es b := fun q => q.imp fun w => by
        rw [htk, List.mem_append, List.mem_singleton]
        constructor
        · rintro ((q | q) | rfl)
          · exact .inl q
          · exact .inr (.inl q)
          · exact .inr (.inr rfl)
        · rintro (q | q | q)
          · exact .inl (.inl q)
          · exact .inl (.inr q)
          · exact .inr (prK_inj q)
      dsimp only
      rw [ez]
      have hhas : hasT (.ox q2 (.dt es')) (prD z) = some (lookK es' (prK z)).isSome := rfl
      conv => whnf
      by_cases hin : prK z ∈ es'.map (·.1)
      · rw [show (lookK es' [z.1, z.2]).isSome = true from look_some.mpr hin]
        exact ⟨es', b', _, rfl, step (hb.has hin)⟩
      · have en : (lookK es' [z.1, z.2]).isSome = false := by
          cases q : (lookK es' [z.1, z.2]).isSome with
          | false => rfl
          | true => exact absurd (look_some.mp q) hin
        rw [en]
        have hl := hb.len hg
        show W_layers_of_b1_0 _ (LY ess p q2 es' q3 ls x4 (some (.lst q5 (psD b'))) (some (tP at_)) (some (tP z)))
        conv => whnf
        refine ⟨by omega, ?_⟩
        show W_layers_of_b1_1 _ (LY ess p q2 (putE es' (prK z) (.bool true)) q3 ls x4 (some (.lst q5 (psD b'))) (some (tP at_)) (some (tP z)))
        have hbl : b'.length ≤ 144 := by have := hb.ln; omega
        conv => whnf
        refine ⟨by rw [List.length_map]; omega, putE es' (prK z) (.bool true), b' ++ [z], some (tP z), ?_, step (hb.new hin hzf rfl)⟩
        rw [← ps_app]
        rfl
  · rintro ρ ⟨es', b', y7, rfl, hb⟩
    refine hD es' b' y7 (hb.imp fun z => ?_)
    have hl : (keysD ea).length = (ea.map (·.1)).length := by unfold keysD; rw [List.length_map, List.length_map]
    rw [hl, List.take_length]
    constructor
    · rintro (q | q)
      · exact .inl q
      · obtain ⟨w, e, hw⟩ := (hk _).mp q
        rw [prK_inj e]
        exact .inr hw
    · rintro (q | q)
      · exact .inl q
      · exact .inr ((hk _).mpr ⟨z, rfl, q⟩)
theorem v_layers_of (ts : List OT) (Q : OT → List OT → Prop) (h : phi_layers_of ts Q) : W_layers_of (endsF 8 ts Q) (startR 8 ts) := by
  have hsz : sizeLine = 16777216 := sizeLine_eq
  obtain ⟨rs, ess, p, rfl, hg, hs, hp, h⟩ := h
  show W_layers_of _ [some (.fx (.dd ess)), some (tP p), none, none, none, none, none, none]
  conv => whnf
  intro q2
  show W_layers_of_1 _ [some (.fx (.dd ess)), some (tP p), some (.ox q2 (.dt [(prK p, .bool true)])), none, none, none, none, none]
  conv => whnf
  intro q3
  show W_layers_of_2 _ (LY ess p q2 [(prK p, .bool true)] q3 [] none none none none)
  conv => whnf
  intro q4
  show W_layers_of_3 _ (LY ess p q2 [(prK p, .bool true)] q3 [] (some (.lst q4 (psD [p]))) none none none)
  conv => whnf
  refine ⟨fun m ρ => ∃ es ls l x4 x5 x6 x7, ρ = LY ess p q2 es q3 ls x4 x5 x6 x7 ∧ ((∃ q, x4 = some (.lst q (psD l))) ∨ x4 = some (.fz (.list (psD l)))) ∧
    (∀ (n : Nat) l, ls[n]? = some l → ∀ z, z ∈ l ↔ Lv rs p n z) ∧ (∀ z, z ∈ l ↔ Lv rs p ls.length z) ∧ KeysAre es (Mt rs p ls.length) ∧ (es.map (·.1)).Nodup ∧ (∀ x ∈ es, ∃ z, x.1 = prK z ∧ ttV z x.2) ∧ ls.length + min l.length 1 ≤ es.length ∧ l.length ≤ 144 ∧ m = 2 * (145 - es.length) + min l.length 1, ⟨289, [(prK p, .bool true)], [], [p], _, none, none, none, rfl, .inl ⟨q4, rfl⟩, fun n l e => (by cases e), fun z => ?_, fun k => ?_, by simp, fun x hx => ?_, Nat.le_refl _, (by show 1 ≤ 144; decide), rfl⟩, ?_⟩
  · exact List.mem_singleton
  · exact ⟨fun h => ⟨p, List.mem_singleton.mp h, rfl⟩, fun ⟨z, e, hz⟩ => by rw [e, show z = p from hz]; exact List.mem_singleton.mpr rfl⟩
  · exact ⟨p, by rw [List.mem_singleton.mp hx], by rw [List.mem_singleton.mp hx]; rfl⟩
  · rintro m ρ ⟨es, ls, l, x4, x5, x6, x7, rfl, h4, hls, hl, hk, nd, hv, hle, hl144, rfl⟩
    have hlen := keys_len hg hk nd (mt_free hp _)
    have frz : ∀ z, z ∈ l → freeB rs z = true := fun z hz => mt_free hp _ z (lv_mt _ z ((hl z).mp hz))
    have ends : l = [] → Q (.fz (.list (layD ls))) [.fx (.dd ess), tP p] := fun e => by
      subst e
      exact h ls ⟨hls, fun z q => absurd ((hl z).mpr q) List.not_mem_nil, by omega⟩
    have round : l ≠ [] → ∀ (D : DEnds), (∀ ρ, (∃ m', m' < 2 * (145 - es.length) + min l.length 1 ∧ ∃ es ls l x4 x5 x6 x7, ρ = LY ess p q2 es q3 ls x4 x5 x6 x7 ∧ ((∃ q, x4 = some (.lst q (psD l))) ∨ x4 = some (.fz (.list (psD l)))) ∧
        (∀ (n : Nat) l, ls[n]? = some l → ∀ z, z ∈ l ↔ Lv rs p n z) ∧ (∀ z, z ∈ l ↔ Lv rs p ls.length z) ∧ KeysAre es (Mt rs p ls.length) ∧ (es.map (·.1)).Nodup ∧ (∀ x ∈ es, ∃ z, x.1 = prK z ∧ ttV z x.2) ∧ ls.length + min l.length 1 ≤ es.length ∧ l.length ≤ 144 ∧ m' = 2 * (145 - es.length) + min l.length 1) → D.nx ρ) →
        W_layers_of_b0_1 D (LY ess p q2 es q3 (ls ++ [l]) (some (.fz (.list (psD l)))) x5 x6 x7) := by
      intro hne D hD
      have hpos : 1 ≤ l.length := List.length_pos_iff.mpr hne
      conv => whnf
      intro q5
      show W_layers_of_b0_2 D (LY ess p q2 es q3 (ls ++ [l]) (some (.fz (.list (psD l)))) (some (.lst q5 (psD []))) x6 x7)
      conv => whnf
      refine ⟨fun i ρ => ∃ es' b' x6 x7, ρ = LY ess p q2 es' q3 (ls ++ [l]) (some (.fz (.list (psD l)))) (some (.lst q5 (psD b'))) x6 x7 ∧ BS rs (Mt rs p ls.length) (fun z => ∃ y ∈ l.take i, Sees rs y z) ttV es.length es' b', ⟨es, [], x6, x7, rfl, hk.imp fun z => ⟨.inl, fun q => q.elim id fun ⟨y, hy, _⟩ => (by simp at hy)⟩, fun z => ⟨fun q => (by cases q), fun ⟨_, y, hy, _⟩ => (by simp at hy)⟩, nd, fun z q => q.elim (mt_free hp _ z) fun ⟨y, hy, _⟩ => (by simp at hy), hv, rfl, List.nodup_nil⟩, ?_, ?_⟩
      · rintro i x ρ hx ⟨es', b', y6, y7, rfl, hb⟩
        rw [List.getElem?_map] at hx
        cases hy : l[i]? with
        | none => rw [hy] at hx; cases hx
        | some y =>
          rw [hy] at hx
          cases hx
          refine v_ly_at _ rs ess p y q2 q3 q5 es' (ls ++ [l]) b' _ y7 _ _ es.length hg hs (frz y (List.mem_of_getElem? hy)) hb fun es2 b2 z7 h2 => ?_
          refine ⟨es2, b2, _, z7, rfl, h2.imp fun z => ?_⟩
          rw [List.take_add_one, hy]
          constructor
          · rintro (⟨w, hw, hs'⟩ | hs')
            · exact ⟨w, List.mem_append_left _ hw, hs'⟩
            · exact ⟨y, List.mem_append_right _ (by simp), hs'⟩
          · rintro ⟨w, hw, hs'⟩
            rcases List.mem_append.mp hw with hw | hw
            · exact .inl ⟨w, hw, hs'⟩
            · have e : w = y := by simpa using hw
              subst e
              exact .inr hs'
      · rintro ρ ⟨es', b', y6, y7, rfl, hb⟩
        rw [List.length_map, List.take_length] at hb
        have hbl := hb.len hg
        have hln := hb.ln
        show W_layers_of_b0_3 D (LY ess p q2 es' q3 (ls ++ [l]) (some (.fz (.list (psD l)))) (some (.lst q5 (psD b'))) y6 y7)
        have lv : ∀ z, (∃ y ∈ l, Sees rs y z) ↔ ∃ y, Lv rs p ls.length y ∧ Sees rs y z := fun z => ⟨fun ⟨y, a, c⟩ => ⟨y, (hl y).mp a, c⟩, fun ⟨y, a, c⟩ => ⟨y, (hl y).mpr a, c⟩⟩
        conv => whnf
        refine hD _ ⟨_, ?_, es', ls ++ [l], b', _, _, y6, y7, rfl, .inr rfl, fun n l' e => ?_, fun z => ?_, ?_, hb.nd, hb.vals, ?_, by omega, rfl⟩
        · omega
        · rcases Nat.lt_trichotomy n ls.length with hn | hn | hn
          · rw [List.getElem?_append_left hn] at e
            exact hls n l' e
          · subst hn
            have e : some l = some l' := by simpa using e
            cases e
            exact hl
          · rw [List.getElem?_eq_none (by rw [List.length_append]; simp; omega)] at e
            cases e
        · rw [List.length_append, hb.beh z, lv z]
          exact Iff.rfl
        · rw [List.length_append]
          refine hb.keys.imp fun z => ?_
          rw [lv z]
          show _ ↔ (Mt rs p ls.length z ∨ (¬ Mt rs p ls.length z ∧ ∃ y, Lv rs p ls.length y ∧ Sees rs y z))
          by_cases hm : Mt rs p ls.length z
          · exact ⟨fun _ => .inl hm, fun _ => .inl hm⟩
          · exact ⟨fun q => q.elim .inl fun q => .inr ⟨hm, q⟩, fun q => q.elim .inl fun q => .inr q.2⟩
        · rw [List.length_append]
          show ls.length + 1 + _ ≤ _
          omega
    have snoc : layD ls ++ [.list (psD l)] = layD (ls ++ [l]) := by unfold layD; rw [List.map_append]; rfl
    have hll : (layD ls).length = ls.length := List.length_map ..
    rcases h4 with ⟨q, rfl⟩ | rfl
    · conv => whnf
      cases hl0 : l with
      | nil => exact ends hl0
      | cons a l' =>
        rw [← hl0]
        rw [show (psD l).isEmpty = false by rw [hl0]; rfl]
        show W_layers_of_b0_0 _ (LY ess p q2 es q3 ls (some (.lst q (psD l))) x5 x6 x7)
        conv => whnf
        refine ⟨by omega, ?_⟩
        rw [snoc]
        exact round (by rw [hl0]; exact List.cons_ne_nil _ _) _ fun ρ hρ => hρ
    · conv => whnf
      cases hl0 : l with
      | nil => exact ends hl0
      | cons a l' =>
        rw [← hl0]
        rw [show (psD l).isEmpty = false by rw [hl0]; rfl]
        show W_layers_of_b0_0 _ (LY ess p q2 es q3 ls (some (.fz (.list (psD l)))) x5 x6 x7)
        conv => whnf
        refine ⟨by omega, ?_⟩
        rw [snoc]
        exact round (by rw [hl0]; exact List.cons_ne_nil _ _) _ fun ρ hρ => hρ
end Lw
namespace Lw
open PySem PySem.Spec PyProof.Rows L2 DL
theorem mt_mono {rs : List Str} {p : PI2} {z : PI2} {n : Nat} (h : Mt rs p n z) : ∀ m, Mt rs p (n + m) z
  | 0 => h
  | m + 1 => .inl (mt_mono h m)
theorem lv_uniq {rs : List Str} {p z : PI2} {n m : Nat} (hn : Lv rs p n z) (hm : Lv rs p m z) : n = m := by
  have key : ∀ {a b : Nat}, a < b → Lv rs p a z → ¬ Lv rs p b z := by
    intro a b hab ha hb
    obtain ⟨k, rfl⟩ : ∃ k, b = a + k + 1 := ⟨b - a - 1, by omega⟩
    exact hb.1 (mt_mono (lv_mt a z ha) k)
  rcases Nat.lt_trichotomy n m with h | h | h
  · exact absurd hm (key h hn)
  · exact h
  · exact absurd hn (key h hm)
theorem lv_stop {rs : List Str} {p : PI2} {n : Nat} (h : ∀ z, ¬ Lv rs p n z) : ∀ m z, ¬ Lv rs p (n + m) z
  | 0, z => h z
  | m + 1, z => fun q => by
    obtain ⟨_, y, hy, _⟩ := q
    exact lv_stop h m y hy
/-- the turns behind so many runs -/
def tv (n : Nat) : Int := if ((n : Nat) : Int) - 1 > 0 then ((n : Nat) : Int) - 1 else 0
abbrev TE2 := PI2 × Int
def entD (z : TE2) : List Int × PyData := (prK z.1, .int z.2)
/-- the table of a place: in order, each place that can be come to, with its turns -/
def TableOk (rs : List Str) (p : PI2) (zs : List TE2) : Prop := (zs.map (·.1)).Pairwise lexLt ∧ ∀ z v, (z, v) ∈ zs ↔ ∃ n, Lv rs p n z ∧ v = tv n
theorem lex_asym {a b : PI2} (h : lexLt a b) (h' : lexLt b a) : False := by
  unfold lexLt at h h'
  omega
theorem table_uniq : ∀ {as bs : List TE2}, (as.map (·.1)).Pairwise lexLt → (bs.map (·.1)).Pairwise lexLt → (∀ z, z ∈ as ↔ z ∈ bs) → as = bs
  | [], [], _, _, _ => rfl
  | [], b :: bs, _, _, h => by have := (h b).mpr (by simp); cases this
  | a :: as, [], _, _, h => by have := (h a).mp (by simp); cases this
  | a :: as, b :: bs, ha, hb, h => by
    rw [List.map_cons, List.pairwise_cons] at ha hb
    have e : a = b := by
      rcases List.mem_cons.mp ((h a).mp (by simp)) with e | h1
      · exact e
      · rcases List.mem_cons.mp ((h b).mpr (by simp)) with e | h2
        · exact e.symm
        · exact absurd (ha.1 b.1 (List.mem_map.mpr ⟨b, h2, rfl⟩)) fun q => lex_asym q (hb.1 a.1 (List.mem_map.mpr ⟨a, h1, rfl⟩))
    subst e
    rw [table_uniq ha.2 hb.2 fun z => ?_]
    have hz := h z
    constructor
    · intro q
      rcases List.mem_cons.mp (hz.mp (List.mem_cons_of_mem _ q)) with e | q'
      · subst e
        exact absurd rfl (lex_ne (ha.1 z.1 (List.mem_map.mpr ⟨z, q, rfl⟩)))
      · exact q'
    · intro q
      rcases List.mem_cons.mp (hz.mpr (List.mem_cons_of_mem _ q)) with e | q'
      · subst e
        exact absurd rfl (lex_ne (hb.1 z.1 (List.mem_map.mpr ⟨z, q, rfl⟩)))
      · exact q'
theorem tables_eq {rs : List Str} {p : PI2} {as bs : List TE2} (h : TableOk rs p as) (h' : TableOk rs p bs) : as = bs := table_uniq h.1 h'.1 fun z => by rw [show z = (z.1, z.2) from rfl, h.2, h'.2]
/-- a dict with just those turns -/
def TurnsOk (rs : List Str) (p : PI2) (es : List (List Int × PyData)) : Prop := KeysAre es (fun z => ∃ n, Lv rs p n z) ∧ (es.map (·.1)).Nodup ∧ ∀ x ∈ es, ∃ z n, x.1 = prK z ∧ Lv rs p n z ∧ x.2 = .int (tv n)
theorem turns_look {rs : List Str} {p : PI2} {es : List (List Int × PyData)} (h : TurnsOk rs p es) {z : PI2} {n : Nat} (hz : Lv rs p n z) : lookK es (prK z) = some (.int (tv n)) := by
  have hm := (h.1 (prK z)).mpr ⟨z, rfl, n, hz⟩
  cases q : lookK es (prK z) with
  | none =>
    have := look_some.mpr hm
    rw [q] at this
    cases this
  | some d =>
    unfold lookK at q
    obtain ⟨y, hy, rfl⟩ := Option.map_eq_some_iff.mp q
    have h1 : y.1 = prK z := by
      have := List.find?_some hy
      exact of_decide_eq_true this
    obtain ⟨z', n', e1, e2, e3⟩ := h.2.2 y (List.mem_of_find?_eq_some hy)
    have e4 := prK_inj (e1.symm.trans h1)
    subst e4
    rw [e3, lv_uniq e2 hz]
/-- its keys in order, with what stands there: the table -/
theorem table_of {rs : List Str} {p : PI2} {es : List (List Int × PyData)} (h : TurnsOk rs p es) {zs : List PI2} (pm : (zs.map prK).Perm (es.map (·.1))) (pw : zs.Pairwise lexLe) :
    ∃ ts : List TE2, ts.map (·.1) = zs ∧ TableOk rs p ts ∧ ∀ t ∈ ts, lookK es (prK t.1) = some (.int t.2) := by
  have mem : ∀ z, z ∈ zs ↔ ∃ n, Lv rs p n z := fun z => by
    rw [← (show prK z ∈ es.map (·.1) ↔ ∃ n, Lv rs p n z from ⟨fun q => by obtain ⟨w, e, hw⟩ := (h.1 _).mp q; rw [prK_inj e]; exact hw, fun q => (h.1 _).mpr ⟨z, rfl, q⟩⟩), ← pm.mem_iff]
    exact ⟨fun q => List.mem_map.mpr ⟨z, q, rfl⟩, fun q => by obtain ⟨w, hw, e⟩ := List.mem_map.mp q; rw [← prK_inj e]; exact hw⟩
  have nd : zs.Nodup := by
    have := pm.nodup_iff.mpr h.2.1
    exact (List.pairwise_map.mp this).imp fun h e => h (congrArg prK e)
  have pw' : zs.Pairwise lexLt := by
    have := List.pairwise_and_iff.mpr ⟨pw, nd⟩
    refine this.imp fun {a b} ⟨h1, h2⟩ => ?_
    rcases h1 with h1 | ⟨h1, h3⟩
    · exact .inl h1
    · refine .inr ⟨h1, ?_⟩
      rcases Int.lt_or_eq_of_le h3 with q | q
      · exact q
      · exact absurd (Prod.ext h1 q) h2
  let val : PI2 → Int := fun z => match lookK es (prK z) with | some (.int v) => v | _ => 0
  have hval : ∀ z n, Lv rs p n z → val z = tv n := fun z n q => by
    show (match lookK es (prK z) with | some (.int v) => v | _ => 0) = _
    rw [turns_look h q]
  refine ⟨zs.map fun z => (z, val z), by rw [List.map_map]; exact List.map_id _, ⟨by rw [List.map_map]; exact (List.map_id zs).symm ▸ pw', fun z v => ?_⟩, fun t ht => ?_⟩
  · rw [List.mem_map]
    constructor
    · rintro ⟨w, hw, e⟩
      cases e
      obtain ⟨n, hn⟩ := (mem _).mp hw
      exact ⟨n, hn, hval _ n hn⟩
    · rintro ⟨n, hn, rfl⟩
      exact ⟨z, (mem z).mpr ⟨n, hn⟩, by rw [hval z n hn]⟩
  · obtain ⟨z, hz, rfl⟩ := List.mem_map.mp ht
    obtain ⟨n, hn⟩ := (mem z).mp hz
    show lookK es (prK z) = some (.int (val z))
    rw [turns_look h hn, hval z n hn]
def phi_turns_by_sights : FS := fun ts Q => ∃ rs ess p, ts = [.fx (.dd ess), tP p] ∧ GridOk rs ∧ SightsOk rs ess ∧ freeB rs p = true ∧ ∀ q zs, TableOk rs p zs → Q (.ox q (.dt (zs.map entD))) [.fx (.dd ess), tP p]
def W_turns_by_sights_2 : WS := (wRet (wDc (.dt []) [5] (wIterA (wSortT (wVar 2))) (gvName 5) wYes (wVar 5) (wIxT (wVar 2) (wVar 5))))
def W_turns_by_sights_1 : WS := wSeq (wFor (wEnumA (wCons (wCall 2 [true, false] phi_layers_of (wCons (wVar 0) (wCons (wVar 1) wNil))) wNil)) (gvTup 2 (gvCons (gvName 3) (gvCons (gvName 4) gvNil))) (wFor (wIterA (wVar 4)) (gvName 5) (wPutT 2 (wVar 5) (wCB gMax (wCons (wC (.int 0)) (wCons (wOp2 (gI0 fun i j => .int (i - j)) (wVar 3) (wC (.int 1))) wNil)))))) W_turns_by_sights_2
def W_turns_by_sights_0 : WS := wSeq (wSet wNewT 2) W_turns_by_sights_1
def W_turns_by_sights : WS := W_turns_by_sights_0

abbrev TBK (ess : List (List Int × List (List Int × PyData))) (p : PI2) (q : Addr) (es : List (List Int × PyData)) (x3 x4 x5 : Option OT) : Rho := [some (.fx (.dd ess)), some (tP p), some (.ox q (.dt es)), x3, x4, x5]
/-- turns behind all layers below i, and those of S in the i-th -/
structure TS1 (rs : List Str) (p : PI2) (i : Nat) (S : PI2 → Prop) (es : List (List Int × PyData)) : Prop where
  keys : KeysAre es fun z => (∃ n, n < i ∧ Lv rs p n z) ∨ S z
  nd : (es.map (·.1)).Nodup
  vals : ∀ x ∈ es, ∃ z n, x.1 = prK z ∧ Lv rs p n z ∧ x.2 = .int (tv n)
theorem nodup_put {β : Type} {es : List (List Int × β)} {k : List Int} {v : β} (h : (es.map (·.1)).Nodup) : ((putE es k v).map (·.1)).Nodup := by
  by_cases q : k ∈ es.map (·.1)
  · have e : (putE es k v).map (·.1) = es.map (·.1) := by
      unfold putE
      have : (es.any fun kv => decide (kv.1 = k)) = true := by
        obtain ⟨x, hx, e⟩ := List.mem_map.mp q
        exact List.any_eq_true.mpr ⟨x, hx, decide_eq_true e⟩
      rw [if_pos this, List.map_map]
      refine List.map_congr_left fun x _ => ?_
      show (if x.1 = k then (x.1, v) else x).1 = x.1
      split <;> rfl
    rw [e]
    exact h
  · rw [put_new q, List.map_append, List.nodup_append]
    refine ⟨h, by simp, fun a ha c hc e => q ?_⟩
    have hc : c = k := by simpa using hc
    rw [← hc, ← e]
    exact ha
theorem vals_put {β : Type} {es : List (List Int × β)} {k : List Int} {v : β} {P : List Int × β → Prop} (h : ∀ x ∈ es, P x) (hp : P (k, v)) : ∀ x ∈ putE es k v, P x := by
  intro x hx
  unfold putE at hx
  split at hx
  · obtain ⟨y, hy, rfl⟩ := List.mem_map.mp hx
    by_cases e : y.1 = k
    · rw [if_pos e, e]; exact hp
    · rw [if_neg e]; exact h y hy
  · rcases List.mem_append.mp hx with hx | hx
    · exact h x hx
    · rw [List.mem_singleton.mp hx]; exact hp
theorem v_turns_by_sights (ts : List OT) (Q : OT → List OT → Prop) (h : phi_turns_by_sights ts Q) : W_turns_by_sights (endsF 6 ts Q) (startR 6 ts) := by
  have hsz : sizeLine = 16777216 := sizeLine_eq
  obtain ⟨rs, ess, p, rfl, hg, hs, hp, h⟩ := h
  show W_turns_by_sights _ [some (.fx (.dd ess)), some (tP p), none, none, none, none]
  conv => whnf
  intro q
  show W_turns_by_sights_1 _ (TBK ess p q [] none none none)
  conv => whnf
  refine ⟨rs, ess, p, rfl, hg, hs, hp, fun ls hls => ?_⟩
  conv => whnf
  obtain ⟨hl1, hl2, hl3⟩ := hls
  have some_lv : ∀ z, (∃ n, Lv rs p n z) ↔ ∃ n, n < ls.length ∧ Lv rs p n z := fun z => ⟨fun ⟨n, hn⟩ => by
    rcases Nat.lt_or_ge n ls.length with q | q
    · exact ⟨n, q, hn⟩
    · obtain ⟨m, rfl⟩ : ∃ m, n = ls.length + m := ⟨n - ls.length, by omega⟩
      exact absurd hn (lv_stop hl2 m z), fun ⟨n, _, hn⟩ => ⟨n, hn⟩⟩
  have lvf : ∀ {n z}, Lv rs p n z → freeB rs z = true := fun {n z} q => mt_free hp n z (lv_mt n z q)
  refine ⟨fun i ρ => ∃ es x3 x4 x5, ρ = TBK ess p q es x3 x4 x5 ∧ isF x5 ∧ TS1 rs p i (fun _ => False) es, ⟨[], none, none, none, rfl, isF_n, ⟨fun k => ⟨fun q => (by cases q), fun ⟨_, _, q⟩ => q.elim (fun ⟨n, hn, _⟩ => absurd hn (Nat.not_lt_zero n)) False.elim⟩, List.nodup_nil, fun x hx => (by cases hx)⟩⟩, ?_, ?_⟩
  · rintro i x ρ hx ⟨es, x3, x4, x5, rfl, h5, ht⟩
    obtain ⟨d, hd, rfl⟩ := enum0 hx
    unfold layD at hd
    rw [List.getElem?_map] at hd
    cases hl : ls[i]? with
    | none => rw [hl] at hd; cases hd
    | some l =>
      rw [hl] at hd
      cases hd
      have hlv := hl1 i l hl
      show (wFor (wIterA (wVar 4)) (gvName 5) (wPutT 2 (wVar 5) (wCB gMax (wCons (wC (.int 0)) (wCons (wOp2 (gI0 fun i j => .int (i - j)) (wVar 3) (wC (.int 1))) wNil))))) _ (TBK ess p q es (some (tI i)) (some (.fz (.list (psD l)))) x5)
      conv => whnf
      refine ⟨fun j ρ => ∃ es x5, ρ = TBK ess p q es (some (tI i)) (some (.fz (.list (psD l)))) x5 ∧ isF x5 ∧ TS1 rs p i (fun z => z ∈ l.take j) es, ⟨es, x5, rfl, h5, ⟨ht.keys.imp fun z => ⟨fun q => q.elim .inl False.elim, fun q => q.elim .inl fun q => (by simp at q)⟩, ht.nd, ht.vals⟩⟩, ?_, ?_⟩
      · rintro j y ρ hy ⟨es', y5, rfl, g5, hb⟩
        rw [List.getElem?_map] at hy
        cases hz : l[j]? with
        | none => rw [hz] at hy; cases hy
        | some z =>
          rw [hz] at hy
          cases hy
          have hzl := (hlv z).mp (List.mem_of_getElem? hz)
          have hlen := keys_len hg hb.keys hb.nd fun w q => by
            rcases q with ⟨n, _, q⟩ | q
            · exact lvf q
            · exact lvf ((hlv w).mp (List.mem_of_mem_take q))
          conv => whnf
          refine ⟨by omega, ?_⟩
          refine ⟨putE es' (prK z) (.int (tv i)), some (tP z), rfl, isF_s, ⟨(hb.keys.put z (.int (tv i))).imp fun w => ?_, nodup_put hb.nd, vals_put (P := fun x : List Int × PyData => ∃ z n, x.1 = prK z ∧ Lv rs p n z ∧ x.2 = .int (tv n)) hb.vals ⟨z, i, rfl, hzl, rfl⟩⟩⟩
          rw [List.take_add_one, hz]
          constructor
          · rintro (rfl | q | q)
            · exact .inr (List.mem_append_right _ (by simp))
            · exact .inl q
            · exact .inr (List.mem_append_left _ q)
          · rintro (q | q)
            · exact .inr (.inl q)
            · rcases List.mem_append.mp q with q | q
              · exact .inr (.inr q)
              · exact .inl (by simpa using q)
      · rintro ρ ⟨es', y5, rfl, g5, hb⟩
        rw [List.length_map, List.take_length] at hb
        refine ⟨es', _, _, y5, rfl, g5, ⟨hb.keys.imp fun z => ?_, hb.nd, hb.vals⟩⟩
        constructor
        · rintro (⟨n, hn, q⟩ | q)
          · exact .inl ⟨n, by omega, q⟩
          · exact .inl ⟨i, by omega, (hlv z).mp q⟩
        · rintro (⟨n, hn, q⟩ | q)
          · rcases Nat.lt_or_ge n i with q' | q'
            · exact .inl ⟨n, q', q⟩
            · have e : n = i := by omega
              subst e
              exact .inr ((hlv z).mpr q)
          · exact q.elim
  · rintro ρ ⟨es, x3, x4, x5, rfl, h5, ht⟩
    have hll : (enumD 0 (layD ls)).length = ls.length := by rw [enumD_len]; exact List.length_map ..
    rw [hll] at ht
    have ok : TurnsOk rs p es := ⟨ht.keys.imp fun z => by rw [some_lv z]; exact ⟨fun q => q.elim id False.elim, .inl⟩, ht.nd, ht.vals⟩
    show W_turns_by_sights_2 _ (TBK ess p q es x3 x4 x5)
    conv => whnf
    refine ⟨fun x hx => ?_, fun zs pm pw q1 => ?_⟩
    · obtain ⟨z, n, e, _⟩ := ht.vals x hx
      exact ⟨z, e⟩
    obtain ⟨tt, e1, tok, tl⟩ := table_of ok pm pw
    conv => whnf
    subst e1
    have tlen : tt.length ≤ 144 := by
      have h1 := pm.length_eq
      rw [List.length_map, List.length_map, List.length_map] at h1
      rw [h1]
      exact keys_len hg ok.1 ok.2.1 fun z ⟨n, q⟩ => lvf q
    refine ⟨⟨by rcases h5 with e | ⟨v, e⟩ <;> rw [e] <;> trivial, trivial⟩, fun i d ρ => ∃ y5, d = .dt ((tt.take i).map entD) ∧ ρ = TBK ess p q es x3 x4 y5, ⟨none, by simp, rfl⟩, ?_, ?_⟩
    · rintro i x d ρ hx ⟨y5, rfl, rfl⟩
      rw [List.getElem?_map, List.getElem?_map] at hx
      cases hz : tt[i]? with
      | none => rw [hz] at hx; cases hx
      | some t =>
        rw [hz] at hx
        cases hx
        have hi := (List.getElem?_eq_some_iff.mp hz).1
        have htl := tl t (List.mem_of_getElem? hz)
        conv => whnf
        rw [show ixT (.ox q (.dt es)) (keyD (prK t.1)) = some (.fz (.int t.2)) from by
          unfold ixT
          show (match lookK es (prK t.1) with | some x => some (OT.fz x) | none => none) = _
          rw [htl]]
        conv => whnf
        have hnew : prK t.1 ∉ ((tt.take i).map entD).map (·.1) := by
          intro hm
          rw [List.map_map] at hm
          obtain ⟨u, hu, e⟩ := List.mem_map.mp hm
          have e : u.1 = t.1 := prK_inj e
          have hp1 := tok.1
          rw [← List.take_append_drop i tt, List.map_append, List.pairwise_append] at hp1
          have hd : t ∈ tt.drop i := List.mem_iff_getElem?.mpr ⟨0, by rw [List.getElem?_drop]; exact hz⟩
          exact lex_ne (hp1.2.2 u.1 (List.mem_map.mpr ⟨u, hu, rfl⟩) t.1 (List.mem_map.mpr ⟨t, hd, rfl⟩)) e
        have hle : ((tt.take i).map entD).length ≤ 144 := by rw [List.length_map, List.length_take]; omega
        refine ⟨by show ((tt.take i).map entD).length < sizeLine; omega, some (tP t.1), ?_, rfl⟩
        rw [show [t.1.1, t.1.2] = prK t.1 from rfl, put_new hnew, List.take_add_one, hz, List.map_append]
        rfl
    · rintro d ρ ⟨y5, rfl, rfl⟩ q2
      rw [List.length_map, List.length_map, List.take_length]
      exact h q2 tt tok
end Lw
namespace Lw
open PySem PySem.Spec PyProof.Rows L2 DL
noncomputable def tabF (rs : List Str) (p : PI2) : List TE2 := by
  classical exact if h : ∃ zs, TableOk rs p zs then Classical.choose h else []
theorem tabF_eq {rs : List Str} {p : PI2} {zs : List TE2} (h : TableOk rs p zs) : zs = tabF rs p := by
  unfold tabF
  have hx : ∃ zs, TableOk rs p zs := ⟨zs, h⟩
  rw [dif_pos hx]
  exact tables_eq h (Classical.choose_spec hx)
abbrev Tri := Option (Int × PI2 × PI2)
/-- the greater one, the first of like ones -/
def stepB (one : PI2) (told : Tri) (t : TE2) : Tri := match told with
  | none => some (t.2, one, t.1)
  | some (v, a, b) => if v < t.2 then some (t.2, one, t.1) else some (v, a, b)
noncomputable def rowB (rs : List Str) (told : Tri) (p : PI2) : Tri := (tabF rs p).foldl (stepB p) told
noncomputable def bestOf (rs : List Str) : Tri := (freePs rs).foldl (rowB rs) none
def toldD : Tri → PyData
  | none => .none
  | some (v, a, b) => .tuple [.int v, prD a, prD b]
theorem foldl_take {α β : Type} (f : β → α → β) (b : β) (l : List α) {i : Nat} {x : α} (h : l[i]? = some x) : (l.take (i + 1)).foldl f b = f ((l.take i).foldl f b) x := by
  rw [List.take_add_one, h, List.foldl_append]
  rfl
end Lw
namespace Lw
open PySem PySem.Spec PyProof.Rows L2 DL
def phi_l_free : FS := fun ts Q => ∃ rs, ts = [tG rs] ∧ GridOk rs ∧ Q (.fz (.list (psD (freePs rs)))) ts
def W_l_free_2 : WS := (wRet (wVar 1))
def W_l_free_1 : WS := wSeq (wFor (wEnumA (wCons (wVar 0) wNil)) (gvTup 2 (gvCons (gvName 2) (gvCons (gvName 3) gvNil))) (wExt 1 (wLc [4, 5] (wEnumA (wCons (wVar 3) wNil)) (gvTup 2 (gvCons (gvName 4) (gvCons (gvName 5) gvNil))) (wTst (wOp2 gEq (wVar 5) (wC (.str (Str.ofString "."))))) (wTup (wCons (wVar 2) (wCons (wVar 4) wNil)))))) W_l_free_2
def W_l_free_0 : WS := wSeq (wSet (wLst wNil) 1) W_l_free_1
def W_l_free : WS := W_l_free_0

theorem v_l_free (ts : List OT) (Q : OT → List OT → Prop) (h : phi_l_free ts Q) : W_l_free (endsF 6 ts Q) (startR 6 ts) := by
  have hz : sizeLine = 16777216 := sizeLine_eq
  obtain ⟨rs, rfl, hg, h⟩ := h
  have hfl := free_len hg
  obtain ⟨R, C, hrs, hR, hR2, hC, hC2⟩ := hg
  have hlen : (strsD rs).length = R := by rw [List.length_map, hrs.1]
  show W_l_free _ [some (tG rs), none, none, none, none, none]
  conv => whnf
  intro q
  show W_l_free_1 _ [some (tG rs), some (.lst q []), none, none, none, none]
  conv => whnf
  refine ⟨fun i ρ => ∃ x2 x3, ρ = [some (tG rs), some (.lst q (psD (upF rs i))), x2, x3, none, none], ⟨none, none, rfl⟩, ?_, ?_⟩
  · rintro i x ρ hx ⟨x2, x3, rfl⟩
    obtain ⟨d, hd, rfl⟩ := enum0 hx
    rw [List.getElem?_map] at hd
    cases hz' : rs[i]? with
    | none => rw [hz'] at hd; cases hd
    | some z =>
      rw [hz'] at hd
      cases hd
      have hzl := (hrs.2 z (List.mem_of_getElem? hz')).1
      have hi := (List.getElem?_eq_some_iff.mp hz').1
      have h0 := upF_len hrs i
      have him : i * C ≤ 12 * 12 := Nat.mul_le_mul (by have := hrs.1; omega) hC2
      conv => whnf
      refine ⟨⟨trivial, trivial, trivial⟩, fun j es ρ => es = psD (rowF i (cs z) j) ∧ ∃ x4 x5, ρ = [some (tG rs), some (.lst q (psD (upF rs i))), some (tI i), some (.fz (.str z)), x4, x5], ⟨by unfold rowF; simp, none, none, rfl⟩, ?_, ?_⟩
      · rintro j y es ρ hy ⟨rfl, y4, y5, rfl⟩
        obtain ⟨d, hd, rfl⟩ := enum0 hy
        obtain ⟨c, hc, rfl⟩ := signs_get hd
        conv => whnf
        rw [show decide ((⟨#[c]⟩ : Str) = Str.ofString ".") = decide (c = 46) from dq c]
        have hs := rowF_succ i j (cs z)
        rw [hc] at hs
        have hj : j < 12 := by
          have := (List.getElem?_eq_some_iff.mp hc).1
          rw [cs_len] at this
          omega
        refine bmd (fun h46 => ?_) (fun h46 => ?_)
        · conv => whnf
          rw [if_pos (by rw [h46])] at hs
          have hl := rowF_len i j (cs z)
          refine ⟨by rw [List.length_map]; omega, ?_, some (tI j), some (.fz (.str ⟨#[c]⟩)), rfl⟩
          rw [hs]
          simp
        · rw [if_neg (fun e => h46 (Option.some.inj e)), List.append_nil] at hs
          exact ⟨by rw [hs], some (tI j), some (.fz (.str ⟨#[c]⟩)), rfl⟩
      · rintro es ρ ⟨rfl, y4, y5, rfl⟩ q2
        rw [enumD_len, signs_len]
        conv => whnf
        have hl := rowF_len i z.length (cs z)
        refine ⟨by rw [List.length_map, List.length_map]; omega, some (tI i), some (.fz (.str z)), ?_⟩
        rw [upF_succ hz', show psD (upF rs i ++ rowF i (cs z) z.length) = psD (upF rs i) ++ psD (rowF i (cs z) z.length) from List.map_append ..]
        rfl
  · rintro ρ ⟨x2, x3, rfl⟩
    rw [enumD_len, hlen, ← hrs.1]
    conv => whnf
    exact h
/-! a line of free places -/
def phi_l_line : FS := fun ts Q => ∃ rs p d, ts = [tG rs, tP p, tI d.1, tI d.2] ∧ GridOk rs ∧ d ∈ stepsL ∧ ∀ l, (∀ z, z ∈ l ↔ ∃ k : Nat, 1 ≤ k ∧ z = adv p d k ∧ lineTo rs p d k) → l.length ≤ 12 → Q (.fz (.list (psD l))) ts
def W_l_line_b0_1 : WS := (wPar 5 6 (wCons (wOp2 gAdd (wVar 5) (wVar 2)) (wCons (wOp2 gAdd (wVar 6) (wVar 3)) wNil)))
def W_l_line_b0_0 : WS := wSeq (wApp 4 (wTup (wCons (wVar 5) (wCons (wVar 6) wNil)))) W_l_line_b0_1
def W_l_line_3 : WS := (wRet (wVar 4))
def W_l_line_2 : WS := wSeq (wWhile (wAnd (wTst (wChain (gI0 fun i j => .bool (decide (i ≤ j))) (gI0 fun i j => .bool (decide (i < j))) (wC (.int 0)) (wVar 5) (wCB gLen (wCons (wVar 0) wNil)))) (wAnd (wTst (wChain (gI0 fun i j => .bool (decide (i ≤ j))) (gI0 fun i j => .bool (decide (i < j))) (wC (.int 0)) (wVar 6) (wCB gLen (wCons (wIx (wVar 0) (wC (.int 0))) wNil)))) (wTst (wOp2 gEq (wIx (wIx (wVar 0) (wVar 5)) (wVar 6)) (wC (.str (Str.ofString "."))))))) W_l_line_b0_0) W_l_line_3
def W_l_line_1 : WS := wSeq (wPar 5 6 (wCons (wOp2 gAdd (wIx (wVar 1) (wC (.int 0))) (wVar 2)) (wCons (wOp2 gAdd (wIx (wVar 1) (wC (.int 1))) (wVar 3)) wNil))) W_l_line_2
def W_l_line_0 : WS := wSeq (wSet (wLst wNil) 4) W_l_line_1
def W_l_line : WS := W_l_line_0

abbrev LN (rs : List Str) (p d : PI2) (q : Addr) (l : List PI2) (b : PI2) : Rho := [some (tG rs), some (tP p), some (tI d.1), some (tI d.2), some (.lst q (psD l)), some (tI b.1), some (tI b.2)]
theorem v_l_line (ts : List OT) (Q : OT → List OT → Prop) (h : phi_l_line ts Q) : W_l_line (endsF 7 ts Q) (startR 7 ts) := by
  have hsz : sizeLine = 16777216 := sizeLine_eq
  obtain ⟨rs, p, d, rfl, hg, hd, h⟩ := h
  obtain ⟨R, C, hrs, hR, hR2, hC, hC2⟩ := id hg
  have hlen : (strsD rs).length = R := by rw [List.length_map, hrs.1]
  show W_l_line _ [some (tG rs), some (tP p), some (tI d.1), some (tI d.2), none, none, none]
  conv => whnf
  intro q
  show W_l_line_1 _ [some (tG rs), some (tP p), some (tI d.1), some (tI d.2), some (.lst q []), none, none]
  conv => whnf
  have e1 : (p.1 + d.1, p.2 + d.2) = adv p d 1 := by
    unfold adv
    exact Prod.ext (by show p.1 + d.1 = p.1 + 1 * d.1; omega) (by show p.2 + d.2 = p.2 + 1 * d.2; omega)
  show W_l_line_2 _ (LN rs p d q [] (p.1 + d.1, p.2 + d.2))
  rw [e1]
  conv => whnf
  refine ⟨fun m ρ => ∃ (k : Nat) (l : List PI2), m = 12 - k ∧ ρ = LN rs p d q l (adv p d (k + 1)) ∧ lineTo rs p d k ∧ (∀ z, z ∈ l ↔ ∃ j : Nat, 1 ≤ j ∧ j ≤ k ∧ z = adv p d j) ∧ l.length = k, ⟨12, 0, [], rfl, rfl, fun j h1 h2 => absurd h1 (by omega), fun z => ⟨fun q => (by cases q), fun ⟨j, h1, h2, _⟩ => absurd h1 (by omega)⟩, rfl⟩, ?_⟩
  rintro m ρ ⟨k, l, rfl, rfl, hlt, hl, hll⟩
  have hk12 := line_short hg hd hlt
  obtain ⟨b, hb⟩ : ∃ b, adv p d (k + 1) = b := ⟨_, rfl⟩
  have done : freeB rs b = false → Q (.fz (.list (psD l))) [tG rs, tP p, tI d.1, tI d.2] := fun hf => by
    refine h l (fun z => ?_) (by omega)
    rw [hl z]
    constructor
    · rintro ⟨j, h1, h2, rfl⟩
      exact ⟨j, h1, rfl, fun j' g1 g2 => hlt j' g1 (by omega)⟩
    · rintro ⟨j, h1, rfl, h3⟩
      refine ⟨j, h1, ?_, rfl⟩
      rcases Nat.lt_or_ge k j with hj | hj
      · have := h3 (k + 1) (by omega) hj
        rw [hb, hf] at this
        cases this
      · exact hj
  rw [hb]
  conv => whnf
  have no : ¬ ((0 ≤ b.1 ∧ b.1 < R) ∧ 0 ≤ b.2 ∧ b.2 < C) → Q (.fz (.list (psD l))) [tG rs, tP p, tI d.1, tI d.2] := fun q => done (free_out (a := b.1) (b := b.2) hrs q)
  refine bmd (fun h1 => ?_) (fun h1 => no (by omega))
  conv => whnf
  rw [hlen]
  refine bmd (fun h2 => ?_) (fun h2 => no (by omega))
  conv => whnf
  refine bmd (fun h3 => ?_) (fun h3 => no (by omega))
  obtain ⟨z0, _, _, ez0, hz0⟩ := row_in hrs (a := 0) ⟨by omega, by omega⟩
  conv => whnf
  rw [ez0]
  conv => whnf
  refine ⟨by rw [hz0]; omega, ?_⟩
  rw [hz0]
  refine bmd (fun h4 => ?_) (fun h4 => no (by omega))
  obtain ⟨z, _, g1, g2, g3⟩ := row_in hrs (a := b.1) ⟨h1, h2⟩
  obtain ⟨c, f1, f2⟩ := sign_in g3 (b := b.2) ⟨h3, h4⟩
  conv => whnf
  rw [g2]
  conv => whnf
  refine ⟨by rw [g3]; omega, ?_⟩
  rw [show atI z.cps.toList b.2 = _ from f2]
  conv => whnf
  rw [dq, ← free_at (rs := rs) (a := b.1) (b := b.2) h1 h3 g1 f1]
  refine bm (fun hf => ?_) (fun hf => done hf)
  have hlt' : lineTo rs p d (k + 1) := fun j j1 j2 => by
    by_cases e : j = k + 1
    · subst e; rw [hb]; exact hf
    · exact hlt j j1 (by omega)
  have hk13 := line_short hg hd hlt'
  show W_l_line_b0_0 _ (LN rs p d q l b)
  conv => whnf
  refine ⟨by rw [List.length_map]; omega, ?_⟩
  rw [show psD l ++ [PyData.tuple [.int b.1, .int b.2]] = psD (l ++ [b]) from ps_app l b]
  conv => whnf
  refine ⟨12 - (k + 1), by omega, k + 1, l ++ [b], rfl, ?_, hlt', fun w => ?_, by rw [List.length_append, hll]; rfl⟩
  · rw [← adv_succ p d (k + 1), hb]
    rfl
  · rw [List.mem_append, hl w, List.mem_singleton]
    constructor
    · rintro (⟨j, j1, j2, rfl⟩ | rfl)
      · exact ⟨j, j1, by omega, rfl⟩
      · exact ⟨k + 1, by omega, Nat.le_refl _, hb.symm⟩
    · rintro ⟨j, j1, j2, rfl⟩
      by_cases e : j = k + 1
      · subst e; exact .inr hb
      · exact .inl ⟨j, j1, by omega, rfl⟩
end Lw
namespace Lw
open PySem PySem.Spec PyProof.Rows L2 DL
def phi_l_turns : FS := fun ts Q => ∃ rs p, ts = [tG rs, tP p] ∧ GridOk rs ∧ freeB rs p = true ∧ ∀ q zs, TableOk rs p zs → Q (.ox q (.dt (zs.map entD))) ts
def W_l_turns_b1_1 : WS := (wApp 5 (wVar 9))
def W_l_turns_b1_0 : WS := wSeq (wPutT 2 (wVar 9) (wVar 4)) W_l_turns_b1_1
def W_l_turns_b0_3 : WS := (wSet (wOp2 gAdd (wVar 4) (wC (.int 1))) 4)
def W_l_turns_b0_2 : WS := wSeq (wSet (wVar 5) 3) W_l_turns_b0_3
def W_l_turns_b0_1 : WS := wSeq (wFor (wIterA (wVar 3)) (gvName 6) (wFor (wIterA (wTup (wCons (wTup (wCons (wC (.int 0)) (wCons (wC (.int 1)) wNil))) (wCons (wTup (wCons (wC (.int 0)) (wCons (wNeg (wC (.int 1))) wNil))) (wCons (wTup (wCons (wC (.int 1)) (wCons (wC (.int 0)) wNil))) (wCons (wTup (wCons (wNeg (wC (.int 1))) (wCons (wC (.int 0)) wNil))) wNil)))))) (gvTup 2 (gvCons (gvName 7) (gvCons (gvName 8) gvNil))) (wFor (wIterA (wCall 4 [false, false, false, false] phi_l_line (wCons (wVar 0) (wCons (wVar 6) (wCons (wVar 7) (wCons (wVar 8) wNil)))))) (gvName 9) (wIfS (wTst (wInT not (wVar 9) (wVar 2))) W_l_turns_b1_0 wNext)))) W_l_turns_b0_2
def W_l_turns_b0_0 : WS := wSeq (wSet (wLst wNil) 5) W_l_turns_b0_1
def W_l_turns_4 : WS := (wRet (wDictP (wLc [6] (wIterA (wSortT (wVar 2))) (gvName 6) wYes (wTup (wCons (wVar 6) (wCons (wIxT (wVar 2) (wVar 6)) wNil))))))
def W_l_turns_3 : WS := wSeq (wWhile (wTst (wOp2 gNe (wVar 3) (wLst wNil))) W_l_turns_b0_0) W_l_turns_4
def W_l_turns_2 : WS := wSeq (wSet (wC (.int 0)) 4) W_l_turns_3
def W_l_turns_1 : WS := wSeq (wSet (wLst (wCons (wVar 1) wNil)) 3) W_l_turns_2
def W_l_turns_0 : WS := wSeq (wSet (wOneT (wVar 1) (wC (.int 0))) 2) W_l_turns_1
def W_l_turns : WS := W_l_turns_0

abbrev LT (rs : List Str) (p : PI2) (q2 : Addr) (es : List (List Int × PyData)) (x3 : Option OT) (n : Nat) (q5 : Addr) (b : List PI2) (x6 x7 x8 x9 : Option OT) : Rho := [some (tG rs), some (tP p), some (.ox q2 (.dt es)), x3, some (tI n), some (.lst q5 (psD b)), x6, x7, x8, x9]
abbrev LT' (rs : List Str) (p : PI2) (q2 : Addr) (es : List (List Int × PyData)) (x3 : Option OT) (n : Nat) (q5 : Addr) (b : List PyData) (x6 x7 x8 x9 : Option OT) : Rho := [some (tG rs), some (tP p), some (.ox q2 (.dt es)), x3, some (tI n), some (.lst q5 b), x6, x7, x8, x9]
def lvV (rs : List Str) (p : PI2) : PI2 → PyData → Prop := fun z d => ∃ n, Lv rs p n z ∧ d = .int (tv n)
theorem tv_succ (n : Nat) : tv (n + 1) = n := by
  unfold tv
  split <;> omega
theorem dec_some {es : List (List Int × PyData)} (z : PI2) : (lookK es [z.1, z.2]).isSome = decide (prK z ∈ es.map (·.1)) := by
  by_cases h : prK z ∈ es.map (·.1)
  · rw [decide_eq_true h]
    exact look_some.mpr h
  · rw [decide_eq_false h]
    cases q : (lookK es [z.1, z.2]).isSome with
    | false => rfl
    | true => exact absurd (look_some.mp q) h
/-- the places of one line -/
theorem v_lt_line (D : DEnds) (rs : List Str) (p one : PI2) (n : Nat) (q2 q5 : Addr) (es : List (List Int × PyData)) (b l : List PI2) (x3 x6 x7 x8 x9 : Option OT) (S : PI2 → Prop) (e0 : Nat) (hg : GridOk rs) (h1 : Lv rs p n one) (hl : ∀ z ∈ l, Sees rs one z)
    (h : BS rs (Mt rs p n) S (lvV rs p) e0 es b) (hD : ∀ es' b' x9, BS rs (Mt rs p n) (fun z => S z ∨ z ∈ l) (lvV rs p) e0 es' b' → D.nx (LT rs p q2 es' x3 n q5 b' x6 x7 x8 x9)) :
    ∃ I : Nat → Rho → Prop, I 0 (LT rs p q2 es x3 n q5 b x6 x7 x8 x9) ∧ (∀ i x ρ2, (psD l)[i]? = some x → I i ρ2 → gvName 9 x ρ2 fun ρ3 => wIfS (wTst (wInT not (wVar 9) (wVar 2))) W_l_turns_b1_0 wNext (D.loop (I (i + 1))) ρ3) ∧ ∀ ρ2, I (psD l).length ρ2 → D.nx ρ2 := by
  have hsz : sizeLine = 16777216 := sizeLine_eq
  refine ⟨fun i ρ => ∃ es' b' x9, ρ = LT rs p q2 es' x3 n q5 b' x6 x7 x8 x9 ∧ BS rs (Mt rs p n) (fun z => S z ∨ z ∈ l.take i) (lvV rs p) e0 es' b', ⟨es, b, x9, rfl, h.imp fun z => ⟨.inl, fun q => q.elim id fun q => (by simp at q)⟩⟩, ?_, ?_⟩
  · rintro i x ρ hx ⟨es', b', y9, rfl, hb⟩
    rw [List.getElem?_map] at hx
    cases hy : l[i]? with
    | none => rw [hy] at hx; cases hx
    | some z =>
      rw [hy] at hx
      cases hx
      have hz := hl z (List.mem_of_getElem? hy)
      have step : ∀ {es b}, BS rs (Mt rs p n) (fun w => (S w ∨ w ∈ l.take i) ∨ w = z) (lvV rs p) e0 es b → BS rs (Mt rs p n) (fun w => S w ∨ w ∈ l.take (i + 1)) (lvV rs p) e0 es b := fun q => q.imp fun w => by
        rw [List.take_add_one, hy, List.mem_append]
        constructor
        · rintro ((q | q) | rfl)
          · exact .inl q
          · exact .inr (.inl q)
          · exact .inr (.inr (by simp))
        · rintro (q | q | q)
          · exact .inl (.inl q)
          · exact .inl (.inr q)
          · exact .inr (by simpa using q)
      conv => whnf
      rw [dec_some z]
      refine bmn (fun hin => ?_) (fun hin => ?_)
      · have hlen := hb.len hg
        have hln := hb.ln
        have new : Lv rs p (n + 1) z := ⟨fun q => hin ((hb.keys _).mpr ⟨z, rfl, .inl q⟩), one, h1, hz⟩
        show W_l_turns_b1_0 _ (LT rs p q2 es' x3 n q5 b' x6 x7 x8 (some (tP z)))
        conv => whnf
        refine ⟨by omega, ?_⟩
        show W_l_turns_b1_1 _ (LT rs p q2 (putE es' (prK z) (.int n)) x3 n q5 b' x6 x7 x8 (some (tP z)))
        conv => whnf
        refine ⟨by rw [List.length_map]; omega, putE es' (prK z) (.int n), b' ++ [z], some (tP z), ?_, step (hb.new hin (sees_free hz) ⟨n + 1, new, by rw [tv_succ]⟩)⟩
        show LT' rs p q2 (putE es' (prK z) (.int n)) x3 n q5 (psD b' ++ [prD z]) x6 x7 x8 (some (tP z)) = LT' rs p q2 (putE es' (prK z) (.int n)) x3 n q5 (psD (b' ++ [z])) x6 x7 x8 (some (tP z))
        rw [← ps_app]
      · exact ⟨es', b', _, rfl, step (hb.has hin)⟩
  · rintro ρ ⟨es', b', y9, rfl, hb⟩
    rw [List.length_map, List.take_length] at hb
    exact hD es' b' y9 hb
def dirsL : List PI2 := [(0, 1), (0, -1), (1, 0), (-1, 0)]
theorem dirs_steps (d : PI2) : d ∈ dirsL ↔ d ∈ stepsL := by
  unfold dirsL stepsL
  simp only [List.mem_cons, List.not_mem_nil, or_false]
  constructor
  · rintro (h | h | h | h)
    · exact .inl h
    · exact .inr (.inr (.inr h))
    · exact .inr (.inr (.inl h))
    · exact .inr (.inl h)
  · rintro (h | h | h | h)
    · exact .inl h
    · exact .inr (.inr (.inr h))
    · exact .inr (.inr (.inl h))
    · exact .inr (.inl h)
end Lw
namespace Lw
open PySem PySem.Spec PyProof.Rows L2 DL
theorem seesBy_take {rs : List Str} {p z : PI2} {ds : List PI2} {i : Nat} {d : PI2} (h : ds[i]? = some d) : SeesBy rs p (ds.take (i + 1)) z ↔ SeesBy rs p (ds.take i) z ∨ ∃ k : Nat, 1 ≤ k ∧ z = adv p d k ∧ lineTo rs p d k := by
  unfold SeesBy
  rw [List.take_add_one, h]
  constructor
  · rintro ⟨e, he, q⟩
    rcases List.mem_append.mp he with he | he
    · exact .inl ⟨e, he, q⟩
    · have : e = d := by simpa using he
      subst this
      exact .inr q
  · rintro (⟨e, he, q⟩ | q)
    · exact ⟨e, List.mem_append_left _ he, q⟩
    · exact ⟨d, List.mem_append_right _ (by simp), q⟩
theorem v_lt_dirs (D : DEnds) (rs : List Str) (p one : PI2) (n : Nat) (q2 q5 : Addr) (es : List (List Int × PyData)) (b : List PI2) (x3 x7 x8 x9 : Option OT) (S : PI2 → Prop) (e0 : Nat) (hg : GridOk rs) (h1 : Lv rs p n one)
    (h : BS rs (Mt rs p n) S (lvV rs p) e0 es b) (hD : ∀ es' b' x7 x8 x9, BS rs (Mt rs p n) (fun z => S z ∨ Sees rs one z) (lvV rs p) e0 es' b' → D.nx (LT rs p q2 es' x3 n q5 b' (some (tP one)) x7 x8 x9)) :
    (wFor (wIterA (wTup (wCons (wTup (wCons (wC (.int 0)) (wCons (wC (.int 1)) wNil))) (wCons (wTup (wCons (wC (.int 0)) (wCons (wNeg (wC (.int 1))) wNil))) (wCons (wTup (wCons (wC (.int 1)) (wCons (wC (.int 0)) wNil))) (wCons (wTup (wCons (wNeg (wC (.int 1))) (wCons (wC (.int 0)) wNil))) wNil)))))) (gvTup 2 (gvCons (gvName 7) (gvCons (gvName 8) gvNil))) (wFor (wIterA (wCall 4 [false, false, false, false] phi_l_line (wCons (wVar 0) (wCons (wVar 6) (wCons (wVar 7) (wCons (wVar 8) wNil)))))) (gvName 9) (wIfS (wTst (wInT not (wVar 9) (wVar 2))) W_l_turns_b1_0 wNext))) D (LT rs p q2 es x3 n q5 b (some (tP one)) x7 x8 x9) := by
  conv => whnf
  refine ⟨fun i ρ => ∃ es' b' x7 x8 x9, ρ = LT rs p q2 es' x3 n q5 b' (some (tP one)) x7 x8 x9 ∧ BS rs (Mt rs p n) (fun z => S z ∨ SeesBy rs one (dirsL.take i) z) (lvV rs p) e0 es' b', ⟨es, b, x7, x8, x9, rfl, h.imp fun z => ⟨.inl, fun q => q.elim id fun ⟨d, hd, _⟩ => (by simp at hd)⟩⟩, ?_, ?_⟩
  · rintro i x ρ hx ⟨es', b', y7, y8, y9, rfl, hb⟩
    have hx : (psD dirsL)[i]? = some x := hx
    rw [List.getElem?_map] at hx
    cases hy : dirsL[i]? with
    | none => rw [hy] at hx; cases hx
    | some d =>
      rw [hy] at hx
      cases hx
      have hds := (dirs_steps d).mp (List.mem_of_getElem? hy)
      conv => whnf
      refine ⟨rs, one, d, rfl, hg, hds, fun l hl hl12 => ?_⟩
      conv => whnf
      refine v_lt_line _ rs p one n q2 q5 es' b' l x3 _ _ _ y9 _ e0 hg h1 (fun z hz => ?_) hb fun es2 b2 z9 h2 => ?_
      · obtain ⟨k, q⟩ := (hl z).mp hz
        exact ⟨d, hds, k, q⟩
      · refine ⟨es2, b2, _, _, z9, rfl, h2.imp fun z => ?_⟩
        rw [hl z, seesBy_take hy]
        constructor
        · rintro ((q | q) | q)
          · exact .inl q
          · exact .inr (.inl q)
          · exact .inr (.inr q)
        · rintro (q | q | q)
          · exact .inl (.inl q)
          · exact .inl (.inr q)
          · exact .inr q
  · rintro ρ ⟨es', b', y7, y8, y9, rfl, hb⟩
    refine hD es' b' y7 y8 y9 (hb.imp fun z => ?_)
    have e : SeesBy rs one (dirsL.take 4) z ↔ Sees rs one z := by
      show SeesBy rs one dirsL z ↔ SeesBy rs one stepsL z
      unfold SeesBy
      exact ⟨fun ⟨d, hd, q⟩ => ⟨d, (dirs_steps d).mp hd, q⟩, fun ⟨d, hd, q⟩ => ⟨d, (dirs_steps d).mpr hd, q⟩⟩
    exact ⟨fun q => q.imp id e.mp, fun q => q.imp id e.mpr⟩
end Lw
namespace Lw
open PySem PySem.Spec PyProof.Rows L2 DL
theorem mt_lv {rs : List Str} {p : PI2} : ∀ n z, Mt rs p n z → ∃ m, Lv rs p m z
  | 0, z, h => ⟨0, h⟩
  | n + 1, z, h => h.elim (mt_lv n z) fun q => ⟨n + 1, q⟩
theorem mt_all {rs : List Str} {p : PI2} {n : Nat} (hn : ∀ z, ¬ Lv rs p n z) (z : PI2) : Mt rs p n z ↔ ∃ m, Lv rs p m z := by
  refine ⟨mt_lv n z, fun ⟨m, h⟩ => ?_⟩
  rcases Nat.lt_or_ge m n with q | q
  · obtain ⟨k, rfl⟩ : ∃ k, n = m + k := ⟨n - m, by omega⟩
    exact mt_mono (lv_mt m z h) k
  · obtain ⟨k, rfl⟩ : ∃ k, m = n + k := ⟨m - n, by omega⟩
    exact absurd h (lv_stop hn k z)
abbrev LU (rs : List Str) (p : PI2) (q2 : Addr) (es : List (List Int × PyData)) (x3 : Option OT) (n : Nat) (x5 x6 x7 x8 x9 : Option OT) : Rho := [some (tG rs), some (tP p), some (.ox q2 (.dt es)), x3, some (tI n), x5, x6, x7, x8, x9]
structure LI (rs : List Str) (p : PI2) (es : List (List Int × PyData)) (n : Nat) (l : List PI2) : Prop where
  lv : ∀ z, z ∈ l ↔ Lv rs p n z
  keys : KeysAre es (Mt rs p n)
  nd : (es.map (·.1)).Nodup
  vals : ∀ x ∈ es, ∃ z, x.1 = prK z ∧ lvV rs p z x.2
  ll : l.length ≤ 144
def pairO (t : TE2) : PyData := .tuple [prD t.1, .int t.2]
theorem pairs_ents : ∀ tt : List TE2, pairsD (tt.map pairO) = some (tt.map entD)
  | [] => rfl
  | t :: tt => by
    show pairsD (pairO t :: tt.map pairO) = _
    unfold pairsD
    rw [pairs_ents tt]
    rfl
theorem v_l_turns (ts : List OT) (Q : OT → List OT → Prop) (h : phi_l_turns ts Q) : W_l_turns (endsF 10 ts Q) (startR 10 ts) := by
  have hsz : sizeLine = 16777216 := sizeLine_eq
  obtain ⟨rs, p, rfl, hg, hp, h⟩ := h
  show W_l_turns _ [some (tG rs), some (tP p), none, none, none, none, none, none, none, none]
  conv => whnf
  intro q2
  show W_l_turns_1 _ [some (tG rs), some (tP p), some (.ox q2 (.dt [(prK p, .int 0)])), none, none, none, none, none, none, none]
  conv => whnf
  intro q3
  show W_l_turns_2 _ [some (tG rs), some (tP p), some (.ox q2 (.dt [(prK p, .int 0)])), some (.lst q3 (psD [p])), none, none, none, none, none, none]
  conv => whnf
  refine ⟨fun m ρ => ∃ es n l x3 x5 x6 x7 x8 x9, ρ = LU rs p q2 es x3 n x5 x6 x7 x8 x9 ∧ isF x6 ∧ ((∃ q, x3 = some (.lst q (psD l))) ∨ x3 = some (.fz (.list (psD l)))) ∧ LI rs p es n l ∧ m = 2 * (145 - es.length) + min l.length 1, ⟨289, [(prK p, .int 0)], 0, [p], _, none, none, none, none, none, rfl, isF_n, .inl ⟨q3, rfl⟩, ⟨fun z => List.mem_singleton, fun k => ?_, by simp, fun x hx => ?_, by show 1 ≤ 144; decide⟩, rfl⟩, ?_⟩
  · exact ⟨fun h => ⟨p, List.mem_singleton.mp h, rfl⟩, fun ⟨z, e, hz⟩ => by rw [e, show z = p from hz]; exact List.mem_singleton.mpr rfl⟩
  · rw [List.mem_singleton.mp hx]
    exact ⟨p, rfl, 0, rfl, rfl⟩
  · rintro m ρ ⟨es, n, l, x3, x5, x6, x7, x8, x9, rfl, h6, h4, hl, rfl⟩
    have frz : ∀ z, z ∈ l → freeB rs z = true := fun z hz => mt_free hp _ z (lv_mt _ z ((hl.lv z).mp hz))
    have hlen := keys_len hg hl.keys hl.nd (mt_free hp _)
    have ends : ∀ (D : DEnds) (y3 : Option OT), l = [] → (∀ (q : Addr) zs, TableOk rs p zs → D.rt (.tm (.ox q (.dt (zs.map entD)))) (LU rs p q2 es y3 n x5 x6 x7 x8 x9)) → W_l_turns_4 D (LU rs p q2 es y3 n x5 x6 x7 x8 x9) := fun D y3 e hD => by
      subst e
      have nolv : ∀ z, ¬ Lv rs p n z := fun z q => by cases (hl.lv z).mpr q
      have ok : TurnsOk rs p es := ⟨hl.keys.imp fun z => mt_all nolv z, hl.nd, fun x hx => by
        obtain ⟨z, e, m, hm, hv⟩ := hl.vals x hx
        exact ⟨z, m, e, hm, hv⟩⟩
      conv => whnf
      refine ⟨fun x hx => ?_, fun zs pm pw q1 => ?_⟩
      · obtain ⟨z, n, e, _⟩ := ok.2.2 x hx
        exact ⟨z, e⟩
      obtain ⟨tt, e1, tok, tl⟩ := table_of ok pm pw
      conv => whnf
      subst e1
      have tlen : tt.length ≤ 144 := by
        have h1 := pm.length_eq
        rw [List.length_map, List.length_map, List.length_map] at h1
        rw [h1]
        exact hlen
      refine ⟨⟨by rcases h6 with e | ⟨v, e⟩ <;> rw [e] <;> trivial, trivial⟩, fun i ds ρ => ∃ y6, ds = (tt.take i).map pairO ∧ ρ = LU rs p q2 es y3 n x5 y6 x7 x8 x9, ⟨none, by simp, rfl⟩, ?_, ?_⟩
      · rintro i x ds ρ hx ⟨y6, rfl, rfl⟩
        rw [List.getElem?_map, List.getElem?_map] at hx
        cases hz : tt[i]? with
        | none => rw [hz] at hx; cases hx
        | some t =>
          rw [hz] at hx
          obtain rfl : x = prD t.1 := (Option.some.inj hx).symm
          have hi := (List.getElem?_eq_some_iff.mp hz).1
          have htl := tl t (List.mem_of_getElem? hz)
          conv => whnf
          have hix : ∀ k, k = prD t.1 → ixT (.ox q2 (.dt es)) k = some (.fz (.int t.2)) := fun k e => by
            subst e
            unfold ixT
            show (match lookK es (prK t.1) with | some x => some (OT.fz x) | none => none) = _
            rw [htl]
          rw [hix _ rfl]
          conv => whnf
          refine ⟨by rw [List.length_map, List.length_take]; omega, some (tP t.1), ?_, rfl⟩
          rw [List.take_add_one, hz, List.map_append]
          rfl
      · rintro ds ρ ⟨y6, rfl, rfl⟩ q4
        rw [List.length_map, List.length_map, List.take_length]
        conv => whnf
        rw [pairs_ents]
        conv => whnf
        refine ⟨?_, by rw [List.length_map]; omega, fun q5 => hD q5 tt tok⟩
        rw [List.map_map]
        exact List.pairwise_map.mpr ((List.pairwise_map.mp tok.1).imp fun h e => lex_ne h (prK_inj e))
    have round : l ≠ [] → isF x6 → ∀ (D : DEnds) (x3 : Option OT), ((∃ q, x3 = some (.lst q (psD l))) ∨ x3 = some (.fz (.list (psD l)))) → (∀ ρ, (∃ m', m' < 2 * (145 - es.length) + min l.length 1 ∧ ∃ es n l x3 x5 x6 x7 x8 x9, ρ = LU rs p q2 es x3 n x5 x6 x7 x8 x9 ∧ isF x6 ∧ ((∃ q, x3 = some (.lst q (psD l))) ∨ x3 = some (.fz (.list (psD l)))) ∧ LI rs p es n l ∧ m' = 2 * (145 - es.length) + min l.length 1) → D.nx ρ) →
        W_l_turns_b0_0 D (LU rs p q2 es x3 n x5 x6 x7 x8 x9) := by
      intro hne h6 D x3 h3 hD
      have hpos : 1 ≤ l.length := List.length_pos_iff.mpr hne
      have body : ∀ q5, W_l_turns_b0_1 D (LT rs p q2 es x3 n q5 [] x6 x7 x8 x9) := fun q5 => by
        have fin : ∀ es' b' x6 x7 x8 x9, isF x6 → BS rs (Mt rs p n) (fun z => ∃ y ∈ l, Sees rs y z) (lvV rs p) es.length es' b' → W_l_turns_b0_2 D (LT rs p q2 es' (some (.fz (.list (psD l)))) n q5 b' x6 x7 x8 x9) := fun es' b' x6 x7 x8 x9 h6 hb => by
          have hbl := hb.len hg
          have hln := hb.ln
          have lv : ∀ z, (∃ y ∈ l, Sees rs y z) ↔ ∃ y, Lv rs p n y ∧ Sees rs y z := fun z => ⟨fun ⟨y, a, c⟩ => ⟨y, (hl.lv y).mp a, c⟩, fun ⟨y, a, c⟩ => ⟨y, (hl.lv y).mpr a, c⟩⟩
          conv => whnf
          refine hD _ ⟨_, ?_, es', n + 1, b', _, _, x6, x7, x8, x9, rfl, h6, .inr rfl, ⟨fun z => ?_, ?_, hb.nd, hb.vals, by omega⟩, rfl⟩
          · omega
          · rw [hb.beh z, lv z]
            exact Iff.rfl
          · refine hb.keys.imp fun z => ?_
            rw [lv z]
            show _ ↔ (Mt rs p n z ∨ (¬ Mt rs p n z ∧ ∃ y, Lv rs p n y ∧ Sees rs y z))
            by_cases hm : Mt rs p n z
            · exact ⟨fun _ => .inl hm, fun _ => .inl hm⟩
            · exact ⟨fun q => q.elim .inl fun q => .inr ⟨hm, q⟩, fun q => q.elim .inl fun q => .inr q.2⟩
        have walk : ∀ (I0 : Nat → Rho → Prop), I0 = (fun i ρ => ∃ es' b' x6 x7 x8 x9, ρ = LT rs p q2 es' (some (.fz (.list (psD l)))) n q5 b' x6 x7 x8 x9 ∧ isF x6 ∧ BS rs (Mt rs p n) (fun z => ∃ y ∈ l.take i, Sees rs y z) (lvV rs p) es.length es' b') → I0 0 (LT rs p q2 es (some (.fz (.list (psD l)))) n q5 [] x6 x7 x8 x9) := fun I0 e => by
          subst e
          exact ⟨es, [], x6, x7, x8, x9, rfl, h6, hl.keys.imp fun z => ⟨.inl, fun q => q.elim id fun ⟨y, hy, _⟩ => (by simp at hy)⟩, fun z => ⟨fun q => (by cases q), fun ⟨_, y, hy, _⟩ => (by simp at hy)⟩, hl.nd, fun z q => q.elim (mt_free hp _ z) fun ⟨y, hy, _⟩ => (by simp at hy), hl.vals, rfl, List.nodup_nil⟩
        have step : ∀ (D2 : DEnds) i x ρ2, (psD l)[i]? = some x → (∃ es' b' x6 x7 x8 x9, ρ2 = LT rs p q2 es' (some (.fz (.list (psD l)))) n q5 b' x6 x7 x8 x9 ∧ isF x6 ∧ BS rs (Mt rs p n) (fun z => ∃ y ∈ l.take i, Sees rs y z) (lvV rs p) es.length es' b') →
            (∀ ρ, (∃ es' b' x6 x7 x8 x9, ρ = LT rs p q2 es' (some (.fz (.list (psD l)))) n q5 b' x6 x7 x8 x9 ∧ isF x6 ∧ BS rs (Mt rs p n) (fun z => ∃ y ∈ l.take (i + 1), Sees rs y z) (lvV rs p) es.length es' b') → D2.nx ρ) →
            gvName 6 x ρ2 fun ρ3 => (wFor (wIterA (wTup (wCons (wTup (wCons (wC (.int 0)) (wCons (wC (.int 1)) wNil))) (wCons (wTup (wCons (wC (.int 0)) (wCons (wNeg (wC (.int 1))) wNil))) (wCons (wTup (wCons (wC (.int 1)) (wCons (wC (.int 0)) wNil))) (wCons (wTup (wCons (wNeg (wC (.int 1))) (wCons (wC (.int 0)) wNil))) wNil)))))) (gvTup 2 (gvCons (gvName 7) (gvCons (gvName 8) gvNil))) (wFor (wIterA (wCall 4 [false, false, false, false] phi_l_line (wCons (wVar 0) (wCons (wVar 6) (wCons (wVar 7) (wCons (wVar 8) wNil)))))) (gvName 9) (wIfS (wTst (wInT not (wVar 9) (wVar 2))) W_l_turns_b1_0 wNext))) D2 ρ3 := by
          rintro D2 i x ρ hx ⟨es', b', y6, y7, y8, y9, rfl, g6, hb⟩ hD2
          rw [List.getElem?_map] at hx
          cases hy : l[i]? with
          | none => rw [hy] at hx; cases hx
          | some y =>
            rw [hy] at hx
            cases hx
            refine v_lt_dirs D2 rs p y n q2 q5 es' b' _ _ _ y9 _ es.length hg ((hl.lv y).mp (List.mem_of_getElem? hy)) hb fun es2 b2 z7 z8 z9 h2 => hD2 _ ⟨es2, b2, _, z7, z8, z9, rfl, isF_s, h2.imp fun z => ?_⟩
            rw [List.take_add_one, hy]
            constructor
            · rintro (⟨w, hw, hs'⟩ | hs')
              · exact ⟨w, List.mem_append_left _ hw, hs'⟩
              · exact ⟨y, List.mem_append_right _ (by simp), hs'⟩
            · rintro ⟨w, hw, hs'⟩
              rcases List.mem_append.mp hw with hw | hw
              · exact .inl ⟨w, hw, hs'⟩
              · have e : w = y := by simpa using hw
                subst e
                exact .inr hs'
        have stop : ∀ ρ2, (∃ es' b' x6 x7 x8 x9, ρ2 = LT rs p q2 es' (some (.fz (.list (psD l)))) n q5 b' x6 x7 x8 x9 ∧ isF x6 ∧ BS rs (Mt rs p n) (fun z => ∃ y ∈ l.take (psD l).length, Sees rs y z) (lvV rs p) es.length es' b') → W_l_turns_b0_2 D ρ2 := by
          rintro ρ ⟨es', b', y6, y7, y8, y9, rfl, g6, hb⟩
          rw [List.length_map, List.take_length] at hb
          exact fin es' b' _ _ _ _ g6 hb
        rcases h3 with ⟨q, rfl⟩ | rfl
        · conv => whnf
          exact ⟨_, walk _ rfl, fun i x ρ hx hI => step _ i x ρ hx hI fun ρ q => q, stop⟩
        · conv => whnf
          exact ⟨_, walk _ rfl, fun i x ρ hx hI => step _ i x ρ hx hI fun ρ q => q, stop⟩
      conv => whnf
      exact fun q5 => body q5
    have no : l = [] → W_l_turns_4 (endsF 10 [tG rs, tP p] Q) (LU rs p q2 es x3 n x5 x6 x7 x8 x9) := fun e => ends _ _ e fun q zs hz => h q zs hz
    rcases h4 with ⟨q, rfl⟩ | rfl
    · conv => whnf
      intro q4
      conv => whnf
      refine ⟨sh_psL l, rfl, ?_⟩
      rw [eqv_nilL]
      by_cases hl0 : l = []
      · rw [show (psD l).isEmpty = true by rw [hl0]; rfl]
        exact no hl0
      · rw [show (psD l).isEmpty = false by cases l with | nil => exact absurd rfl hl0 | cons => rfl]
        exact round hl0 h6 _ _ (.inl ⟨q, rfl⟩) fun ρ hρ => hρ
    · conv => whnf
      intro q4
      conv => whnf
      refine ⟨sh_psL l, rfl, ?_⟩
      rw [eqv_nilL]
      by_cases hl0 : l = []
      · rw [show (psD l).isEmpty = true by rw [hl0]; rfl]
        exact no hl0
      · rw [show (psD l).isEmpty = false by cases l with | nil => exact absurd rfl hl0 | cons => rfl]
        exact round hl0 h6 _ _ (.inr rfl) fun ρ hρ => hρ
end Lw
namespace Lw
open PySem PySem.Spec PyProof.Rows L2 DL
def phi_l_folded : FS := fun ts Q => ∃ ns : List Int, ts = [.fz (.list (ns.map .int))] ∧ ns.length ≤ 63 ∧ ∀ n : Int, Q (tI n) ts
def W_l_folded_2 : WS := (wRet (wVar 1))
def W_l_folded_1 : WS := wSeq (wFor (wIterA (wVar 0)) (gvName 2) (wSet (wOp2 (gI (fun i j => .int (i % j)) fun _ j => 0 < j) (wOp2 gAdd (wOp2 (gI (fun i j => .int (i * j)) CMul) (wVar 1) (wC (.int 48271))) (wOp2 (gI (fun i j => .int (i % j)) fun _ j => 0 < j) (wVar 2) (wC (.int 2147483629)))) (wC (.int 2147483647))) 1)) W_l_folded_2
def W_l_folded_0 : WS := wSeq (wSet (wCB gLen (wCons (wVar 0) wNil)) 1) W_l_folded_1
def W_l_folded : WS := W_l_folded_0

theorem v_l_folded (ts : List OT) (Q : OT → List OT → Prop) (h : phi_l_folded ts Q) : W_l_folded (endsF 3 ts Q) (startR 3 ts) := by
  obtain ⟨ns, rfl, hl, h⟩ := h
  show W_l_folded _ [some (.fz (.list (ns.map .int))), none, none]
  conv => whnf
  refine ⟨fun i ρ => ∃ (n : Int) (x2 : Option OT), ρ = [some (.fz (.list (ns.map .int))), some (tI n), x2] ∧ 0 ≤ n ∧ n < 2 ^ 31, ⟨ns.length, none, by show [_, some (OT.fz (PyData.int ((ns.map PyData.int).length : Nat))), none] = _; rw [List.length_map], by omega, by omega⟩, ?_, ?_⟩
  · rintro i x ρ hx ⟨n, x2, rfl, h0, h1⟩
    rw [List.getElem?_map] at hx
    cases hy : ns[i]? with
    | none => rw [hy] at hx; cases hx
    | some y =>
      rw [hy] at hx
      cases hx
      have hb : 0 ≤ y % 2147483629 ∧ y % 2147483629 < 2147483629 := ⟨Int.emod_nonneg _ (by decide), Int.emod_lt_of_pos _ (by decide)⟩
      conv => whnf
      refine ⟨.inl ⟨by omega, by omega⟩, ?_⟩
      conv => whnf
      refine ⟨by show (0 : Int) < _; decide, ?_⟩
      conv => whnf
      refine ⟨by show (0 : Int) < _; decide, ?_⟩
      conv => whnf
      refine ⟨_, _, rfl, Int.emod_nonneg _ (by decide), Int.lt_of_lt_of_le (Int.emod_lt_of_pos _ (by decide)) (by decide)⟩
  · rintro ρ ⟨n, x2, rfl, _⟩
    conv => whnf
    exact h n
/-- the seed: what is left, whether it is great, how often drawn, its rest -/
def SeedOk (C : Int) (ds : List PyData) : Prop := ∃ a b c s : Int, ds = [.int a, .int b, .int c, .int s] ∧ 0 ≤ a ∧ (0 ≤ c ∧ c ≤ C) ∧ (0 ≤ s ∧ s < 2 ^ 31)
def phi_l_seed : FS := fun ts Q => ∃ n, ts = [tI n] ∧ ∀ p ds, SeedOk 0 ds → Q (.lst p ds) ts
def W_l_seed_1 : WS := (wRet (wLst (wCons (wVar 1) (wCons (wCB gInt (wCons (wOp2 (gI0 fun i j => .bool (decide (j ≤ i))) (wVar 1) (wOp2 (gI (fun i j => .int (i ^ j.toNat)) CPow) (wC (.int 10)) (wC (.int 18)))) wNil)) (wCons (wC (.int 0)) (wCons (wOp2 (gI (fun i j => .int (i % j)) fun _ j => 0 < j) (wVar 0) (wC (.int 1999999913))) wNil))))))
def W_l_seed_0 : WS := wSeq (wSet (wCB gMax (wCons (wVar 0) (wCons (wOp2 (gI0 fun i j => .int (i - j)) (wC (.int 0)) (wVar 0)) wNil))) 1) W_l_seed_1
def W_l_seed : WS := W_l_seed_0

theorem v_l_seed (ts : List OT) (Q : OT → List OT → Prop) (h : phi_l_seed ts Q) : W_l_seed (endsF 2 ts Q) (startR 2 ts) := by
  obtain ⟨n, rfl, h⟩ := h
  show W_l_seed _ [some (tI n), none]
  conv => whnf
  refine ⟨⟨by decide, by decide, by decide⟩, ?_⟩
  conv => whnf
  refine ⟨by show (0 : Int) < _; decide, ?_⟩
  conv => whnf
  intro p
  refine h p _ ⟨_, _, 0, _, rfl, ?_, ⟨by decide, by decide⟩, Int.emod_nonneg _ (by decide), Int.lt_of_lt_of_le (Int.emod_lt_of_pos _ (by decide)) (by decide)⟩
  split <;> omega
def phi_l_draw : FS := fun ts Q => ∃ p ds C most, ts = [.lst p ds, tI most] ∧ SeedOk C ds ∧ C ≤ 2 ^ 20 ∧ (0 < most ∧ most < 2 ^ 20) ∧ ∀ n ds', 0 ≤ n → n < most → SeedOk (C + 1) ds' → Q (tI n) [.lst p ds', tI most]
def W_l_draw_b0_2 : WS := (wRet (wVar 2))
def W_l_draw_b0_1 : WS := wSeq (wSub 0 (wC (.int 0)) (wOp2 (gI (fun i j => .int (i / j)) CDiv) (wIx (wVar 0) (wC (.int 0))) (wVar 1))) W_l_draw_b0_2
def W_l_draw_b0_0 : WS := wSeq (wSet (wOp2 (gI (fun i j => .int (i % j)) fun _ j => 0 < j) (wIx (wVar 0) (wC (.int 0))) (wVar 1)) 2) W_l_draw_b0_1
def W_l_draw_4 : WS := (wRet (wOp2 (gI (fun i j => .int (i % j)) fun _ j => 0 < j) (wOp2 (gI (fun i j => .int (i / j)) CDiv) (wVar 3) (wC (.int 7))) (wVar 1)))
def W_l_draw_3 : WS := wSeq (wSet (wOp2 (gI (fun i j => .int (i % j)) fun _ j => 0 < j) (wOp2 (gI (fun i j => .int (i * j)) CMul) (wOp2 (gI (fun i j => .int (i % j)) fun _ j => 0 < j) (wOp2 (gI (fun i j => .int (i * j)) CMul) (wVar 3) (wVar 3)) (wC (.int 2147483629))) (wC (.int 40692))) (wC (.int 2147483399))) 3) W_l_draw_4
def W_l_draw_2 : WS := wSeq (wSet (wOp2 (gI (fun i j => .int (i % j)) fun _ j => 0 < j) (wOp2 (gI (fun i j => .int (i * j)) CMul) (wOp2 gAdd (wOp2 gAdd (wIx (wVar 0) (wC (.int 3))) (wOp2 (gI (fun i j => .int (i * j)) CMul) (wC (.int 6997)) (wIx (wVar 0) (wC (.int 2))))) (wC (.int 11))) (wC (.int 48271))) (wC (.int 2147483647))) 3) W_l_draw_3
def W_l_draw_1 : WS := wSeq (wIfS (wAnd (wTst (wOp2 gEq (wIx (wVar 0) (wC (.int 1))) (wC (.int 1)))) (wTst (wOp2 (gI0 fun i j => .bool (decide (j < i))) (wIx (wVar 0) (wC (.int 0))) (wC (.int 0))))) W_l_draw_b0_0 wNext) W_l_draw_2
def W_l_draw_0 : WS := wSeq (wSub 0 (wC (.int 2)) (wOp2 gAdd (wIx (wVar 0) (wC (.int 2))) (wC (.int 1)))) W_l_draw_1
def W_l_draw : WS := W_l_draw_0

theorem v_dr_tail (D : DEnds) (p : Addr) (a b c s most : Int) (hc0 : 0 ≤ c) (hc : c ≤ 2 ^ 21) (hs0 : 0 ≤ s) (hs1 : s < 2 ^ 31) (hm0 : 0 < most)
    (hD : ∀ n x3, 0 ≤ n → n < most → D.rt (.fz (.int n)) [some (.lst p [.int a, .int b, .int c, .int s]), some (tI most), none, x3]) : W_l_draw_2 D [some (.lst p [.int a, .int b, .int c, .int s]), some (tI most), none, none] := by
  conv => whnf
  refine ⟨by first | exact .inl ⟨by omega, by omega⟩ | exact .inr ⟨by omega, by omega⟩, ?_⟩
  conv => whnf
  refine ⟨by first | exact .inl ⟨by omega, by omega⟩ | exact .inr ⟨by omega, by omega⟩, ?_⟩
  conv => whnf
  refine ⟨by show (0 : Int) < _; decide, ?_⟩
  obtain ⟨x, hx⟩ : ∃ x, (s + 6997 * c + 11) * 48271 % 2147483647 = x := ⟨_, rfl⟩
  have hx0 : 0 ≤ x ∧ x < 2147483647 := by omega
  dsimp only
  rw [hx]
  conv => whnf
  refine ⟨by first | exact .inl ⟨by omega, by omega⟩ | exact .inr ⟨by omega, by omega⟩, ?_⟩
  conv => whnf
  refine ⟨by show (0 : Int) < _; decide, ?_⟩
  obtain ⟨y, hy⟩ : ∃ y, x * x % 2147483629 = y := ⟨_, rfl⟩
  have hy0 : 0 ≤ y ∧ y < 2147483629 := by rw [← hy]; exact ⟨Int.emod_nonneg _ (by decide), Int.emod_lt_of_pos _ (by decide)⟩
  dsimp only
  rw [hy]
  conv => whnf
  refine ⟨by first | exact .inl ⟨by omega, by omega⟩ | exact .inr ⟨by omega, by omega⟩, ?_⟩
  conv => whnf
  refine ⟨by show (0 : Int) < _; decide, ?_⟩
  obtain ⟨z, hz⟩ : ∃ z, y * 40692 % 2147483399 = z := ⟨_, rfl⟩
  have hz0 : 0 ≤ z ∧ z < 2147483399 := by omega
  dsimp only
  rw [hz]
  conv => whnf
  refine ⟨⟨by decide, by omega⟩, ?_⟩
  conv => whnf
  refine ⟨hm0, ?_⟩
  exact hD _ _ (Int.emod_nonneg _ (by omega)) (Int.emod_lt_of_pos _ hm0)
theorem v_l_draw (ts : List OT) (Q : OT → List OT → Prop) (h : phi_l_draw ts Q) : W_l_draw (endsF 4 ts Q) (startR 4 ts) := by
  obtain ⟨p, ds, C, most, rfl, ⟨a, b, c, s, rfl, ha, ⟨hc0, hc1⟩, hs0, hs1⟩, hC, ⟨hm0, hm1⟩, h⟩ := h
  show W_l_draw _ [some (.lst p [.int a, .int b, .int c, .int s]), some (tI most), none, none]
  have hr : ∀ n : Int, 0 ≤ n % most ∧ n % most < most := fun n => ⟨Int.emod_nonneg _ (by omega), Int.emod_lt_of_pos _ hm0⟩
  have hd : ∀ n : Int, 0 ≤ n → 0 ≤ n / most := fun n h => Int.ediv_nonneg h (by omega)
  conv => whnf
  refine bmd (fun hb1 => ?_) (fun hb1 => ?_)
  · conv => whnf
    refine bmd (fun ha1 => ?_) (fun ha1 => ?_)
    · conv => whnf
      refine ⟨hm0, ?_⟩
      conv => whnf
      refine ⟨⟨hm0, by omega⟩, ?_⟩
      conv => whnf
      exact ⟨rfl, h _ _ (hr a).1 (hr a).2 ⟨a / most, b, c + 1, s, rfl, hd a ha, ⟨by omega, by omega⟩, hs0, hs1⟩⟩
    · exact v_dr_tail _ p a b (c + 1) s most (by omega) (by omega) hs0 hs1 hm0 fun n x3 h0 h1 => ⟨rfl, h n _ h0 h1 ⟨a, b, c + 1, s, rfl, ha, ⟨by omega, by omega⟩, hs0, hs1⟩⟩
  · exact v_dr_tail _ p a b (c + 1) s most (by omega) (by omega) hs0 hs1 hm0 fun n x3 h0 h1 => ⟨rfl, h n _ h0 h1 ⟨a, b, c + 1, s, rfl, ha, ⟨by omega, by omega⟩, hs0, hs1⟩⟩
end Lw
namespace Lw
open PySem PySem.Spec PyProof.Rows L2 DL
def box12 : List (List Int) := (List.range 12).flatMap fun i => (List.range 12).map fun j => [((i : Nat) : Int), ((j : Nat) : Int)]
theorem box_len : box12.length = 144 := by decide +kernel
theorem box_mem {a b : Int} (ha : 0 ≤ a ∧ a < 12) (hb : 0 ≤ b ∧ b < 12) : [a, b] ∈ box12 := by
  unfold box12
  rw [List.mem_flatMap]
  refine ⟨a.toNat, List.mem_range.mpr (by omega), List.mem_map.mpr ⟨b.toNat, List.mem_range.mpr (by omega), ?_⟩⟩
  rw [Int.toNat_of_nonneg ha.1, Int.toNat_of_nonneg hb.1]
structure SpOk (es : List (List Int × PyData)) : Prop where
  nd : (es.map (·.1)).Nodup
  inb : ∀ k ∈ es.map (·.1), k ∈ box12
theorem SpOk.len {es : List (List Int × PyData)} (h : SpOk es) : es.length ≤ 144 := by
  have := pigeon h.nd h.inb
  rw [List.length_map, box_len] at this
  exact this
def phi_l_spiral : FS := fun ts Q => ∃ R C : Nat, ts = [tI R, tI C] ∧ R ≤ 12 ∧ C ≤ 12 ∧ ∀ p es, Q (.ox p (.dt es)) ts
def W_l_spiral_b1_2 : WS := (wSet (wC (.int 0)) 5)
def W_l_spiral_b1_1 : WS := wSeq (wSet (wVar 8) 3) W_l_spiral_b1_2
def W_l_spiral_b1_0 : WS := wSeq (wPutT 2 (wVar 8) (wC (.bool true))) W_l_spiral_b1_1
def W_l_spiral_b2_1 : WS := (wSet (wOp2 gAdd (wVar 5) (wC (.int 1))) 5)
def W_l_spiral_b2_0 : WS := wSeq (wSet (wOp2 (gI (fun i j => .int (i % j)) fun _ j => 0 < j) (wOp2 gAdd (wVar 4) (wC (.int 1))) (wC (.int 4))) 4) W_l_spiral_b2_1
def W_l_spiral_b0_3 : WS := (wIfS (wAnd (wTst (wChain (gI0 fun i j => .bool (decide (i ≤ j))) (gI0 fun i j => .bool (decide (i < j))) (wC (.int 0)) (wIx (wVar 8) (wC (.int 0))) (wVar 0))) (wAnd (wTst (wChain (gI0 fun i j => .bool (decide (i ≤ j))) (gI0 fun i j => .bool (decide (i < j))) (wC (.int 0)) (wIx (wVar 8) (wC (.int 1))) (wVar 1))) (wAnd (wTst (wInT not (wVar 8) (wVar 2))) (wTst (wInT not (wVar 9) (wVar 2)))))) W_l_spiral_b1_0 W_l_spiral_b2_0)
def W_l_spiral_b0_2 : WS := wSeq (wSet (wTup (wCons (wOp2 gAdd (wIx (wVar 8) (wC (.int 0))) (wVar 6)) (wCons (wOp2 gAdd (wIx (wVar 8) (wC (.int 1))) (wVar 7)) wNil))) 9) W_l_spiral_b0_3
def W_l_spiral_b0_1 : WS := wSeq (wSet (wTup (wCons (wOp2 gAdd (wIx (wVar 3) (wC (.int 0))) (wVar 6)) (wCons (wOp2 gAdd (wIx (wVar 3) (wC (.int 1))) (wVar 7)) wNil))) 8) W_l_spiral_b0_2
def W_l_spiral_b0_0 : WS := wSeq (wAsg (wIx (wLst (wCons (wTup (wCons (wC (.int 0)) (wCons (wC (.int 1)) wNil))) (wCons (wTup (wCons (wC (.int 1)) (wCons (wC (.int 0)) wNil))) (wCons (wTup (wCons (wC (.int 0)) (wCons (wNeg (wC (.int 1))) wNil))) (wCons (wTup (wCons (wNeg (wC (.int 1))) (wCons (wC (.int 0)) wNil))) wNil))))) (wVar 4)) (gvTup 2 (gvCons (gvName 6) (gvCons (gvName 7) gvNil)))) W_l_spiral_b0_1
def W_l_spiral_5 : WS := (wRet (wMove 2))
def W_l_spiral_4 : WS := wSeq (wWhile (wTst (wOp2 (gI0 fun i j => .bool (decide (i < j))) (wVar 5) (wC (.int 2)))) W_l_spiral_b0_0) W_l_spiral_5
def W_l_spiral_3 : WS := wSeq (wSet (wC (.int 0)) 5) W_l_spiral_4
def W_l_spiral_2 : WS := wSeq (wSet (wC (.int 0)) 4) W_l_spiral_3
def W_l_spiral_1 : WS := wSeq (wSet (wTup (wCons (wC (.int 0)) (wCons (wC (.int 0)) wNil))) 3) W_l_spiral_2
def W_l_spiral_0 : WS := wSeq (wSet (wOneT (wTup (wCons (wC (.int 0)) (wCons (wC (.int 0)) wNil))) (wC (.bool true))) 2) W_l_spiral_1
def W_l_spiral : WS := W_l_spiral_0

abbrev SQ (R C : Nat) (q : Addr) (es : List (List Int × PyData)) (pl : PI2) (hd tu : Nat) (x6 x7 x8 x9 : Option OT) : Rho := [some (tI R), some (tI C), some (.ox q (.dt es)), some (tP pl), some (tI hd), some (tI tu), x6, x7, x8, x9]
def dirs4 : List PI2 := [(0, 1), (1, 0), (0, -1), (-1, 0)]
theorem v_l_spiral (ts : List OT) (Q : OT → List OT → Prop) (h : phi_l_spiral ts Q) : W_l_spiral (endsF 10 ts Q) (startR 10 ts) := by
  have hsz : sizeLine = 16777216 := sizeLine_eq
  obtain ⟨R, C, rfl, hR, hC, h⟩ := h
  show W_l_spiral _ [some (tI R), some (tI C), none, none, none, none, none, none, none, none]
  conv => whnf
  intro q
  show W_l_spiral_4 _ (SQ R C q [(prK (0, 0), .bool true)] (0, 0) 0 0 none none none none)
  conv => whnf
  refine ⟨fun m ρ => ∃ es pl hd tu x6 x7 x8 x9, ρ = SQ R C q es pl hd tu x6 x7 x8 x9 ∧ SpOk es ∧ hd < 4 ∧ tu ≤ 2 ∧ m = 3 * (145 - es.length) + (2 - tu), ⟨_, _, _, 0, 0, none, none, none, none, rfl, ⟨by simp, fun k hk => ?_⟩, by decide, by decide, rfl⟩, ?_⟩
  · rw [List.mem_singleton.mp hk]
    exact box_mem ⟨by decide, by decide⟩ ⟨by decide, by decide⟩
  · rintro m ρ ⟨es, pl, hd, tu, x6, x7, x8, x9, rfl, hs, hh, ht, rfl⟩
    have hlen := hs.len
    conv => whnf
    refine bmd (fun hlt => ?_) (fun hlt => ?_)
    · obtain ⟨d, _, e⟩ := atI_ps (ps := dirs4) (n := hd) (by omega) (by show (hd : Int) < 4; omega)
      conv => whnf
      intro q1
      rw [show [PyData.tuple [PyData.int 0, PyData.int 1], PyData.tuple [PyData.int 1, PyData.int 0], PyData.tuple [PyData.int 0, PyData.int (-1)], PyData.tuple [PyData.int (-1), PyData.int 0]] = psD dirs4 from rfl]
      conv => whnf
      rw [e]
      obtain ⟨n2, hn2⟩ : ∃ n2 : PI2, (pl.1 + d.1, pl.2 + d.2) = n2 := ⟨_, rfl⟩
      obtain ⟨f2, hf2⟩ : ∃ f2 : PI2, (n2.1 + d.1, n2.2 + d.2) = f2 := ⟨_, rfl⟩
      have turn : ∀ (D : DEnds) x6 x7 x8 x9, (∀ ρ, (∃ m', m' < 3 * (145 - es.length) + (2 - tu) ∧ ∃ es pl hd tu x6 x7 x8 x9, ρ = SQ R C q es pl hd tu x6 x7 x8 x9 ∧ SpOk es ∧ hd < 4 ∧ tu ≤ 2 ∧ m' = 3 * (145 - es.length) + (2 - tu)) → D.nx ρ) → W_l_spiral_b2_0 D (SQ R C q es pl hd tu x6 x7 x8 x9) := fun D x6 x7 x8 x9 hD => by
        conv => whnf
        refine ⟨by show (0 : Int) < _; decide, ?_⟩
        conv => whnf
        refine hD _ ⟨_, ?_, es, pl, (hd + 1) % 4, tu + 1, x6, x7, x8, x9, rfl, hs, by omega, by omega, rfl⟩
        omega
      show W_l_spiral_b0_1 _ (SQ R C q es pl hd tu (some (tI d.1)) (some (tI d.2)) x8 x9)
      conv => whnf
      show W_l_spiral_b0_2 _ (SQ R C q es pl hd tu (some (tI d.1)) (some (tI d.2)) (some (tP (pl.1 + d.1, pl.2 + d.2))) x9)
      rw [hn2]
      conv => whnf
      show W_l_spiral_b0_3 _ (SQ R C q es pl hd tu (some (tI d.1)) (some (tI d.2)) (some (tP n2)) (some (tP (n2.1 + d.1, n2.2 + d.2))))
      rw [hf2]
      conv => whnf
      refine bmd (fun a1 => ?_) (fun a1 => turn _ _ _ _ _ fun ρ hρ => hρ)
      conv => whnf
      refine bmd (fun a2 => ?_) (fun a2 => turn _ _ _ _ _ fun ρ hρ => hρ)
      conv => whnf
      refine bmd (fun a3 => ?_) (fun a3 => turn _ _ _ _ _ fun ρ hρ => hρ)
      conv => whnf
      refine bmd (fun a4 => ?_) (fun a4 => turn _ _ _ _ _ fun ρ hρ => hρ)
      conv => whnf
      rw [dec_some n2]
      refine bmn (fun a5 => ?_) (fun a5 => turn _ _ _ _ _ fun ρ hρ => hρ)
      conv => whnf
      rw [dec_some f2]
      refine bmn (fun a6 => ?_) (fun a6 => turn _ _ _ _ _ fun ρ hρ => hρ)
      show W_l_spiral_b1_0 _ (SQ R C q es pl hd tu (some (tI d.1)) (some (tI d.2)) (some (tP n2)) (some (tP f2)))
      conv => whnf
      refine ⟨by omega, ?_⟩
      have hsn : SpOk (putE es (prK n2) (.bool true)) := ⟨nodup_put hs.nd, fun k hk => by
        rcases (keys_put es (prK n2) (.bool true) k).mp hk with rfl | hk
        · exact box_mem ⟨a1, by omega⟩ ⟨a3, by omega⟩
        · exact hs.inb k hk⟩
      have hln : (putE es (prK n2) (PyData.bool true)).length = es.length + 1 := by
        rw [put_new a5, List.length_append]
        rfl
      have hl2 := hsn.len
      conv => whnf
      refine ⟨_, ?_, putE es (prK n2) (.bool true), n2, hd, 0, _, _, _, _, rfl, hsn, hh, by omega, rfl⟩
      rw [hln]
      omega
    · conv => whnf
      exact h _ _
end Lw
namespace Lw
open PySem PySem.Spec PyProof.Rows L2 DL
theorem SeedOk.mono {C C' : Int} {ds : List PyData} (h : SeedOk C ds) (hC : C ≤ C') : SeedOk C' ds := by
  obtain ⟨a, b, c, s, rfl, ha, ⟨h0, h1⟩, hs⟩ := h
  exact ⟨a, b, c, s, rfl, ha, ⟨h0, by omega⟩, hs⟩
def phi_l_sign : FS := fun ts Q => ∃ p ds C, ∃ kind row col cols : Nat, ts = [.lst p ds, tI kind, tI row, tI col, tI cols] ∧ SeedOk C ds ∧ C ≤ 2 ^ 19 ∧ row < 12 ∧ col < 12 ∧ ∀ b ds', SeedOk (C + 1) ds' → Q (.fz (.bool b)) [.lst p ds', tI kind, tI row, tI col, tI cols]
def W_l_sign_4 : WS := (wRet (wAndV (wOp2 gEq (wOp2 (gI (fun i j => .int (i % j)) fun _ j => 0 < j) (wOp2 gAdd (wVar 2) (wVar 3)) (wC (.int 3))) (wC (.int 0))) (wOp2 gNe (wVar 2) (wVar 3))))
def W_l_sign_3 : WS := wSeq (wIfS (wTst (wOp2 gEq (wVar 1) (wC (.int 5)))) (wRet (wAndV (wOp2 gEq (wOp2 (gI (fun i j => .int (i % j)) fun _ j => 0 < j) (wVar 3) (wC (.int 2))) (wC (.int 1))) (wOp2 gNe (wVar 2) (wIx (wLst (wCons (wC (.int 0)) (wCons (wC (.int 2)) wNil))) (wOp2 (gI (fun i j => .int (i % j)) fun _ j => 0 < j) (wOp2 (gI (fun i j => .int (i / j)) CDiv) (wVar 3) (wC (.int 2))) (wC (.int 2))))))) wNext) W_l_sign_4
def W_l_sign_2 : WS := wSeq (wIfS (wTst (wOp2 gEq (wVar 1) (wC (.int 4)))) (wRet (wAndV (wOp2 gEq (wOp2 (gI (fun i j => .int (i % j)) fun _ j => 0 < j) (wVar 2) (wC (.int 2))) (wC (.int 1))) (wOp2 gNe (wVar 3) (wIx (wLst (wCons (wOp2 (gI0 fun i j => .int (i - j)) (wVar 4) (wC (.int 1))) (wCons (wC (.int 0)) wNil))) (wOp2 (gI (fun i j => .int (i % j)) fun _ j => 0 < j) (wOp2 (gI (fun i j => .int (i / j)) CDiv) (wVar 2) (wC (.int 2))) (wC (.int 2))))))) wNext) W_l_sign_3
def W_l_sign_1 : WS := wSeq (wIfS (wTst (wOp2 gEq (wVar 1) (wC (.int 3)))) (wRet (wC (.bool false))) wNext) W_l_sign_2
def W_l_sign_0 : WS := wSeq (wIfS (wTst (wOp2 (gI0 fun i j => .bool (decide (i < j))) (wVar 1) (wC (.int 3)))) (wRet (wOp2 gEq (wCall 2 [true, false] phi_l_draw (wCons (wVar 0) (wCons (wIx (wLst (wCons (wC (.int 2)) (wCons (wC (.int 3)) (wCons (wC (.int 5)) wNil)))) (wVar 1)) wNil))) (wC (.int 0)))) wNext) W_l_sign_1
def W_l_sign : WS := W_l_sign_0

theorem v_l_sign (ts : List OT) (Q : OT → List OT → Prop) (h : phi_l_sign ts Q) : W_l_sign (endsF 5 ts Q) (startR 5 ts) := by
  obtain ⟨p, ds, C, kind, row, col, cols, rfl, hds, hC, hr, hc, h⟩ := h
  have hh : ∀ b, Q (.fz (.bool b)) [.lst p ds, tI kind, tI row, tI col, tI cols] := fun b => h b ds (hds.mono (by omega))
  have hb : ∀ (b : Bool) (P : Bool → Prop), P true → P false → P b := fun b P h1 h2 => by cases b <;> assumption
  show W_l_sign _ [some (.lst p ds), some (tI kind), some (tI row), some (tI col), some (tI cols)]
  conv => whnf
  refine bmd (fun h1 => ?_) (fun h1 => ?_)
  · obtain ⟨m, hm, e⟩ := atI_map PyData.int [2, 3, 5] kind (by omega) (by show (kind : Int) < 3; omega)
    have e : atI [PyData.int 2, PyData.int 3, PyData.int 5] kind = some (.int m) := e
    conv => whnf
    intro q
    conv => whnf
    rw [e]
    have hm2 : 0 < m ∧ m < 2 ^ 20 := by
      simp only [List.mem_cons, List.not_mem_nil, or_false] at hm
      omega
    refine ⟨p, ds, C, m, rfl, hds, by omega, hm2, fun n ds' h0 h1 hds' => ?_⟩
    conv => whnf
    exact ⟨rfl, h _ ds' hds'⟩
  · conv => whnf
    refine bmd (fun h3 => ?_) (fun h3 => ?_)
    · conv => whnf
      exact ⟨rfl, hh _⟩
    · conv => whnf
      refine bmd (fun h4 => ?_) (fun h4 => ?_)
      · conv => whnf
        refine ⟨by show (0 : Int) < _; decide, ?_⟩
        conv => whnf
        refine bmd (fun _ => ?_) (fun _ => ?_)
        · obtain ⟨m, hm, e⟩ := atI_map PyData.int [(cols : Int) - 1, 0] ((row : Int) / 2 % 2) (by omega) (by show _ < (2 : Int); omega)
          have e : atI [PyData.int ((cols : Int) - 1), PyData.int 0] ((row : Int) / 2 % 2) = some (.int m) := e
          conv => whnf
          intro q
          conv => whnf
          refine ⟨⟨by decide, by omega⟩, ?_⟩
          conv => whnf
          refine ⟨by show (0 : Int) < _; decide, ?_⟩
          conv => whnf
          rw [e]
          conv => whnf
          exact ⟨rfl, hh _⟩
        · conv => whnf
          exact ⟨rfl, hh _⟩
      · conv => whnf
        refine bmd (fun h5 => ?_) (fun h5 => ?_)
        · conv => whnf
          refine ⟨by show (0 : Int) < _; decide, ?_⟩
          conv => whnf
          refine bmd (fun _ => ?_) (fun _ => ?_)
          · obtain ⟨m, hm, e⟩ := atI_map PyData.int [(0 : Int), 2] ((col : Int) / 2 % 2) (by omega) (by show _ < (2 : Int); omega)
            have e : atI [PyData.int 0, PyData.int 2] ((col : Int) / 2 % 2) = some (.int m) := e
            conv => whnf
            intro q
            conv => whnf
            refine ⟨⟨by decide, by omega⟩, ?_⟩
            conv => whnf
            refine ⟨by show (0 : Int) < _; decide, ?_⟩
            conv => whnf
            rw [e]
            conv => whnf
            exact ⟨rfl, hh _⟩
          · conv => whnf
            exact ⟨rfl, hh _⟩
        · conv => whnf
          refine ⟨by show (0 : Int) < _; decide, ?_⟩
          conv => whnf
          refine bmd (fun _ => ?_) (fun _ => ?_)
          · conv => whnf
            exact ⟨rfl, hh _⟩
          · conv => whnf
            exact ⟨rfl, hh _⟩
end Lw
namespace Lw
open PySem PySem.Spec PyProof.Rows L2 DL
theorem atI_mem {ds : List PyData} {n : Int} (h0 : 0 ≤ n) (h1 : n < ds.length) : ∃ d, d ∈ ds ∧ atI ds n = some d := by
  obtain ⟨j, rfl⟩ : ∃ j : Nat, n = j := ⟨n.toNat, by omega⟩
  have hj : j < ds.length := by omega
  exact ⟨ds[j], List.getElem_mem hj, atI_nat (by simp [hj])⟩
theorem strsOf_sg : ∀ zs : List Str, strsOf (strsD zs) = some zs
  | [] => rfl
  | n :: ns => by
    show (strsOf (strsD ns)).map (n :: ·) = _
    rw [strsOf_sg ns]
    rfl
theorem join_empty : ∀ zs : List Str, (∀ z ∈ zs, SignOk z ∧ z.length = 1) → SignOk (Txt.join (Str.ofString "") zs) ∧ (Txt.join (Str.ofString "") zs).length = zs.length := by
  have key : ∀ zs : List Str, cs (Str.join (Str.ofString "") zs) = (zs.map cs).flatten := by
    intro zs
    induction zs with
    | nil => rfl
    | cons z r ih =>
      cases r with
      | nil => show cs z = _; simp
      | cons y r =>
        show cs (z ++ Str.ofString "" ++ Str.join (Str.ofString "") (y :: r)) = _
        rw [show cs (z ++ Str.ofString "" ++ Str.join (Str.ofString "") (y :: r)) = cs z ++ cs (Str.ofString "") ++ cs (Str.join (Str.ofString "") (y :: r)) by
          rw [← TL.tl_append, ← TL.tl_append], ih]
        show cs z ++ [] ++ _ = _
        simp
  intro zs h
  rw [TL.join_eq]
  refine ⟨fun x hx => ?_, ?_⟩
  · rw [key] at hx
    obtain ⟨l, hl, hx⟩ := List.mem_flatten.mp hx
    obtain ⟨z, hz, rfl⟩ := List.mem_map.mp hl
    exact (h z hz).1 x hx
  · rw [← cs_len, key]
    clear key
    induction zs with
    | nil => rfl
    | cons z r ih =>
      have := ih fun z hz => h z (List.mem_cons_of_mem _ hz)
      have h1 := (h z (by simp)).2
      rw [List.map_cons, List.flatten_cons, List.length_append, this, cs_len, h1, List.length_cons]
      omega
def SgD (d : PyData) : Prop := d = .str (Str.ofString ".") ∨ d = .str (Str.ofString "#")
structure GL (R C : Nat) (dss : List (List PyData)) : Prop where
  rows : dss.length = R
  cols : ∀ ds ∈ dss, ds.length = C ∧ ∀ d ∈ ds, SgD d
theorem v_sg {ds : List PyData} (h : ∀ d ∈ ds, SgD d) : ∃ ys : List Str, strsOf ds = some ys ∧ ys.length = ds.length ∧ ∀ y ∈ ys, SignOk y ∧ y.length = 1 := by
  induction ds with
  | nil => exact ⟨[], rfl, rfl, fun y hy => by cases hy⟩
  | cons d t ih =>
    obtain ⟨ys, e, l, a⟩ := ih fun d hd => h d (List.mem_cons_of_mem _ hd)
    have k : ∀ w : Str, SignOk w → w.length = 1 → ∃ ys : List Str, strsOf (.str w :: t) = some ys ∧ ys.length = (PyData.str w :: t).length ∧ ∀ y ∈ ys, SignOk y ∧ y.length = 1 := fun w h1 h2 => by
      refine ⟨w :: ys, ?_, by simp [l], fun y hy => ?_⟩
      · show Option.map _ (strsOf t) = _
        rw [e]
        rfl
      · rcases List.mem_cons.mp hy with rfl | q
        · exact ⟨h1, h2⟩
        · exact a y q
    rcases h d List.mem_cons_self with rfl | rfl
    · exact k _ dot_ok.1 dot_ok.2
    · exact k _ wall_ok.1 wall_ok.2
theorem sum_ones {ws : List Str} (h : ∀ y ∈ ws, y.length = 1) : (ws.map (·.length)).sum = ws.length := by
  induction ws with
  | nil => rfl
  | cons w r ih =>
    have h1 := h w (by simp)
    have := ih fun z hz => h z (List.mem_cons_of_mem _ hz)
    simp only [List.map_cons, List.sum_cons, List.length_cons]
    omega
def phi_l_grid : FS := fun ts Q => ∃ p ds C most, ts = [.lst p ds, tI most] ∧ SeedOk C ds ∧ C ≤ 2 ^ 18 ∧ (1 ≤ most ∧ most ≤ 12) ∧ ∀ rs ds', GridOk rs → SeedOk (C + 1000) ds' → Q (.fz (.tuple (strsD rs))) [.lst p ds', tI most]
def W_l_grid_b0_1 : WS := (wFor (wRng1 (wCons (wVar 2) wNil)) (gvName 6) (wSetL 5 (wVar 6) (wLc [7] (wRng1 (wCons (wVar 3) wNil)) (gvName 7) wYes (wIx (wC (.str (Str.ofString "#."))) (wCB gInt (wCons (wInT id (wTup (wCons (wVar 6) (wCons (wVar 7) wNil))) (wVar 8)) wNil))))))
def W_l_grid_b0_0 : WS := wSeq (wSet (wCall 2 [false, false] phi_l_spiral (wCons (wVar 2) (wCons (wVar 3) wNil))) 8) W_l_grid_b0_1
def W_l_grid_b1_2 : WS := (wSubb 5 (wVar 6) (wVar 7) (wIx (wC (.str (Str.ofString "#."))) (wCB gInt (wCons (wOp2 gEq (wIxx 5 (wVar 6) (wVar 7)) (wC (.str (Str.ofString "#")))) wNil))))
def W_l_grid_b1_1 : WS := wSeq (wSet (wCall 2 [true, false] phi_l_draw (wCons (wVar 0) (wCons (wVar 3) wNil))) 7) W_l_grid_b1_2
def W_l_grid_b1_0 : WS := wSeq (wSet (wCall 2 [true, false] phi_l_draw (wCons (wVar 0) (wCons (wVar 2) wNil))) 6) W_l_grid_b1_1
def W_l_grid_8 : WS := (wRet (wTupOf (wCons (wLc [10] (wIterA (wVar 5)) (gvName 10) wYes (wJoin (wC (.str (Str.ofString ""))) (wVar 10))) wNil)))
def W_l_grid_7 : WS := wSeq (wFor (wRng1 (wCons (wCall 2 [true, false] phi_l_draw (wCons (wVar 0) (wCons (wC (.int 3)) wNil))) wNil)) (gvName 9) W_l_grid_b1_0) W_l_grid_8
def W_l_grid_6 : WS := wSeq (wIfS (wTst (wOp2 gEq (wVar 4) (wC (.int 8)))) (wSet (wRevL 5) 5) wNext) W_l_grid_7
def W_l_grid_5 : WS := wSeq (wIfS (wTst (wOp2 (gI0 fun i j => .bool (decide (j < i))) (wVar 4) (wC (.int 6)))) W_l_grid_b0_0 wNext) W_l_grid_6
def W_l_grid_4 : WS := wSeq (wFor (wRng1 (wCons (wVar 2) wNil)) (gvName 6) (wAppLL 5 (wLc [7] (wRng1 (wCons (wVar 3) wNil)) (gvName 7) wYes (wIx (wC (.str (Str.ofString ".#"))) (wCB gInt (wCons (wCall 5 [true, false, false, false, false] phi_l_sign (wCons (wVar 0) (wCons (wVar 4) (wCons (wVar 6) (wCons (wVar 7) (wCons (wVar 3) wNil)))))) wNil)))))) W_l_grid_5
def W_l_grid_3 : WS := wSeq (wSet (wLL0 (wLst wNil)) 5) W_l_grid_4
def W_l_grid_2 : WS := wSeq (wSet (wCall 2 [true, false] phi_l_draw (wCons (wVar 0) (wCons (wC (.int 9)) wNil))) 4) W_l_grid_3
def W_l_grid_1 : WS := wSeq (wSet (wIx (wLst (wCons (wOp2 gAdd (wC (.int 1)) (wCall 2 [true, false] phi_l_draw (wCons (wVar 0) (wCons (wVar 1) wNil)))) (wCons (wVar 1) wNil))) (wCall 2 [true, false] phi_l_draw (wCons (wVar 0) (wCons (wC (.int 2)) wNil)))) 3) W_l_grid_2
def W_l_grid_0 : WS := wSeq (wSet (wIx (wLst (wCons (wOp2 gAdd (wC (.int 1)) (wCall 2 [true, false] phi_l_draw (wCons (wVar 0) (wCons (wVar 1) wNil)))) (wCons (wVar 1) wNil))) (wCall 2 [true, false] phi_l_draw (wCons (wVar 0) (wCons (wC (.int 2)) wNil)))) 2) W_l_grid_1
def W_l_grid : WS := W_l_grid_0

theorem v_g8 (p : Addr) (ds0 ds : List PyData) (most kind : Int) (Q : OT → List OT → Prop) (q : Addr) (R C : Nat) (dss : List (List PyData)) (x6 x7 x8 x9 : Option OT) (hR : R ≤ 12) (hC : C ≤ 12) (g : GL R C dss)
    (h : ∀ rs, RowsOk R C rs → Q (.fz (.tuple (strsD rs))) [.lst p ds, tI most]) :
    W_l_grid_8 (endsF 11 [.lst p ds0, tI most] Q) [some (.lst p ds), some (tI most), some (tI R), some (tI C), some (tI kind), some (.lls q dss), x6, x7, x8, x9, none] := by
  have hz : sizeLine = 16777216 := sizeLine_eq
  conv => whnf
  refine ⟨⟨trivial, trivial⟩, fun i zs ρ => ∃ rs a, ρ = [some (.lst p ds), some (tI most), some (tI R), some (tI C), some (tI kind), some (.fz (.list (dss.map .list))), x6, x7, x8, x9, a] ∧ zs = strsD rs ∧ RowsOk i C rs, ⟨[], none, rfl, rfl, rfl, fun r hr => by cases hr⟩, ?_, ?_⟩
  · rintro i y zs ρ hy ⟨rs, a, rfl, rfl, hrs⟩
    rw [List.getElem?_map] at hy
    cases e : dss[i]? with
    | none => rw [e] at hy; cases hy
    | some ds =>
      rw [e] at hy
      cases hy
      obtain ⟨hi, hds⟩ := List.getElem?_eq_some_iff.mp e
      obtain ⟨c1, c2⟩ := g.cols ds (hds ▸ List.getElem_mem hi)
      obtain ⟨ys, e1, l1, a1⟩ := v_sg c2
      conv => whnf
      rw [e1]
      obtain ⟨j1, j2⟩ := join_empty ys a1
      conv => whnf
      refine ⟨?_, ?_⟩
      · show (ys.map (·.length)).sum + ys.length * (Str.ofString "").length ≤ 16777216
        rw [sum_ones fun y hy => (a1 y hy).2, show (Str.ofString "").length = 0 from rfl]
        omega
      · conv => whnf
        refine ⟨?_, ?_⟩
        · show (strsD rs).length < sizeLine
          have := hrs.1
          have := g.rows
          rw [List.length_map]
          omega
        · exact ⟨rs ++ [Txt.join (Str.ofString "") ys], _, rfl, strs_app _ _, rows_app hrs (by rw [j2, l1, c1]) j1⟩
  · rintro zs ρ ⟨rs, a, rfl, rfl, hrs⟩ p
    rw [List.length_map, g.rows] at hrs
    conv => whnf
    exact ⟨rfl, h rs hrs⟩
end Lw
namespace Lw
open PySem PySem.Spec PyProof.Rows L2 DL
theorem ixN_in {n : Nat} {k : Int} (h0 : 0 ≤ k) (h1 : k < n) : ixN n k = some k.toNat := by
  unfold ixN
  simp [h0]
  omega
theorem GL.cellAt {R C : Nat} {dss : List (List PyData)} (g : GL R C dss) {a b : Int} (ha : 0 ≤ a ∧ a < R) (hb : 0 ≤ b ∧ b < C) :
    ∃ ds d, atI dss a = some ds ∧ atI ds b = some d ∧ SgD d ∧ ixN dss.length a = some a.toNat ∧ dss[a.toNat]? = some ds ∧ ixN ds.length b = some b.toNat ∧ ∀ x, SgD x → GL R C (dss.set a.toNat (ds.set b.toNat x)) := by
  obtain ⟨j, rfl⟩ : ∃ j : Nat, a = j := ⟨a.toNat, by omega⟩
  obtain ⟨k, rfl⟩ : ∃ k : Nat, b = k := ⟨b.toNat, by omega⟩
  have hj : j < dss.length := by rw [g.rows]; omega
  obtain ⟨c1, c2⟩ := g.cols dss[j] (List.getElem_mem hj)
  have hk : k < dss[j].length := by rw [c1]; omega
  have e1 : atI dss (j : Int) = some dss[j] := atI_nat (by simp [hj])
  have e2 : atI dss[j] (k : Int) = some dss[j][k] := atI_nat (by simp [hk])
  refine ⟨dss[j], dss[j][k], e1, e2, c2 _ (List.getElem_mem hk), ixN_in (by omega) (by omega), by simp [hj], ixN_in (by omega) (by omega), fun x hx => ⟨by rw [List.length_set]; exact g.rows, fun ds hd => ?_⟩⟩
  rcases List.mem_or_eq_of_mem_set hd with hd | rfl
  · exact g.cols ds hd
  · refine ⟨by rw [List.length_set]; exact c1, fun d hd => ?_⟩
    rcases List.mem_or_eq_of_mem_set hd with hd | rfl
    · exact c2 d hd
    · exact hx
theorem v_g7 (p : Addr) (ds0 ds : List PyData) (most kind B : Int) (Q : OT → List OT → Prop) (q : Addr) (R C : Nat) (dss : List (List PyData)) (x6 x7 x8 : Option OT) (hR : 1 ≤ R ∧ R ≤ 12) (hC : 1 ≤ C ∧ C ≤ 12) (g : GL R C dss) (hd : SeedOk B ds) (hB : B ≤ 2 ^ 18 + 500)
    (h : ∀ rs ds', RowsOk R C rs → SeedOk (B + 10) ds' → Q (.fz (.tuple (strsD rs))) [.lst p ds', tI most]) :
    W_l_grid_7 (endsF 11 [.lst p ds0, tI most] Q) [some (.lst p ds), some (tI most), some (tI R), some (tI C), some (tI kind), some (.lls q dss), x6, x7, x8, none, none] := by
  have hz : sizeLine = 16777216 := sizeLine_eq
  conv => whnf
  refine ⟨p, ds, B, 3, rfl, hd, by omega, ⟨by omega, by omega⟩, fun n ds1 h0 h1 hd1 => ?_⟩
  conv => whnf
  refine ⟨⟨by omega, by omega⟩, ?_⟩
  conv => whnf
  refine ⟨fun i ρ => ∃ ds dss x6 x7 x9, ρ = [some (.lst p ds), some (tI most), some (tI R), some (tI C), some (tI kind), some (.lls q dss), x6, x7, x8, x9, none] ∧ GL R C dss ∧ SeedOk (B + 1 + 2 * i) ds, ⟨ds1, dss, x6, x7, none, rfl, g, hd1.mono (by omega)⟩, ?_, ?_⟩
  · rintro i y ρ hy ⟨ds2, dss2, y6, y7, y9, rfl, g2, hd2⟩
    obtain ⟨rfl, hi⟩ := rng_get hy
    conv => whnf
    refine ⟨p, ds2, _, (R : Int), rfl, hd2, by omega, ⟨by omega, by omega⟩, fun r ds3 r0 r1 hd3 => ?_⟩
    conv => whnf
    refine ⟨p, ds3, _, (C : Int), rfl, hd3, by omega, ⟨by omega, by omega⟩, fun c ds4 c0 c1 hd4 => ?_⟩
    obtain ⟨es, d, e1, e2, hsg, e3, e4, e5, gset⟩ := g2.cellAt ⟨r0, r1⟩ ⟨c0, c1⟩
    conv => whnf
    rw [e1]
    conv => whnf
    rw [e2]
    have fin : ∀ w, SgD w → ∃ ds dss' x6 x7 x9, [some (.lst p ds4), some (tI most), some (tI R), some (tI C), some (tI kind), some (.lls q (dss2.set r.toNat (es.set c.toNat w))), some (tI r), some (tI c), x8, some (tI (0 + i)), none] = [some (.lst p ds), some (tI most), some (tI R), some (tI C), some (tI kind), some (.lls q dss'), x6, x7, x8, x9, none] ∧ GL R C dss' ∧ SeedOk (B + 1 + 2 * (i + 1 : Nat)) ds := fun w hw => ⟨ds4, _, _, _, _, rfl, gset w hw, hd4.mono (by omega)⟩
    rcases hsg with rfl | rfl
    · conv => whnf
      refine ⟨by show 2 ≤ sizeLine; omega, ?_⟩
      conv => whnf
      rw [e3]
      conv => whnf
      rw [e4]
      conv => whnf
      rw [e5]
      exact fin _ (.inr rfl)
    · conv => whnf
      refine ⟨by show 2 ≤ sizeLine; omega, ?_⟩
      conv => whnf
      rw [e3]
      conv => whnf
      rw [e4]
      conv => whnf
      rw [e5]
      exact fin _ (.inl rfl)
  · rintro ρ ⟨ds2, dss2, y6, y7, y9, rfl, g2, hd2⟩
    rw [rng_len] at hd2
    refine v_g8 p ds0 ds2 most kind Q q R C dss2 y6 y7 x8 y9 hR.2 hC.2 g2 fun rs hrs => h rs ds2 hrs (hd2.mono ?_)
    have : n.toNat ≤ 2 := by omega
    omega
end Lw
namespace Lw
open PySem PySem.Spec PyProof.Rows L2 DL
theorem GL.rev {R C : Nat} {dss : List (List PyData)} (g : GL R C dss) : GL R C dss.reverse := ⟨by rw [List.length_reverse]; exact g.rows, fun ds h => g.cols ds (List.mem_reverse.mp h)⟩
theorem v_g6 (p : Addr) (ds0 ds : List PyData) (most kind B : Int) (Q : OT → List OT → Prop) (q : Addr) (R C : Nat) (dss : List (List PyData)) (x6 x7 x8 : Option OT) (hR : 1 ≤ R ∧ R ≤ 12) (hC : 1 ≤ C ∧ C ≤ 12) (g : GL R C dss) (hd : SeedOk B ds) (hB : B ≤ 2 ^ 18 + 500)
    (h : ∀ rs ds', RowsOk R C rs → SeedOk (B + 10) ds' → Q (.fz (.tuple (strsD rs))) [.lst p ds', tI most]) :
    W_l_grid_6 (endsF 11 [.lst p ds0, tI most] Q) [some (.lst p ds), some (tI most), some (tI R), some (tI C), some (tI kind), some (.lls q dss), x6, x7, x8, none, none] := by
  conv => whnf
  refine bmd (fun _ => ?_) (fun _ => ?_)
  · conv => whnf
    intro q2
    exact v_g7 p ds0 ds most kind B Q q2 R C dss.reverse x6 x7 x8 hR hC g.rev hd hB h
  · exact v_g7 p ds0 ds most kind B Q q R C dss x6 x7 x8 hR hC g hd hB h
/-- a row set anew -/
theorem GL.row {R C : Nat} {dss : List (List PyData)} (g : GL R C dss) (j : Nat) {ds : List PyData} (h1 : ds.length = C) (h2 : ∀ d ∈ ds, SgD d) : GL R C (dss.set j ds) := ⟨by rw [List.length_set]; exact g.rows, fun es he => by
  rcases List.mem_or_eq_of_mem_set he with he | rfl
  · exact g.cols es he
  · exact ⟨h1, h2⟩⟩
theorem v_g5 (p : Addr) (ds0 ds : List PyData) (most kind B : Int) (Q : OT → List OT → Prop) (q : Addr) (R C : Nat) (dss : List (List PyData)) (x6 x7 : Option OT) (hR : 1 ≤ R ∧ R ≤ 12) (hC : 1 ≤ C ∧ C ≤ 12) (g : GL R C dss) (hd : SeedOk B ds) (hB : B ≤ 2 ^ 18 + 500) (f7 : isF x7)
    (h : ∀ rs ds', RowsOk R C rs → SeedOk (B + 10) ds' → Q (.fz (.tuple (strsD rs))) [.lst p ds', tI most]) :
    W_l_grid_5 (endsF 11 [.lst p ds0, tI most] Q) [some (.lst p ds), some (tI most), some (tI R), some (tI C), some (tI kind), some (.lls q dss), x6, x7, none, none, none] := by
  have hz : sizeLine = 16777216 := sizeLine_eq
  conv => whnf
  refine bmd (fun _ => ?_) (fun _ => ?_)
  · conv => whnf
    refine ⟨R, C, rfl, hR.2, hC.2, fun q8 es => ?_⟩
    show W_l_grid_b0_1 _ [some (.lst p ds), some (tI most), some (tI R), some (tI C), some (tI kind), some (.lls q dss), x6, x7, some (.ox q8 (.dt es)), none, none]
    conv => whnf
    refine ⟨⟨by omega, by omega⟩, ?_⟩
    conv => whnf
    refine ⟨fun i ρ => ∃ dss x6 x7, ρ = [some (.lst p ds), some (tI most), some (tI R), some (tI C), some (tI kind), some (.lls q dss), x6, x7, some (.ox q8 (.dt es)), none, none] ∧ GL R C dss ∧ isF x7, ⟨dss, x6, x7, rfl, g, f7⟩, ?_, ?_⟩
    · rintro i y ρ hy ⟨dss2, y6, y7, rfl, g2, f7⟩
      obtain ⟨rfl, hi⟩ := rng_get hy
      conv => whnf
      refine ⟨⟨by omega, by omega⟩, ?_⟩
      conv => whnf
      refine ⟨⟨by rcases f7 with e | ⟨v, e⟩ <;> rw [e] <;> trivial, trivial⟩, fun j zs ρ => ∃ x7, ρ = [some (.lst p ds), some (tI most), some (tI R), some (tI C), some (tI kind), some (.lls q dss2), some (tI (0 + i)), x7, some (.ox q8 (.dt es)), none, none] ∧ zs.length = j ∧ ∀ d ∈ zs, SgD d, ⟨none, rfl, rfl, fun d hd => by cases hd⟩, ?_, ?_⟩
      · rintro j y zs ρ hy ⟨y7', rfl, hl, hs⟩
        obtain ⟨rfl, hj⟩ := rng_get hy
        have hjC : j < C := by omega
        conv => whnf
        obtain ⟨b, hb⟩ : ∃ b, (lookK es [0 + (i : Int), 0 + (j : Int)]).isSome = b := ⟨_, rfl⟩
        rw [hb]
        have fin : ∀ w, SgD w → zs.length < sizeLine ∧ ∃ x7, [some (.lst p ds), some (tI most), some (tI R), some (tI C), some (tI kind), some (.lls q dss2), some (tI (0 + i)), some (tI (0 + j)), some (.ox q8 (.dt es)), none, none] = [some (.lst p ds), some (tI most), some (tI R), some (tI C), some (tI kind), some (.lls q dss2), some (tI (0 + i)), x7, some (.ox q8 (.dt es)), none, none] ∧ (zs ++ [w]).length = j + 1 ∧ ∀ d ∈ zs ++ [w], SgD d := fun w hw => ⟨by omega, _, rfl, by rw [List.length_append, hl]; rfl, fun d hd => by
          rcases List.mem_append.mp hd with hd | hd
          · exact hs d hd
          · rw [List.mem_singleton.mp hd]; exact hw⟩
        cases b with
        | true =>
          conv => whnf
          refine ⟨by show 2 ≤ sizeLine; omega, ?_⟩
          exact fin _ (.inl rfl)
        | false =>
          conv => whnf
          refine ⟨by show 2 ≤ sizeLine; omega, ?_⟩
          exact fin _ (.inr rfl)
      · rintro zs ρ ⟨y7', rfl, hl, hs⟩ q9
        rw [rng_len] at hl
        have hil : i < R := by omega
        conv => whnf
        rw [ixN_in (by omega) (by rw [g2.rows]; omega)]
        exact ⟨_, _, y7, rfl, g2.row _ (by rw [hl]; simp) hs, f7⟩
    · rintro ρ ⟨dss2, y6, y7, rfl, g2, f7⟩
      exact v_g6 p ds0 ds most kind B Q q R C dss2 y6 y7 _ hR hC g2 hd hB h
  · exact v_g6 p ds0 ds most kind B Q q R C dss x6 x7 none hR hC g hd hB h
end Lw
namespace Lw
open PySem PySem.Spec PyProof.Rows L2 DL
theorem v_g4 (p : Addr) (ds0 ds : List PyData) (most B : Int) (kind : Nat) (Q : OT → List OT → Prop) (q : Addr) (R C : Nat) (hR : 1 ≤ R ∧ R ≤ 12) (hC : 1 ≤ C ∧ C ≤ 12) (hd : SeedOk B ds) (hB : B ≤ 2 ^ 18 + 100)
    (h : ∀ rs ds', RowsOk R C rs → SeedOk (B + 400) ds' → Q (.fz (.tuple (strsD rs))) [.lst p ds', tI most]) :
    W_l_grid_4 (endsF 11 [.lst p ds0, tI most] Q) [some (.lst p ds), some (tI most), some (tI R), some (tI C), some (tI kind), some (.lls q []), none, none, none, none, none] := by
  have hz : sizeLine = 16777216 := sizeLine_eq
  conv => whnf
  refine ⟨⟨by omega, by omega⟩, ?_⟩
  conv => whnf
  refine ⟨fun i ρ => ∃ ds dss x6 x7, ρ = [some (.lst p ds), some (tI most), some (tI R), some (tI C), some (tI kind), some (.lls q dss), x6, x7, none, none, none] ∧ GL i C dss ∧ SeedOk (B + 12 * i) ds ∧ isF x7, ⟨ds, [], none, none, rfl, ⟨rfl, fun es he => by cases he⟩, hd.mono (by omega), isF_n⟩, ?_, ?_⟩
  · rintro i y ρ hy ⟨ds2, dss2, y6, y7, rfl, g2, hd2, f7⟩
    obtain ⟨rfl, hi⟩ := rng_get hy
    have hiR : i < R := by omega
    conv => whnf
    refine ⟨⟨by omega, by omega⟩, ?_⟩
    conv => whnf
    refine ⟨⟨by rcases f7 with e | ⟨v, e⟩ <;> rw [e] <;> trivial, trivial⟩, fun j zs ρ => ∃ ds x7, ρ = [some (.lst p ds), some (tI most), some (tI R), some (tI C), some (tI kind), some (.lls q dss2), some (tI (0 + i)), x7, none, none, none] ∧ SeedOk (B + 12 * i + j) ds ∧ zs.length = j ∧ ∀ d ∈ zs, SgD d, ⟨ds2, none, rfl, hd2.mono (by omega), rfl, fun d hd => by cases hd⟩, ?_, ?_⟩
    · rintro j y zs ρ hy ⟨ds3, y7', rfl, hd3, hl, hs⟩
      obtain ⟨rfl, hj⟩ := rng_get hy
      have hjC : j < C := by omega
      conv => whnf
      have e0 : ∀ n : Nat, (0 : Int) + n = n := fun n => by omega
      refine ⟨p, ds3, _, kind, i, j, C, by rw [e0, e0], hd3, by omega, by omega, by omega, fun b ds4 hd4 => ?_⟩
      have fin : ∀ w, SgD w → zs.length < sizeLine ∧ ∃ ds x7, [some (.lst p ds4), some (tI most), some (tI R), some (tI C), some (tI kind), some (.lls q dss2), some (tI (0 + i)), some (tI (0 + j)), none, none, none] = [some (.lst p ds), some (tI most), some (tI R), some (tI C), some (tI kind), some (.lls q dss2), some (tI (0 + i)), x7, none, none, none] ∧ SeedOk (B + 12 * i + (j + 1 : Nat)) ds ∧ (zs ++ [w]).length = j + 1 ∧ ∀ d ∈ zs ++ [w], SgD d := fun w hw => ⟨by omega, _, _, rfl, hd4.mono (by omega), by rw [List.length_append, hl]; rfl, fun d hd => by
        rcases List.mem_append.mp hd with hd | hd
        · exact hs d hd
        · rw [List.mem_singleton.mp hd]; exact hw⟩
      cases b with
      | true =>
        conv => whnf
        refine ⟨by show 2 ≤ sizeLine; omega, ?_⟩
        exact fin _ (.inr rfl)
      | false =>
        conv => whnf
        refine ⟨by show 2 ≤ sizeLine; omega, ?_⟩
        exact fin _ (.inl rfl)
    · rintro zs ρ ⟨ds3, y7', rfl, hd3, hl, hs⟩ q9
      rw [rng_len] at hl hd3
      have eC : (C : Int).toNat = C := by simp
      rw [eC] at hl hd3
      conv => whnf
      refine ⟨by rw [g2.rows]; omega, ds3, dss2 ++ [zs], _, y7, rfl, ⟨by rw [List.length_append, g2.rows]; rfl, fun es he => ?_⟩, hd3.mono (by omega), f7⟩
      rcases List.mem_append.mp he with he | he
      · exact g2.cols es he
      · rw [List.mem_singleton.mp he]; exact ⟨hl, hs⟩
  · rintro ρ ⟨ds2, dss2, y6, y7, rfl, g2, hd2, f7⟩
    rw [rng_len] at g2 hd2
    have eR : (R : Int).toNat = R := by simp
    rw [eR] at g2 hd2
    exact v_g5 p ds0 ds2 most kind (B + 12 * R) Q q R C dss2 y6 y7 hR hC g2 hd2 (by omega) f7 fun rs ds' h1 h2 => h rs ds' h1 (h2.mono (by omega))
theorem at2 {a b : Int} {n : Int} (h0 : 0 ≤ n) (h1 : n < 2) {B : Int} (ha : 1 ≤ a ∧ a ≤ B) (hb : 1 ≤ b ∧ b ≤ B) : ∃ v : Nat, atI [PyData.int a, .int b] n = some (.int v) ∧ 1 ≤ v ∧ (v : Int) ≤ B := by
  obtain ⟨d, hd, e⟩ := atI_mem (ds := [PyData.int a, .int b]) h0 (by simpa using h1)
  simp only [List.mem_cons, List.not_mem_nil, or_false] at hd
  rcases hd with rfl | rfl
  · exact ⟨a.toNat, by rw [e]; congr 2; omega, by omega, by omega⟩
  · exact ⟨b.toNat, by rw [e]; congr 2; omega, by omega, by omega⟩
theorem v_l_grid (ts : List OT) (Q : OT → List OT → Prop) (h : phi_l_grid ts Q) : W_l_grid (endsF 11 ts Q) (startR 11 ts) := by
  obtain ⟨p, ds0, B, most, rfl, hd, hB, ⟨hm1, hm2⟩, h⟩ := h
  have hz : sizeLine = 16777216 := sizeLine_eq
  show W_l_grid _ [some (.lst p ds0), some (tI most), none, none, none, none, none, none, none, none, none]
  conv => whnf
  refine ⟨p, _, B, most, rfl, hd, by omega, ⟨by omega, by omega⟩, fun n1 ds1 hn1 hn1' hd1 => ?_⟩
  conv => whnf
  intro p1
  conv => whnf
  refine ⟨p, _, _, 2, rfl, hd1, by omega, ⟨by omega, by omega⟩, fun n3 ds3 hn3 hn3' hd3 => ?_⟩
  obtain ⟨R, eR, hR1, hR2⟩ := at2 (a := 1 + n1) (b := most) hn3 hn3' (B := 12) (by omega) (by omega)
  conv => whnf
  rw [eR]
  show W_l_grid_1 _ [some (.lst p ds3), some (tI most), some (tI R), none, none, none, none, none, none, none, none]
  clear eR hn3 hn3' hn1 hn1' hd1
  conv => whnf
  refine ⟨p, _, _, most, rfl, hd3, by omega, ⟨by omega, by omega⟩, fun n1 ds1 hn1 hn1' hd1 => ?_⟩
  conv => whnf
  intro p2
  conv => whnf
  refine ⟨p, _, _, 2, rfl, hd1, by omega, ⟨by omega, by omega⟩, fun n3 ds3 hn3 hn3' hd3 => ?_⟩
  obtain ⟨C, eC, hC1, hC2⟩ := at2 (a := 1 + n1) (b := most) hn3 hn3' (B := 12) (by omega) (by omega)
  conv => whnf
  rw [eC]
  show W_l_grid_2 _ [some (.lst p ds3), some (tI most), some (tI R), some (tI C), none, none, none, none, none, none, none]
  clear eC hn3 hn3' hn1 hn1' hd1
  conv => whnf
  refine ⟨p, _, _, 9, rfl, hd3, by omega, ⟨by omega, by omega⟩, fun way ds4 hw hw' hd4 => ?_⟩
  obtain ⟨kind, rfl⟩ : ∃ k : Nat, way = k := ⟨way.toNat, by omega⟩
  show W_l_grid_3 _ [some (.lst p ds4), some (tI most), some (tI R), some (tI C), some (tI kind), none, none, none, none, none, none]
  conv => whnf
  intro q
  exact v_g4 p ds0 ds4 most _ kind Q q R C ⟨by omega, by omega⟩ ⟨by omega, by omega⟩ hd4 (by omega) fun rs ds' h1 h2 => h rs ds' ⟨R, C, h1, by omega, by omega, by omega, by omega⟩ (h2.mono (by omega))
end Lw
namespace Lw
open PySem PySem.Spec PyProof.Rows L2 DL
/-! what a place that is not free is answered with -/
def phi_ask_free : FSX := fun ts Q Xx => ∃ rs p, ts = [tG rs, tP p] ∧ GridOk rs ∧ (p.1.natAbs < 10 ^ 18 ∧ p.2.natAbs < 10 ^ 18) ∧ (freeB rs p = true → Q (.fz .none) ts) ∧ (freeB rs p = false → Xx "NoPlace" (some ("place", prD p)) ts)
def W_ask_free_0 : WS := (wIfS (wNot (wTst (wCall 2 [false, false] phi_is_free (wCons (wVar 0) (wCons (wVar 1) wNil))))) (wRaiseK "NoPlace" "place" okP (wVar 1)) wNext)
def W_ask_free : WS := W_ask_free_0

theorem v_ask_free (ts : List OT) (Q : OT → List OT → Prop) (Xx : Str → Kpt → List OT → Prop) (h : phi_ask_free ts Q Xx) : W_ask_free (endsFX 2 ts Q Xx) (startR 2 ts) := by
  obtain ⟨rs, p, rfl, hg, hp, h1, h2⟩ := h
  show W_ask_free _ [some (tG rs), some (tP p)]
  conv => whnf
  refine ⟨rs, p, rfl, hg, ?_⟩
  cases e : freeB rs p with
  | true => exact h1 e
  | false =>
    conv => whnf
    exact ⟨⟨_, _, rfl, hp.1, hp.2⟩, h2 e⟩
end Lw
namespace Lw
open PySem PySem.Spec PyProof.Rows L2 DL
/-! the table told, or refused -/
def phi_turns_from : FSX := fun ts Q Xx => ∃ rs p, ts = [tG rs, tP p] ∧ GridOk rs ∧ (p.1.natAbs < 10 ^ 18 ∧ p.2.natAbs < 10 ^ 18) ∧ (freeB rs p = true → ∀ q, Q (.ox q (.dt ((tabF rs p).map entD))) ts) ∧ (freeB rs p = false → Xx "NoPlace" (some ("place", prD p)) ts)
def W_turns_from_1 : WS := (wRet (wCall 2 [true, false] phi_turns_by_sights (wCons (wFx (wCall 1 [false] phi_sights_of (wCons (wVar 0) wNil))) (wCons (wVar 1) wNil))))
def W_turns_from_0 : WS := wSeq (wDropX (wCallX 2 [false, false] phi_ask_free (wCons (wVar 0) (wCons (wVar 1) wNil)))) W_turns_from_1
def W_turns_from : WS := W_turns_from_0

theorem v_turns_from (ts : List OT) (Q : OT → List OT → Prop) (Xx : Str → Kpt → List OT → Prop) (h : phi_turns_from ts Q Xx) : W_turns_from (endsFX 2 ts Q Xx) (startR 2 ts) := by
  obtain ⟨rs, p, rfl, hg, hp, h1, h2⟩ := h
  show W_turns_from _ [some (tG rs), some (tP p)]
  conv => whnf
  refine ⟨rs, p, rfl, hg, hp, fun hf => ?_, fun hf => ?_⟩
  · show W_turns_from_1 _ [some (tG rs), some (tP p)]
    conv => whnf
    refine ⟨rs, rfl, hg, fun q ess hs => ?_⟩
    conv => whnf
    refine ⟨rs, ess, p, rfl, hg, hs, hf, fun q1 zs hz => ?_⟩
    have hz := tabF_eq hz
    subst hz
    exact h1 hf q1
  · exact h2 hf
end Lw
namespace Lw
open PySem PySem.Spec PyProof.Rows L2 DL
/-! a place that is not free -/
def smallP (p : PI2) : Prop := p.1.natAbs < 10 ^ 18 ∧ p.2.natAbs < 10 ^ 18
def BadP (rs : List Str) (b : PI2) : Prop := freeB rs b = false ∧ smallP b
def phi_l_bad_place : FS := fun ts Q => ∃ p ds C rs, ts = [.lst p ds, tG rs] ∧ SeedOk C ds ∧ C ≤ 2 ^ 19 ∧ GridOk rs ∧ ∀ b ds', BadP rs b → SeedOk (C + 7) ds' → Q (tP b) [.lst p ds', tG rs]
def W_l_bad_place_10 : WS := (wRet (wIx (wVar 10) (wCall 2 [true, false] phi_l_draw (wCons (wVar 0) (wCons (wCB gLen (wCons (wVar 10) wNil)) wNil)))))
def W_l_bad_place_9 : WS := wSeq (wIfS (wTst (wOp2 gNe (wVar 4) (wLst wNil))) (wSet (wCat (wVar 10) (wLst (wCons (wIx (wVar 4) (wCall 2 [true, false] phi_l_draw (wCons (wVar 0) (wCons (wCB gLen (wCons (wVar 4) wNil)) wNil)))) (wCons (wIx (wVar 4) (wC (.int 0))) (wCons (wIx (wVar 4) (wNeg (wC (.int 1)))) (wCons (wIx (wVar 4) (wCall 2 [true, false] phi_l_draw (wCons (wVar 0) (wCons (wCB gLen (wCons (wVar 4) wNil)) wNil)))) wNil)))))) 10) wNext) W_l_bad_place_10
def W_l_bad_place_8 : WS := wSeq (wSet (wCat (wVar 10) (wLst (wCons (wTup (wCons (wVar 2) (wCons (wVar 3) wNil))) (wCons (wTup (wCons (wOp2 (gI0 fun i j => .int (i - j)) (wC (.int 0)) (wVar 9)) (wCons (wOp2 (gI0 fun i j => .int (i - j)) (wC (.int 0)) (wVar 9)) wNil))) wNil)))) 10) W_l_bad_place_9
def W_l_bad_place_7 : WS := wSeq (wSet (wLst (wCons (wTup (wCons (wOp2 (gI0 fun i j => .int (i - j)) (wC (.int 0)) (wVar 9)) (wCons (wVar 7) wNil))) (wCons (wTup (wCons (wOp2 gAdd (wOp2 (gI0 fun i j => .int (i - j)) (wVar 2) (wC (.int 1))) (wVar 9)) (wCons (wVar 7) wNil))) (wCons (wTup (wCons (wVar 5) (wCons (wOp2 (gI0 fun i j => .int (i - j)) (wC (.int 0)) (wVar 9)) wNil))) (wCons (wTup (wCons (wVar 5) (wCons (wOp2 gAdd (wOp2 (gI0 fun i j => .int (i - j)) (wVar 3) (wC (.int 1))) (wVar 9)) wNil))) (wCons (wTup (wCons (wNeg (wC (.int 1))) (wCons (wNeg (wC (.int 1))) wNil))) wNil)))))) 10) W_l_bad_place_8
def W_l_bad_place_6 : WS := wSeq (wSet (wIx (wLst (wCons (wC (.int 1)) (wCons (wC (.int 2)) (wCons (wOp2 gAdd (wC (.int 1)) (wCall 2 [true, false] phi_l_draw (wCons (wVar 0) (wCons (wC (.int 999980)) wNil)))) wNil)))) (wCall 2 [true, false] phi_l_draw (wCons (wVar 0) (wCons (wC (.int 3)) wNil)))) 9) W_l_bad_place_7
def W_l_bad_place_5 : WS := wSeq (wSet (wCall 2 [true, false] phi_l_draw (wCons (wVar 0) (wCons (wVar 3) wNil))) 7) W_l_bad_place_6
def W_l_bad_place_4 : WS := wSeq (wSet (wCall 2 [true, false] phi_l_draw (wCons (wVar 0) (wCons (wVar 2) wNil))) 5) W_l_bad_place_5
def W_l_bad_place_3 : WS := wSeq (wFor (wEnumA (wCons (wVar 1) wNil)) (gvTup 2 (gvCons (gvName 5) (gvCons (gvName 6) gvNil))) (wExt 4 (wLc [7, 8] (wEnumA (wCons (wVar 6) wNil)) (gvTup 2 (gvCons (gvName 7) (gvCons (gvName 8) gvNil))) (wTst (wOp2 gEq (wVar 8) (wC (.str (Str.ofString "#"))))) (wTup (wCons (wVar 5) (wCons (wVar 7) wNil)))))) W_l_bad_place_4
def W_l_bad_place_2 : WS := wSeq (wSet (wLst wNil) 4) W_l_bad_place_3
def W_l_bad_place_1 : WS := wSeq (wSet (wCB gLen (wCons (wIx (wVar 1) (wC (.int 0))) wNil)) 3) W_l_bad_place_2
def W_l_bad_place_0 : WS := wSeq (wSet (wCB gLen (wCons (wVar 1) wNil)) 2) W_l_bad_place_1
def W_l_bad_place : WS := W_l_bad_place_0

theorem small_of {a b : Int} (ha : -(10 ^ 8 : Int) ≤ a ∧ a ≤ 10 ^ 8) (hb : -(10 ^ 8 : Int) ≤ b ∧ b ≤ 10 ^ 8) : smallP (a, b) := by
  unfold smallP
  exact ⟨by show a.natAbs < 10 ^ 18; omega, by show b.natAbs < 10 ^ 18; omega⟩
theorem ps_at {ps : List PI2} {n : Int} (h0 : 0 ≤ n) (h1 : n < ps.length) : ∃ p, p ∈ ps ∧ atI (psD ps) n = some (prD p) := atI_ps h0 h1
theorem ps_last {ps : List PI2} (h : ps ≠ []) : ∃ p, p ∈ ps ∧ atI (psD ps) (-1) = some (prD p) := by
  cases e : ps.getLast? with
  | none => exact absurd (List.getLast?_eq_none_iff.mp e) h
  | some p =>
    refine ⟨p, List.mem_of_getLast? e, ?_⟩
    have hl : 0 < ps.length := List.length_pos_iff.mpr h
    rw [List.getLast?_eq_getElem?] at e
    unfold atI
    rw [List.length_map]
    have : ixN ps.length (-1) = some (ps.length - 1) := by
      unfold ixN
      simp
      omega
    rw [this]
    show (psD ps)[ps.length - 1]? = _
    rw [List.getElem?_map, e]
    rfl
theorem v_l_bad_place (ts : List OT) (Q : OT → List OT → Prop) (h : phi_l_bad_place ts Q) : W_l_bad_place (endsF 11 ts Q) (startR 11 ts) := by
  have hsz : sizeLine = 16777216 := sizeLine_eq
  obtain ⟨p, ds0, B, rs, rfl, hd, hB, hg, h⟩ := h
  obtain ⟨R, C, hrs, hR, hR2, hC, hC2⟩ := id hg
  have hlen : (strsD rs).length = R := by rw [List.length_map, hrs.1]
  show W_l_bad_place _ [some (.lst p ds0), some (tG rs), none, none, none, none, none, none, none, none, none]
  conv => whnf
  rw [hlen]
  show W_l_bad_place_1 _ [some (.lst p ds0), some (tG rs), some (tI R), none, none, none, none, none, none, none, none]
  obtain ⟨z0, _, _, ez0, hz0⟩ := row_in hrs (a := 0) ⟨by omega, by omega⟩
  conv => whnf
  rw [ez0]
  conv => whnf
  refine ⟨by rw [hz0]; omega, ?_⟩
  rw [hz0]
  show W_l_bad_place_2 _ [some (.lst p ds0), some (tG rs), some (tI R), some (tI C), none, none, none, none, none, none, none]
  conv => whnf
  intro q
  show W_l_bad_place_3 _ [some (.lst p ds0), some (tG rs), some (tI R), some (tI C), some (.lst q []), none, none, none, none, none, none]
  conv => whnf
  refine ⟨fun i ρ => ∃ ws x5 x6, ρ = [some (.lst p ds0), some (tG rs), some (tI R), some (tI C), some (.lst q (psD ws)), x5, x6, none, none, none, none] ∧ (∀ b ∈ ws, BadP rs b) ∧ ws.length ≤ 12 * i, ⟨[], none, none, rfl, fun b hb => (by cases hb), Nat.le_refl _⟩, ?_, ?_⟩
  · rintro i x ρ hx ⟨ws, x5, x6, rfl, hws, hwl⟩
    obtain ⟨d, hd', rfl⟩ := enum0 hx
    rw [List.getElem?_map] at hd'
    cases hz' : rs[i]? with
    | none => rw [hz'] at hd'; cases hd'
    | some z =>
      rw [hz'] at hd'
      cases hd'
      have hzl := (hrs.2 z (List.mem_of_getElem? hz')).1
      have hi := (List.getElem?_eq_some_iff.mp hz').1
      have hiR : i < 12 := by have := hrs.1; omega
      conv => whnf
      refine ⟨⟨trivial, trivial, trivial⟩, fun j es ρ => (∃ vs, es = psD vs ∧ (∀ b ∈ vs, BadP rs b) ∧ vs.length ≤ j) ∧ ∃ x7 x8, ρ = [some (.lst p ds0), some (tG rs), some (tI R), some (tI C), some (.lst q (psD ws)), some (tI i), some (.fz (.str z)), x7, x8, none, none], ⟨⟨[], rfl, fun b hb => (by cases hb), Nat.le_refl _⟩, none, none, rfl⟩, ?_, ?_⟩
      · rintro j y es ρ hy ⟨⟨vs, rfl, hvs, hvl⟩, y7, y8, rfl⟩
        obtain ⟨d, hd', rfl⟩ := enum0 hy
        obtain ⟨c, hc, rfl⟩ := signs_get hd'
        have hj : j < 12 := by
          have := (List.getElem?_eq_some_iff.mp hc).1
          rw [cs_len] at this
          omega
        conv => whnf
        rw [show decide ((⟨#[c]⟩ : Str) = Str.ofString "#") = decide (c = 35) from sg_eq c 35]
        refine bmd (fun h35 => ?_) (fun h35 => ?_)
        · conv => whnf
          subst h35
          refine ⟨by rw [List.length_map]; omega, ⟨vs ++ [((i : Int), (j : Int))], by simp, fun b hb => ?_, by simp; omega⟩, some (tI j), some (.fz (.str ⟨#[35]⟩)), rfl⟩
          rcases List.mem_append.mp hb with hb | hb
          · exact hvs b hb
          · rw [List.mem_singleton.mp hb]
            refine ⟨?_, small_of ⟨by omega, by omega⟩ ⟨by omega, by omega⟩⟩
            rw [free_at (by omega) (by omega) (by rw [Int.toNat_natCast]; exact hz') (by rw [Int.toNat_natCast]; exact hc)]
            rfl
        · exact ⟨⟨vs, rfl, hvs, by omega⟩, some (tI j), some (.fz (.str ⟨#[c]⟩)), rfl⟩
      · rintro es ρ ⟨⟨vs, rfl, hvs, hvl⟩, y7, y8, rfl⟩ q2
        rw [enumD_len, signs_len, hzl] at hvl
        conv => whnf
        refine ⟨by rw [List.length_map, List.length_map]; omega, ws ++ vs, some (tI i), some (.fz (.str z)), ?_, fun b hb => (List.mem_append.mp hb).elim (hws b) (hvs b), by rw [List.length_append]; omega⟩
        rw [show psD (ws ++ vs) = psD ws ++ psD vs from List.map_append ..]
        rfl
  · rintro ρ ⟨ws, x5, x6, rfl, hws, hwl⟩
    rw [enumD_len, hlen] at hwl
    have out : ∀ a b : Int, ¬ ((0 ≤ a ∧ a < R) ∧ 0 ≤ b ∧ b < C) → (-(10 ^ 8 : Int) ≤ a ∧ a ≤ 10 ^ 8) → (-(10 ^ 8 : Int) ≤ b ∧ b ≤ 10 ^ 8) → BadP rs (a, b) := fun a b h1 h2 h3 => ⟨free_out hrs h1, small_of h2 h3⟩
    show W_l_bad_place_4 _ [some (.lst p ds0), some (tG rs), some (tI R), some (tI C), some (.lst q (psD ws)), x5, x6, none, none, none, none]
    conv => whnf
    refine ⟨p, _, B, R, rfl, hd, by omega, ⟨by omega, by omega⟩, fun r ds1 hr0 hr1 hd1 => ?_⟩
    show W_l_bad_place_5 _ [some (.lst p ds1), some (tG rs), some (tI R), some (tI C), some (.lst q (psD ws)), some (tI r), x6, none, none, none, none]
    conv => whnf
    refine ⟨p, _, _, C, rfl, hd1, by omega, ⟨by omega, by omega⟩, fun c ds2 hc0 hc1 hd2 => ?_⟩
    show W_l_bad_place_6 _ [some (.lst p ds2), some (tG rs), some (tI R), some (tI C), some (.lst q (psD ws)), some (tI r), x6, some (tI c), none, none, none]
    conv => whnf
    refine ⟨p, _, _, 999980, rfl, hd2, by omega, ⟨by decide, by decide⟩, fun f ds3 hf0 hf1 hd3 => ?_⟩
    conv => whnf
    intro p1
    conv => whnf
    refine ⟨p, _, _, 3, rfl, hd3, by omega, ⟨by decide, by decide⟩, fun k ds4 hk0 hk1 hd4 => ?_⟩
    obtain ⟨far, ef, hfar0, hfar1⟩ : ∃ far : Int, atI [PyData.int 1, .int 2, .int (1 + f)] k = some (.int far) ∧ 1 ≤ far ∧ far ≤ 999980 := by
      have : k = 0 ∨ k = 1 ∨ k = 2 := by omega
      rcases this with rfl | rfl | rfl
      · exact ⟨1, rfl, by decide, by decide⟩
      · exact ⟨2, rfl, by decide, by decide⟩
      · exact ⟨1 + f, rfl, by omega, by omega⟩
    conv => whnf
    rw [ef]
    show W_l_bad_place_7 _ [some (.lst p ds4), some (tG rs), some (tI R), some (tI C), some (.lst q (psD ws)), some (tI r), x6, some (tI c), none, some (tI far), none]
    conv => whnf
    intro p2
    show W_l_bad_place_8 _ [some (.lst p ds4), some (tG rs), some (tI R), some (tI C), some (.lst q (psD ws)), some (tI r), x6, some (tI c), none, some (tI far), some (.lst p2 (psD [(0 - far, c), (R - 1 + far, c), (r, 0 - far), (r, C - 1 + far), (-1, -1)]))]
    conv => whnf
    intro p3
    conv => whnf
    refine ⟨by show (5 : Nat) + 2 ≤ _; omega, fun p4 => ?_⟩
    obtain ⟨os, hos⟩ : ∃ os : List PI2, os = [(0 - far, c), ((R : Int) - 1 + far, c), (r, 0 - far), (r, (C : Int) - 1 + far), (-1, -1), ((R : Int), (C : Int)), (0 - far, 0 - far)] := ⟨_, rfl⟩
    have hob : ∀ b ∈ os, BadP rs b := fun b hb => by
      rw [hos] at hb
      simp only [List.mem_cons, List.not_mem_nil, or_false] at hb
      rcases hb with rfl | rfl | rfl | rfl | rfl | rfl | rfl
      all_goals exact out _ _ (by omega) ⟨by omega, by omega⟩ ⟨by omega, by omega⟩
    have hol : os.length = 7 := by rw [hos]; rfl
    have tail : ∀ (os : List PI2) (q4 : Addr) (ds5 : List PyData), os ≠ [] → os.length ≤ 11 → (∀ b ∈ os, BadP rs b) → SeedOk (B + 6) ds5 → W_l_bad_place_10 (endsF 11 [.lst p ds0, tG rs] Q) [some (.lst p ds5), some (tG rs), some (tI R), some (tI C), some (.lst q (psD ws)), some (tI r), x6, some (tI c), none, some (tI far), some (.lst q4 (psD os))] := fun os q4 ds5 ho1 ho2 ho3 hd5 => by
      have hl : 0 < os.length := List.length_pos_iff.mpr ho1
      conv => whnf
      refine ⟨p, _, _, ((psD os).length : Int), rfl, hd5, by omega, ⟨by rw [List.length_map]; omega, by rw [List.length_map]; omega⟩, fun k ds6 k0 k1 hd6 => ?_⟩
      rw [List.length_map] at k1
      obtain ⟨b, hb, eb⟩ := ps_at (ps := os) k0 k1
      conv => whnf
      rw [eb]
      conv => whnf
      exact ⟨rfl, h b ds6 (ho3 b hb) (hd6.mono (by omega))⟩
    show W_l_bad_place_9 _ [some (.lst p ds4), some (tG rs), some (tI R), some (tI C), some (.lst q (psD ws)), some (tI r), x6, some (tI c), none, some (tI far), some (.lst p4 (psD [(0 - far, c), ((R : Int) - 1 + far, c), (r, 0 - far), (r, (C : Int) - 1 + far), (-1, -1), ((R : Int), (C : Int)), (0 - far, 0 - far)]))]
    rw [← hos]
    conv => whnf
    intro pn
    conv => whnf
    refine ⟨sh_psL _, rfl, ?_⟩
    rw [eqv_nilL]
    cases ws with
    | nil =>
      conv => whnf
      exact tail os p4 ds4 (fun e => by rw [e] at hol; cases hol) (by omega) hob (hd4.mono (by omega))
    | cons w0 ws =>
      have hwn : w0 :: ws ≠ [] := List.cons_ne_nil _ _
      obtain ⟨wt, hwt⟩ : ∃ wt, wt = w0 :: ws := ⟨_, rfl⟩
      rw [← hwt] at hwn hws hwl tail
      have hl : 0 < wt.length := List.length_pos_iff.mpr hwn
      have e0 : (psD (w0 :: ws)).isEmpty = false := rfl
      rw [e0, ← hwt]
      conv => whnf
      refine ⟨p, _, _, ((psD wt).length : Int), rfl, hd4, by omega, ⟨by rw [List.length_map]; omega, by rw [List.length_map]; omega⟩, fun k1 ds5 k10 k11 hd5 => ?_⟩
      rw [List.length_map] at k11
      obtain ⟨b1, hb1, e1⟩ := ps_at (ps := wt) k10 k11
      obtain ⟨b2, hb2, e2⟩ := ps_at (ps := wt) (n := 0) (by omega) (by omega)
      obtain ⟨b3, hb3, e3⟩ := ps_last hwn
      conv => whnf
      rw [e1]
      conv => whnf
      rw [e2]
      conv => whnf
      rw [e3]
      conv => whnf
      refine ⟨p, _, _, ((psD wt).length : Int), rfl, hd5, by omega, ⟨by rw [List.length_map]; omega, by rw [List.length_map]; omega⟩, fun k2 ds6 k20 k21 hd6 => ?_⟩
      rw [List.length_map] at k21
      obtain ⟨b4, hb4, e4⟩ := ps_at (ps := wt) k20 k21
      conv => whnf
      rw [e4]
      conv => whnf
      intro p5
      conv => whnf
      refine ⟨by show (psD os).length + 4 ≤ _; rw [List.length_map]; omega, fun p6 => ?_⟩
      have := tail (os ++ [b1, b2, b3, b4]) p6 ds6 (by simp) (by simp [hol]) (fun b hb => ?_) (hd6.mono (by omega))
      · rw [show psD (os ++ [b1, b2, b3, b4]) = psD os ++ psD [b1, b2, b3, b4] from List.map_append ..] at this
        exact this
      · rcases List.mem_append.mp hb with hb | hb
        · exact hob b hb
        · simp only [List.mem_cons, List.not_mem_nil, or_false] at hb
          rcases hb with rfl | rfl | rfl | rfl
          · exact hws _ hb1
          · exact hws _ hb2
          · exact hws _ hb3
          · exact hws _ hb4
end Lw
namespace Lw
open PySem PySem.Spec PyProof.Rows L2 DL
/-! the told table held against the law's own -/
theorem table_turns {rs : List Str} {p : PI2} {zs : List TE2} (h : TableOk rs p zs) : TurnsOk rs p (zs.map entD) := by
  refine ⟨fun k => ?_, ?_, fun x hx => ?_⟩
  · rw [List.map_map, List.mem_map]
    constructor
    · rintro ⟨z, hz, rfl⟩
      obtain ⟨n, hn, _⟩ := (h.2 z.1 z.2).mp hz
      exact ⟨z.1, rfl, n, hn⟩
    · rintro ⟨z, rfl, n, hn⟩
      exact ⟨(z, tv n), (h.2 _ _).mpr ⟨n, hn, rfl⟩, rfl⟩
  · rw [List.map_map]
    exact List.pairwise_map.mpr ((List.pairwise_map.mp h.1).imp fun h e => lex_ne h (prK_inj e))
  · obtain ⟨z, hz, rfl⟩ := List.mem_map.mp hx
    obtain ⟨n, hn, e⟩ := (h.2 z.1 z.2).mp hz
    exact ⟨z.1, n, rfl, hn, by rw [← e]; rfl⟩
theorem table_look {rs : List Str} {p : PI2} {zs : List TE2} (h : TableOk rs p zs) {z : TE2} (hz : z ∈ zs) : lookK (zs.map entD) (prK z.1) = some (.int z.2) := by
  obtain ⟨n, hn, e⟩ := (h.2 z.1 z.2).mp hz
  rw [turns_look (table_turns h) hn, e]

theorem eqv_psA : ∀ ps : List PI2, PyData.eqvAll (psD ps) (psD ps) = true
  | [] => by simp only [psD, List.map_nil, PyData.eqvAll]
  | p :: ps => by
    have h1 : PyData.eqv (prD p) (prD p) = true := by rw [pr_eqv]; exact decide_eq_true rfl
    have h2 := eqv_psA ps
    show PyData.eqvAll (prD p :: psD ps) (prD p :: psD ps) = true
    generalize prD p = x at *
    simp only [PyData.eqvAll, h1, h2, Bool.and_self]
theorem eqv_psL (ps : List PI2) : PyData.eqv (.list (psD ps)) (.list (psD ps)) = true := by
  have h := eqv_psA ps
  generalize psD ps = x at *
  simp only [PyData.eqv, h]
theorem tab_ok {rs : List Str} {p : PI2} {zs : List TE2} (h : TableOk rs p zs) : TableOk rs p (tabF rs p) := by rw [← tabF_eq h]; exact h
def phi_l_right : FS := fun ts Q => ∃ rs p, ts = [tG rs, tP p] ∧ GridOk rs ∧ freeB rs p = true ∧ Q (.fz (.bool true)) ts
def W_l_right_b0_4 : WS := (wPutT 4 (wTup (wCons (wC (.int 0)) (wCons (wC (.int 0)) wNil))) (wC (.int 99)))
def W_l_right_b0_3 : WS := wSeq (wClearT 4) W_l_right_b0_4
def W_l_right_b0_2 : WS := wSeq (wIfS (wTst (wOp2 gNe (wThaw 4 (wLc [5] (wKeysT (wVar 4)) (gvName 5) (wOr (wNot (wTst (wIsi "tuple" (wVar 5)))) (wTst (wIsi "bool" (wIxT (wVar 4) (wVar 5))))) (wC (.int 1)))) (wLst wNil))) (wRet (wC (.bool false))) wNext) W_l_right_b0_3
def W_l_right_b0_1 : WS := wSeq (wIfS (wOr (wNot (wTst (wIsiD "dict" (wVar 4)))) (wOr (wTst (wNeT (wVar 4) (wVar 2))) (wTst (wOp2 gNe (wLstT (wVar 4)) (wSortT (wVar 2)))))) (wRet (wC (.bool false))) wNext) W_l_right_b0_2
def W_l_right_b0_0 : WS := wSeq (wSet (wCallN 2 [false, false] phi_turns_from (wCons (wVar 0) (wCons (wVar 1) wNil))) 4) W_l_right_b0_1
def W_l_right_2 : WS := (wRet (wC (.bool true)))
def W_l_right_1 : WS := wSeq (wFor (wRng1 (wCons (wC (.int 2)) wNil)) (gvName 3) W_l_right_b0_0) W_l_right_2
def W_l_right_0 : WS := wSeq (wSet (wCall 2 [false, false] phi_l_turns (wCons (wVar 0) (wCons (wVar 1) wNil))) 2) W_l_right_1
def W_l_right : WS := W_l_right_0

theorem v_rt_b0 (D : DEnds) (rs : List Str) (p : PI2) (q : Addr) (n : Int) (x4 x5 : Option OT) (h5 : isF x5) (hg : GridOk rs) (hf : freeB rs p = true) (ht : TableOk rs p (tabF rs p))
    (hD : ∀ x4 x5, isF x5 → D.nx [some (tG rs), some (tP p), some (.ox q (.dt ((tabF rs p).map entD))), some (tI n), x4, x5]) : W_l_right_b0_0 D [some (tG rs), some (tP p), some (.ox q (.dt ((tabF rs p).map entD))), some (tI n), x4, x5] := by
  have hsz : sizeLine = 16777216 := sizeLine_eq
  obtain ⟨R, C, hrs, hR, hR2, hC, hC2⟩ := id hg
  have hin := free_in (a := p.1) (b := p.2) hrs hf
  conv => whnf
  refine ⟨rs, p, rfl, hg, (small_of (a := p.1) (b := p.2) ⟨by omega, by omega⟩ ⟨by omega, by omega⟩ : smallP p), fun _ q1 => ?_, fun e => by rw [hf] at e; cases e⟩
  obtain ⟨zs, hzs⟩ : ∃ zs, tabF rs p = zs := ⟨_, rfl⟩
  rw [hzs] at hD ht ⊢
  show W_l_right_b0_1 D [some (tG rs), some (tP p), some (.ox q (.dt (zs.map entD))), some (tI n), some (.ox q1 (.dt (zs.map entD))), x5]
  have hint : ∀ x ∈ zs.map entD, ∃ n, x.2 = PyData.int n := fun x hx => by
    obtain ⟨z, _, rfl⟩ := List.mem_map.mp hx
    exact ⟨z.2, rfl⟩
  have hkey : keysD (zs.map entD) = psD (zs.map (·.1)) := by
    unfold keysD
    show _ = List.map prD _
    rw [List.map_map, List.map_map]
    rfl
  conv => whnf
  refine ⟨rfl, hint, ?_⟩
  conv => whnf
  intro p1
  conv => whnf
  refine ⟨fun x hx => ?_, fun ss pm pw p2 => ?_⟩
  · obtain ⟨z, _, rfl⟩ := List.mem_map.mp hx
    exact ⟨z.1, rfl⟩
  obtain ⟨ts, e1, e2, _⟩ := table_of (table_turns ht) pm pw
  have e3 : ts = zs := by rw [tables_eq e2 ht]
  subst e3
  subst e1
  conv => whnf
  rw [hkey]
  refine ⟨sh_psL _, sh_psL (ts.map fun t : TE2 => t.1), ?_⟩
  rw [show (PyData.list (psD (ts.map (·.1)))).eqv (.list ((ts.map (·.1)).map fun z => keyD (prK z))) = true from eqv_psL _]
  show W_l_right_b0_2 D [some (tG rs), some (tP p), some (.ox q (.dt (ts.map entD))), some (tI n), some (.ox q1 (.dt (ts.map entD))), x5]
  conv => whnf
  rw [hkey]
  refine ⟨⟨by rcases h5 with e | ⟨v, e⟩ <;> rw [e] <;> trivial, trivial⟩, fun j es ρ => es = [] ∧ ∃ y5, ρ = [some (tG rs), some (tP p), none, some (tI n), some (.fx (.dt (ts.map entD))), y5], ⟨rfl, none, rfl⟩, ?_, ?_⟩
  · rintro j y es ρ hy ⟨rfl, y5, rfl⟩
    rw [List.getElem?_map, List.getElem?_map] at hy
    cases hz : ts[j]? with
    | none => rw [hz] at hy; cases hy
    | some z =>
      rw [hz] at hy
      obtain rfl : y = prD z.1 := (Option.some.inj hy).symm
      have hix : ixT (.fx (.dt (ts.map entD))) (prD z.1) = some (.fz (.int z.2)) := by
        unfold ixT
        show (match lookK (ts.map entD) (prK z.1) with | some x => some (OT.fz x) | none => none) = _
        rw [table_look ht (List.mem_of_getElem? hz)]
      conv => whnf
      rw [hix]
      conv => whnf
      exact ⟨rfl, _, rfl⟩
  · rintro es ρ ⟨rfl, y5, rfl⟩ p3
    conv => whnf
    intro p4
    conv => whnf
    refine ⟨rfl, rfl, ?_⟩
    rw [show (PyData.list []).eqv (.list []) = true from by simp only [PyData.eqv, PyData.eqvAll]]
    conv => whnf
    exact ⟨by show 0 < _; omega, hD _ _ h5⟩
theorem v_l_right (ts : List OT) (Q : OT → List OT → Prop) (h : phi_l_right ts Q) : W_l_right (endsF 6 ts Q) (startR 6 ts) := by
  have hsz : sizeLine = 16777216 := sizeLine_eq
  obtain ⟨rs, p, rfl, hg, hf, h⟩ := h
  show W_l_right _ [some (tG rs), some (tP p), none, none, none, none]
  conv => whnf
  refine ⟨rs, p, rfl, hg, hf, fun q zs hz => ?_⟩
  have ht := tab_ok hz
  have hz := tabF_eq hz
  subst hz
  show W_l_right_1 _ [some (tG rs), some (tP p), some (.ox q (.dt ((tabF rs p).map entD))), none, none, none]
  conv => whnf
  refine ⟨⟨by decide, by decide⟩, ?_⟩
  refine ⟨fun i ρ => ∃ x3 x4 x5, ρ = [some (tG rs), some (tP p), some (.ox q (.dt ((tabF rs p).map entD))), x3, x4, x5] ∧ isF x5, ⟨none, none, none, rfl, isF_n⟩, ?_, ?_⟩
  · rintro i x ρ hx ⟨x3, x4, x5, rfl, h5⟩
    obtain ⟨rfl, _⟩ := rng_get hx
    exact v_rt_b0 _ rs p q _ x4 x5 h5 hg hf ht fun x4 x5 h5 => ⟨_, x4, x5, rfl, h5⟩
  · rintro ρ ⟨x3, x4, x5, rfl, h5⟩
    conv => whnf
    exact h
end Lw
namespace Lw
open PySem PySem.Spec PyProof.Rows L2 DL
/-! the refusal -/
abbrev tNP (b : PI2) : OT := .exc "NoPlace" (some ("place", prD b))
def phi_l_refused : FS := fun ts Q => ∃ rs b, ts = [tG rs, tP b] ∧ GridOk rs ∧ BadP rs b ∧ Q (tNP b) ts
def W_l_refused_2 : WS := (wRet (wVar 2))
def W_l_refused_1 : WS := wSeq (wTry (catL ["NoPlace"]) 3 2 (wDropX (wCallX 2 [false, false] phi_turns_from (wCons (wVar 0) (wCons (wVar 1) wNil))))) W_l_refused_2
def W_l_refused_0 : WS := wSeq (wSet (wC .none) 2) W_l_refused_1
def W_l_refused : WS := W_l_refused_0

theorem v_l_refused (ts : List OT) (Q : OT → List OT → Prop) (h : phi_l_refused ts Q) : W_l_refused (endsF 4 ts Q) (startR 4 ts) := by
  obtain ⟨rs, b, rfl, hg, hb, h⟩ := h
  show W_l_refused_1 _ [some (tG rs), some (tP b), some (.fz .none), none]
  conv => whnf
  refine ⟨rs, b, rfl, hg, hb.2, fun e => (by rw [hb.1] at e; cases e), fun _ => ⟨rfl, ?_⟩⟩
  show W_l_refused_2 (endsF 4 [tG rs, tP b] Q) [some (tG rs), some (tP b), some (tNP b), none]
  conv => whnf
  exact h
def phi_l_is : FS := fun ts Q => ∃ b, ts = [tNP b, .fz (.str (Str.ofString "place"))] ∧ Q (.fz (.bool true)) ts
def W_l_is_3 : WS := (wRet (wOp2 gEq (wVar 2) (wLc [3] (wIterA (wLst (wCons (wC (.str (Str.ofString "place"))) (wCons (wC (.str (Str.ofString "way"))) (wCons (wC (.str (Str.ofString "grid"))) (wCons (wC (.str (Str.ofString "runs"))) (wCons (wC (.str (Str.ofString "ask"))) wNil))))))) (gvName 3) wYes (wOp2 gEq (wVar 3) (wVar 1)))))
def W_l_is_2 : WS := wSeq (wSet (wCat (wVar 2) (wLst (wCons (wIsL ["NoPlace"] "NoRuns" (wVar 0)) (wCons (wIsL ["NoPlace"] "NoAsk" (wVar 0)) wNil)))) 2) W_l_is_3
def W_l_is_1 : WS := wSeq (wSet (wLst (wCons (wIsL ["NoPlace"] "NoPlace" (wVar 0)) (wCons (wIsL ["NoPlace"] "NoWay" (wVar 0)) (wCons (wIsL ["NoPlace"] "NoGrid" (wVar 0)) wNil)))) 2) W_l_is_2
def W_l_is_0 : WS := wSeq (wIfS (wOr (wNot (wTst (wIsL ["NoPlace"] "TurnError" (wVar 0)))) (wNot (wTst (wIsL ["NoPlace"] "ValueError" (wVar 0))))) (wRet (wC (.bool false))) wNext) W_l_is_1
def W_l_is : WS := W_l_is_0

theorem v_l_is (ts : List OT) (Q : OT → List OT → Prop) (h : phi_l_is ts Q) : W_l_is (endsF 4 ts Q) (startR 4 ts) := by
  have hsz : sizeLine = 16777216 := sizeLine_eq
  obtain ⟨b, rfl, h⟩ := h
  show W_l_is _ [some (tNP b), some (.fz (.str (Str.ofString "place"))), none, none]
  conv => whnf
  refine ⟨by decide, ?_⟩
  conv => whnf
  refine ⟨by decide, ?_⟩
  show W_l_is_1 _ [some (tNP b), some (.fz (.str (Str.ofString "place"))), none, none]
  conv => whnf
  refine ⟨by decide, ?_⟩
  conv => whnf
  refine ⟨by decide, ?_⟩
  conv => whnf
  refine ⟨by decide, ?_⟩
  conv => whnf
  intro p1
  show W_l_is_2 _ [some (tNP b), some (.fz (.str (Str.ofString "place"))), some (.lst p1 [.bool true, .bool false, .bool false]), none]
  conv => whnf
  refine ⟨by decide, ?_⟩
  conv => whnf
  refine ⟨by decide, ?_⟩
  conv => whnf
  intro p2
  conv => whnf
  refine ⟨by show (3 : Nat) + 2 ≤ _; omega, fun p3 => ?_⟩
  show W_l_is_3 _ [some (tNP b), some (.fz (.str (Str.ofString "place"))), some (.lst p3 [.bool true, .bool false, .bool false, .bool false, .bool false]), none]
  conv => whnf
  intro p4
  conv => whnf
  refine ⟨⟨trivial, trivial⟩, fun i ds ρ => ∃ x3, ds = ([.bool true, .bool false, .bool false, .bool false, .bool false] : List PyData).take i ∧ ρ = [some (tNP b), some (.fz (.str (Str.ofString "place"))), some (.lst p3 [.bool true, .bool false, .bool false, .bool false, .bool false]), x3], ⟨none, rfl, rfl⟩, ?_, ?_⟩
  · rintro i x ds ρ hx ⟨x3, rfl, rfl⟩
    match i, hx with
    | 0, hx =>
      cases hx
      conv => whnf
      exact ⟨by show 0 < _; omega, _, rfl, rfl⟩
    | 1, hx =>
      cases hx
      conv => whnf
      exact ⟨by show 1 < _; omega, _, rfl, rfl⟩
    | 2, hx =>
      cases hx
      conv => whnf
      exact ⟨by show 2 < _; omega, _, rfl, rfl⟩
    | 3, hx =>
      cases hx
      conv => whnf
      exact ⟨by show 3 < _; omega, _, rfl, rfl⟩
    | 4, hx =>
      cases hx
      conv => whnf
      exact ⟨by show 4 < _; omega, _, rfl, rfl⟩
    | i + 5, hx => simp at hx
  · rintro ds ρ ⟨x3, rfl, rfl⟩ p5
    rw [show ([PyData.str (Str.ofString "place"), PyData.str (Str.ofString "way"), PyData.str (Str.ofString "grid"), PyData.str (Str.ofString "runs"), PyData.str (Str.ofString "ask")] : List PyData).length = 5 from rfl]
    conv => whnf
    refine ⟨rfl, rfl, ?_⟩
    rw [show PyData.eqv (.list [.bool true, .bool false, .bool false, .bool false, .bool false]) (.list ([PyData.bool true, .bool false, .bool false, .bool false, .bool false].take 5)) = true from by simp [PyData.eqv, PyData.eqvAll]]
    exact h
end Lw
namespace Lw
open PySem PySem.Spec PyProof.Rows L2 DL
/-! the law -/
theorem cut_map {α : Type} (f : α → PyData) (ns : List α) (lo hi : Option Int) : ∃ ms : List α, DL.cutD (ns.map f) lo hi = ms.map f ∧ ms.length ≤ ns.length := by
  unfold DL.cutD
  rw [List.length_map, ← List.map_drop, ← List.map_take]
  exact ⟨_, rfl, by rw [List.length_take, List.length_drop]; omega⟩

def phi_law : FS := fun ts Q => ∃ ns : List Int, ts = [.fz (.list (ns.map .int))] ∧ ns.length ≤ 63 ∧ Q (.fz (.bool true)) ts
def W_law_b1_2 : WS := (wIfS (wOr (wNot (wTst (wCall 2 [false, false] phi_l_is (wCons (wVar 8) (wCons (wC (.str (Str.ofString "place"))) wNil))))) (wTst (wOp2 gNe (wXf ["NoPlace"] "place" (wVar 8)) (wVar 7)))) (wRet (wC (.bool false))) wNext)
def W_law_b1_1 : WS := wSeq (wSet (wCall 2 [false, false] phi_l_refused (wCons (wVar 3) (wCons (wVar 7) wNil))) 8) W_law_b1_2
def W_law_b1_0 : WS := wSeq (wSet (wCall 2 [true, false] phi_l_bad_place (wCons (wVar 2) (wCons (wVar 3) wNil))) 7) W_law_b1_1
def W_law_b0_4 : WS := (wFor (wRng1 (wCons (wC (.int 3)) wNil)) (gvName 6) W_law_b1_0)
def W_law_b0_3 : WS := wSeq (wIfS (wTst (wOp2 gNe (wVar 4) (wLst wNil))) (wFor (wIterA (wTup (wCons (wIx (wVar 4) (wCall 2 [true, false] phi_l_draw (wCons (wVar 2) (wCons (wCB gLen (wCons (wVar 4) wNil)) wNil)))) (wCons (wIx (wVar 4) (wIx (wLst (wCons (wC (.int 0)) (wCons (wNeg (wC (.int 1))) wNil))) (wCall 2 [true, false] phi_l_draw (wCons (wVar 2) (wCons (wC (.int 2)) wNil))))) wNil)))) (gvName 5) (wIfS (wNot (wTst (wCall 2 [false, false] phi_l_right (wCons (wVar 3) (wCons (wVar 5) wNil))))) (wRet (wC (.bool false))) wNext)) wNext) W_law_b0_4
def W_law_b0_2 : WS := wSeq (wSet (wCall 1 [false] phi_l_free (wCons (wVar 3) wNil)) 4) W_law_b0_3
def W_law_b0_1 : WS := wSeq (wSet (wCall 2 [true, false] phi_l_grid (wCons (wVar 2) (wCons (wIx (wLst (wCons (wC (.int 6)) (wCons (wC (.int 12)) wNil))) (wCall 2 [true, false] phi_l_draw (wCons (wVar 2) (wCons (wC (.int 2)) wNil)))) wNil))) 3) W_law_b0_2
def W_law_b0_0 : WS := wSeq (wSet (wCall 1 [false] phi_l_seed (wCons (wVar 1) wNil)) 2) W_law_b0_1
def W_law_1 : WS := (wRet (wC (.bool true)))
def W_law_0 : WS := wSeq (wFor (wIterA (wCat (wSl (wVar 0) wNoPart (wPart (wC (.int 2)))) (wLst (wCons (wCall 1 [false] phi_l_folded (wCons (wVar 0) wNil)) wNil)))) (gvName 1) W_law_b0_0) W_law_1
def W_law : WS := W_law_0

theorem at2n (a b : Int) {n : Int} (h0 : 0 ≤ n) (h1 : n < 2) : ∃ m : Int, atI [PyData.int a, .int b] n = some (.int m) ∧ (m = a ∨ m = b) := by
  obtain ⟨d, hd, e⟩ := atI_mem (ds := [PyData.int a, .int b]) h0 (by simpa using h1)
  simp only [List.mem_cons, List.not_mem_nil, or_false] at hd
  rcases hd with rfl | rfl
  · exact ⟨a, e, .inl rfl⟩
  · exact ⟨b, e, .inr rfl⟩
theorem v_law_b1 (D : DEnds) (sc : OT) (n : Int) (p : Addr) (ds : List PyData) (B : Int) (rs : List Str) (x4 x5 x6 x7 x8 : Option OT) (hg : GridOk rs) (hd : SeedOk B ds) (hB : B ≤ 2 ^ 18)
    (hD : ∀ ds' x7 x8, SeedOk (B + 7) ds' → D.nx [some sc, some (tI n), some (.lst p ds'), some (tG rs), x4, x5, x6, x7, x8]) : W_law_b1_0 D [some sc, some (tI n), some (.lst p ds), some (tG rs), x4, x5, x6, x7, x8] := by
  conv => whnf
  refine ⟨p, ds, B, rs, rfl, hd, by omega, hg, fun b ds' hb hd' => ?_⟩
  show W_law_b1_1 D [some sc, some (tI n), some (.lst p ds'), some (tG rs), x4, x5, x6, some (tP b), x8]
  conv => whnf
  refine ⟨rs, b, rfl, hg, hb, ?_⟩
  show W_law_b1_2 D [some sc, some (tI n), some (.lst p ds'), some (tG rs), x4, x5, x6, some (tP b), some (tNP b)]
  conv => whnf
  refine ⟨b, rfl, ?_⟩
  conv => whnf
  refine ⟨by decide, rfl, ?_⟩
  conv => whnf
  refine ⟨rfl, rfl, ?_⟩
  rw [show PyData.eqv (.tuple [.int b.1, .int b.2]) (.tuple [.int b.1, .int b.2]) = true from by rw [pr_eqv]; exact decide_eq_true rfl]
  exact hD ds' _ _ hd'
theorem v_law_b0 (D : DEnds) (sc : OT) (n : Int) (x2 x3 x4 x5 x6 x7 x8 : Option OT) (hD : ∀ x2 x3 x4 x5 x6 x7 x8, D.nx [some sc, some (tI n), x2, x3, x4, x5, x6, x7, x8]) : W_law_b0_0 D [some sc, some (tI n), x2, x3, x4, x5, x6, x7, x8] := by
  have hsz : sizeLine = 16777216 := sizeLine_eq
  conv => whnf
  refine ⟨n, rfl, fun p ds hd => ?_⟩
  show W_law_b0_1 D [some sc, some (tI n), some (.lst p ds), x3, x4, x5, x6, x7, x8]
  conv => whnf
  intro p1
  conv => whnf
  refine ⟨p, ds, 0, 2, rfl, hd, by decide, ⟨by decide, by decide⟩, fun k ds1 k0 k1 hd1 => ?_⟩
  obtain ⟨m, em, hm⟩ := at2n 6 12 k0 k1
  conv => whnf
  rw [em]
  conv => whnf
  refine ⟨p, ds1, _, m, rfl, hd1, by decide, ⟨by omega, by omega⟩, fun rs ds2 hg hd2 => ?_⟩
  show W_law_b0_2 D [some sc, some (tI n), some (.lst p ds2), some (tG rs), x4, x5, x6, x7, x8]
  conv => whnf
  refine ⟨rs, rfl, hg, ?_⟩
  show W_law_b0_3 D [some sc, some (tI n), some (.lst p ds2), some (tG rs), some (.fz (.list (psD (freePs rs)))), x5, x6, x7, x8]
  have rest : ∀ ds x5, SeedOk 1010 ds → W_law_b0_4 D [some sc, some (tI n), some (.lst p ds), some (tG rs), some (.fz (.list (psD (freePs rs)))), x5, x6, x7, x8] := fun ds x5 hd => by
    conv => whnf
    refine ⟨⟨by decide, by decide⟩, ?_⟩
    refine ⟨fun i ρ => ∃ ds x6 x7 x8, ρ = [some sc, some (tI n), some (.lst p ds), some (tG rs), some (.fz (.list (psD (freePs rs)))), x5, x6, x7, x8] ∧ SeedOk (1010 + 7 * i) ds, ⟨ds, x6, x7, x8, rfl, hd.mono (by omega)⟩, ?_, ?_⟩
    · rintro i x ρ hx ⟨ds, x6, x7, x8, rfl, hd⟩
      obtain ⟨rfl, hi⟩ := rng_get hx
      have hi : i < 3 := hi
      exact v_law_b1 _ sc n p ds _ rs _ _ _ x7 x8 hg hd (by omega) fun ds' x7 x8 hd' => ⟨ds', _, x7, x8, rfl, hd'.mono (by omega)⟩
    · rintro ρ ⟨ds, x6, x7, x8, rfl, _⟩
      conv => whnf
      exact hD _ _ _ _ _ _ _
  have hfl := free_len hg
  conv => whnf
  intro p2
  conv => whnf
  refine ⟨sh_psL _, rfl, ?_⟩
  rw [eqv_nilL]
  cases hfp : freePs rs with
  | nil =>
    rw [hfp] at rest
    conv => whnf
    exact rest ds2 _ (hd2.mono (by decide))
  | cons w0 ws =>
    have hw : freePs rs ≠ [] := by rw [hfp]; exact List.cons_ne_nil _ _
    have e0 : (psD (w0 :: ws)).isEmpty = false := rfl
    rw [e0, ← hfp]
    obtain ⟨fs, hfs⟩ : ∃ fs, freePs rs = fs := ⟨_, rfl⟩
    have hmem : ∀ z ∈ fs, freeB rs z = true := fun z hz => free_mem.mp (by rw [hfs]; exact hz)
    rw [hfs] at rest hw hfl ⊢
    have hl : 0 < fs.length := List.length_pos_iff.mpr hw
    conv => whnf
    refine ⟨p, ds2, _, ((psD fs).length : Int), rfl, hd2, by decide, ⟨by rw [List.length_map]; omega, by rw [List.length_map]; omega⟩, fun k1 ds3 k10 k11 hd3 => ?_⟩
    rw [List.length_map] at k11
    obtain ⟨b1, hb1, e1⟩ := ps_at (ps := fs) k10 k11
    conv => whnf
    rw [e1]
    conv => whnf
    intro p3
    conv => whnf
    refine ⟨p, ds3, _, 2, rfl, hd3, by decide, ⟨by decide, by decide⟩, fun k2 ds4 k20 k21 hd4 => ?_⟩
    obtain ⟨m2, em2, hm2⟩ := at2n 0 (-1) k20 k21
    obtain ⟨b2, hb2, e2⟩ : ∃ b, b ∈ fs ∧ atI (psD fs) m2 = some (prD b) := by
      rcases hm2 with rfl | rfl
      · exact ps_at (by omega) (by omega)
      · exact ps_last hw
    conv => whnf
    rw [em2]
    conv => whnf
    rw [e2]
    conv => whnf
    refine ⟨fun i ρ => ∃ x5, ρ = [some sc, some (tI n), some (.lst p ds4), some (tG rs), some (.fz (.list (psD fs))), x5, x6, x7, x8], ⟨x5, rfl⟩, ?_, ?_⟩
    · rintro i x ρ hx ⟨x5, rfl⟩
      have hx : (psD [b1, b2])[i]? = some x := hx
      rw [List.getElem?_map] at hx
      cases hb : [b1, b2][i]? with
      | none => rw [hb] at hx; cases hx
      | some b =>
        rw [hb] at hx
        obtain rfl : x = prD b := (Option.some.inj hx).symm
        have hbf : freeB rs b = true := by
          have := List.mem_of_getElem? hb
          simp only [List.mem_cons, List.not_mem_nil, or_false] at this
          rcases this with rfl | rfl
          · exact hmem _ hb1
          · exact hmem _ hb2
        conv => whnf
        refine ⟨rs, b, rfl, hg, hbf, ?_⟩
        conv => whnf
        exact ⟨_, rfl⟩
    · rintro ρ ⟨x5, rfl⟩
      exact rest ds4 x5 (hd4.mono (by decide))
theorem v_law (ts : List OT) (Q : OT → List OT → Prop) (h : phi_law ts Q) : W_law (endsF 9 ts Q) (startR 9 ts) := by
  have hsz : sizeLine = 16777216 := sizeLine_eq
  obtain ⟨ns, rfl, hl, h⟩ := h
  show W_law _ [some (.fz (.list (ns.map .int))), none, none, none, none, none, none, none, none]
  conv => whnf
  intro p
  obtain ⟨ms, em, hm⟩ := cut_map PyData.int ns none (some 2)
  rw [em]
  conv => whnf
  refine ⟨ns, rfl, hl, fun n => ?_⟩
  conv => whnf
  intro p1
  conv => whnf
  refine ⟨by rw [List.length_map]; show _ + 1 ≤ _; omega, fun p2 => ?_⟩
  conv => whnf
  refine ⟨fun i ρ => ∃ x1 x2 x3 x4 x5 x6 x7 x8, ρ = [some (.fz (.list (ns.map .int))), x1, x2, x3, x4, x5, x6, x7, x8], ⟨_, _, _, _, _, _, _, _, rfl⟩, ?_, ?_⟩
  · rintro i x ρ hx ⟨x1, x2, x3, x4, x5, x6, x7, x8, rfl⟩
    have hi : ∃ k : Int, x = .int k := by
      rcases List.mem_append.mp (List.mem_of_getElem? hx) with h | h
      · obtain ⟨k, _, e⟩ := List.mem_map.mp h
        exact ⟨k, e.symm⟩
      · exact ⟨n, List.mem_singleton.mp h⟩
    obtain ⟨k, rfl⟩ := hi
    exact v_law_b0 _ _ k x2 x3 x4 x5 x6 x7 x8 fun x2 x3 x4 x5 x6 x7 x8 => ⟨_, _, _, _, _, _, _, _, rfl⟩
  · rintro ρ ⟨x1, x2, x3, x4, x5, x6, x7, x8, rfl⟩
    conv => whnf
    exact h
end Lw

namespace Lw
open PySem PySem.Spec PyProof.Rows L2 DL
def topS (i : Nat) : Stmt := PySem.Challenge.pw_fewturns_k13_turns_told.main.body.getD i (.Pass ⟨0, 0, 0, 0⟩)
def clsBody (s : Stmt) : List Stmt := match s with | .ClassDef _ _ _ b _ _ _ _ _ _ _ => b | _ => []
def Si_NoPlace : Stmt := (clsBody (topS 6)).getD 0 (.Pass ⟨0, 0, 0, 0⟩)
abbrev S_is_free : Stmt := topS 10
abbrev N_is_free : List Str := ["grid", "place", "row", "column"]
theorem sc_is_free : FnScope N_is_free ["grid", "place"] (defScope S_is_free) := ⟨rfl, rfl, rfl, by decide +kernel, rfl, by decide +kernel, by decide +kernel⟩
abbrev S_places_with : Stmt := topS 12
abbrev N_places_with : List Str := ["grid", "sign", "row", "line", "column", "there"]
theorem sc_places_with : FnScope N_places_with ["grid", "sign"] (defScope S_places_with) := ⟨rfl, rfl, rfl, by decide +kernel, rfl, by decide +kernel, by decide +kernel⟩
abbrev S_place_beside : Stmt := topS 14
abbrev N_place_beside : List Str := ["place", "heading", "down", "right"]
theorem sc_place_beside : FnScope N_place_beside ["place", "heading"] (defScope S_place_beside) := ⟨rfl, rfl, rfl, by decide +kernel, rfl, by decide +kernel, by decide +kernel⟩
abbrev S_layers_of : Stmt := topS 18
abbrev N_layers_of : List Str := ["sights", "place", "met", "layers", "front", "behind", "at", "seen"]
theorem sc_layers_of : FnScope N_layers_of ["sights", "place"] (defScope S_layers_of) := ⟨rfl, rfl, rfl, by decide +kernel, rfl, by decide +kernel, by decide +kernel⟩
abbrev S_l_folded : Stmt := topS 23
abbrev N_l_folded : List Str := ["script", "found", "cell"]
theorem sc_l_folded : FnScope N_l_folded ["script"] (defScope S_l_folded) := ⟨rfl, rfl, rfl, by decide +kernel, rfl, by decide +kernel, by decide +kernel⟩
abbrev S_l_seed : Stmt := topS 24
abbrev N_l_seed : List Str := ["cell", "number"]
theorem sc_l_seed : FnScope N_l_seed ["cell"] (defScope S_l_seed) := ⟨rfl, rfl, rfl, by decide +kernel, rfl, by decide +kernel, by decide +kernel⟩
abbrev S_l_draw : Stmt := topS 25
abbrev N_l_draw : List Str := ["seed", "most", "found", "number"]
theorem sc_l_draw : FnScope N_l_draw ["seed", "most"] (defScope S_l_draw) := ⟨rfl, rfl, rfl, by decide +kernel, rfl, by decide +kernel, by decide +kernel⟩
abbrev S_l_spiral : Stmt := topS 26
abbrev N_l_spiral : List Str := ["rows", "columns", "free", "place", "heading", "turned", "down", "right", "then", "far"]
theorem sc_l_spiral : FnScope N_l_spiral ["rows", "columns"] (defScope S_l_spiral) := ⟨rfl, rfl, rfl, by decide +kernel, rfl, by decide +kernel, by decide +kernel⟩
abbrev S_l_free : Stmt := topS 29
abbrev N_l_free : List Str := ["grid", "found", "row", "line", "column", "sign"]
theorem sc_l_free : FnScope N_l_free ["grid"] (defScope S_l_free) := ⟨rfl, rfl, rfl, by decide +kernel, rfl, by decide +kernel, by decide +kernel⟩
abbrev S_l_is : Stmt := topS 30
abbrev N_l_is : List Str := ["caught", "kind", "flags", "one"]
theorem sc_l_is : FnScope N_l_is ["caught", "kind"] (defScope S_l_is) := ⟨rfl, rfl, rfl, by decide +kernel, rfl, by decide +kernel, by decide +kernel⟩
abbrev S_l_line : Stmt := topS 32
abbrev N_l_line : List Str := ["grid", "place", "down", "right", "found", "row", "column"]
theorem sc_l_line : FnScope N_l_line ["grid", "place", "down", "right"] (defScope S_l_line) := ⟨rfl, rfl, rfl, by decide +kernel, rfl, by decide +kernel, by decide +kernel⟩
abbrev S_free_places : Stmt := topS 13
abbrev N_free_places : List Str := ["grid"]
theorem sc_free_places : FnScope N_free_places ["grid"] (defScope S_free_places) := ⟨rfl, rfl, rfl, by decide +kernel, rfl, by decide +kernel, by decide +kernel⟩
abbrev S_sights_from : Stmt := topS 15
abbrev N_sights_from : List Str := ["grid", "place", "told", "heading", "headings", "beside"]
theorem sc_sights_from : FnScope N_sights_from ["grid", "place"] (defScope S_sights_from) := ⟨rfl, rfl, rfl, by decide +kernel, rfl, by decide +kernel, by decide +kernel⟩
abbrev S_turns_by_sights : Stmt := topS 20
abbrev N_turns_by_sights : List Str := ["sights", "place", "turns", "runs", "layer", "at"]
theorem sc_turns_by_sights : FnScope N_turns_by_sights ["sights", "place"] (defScope S_turns_by_sights) := ⟨rfl, rfl, rfl, by decide +kernel, rfl, by decide +kernel, by decide +kernel⟩
abbrev S_l_sign : Stmt := topS 27
abbrev N_l_sign : List Str := ["seed", "kind", "row", "column", "columns"]
theorem sc_l_sign : FnScope N_l_sign ["seed", "kind", "row", "column", "columns"] (defScope S_l_sign) := ⟨rfl, rfl, rfl, by decide +kernel, rfl, by decide +kernel, by decide +kernel⟩
abbrev S_l_bad_place : Stmt := topS 31
abbrev N_l_bad_place : List Str := ["seed", "grid", "rows", "columns", "walls", "row", "line", "column", "sign", "far", "some"]
theorem sc_l_bad_place : FnScope N_l_bad_place ["seed", "grid"] (defScope S_l_bad_place) := ⟨rfl, rfl, rfl, by decide +kernel, rfl, by decide +kernel, by decide +kernel⟩
abbrev S_l_turns : Stmt := topS 33
abbrev N_l_turns : List Str := ["grid", "place", "found", "here", "turns", "then", "one", "down", "right", "other"]
theorem sc_l_turns : FnScope N_l_turns ["grid", "place"] (defScope S_l_turns) := ⟨rfl, rfl, rfl, by decide +kernel, rfl, by decide +kernel, by decide +kernel⟩
abbrev S_sights_of : Stmt := topS 16
abbrev N_sights_of : List Str := ["grid", "place"]
theorem sc_sights_of : FnScope N_sights_of ["grid"] (defScope S_sights_of) := ⟨rfl, rfl, rfl, by decide +kernel, rfl, by decide +kernel, by decide +kernel⟩
abbrev S_l_grid : Stmt := topS 28
abbrev N_l_grid : List Str := ["seed", "most", "rows", "columns", "kind", "signs", "row", "column", "free", "turn", "line"]
theorem sc_l_grid : FnScope N_l_grid ["seed", "most"] (defScope S_l_grid) := ⟨rfl, rfl, rfl, by decide +kernel, rfl, by decide +kernel, by decide +kernel⟩
abbrev S_ask_free : Stmt := topS 11
abbrev N_ask_free : List Str := ["grid", "place"]
theorem sc_ask_free : FnScope N_ask_free ["grid", "place"] (defScope S_ask_free) := ⟨rfl, rfl, rfl, by decide +kernel, rfl, by decide +kernel, by decide +kernel⟩
abbrev S_turns_from : Stmt := topS 21
abbrev N_turns_from : List Str := ["grid", "place"]
theorem sc_turns_from : FnScope N_turns_from ["grid", "place"] (defScope S_turns_from) := ⟨rfl, rfl, rfl, by decide +kernel, rfl, by decide +kernel, by decide +kernel⟩
abbrev S_l_right : Stmt := topS 34
abbrev N_l_right : List Str := ["grid", "place", "due", "turn", "found", "one"]
theorem sc_l_right : FnScope N_l_right ["grid", "place"] (defScope S_l_right) := ⟨rfl, rfl, rfl, by decide +kernel, rfl, by decide +kernel, by decide +kernel⟩
abbrev S_l_refused : Stmt := topS 35
abbrev N_l_refused : List Str := ["grid", "place", "caught", "e"]
theorem sc_l_refused : FnScope N_l_refused ["grid", "place"] (defScope S_l_refused) := ⟨rfl, rfl, rfl, by decide +kernel, rfl, by decide +kernel, by decide +kernel⟩
abbrev S_law : Stmt := topS 36
abbrev N_law : List Str := ["script", "cell", "seed", "grid", "free", "place", "turn", "bad", "caught"]
theorem sc_law : FnScope N_law ["script"] (defScope S_law) := ⟨rfl, rfl, rfl, by decide +kernel, rfl, by decide +kernel, by decide +kernel⟩
structure Txt (P : Program) (K : PySem.W.Frag) (w : World) (mg : Str → Option Value) where
  a_is_free : Addr
  fd_is_free : FuncData
  F_is_free : Fun K "is_free" "is_free" S_is_free a_is_free fd_is_free
  B_is_free : Binds K fd_is_free ["grid", "place"] []
  m_is_free : mg "is_free" = some (.ref a_is_free)
  a_places_with : Addr
  fd_places_with : FuncData
  F_places_with : Fun K "places_with" "places_with" S_places_with a_places_with fd_places_with
  B_places_with : Binds K fd_places_with ["grid", "sign"] []
  m_places_with : mg "places_with" = some (.ref a_places_with)
  a_place_beside : Addr
  fd_place_beside : FuncData
  F_place_beside : Fun K "place_beside" "place_beside" S_place_beside a_place_beside fd_place_beside
  B_place_beside : Binds K fd_place_beside ["place", "heading"] []
  m_place_beside : mg "place_beside" = some (.ref a_place_beside)
  a_layers_of : Addr
  fd_layers_of : FuncData
  F_layers_of : Fun K "layers_of" "layers_of" S_layers_of a_layers_of fd_layers_of
  B_layers_of : Binds K fd_layers_of ["sights", "place"] []
  m_layers_of : mg "layers_of" = some (.ref a_layers_of)
  a_l_folded : Addr
  fd_l_folded : FuncData
  F_l_folded : Fun K "_law_folded" "_law_folded" S_l_folded a_l_folded fd_l_folded
  B_l_folded : Binds K fd_l_folded ["script"] []
  m_l_folded : mg "_law_folded" = some (.ref a_l_folded)
  a_l_seed : Addr
  fd_l_seed : FuncData
  F_l_seed : Fun K "_law_seed" "_law_seed" S_l_seed a_l_seed fd_l_seed
  B_l_seed : Binds K fd_l_seed ["cell"] []
  m_l_seed : mg "_law_seed" = some (.ref a_l_seed)
  a_l_draw : Addr
  fd_l_draw : FuncData
  F_l_draw : Fun K "_law_draw" "_law_draw" S_l_draw a_l_draw fd_l_draw
  B_l_draw : Binds K fd_l_draw ["seed", "most"] []
  m_l_draw : mg "_law_draw" = some (.ref a_l_draw)
  a_l_spiral : Addr
  fd_l_spiral : FuncData
  F_l_spiral : Fun K "_law_spiral" "_law_spiral" S_l_spiral a_l_spiral fd_l_spiral
  B_l_spiral : Binds K fd_l_spiral ["rows", "columns"] []
  m_l_spiral : mg "_law_spiral" = some (.ref a_l_spiral)
  a_l_free : Addr
  fd_l_free : FuncData
  F_l_free : Fun K "_law_free" "_law_free" S_l_free a_l_free fd_l_free
  B_l_free : Binds K fd_l_free ["grid"] []
  m_l_free : mg "_law_free" = some (.ref a_l_free)
  a_l_is : Addr
  fd_l_is : FuncData
  F_l_is : Fun K "_law_is" "_law_is" S_l_is a_l_is fd_l_is
  B_l_is : Binds K fd_l_is ["caught", "kind"] []
  m_l_is : mg "_law_is" = some (.ref a_l_is)
  a_l_line : Addr
  fd_l_line : FuncData
  F_l_line : Fun K "_law_line" "_law_line" S_l_line a_l_line fd_l_line
  B_l_line : Binds K fd_l_line ["grid", "place", "down", "right"] []
  m_l_line : mg "_law_line" = some (.ref a_l_line)
  a_free_places : Addr
  fd_free_places : FuncData
  F_free_places : Fun K "free_places" "free_places" S_free_places a_free_places fd_free_places
  B_free_places : Binds K fd_free_places ["grid"] []
  m_free_places : mg "free_places" = some (.ref a_free_places)
  a_sights_from : Addr
  fd_sights_from : FuncData
  F_sights_from : Fun K "sights_from" "sights_from" S_sights_from a_sights_from fd_sights_from
  B_sights_from : Binds K fd_sights_from ["grid", "place"] []
  m_sights_from : mg "sights_from" = some (.ref a_sights_from)
  a_turns_by_sights : Addr
  fd_turns_by_sights : FuncData
  F_turns_by_sights : Fun K "turns_by_sights" "turns_by_sights" S_turns_by_sights a_turns_by_sights fd_turns_by_sights
  B_turns_by_sights : Binds K fd_turns_by_sights ["sights", "place"] []
  m_turns_by_sights : mg "turns_by_sights" = some (.ref a_turns_by_sights)
  a_l_sign : Addr
  fd_l_sign : FuncData
  F_l_sign : Fun K "_law_sign" "_law_sign" S_l_sign a_l_sign fd_l_sign
  B_l_sign : Binds K fd_l_sign ["seed", "kind", "row", "column", "columns"] []
  m_l_sign : mg "_law_sign" = some (.ref a_l_sign)
  a_l_bad_place : Addr
  fd_l_bad_place : FuncData
  F_l_bad_place : Fun K "_law_bad_place" "_law_bad_place" S_l_bad_place a_l_bad_place fd_l_bad_place
  B_l_bad_place : Binds K fd_l_bad_place ["seed", "grid"] []
  m_l_bad_place : mg "_law_bad_place" = some (.ref a_l_bad_place)
  a_l_turns : Addr
  fd_l_turns : FuncData
  F_l_turns : Fun K "_law_turns" "_law_turns" S_l_turns a_l_turns fd_l_turns
  B_l_turns : Binds K fd_l_turns ["grid", "place"] []
  m_l_turns : mg "_law_turns" = some (.ref a_l_turns)
  a_sights_of : Addr
  fd_sights_of : FuncData
  F_sights_of : Fun K "sights_of" "sights_of" S_sights_of a_sights_of fd_sights_of
  B_sights_of : Binds K fd_sights_of ["grid"] []
  m_sights_of : mg "sights_of" = some (.ref a_sights_of)
  a_l_grid : Addr
  fd_l_grid : FuncData
  F_l_grid : Fun K "_law_grid" "_law_grid" S_l_grid a_l_grid fd_l_grid
  B_l_grid : Binds K fd_l_grid ["seed", "most"] []
  m_l_grid : mg "_law_grid" = some (.ref a_l_grid)
  a_ask_free : Addr
  fd_ask_free : FuncData
  F_ask_free : Fun K "ask_free" "ask_free" S_ask_free a_ask_free fd_ask_free
  B_ask_free : Binds K fd_ask_free ["grid", "place"] []
  m_ask_free : mg "ask_free" = some (.ref a_ask_free)
  a_turns_from : Addr
  fd_turns_from : FuncData
  F_turns_from : Fun K "turns_from" "turns_from" S_turns_from a_turns_from fd_turns_from
  B_turns_from : Binds K fd_turns_from ["grid", "place"] []
  m_turns_from : mg "turns_from" = some (.ref a_turns_from)
  a_l_right : Addr
  fd_l_right : FuncData
  F_l_right : Fun K "_law_right" "_law_right" S_l_right a_l_right fd_l_right
  B_l_right : Binds K fd_l_right ["grid", "place"] []
  m_l_right : mg "_law_right" = some (.ref a_l_right)
  a_l_refused : Addr
  fd_l_refused : FuncData
  F_l_refused : Fun K "_law_refused" "_law_refused" S_l_refused a_l_refused fd_l_refused
  B_l_refused : Binds K fd_l_refused ["grid", "place"] []
  m_l_refused : mg "_law_refused" = some (.ref a_l_refused)
  a_law : Addr
  fd_law : FuncData
  F_law : Fun K "law" "law" S_law a_law fd_law
  B_law : Binds K fd_law ["script"] []
  m_law : mg "law" = some (.ref a_law)
  z_ValueError : mg "ValueError" = none
  z_bool : mg "bool" = none
  z_dict : mg "dict" = none
  z_enumerate : mg "enumerate" = none
  z_int : mg "int" = none
  z_isinstance : mg "isinstance" = none
  z_len : mg "len" = none
  z_list : mg "list" = none
  z_max : mg "max" = none
  z_range : mg "range" = none
  z_sorted : mg "sorted" = none
  z_tuple : mg "tuple" = none
  c_FREE : ∃ t, mg "FREE" = some (.str "." t)
  g_STEPS : GDict K w mg "STEPS" tab_STEPS
  C_NoWay : Addr
  k_NoWay : mg "NoWay" = some (.ref C_NoWay)
  i_NoWay : XIsL K ["NoPlace"] "NoWay" (.ref C_NoWay)
  C_NoAsk : Addr
  k_NoAsk : mg "NoAsk" = some (.ref C_NoAsk)
  i_NoAsk : XIsL K ["NoPlace"] "NoAsk" (.ref C_NoAsk)
  C_NoGrid : Addr
  k_NoGrid : mg "NoGrid" = some (.ref C_NoGrid)
  i_NoGrid : XIsL K ["NoPlace"] "NoGrid" (.ref C_NoGrid)
  C_NoPlace : Addr
  k_NoPlace : mg "NoPlace" = some (.ref C_NoPlace)
  i_NoPlace : XIsL K ["NoPlace"] "NoPlace" (.ref C_NoPlace)
  C_NoRuns : Addr
  k_NoRuns : mg "NoRuns" = some (.ref C_NoRuns)
  i_NoRuns : XIsL K ["NoPlace"] "NoRuns" (.ref C_NoRuns)
  C_TurnError : Addr
  k_TurnError : mg "TurnError" = some (.ref C_TurnError)
  i_TurnError : XIsL K ["NoPlace"] "TurnError" (.ref C_TurnError)
  i_ValueError : XIsL K ["NoPlace"] "ValueError" (.type "ValueError")
  xf_place : XfIn K ["NoPlace"] "place"
  x_NoWay : XPlain K mg "NoWay"
  t_TurnError : ∀ nm C, catL ["NoPlace"] nm = true → PySem.W.nsIn K mainGlobals nm = some (some (.ref C)) → PySem.W.exmOne K (.ref C) (.ref C_TurnError) = some true
  R_NoPlace : RaisesK P w K mg "NoPlace" "place" okP
section
variable {P : Program} {w : World} {K : PySem.W.Frag} {mg : Str → Option Value} {base : Heap}
def Wt_is_free : WS := (wSeq (wAsg (wVar 1) (gvTup 2 (gvCons (gvName 2) (gvCons (gvName 3) gvNil)))) (wSeq (wIfS (wOr (wTst (wOp2 (gI0 fun i j => .bool (decide (i < j))) (wVar 2) (wC (.int 0)))) (wTst (wOp2 (gI0 fun i j => .bool (decide (j ≤ i))) (wVar 2) (wCB gLen (wCons (wVar 0) wNil))))) (wRet (wC (.bool false))) wNext) (wSeq (wIfS (wOr (wTst (wOp2 (gI0 fun i j => .bool (decide (i < j))) (wVar 3) (wC (.int 0)))) (wTst (wOp2 (gI0 fun i j => .bool (decide (j ≤ i))) (wVar 3) (wCB gLen (wCons (wIx (wVar 0) (wVar 2)) wNil))))) (wRet (wC (.bool false))) wNext) ((wRet (wOp2 gEq (wIx (wIx (wVar 0) (wVar 2)) (wVar 3)) (wC (.str (Str.ofString ".")))))))))
theorem e_is_free : Wt_is_free = W_is_free := rfl
theorem d_is_free (T : Txt P K w mg)  {f : Addr} {cdv : Value} {A : Around} {outer : List Env} {s : Shared} {H : Hp} {E : XK} (hr : Room 0 (A.deeper (envOfC "is_free" (defScope S_is_free) s.heap.objs.size f cdv))) : DSs (cxOf CX0 P w K mg base N_is_free "is_free" (defScope S_is_free) f cdv A outer s H E).nox (defBody S_is_free) Wt_is_free :=
  (dss_cons (ds_asg (de_var 1) (dg_tup rfl (dgs_cons (dg_name (i := 2) sc_is_free.nd rfl (by first | exact Or.inl rfl | exact Or.inr rfl)) (dgs_cons (dg_name (i := 3) sc_is_free.nd rfl (by first | exact Or.inl rfl | exact Or.inr rfl)) dgs_nil))))
    (dss_cons (ds_if (DW.dt (dw_or (dt_cmp op_lt (o_I0 fun _ _ => .bl _) (de_var 2) de_int (nomark _)) (dw_or1 (dt_cmp op_ge (o_I0 fun _ _ => .bl _) (de_var 2) (de_b call_len o_len (by rfl) T.z_len (by decide +kernel) (da_cons (de_var 0) da_nil)) (nomark _))))) (dss_one (ds_ret de_bl)) dss_nil)
    (dss_cons (ds_if (DW.dt (dw_or (dt_cmp op_lt (o_I0 fun _ _ => .bl _) (de_var 3) de_int (nomark _)) (dw_or1 (dt_cmp op_ge (o_I0 fun _ _ => .bl _) (de_var 3) (de_b call_len o_len (by rfl) T.z_len (by decide +kernel) (da_cons (de_ix (de_var 0) (de_var 2)) da_nil)) (nomark _))))) (dss_one (ds_ret de_bl)) dss_nil)
    (dss_one (ds_ret (de_cmp (op_eqA hr.units) o_eq (de_ix (de_ix (de_var 0) (de_var 2)) (de_var 3)) (de_c (v := .str (Str.ofString ".")) (pe_glob (by rfl) T.c_FREE.choose_spec ⟨_, rfl⟩) fun _ => .str _) (nomark _)))))))
theorem ok_is_free (T : Txt P K w mg) : FnOk P w K mg base CX0 1 T.a_is_free T.fd_is_free ["grid", "place"] (spD K 2 phi_is_free) :=
  fnD T.F_is_free sc_is_free fun cdv A outer s H E hr => ⟨W_is_free, e_is_free ▸ d_is_free T  hr, fun ts Q hl h => v_is_free ts Q h⟩
def Wt_places_with : WS := ((wRet (wLc2 [2, 3, 4, 5] [4, 5] (wEnumA (wCons (wVar 0) wNil)) (gvTup 2 (gvCons (gvName 2) (gvCons (gvName 3) gvNil))) wYes (wEnumA (wCons (wVar 3) wNil)) (gvTup 2 (gvCons (gvName 4) (gvCons (gvName 5) gvNil))) (wTst (wOp2 gEq (wVar 5) (wVar 1))) (wTup (wCons (wVar 2) (wCons (wVar 4) wNil))))))
theorem e_places_with : Wt_places_with = W_places_with := rfl
theorem d_places_with (T : Txt P K w mg)  {f : Addr} {cdv : Value} {A : Around} {outer : List Env} {s : Shared} {H : Hp} {E : XK} (hr : Room 0 (A.deeper (envOfC "places_with" (defScope S_places_with) s.heap.objs.size f cdv))) : DSs (cxOf CX0 P w K mg base N_places_with "places_with" (defScope S_places_with) f cdv A outer s H E).nox (defBody S_places_with) Wt_places_with :=
  (dss_one (ds_ret (de_lc2 (own := [((Str.ofString "row"), 2), ((Str.ofString "line"), 3), ((Str.ofString "column"), 4), ((Str.ofString "there"), 5)]) (vs := [2, 3, 4, 5]) (vs1 := [4, 5]) rfl (by decide) (by decide) rfl sc_places_with.nd (di_enumA (by rfl) T.z_enumerate (da_cons (de_var 0) da_nil)) (blkOk_by (own := [((Str.ofString "row"), 2), ((Str.ofString "line"), 3), ((Str.ofString "column"), 4), ((Str.ofString "there"), 5)]) (N := N_places_with) (sc := defScope S_places_with) (by decide +kernel)) (fun _ _ _ _ _ => (dgw_tup rfl (dgws_cons (dgw_name (i := 2) (by decide) sc_places_with.nd rfl (by first | exact Or.inl rfl | exact Or.inr rfl)) (dgws_cons (dgw_name (i := 3) (by decide) sc_places_with.nd rfl (by first | exact Or.inl rfl | exact Or.inr rfl)) dgws_nil)))) (fun _ _ _ _ _ => dts_nil) (fun _ _ _ _ _ => (di_enumA (by rfl) T.z_enumerate (da_cons (de_var 3) da_nil))) (fun _ _ _ _ _ => (dgw_tup rfl (dgws_cons (dgw_name (i := 4) (by decide) sc_places_with.nd rfl (by first | exact Or.inl rfl | exact Or.inr rfl)) (dgws_cons (dgw_name (i := 5) (by decide) sc_places_with.nd rfl (by first | exact Or.inl rfl | exact Or.inr rfl)) dgws_nil)))) (fun _ _ _ _ _ => (dts_one (dt_cmp (op_eqA hr.units) o_eq (de_var 5) (de_var 1) (nomark _)))) (fun _ _ _ _ _ => (de_tup (da_cons (de_var 2) (da_cons (de_var 4) da_nil)))))))
theorem ok_places_with (T : Txt P K w mg) : FnOk P w K mg base CX0 1 T.a_places_with T.fd_places_with ["grid", "sign"] (spD K 2 phi_places_with) :=
  fnD T.F_places_with sc_places_with fun cdv A outer s H E hr => ⟨W_places_with, e_places_with ▸ d_places_with T  hr, fun ts Q hl h => v_places_with ts Q h⟩
def Wt_place_beside : WS := (wSeq (wAsg (wGdIx tab_STEPS (wVar 1)) (gvTup 2 (gvCons (gvName 2) (gvCons (gvName 3) gvNil)))) ((wRet (wTup (wCons (wOp2 gAdd (wIx (wVar 0) (wC (.int 0))) (wVar 2)) (wCons (wOp2 gAdd (wIx (wVar 0) (wC (.int 1))) (wVar 3)) wNil))))))
theorem e_place_beside : Wt_place_beside = W_place_beside := rfl
theorem d_place_beside (T : Txt P K w mg)  {f : Addr} {cdv : Value} {A : Around} {outer : List Env} {s : Shared} {H : Hp} {E : XK} (hr : Room 0 (A.deeper (envOfC "place_beside" (defScope S_place_beside) s.heap.objs.size f cdv))) : DSs (cxOf CX0 P w K mg base N_place_beside "place_beside" (defScope S_place_beside) f cdv A outer s H E).nox (defBody S_place_beside) Wt_place_beside :=
  (dss_cons (ds_asg (de_gdIx (by rfl) T.g_STEPS (de_var 1)) (dg_tup rfl (dgs_cons (dg_name (i := 2) sc_place_beside.nd rfl (by first | exact Or.inl rfl | exact Or.inr rfl)) (dgs_cons (dg_name (i := 3) sc_place_beside.nd rfl (by first | exact Or.inl rfl | exact Or.inr rfl)) dgs_nil))))
    (dss_one (ds_ret (de_tup (da_cons (de_op2 op_addA o_add (de_ix (de_var 0) de_int) (de_var 2)) (da_cons (de_op2 op_addA o_add (de_ix (de_var 0) de_int) (de_var 3)) da_nil))))))
theorem ok_place_beside (T : Txt P K w mg) : FnOk P w K mg base CX0 1 T.a_place_beside T.fd_place_beside ["place", "heading"] (spD K 2 phi_place_beside) :=
  fnD T.F_place_beside sc_place_beside fun cdv A outer s H E hr => ⟨W_place_beside, e_place_beside ▸ d_place_beside T  hr, fun ts Q hl h => v_place_beside ts Q h⟩
def Wt_layers_of : WS := (wSeq (wSet (wOneT (wVar 1) (wC (.bool true))) 2) (wSeq (wSet (wLst wNil) 3) (wSeq (wSet (wLst (wCons (wVar 1) wNil)) 4) (wSeq (wWhile (wTru (wVar 4)) (wSeq (wApp 3 (wVar 4)) (wSeq (wSet (wLst wNil) 5) (wSeq (wFor (wIterA (wVar 4)) (gvName 6) (wFor (wKeysT (wIxT (wVar 0) (wVar 6))) (gvName 7) (wIfS (wTst (wInT not (wVar 7) (wVar 2))) (wSeq (wPutT 2 (wVar 7) (wC (.bool true))) ((wApp 5 (wVar 7)))) wNext))) ((wSet (wVar 5) 4)))))) ((wRet (wVar 3)))))))
theorem e_layers_of : Wt_layers_of = W_layers_of := rfl
theorem d_layers_of (T : Txt P K w mg)  {f : Addr} {cdv : Value} {A : Around} {outer : List Env} {s : Shared} {H : Hp} {E : XK} (hr : Room 0 (A.deeper (envOfC "layers_of" (defScope S_layers_of) s.heap.objs.size f cdv))) : DSs (cxOf CX0 P w K mg base N_layers_of "layers_of" (defScope S_layers_of) f cdv A outer s H E).nox (defBody S_layers_of) Wt_layers_of :=
  (dss_cons (ds_set (i := 2) sc_layers_of.nd rfl (by first | exact Or.inl rfl | exact Or.inr rfl) (de_oneT hr (de_var 1) de_bl))
    (dss_cons (ds_set (i := 3) sc_layers_of.nd rfl (by first | exact Or.inl rfl | exact Or.inr rfl) (de_lst da_nil))
    (dss_cons (ds_set (i := 4) sc_layers_of.nd rfl (by first | exact Or.inl rfl | exact Or.inr rfl) (de_lst (da_cons (de_var 1) da_nil)))
    (dss_cons (ds_while PassesOwn.never (dt_tru (de_var 4)) (dss_cons (ds_app (i := 3) rfl (by first | exact Or.inl rfl | exact Or.inr (Or.inl rfl) | exact Or.inr (Or.inr rfl)) (de_var 4))
    (dss_cons (ds_set (i := 5) sc_layers_of.nd rfl (by first | exact Or.inl rfl | exact Or.inr rfl) (de_lst da_nil))
    (dss_cons (ds_for PassesOwn.never rfl (di_any (de_var 4)) (dg_name (i := 6) sc_layers_of.nd rfl (by first | exact Or.inl rfl | exact Or.inr rfl)) (dss_one (ds_for PassesOwn.never rfl (di_keysT (de_ixT hr (de_var 0) (de_var 6))) (dg_name (i := 7) sc_layers_of.nd rfl (by first | exact Or.inl rfl | exact Or.inr rfl)) (dss_one (ds_if (dt_ninT hr (de_var 7) (de_var 2)) (dss_cons (ds_putT (i := 2) hr rfl (by first | exact Or.inl rfl | exact Or.inr (Or.inl rfl) | exact Or.inr (Or.inr rfl)) (de_var 7) de_bl)
    (dss_one (ds_app (i := 5) rfl (by first | exact Or.inl rfl | exact Or.inr (Or.inl rfl) | exact Or.inr (Or.inr rfl)) (de_var 7)))) dss_nil)))))
    (dss_one (ds_set (i := 4) sc_layers_of.nd rfl (by first | exact Or.inl rfl | exact Or.inr rfl) (de_var 5)))))))
    (dss_one (ds_ret (de_var 3)))))))
theorem ok_layers_of (T : Txt P K w mg) : FnOk P w K mg base CX0 1 T.a_layers_of T.fd_layers_of ["sights", "place"] (spD K 2 phi_layers_of) :=
  fnD T.F_layers_of sc_layers_of fun cdv A outer s H E hr => ⟨W_layers_of, e_layers_of ▸ d_layers_of T  hr, fun ts Q hl h => v_layers_of ts Q h⟩
def Wt_l_folded : WS := (wSeq (wSet (wCB gLen (wCons (wVar 0) wNil)) 1) (wSeq (wFor (wIterA (wVar 0)) (gvName 2) (wSet (wOp2 (gI (fun i j => .int (i % j)) fun _ j => 0 < j) (wOp2 gAdd (wOp2 (gI (fun i j => .int (i * j)) CMul) (wVar 1) (wC (.int 48271))) (wOp2 (gI (fun i j => .int (i % j)) fun _ j => 0 < j) (wVar 2) (wC (.int 2147483629)))) (wC (.int 2147483647))) 1)) ((wRet (wVar 1)))))
theorem e_l_folded : Wt_l_folded = W_l_folded := rfl
theorem d_l_folded (T : Txt P K w mg)  {f : Addr} {cdv : Value} {A : Around} {outer : List Env} {s : Shared} {H : Hp} {E : XK} (hr : Room 0 (A.deeper (envOfC "_law_folded" (defScope S_l_folded) s.heap.objs.size f cdv))) : DSs (cxOf CX0 P w K mg base N_l_folded "_law_folded" (defScope S_l_folded) f cdv A outer s H E).nox (defBody S_l_folded) Wt_l_folded :=
  (dss_cons (ds_set (i := 1) sc_l_folded.nd rfl (by first | exact Or.inl rfl | exact Or.inr rfl) (de_b call_len o_len (by rfl) T.z_len (by decide +kernel) (da_cons (de_var 0) da_nil)))
    (dss_cons (ds_for PassesOwn.never rfl (di_any (de_var 0)) (dg_name (i := 2) sc_l_folded.nd rfl (by first | exact Or.inl rfl | exact Or.inr rfl)) (dss_one (ds_set (i := 1) sc_l_folded.nd rfl (by first | exact Or.inl rfl | exact Or.inr rfl) (de_op2 op_mod (o_I fun _ _ => .int _) (de_op2 op_addA o_add (de_op2 op_mul (o_I fun _ _ => .int _) (de_var 1) de_int) (de_op2 op_mod (o_I fun _ _ => .int _) (de_var 2) de_int)) de_int))))
    (dss_one (ds_ret (de_var 1)))))
theorem ok_l_folded (T : Txt P K w mg) : FnOk P w K mg base CX0 1 T.a_l_folded T.fd_l_folded ["script"] (spD K 1 phi_l_folded) :=
  fnD T.F_l_folded sc_l_folded fun cdv A outer s H E hr => ⟨W_l_folded, e_l_folded ▸ d_l_folded T  hr, fun ts Q hl h => v_l_folded ts Q h⟩
def Wt_l_seed : WS := (wSeq (wSet (wCB gMax (wCons (wVar 0) (wCons (wOp2 (gI0 fun i j => .int (i - j)) (wC (.int 0)) (wVar 0)) wNil))) 1) ((wRet (wLst (wCons (wVar 1) (wCons (wCB gInt (wCons (wOp2 (gI0 fun i j => .bool (decide (j ≤ i))) (wVar 1) (wOp2 (gI (fun i j => .int (i ^ j.toNat)) CPow) (wC (.int 10)) (wC (.int 18)))) wNil)) (wCons (wC (.int 0)) (wCons (wOp2 (gI (fun i j => .int (i % j)) fun _ j => 0 < j) (wVar 0) (wC (.int 1999999913))) wNil))))))))
theorem e_l_seed : Wt_l_seed = W_l_seed := rfl
theorem d_l_seed (T : Txt P K w mg)  {f : Addr} {cdv : Value} {A : Around} {outer : List Env} {s : Shared} {H : Hp} {E : XK} (hr : Room 0 (A.deeper (envOfC "_law_seed" (defScope S_l_seed) s.heap.objs.size f cdv))) : DSs (cxOf CX0 P w K mg base N_l_seed "_law_seed" (defScope S_l_seed) f cdv A outer s H E).nox (defBody S_l_seed) Wt_l_seed :=
  (dss_cons (ds_set (i := 1) sc_l_seed.nd rfl (by first | exact Or.inl rfl | exact Or.inr rfl) (de_b (call_max2 rfl) o_max (by rfl) T.z_max (by decide +kernel) (da_cons (de_var 0) (da_cons (de_op2 op_sub (o_I0 fun _ _ => .int _) de_int (de_var 0)) da_nil))))
    (dss_one (ds_ret (de_lst (da_cons (de_var 1) (da_cons (de_ty call_int1 o_int (by rfl) T.z_int (by decide +kernel) (da_cons (de_cmp op_ge (o_I0 fun _ _ => .bl _) (de_var 1) (de_op2 op_pow (o_I fun _ _ => .int _) de_int de_int) (nomark _)) da_nil)) (da_cons de_int (da_cons (de_op2 op_mod (o_I fun _ _ => .int _) (de_var 0) de_int) da_nil))))))))
theorem ok_l_seed (T : Txt P K w mg) : FnOk P w K mg base CX0 1 T.a_l_seed T.fd_l_seed ["cell"] (spD K 1 phi_l_seed) :=
  fnD T.F_l_seed sc_l_seed fun cdv A outer s H E hr => ⟨W_l_seed, e_l_seed ▸ d_l_seed T  hr, fun ts Q hl h => v_l_seed ts Q h⟩
def Wt_l_draw : WS := (wSeq (wSub 0 (wC (.int 2)) (wOp2 gAdd (wIx (wVar 0) (wC (.int 2))) (wC (.int 1)))) (wSeq (wIfS (wAnd (wTst (wOp2 gEq (wIx (wVar 0) (wC (.int 1))) (wC (.int 1)))) (wTst (wOp2 (gI0 fun i j => .bool (decide (j < i))) (wIx (wVar 0) (wC (.int 0))) (wC (.int 0))))) (wSeq (wSet (wOp2 (gI (fun i j => .int (i % j)) fun _ j => 0 < j) (wIx (wVar 0) (wC (.int 0))) (wVar 1)) 2) (wSeq (wSub 0 (wC (.int 0)) (wOp2 (gI (fun i j => .int (i / j)) CDiv) (wIx (wVar 0) (wC (.int 0))) (wVar 1))) ((wRet (wVar 2))))) wNext) (wSeq (wSet (wOp2 (gI (fun i j => .int (i % j)) fun _ j => 0 < j) (wOp2 (gI (fun i j => .int (i * j)) CMul) (wOp2 gAdd (wOp2 gAdd (wIx (wVar 0) (wC (.int 3))) (wOp2 (gI (fun i j => .int (i * j)) CMul) (wC (.int 6997)) (wIx (wVar 0) (wC (.int 2))))) (wC (.int 11))) (wC (.int 48271))) (wC (.int 2147483647))) 3) (wSeq (wSet (wOp2 (gI (fun i j => .int (i % j)) fun _ j => 0 < j) (wOp2 (gI (fun i j => .int (i * j)) CMul) (wOp2 (gI (fun i j => .int (i % j)) fun _ j => 0 < j) (wOp2 (gI (fun i j => .int (i * j)) CMul) (wVar 3) (wVar 3)) (wC (.int 2147483629))) (wC (.int 40692))) (wC (.int 2147483399))) 3) ((wRet (wOp2 (gI (fun i j => .int (i % j)) fun _ j => 0 < j) (wOp2 (gI (fun i j => .int (i / j)) CDiv) (wVar 3) (wC (.int 7))) (wVar 1))))))))
theorem e_l_draw : Wt_l_draw = W_l_draw := rfl
theorem d_l_draw (T : Txt P K w mg)  {f : Addr} {cdv : Value} {A : Around} {outer : List Env} {s : Shared} {H : Hp} {E : XK} (hr : Room 0 (A.deeper (envOfC "_law_draw" (defScope S_l_draw) s.heap.objs.size f cdv))) : DSs (cxOf CX0 P w K mg base N_l_draw "_law_draw" (defScope S_l_draw) f cdv A outer s H E).nox (defBody S_l_draw) Wt_l_draw :=
  (dss_cons (ds_sub (i := 0) rfl (by first | exact Or.inl rfl | exact Or.inr (Or.inl rfl) | exact Or.inr (Or.inr rfl)) de_int (de_op2 op_addA o_add (de_ix (de_var 0) de_int) de_int))
    (dss_cons (ds_if (DW.dt (dw_and (dt_cmp (op_eqA hr.units) o_eq (de_ix (de_var 0) de_int) de_int (nomark _)) (dw_and1 (dt_cmp op_gt (o_I0 fun _ _ => .bl _) (de_ix (de_var 0) de_int) de_int (nomark _))))) (dss_cons (ds_set (i := 2) sc_l_draw.nd rfl (by first | exact Or.inl rfl | exact Or.inr rfl) (de_op2 op_mod (o_I fun _ _ => .int _) (de_ix (de_var 0) de_int) (de_var 1)))
    (dss_cons (ds_sub (i := 0) rfl (by first | exact Or.inl rfl | exact Or.inr (Or.inl rfl) | exact Or.inr (Or.inr rfl)) de_int (de_op2 op_fdiv (o_I fun _ _ => .int _) (de_ix (de_var 0) de_int) (de_var 1)))
    (dss_one (ds_ret (de_var 2))))) dss_nil)
    (dss_cons (ds_set (i := 3) sc_l_draw.nd rfl (by first | exact Or.inl rfl | exact Or.inr rfl) (de_op2 op_mod (o_I fun _ _ => .int _) (de_op2 op_mul (o_I fun _ _ => .int _) (de_op2 op_addA o_add (de_op2 op_addA o_add (de_ix (de_var 0) de_int) (de_op2 op_mul (o_I fun _ _ => .int _) de_int (de_ix (de_var 0) de_int))) de_int) de_int) de_int))
    (dss_cons (ds_set (i := 3) sc_l_draw.nd rfl (by first | exact Or.inl rfl | exact Or.inr rfl) (de_op2 op_mod (o_I fun _ _ => .int _) (de_op2 op_mul (o_I fun _ _ => .int _) (de_op2 op_mod (o_I fun _ _ => .int _) (de_op2 op_mul (o_I fun _ _ => .int _) (de_var 3) (de_var 3)) de_int) de_int) de_int))
    (dss_one (ds_ret (de_op2 op_mod (o_I fun _ _ => .int _) (de_op2 op_fdiv (o_I fun _ _ => .int _) (de_var 3) de_int) (de_var 1))))))))
theorem ok_l_draw (T : Txt P K w mg) : FnOk P w K mg base CX0 1 T.a_l_draw T.fd_l_draw ["seed", "most"] (spD K 2 phi_l_draw) :=
  fnD T.F_l_draw sc_l_draw fun cdv A outer s H E hr => ⟨W_l_draw, e_l_draw ▸ d_l_draw T  hr, fun ts Q hl h => v_l_draw ts Q h⟩
def Wt_l_spiral : WS := (wSeq (wSet (wOneT (wTup (wCons (wC (.int 0)) (wCons (wC (.int 0)) wNil))) (wC (.bool true))) 2) (wSeq (wSet (wTup (wCons (wC (.int 0)) (wCons (wC (.int 0)) wNil))) 3) (wSeq (wSet (wC (.int 0)) 4) (wSeq (wSet (wC (.int 0)) 5) (wSeq (wWhile (wTst (wOp2 (gI0 fun i j => .bool (decide (i < j))) (wVar 5) (wC (.int 2)))) (wSeq (wAsg (wIx (wLst (wCons (wTup (wCons (wC (.int 0)) (wCons (wC (.int 1)) wNil))) (wCons (wTup (wCons (wC (.int 1)) (wCons (wC (.int 0)) wNil))) (wCons (wTup (wCons (wC (.int 0)) (wCons (wNeg (wC (.int 1))) wNil))) (wCons (wTup (wCons (wNeg (wC (.int 1))) (wCons (wC (.int 0)) wNil))) wNil))))) (wVar 4)) (gvTup 2 (gvCons (gvName 6) (gvCons (gvName 7) gvNil)))) (wSeq (wSet (wTup (wCons (wOp2 gAdd (wIx (wVar 3) (wC (.int 0))) (wVar 6)) (wCons (wOp2 gAdd (wIx (wVar 3) (wC (.int 1))) (wVar 7)) wNil))) 8) (wSeq (wSet (wTup (wCons (wOp2 gAdd (wIx (wVar 8) (wC (.int 0))) (wVar 6)) (wCons (wOp2 gAdd (wIx (wVar 8) (wC (.int 1))) (wVar 7)) wNil))) 9) ((wIfS (wAnd (wTst (wChain (gI0 fun i j => .bool (decide (i ≤ j))) (gI0 fun i j => .bool (decide (i < j))) (wC (.int 0)) (wIx (wVar 8) (wC (.int 0))) (wVar 0))) (wAnd (wTst (wChain (gI0 fun i j => .bool (decide (i ≤ j))) (gI0 fun i j => .bool (decide (i < j))) (wC (.int 0)) (wIx (wVar 8) (wC (.int 1))) (wVar 1))) (wAnd (wTst (wInT not (wVar 8) (wVar 2))) (wTst (wInT not (wVar 9) (wVar 2)))))) (wSeq (wPutT 2 (wVar 8) (wC (.bool true))) (wSeq (wSet (wVar 8) 3) ((wSet (wC (.int 0)) 5)))) (wSeq (wSet (wOp2 (gI (fun i j => .int (i % j)) fun _ j => 0 < j) (wOp2 gAdd (wVar 4) (wC (.int 1))) (wC (.int 4))) 4) ((wSet (wOp2 gAdd (wVar 5) (wC (.int 1))) 5))))))))) ((wRet (wMove 2))))))))
theorem e_l_spiral : Wt_l_spiral = W_l_spiral := rfl
theorem d_l_spiral (T : Txt P K w mg)  {f : Addr} {cdv : Value} {A : Around} {outer : List Env} {s : Shared} {H : Hp} {E : XK} (hr : Room 0 (A.deeper (envOfC "_law_spiral" (defScope S_l_spiral) s.heap.objs.size f cdv))) : DSs (cxOf CX0 P w K mg base N_l_spiral "_law_spiral" (defScope S_l_spiral) f cdv A outer s H E).nox (defBody S_l_spiral) Wt_l_spiral :=
  (dss_cons (ds_set (i := 2) sc_l_spiral.nd rfl (by first | exact Or.inl rfl | exact Or.inr rfl) (de_oneT hr (de_tup (da_cons de_int (da_cons de_int da_nil))) de_bl))
    (dss_cons (ds_set (i := 3) sc_l_spiral.nd rfl (by first | exact Or.inl rfl | exact Or.inr rfl) (de_tup (da_cons de_int (da_cons de_int da_nil))))
    (dss_cons (ds_set (i := 4) sc_l_spiral.nd rfl (by first | exact Or.inl rfl | exact Or.inr rfl) de_int)
    (dss_cons (ds_set (i := 5) sc_l_spiral.nd rfl (by first | exact Or.inl rfl | exact Or.inr rfl) de_int)
    (dss_cons (ds_while PassesOwn.never (dt_cmp op_lt (o_I0 fun _ _ => .bl _) (de_var 5) de_int (nomark _)) (dss_cons (ds_asg (de_ix (de_lst (da_cons (de_tup (da_cons de_int (da_cons de_int da_nil))) (da_cons (de_tup (da_cons de_int (da_cons de_int da_nil))) (da_cons (de_tup (da_cons de_int (da_cons (de_neg de_int) da_nil))) (da_cons (de_tup (da_cons (de_neg de_int) (da_cons de_int da_nil))) da_nil))))) (de_var 4)) (dg_tup rfl (dgs_cons (dg_name (i := 6) sc_l_spiral.nd rfl (by first | exact Or.inl rfl | exact Or.inr rfl)) (dgs_cons (dg_name (i := 7) sc_l_spiral.nd rfl (by first | exact Or.inl rfl | exact Or.inr rfl)) dgs_nil))))
    (dss_cons (ds_set (i := 8) sc_l_spiral.nd rfl (by first | exact Or.inl rfl | exact Or.inr rfl) (de_tup (da_cons (de_op2 op_addA o_add (de_ix (de_var 3) de_int) (de_var 6)) (da_cons (de_op2 op_addA o_add (de_ix (de_var 3) de_int) (de_var 7)) da_nil))))
    (dss_cons (ds_set (i := 9) sc_l_spiral.nd rfl (by first | exact Or.inl rfl | exact Or.inr rfl) (de_tup (da_cons (de_op2 op_addA o_add (de_ix (de_var 8) de_int) (de_var 6)) (da_cons (de_op2 op_addA o_add (de_ix (de_var 8) de_int) (de_var 7)) da_nil))))
    (dss_one (ds_if (DW.dt (dw_and (dt_chain op_le (o_I0 fun _ _ => .bl _) op_lt (o_I0 fun _ _ => .bl _) de_int (de_ix (de_var 8) de_int) (de_var 0)) (dw_and (dt_chain op_le (o_I0 fun _ _ => .bl _) op_lt (o_I0 fun _ _ => .bl _) de_int (de_ix (de_var 8) de_int) (de_var 1)) (dw_and (dt_ninT hr (de_var 8) (de_var 2)) (dw_and1 (dt_ninT hr (de_var 9) (de_var 2))))))) (dss_cons (ds_putT (i := 2) hr rfl (by first | exact Or.inl rfl | exact Or.inr (Or.inl rfl) | exact Or.inr (Or.inr rfl)) (de_var 8) de_bl)
    (dss_cons (ds_set (i := 3) sc_l_spiral.nd rfl (by first | exact Or.inl rfl | exact Or.inr rfl) (de_var 8))
    (dss_one (ds_set (i := 5) sc_l_spiral.nd rfl (by first | exact Or.inl rfl | exact Or.inr rfl) de_int)))) (dss_cons (ds_set (i := 4) sc_l_spiral.nd rfl (by first | exact Or.inl rfl | exact Or.inr rfl) (de_op2 op_mod (o_I fun _ _ => .int _) (de_op2 op_addA o_add (de_var 4) de_int) de_int))
    (dss_one (ds_set (i := 5) sc_l_spiral.nd rfl (by first | exact Or.inl rfl | exact Or.inr rfl) (de_op2 op_addA o_add (de_var 5) de_int))))))))))
    (dss_one (ds_ret (de_move (i := 2) rfl (by first | exact Or.inl rfl | exact Or.inr (Or.inl rfl) | exact Or.inr (Or.inr rfl))))))))))
theorem ok_l_spiral (T : Txt P K w mg) : FnOk P w K mg base CX0 1 T.a_l_spiral T.fd_l_spiral ["rows", "columns"] (spD K 2 phi_l_spiral) :=
  fnD T.F_l_spiral sc_l_spiral fun cdv A outer s H E hr => ⟨W_l_spiral, e_l_spiral ▸ d_l_spiral T  hr, fun ts Q hl h => v_l_spiral ts Q h⟩
def Wt_l_free : WS := (wSeq (wSet (wLst wNil) 1) (wSeq (wFor (wEnumA (wCons (wVar 0) wNil)) (gvTup 2 (gvCons (gvName 2) (gvCons (gvName 3) gvNil))) (wExt 1 (wLc [4, 5] (wEnumA (wCons (wVar 3) wNil)) (gvTup 2 (gvCons (gvName 4) (gvCons (gvName 5) gvNil))) (wTst (wOp2 gEq (wVar 5) (wC (.str (Str.ofString "."))))) (wTup (wCons (wVar 2) (wCons (wVar 4) wNil)))))) ((wRet (wVar 1)))))
theorem e_l_free : Wt_l_free = W_l_free := rfl
theorem d_l_free (T : Txt P K w mg)  {f : Addr} {cdv : Value} {A : Around} {outer : List Env} {s : Shared} {H : Hp} {E : XK} (hr : Room 0 (A.deeper (envOfC "_law_free" (defScope S_l_free) s.heap.objs.size f cdv))) : DSs (cxOf CX0 P w K mg base N_l_free "_law_free" (defScope S_l_free) f cdv A outer s H E).nox (defBody S_l_free) Wt_l_free :=
  (dss_cons (ds_set (i := 1) sc_l_free.nd rfl (by first | exact Or.inl rfl | exact Or.inr rfl) (de_lst da_nil))
    (dss_cons (ds_for PassesOwn.never rfl (di_enumA (by rfl) T.z_enumerate (da_cons (de_var 0) da_nil)) (dg_tup rfl (dgs_cons (dg_name (i := 2) sc_l_free.nd rfl (by first | exact Or.inl rfl | exact Or.inr rfl)) (dgs_cons (dg_name (i := 3) sc_l_free.nd rfl (by first | exact Or.inl rfl | exact Or.inr rfl)) dgs_nil))) (dss_one (ds_ext (i := 1) rfl (by first | exact Or.inl rfl | exact Or.inr (Or.inl rfl) | exact Or.inr (Or.inr rfl)) (de_lc (own := [((Str.ofString "column"), 4), ((Str.ofString "sign"), 5)]) (vs := [4, 5]) rfl (by decide) rfl sc_l_free.nd (di_enumA (by rfl) T.z_enumerate (da_cons (de_var 3) da_nil)) (blkOk_by (own := [((Str.ofString "column"), 4), ((Str.ofString "sign"), 5)]) (N := N_l_free) (sc := defScope S_l_free) (by decide +kernel)) (fun _ _ _ _ _ => (dgw_tup rfl (dgws_cons (dgw_name (i := 4) (by decide) sc_l_free.nd rfl (by first | exact Or.inl rfl | exact Or.inr rfl)) (dgws_cons (dgw_name (i := 5) (by decide) sc_l_free.nd rfl (by first | exact Or.inl rfl | exact Or.inr rfl)) dgws_nil)))) (fun _ _ _ _ _ => (dts_one (dt_cmp (op_eqA hr.units) o_eq (de_var 5) de_str (nomark _)))) (fun _ _ _ _ _ => (de_tup (da_cons (de_var 2) (da_cons (de_var 4) da_nil))))))))
    (dss_one (ds_ret (de_var 1)))))
theorem ok_l_free (T : Txt P K w mg) : FnOk P w K mg base CX0 1 T.a_l_free T.fd_l_free ["grid"] (spD K 1 phi_l_free) :=
  fnD T.F_l_free sc_l_free fun cdv A outer s H E hr => ⟨W_l_free, e_l_free ▸ d_l_free T  hr, fun ts Q hl h => v_l_free ts Q h⟩
def Wt_l_is : WS := (wSeq (wIfS (wOr (wNot (wTst (wIsL ["NoPlace"] "TurnError" (wVar 0)))) (wNot (wTst (wIsL ["NoPlace"] "ValueError" (wVar 0))))) (wRet (wC (.bool false))) wNext) (wSeq (wSet (wLst (wCons (wIsL ["NoPlace"] "NoPlace" (wVar 0)) (wCons (wIsL ["NoPlace"] "NoWay" (wVar 0)) (wCons (wIsL ["NoPlace"] "NoGrid" (wVar 0)) wNil)))) 2) (wSeq (wSet (wCat (wVar 2) (wLst (wCons (wIsL ["NoPlace"] "NoRuns" (wVar 0)) (wCons (wIsL ["NoPlace"] "NoAsk" (wVar 0)) wNil)))) 2) ((wRet (wOp2 gEq (wVar 2) (wLc [3] (wIterA (wLst (wCons (wC (.str (Str.ofString "place"))) (wCons (wC (.str (Str.ofString "way"))) (wCons (wC (.str (Str.ofString "grid"))) (wCons (wC (.str (Str.ofString "runs"))) (wCons (wC (.str (Str.ofString "ask"))) wNil))))))) (gvName 3) wYes (wOp2 gEq (wVar 3) (wVar 1)))))))))
theorem e_l_is : Wt_l_is = W_l_is := rfl
theorem d_l_is (T : Txt P K w mg)  {f : Addr} {cdv : Value} {A : Around} {outer : List Env} {s : Shared} {H : Hp} {E : XK} (hr : Room 0 (A.deeper (envOfC "_law_is" (defScope S_l_is) s.heap.objs.size f cdv))) : DSs (cxOf CX0 P w K mg base N_l_is "_law_is" (defScope S_l_is) f cdv A outer s H E).nox (defBody S_l_is) Wt_l_is :=
  (dss_cons (ds_if (DW.dt (dw_or (dt_not (dt_val (de_isL (by rfl) T.z_isinstance (by rfl) T.k_TurnError T.i_TurnError (de_var 0)))) (dw_or1 (dt_not (dt_val (de_isLB (by rfl) T.z_isinstance (by rfl) T.z_ValueError (by decide +kernel) T.i_ValueError (de_var 0))))))) (dss_one (ds_ret de_bl)) dss_nil)
    (dss_cons (ds_set (i := 2) sc_l_is.nd rfl (by first | exact Or.inl rfl | exact Or.inr rfl) (de_lst (da_cons (de_isL (by rfl) T.z_isinstance (by rfl) T.k_NoPlace T.i_NoPlace (de_var 0)) (da_cons (de_isL (by rfl) T.z_isinstance (by rfl) T.k_NoWay T.i_NoWay (de_var 0)) (da_cons (de_isL (by rfl) T.z_isinstance (by rfl) T.k_NoGrid T.i_NoGrid (de_var 0)) da_nil)))))
    (dss_cons (ds_set (i := 2) sc_l_is.nd rfl (by first | exact Or.inl rfl | exact Or.inr rfl) (de_cat (de_var 2) (de_lst (da_cons (de_isL (by rfl) T.z_isinstance (by rfl) T.k_NoRuns T.i_NoRuns (de_var 0)) (da_cons (de_isL (by rfl) T.z_isinstance (by rfl) T.k_NoAsk T.i_NoAsk (de_var 0)) da_nil)))))
    (dss_one (ds_ret (de_cmp (op_eqA hr.units) o_eq (de_var 2) (de_lc (own := [((Str.ofString "one"), 3)]) (vs := [3]) rfl (by decide) rfl sc_l_is.nd (di_any (de_lst (da_cons de_str (da_cons de_str (da_cons de_str (da_cons de_str (da_cons de_str da_nil))))))) (blkOk_by (own := [((Str.ofString "one"), 3)]) (N := N_l_is) (sc := defScope S_l_is) (by decide +kernel)) (fun _ _ _ _ _ => (dgw_name (i := 3) (by decide) sc_l_is.nd rfl (by first | exact Or.inl rfl | exact Or.inr rfl))) (fun _ _ _ _ _ => dts_nil) (fun _ _ _ _ _ => (de_cmp (op_eqA hr.units) o_eq (de_var 3) (de_var 1) (nomark _)))) (nomark _)))))))
theorem ok_l_is (T : Txt P K w mg) : FnOk P w K mg base CX0 1 T.a_l_is T.fd_l_is ["caught", "kind"] (spD K 2 phi_l_is) :=
  fnD T.F_l_is sc_l_is fun cdv A outer s H E hr => ⟨W_l_is, e_l_is ▸ d_l_is T  hr, fun ts Q hl h => v_l_is ts Q h⟩
def Wt_l_line : WS := (wSeq (wSet (wLst wNil) 4) (wSeq (wPar 5 6 (wCons (wOp2 gAdd (wIx (wVar 1) (wC (.int 0))) (wVar 2)) (wCons (wOp2 gAdd (wIx (wVar 1) (wC (.int 1))) (wVar 3)) wNil))) (wSeq (wWhile (wAnd (wTst (wChain (gI0 fun i j => .bool (decide (i ≤ j))) (gI0 fun i j => .bool (decide (i < j))) (wC (.int 0)) (wVar 5) (wCB gLen (wCons (wVar 0) wNil)))) (wAnd (wTst (wChain (gI0 fun i j => .bool (decide (i ≤ j))) (gI0 fun i j => .bool (decide (i < j))) (wC (.int 0)) (wVar 6) (wCB gLen (wCons (wIx (wVar 0) (wC (.int 0))) wNil)))) (wTst (wOp2 gEq (wIx (wIx (wVar 0) (wVar 5)) (wVar 6)) (wC (.str (Str.ofString "."))))))) (wSeq (wApp 4 (wTup (wCons (wVar 5) (wCons (wVar 6) wNil)))) ((wPar 5 6 (wCons (wOp2 gAdd (wVar 5) (wVar 2)) (wCons (wOp2 gAdd (wVar 6) (wVar 3)) wNil)))))) ((wRet (wVar 4))))))
theorem e_l_line : Wt_l_line = W_l_line := rfl
theorem d_l_line (T : Txt P K w mg)  {f : Addr} {cdv : Value} {A : Around} {outer : List Env} {s : Shared} {H : Hp} {E : XK} (hr : Room 0 (A.deeper (envOfC "_law_line" (defScope S_l_line) s.heap.objs.size f cdv))) : DSs (cxOf CX0 P w K mg base N_l_line "_law_line" (defScope S_l_line) f cdv A outer s H E).nox (defBody S_l_line) Wt_l_line :=
  (dss_cons (ds_set (i := 4) sc_l_line.nd rfl (by first | exact Or.inl rfl | exact Or.inr rfl) (de_lst da_nil))
    (dss_cons (ds_par (i := 5) (j := 6) rfl sc_l_line.nd rfl rfl (by decide) rfl rfl (da_cons (de_op2 op_addA o_add (de_ix (de_var 1) de_int) (de_var 2)) (da_cons (de_op2 op_addA o_add (de_ix (de_var 1) de_int) (de_var 3)) da_nil)) (by rfl))
    (dss_cons (ds_while PassesOwn.never (DW.dt (dw_and (dt_chain op_le (o_I0 fun _ _ => .bl _) op_lt (o_I0 fun _ _ => .bl _) de_int (de_var 5) (de_b call_len o_len (by rfl) T.z_len (by decide +kernel) (da_cons (de_var 0) da_nil))) (dw_and (dt_chain op_le (o_I0 fun _ _ => .bl _) op_lt (o_I0 fun _ _ => .bl _) de_int (de_var 6) (de_b call_len o_len (by rfl) T.z_len (by decide +kernel) (da_cons (de_ix (de_var 0) de_int) da_nil))) (dw_and1 (dt_cmp (op_eqA hr.units) o_eq (de_ix (de_ix (de_var 0) (de_var 5)) (de_var 6)) de_str (nomark _)))))) (dss_cons (ds_app (i := 4) rfl (by first | exact Or.inl rfl | exact Or.inr (Or.inl rfl) | exact Or.inr (Or.inr rfl)) (de_tup (da_cons (de_var 5) (da_cons (de_var 6) da_nil))))
    (dss_one (ds_par (i := 5) (j := 6) rfl sc_l_line.nd rfl rfl (by decide) rfl rfl (da_cons (de_op2 op_addA o_add (de_var 5) (de_var 2)) (da_cons (de_op2 op_addA o_add (de_var 6) (de_var 3)) da_nil)) (by rfl)))))
    (dss_one (ds_ret (de_var 4))))))
theorem ok_l_line (T : Txt P K w mg) : FnOk P w K mg base CX0 1 T.a_l_line T.fd_l_line ["grid", "place", "down", "right"] (spD K 4 phi_l_line) :=
  fnD T.F_l_line sc_l_line fun cdv A outer s H E hr => ⟨W_l_line, e_l_line ▸ d_l_line T  hr, fun ts Q hl h => v_l_line ts Q h⟩
def Wt_free_places : WS := ((wRet (wCall 2 [false, false] phi_places_with (wCons (wVar 0) (wCons (wC (.str (Str.ofString "."))) wNil)))))
theorem e_free_places : Wt_free_places = W_free_places := rfl
theorem d_free_places (T : Txt P K w mg) (G_places_with : FnOk P w K mg base CX0 1 T.a_places_with T.fd_places_with ["grid", "sign"] (spD K 2 phi_places_with)) {f : Addr} {cdv : Value} {A : Around} {outer : List Env} {s : Shared} {H : Hp} {E : XK} (hr : Room 1 (A.deeper (envOfC "free_places" (defScope S_free_places) s.heap.objs.size f cdv))) : DSs (cxOf CX0 P w K mg base N_free_places "free_places" (defScope S_free_places) f cdv A outer s H E).nox (defBody S_free_places) Wt_free_places :=
  (dss_one (ds_ret (de_call G_places_with (hr.mono (by decide)) (by rfl) T.m_places_with T.F_places_with.kp T.B_places_with [false, false] (da_cons (de_var 0) (da_cons (de_c (v := .str (Str.ofString ".")) (pe_glob (by rfl) T.c_FREE.choose_spec ⟨_, rfl⟩) fun _ => .str _) da_nil)))))
theorem ok_free_places (T : Txt P K w mg) : FnOk P w K mg base CX0 2 T.a_free_places T.fd_free_places ["grid"] (spD K 1 phi_free_places) :=
  fnD T.F_free_places sc_free_places fun cdv A outer s H E hr => ⟨W_free_places, e_free_places ▸ d_free_places T (ok_places_with T) hr, fun ts Q hl h => v_free_places ts Q h⟩
def Wt_sights_from : WS := (wSeq (wSet wNewT 2) (wSeq (wFor (wGdKeys tab_STEPS) (gvName 3) (wSeq (wSet (wVar 3) 4) (wSeq (wSet (wCall 2 [false, false] phi_place_beside (wCons (wVar 1) (wCons (wVar 3) wNil))) 5) ((wWhile (wTst (wCall 2 [false, false] phi_is_free (wCons (wVar 0) (wCons (wVar 5) wNil)))) (wSeq (wPutT 2 (wVar 5) (wVar 4)) (wSeq (wSet (wOp2 gAdd (wVar 4) (wVar 3)) 4) ((wSet (wCall 2 [false, false] phi_place_beside (wCons (wVar 5) (wCons (wVar 3) wNil))) 5))))))))) ((wRet (wMove 2)))))
theorem e_sights_from : Wt_sights_from = W_sights_from := rfl
theorem d_sights_from (T : Txt P K w mg) (G_is_free : FnOk P w K mg base CX0 1 T.a_is_free T.fd_is_free ["grid", "place"] (spD K 2 phi_is_free)) (G_place_beside : FnOk P w K mg base CX0 1 T.a_place_beside T.fd_place_beside ["place", "heading"] (spD K 2 phi_place_beside)) {f : Addr} {cdv : Value} {A : Around} {outer : List Env} {s : Shared} {H : Hp} {E : XK} (hr : Room 1 (A.deeper (envOfC "sights_from" (defScope S_sights_from) s.heap.objs.size f cdv))) : DSs (cxOf CX0 P w K mg base N_sights_from "sights_from" (defScope S_sights_from) f cdv A outer s H E).nox (defBody S_sights_from) Wt_sights_from :=
  (dss_cons (ds_set (i := 2) sc_sights_from.nd rfl (by first | exact Or.inl rfl | exact Or.inr rfl) de_newT)
    (dss_cons (ds_for PassesOwn.never rfl (di_gdKeys (by rfl) T.g_STEPS) (dg_name (i := 3) sc_sights_from.nd rfl (by first | exact Or.inl rfl | exact Or.inr rfl)) (dss_cons (ds_set (i := 4) sc_sights_from.nd rfl (by first | exact Or.inl rfl | exact Or.inr rfl) (de_var 3))
    (dss_cons (ds_set (i := 5) sc_sights_from.nd rfl (by first | exact Or.inl rfl | exact Or.inr rfl) (de_call G_place_beside (hr.mono (by decide)) (by rfl) T.m_place_beside T.F_place_beside.kp T.B_place_beside [false, false] (da_cons (de_var 1) (da_cons (de_var 3) da_nil))))
    (dss_one (ds_while PassesOwn.never (dt_val (de_call G_is_free (hr.mono (by decide)) (by rfl) T.m_is_free T.F_is_free.kp T.B_is_free [false, false] (da_cons (de_var 0) (da_cons (de_var 5) da_nil)))) (dss_cons (ds_putT (i := 2) hr rfl (by first | exact Or.inl rfl | exact Or.inr (Or.inl rfl) | exact Or.inr (Or.inr rfl)) (de_var 5) (de_var 4))
    (dss_cons (ds_set (i := 4) sc_sights_from.nd rfl (by first | exact Or.inl rfl | exact Or.inr rfl) (de_op2 op_addA o_add (de_var 4) (de_var 3)))
    (dss_one (ds_set (i := 5) sc_sights_from.nd rfl (by first | exact Or.inl rfl | exact Or.inr rfl) (de_call G_place_beside (hr.mono (by decide)) (by rfl) T.m_place_beside T.F_place_beside.kp T.B_place_beside [false, false] (da_cons (de_var 5) (da_cons (de_var 3) da_nil))))))))))))
    (dss_one (ds_ret (de_move (i := 2) rfl (by first | exact Or.inl rfl | exact Or.inr (Or.inl rfl) | exact Or.inr (Or.inr rfl)))))))
theorem ok_sights_from (T : Txt P K w mg) : FnOk P w K mg base CX0 2 T.a_sights_from T.fd_sights_from ["grid", "place"] (spD K 2 phi_sights_from) :=
  fnD T.F_sights_from sc_sights_from fun cdv A outer s H E hr => ⟨W_sights_from, e_sights_from ▸ d_sights_from T (ok_is_free T) (ok_place_beside T) hr, fun ts Q hl h => v_sights_from ts Q h⟩
def Wt_turns_by_sights : WS := (wSeq (wSet wNewT 2) (wSeq (wFor (wEnumA (wCons (wCall 2 [true, false] phi_layers_of (wCons (wVar 0) (wCons (wVar 1) wNil))) wNil)) (gvTup 2 (gvCons (gvName 3) (gvCons (gvName 4) gvNil))) (wFor (wIterA (wVar 4)) (gvName 5) (wPutT 2 (wVar 5) (wCB gMax (wCons (wC (.int 0)) (wCons (wOp2 (gI0 fun i j => .int (i - j)) (wVar 3) (wC (.int 1))) wNil)))))) ((wRet (wDc (.dt []) [5] (wIterA (wSortT (wVar 2))) (gvName 5) wYes (wVar 5) (wIxT (wVar 2) (wVar 5)))))))
theorem e_turns_by_sights : Wt_turns_by_sights = W_turns_by_sights := rfl
theorem d_turns_by_sights (T : Txt P K w mg) (G_layers_of : FnOk P w K mg base CX0 1 T.a_layers_of T.fd_layers_of ["sights", "place"] (spD K 2 phi_layers_of)) {f : Addr} {cdv : Value} {A : Around} {outer : List Env} {s : Shared} {H : Hp} {E : XK} (hr : Room 1 (A.deeper (envOfC "turns_by_sights" (defScope S_turns_by_sights) s.heap.objs.size f cdv))) : DSs (cxOf CX0 P w K mg base N_turns_by_sights "turns_by_sights" (defScope S_turns_by_sights) f cdv A outer s H E).nox (defBody S_turns_by_sights) Wt_turns_by_sights :=
  (dss_cons (ds_set (i := 2) sc_turns_by_sights.nd rfl (by first | exact Or.inl rfl | exact Or.inr rfl) de_newT)
    (dss_cons (ds_for PassesOwn.never rfl (di_enumA (by rfl) T.z_enumerate (da_cons (de_call G_layers_of (hr.mono (by decide)) (by rfl) T.m_layers_of T.F_layers_of.kp T.B_layers_of [true, false] (da_cons (de_var 0) (da_cons (de_var 1) da_nil))) da_nil)) (dg_tup rfl (dgs_cons (dg_name (i := 3) sc_turns_by_sights.nd rfl (by first | exact Or.inl rfl | exact Or.inr rfl)) (dgs_cons (dg_name (i := 4) sc_turns_by_sights.nd rfl (by first | exact Or.inl rfl | exact Or.inr rfl)) dgs_nil))) (dss_one (ds_for PassesOwn.never rfl (di_any (de_var 4)) (dg_name (i := 5) sc_turns_by_sights.nd rfl (by first | exact Or.inl rfl | exact Or.inr rfl)) (dss_one (ds_putT (i := 2) hr rfl (by first | exact Or.inl rfl | exact Or.inr (Or.inl rfl) | exact Or.inr (Or.inr rfl)) (de_var 5) (de_b (call_max2 rfl) o_max (by rfl) T.z_max (by decide +kernel) (da_cons de_int (da_cons (de_op2 op_sub (o_I0 fun _ _ => .int _) (de_var 3) de_int) da_nil))))))))
    (dss_one (ds_ret (de_dc (own := [((Str.ofString "at"), 5)]) (vs := [5]) hr (.inl rfl) rfl (by decide) rfl sc_turns_by_sights.nd (di_any (de_sortT hr rfl (by rfl) T.z_sorted (de_var 2))) (blkOk_by (own := [((Str.ofString "at"), 5)]) (N := N_turns_by_sights) (sc := defScope S_turns_by_sights) (by decide +kernel)) (fun _ _ _ _ _ => (dgw_name (i := 5) (by decide) sc_turns_by_sights.nd rfl (by first | exact Or.inl rfl | exact Or.inr rfl))) (fun _ _ _ _ _ => dts_nil) (fun _ _ _ _ _ => (de_var 5)) (fun _ _ _ _ _ => (de_ixT hr (de_var 2) (de_var 5))))))))
theorem ok_turns_by_sights (T : Txt P K w mg) : FnOk P w K mg base CX0 2 T.a_turns_by_sights T.fd_turns_by_sights ["sights", "place"] (spD K 2 phi_turns_by_sights) :=
  fnD T.F_turns_by_sights sc_turns_by_sights fun cdv A outer s H E hr => ⟨W_turns_by_sights, e_turns_by_sights ▸ d_turns_by_sights T (ok_layers_of T) hr, fun ts Q hl h => v_turns_by_sights ts Q h⟩
def Wt_l_sign : WS := (wSeq (wIfS (wTst (wOp2 (gI0 fun i j => .bool (decide (i < j))) (wVar 1) (wC (.int 3)))) (wRet (wOp2 gEq (wCall 2 [true, false] phi_l_draw (wCons (wVar 0) (wCons (wIx (wLst (wCons (wC (.int 2)) (wCons (wC (.int 3)) (wCons (wC (.int 5)) wNil)))) (wVar 1)) wNil))) (wC (.int 0)))) wNext) (wSeq (wIfS (wTst (wOp2 gEq (wVar 1) (wC (.int 3)))) (wRet (wC (.bool false))) wNext) (wSeq (wIfS (wTst (wOp2 gEq (wVar 1) (wC (.int 4)))) (wRet (wAndV (wOp2 gEq (wOp2 (gI (fun i j => .int (i % j)) fun _ j => 0 < j) (wVar 2) (wC (.int 2))) (wC (.int 1))) (wOp2 gNe (wVar 3) (wIx (wLst (wCons (wOp2 (gI0 fun i j => .int (i - j)) (wVar 4) (wC (.int 1))) (wCons (wC (.int 0)) wNil))) (wOp2 (gI (fun i j => .int (i % j)) fun _ j => 0 < j) (wOp2 (gI (fun i j => .int (i / j)) CDiv) (wVar 2) (wC (.int 2))) (wC (.int 2))))))) wNext) (wSeq (wIfS (wTst (wOp2 gEq (wVar 1) (wC (.int 5)))) (wRet (wAndV (wOp2 gEq (wOp2 (gI (fun i j => .int (i % j)) fun _ j => 0 < j) (wVar 3) (wC (.int 2))) (wC (.int 1))) (wOp2 gNe (wVar 2) (wIx (wLst (wCons (wC (.int 0)) (wCons (wC (.int 2)) wNil))) (wOp2 (gI (fun i j => .int (i % j)) fun _ j => 0 < j) (wOp2 (gI (fun i j => .int (i / j)) CDiv) (wVar 3) (wC (.int 2))) (wC (.int 2))))))) wNext) ((wRet (wAndV (wOp2 gEq (wOp2 (gI (fun i j => .int (i % j)) fun _ j => 0 < j) (wOp2 gAdd (wVar 2) (wVar 3)) (wC (.int 3))) (wC (.int 0))) (wOp2 gNe (wVar 2) (wVar 3)))))))))
theorem e_l_sign : Wt_l_sign = W_l_sign := rfl
theorem d_l_sign (T : Txt P K w mg) (G_l_draw : FnOk P w K mg base CX0 1 T.a_l_draw T.fd_l_draw ["seed", "most"] (spD K 2 phi_l_draw)) {f : Addr} {cdv : Value} {A : Around} {outer : List Env} {s : Shared} {H : Hp} {E : XK} (hr : Room 1 (A.deeper (envOfC "_law_sign" (defScope S_l_sign) s.heap.objs.size f cdv))) : DSs (cxOf CX0 P w K mg base N_l_sign "_law_sign" (defScope S_l_sign) f cdv A outer s H E).nox (defBody S_l_sign) Wt_l_sign :=
  (dss_cons (ds_if (dt_cmp op_lt (o_I0 fun _ _ => .bl _) (de_var 1) de_int (nomark _)) (dss_one (ds_ret (de_cmp (op_eqA hr.units) o_eq (de_call G_l_draw (hr.mono (by decide)) (by rfl) T.m_l_draw T.F_l_draw.kp T.B_l_draw [true, false] (da_cons (de_var 0) (da_cons (de_ix (de_lst (da_cons de_int (da_cons de_int (da_cons de_int da_nil)))) (de_var 1)) da_nil))) de_int (nomark _)))) dss_nil)
    (dss_cons (ds_if (dt_cmp (op_eqA hr.units) o_eq (de_var 1) de_int (nomark _)) (dss_one (ds_ret de_bl)) dss_nil)
    (dss_cons (ds_if (dt_cmp (op_eqA hr.units) o_eq (de_var 1) de_int (nomark _)) (dss_one (ds_ret (de_and (de_cmp (op_eqA hr.units) o_eq (de_op2 op_mod (o_I fun _ _ => .int _) (de_var 2) de_int) de_int (nomark _)) (de_one (de_cmp (op_neA hr.units) o_ne (de_var 3) (de_ix (de_lst (da_cons (de_op2 op_sub (o_I0 fun _ _ => .int _) (de_var 4) de_int) (da_cons de_int da_nil))) (de_op2 op_mod (o_I fun _ _ => .int _) (de_op2 op_fdiv (o_I fun _ _ => .int _) (de_var 2) de_int) de_int)) (nomark _)))))) dss_nil)
    (dss_cons (ds_if (dt_cmp (op_eqA hr.units) o_eq (de_var 1) de_int (nomark _)) (dss_one (ds_ret (de_and (de_cmp (op_eqA hr.units) o_eq (de_op2 op_mod (o_I fun _ _ => .int _) (de_var 3) de_int) de_int (nomark _)) (de_one (de_cmp (op_neA hr.units) o_ne (de_var 2) (de_ix (de_lst (da_cons de_int (da_cons de_int da_nil))) (de_op2 op_mod (o_I fun _ _ => .int _) (de_op2 op_fdiv (o_I fun _ _ => .int _) (de_var 3) de_int) de_int)) (nomark _)))))) dss_nil)
    (dss_one (ds_ret (de_and (de_cmp (op_eqA hr.units) o_eq (de_op2 op_mod (o_I fun _ _ => .int _) (de_op2 op_addA o_add (de_var 2) (de_var 3)) de_int) de_int (nomark _)) (de_one (de_cmp (op_neA hr.units) o_ne (de_var 2) (de_var 3) (nomark _))))))))))
theorem ok_l_sign (T : Txt P K w mg) : FnOk P w K mg base CX0 2 T.a_l_sign T.fd_l_sign ["seed", "kind", "row", "column", "columns"] (spD K 5 phi_l_sign) :=
  fnD T.F_l_sign sc_l_sign fun cdv A outer s H E hr => ⟨W_l_sign, e_l_sign ▸ d_l_sign T (ok_l_draw T) hr, fun ts Q hl h => v_l_sign ts Q h⟩
def Wt_l_bad_place : WS := (wSeq (wSet (wCB gLen (wCons (wVar 1) wNil)) 2) (wSeq (wSet (wCB gLen (wCons (wIx (wVar 1) (wC (.int 0))) wNil)) 3) (wSeq (wSet (wLst wNil) 4) (wSeq (wFor (wEnumA (wCons (wVar 1) wNil)) (gvTup 2 (gvCons (gvName 5) (gvCons (gvName 6) gvNil))) (wExt 4 (wLc [7, 8] (wEnumA (wCons (wVar 6) wNil)) (gvTup 2 (gvCons (gvName 7) (gvCons (gvName 8) gvNil))) (wTst (wOp2 gEq (wVar 8) (wC (.str (Str.ofString "#"))))) (wTup (wCons (wVar 5) (wCons (wVar 7) wNil)))))) (wSeq (wSet (wCall 2 [true, false] phi_l_draw (wCons (wVar 0) (wCons (wVar 2) wNil))) 5) (wSeq (wSet (wCall 2 [true, false] phi_l_draw (wCons (wVar 0) (wCons (wVar 3) wNil))) 7) (wSeq (wSet (wIx (wLst (wCons (wC (.int 1)) (wCons (wC (.int 2)) (wCons (wOp2 gAdd (wC (.int 1)) (wCall 2 [true, false] phi_l_draw (wCons (wVar 0) (wCons (wC (.int 999980)) wNil)))) wNil)))) (wCall 2 [true, false] phi_l_draw (wCons (wVar 0) (wCons (wC (.int 3)) wNil)))) 9) (wSeq (wSet (wLst (wCons (wTup (wCons (wOp2 (gI0 fun i j => .int (i - j)) (wC (.int 0)) (wVar 9)) (wCons (wVar 7) wNil))) (wCons (wTup (wCons (wOp2 gAdd (wOp2 (gI0 fun i j => .int (i - j)) (wVar 2) (wC (.int 1))) (wVar 9)) (wCons (wVar 7) wNil))) (wCons (wTup (wCons (wVar 5) (wCons (wOp2 (gI0 fun i j => .int (i - j)) (wC (.int 0)) (wVar 9)) wNil))) (wCons (wTup (wCons (wVar 5) (wCons (wOp2 gAdd (wOp2 (gI0 fun i j => .int (i - j)) (wVar 3) (wC (.int 1))) (wVar 9)) wNil))) (wCons (wTup (wCons (wNeg (wC (.int 1))) (wCons (wNeg (wC (.int 1))) wNil))) wNil)))))) 10) (wSeq (wSet (wCat (wVar 10) (wLst (wCons (wTup (wCons (wVar 2) (wCons (wVar 3) wNil))) (wCons (wTup (wCons (wOp2 (gI0 fun i j => .int (i - j)) (wC (.int 0)) (wVar 9)) (wCons (wOp2 (gI0 fun i j => .int (i - j)) (wC (.int 0)) (wVar 9)) wNil))) wNil)))) 10) (wSeq (wIfS (wTst (wOp2 gNe (wVar 4) (wLst wNil))) (wSet (wCat (wVar 10) (wLst (wCons (wIx (wVar 4) (wCall 2 [true, false] phi_l_draw (wCons (wVar 0) (wCons (wCB gLen (wCons (wVar 4) wNil)) wNil)))) (wCons (wIx (wVar 4) (wC (.int 0))) (wCons (wIx (wVar 4) (wNeg (wC (.int 1)))) (wCons (wIx (wVar 4) (wCall 2 [true, false] phi_l_draw (wCons (wVar 0) (wCons (wCB gLen (wCons (wVar 4) wNil)) wNil)))) wNil)))))) 10) wNext) ((wRet (wIx (wVar 10) (wCall 2 [true, false] phi_l_draw (wCons (wVar 0) (wCons (wCB gLen (wCons (wVar 10) wNil)) wNil))))))))))))))))
theorem e_l_bad_place : Wt_l_bad_place = W_l_bad_place := rfl
theorem d_l_bad_place (T : Txt P K w mg) (G_l_draw : FnOk P w K mg base CX0 1 T.a_l_draw T.fd_l_draw ["seed", "most"] (spD K 2 phi_l_draw)) {f : Addr} {cdv : Value} {A : Around} {outer : List Env} {s : Shared} {H : Hp} {E : XK} (hr : Room 1 (A.deeper (envOfC "_law_bad_place" (defScope S_l_bad_place) s.heap.objs.size f cdv))) : DSs (cxOf CX0 P w K mg base N_l_bad_place "_law_bad_place" (defScope S_l_bad_place) f cdv A outer s H E).nox (defBody S_l_bad_place) Wt_l_bad_place :=
  (dss_cons (ds_set (i := 2) sc_l_bad_place.nd rfl (by first | exact Or.inl rfl | exact Or.inr rfl) (de_b call_len o_len (by rfl) T.z_len (by decide +kernel) (da_cons (de_var 1) da_nil)))
    (dss_cons (ds_set (i := 3) sc_l_bad_place.nd rfl (by first | exact Or.inl rfl | exact Or.inr rfl) (de_b call_len o_len (by rfl) T.z_len (by decide +kernel) (da_cons (de_ix (de_var 1) de_int) da_nil)))
    (dss_cons (ds_set (i := 4) sc_l_bad_place.nd rfl (by first | exact Or.inl rfl | exact Or.inr rfl) (de_lst da_nil))
    (dss_cons (ds_for PassesOwn.never rfl (di_enumA (by rfl) T.z_enumerate (da_cons (de_var 1) da_nil)) (dg_tup rfl (dgs_cons (dg_name (i := 5) sc_l_bad_place.nd rfl (by first | exact Or.inl rfl | exact Or.inr rfl)) (dgs_cons (dg_name (i := 6) sc_l_bad_place.nd rfl (by first | exact Or.inl rfl | exact Or.inr rfl)) dgs_nil))) (dss_one (ds_ext (i := 4) rfl (by first | exact Or.inl rfl | exact Or.inr (Or.inl rfl) | exact Or.inr (Or.inr rfl)) (de_lc (own := [((Str.ofString "column"), 7), ((Str.ofString "sign"), 8)]) (vs := [7, 8]) rfl (by decide) rfl sc_l_bad_place.nd (di_enumA (by rfl) T.z_enumerate (da_cons (de_var 6) da_nil)) (blkOk_by (own := [((Str.ofString "column"), 7), ((Str.ofString "sign"), 8)]) (N := N_l_bad_place) (sc := defScope S_l_bad_place) (by decide +kernel)) (fun _ _ _ _ _ => (dgw_tup rfl (dgws_cons (dgw_name (i := 7) (by decide) sc_l_bad_place.nd rfl (by first | exact Or.inl rfl | exact Or.inr rfl)) (dgws_cons (dgw_name (i := 8) (by decide) sc_l_bad_place.nd rfl (by first | exact Or.inl rfl | exact Or.inr rfl)) dgws_nil)))) (fun _ _ _ _ _ => (dts_one (dt_cmp (op_eqA hr.units) o_eq (de_var 8) de_str (nomark _)))) (fun _ _ _ _ _ => (de_tup (da_cons (de_var 5) (da_cons (de_var 7) da_nil))))))))
    (dss_cons (ds_set (i := 5) sc_l_bad_place.nd rfl (by first | exact Or.inl rfl | exact Or.inr rfl) (de_call G_l_draw (hr.mono (by decide)) (by rfl) T.m_l_draw T.F_l_draw.kp T.B_l_draw [true, false] (da_cons (de_var 0) (da_cons (de_var 2) da_nil))))
    (dss_cons (ds_set (i := 7) sc_l_bad_place.nd rfl (by first | exact Or.inl rfl | exact Or.inr rfl) (de_call G_l_draw (hr.mono (by decide)) (by rfl) T.m_l_draw T.F_l_draw.kp T.B_l_draw [true, false] (da_cons (de_var 0) (da_cons (de_var 3) da_nil))))
    (dss_cons (ds_set (i := 9) sc_l_bad_place.nd rfl (by first | exact Or.inl rfl | exact Or.inr rfl) (de_ix (de_lst (da_cons de_int (da_cons de_int (da_cons (de_op2 op_addA o_add de_int (de_call G_l_draw (hr.mono (by decide)) (by rfl) T.m_l_draw T.F_l_draw.kp T.B_l_draw [true, false] (da_cons (de_var 0) (da_cons de_int da_nil)))) da_nil)))) (de_call G_l_draw (hr.mono (by decide)) (by rfl) T.m_l_draw T.F_l_draw.kp T.B_l_draw [true, false] (da_cons (de_var 0) (da_cons de_int da_nil)))))
    (dss_cons (ds_set (i := 10) sc_l_bad_place.nd rfl (by first | exact Or.inl rfl | exact Or.inr rfl) (de_lst (da_cons (de_tup (da_cons (de_op2 op_sub (o_I0 fun _ _ => .int _) de_int (de_var 9)) (da_cons (de_var 7) da_nil))) (da_cons (de_tup (da_cons (de_op2 op_addA o_add (de_op2 op_sub (o_I0 fun _ _ => .int _) (de_var 2) de_int) (de_var 9)) (da_cons (de_var 7) da_nil))) (da_cons (de_tup (da_cons (de_var 5) (da_cons (de_op2 op_sub (o_I0 fun _ _ => .int _) de_int (de_var 9)) da_nil))) (da_cons (de_tup (da_cons (de_var 5) (da_cons (de_op2 op_addA o_add (de_op2 op_sub (o_I0 fun _ _ => .int _) (de_var 3) de_int) (de_var 9)) da_nil))) (da_cons (de_tup (da_cons (de_neg de_int) (da_cons (de_neg de_int) da_nil))) da_nil)))))))
    (dss_cons (ds_set (i := 10) sc_l_bad_place.nd rfl (by first | exact Or.inl rfl | exact Or.inr rfl) (de_cat (de_var 10) (de_lst (da_cons (de_tup (da_cons (de_var 2) (da_cons (de_var 3) da_nil))) (da_cons (de_tup (da_cons (de_op2 op_sub (o_I0 fun _ _ => .int _) de_int (de_var 9)) (da_cons (de_op2 op_sub (o_I0 fun _ _ => .int _) de_int (de_var 9)) da_nil))) da_nil)))))
    (dss_cons (ds_if (dt_cmp (op_neA hr.units) o_ne (de_var 4) (de_lst da_nil) (nomark _)) (dss_one (ds_set (i := 10) sc_l_bad_place.nd rfl (by first | exact Or.inl rfl | exact Or.inr rfl) (de_cat (de_var 10) (de_lst (da_cons (de_ix (de_var 4) (de_call G_l_draw (hr.mono (by decide)) (by rfl) T.m_l_draw T.F_l_draw.kp T.B_l_draw [true, false] (da_cons (de_var 0) (da_cons (de_b call_len o_len (by rfl) T.z_len (by decide +kernel) (da_cons (de_var 4) da_nil)) da_nil)))) (da_cons (de_ix (de_var 4) de_int) (da_cons (de_ix (de_var 4) (de_neg de_int)) (da_cons (de_ix (de_var 4) (de_call G_l_draw (hr.mono (by decide)) (by rfl) T.m_l_draw T.F_l_draw.kp T.B_l_draw [true, false] (da_cons (de_var 0) (da_cons (de_b call_len o_len (by rfl) T.z_len (by decide +kernel) (da_cons (de_var 4) da_nil)) da_nil)))) da_nil)))))))) dss_nil)
    (dss_one (ds_ret (de_ix (de_var 10) (de_call G_l_draw (hr.mono (by decide)) (by rfl) T.m_l_draw T.F_l_draw.kp T.B_l_draw [true, false] (da_cons (de_var 0) (da_cons (de_b call_len o_len (by rfl) T.z_len (by decide +kernel) (da_cons (de_var 10) da_nil)) da_nil))))))))))))))))
theorem ok_l_bad_place (T : Txt P K w mg) : FnOk P w K mg base CX0 2 T.a_l_bad_place T.fd_l_bad_place ["seed", "grid"] (spD K 2 phi_l_bad_place) :=
  fnD T.F_l_bad_place sc_l_bad_place fun cdv A outer s H E hr => ⟨W_l_bad_place, e_l_bad_place ▸ d_l_bad_place T (ok_l_draw T) hr, fun ts Q hl h => v_l_bad_place ts Q h⟩
def Wt_l_turns : WS := (wSeq (wSet (wOneT (wVar 1) (wC (.int 0))) 2) (wSeq (wSet (wLst (wCons (wVar 1) wNil)) 3) (wSeq (wSet (wC (.int 0)) 4) (wSeq (wWhile (wTst (wOp2 gNe (wVar 3) (wLst wNil))) (wSeq (wSet (wLst wNil) 5) (wSeq (wFor (wIterA (wVar 3)) (gvName 6) (wFor (wIterA (wTup (wCons (wTup (wCons (wC (.int 0)) (wCons (wC (.int 1)) wNil))) (wCons (wTup (wCons (wC (.int 0)) (wCons (wNeg (wC (.int 1))) wNil))) (wCons (wTup (wCons (wC (.int 1)) (wCons (wC (.int 0)) wNil))) (wCons (wTup (wCons (wNeg (wC (.int 1))) (wCons (wC (.int 0)) wNil))) wNil)))))) (gvTup 2 (gvCons (gvName 7) (gvCons (gvName 8) gvNil))) (wFor (wIterA (wCall 4 [false, false, false, false] phi_l_line (wCons (wVar 0) (wCons (wVar 6) (wCons (wVar 7) (wCons (wVar 8) wNil)))))) (gvName 9) (wIfS (wTst (wInT not (wVar 9) (wVar 2))) (wSeq (wPutT 2 (wVar 9) (wVar 4)) ((wApp 5 (wVar 9)))) wNext)))) (wSeq (wSet (wVar 5) 3) ((wSet (wOp2 gAdd (wVar 4) (wC (.int 1))) 4)))))) ((wRet (wDictP (wLc [6] (wIterA (wSortT (wVar 2))) (gvName 6) wYes (wTup (wCons (wVar 6) (wCons (wIxT (wVar 2) (wVar 6)) wNil)))))))))))
theorem e_l_turns : Wt_l_turns = W_l_turns := rfl
theorem d_l_turns (T : Txt P K w mg) (G_l_line : FnOk P w K mg base CX0 1 T.a_l_line T.fd_l_line ["grid", "place", "down", "right"] (spD K 4 phi_l_line)) {f : Addr} {cdv : Value} {A : Around} {outer : List Env} {s : Shared} {H : Hp} {E : XK} (hr : Room 1 (A.deeper (envOfC "_law_turns" (defScope S_l_turns) s.heap.objs.size f cdv))) : DSs (cxOf CX0 P w K mg base N_l_turns "_law_turns" (defScope S_l_turns) f cdv A outer s H E).nox (defBody S_l_turns) Wt_l_turns :=
  (dss_cons (ds_set (i := 2) sc_l_turns.nd rfl (by first | exact Or.inl rfl | exact Or.inr rfl) (de_oneT hr (de_var 1) de_int))
    (dss_cons (ds_set (i := 3) sc_l_turns.nd rfl (by first | exact Or.inl rfl | exact Or.inr rfl) (de_lst (da_cons (de_var 1) da_nil)))
    (dss_cons (ds_set (i := 4) sc_l_turns.nd rfl (by first | exact Or.inl rfl | exact Or.inr rfl) de_int)
    (dss_cons (ds_while PassesOwn.never (dt_cmp (op_neA hr.units) o_ne (de_var 3) (de_lst da_nil) (nomark _)) (dss_cons (ds_set (i := 5) sc_l_turns.nd rfl (by first | exact Or.inl rfl | exact Or.inr rfl) (de_lst da_nil))
    (dss_cons (ds_for PassesOwn.never rfl (di_any (de_var 3)) (dg_name (i := 6) sc_l_turns.nd rfl (by first | exact Or.inl rfl | exact Or.inr rfl)) (dss_one (ds_for PassesOwn.never rfl (di_any (de_tup (da_cons (de_tup (da_cons de_int (da_cons de_int da_nil))) (da_cons (de_tup (da_cons de_int (da_cons (de_neg de_int) da_nil))) (da_cons (de_tup (da_cons de_int (da_cons de_int da_nil))) (da_cons (de_tup (da_cons (de_neg de_int) (da_cons de_int da_nil))) da_nil)))))) (dg_tup rfl (dgs_cons (dg_name (i := 7) sc_l_turns.nd rfl (by first | exact Or.inl rfl | exact Or.inr rfl)) (dgs_cons (dg_name (i := 8) sc_l_turns.nd rfl (by first | exact Or.inl rfl | exact Or.inr rfl)) dgs_nil))) (dss_one (ds_for PassesOwn.never rfl (di_any (de_call G_l_line (hr.mono (by decide)) (by rfl) T.m_l_line T.F_l_line.kp T.B_l_line [false, false, false, false] (da_cons (de_var 0) (da_cons (de_var 6) (da_cons (de_var 7) (da_cons (de_var 8) da_nil)))))) (dg_name (i := 9) sc_l_turns.nd rfl (by first | exact Or.inl rfl | exact Or.inr rfl)) (dss_one (ds_if (dt_ninT hr (de_var 9) (de_var 2)) (dss_cons (ds_putT (i := 2) hr rfl (by first | exact Or.inl rfl | exact Or.inr (Or.inl rfl) | exact Or.inr (Or.inr rfl)) (de_var 9) (de_var 4))
    (dss_one (ds_app (i := 5) rfl (by first | exact Or.inl rfl | exact Or.inr (Or.inl rfl) | exact Or.inr (Or.inr rfl)) (de_var 9)))) dss_nil)))))))
    (dss_cons (ds_set (i := 3) sc_l_turns.nd rfl (by first | exact Or.inl rfl | exact Or.inr rfl) (de_var 5))
    (dss_one (ds_set (i := 4) sc_l_turns.nd rfl (by first | exact Or.inl rfl | exact Or.inr rfl) (de_op2 op_addA o_add (de_var 4) de_int)))))))
    (dss_one (ds_ret (de_dictP hr rfl (by rfl) T.z_dict (de_lc (own := [((Str.ofString "one"), 6)]) (vs := [6]) rfl (by decide) rfl sc_l_turns.nd (di_any (de_sortT hr rfl (by rfl) T.z_sorted (de_var 2))) (blkOk_by (own := [((Str.ofString "one"), 6)]) (N := N_l_turns) (sc := defScope S_l_turns) (by decide +kernel)) (fun _ _ _ _ _ => (dgw_name (i := 6) (by decide) sc_l_turns.nd rfl (by first | exact Or.inl rfl | exact Or.inr rfl))) (fun _ _ _ _ _ => dts_nil) (fun _ _ _ _ _ => (de_tup (da_cons (de_var 6) (da_cons (de_ixT hr (de_var 2) (de_var 6)) da_nil))))))))))))
theorem ok_l_turns (T : Txt P K w mg) : FnOk P w K mg base CX0 2 T.a_l_turns T.fd_l_turns ["grid", "place"] (spD K 2 phi_l_turns) :=
  fnD T.F_l_turns sc_l_turns fun cdv A outer s H E hr => ⟨W_l_turns, e_l_turns ▸ d_l_turns T (ok_l_line T) hr, fun ts Q hl h => v_l_turns ts Q h⟩
def Wt_sights_of : WS := ((wRet (wDc (.dd []) [1] (wIterA (wCall 1 [false] phi_free_places (wCons (wVar 0) wNil))) (gvName 1) wYes (wVar 1) (wFx (wCall 2 [false, false] phi_sights_from (wCons (wVar 0) (wCons (wVar 1) wNil)))))))
theorem e_sights_of : Wt_sights_of = W_sights_of := rfl
theorem d_sights_of (T : Txt P K w mg) (G_free_places : FnOk P w K mg base CX0 2 T.a_free_places T.fd_free_places ["grid"] (spD K 1 phi_free_places)) (G_sights_from : FnOk P w K mg base CX0 2 T.a_sights_from T.fd_sights_from ["grid", "place"] (spD K 2 phi_sights_from)) {f : Addr} {cdv : Value} {A : Around} {outer : List Env} {s : Shared} {H : Hp} {E : XK} (hr : Room 2 (A.deeper (envOfC "sights_of" (defScope S_sights_of) s.heap.objs.size f cdv))) : DSs (cxOf CX0 P w K mg base N_sights_of "sights_of" (defScope S_sights_of) f cdv A outer s H E).nox (defBody S_sights_of) Wt_sights_of :=
  (dss_one (ds_ret (de_dc (own := [((Str.ofString "place"), 1)]) (vs := [1]) hr (.inr rfl) rfl (by decide) rfl sc_sights_of.nd (di_any (de_call G_free_places (hr.mono (by decide)) (by rfl) T.m_free_places T.F_free_places.kp T.B_free_places [false] (da_cons (de_var 0) da_nil))) (blkOk_by (own := [((Str.ofString "place"), 1)]) (N := N_sights_of) (sc := defScope S_sights_of) (by decide +kernel)) (fun _ _ _ _ _ => (dgw_name (i := 1) (by decide) sc_sights_of.nd rfl (by first | exact Or.inl rfl | exact Or.inr rfl))) (fun _ _ _ _ _ => dts_nil) (fun _ _ _ _ _ => (de_var 1)) (fun _ _ _ _ _ => (de_fx (de_call G_sights_from (hr.mono (by decide)) (by rfl) T.m_sights_from T.F_sights_from.kp T.B_sights_from [false, false] (da_cons (de_var 0) (da_cons (de_var 1) da_nil))))))))
theorem ok_sights_of (T : Txt P K w mg) : FnOk P w K mg base CX0 3 T.a_sights_of T.fd_sights_of ["grid"] (spD K 1 phi_sights_of) :=
  fnD T.F_sights_of sc_sights_of fun cdv A outer s H E hr => ⟨W_sights_of, e_sights_of ▸ d_sights_of T (ok_free_places T) (ok_sights_from T) hr, fun ts Q hl h => v_sights_of ts Q h⟩
def Wt_l_grid : WS := (wSeq (wSet (wIx (wLst (wCons (wOp2 gAdd (wC (.int 1)) (wCall 2 [true, false] phi_l_draw (wCons (wVar 0) (wCons (wVar 1) wNil)))) (wCons (wVar 1) wNil))) (wCall 2 [true, false] phi_l_draw (wCons (wVar 0) (wCons (wC (.int 2)) wNil)))) 2) (wSeq (wSet (wIx (wLst (wCons (wOp2 gAdd (wC (.int 1)) (wCall 2 [true, false] phi_l_draw (wCons (wVar 0) (wCons (wVar 1) wNil)))) (wCons (wVar 1) wNil))) (wCall 2 [true, false] phi_l_draw (wCons (wVar 0) (wCons (wC (.int 2)) wNil)))) 3) (wSeq (wSet (wCall 2 [true, false] phi_l_draw (wCons (wVar 0) (wCons (wC (.int 9)) wNil))) 4) (wSeq (wSet (wLL0 (wLst wNil)) 5) (wSeq (wFor (wRng1 (wCons (wVar 2) wNil)) (gvName 6) (wAppLL 5 (wLc [7] (wRng1 (wCons (wVar 3) wNil)) (gvName 7) wYes (wIx (wC (.str (Str.ofString ".#"))) (wCB gInt (wCons (wCall 5 [true, false, false, false, false] phi_l_sign (wCons (wVar 0) (wCons (wVar 4) (wCons (wVar 6) (wCons (wVar 7) (wCons (wVar 3) wNil)))))) wNil)))))) (wSeq (wIfS (wTst (wOp2 (gI0 fun i j => .bool (decide (j < i))) (wVar 4) (wC (.int 6)))) (wSeq (wSet (wCall 2 [false, false] phi_l_spiral (wCons (wVar 2) (wCons (wVar 3) wNil))) 8) ((wFor (wRng1 (wCons (wVar 2) wNil)) (gvName 6) (wSetL 5 (wVar 6) (wLc [7] (wRng1 (wCons (wVar 3) wNil)) (gvName 7) wYes (wIx (wC (.str (Str.ofString "#."))) (wCB gInt (wCons (wInT id (wTup (wCons (wVar 6) (wCons (wVar 7) wNil))) (wVar 8)) wNil)))))))) wNext) (wSeq (wIfS (wTst (wOp2 gEq (wVar 4) (wC (.int 8)))) (wSet (wRevL 5) 5) wNext) (wSeq (wFor (wRng1 (wCons (wCall 2 [true, false] phi_l_draw (wCons (wVar 0) (wCons (wC (.int 3)) wNil))) wNil)) (gvName 9) (wSeq (wSet (wCall 2 [true, false] phi_l_draw (wCons (wVar 0) (wCons (wVar 2) wNil))) 6) (wSeq (wSet (wCall 2 [true, false] phi_l_draw (wCons (wVar 0) (wCons (wVar 3) wNil))) 7) ((wSubb 5 (wVar 6) (wVar 7) (wIx (wC (.str (Str.ofString "#."))) (wCB gInt (wCons (wOp2 gEq (wIxx 5 (wVar 6) (wVar 7)) (wC (.str (Str.ofString "#")))) wNil)))))))) ((wRet (wTupOf (wCons (wLc [10] (wIterA (wVar 5)) (gvName 10) wYes (wJoin (wC (.str (Str.ofString ""))) (wVar 10))) wNil))))))))))))
theorem e_l_grid : Wt_l_grid = W_l_grid := rfl
theorem d_l_grid (T : Txt P K w mg) (G_l_draw : FnOk P w K mg base CX0 1 T.a_l_draw T.fd_l_draw ["seed", "most"] (spD K 2 phi_l_draw)) (G_l_sign : FnOk P w K mg base CX0 2 T.a_l_sign T.fd_l_sign ["seed", "kind", "row", "column", "columns"] (spD K 5 phi_l_sign)) (G_l_spiral : FnOk P w K mg base CX0 1 T.a_l_spiral T.fd_l_spiral ["rows", "columns"] (spD K 2 phi_l_spiral)) {f : Addr} {cdv : Value} {A : Around} {outer : List Env} {s : Shared} {H : Hp} {E : XK} (hr : Room 2 (A.deeper (envOfC "_law_grid" (defScope S_l_grid) s.heap.objs.size f cdv))) : DSs (cxOf CX0 P w K mg base N_l_grid "_law_grid" (defScope S_l_grid) f cdv A outer s H E).nox (defBody S_l_grid) Wt_l_grid :=
  (dss_cons (ds_set (i := 2) sc_l_grid.nd rfl (by first | exact Or.inl rfl | exact Or.inr rfl) (de_ix (de_lst (da_cons (de_op2 op_addA o_add de_int (de_call G_l_draw (hr.mono (by decide)) (by rfl) T.m_l_draw T.F_l_draw.kp T.B_l_draw [true, false] (da_cons (de_var 0) (da_cons (de_var 1) da_nil)))) (da_cons (de_var 1) da_nil))) (de_call G_l_draw (hr.mono (by decide)) (by rfl) T.m_l_draw T.F_l_draw.kp T.B_l_draw [true, false] (da_cons (de_var 0) (da_cons de_int da_nil)))))
    (dss_cons (ds_set (i := 3) sc_l_grid.nd rfl (by first | exact Or.inl rfl | exact Or.inr rfl) (de_ix (de_lst (da_cons (de_op2 op_addA o_add de_int (de_call G_l_draw (hr.mono (by decide)) (by rfl) T.m_l_draw T.F_l_draw.kp T.B_l_draw [true, false] (da_cons (de_var 0) (da_cons (de_var 1) da_nil)))) (da_cons (de_var 1) da_nil))) (de_call G_l_draw (hr.mono (by decide)) (by rfl) T.m_l_draw T.F_l_draw.kp T.B_l_draw [true, false] (da_cons (de_var 0) (da_cons de_int da_nil)))))
    (dss_cons (ds_set (i := 4) sc_l_grid.nd rfl (by first | exact Or.inl rfl | exact Or.inr rfl) (de_call G_l_draw (hr.mono (by decide)) (by rfl) T.m_l_draw T.F_l_draw.kp T.B_l_draw [true, false] (da_cons (de_var 0) (da_cons de_int da_nil))))
    (dss_cons (ds_set (i := 5) sc_l_grid.nd rfl (by first | exact Or.inl rfl | exact Or.inr rfl) (de_ll0 (de_lst da_nil)))
    (dss_cons (ds_for PassesOwn.never rfl (di_rng1 (by rfl) T.z_range (da_cons (de_var 2) da_nil)) (dg_name (i := 6) sc_l_grid.nd rfl (by first | exact Or.inl rfl | exact Or.inr rfl)) (dss_one (ds_appLL (i := 5) rfl (by first | exact Or.inl rfl | exact Or.inr (Or.inl rfl) | exact Or.inr (Or.inr rfl)) (de_lc (own := [((Str.ofString "column"), 7)]) (vs := [7]) rfl (by decide) rfl sc_l_grid.nd (di_rng1 (by rfl) T.z_range (da_cons (de_var 3) da_nil)) (blkOk_by (own := [((Str.ofString "column"), 7)]) (N := N_l_grid) (sc := defScope S_l_grid) (by decide +kernel)) (fun _ _ _ _ _ => (dgw_name (i := 7) (by decide) sc_l_grid.nd rfl (by first | exact Or.inl rfl | exact Or.inr rfl))) (fun _ _ _ _ _ => dts_nil) (fun _ _ _ _ _ => (de_ix de_str (de_ty call_int1 o_int (by rfl) T.z_int (by decide +kernel) (da_cons (de_call G_l_sign (hr.mono (by decide)) (by rfl) T.m_l_sign T.F_l_sign.kp T.B_l_sign [true, false, false, false, false] (da_cons (de_var 0) (da_cons (de_var 4) (da_cons (de_var 6) (da_cons (de_var 7) (da_cons (de_var 3) da_nil)))))) da_nil))))))))
    (dss_cons (ds_if (dt_cmp op_gt (o_I0 fun _ _ => .bl _) (de_var 4) de_int (nomark _)) (dss_cons (ds_set (i := 8) sc_l_grid.nd rfl (by first | exact Or.inl rfl | exact Or.inr rfl) (de_call G_l_spiral (hr.mono (by decide)) (by rfl) T.m_l_spiral T.F_l_spiral.kp T.B_l_spiral [false, false] (da_cons (de_var 2) (da_cons (de_var 3) da_nil))))
    (dss_one (ds_for PassesOwn.never rfl (di_rng1 (by rfl) T.z_range (da_cons (de_var 2) da_nil)) (dg_name (i := 6) sc_l_grid.nd rfl (by first | exact Or.inl rfl | exact Or.inr rfl)) (dss_one (ds_setL (i := 5) rfl (by first | exact Or.inl rfl | exact Or.inr (Or.inl rfl) | exact Or.inr (Or.inr rfl)) (de_var 6) (de_lc (own := [((Str.ofString "column"), 7)]) (vs := [7]) rfl (by decide) rfl sc_l_grid.nd (di_rng1 (by rfl) T.z_range (da_cons (de_var 3) da_nil)) (blkOk_by (own := [((Str.ofString "column"), 7)]) (N := N_l_grid) (sc := defScope S_l_grid) (by decide +kernel)) (fun _ _ _ _ _ => (dgw_name (i := 7) (by decide) sc_l_grid.nd rfl (by first | exact Or.inl rfl | exact Or.inr rfl))) (fun _ _ _ _ _ => dts_nil) (fun _ _ _ _ _ => (de_ix de_str (de_ty call_int1 o_int (by rfl) T.z_int (by decide +kernel) (da_cons (de_inT hr (de_tup (da_cons (de_var 6) (da_cons (de_var 7) da_nil))) (de_var 8)) da_nil)))))))))) dss_nil)
    (dss_cons (ds_if (dt_cmp (op_eqA hr.units) o_eq (de_var 4) de_int (nomark _)) (dss_one (ds_set (i := 5) sc_l_grid.nd rfl (by first | exact Or.inl rfl | exact Or.inr rfl) (de_revL (i := 5) rfl (by first | exact Or.inl rfl | exact Or.inr (Or.inl rfl) | exact Or.inr (Or.inr rfl))))) dss_nil)
    (dss_cons (ds_for PassesOwn.never rfl (di_rng1 (by rfl) T.z_range (da_cons (de_call G_l_draw (hr.mono (by decide)) (by rfl) T.m_l_draw T.F_l_draw.kp T.B_l_draw [true, false] (da_cons (de_var 0) (da_cons de_int da_nil))) da_nil)) (dg_name (i := 9) sc_l_grid.nd rfl (by first | exact Or.inl rfl | exact Or.inr rfl)) (dss_cons (ds_set (i := 6) sc_l_grid.nd rfl (by first | exact Or.inl rfl | exact Or.inr rfl) (de_call G_l_draw (hr.mono (by decide)) (by rfl) T.m_l_draw T.F_l_draw.kp T.B_l_draw [true, false] (da_cons (de_var 0) (da_cons (de_var 2) da_nil))))
    (dss_cons (ds_set (i := 7) sc_l_grid.nd rfl (by first | exact Or.inl rfl | exact Or.inr rfl) (de_call G_l_draw (hr.mono (by decide)) (by rfl) T.m_l_draw T.F_l_draw.kp T.B_l_draw [true, false] (da_cons (de_var 0) (da_cons (de_var 3) da_nil))))
    (dss_one (ds_sub2 (i := 5) rfl (by first | exact Or.inl rfl | exact Or.inr (Or.inl rfl) | exact Or.inr (Or.inr rfl)) (de_var 6) (de_var 7) (de_ix de_str (de_ty call_int1 o_int (by rfl) T.z_int (by decide +kernel) (da_cons (de_cmp (op_eqA hr.units) o_eq (de_ix2 (i := 5) rfl (by first | exact Or.inl rfl | exact Or.inr (Or.inl rfl) | exact Or.inr (Or.inr rfl)) (de_var 6) (de_var 7)) de_str (nomark _)) da_nil))))))))
    (dss_one (ds_ret (de_tupOf (by rfl) T.z_tuple (by decide +kernel) (da_cons (de_lc (own := [((Str.ofString "line"), 10)]) (vs := [10]) rfl (by decide) rfl sc_l_grid.nd (di_any (de_var 5)) (blkOk_by (own := [((Str.ofString "line"), 10)]) (N := N_l_grid) (sc := defScope S_l_grid) (by decide +kernel)) (fun _ _ _ _ _ => (dgw_name (i := 10) (by decide) sc_l_grid.nd rfl (by first | exact Or.inl rfl | exact Or.inr rfl))) (fun _ _ _ _ _ => dts_nil) (fun _ _ _ _ _ => (de_join de_str (de_var 10)))) da_nil))))))))))))
theorem ok_l_grid (T : Txt P K w mg) : FnOk P w K mg base CX0 3 T.a_l_grid T.fd_l_grid ["seed", "most"] (spD K 2 phi_l_grid) :=
  fnD T.F_l_grid sc_l_grid fun cdv A outer s H E hr => ⟨W_l_grid, e_l_grid ▸ d_l_grid T (ok_l_draw T) (ok_l_sign T) (ok_l_spiral T) hr, fun ts Q hl h => v_l_grid ts Q h⟩
def Wt_ask_free : WS := ((wIfS (wNot (wTst (wCall 2 [false, false] phi_is_free (wCons (wVar 0) (wCons (wVar 1) wNil))))) (wRaiseK "NoPlace" "place" okP (wVar 1)) wNext))
theorem e_ask_free : Wt_ask_free = W_ask_free := rfl
theorem d_ask_free (T : Txt P K w mg) (G_is_free : FnOk P w K mg base CX0 1 T.a_is_free T.fd_is_free ["grid", "place"] (spD K 2 phi_is_free)) {f : Addr} {cdv : Value} {A : Around} {outer : List Env} {s : Shared} {H : Hp} {E : XK} (hr : Room 3 (A.deeper (envOfC "ask_free" (defScope S_ask_free) s.heap.objs.size f cdv))) : DSsX (cxOf (L2.CX P w) P w K mg base N_ask_free "ask_free" (defScope S_ask_free) f cdv A outer s H E) (fun cls d _ H => E cls d H) (defBody S_ask_free) Wt_ask_free :=
  (dssx_one (dsx_if (dt_not (dt_val (de_call G_is_free (hr.mono (by decide)) (by rfl) T.m_is_free T.F_is_free.kp T.B_is_free [false, false] (da_cons (de_var 0) (da_cons (de_var 1) da_nil))))) (dssx_one (dsx_raiseR rfl (takes_of rfl rfl rfl rfl) T.R_NoPlace (hr.mono (by decide)) (by rfl) (de_var 1))) dssx_nil))
theorem ok_ask_free (T : Txt P K w mg) : FnOk P w K mg base (L2.CX P w) 4 T.a_ask_free T.fd_ask_free ["grid", "place"] (spX K 2 phi_ask_free) :=
  fnX T.F_ask_free sc_ask_free fun cdv A outer s H E hr => ⟨W_ask_free, e_ask_free ▸ d_ask_free T (ok_is_free T) hr, fun ts Q Xx hl h => v_ask_free ts Q Xx h⟩
def Wt_turns_from : WS := (wSeq (wDropX (wCallX 2 [false, false] phi_ask_free (wCons (wVar 0) (wCons (wVar 1) wNil)))) ((wRet (wCall 2 [true, false] phi_turns_by_sights (wCons (wFx (wCall 1 [false] phi_sights_of (wCons (wVar 0) wNil))) (wCons (wVar 1) wNil))))))
theorem e_turns_from : Wt_turns_from = W_turns_from := rfl
theorem d_turns_from (T : Txt P K w mg) (G_ask_free : FnOk P w K mg base (L2.CX P w) 4 T.a_ask_free T.fd_ask_free ["grid", "place"] (spX K 2 phi_ask_free)) (G_sights_of : FnOk P w K mg base CX0 3 T.a_sights_of T.fd_sights_of ["grid"] (spD K 1 phi_sights_of)) (G_turns_by_sights : FnOk P w K mg base CX0 2 T.a_turns_by_sights T.fd_turns_by_sights ["sights", "place"] (spD K 2 phi_turns_by_sights)) {f : Addr} {cdv : Value} {A : Around} {outer : List Env} {s : Shared} {H : Hp} {E : XK} (hr : Room 4 (A.deeper (envOfC "turns_from" (defScope S_turns_from) s.heap.objs.size f cdv))) : DSsX (cxOf (L2.CX P w) P w K mg base N_turns_from "turns_from" (defScope S_turns_from) f cdv A outer s H E) (fun cls d _ H => E cls d H) (defBody S_turns_from) Wt_turns_from :=
  (dssx_cons (dsx_expr (dex_call G_ask_free (takes_of rfl rfl rfl rfl) (hr.mono (by decide)) (by rfl) T.m_ask_free T.F_ask_free.kp T.B_ask_free [false, false] (da_cons (de_var 0) (da_cons (de_var 1) da_nil))))
    (dssx_one (dsx_pure (ds_ret (de_call G_turns_by_sights (hr.mono (by decide)) (by rfl) T.m_turns_by_sights T.F_turns_by_sights.kp T.B_turns_by_sights [true, false] (da_cons (de_fx (de_call G_sights_of (hr.mono (by decide)) (by rfl) T.m_sights_of T.F_sights_of.kp T.B_sights_of [false] (da_cons (de_var 0) da_nil))) (da_cons (de_var 1) da_nil)))))))
theorem ok_turns_from (T : Txt P K w mg) : FnOk P w K mg base (L2.CX P w) 5 T.a_turns_from T.fd_turns_from ["grid", "place"] (spX K 2 phi_turns_from) :=
  fnX T.F_turns_from sc_turns_from fun cdv A outer s H E hr => ⟨W_turns_from, e_turns_from ▸ d_turns_from T (ok_ask_free T) (ok_sights_of T) (ok_turns_by_sights T) hr, fun ts Q Xx hl h => v_turns_from ts Q Xx h⟩
def Wt_l_right : WS := (wSeq (wSet (wCall 2 [false, false] phi_l_turns (wCons (wVar 0) (wCons (wVar 1) wNil))) 2) (wSeq (wFor (wRng1 (wCons (wC (.int 2)) wNil)) (gvName 3) (wSeq (wSet (wCallN 2 [false, false] phi_turns_from (wCons (wVar 0) (wCons (wVar 1) wNil))) 4) (wSeq (wIfS (wOr (wNot (wTst (wIsiD "dict" (wVar 4)))) (wOr (wTst (wNeT (wVar 4) (wVar 2))) (wTst (wOp2 gNe (wLstT (wVar 4)) (wSortT (wVar 2)))))) (wRet (wC (.bool false))) wNext) (wSeq (wIfS (wTst (wOp2 gNe (wThaw 4 (wLc [5] (wKeysT (wVar 4)) (gvName 5) (wOr (wNot (wTst (wIsi "tuple" (wVar 5)))) (wTst (wIsi "bool" (wIxT (wVar 4) (wVar 5))))) (wC (.int 1)))) (wLst wNil))) (wRet (wC (.bool false))) wNext) (wSeq (wClearT 4) ((wPutT 4 (wTup (wCons (wC (.int 0)) (wCons (wC (.int 0)) wNil))) (wC (.int 99))))))))) ((wRet (wC (.bool true))))))
theorem e_l_right : Wt_l_right = W_l_right := rfl
theorem d_l_right (T : Txt P K w mg) (G_l_turns : FnOk P w K mg base CX0 2 T.a_l_turns T.fd_l_turns ["grid", "place"] (spD K 2 phi_l_turns)) (G_turns_from : FnOk P w K mg base (L2.CX P w) 5 T.a_turns_from T.fd_turns_from ["grid", "place"] (spX K 2 phi_turns_from)) {f : Addr} {cdv : Value} {A : Around} {outer : List Env} {s : Shared} {H : Hp} {E : XK} (hr : Room 5 (A.deeper (envOfC "_law_right" (defScope S_l_right) s.heap.objs.size f cdv))) : DSs (cxOf CX0 P w K mg base N_l_right "_law_right" (defScope S_l_right) f cdv A outer s H E).nox (defBody S_l_right) Wt_l_right :=
  (dss_cons (ds_set (i := 2) sc_l_right.nd rfl (by first | exact Or.inl rfl | exact Or.inr rfl) (de_call G_l_turns (hr.mono (by decide)) (by rfl) T.m_l_turns T.F_l_turns.kp T.B_l_turns [false, false] (da_cons (de_var 0) (da_cons (de_var 1) da_nil))))
    (dss_cons (ds_for PassesOwn.never rfl (di_rng1 (by rfl) T.z_range (da_cons de_int da_nil)) (dg_name (i := 3) sc_l_right.nd rfl (by first | exact Or.inl rfl | exact Or.inr rfl)) (dss_cons (ds_set (i := 4) sc_l_right.nd rfl (by first | exact Or.inl rfl | exact Or.inr rfl) (de_callN G_turns_from (hr.mono (by decide)) (by rfl) T.m_turns_from T.F_turns_from.kp T.B_turns_from [false, false] (da_cons (de_var 0) (da_cons (de_var 1) da_nil))))
    (dss_cons (ds_if (DW.dt (dw_or (dt_not (dt_val (de_isiD (by rfl) T.z_isinstance (by rfl) T.z_dict (by decide +kernel) (de_var 4)))) (dw_or (dt_neT hr (de_var 4) (de_var 2)) (dw_or1 (dt_cmp (op_neA hr.units) o_ne (de_lstT rfl (by rfl) T.z_list (de_var 4)) (de_sortT hr rfl (by rfl) T.z_sorted (de_var 2)) (nomark _)))))) (dss_one (ds_ret de_bl)) dss_nil)
    (dss_cons (ds_if (dt_cmp (op_neA hr.units) o_ne (de_thaw (i := 4) (de_lc (own := [((Str.ofString "one"), 5)]) (vs := [5]) rfl (by decide) rfl sc_l_right.nd (di_keysT (de_var 4)) (blkOk_by (own := [((Str.ofString "one"), 5)]) (N := N_l_right) (sc := defScope S_l_right) (by decide +kernel)) (fun _ _ _ _ _ => (dgw_name (i := 5) (by decide) sc_l_right.nd rfl (by first | exact Or.inl rfl | exact Or.inr rfl))) (fun _ _ _ _ _ => (dts_one (DW.dt (dw_or (dt_not (dt_val (de_isi (by rfl) T.z_isinstance (by rfl) T.z_tuple (by decide +kernel) (de_var 5)))) (dw_or1 (dt_val (de_isi (by rfl) T.z_isinstance (by rfl) T.z_bool (by decide +kernel) (de_ixT hr (de_var 4) (de_var 5))))))))) (fun _ _ _ _ _ => de_int))) (de_lst da_nil) (nomark _)) (dss_one (ds_ret de_bl)) dss_nil)
    (dss_cons (ds_clearT (i := 4) rfl (by first | exact Or.inl rfl | exact Or.inr (Or.inl rfl) | exact Or.inr (Or.inr rfl)))
    (dss_one (ds_putT (i := 4) hr rfl (by first | exact Or.inl rfl | exact Or.inr (Or.inl rfl) | exact Or.inr (Or.inr rfl)) (de_tup (da_cons de_int (da_cons de_int da_nil))) de_int)))))))
    (dss_one (ds_ret de_bl))))
theorem ok_l_right (T : Txt P K w mg) : FnOk P w K mg base CX0 6 T.a_l_right T.fd_l_right ["grid", "place"] (spD K 2 phi_l_right) :=
  fnD T.F_l_right sc_l_right fun cdv A outer s H E hr => ⟨W_l_right, e_l_right ▸ d_l_right T (ok_l_turns T) (ok_turns_from T) hr, fun ts Q hl h => v_l_right ts Q h⟩
def Wt_l_refused : WS := (wSeq (wSet (wC .none) 2) (wSeq (wTry (catL ["NoPlace"]) 3 2 (wDropX (wCallX 2 [false, false] phi_turns_from (wCons (wVar 0) (wCons (wVar 1) wNil))))) ((wRet (wVar 2)))))
theorem e_l_refused : Wt_l_refused = W_l_refused := rfl
theorem d_l_refused (T : Txt P K w mg) (G_turns_from : FnOk P w K mg base (L2.CX P w) 5 T.a_turns_from T.fd_turns_from ["grid", "place"] (spX K 2 phi_turns_from)) {f : Addr} {cdv : Value} {A : Around} {outer : List Env} {s : Shared} {H : Hp} {E : XK} (hr : Room 5 (A.deeper (envOfC "_law_refused" (defScope S_l_refused) s.heap.objs.size f cdv))) : DSs (cxOf CX0 P w K mg base N_l_refused "_law_refused" (defScope S_l_refused) f cdv A outer s H E).nox (defBody S_l_refused) Wt_l_refused :=
  (dss_cons (ds_set (i := 2) sc_l_refused.nd rfl (by first | exact Or.inl rfl | exact Or.inr rfl) de_non)
    (dss_cons (ds_try (i := 3) (j := 2) (c := .ref T.C_TurnError) rfl rfl rfl sc_l_refused.nd rfl rfl (by decide) rfl rfl ⟨by rfl, by decide, .inl T.k_TurnError⟩ T.t_TurnError (fun W pn xe tk po => (dssx_one (dsx_expr (dex_call G_turns_from tk (hr.mono (by decide)) (by rfl) T.m_turns_from T.F_turns_from.kp T.B_turns_from [false, false] (da_cons (de_var 0) (da_cons (de_var 1) da_nil)))))))
    (dss_one (ds_ret (de_var 2)))))
theorem ok_l_refused (T : Txt P K w mg) : FnOk P w K mg base CX0 6 T.a_l_refused T.fd_l_refused ["grid", "place"] (spD K 2 phi_l_refused) :=
  fnD T.F_l_refused sc_l_refused fun cdv A outer s H E hr => ⟨W_l_refused, e_l_refused ▸ d_l_refused T (ok_turns_from T) hr, fun ts Q hl h => v_l_refused ts Q h⟩
def Wt_law : WS := (wSeq (wFor (wIterA (wCat (wSl (wVar 0) wNoPart (wPart (wC (.int 2)))) (wLst (wCons (wCall 1 [false] phi_l_folded (wCons (wVar 0) wNil)) wNil)))) (gvName 1) (wSeq (wSet (wCall 1 [false] phi_l_seed (wCons (wVar 1) wNil)) 2) (wSeq (wSet (wCall 2 [true, false] phi_l_grid (wCons (wVar 2) (wCons (wIx (wLst (wCons (wC (.int 6)) (wCons (wC (.int 12)) wNil))) (wCall 2 [true, false] phi_l_draw (wCons (wVar 2) (wCons (wC (.int 2)) wNil)))) wNil))) 3) (wSeq (wSet (wCall 1 [false] phi_l_free (wCons (wVar 3) wNil)) 4) (wSeq (wIfS (wTst (wOp2 gNe (wVar 4) (wLst wNil))) (wFor (wIterA (wTup (wCons (wIx (wVar 4) (wCall 2 [true, false] phi_l_draw (wCons (wVar 2) (wCons (wCB gLen (wCons (wVar 4) wNil)) wNil)))) (wCons (wIx (wVar 4) (wIx (wLst (wCons (wC (.int 0)) (wCons (wNeg (wC (.int 1))) wNil))) (wCall 2 [true, false] phi_l_draw (wCons (wVar 2) (wCons (wC (.int 2)) wNil))))) wNil)))) (gvName 5) (wIfS (wNot (wTst (wCall 2 [false, false] phi_l_right (wCons (wVar 3) (wCons (wVar 5) wNil))))) (wRet (wC (.bool false))) wNext)) wNext) ((wFor (wRng1 (wCons (wC (.int 3)) wNil)) (gvName 6) (wSeq (wSet (wCall 2 [true, false] phi_l_bad_place (wCons (wVar 2) (wCons (wVar 3) wNil))) 7) (wSeq (wSet (wCall 2 [false, false] phi_l_refused (wCons (wVar 3) (wCons (wVar 7) wNil))) 8) ((wIfS (wOr (wNot (wTst (wCall 2 [false, false] phi_l_is (wCons (wVar 8) (wCons (wC (.str (Str.ofString "place"))) wNil))))) (wTst (wOp2 gNe (wXf ["NoPlace"] "place" (wVar 8)) (wVar 7)))) (wRet (wC (.bool false))) wNext))))))))))) ((wRet (wC (.bool true)))))
theorem e_law : Wt_law = W_law := rfl
theorem d_law (T : Txt P K w mg) (G_l_bad_place : FnOk P w K mg base CX0 2 T.a_l_bad_place T.fd_l_bad_place ["seed", "grid"] (spD K 2 phi_l_bad_place)) (G_l_draw : FnOk P w K mg base CX0 1 T.a_l_draw T.fd_l_draw ["seed", "most"] (spD K 2 phi_l_draw)) (G_l_folded : FnOk P w K mg base CX0 1 T.a_l_folded T.fd_l_folded ["script"] (spD K 1 phi_l_folded)) (G_l_free : FnOk P w K mg base CX0 1 T.a_l_free T.fd_l_free ["grid"] (spD K 1 phi_l_free)) (G_l_grid : FnOk P w K mg base CX0 3 T.a_l_grid T.fd_l_grid ["seed", "most"] (spD K 2 phi_l_grid)) (G_l_is : FnOk P w K mg base CX0 1 T.a_l_is T.fd_l_is ["caught", "kind"] (spD K 2 phi_l_is)) (G_l_refused : FnOk P w K mg base CX0 6 T.a_l_refused T.fd_l_refused ["grid", "place"] (spD K 2 phi_l_refused)) (G_l_right : FnOk P w K mg base CX0 6 T.a_l_right T.fd_l_right ["grid", "place"] (spD K 2 phi_l_right)) (G_l_seed : FnOk P w K mg base CX0 1 T.a_l_seed T.fd_l_seed ["cell"] (spD K 1 phi_l_seed)) {f : Addr} {cdv : Value} {A : Around} {outer : List Env} {s : Shared} {H : Hp} {E : XK} (hr : Room 6 (A.deeper (envOfC "law" (defScope S_law) s.heap.objs.size f cdv))) : DSs (cxOf CX0 P w K mg base N_law "law" (defScope S_law) f cdv A outer s H E).nox (defBody S_law) Wt_law :=
  (dss_cons (ds_for PassesOwn.never rfl (di_any (de_cat (de_sl (de_var 0) do_none (do_some de_int)) (de_lst (da_cons (de_call G_l_folded (hr.mono (by decide)) (by rfl) T.m_l_folded T.F_l_folded.kp T.B_l_folded [false] (da_cons (de_var 0) da_nil)) da_nil)))) (dg_name (i := 1) sc_law.nd rfl (by first | exact Or.inl rfl | exact Or.inr rfl)) (dss_cons (ds_set (i := 2) sc_law.nd rfl (by first | exact Or.inl rfl | exact Or.inr rfl) (de_call G_l_seed (hr.mono (by decide)) (by rfl) T.m_l_seed T.F_l_seed.kp T.B_l_seed [false] (da_cons (de_var 1) da_nil)))
    (dss_cons (ds_set (i := 3) sc_law.nd rfl (by first | exact Or.inl rfl | exact Or.inr rfl) (de_call G_l_grid (hr.mono (by decide)) (by rfl) T.m_l_grid T.F_l_grid.kp T.B_l_grid [true, false] (da_cons (de_var 2) (da_cons (de_ix (de_lst (da_cons de_int (da_cons de_int da_nil))) (de_call G_l_draw (hr.mono (by decide)) (by rfl) T.m_l_draw T.F_l_draw.kp T.B_l_draw [true, false] (da_cons (de_var 2) (da_cons de_int da_nil)))) da_nil))))
    (dss_cons (ds_set (i := 4) sc_law.nd rfl (by first | exact Or.inl rfl | exact Or.inr rfl) (de_call G_l_free (hr.mono (by decide)) (by rfl) T.m_l_free T.F_l_free.kp T.B_l_free [false] (da_cons (de_var 3) da_nil)))
    (dss_cons (ds_if (dt_cmp (op_neA hr.units) o_ne (de_var 4) (de_lst da_nil) (nomark _)) (dss_one (ds_for PassesOwn.never rfl (di_any (de_tup (da_cons (de_ix (de_var 4) (de_call G_l_draw (hr.mono (by decide)) (by rfl) T.m_l_draw T.F_l_draw.kp T.B_l_draw [true, false] (da_cons (de_var 2) (da_cons (de_b call_len o_len (by rfl) T.z_len (by decide +kernel) (da_cons (de_var 4) da_nil)) da_nil)))) (da_cons (de_ix (de_var 4) (de_ix (de_lst (da_cons de_int (da_cons (de_neg de_int) da_nil))) (de_call G_l_draw (hr.mono (by decide)) (by rfl) T.m_l_draw T.F_l_draw.kp T.B_l_draw [true, false] (da_cons (de_var 2) (da_cons de_int da_nil))))) da_nil)))) (dg_name (i := 5) sc_law.nd rfl (by first | exact Or.inl rfl | exact Or.inr rfl)) (dss_one (ds_if (dt_not (dt_val (de_call G_l_right (hr.mono (by decide)) (by rfl) T.m_l_right T.F_l_right.kp T.B_l_right [false, false] (da_cons (de_var 3) (da_cons (de_var 5) da_nil))))) (dss_one (ds_ret de_bl)) dss_nil)))) dss_nil)
    (dss_one (ds_for PassesOwn.never rfl (di_rng1 (by rfl) T.z_range (da_cons de_int da_nil)) (dg_name (i := 6) sc_law.nd rfl (by first | exact Or.inl rfl | exact Or.inr rfl)) (dss_cons (ds_set (i := 7) sc_law.nd rfl (by first | exact Or.inl rfl | exact Or.inr rfl) (de_call G_l_bad_place (hr.mono (by decide)) (by rfl) T.m_l_bad_place T.F_l_bad_place.kp T.B_l_bad_place [true, false] (da_cons (de_var 2) (da_cons (de_var 3) da_nil))))
    (dss_cons (ds_set (i := 8) sc_law.nd rfl (by first | exact Or.inl rfl | exact Or.inr rfl) (de_call G_l_refused (hr.mono (by decide)) (by rfl) T.m_l_refused T.F_l_refused.kp T.B_l_refused [false, false] (da_cons (de_var 3) (da_cons (de_var 7) da_nil))))
    (dss_one (ds_if (DW.dt (dw_or (dt_not (dt_val (de_call G_l_is (hr.mono (by decide)) (by rfl) T.m_l_is T.F_l_is.kp T.B_l_is [false, false] (da_cons (de_var 8) (da_cons de_str da_nil))))) (dw_or1 (dt_cmp (op_neA hr.units) o_ne (de_xf T.xf_place (de_var 8)) (de_var 7) (nomark _))))) (dss_one (ds_ret de_bl)) dss_nil)))))))))))
    (dss_one (ds_ret de_bl)))
theorem ok_law (T : Txt P K w mg) : FnOk P w K mg base CX0 7 T.a_law T.fd_law ["script"] (spD K 1 phi_law) :=
  fnD T.F_law sc_law fun cdv A outer s H E hr => ⟨W_law, e_law ▸ d_law T (ok_l_bad_place T) (ok_l_draw T) (ok_l_folded T) (ok_l_free T) (ok_l_grid T) (ok_l_is T) (ok_l_refused T) (ok_l_right T) (ok_l_seed T) hr, fun ts Q hl h => v_law ts Q h⟩
end
def spLaw (K : PySem.W.Frag) : Sp := fun vs H Q _ => ∃ (a : Addr) (ns : List Int), vs = [.ref a] ∧ SqL K H a (ns.map V.int) ∧ ns.length ≤ 63 ∧ ∀ H', Q (.bl true) H'
theorem law_imp {K : PySem.W.Frag} (vs : List V) (H : Hp) (Q : VK) (E : XK) (h : spLaw K vs H Q E) : spD K 1 phi_law vs H Q E := by
  obtain ⟨a, ns, rfl, hS, hl, q⟩ := h
  refine ⟨rfl, fun b => if b = a then H b else none, [.fz (.list (ns.map .int))], padd z0 z0, fun b o e => ?_, .cons (own_fz (.lst (xs := ns.map V.int) ?_ (dpa_ints ns))) .nil, ⟨fun a => ⟨by unfold padd z0; omega, fun z => absurd rfl z⟩⟩, fun r ts' => r = .fz (.bool true), ⟨ns, rfl, hl, rfl⟩, fun r ts' e v H' F' mv m' o _ _ => ?_⟩
  · have e' : (if b = a then H b else none) = some o := e
    split at e'
    · exact e'
    · cases e'
  · rcases hS with (h | ⟨o, h⟩) | h
    · exact .inl (.inl ((if_pos rfl).trans h))
    · exact .inl (.inr ⟨o, (if_pos rfl).trans h⟩)
    · exact .inr h
  · subst e
    cases o.1
    exact q H'
theorem all_mk {l : PySem.W.OpenLaw} {w : World} {K : PySem.W.Frag} {h : Heap} {mg : Str → Option Value} {fa : Addr} (X : K.In h) (G : h.Ns mainGlobals mg) (hfa : mg "law" = some (.ref fa))
    {f0 : Addr} {od0 an0 : Option Addr} {sl0 : Array (Option Value)} {oc0 kV0 dc0 pm0 cd0 ct0 : Value} (a0 : PySem.W.nsIn K mainGlobals "is_free" = some (some (.ref f0))) (l0 : K.lookup f0 = some ⟨oc0, od0, .func (PySem.W.fnOf "is_free" "is_free" (defArgs S_is_free) (defBody S_is_free) (defScope S_is_free) .none kV0 dc0 pm0 an0 cd0 ct0), sl0⟩) (c0 : PySem.W.codeIn K cd0 "is_free" = true) (k0 : PySem.W.keepIn K (.ref f0) = true)
    {f1 : Addr} {od1 an1 : Option Addr} {sl1 : Array (Option Value)} {oc1 kV1 dc1 pm1 cd1 ct1 : Value} (a1 : PySem.W.nsIn K mainGlobals "places_with" = some (some (.ref f1))) (l1 : K.lookup f1 = some ⟨oc1, od1, .func (PySem.W.fnOf "places_with" "places_with" (defArgs S_places_with) (defBody S_places_with) (defScope S_places_with) .none kV1 dc1 pm1 an1 cd1 ct1), sl1⟩) (c1 : PySem.W.codeIn K cd1 "places_with" = true) (k1 : PySem.W.keepIn K (.ref f1) = true)
    {f2 : Addr} {od2 an2 : Option Addr} {sl2 : Array (Option Value)} {oc2 kV2 dc2 pm2 cd2 ct2 : Value} (a2 : PySem.W.nsIn K mainGlobals "place_beside" = some (some (.ref f2))) (l2 : K.lookup f2 = some ⟨oc2, od2, .func (PySem.W.fnOf "place_beside" "place_beside" (defArgs S_place_beside) (defBody S_place_beside) (defScope S_place_beside) .none kV2 dc2 pm2 an2 cd2 ct2), sl2⟩) (c2 : PySem.W.codeIn K cd2 "place_beside" = true) (k2 : PySem.W.keepIn K (.ref f2) = true)
    {f3 : Addr} {od3 an3 : Option Addr} {sl3 : Array (Option Value)} {oc3 kV3 dc3 pm3 cd3 ct3 : Value} (a3 : PySem.W.nsIn K mainGlobals "layers_of" = some (some (.ref f3))) (l3 : K.lookup f3 = some ⟨oc3, od3, .func (PySem.W.fnOf "layers_of" "layers_of" (defArgs S_layers_of) (defBody S_layers_of) (defScope S_layers_of) .none kV3 dc3 pm3 an3 cd3 ct3), sl3⟩) (c3 : PySem.W.codeIn K cd3 "layers_of" = true) (k3 : PySem.W.keepIn K (.ref f3) = true)
    {f4 : Addr} {od4 an4 : Option Addr} {sl4 : Array (Option Value)} {oc4 kV4 dc4 pm4 cd4 ct4 : Value} (a4 : PySem.W.nsIn K mainGlobals "_law_folded" = some (some (.ref f4))) (l4 : K.lookup f4 = some ⟨oc4, od4, .func (PySem.W.fnOf "_law_folded" "_law_folded" (defArgs S_l_folded) (defBody S_l_folded) (defScope S_l_folded) .none kV4 dc4 pm4 an4 cd4 ct4), sl4⟩) (c4 : PySem.W.codeIn K cd4 "_law_folded" = true) (k4 : PySem.W.keepIn K (.ref f4) = true)
    {f5 : Addr} {od5 an5 : Option Addr} {sl5 : Array (Option Value)} {oc5 kV5 dc5 pm5 cd5 ct5 : Value} (a5 : PySem.W.nsIn K mainGlobals "_law_seed" = some (some (.ref f5))) (l5 : K.lookup f5 = some ⟨oc5, od5, .func (PySem.W.fnOf "_law_seed" "_law_seed" (defArgs S_l_seed) (defBody S_l_seed) (defScope S_l_seed) .none kV5 dc5 pm5 an5 cd5 ct5), sl5⟩) (c5 : PySem.W.codeIn K cd5 "_law_seed" = true) (k5 : PySem.W.keepIn K (.ref f5) = true)
    {f6 : Addr} {od6 an6 : Option Addr} {sl6 : Array (Option Value)} {oc6 kV6 dc6 pm6 cd6 ct6 : Value} (a6 : PySem.W.nsIn K mainGlobals "_law_draw" = some (some (.ref f6))) (l6 : K.lookup f6 = some ⟨oc6, od6, .func (PySem.W.fnOf "_law_draw" "_law_draw" (defArgs S_l_draw) (defBody S_l_draw) (defScope S_l_draw) .none kV6 dc6 pm6 an6 cd6 ct6), sl6⟩) (c6 : PySem.W.codeIn K cd6 "_law_draw" = true) (k6 : PySem.W.keepIn K (.ref f6) = true)
    {f7 : Addr} {od7 an7 : Option Addr} {sl7 : Array (Option Value)} {oc7 kV7 dc7 pm7 cd7 ct7 : Value} (a7 : PySem.W.nsIn K mainGlobals "_law_spiral" = some (some (.ref f7))) (l7 : K.lookup f7 = some ⟨oc7, od7, .func (PySem.W.fnOf "_law_spiral" "_law_spiral" (defArgs S_l_spiral) (defBody S_l_spiral) (defScope S_l_spiral) .none kV7 dc7 pm7 an7 cd7 ct7), sl7⟩) (c7 : PySem.W.codeIn K cd7 "_law_spiral" = true) (k7 : PySem.W.keepIn K (.ref f7) = true)
    {f8 : Addr} {od8 an8 : Option Addr} {sl8 : Array (Option Value)} {oc8 kV8 dc8 pm8 cd8 ct8 : Value} (a8 : PySem.W.nsIn K mainGlobals "_law_free" = some (some (.ref f8))) (l8 : K.lookup f8 = some ⟨oc8, od8, .func (PySem.W.fnOf "_law_free" "_law_free" (defArgs S_l_free) (defBody S_l_free) (defScope S_l_free) .none kV8 dc8 pm8 an8 cd8 ct8), sl8⟩) (c8 : PySem.W.codeIn K cd8 "_law_free" = true) (k8 : PySem.W.keepIn K (.ref f8) = true)
    {f9 : Addr} {od9 an9 : Option Addr} {sl9 : Array (Option Value)} {oc9 kV9 dc9 pm9 cd9 ct9 : Value} (a9 : PySem.W.nsIn K mainGlobals "_law_is" = some (some (.ref f9))) (l9 : K.lookup f9 = some ⟨oc9, od9, .func (PySem.W.fnOf "_law_is" "_law_is" (defArgs S_l_is) (defBody S_l_is) (defScope S_l_is) .none kV9 dc9 pm9 an9 cd9 ct9), sl9⟩) (c9 : PySem.W.codeIn K cd9 "_law_is" = true) (k9 : PySem.W.keepIn K (.ref f9) = true)
    {f10 : Addr} {od10 an10 : Option Addr} {sl10 : Array (Option Value)} {oc10 kV10 dc10 pm10 cd10 ct10 : Value} (a10 : PySem.W.nsIn K mainGlobals "_law_line" = some (some (.ref f10))) (l10 : K.lookup f10 = some ⟨oc10, od10, .func (PySem.W.fnOf "_law_line" "_law_line" (defArgs S_l_line) (defBody S_l_line) (defScope S_l_line) .none kV10 dc10 pm10 an10 cd10 ct10), sl10⟩) (c10 : PySem.W.codeIn K cd10 "_law_line" = true) (k10 : PySem.W.keepIn K (.ref f10) = true)
    {f11 : Addr} {od11 an11 : Option Addr} {sl11 : Array (Option Value)} {oc11 kV11 dc11 pm11 cd11 ct11 : Value} (a11 : PySem.W.nsIn K mainGlobals "free_places" = some (some (.ref f11))) (l11 : K.lookup f11 = some ⟨oc11, od11, .func (PySem.W.fnOf "free_places" "free_places" (defArgs S_free_places) (defBody S_free_places) (defScope S_free_places) .none kV11 dc11 pm11 an11 cd11 ct11), sl11⟩) (c11 : PySem.W.codeIn K cd11 "free_places" = true) (k11 : PySem.W.keepIn K (.ref f11) = true)
    {f12 : Addr} {od12 an12 : Option Addr} {sl12 : Array (Option Value)} {oc12 kV12 dc12 pm12 cd12 ct12 : Value} (a12 : PySem.W.nsIn K mainGlobals "sights_from" = some (some (.ref f12))) (l12 : K.lookup f12 = some ⟨oc12, od12, .func (PySem.W.fnOf "sights_from" "sights_from" (defArgs S_sights_from) (defBody S_sights_from) (defScope S_sights_from) .none kV12 dc12 pm12 an12 cd12 ct12), sl12⟩) (c12 : PySem.W.codeIn K cd12 "sights_from" = true) (k12 : PySem.W.keepIn K (.ref f12) = true)
    {f13 : Addr} {od13 an13 : Option Addr} {sl13 : Array (Option Value)} {oc13 kV13 dc13 pm13 cd13 ct13 : Value} (a13 : PySem.W.nsIn K mainGlobals "turns_by_sights" = some (some (.ref f13))) (l13 : K.lookup f13 = some ⟨oc13, od13, .func (PySem.W.fnOf "turns_by_sights" "turns_by_sights" (defArgs S_turns_by_sights) (defBody S_turns_by_sights) (defScope S_turns_by_sights) .none kV13 dc13 pm13 an13 cd13 ct13), sl13⟩) (c13 : PySem.W.codeIn K cd13 "turns_by_sights" = true) (k13 : PySem.W.keepIn K (.ref f13) = true)
    {f14 : Addr} {od14 an14 : Option Addr} {sl14 : Array (Option Value)} {oc14 kV14 dc14 pm14 cd14 ct14 : Value} (a14 : PySem.W.nsIn K mainGlobals "_law_sign" = some (some (.ref f14))) (l14 : K.lookup f14 = some ⟨oc14, od14, .func (PySem.W.fnOf "_law_sign" "_law_sign" (defArgs S_l_sign) (defBody S_l_sign) (defScope S_l_sign) .none kV14 dc14 pm14 an14 cd14 ct14), sl14⟩) (c14 : PySem.W.codeIn K cd14 "_law_sign" = true) (k14 : PySem.W.keepIn K (.ref f14) = true)
    {f15 : Addr} {od15 an15 : Option Addr} {sl15 : Array (Option Value)} {oc15 kV15 dc15 pm15 cd15 ct15 : Value} (a15 : PySem.W.nsIn K mainGlobals "_law_bad_place" = some (some (.ref f15))) (l15 : K.lookup f15 = some ⟨oc15, od15, .func (PySem.W.fnOf "_law_bad_place" "_law_bad_place" (defArgs S_l_bad_place) (defBody S_l_bad_place) (defScope S_l_bad_place) .none kV15 dc15 pm15 an15 cd15 ct15), sl15⟩) (c15 : PySem.W.codeIn K cd15 "_law_bad_place" = true) (k15 : PySem.W.keepIn K (.ref f15) = true)
    {f16 : Addr} {od16 an16 : Option Addr} {sl16 : Array (Option Value)} {oc16 kV16 dc16 pm16 cd16 ct16 : Value} (a16 : PySem.W.nsIn K mainGlobals "_law_turns" = some (some (.ref f16))) (l16 : K.lookup f16 = some ⟨oc16, od16, .func (PySem.W.fnOf "_law_turns" "_law_turns" (defArgs S_l_turns) (defBody S_l_turns) (defScope S_l_turns) .none kV16 dc16 pm16 an16 cd16 ct16), sl16⟩) (c16 : PySem.W.codeIn K cd16 "_law_turns" = true) (k16 : PySem.W.keepIn K (.ref f16) = true)
    {f17 : Addr} {od17 an17 : Option Addr} {sl17 : Array (Option Value)} {oc17 kV17 dc17 pm17 cd17 ct17 : Value} (a17 : PySem.W.nsIn K mainGlobals "sights_of" = some (some (.ref f17))) (l17 : K.lookup f17 = some ⟨oc17, od17, .func (PySem.W.fnOf "sights_of" "sights_of" (defArgs S_sights_of) (defBody S_sights_of) (defScope S_sights_of) .none kV17 dc17 pm17 an17 cd17 ct17), sl17⟩) (c17 : PySem.W.codeIn K cd17 "sights_of" = true) (k17 : PySem.W.keepIn K (.ref f17) = true)
    {f18 : Addr} {od18 an18 : Option Addr} {sl18 : Array (Option Value)} {oc18 kV18 dc18 pm18 cd18 ct18 : Value} (a18 : PySem.W.nsIn K mainGlobals "_law_grid" = some (some (.ref f18))) (l18 : K.lookup f18 = some ⟨oc18, od18, .func (PySem.W.fnOf "_law_grid" "_law_grid" (defArgs S_l_grid) (defBody S_l_grid) (defScope S_l_grid) .none kV18 dc18 pm18 an18 cd18 ct18), sl18⟩) (c18 : PySem.W.codeIn K cd18 "_law_grid" = true) (k18 : PySem.W.keepIn K (.ref f18) = true)
    {f19 : Addr} {od19 an19 : Option Addr} {sl19 : Array (Option Value)} {oc19 kV19 dc19 pm19 cd19 ct19 : Value} (a19 : PySem.W.nsIn K mainGlobals "ask_free" = some (some (.ref f19))) (l19 : K.lookup f19 = some ⟨oc19, od19, .func (PySem.W.fnOf "ask_free" "ask_free" (defArgs S_ask_free) (defBody S_ask_free) (defScope S_ask_free) .none kV19 dc19 pm19 an19 cd19 ct19), sl19⟩) (c19 : PySem.W.codeIn K cd19 "ask_free" = true) (k19 : PySem.W.keepIn K (.ref f19) = true)
    {f20 : Addr} {od20 an20 : Option Addr} {sl20 : Array (Option Value)} {oc20 kV20 dc20 pm20 cd20 ct20 : Value} (a20 : PySem.W.nsIn K mainGlobals "turns_from" = some (some (.ref f20))) (l20 : K.lookup f20 = some ⟨oc20, od20, .func (PySem.W.fnOf "turns_from" "turns_from" (defArgs S_turns_from) (defBody S_turns_from) (defScope S_turns_from) .none kV20 dc20 pm20 an20 cd20 ct20), sl20⟩) (c20 : PySem.W.codeIn K cd20 "turns_from" = true) (k20 : PySem.W.keepIn K (.ref f20) = true)
    {f21 : Addr} {od21 an21 : Option Addr} {sl21 : Array (Option Value)} {oc21 kV21 dc21 pm21 cd21 ct21 : Value} (a21 : PySem.W.nsIn K mainGlobals "_law_right" = some (some (.ref f21))) (l21 : K.lookup f21 = some ⟨oc21, od21, .func (PySem.W.fnOf "_law_right" "_law_right" (defArgs S_l_right) (defBody S_l_right) (defScope S_l_right) .none kV21 dc21 pm21 an21 cd21 ct21), sl21⟩) (c21 : PySem.W.codeIn K cd21 "_law_right" = true) (k21 : PySem.W.keepIn K (.ref f21) = true)
    {f22 : Addr} {od22 an22 : Option Addr} {sl22 : Array (Option Value)} {oc22 kV22 dc22 pm22 cd22 ct22 : Value} (a22 : PySem.W.nsIn K mainGlobals "_law_refused" = some (some (.ref f22))) (l22 : K.lookup f22 = some ⟨oc22, od22, .func (PySem.W.fnOf "_law_refused" "_law_refused" (defArgs S_l_refused) (defBody S_l_refused) (defScope S_l_refused) .none kV22 dc22 pm22 an22 cd22 ct22), sl22⟩) (c22 : PySem.W.codeIn K cd22 "_law_refused" = true) (k22 : PySem.W.keepIn K (.ref f22) = true)
    {f23 : Addr} {od23 an23 : Option Addr} {sl23 : Array (Option Value)} {oc23 kV23 dc23 pm23 cd23 ct23 : Value} (a23 : PySem.W.nsIn K mainGlobals "law" = some (some (.ref f23))) (l23 : K.lookup f23 = some ⟨oc23, od23, .func (PySem.W.fnOf "law" "law" (defArgs S_law) (defBody S_law) (defScope S_law) .none kV23 dc23 pm23 an23 cd23 ct23), sl23⟩) (c23 : PySem.W.codeIn K cd23 "law" = true) (k23 : PySem.W.keepIn K (.ref f23) = true)
    (z_ValueError : PySem.W.nsIn K mainGlobals "ValueError" = some none)
    (z_bool : PySem.W.nsIn K mainGlobals "bool" = some none)
    (z_dict : PySem.W.nsIn K mainGlobals "dict" = some none)
    (z_enumerate : PySem.W.nsIn K mainGlobals "enumerate" = some none)
    (z_int : PySem.W.nsIn K mainGlobals "int" = some none)
    (z_isinstance : PySem.W.nsIn K mainGlobals "isinstance" = some none)
    (z_len : PySem.W.nsIn K mainGlobals "len" = some none)
    (z_list : PySem.W.nsIn K mainGlobals "list" = some none)
    (z_max : PySem.W.nsIn K mainGlobals "max" = some none)
    (z_range : PySem.W.nsIn K mainGlobals "range" = some none)
    (z_sorted : PySem.W.nsIn K mainGlobals "sorted" = some none)
    (z_tuple : PySem.W.nsIn K mainGlobals "tuple" = some none)
    {t_FREE : Tok} (q_FREE : PySem.W.nsIn K mainGlobals "FREE" = some (some (.str "." t_FREE)))
    {dd_STEPS : Addr} {es_STEPS : Array DictEntry} {nn_STEPS : Nat} (qd_STEPS : PySem.W.nsIn K mainGlobals "STEPS" = some (some (.ref dd_STEPS))) (ld_STEPS : K.lookup dd_STEPS = some ⟨.type "dict", none, .dict es_STEPS nn_STEPS, #[]⟩) (li_STEPS : PySem.W.KeysLit w.params es_STEPS.toList) (lo_STEPS : (dd_STEPS == sysModules) = false) (ke_STEPS : es_STEPS.toList.map (fun e => match e.key with | .str z _ => some z | _ => none) = tab_STEPS.map (fun e => some e.1))
    {a_STEPS_0 : Addr} {o_STEPS_0 : Obj} (qe_STEPS_0 : PySem.W.nsIn K dd_STEPS "e" = some (some (.ref a_STEPS_0))) (le_STEPS_0 : K.lookup a_STEPS_0 = some o_STEPS_0) (te_STEPS_0 : KPair o_STEPS_0 (0) (1))
    {a_STEPS_1 : Addr} {o_STEPS_1 : Obj} (qe_STEPS_1 : PySem.W.nsIn K dd_STEPS "n" = some (some (.ref a_STEPS_1))) (le_STEPS_1 : K.lookup a_STEPS_1 = some o_STEPS_1) (te_STEPS_1 : KPair o_STEPS_1 (-1) (0))
    {a_STEPS_2 : Addr} {o_STEPS_2 : Obj} (qe_STEPS_2 : PySem.W.nsIn K dd_STEPS "s" = some (some (.ref a_STEPS_2))) (le_STEPS_2 : K.lookup a_STEPS_2 = some o_STEPS_2) (te_STEPS_2 : KPair o_STEPS_2 (1) (0))
    {a_STEPS_3 : Addr} {o_STEPS_3 : Obj} (qe_STEPS_3 : PySem.W.nsIn K dd_STEPS "w" = some (some (.ref a_STEPS_3))) (le_STEPS_3 : K.lookup a_STEPS_3 = some o_STEPS_3) (te_STEPS_3 : KPair o_STEPS_3 (0) (-1))
    {C_NoWay : Addr} (qc_NoWay : PySem.W.nsIn K mainGlobals "NoWay" = some (some (.ref C_NoWay))) (cl_NoWay : PySem.W.isClsIn K C_NoWay = true) (ty_NoWay : PySem.W.typeIn K (.ref C_NoWay) = some (.type "type"))
    {C_NoAsk : Addr} (qc_NoAsk : PySem.W.nsIn K mainGlobals "NoAsk" = some (some (.ref C_NoAsk))) (cl_NoAsk : PySem.W.isClsIn K C_NoAsk = true) (ty_NoAsk : PySem.W.typeIn K (.ref C_NoAsk) = some (.type "type"))
    {C_NoGrid : Addr} (qc_NoGrid : PySem.W.nsIn K mainGlobals "NoGrid" = some (some (.ref C_NoGrid))) (cl_NoGrid : PySem.W.isClsIn K C_NoGrid = true) (ty_NoGrid : PySem.W.typeIn K (.ref C_NoGrid) = some (.type "type"))
    {C_NoPlace : Addr} (qc_NoPlace : PySem.W.nsIn K mainGlobals "NoPlace" = some (some (.ref C_NoPlace))) (cl_NoPlace : PySem.W.isClsIn K C_NoPlace = true) (ty_NoPlace : PySem.W.typeIn K (.ref C_NoPlace) = some (.type "type"))
    {C_NoRuns : Addr} (qc_NoRuns : PySem.W.nsIn K mainGlobals "NoRuns" = some (some (.ref C_NoRuns))) (cl_NoRuns : PySem.W.isClsIn K C_NoRuns = true) (ty_NoRuns : PySem.W.typeIn K (.ref C_NoRuns) = some (.type "type"))
    {C_TurnError : Addr} (qc_TurnError : PySem.W.nsIn K mainGlobals "TurnError" = some (some (.ref C_TurnError))) (cl_TurnError : PySem.W.isClsIn K C_TurnError = true) (ty_TurnError : PySem.W.typeIn K (.ref C_TurnError) = some (.type "type"))
    (gx6 : PySem.W.specialIn K (.builtin "object.__class__") "__get__" = some (some (.builtin "getset_descriptor.__get__"))) (gx7 : PySem.W.takesIn K (.builtin "object.__class__") = some true)
    (x1_NoPlace : PySem.W.findIn K (.ref C_NoPlace) "__getattribute__" = some (some (.builtin "BaseException.__getattribute__"))) (x2_NoPlace : PySem.W.findIn K (.ref C_NoPlace) "__getattr__" = some none) (x3_NoPlace : PySem.W.subIn K (.ref C_NoPlace) (.type "BaseException") = some true) (x4_NoPlace : PySem.W.hasDictIn K C_NoPlace = true) (x5_NoPlace : PySem.W.findIn K (.ref C_NoPlace) "__class__" = some (some (.builtin "object.__class__"))) (x8_NoPlace : PySem.W.mroIn K C_NoPlace (.type "object") = some true)
    (sv_NoPlace : PySem.W.subIn K (.ref C_NoPlace) (.type "ValueError") = some true)
    (s_NoPlace_NoWay : PySem.W.subIn K (.ref C_NoPlace) (.ref C_NoWay) = some false)
    (ne_NoPlace_NoWay : C_NoPlace ≠ C_NoWay)
    (s_NoPlace_NoAsk : PySem.W.subIn K (.ref C_NoPlace) (.ref C_NoAsk) = some false)
    (ne_NoPlace_NoAsk : C_NoPlace ≠ C_NoAsk)
    (s_NoPlace_NoGrid : PySem.W.subIn K (.ref C_NoPlace) (.ref C_NoGrid) = some false)
    (ne_NoPlace_NoGrid : C_NoPlace ≠ C_NoGrid)
    (s_NoPlace_NoPlace : PySem.W.subIn K (.ref C_NoPlace) (.ref C_NoPlace) = some true)
    (s_NoPlace_NoRuns : PySem.W.subIn K (.ref C_NoPlace) (.ref C_NoRuns) = some false)
    (ne_NoPlace_NoRuns : C_NoPlace ≠ C_NoRuns)
    (s_NoPlace_TurnError : PySem.W.subIn K (.ref C_NoPlace) (.ref C_TurnError) = some true)
    (xn_place_NoPlace : PySem.W.findIn K (.ref C_NoPlace) "place" = some none)
    (ex_N : PySem.W.excIn K C_NoWay veMro "ValueError.__new__" = true) (kp_N : PySem.W.keepIn K (.ref C_NoWay) = true) (sb_N : PySem.W.subIn K (.ref C_NoWay) (.type "BaseException") = some true)
    {o_C_NoPlace o_fI_NoPlace o_cc_NoPlace o_cd_NoPlace o_N_NoPlace : Addr} {o_od_NoPlace o_cl_NoPlace o_cdd_NoPlace o_an_NoPlace o_dd_NoPlace : Option Addr} {o_oc_NoPlace o_kV_NoPlace o_dc_NoPlace o_pm_NoPlace o_ct_NoPlace o_ccl_NoPlace o_cccl_NoPlace : Value} {o_osl_NoPlace o_csl_NoPlace o_ccs_NoPlace : Array (Option Value)} {o_vs_NoPlace : Array Value} {o_file_NoPlace : Str} {o_tf_NoPlace : Tok} {o_nm_NoPlace o_q_NoPlace : Str} {o_bs_NoPlace o_bm_NoPlace : List Value} {o_sn_NoPlace : List Str} {o_sub_NoPlace : List Value} {o_ab_NoPlace : Bool} {o_col_NoPlace : Option Bool} {o_k0_NoPlace o_k1_NoPlace o_k2_NoPlace o_k3_NoPlace o_k5_NoPlace : Option Value}
    (oqc_NoPlace : PySem.W.nsIn K mainGlobals "NoPlace" = some (some (.ref o_C_NoPlace))) (oiC_NoPlace : PySem.W.findIn K (.ref o_C_NoPlace) "__init__" = some (some (.ref o_fI_NoPlace))) (otI_NoPlace : PySem.W.typeIn K (.ref o_fI_NoPlace) = some (.type "function"))
    (olf_NoPlace : K.lookup o_fI_NoPlace = some ⟨o_oc_NoPlace, o_od_NoPlace, .func (PySem.W.ksFn "__init__" "NoPlace.__init__" (defArgs Si_NoPlace) (defBody Si_NoPlace) (defScope Si_NoPlace) .none o_kV_NoPlace o_dc_NoPlace o_pm_NoPlace o_an_NoPlace (.ref o_cd_NoPlace) o_ct_NoPlace o_cc_NoPlace), o_osl_NoPlace⟩) (ocd_NoPlace : PySem.W.codeIn K (.ref o_cd_NoPlace) "NoPlace.__init__" = true) (olcc_NoPlace : K.lookup o_cc_NoPlace = some ⟨o_ccl_NoPlace, o_cl_NoPlace, .cell (some (.ref o_C_NoPlace)), o_csl_NoPlace⟩)
    (olcd_NoPlace : K.lookup o_cd_NoPlace = some ⟨o_cccl_NoPlace, o_cdd_NoPlace, .fields o_vs_NoPlace, o_ccs_NoPlace⟩) (ohvs_NoPlace : o_vs_NoPlace[2]? = some (.str o_file_NoPlace o_tf_NoPlace)) (ohfi_NoPlace : ((l.prog.main.file : Str) == o_file_NoPlace) = true)
    (osup_NoPlace : PySem.W.ks_superIn K o_C_NoPlace o_C_NoPlace "__init__" = some (some (.builtin "ValueError.__init__"))) (omro_NoPlace : PySem.W.mroIn K o_C_NoPlace (.ref o_C_NoPlace) = some true) (osubV_NoPlace : PySem.W.subIn K (.ref o_C_NoPlace) (.type "ValueError") = some true)
    (onst_NoPlace : PySem.W.nsIn K cStatics "thirdparty.any" = some none) (omgs_NoPlace : PySem.W.nsIn K mainGlobals "super" = some none) (olC_NoPlace : K.lookup o_C_NoPlace = some (excClassObj o_nm_NoPlace o_q_NoPlace o_C_NoPlace o_N_NoPlace o_bs_NoPlace o_bm_NoPlace true o_sn_NoPlace o_sub_NoPlace o_ab_NoPlace o_col_NoPlace o_dd_NoPlace o_k0_NoPlace o_k1_NoPlace o_k2_NoPlace o_k3_NoPlace o_k5_NoPlace "ValueError.__new__")) (ohbm_NoPlace : PySem.HandSPX.refsVE o_bm_NoPlace = true)
    (osa_NoPlace : PySem.W.findIn K (.ref o_C_NoPlace) "__setattr__" = some (some (.builtin "object.__setattr__"))) (oexC_NoPlace : PySem.W.subIn K (.ref o_C_NoPlace) (.type "BaseException") = some true) (otyC_NoPlace : PySem.W.typeIn K (.ref o_C_NoPlace) = some (.type "type")) (okC_NoPlace : PySem.W.keepIn K (.ref o_C_NoPlace) = true) (ohno_NoPlace : PySem.W.findIn K (.ref o_C_NoPlace) "place" = some none)
    (ohtop_NoPlace : (l.prog.main.scope.names.lookup ("super" : Str)).isSome = false)
    (sT_TurnError : PySem.W.subIn K (.ref C_TurnError) (.type "BaseException") = some true) (hT_TurnError : PySem.W.hasDictIn K C_TurnError = true)
    : ∃ fd : FuncData, (∀ (s : Shared) (v : Value), BindsTo s fd ⟨[v], []⟩ [("script", v)]) ∧ ∀ base : Heap, K.In base → base.Ns mainGlobals mg → FnOk l.prog w K mg base CX0 7 fa fd ["script"] (spLaw K) := by
  have e := hfa.symm.trans (PySem.W.mg_of X G a23)
  cases e
  have F0 := fun_mk (st := S_is_free) l0 c0 k0
  have b0 := F0.binds (ps := ["grid", "place"]) fun _ _ _ _ _ _ us hl => match us, hl with | [_, _], _ => rfl
  have F1 := fun_mk (st := S_places_with) l1 c1 k1
  have b1 := F1.binds (ps := ["grid", "sign"]) fun _ _ _ _ _ _ us hl => match us, hl with | [_, _], _ => rfl
  have F2 := fun_mk (st := S_place_beside) l2 c2 k2
  have b2 := F2.binds (ps := ["place", "heading"]) fun _ _ _ _ _ _ us hl => match us, hl with | [_, _], _ => rfl
  have F3 := fun_mk (st := S_layers_of) l3 c3 k3
  have b3 := F3.binds (ps := ["sights", "place"]) fun _ _ _ _ _ _ us hl => match us, hl with | [_, _], _ => rfl
  have F4 := fun_mk (st := S_l_folded) l4 c4 k4
  have b4 := F4.binds (ps := ["script"]) fun _ _ _ _ _ _ us hl => match us, hl with | [_], _ => rfl
  have F5 := fun_mk (st := S_l_seed) l5 c5 k5
  have b5 := F5.binds (ps := ["cell"]) fun _ _ _ _ _ _ us hl => match us, hl with | [_], _ => rfl
  have F6 := fun_mk (st := S_l_draw) l6 c6 k6
  have b6 := F6.binds (ps := ["seed", "most"]) fun _ _ _ _ _ _ us hl => match us, hl with | [_, _], _ => rfl
  have F7 := fun_mk (st := S_l_spiral) l7 c7 k7
  have b7 := F7.binds (ps := ["rows", "columns"]) fun _ _ _ _ _ _ us hl => match us, hl with | [_, _], _ => rfl
  have F8 := fun_mk (st := S_l_free) l8 c8 k8
  have b8 := F8.binds (ps := ["grid"]) fun _ _ _ _ _ _ us hl => match us, hl with | [_], _ => rfl
  have F9 := fun_mk (st := S_l_is) l9 c9 k9
  have b9 := F9.binds (ps := ["caught", "kind"]) fun _ _ _ _ _ _ us hl => match us, hl with | [_, _], _ => rfl
  have F10 := fun_mk (st := S_l_line) l10 c10 k10
  have b10 := F10.binds (ps := ["grid", "place", "down", "right"]) fun _ _ _ _ _ _ us hl => match us, hl with | [_, _, _, _], _ => rfl
  have F11 := fun_mk (st := S_free_places) l11 c11 k11
  have b11 := F11.binds (ps := ["grid"]) fun _ _ _ _ _ _ us hl => match us, hl with | [_], _ => rfl
  have F12 := fun_mk (st := S_sights_from) l12 c12 k12
  have b12 := F12.binds (ps := ["grid", "place"]) fun _ _ _ _ _ _ us hl => match us, hl with | [_, _], _ => rfl
  have F13 := fun_mk (st := S_turns_by_sights) l13 c13 k13
  have b13 := F13.binds (ps := ["sights", "place"]) fun _ _ _ _ _ _ us hl => match us, hl with | [_, _], _ => rfl
  have F14 := fun_mk (st := S_l_sign) l14 c14 k14
  have b14 := F14.binds (ps := ["seed", "kind", "row", "column", "columns"]) fun _ _ _ _ _ _ us hl => match us, hl with | [_, _, _, _, _], _ => rfl
  have F15 := fun_mk (st := S_l_bad_place) l15 c15 k15
  have b15 := F15.binds (ps := ["seed", "grid"]) fun _ _ _ _ _ _ us hl => match us, hl with | [_, _], _ => rfl
  have F16 := fun_mk (st := S_l_turns) l16 c16 k16
  have b16 := F16.binds (ps := ["grid", "place"]) fun _ _ _ _ _ _ us hl => match us, hl with | [_, _], _ => rfl
  have F17 := fun_mk (st := S_sights_of) l17 c17 k17
  have b17 := F17.binds (ps := ["grid"]) fun _ _ _ _ _ _ us hl => match us, hl with | [_], _ => rfl
  have F18 := fun_mk (st := S_l_grid) l18 c18 k18
  have b18 := F18.binds (ps := ["seed", "most"]) fun _ _ _ _ _ _ us hl => match us, hl with | [_, _], _ => rfl
  have F19 := fun_mk (st := S_ask_free) l19 c19 k19
  have b19 := F19.binds (ps := ["grid", "place"]) fun _ _ _ _ _ _ us hl => match us, hl with | [_, _], _ => rfl
  have F20 := fun_mk (st := S_turns_from) l20 c20 k20
  have b20 := F20.binds (ps := ["grid", "place"]) fun _ _ _ _ _ _ us hl => match us, hl with | [_, _], _ => rfl
  have F21 := fun_mk (st := S_l_right) l21 c21 k21
  have b21 := F21.binds (ps := ["grid", "place"]) fun _ _ _ _ _ _ us hl => match us, hl with | [_, _], _ => rfl
  have F22 := fun_mk (st := S_l_refused) l22 c22 k22
  have b22 := F22.binds (ps := ["grid", "place"]) fun _ _ _ _ _ _ us hl => match us, hl with | [_, _], _ => rfl
  have F23 := fun_mk (st := S_law) l23 c23 k23
  have b23 := F23.binds (ps := ["script"]) fun _ _ _ _ _ _ us hl => match us, hl with | [_], _ => rfl
  have oF_NoPlace : SupFn l.prog K mg o_C_NoPlace o_fI_NoPlace o_cc_NoPlace o_cd_NoPlace "self" "place" (defBody Si_NoPlace) (PySem.W.ksFn "__init__" "NoPlace.__init__" (defArgs Si_NoPlace) (defBody Si_NoPlace) (defScope Si_NoPlace) .none o_kV_NoPlace o_dc_NoPlace o_pm_NoPlace o_an_NoPlace (.ref o_cd_NoPlace) o_ct_NoPlace o_cc_NoPlace) := {
    fdE := ⟨_, _, _, _, _, _, _, _, _, _, rfl⟩, lk := ⟨_, _, _, olf_NoPlace⟩, hcd := ocd_NoPlace, cell := ⟨_, _, _, olcc_NoPlace⟩, code := ⟨_, _, _, _, _, _, olcd_NoPlace, ohvs_NoPlace, ohfi_NoPlace⟩, head := ⟨_, rfl, rfl⟩,
    kind := rfl, co := rfl, gen := rfl, ncell := (by decide +kernel : ∀ x ∈ (defScope Si_NoPlace).names, x.2 ≠ NameKind.cell), nfree := (by decide +kernel : ∀ x ∈ (defScope Si_NoPlace).names, x.2 = NameKind.free → x.1 = "__class__"), l0 := (by decide +kernel : (defScope Si_NoPlace).names.lookup ("self" : Str) = some .local), l1 := (by decide +kernel : (defScope Si_NoPlace).names.lookup ("place" : Str) = some .local), ne := by decide, sup := (by decide +kernel : (defScope Si_NoPlace).names.lookup ("super" : Str) = some .globalImplicit), cls := (by decide +kernel : (defScope Si_NoPlace).names.lookup ("__class__" : Str) = some .free),
    d0 := by decide, c0 := by decide, d1 := by decide, c1 := by decide, mgs := PySem.W.mg_none_of X G omgs_NoPlace, top := ohtop_NoPlace, sup2 := osup_NoPlace, mro := omro_NoPlace, subV := osubV_NoPlace, nst := onst_NoPlace }
  have oB_NoPlace : Binds K (PySem.W.ksFn "__init__" "NoPlace.__init__" (defArgs Si_NoPlace) (defBody Si_NoPlace) (defScope Si_NoPlace) .none o_kV_NoPlace o_dc_NoPlace o_pm_NoPlace o_an_NoPlace (.ref o_cd_NoPlace) o_ct_NoPlace o_cc_NoPlace) ["self", "place"] [] := Binds.all fun us hl => match us, hl with | [_, _], _ => rfl
  have oR_NoPlace : RaisesK l.prog w K mg "NoPlace" "place" okP := raisesP oF_NoPlace rfl ⟨⟨_, _, _, _, _, _, _, _, _, _, _, _, _, _, _, olC_NoPlace, ohbm_NoPlace⟩, osa_NoPlace, oexC_NoPlace, otyC_NoPlace, okC_NoPlace⟩ oqc_NoPlace (PySem.W.mg_of X G oqc_NoPlace) oiC_NoPlace otI_NoPlace ohno_NoPlace oB_NoPlace rfl (by decide +kernel)
  let T : Txt l.prog K w mg := ⟨_, _, F0, b0, PySem.W.mg_of X G a0,
    _, _, F1, b1, PySem.W.mg_of X G a1,
    _, _, F2, b2, PySem.W.mg_of X G a2,
    _, _, F3, b3, PySem.W.mg_of X G a3,
    _, _, F4, b4, PySem.W.mg_of X G a4,
    _, _, F5, b5, PySem.W.mg_of X G a5,
    _, _, F6, b6, PySem.W.mg_of X G a6,
    _, _, F7, b7, PySem.W.mg_of X G a7,
    _, _, F8, b8, PySem.W.mg_of X G a8,
    _, _, F9, b9, PySem.W.mg_of X G a9,
    _, _, F10, b10, PySem.W.mg_of X G a10,
    _, _, F11, b11, PySem.W.mg_of X G a11,
    _, _, F12, b12, PySem.W.mg_of X G a12,
    _, _, F13, b13, PySem.W.mg_of X G a13,
    _, _, F14, b14, PySem.W.mg_of X G a14,
    _, _, F15, b15, PySem.W.mg_of X G a15,
    _, _, F16, b16, PySem.W.mg_of X G a16,
    _, _, F17, b17, PySem.W.mg_of X G a17,
    _, _, F18, b18, PySem.W.mg_of X G a18,
    _, _, F19, b19, PySem.W.mg_of X G a19,
    _, _, F20, b20, PySem.W.mg_of X G a20,
    _, _, F21, b21, PySem.W.mg_of X G a21,
    _, _, F22, b22, PySem.W.mg_of X G a22,
    _, _, F23, b23, PySem.W.mg_of X G a23,
    PySem.W.mg_none_of X G z_ValueError,
    PySem.W.mg_none_of X G z_bool,
    PySem.W.mg_none_of X G z_dict,
    PySem.W.mg_none_of X G z_enumerate,
    PySem.W.mg_none_of X G z_int,
    PySem.W.mg_none_of X G z_isinstance,
    PySem.W.mg_none_of X G z_len,
    PySem.W.mg_none_of X G z_list,
    PySem.W.mg_none_of X G z_max,
    PySem.W.mg_none_of X G z_range,
    PySem.W.mg_none_of X G z_sorted,
    PySem.W.mg_none_of X G z_tuple,
    ⟨_, PySem.W.mg_of X G q_FREE⟩,
    gdict_mk (PySem.W.mg_of X G qd_STEPS) ld_STEPS li_STEPS lo_STEPS ke_STEPS (fun e h => by
      simp only [tab_STEPS, List.mem_cons, List.not_mem_nil, or_false] at h
      rcases h with rfl | rfl | rfl | rfl
      · exact gent_pair qe_STEPS_0 le_STEPS_0 te_STEPS_0
      · exact gent_pair qe_STEPS_1 le_STEPS_1 te_STEPS_1
      · exact gent_pair qe_STEPS_2 le_STEPS_2 te_STEPS_2
      · exact gent_pair qe_STEPS_3 le_STEPS_3 te_STEPS_3),
    C_NoWay,
    PySem.W.mg_of X G qc_NoWay,
    (xisl_cons qc_NoPlace ⟨x1_NoPlace, x2_NoPlace, x3_NoPlace, x4_NoPlace, x5_NoPlace, gx6, gx7, x8_NoPlace⟩ (by
      rw [show subB "NoPlace" "NoWay" = false by decide +kernel]
      exact kit_refs cl_NoWay ty_NoWay s_NoPlace_NoWay (fun e => absurd e ne_NoPlace_NoWay)) xisl_nil),
    C_NoAsk,
    PySem.W.mg_of X G qc_NoAsk,
    (xisl_cons qc_NoPlace ⟨x1_NoPlace, x2_NoPlace, x3_NoPlace, x4_NoPlace, x5_NoPlace, gx6, gx7, x8_NoPlace⟩ (by
      rw [show subB "NoPlace" "NoAsk" = false by decide +kernel]
      exact kit_refs cl_NoAsk ty_NoAsk s_NoPlace_NoAsk (fun e => absurd e ne_NoPlace_NoAsk)) xisl_nil),
    C_NoGrid,
    PySem.W.mg_of X G qc_NoGrid,
    (xisl_cons qc_NoPlace ⟨x1_NoPlace, x2_NoPlace, x3_NoPlace, x4_NoPlace, x5_NoPlace, gx6, gx7, x8_NoPlace⟩ (by
      rw [show subB "NoPlace" "NoGrid" = false by decide +kernel]
      exact kit_refs cl_NoGrid ty_NoGrid s_NoPlace_NoGrid (fun e => absurd e ne_NoPlace_NoGrid)) xisl_nil),
    C_NoPlace,
    PySem.W.mg_of X G qc_NoPlace,
    (xisl_cons qc_NoPlace ⟨x1_NoPlace, x2_NoPlace, x3_NoPlace, x4_NoPlace, x5_NoPlace, gx6, gx7, x8_NoPlace⟩ (by
      rw [show subB "NoPlace" "NoPlace" = true by decide +kernel]
      exact kit_refs cl_NoPlace ty_NoPlace s_NoPlace_NoPlace (fun _ => rfl)) xisl_nil),
    C_NoRuns,
    PySem.W.mg_of X G qc_NoRuns,
    (xisl_cons qc_NoPlace ⟨x1_NoPlace, x2_NoPlace, x3_NoPlace, x4_NoPlace, x5_NoPlace, gx6, gx7, x8_NoPlace⟩ (by
      rw [show subB "NoPlace" "NoRuns" = false by decide +kernel]
      exact kit_refs cl_NoRuns ty_NoRuns s_NoPlace_NoRuns (fun e => absurd e ne_NoPlace_NoRuns)) xisl_nil),
    C_TurnError,
    PySem.W.mg_of X G qc_TurnError,
    (xisl_cons qc_NoPlace ⟨x1_NoPlace, x2_NoPlace, x3_NoPlace, x4_NoPlace, x5_NoPlace, gx6, gx7, x8_NoPlace⟩ (by
      rw [show subB "NoPlace" "TurnError" = true by decide +kernel]
      exact kit_refs cl_TurnError ty_TurnError s_NoPlace_TurnError (fun _ => rfl)) xisl_nil),
    (xisl_cons qc_NoPlace ⟨x1_NoPlace, x2_NoPlace, x3_NoPlace, x4_NoPlace, x5_NoPlace, gx6, gx7, x8_NoPlace⟩ (by
      rw [show subB "NoPlace" "ValueError" = true by decide +kernel]
      exact kit_VE sv_NoPlace) xisl_nil),
    (xfin_cons qc_NoPlace ⟨x1_NoPlace, x2_NoPlace, x3_NoPlace, x4_NoPlace⟩ xn_place_NoPlace xfin_nil),
    ⟨_, PySem.W.mg_of X G qc_NoWay, qc_NoWay, ex_N, kp_N, sb_N, ty_NoWay⟩,
    (cat_cons qc_NoPlace (PySem.W.exm_ref sT_TurnError hT_TurnError ty_TurnError s_NoPlace_TurnError) cat_nil),
    oR_NoPlace⟩
  exact ⟨PySem.W.fnOf "law" "law" (defArgs S_law) (defBody S_law) (defScope S_law) .none kV23 dc23 pm23 an23 cd23 ct23, fun s v => .of_eq rfl, fun base _ _ => (ok_law T).imp law_imp⟩
end Lw
open PySem PySem.W PyProof.Rows
set_option maxHeartbeats 0 in
theorem PySem.Challenge.cw_fewturns_k13_turns_told_holds : PySem.Challenge.rw_fewturns_k13_turns_told.Holds := by
  w_on; o_law; k_head; (case hw => w_witness2)
  k_fill
  refine L2.walk_of (l := PySem.Challenge.rw_fewturns_k13_turns_told) (n := 63) (k := 7) (x := "script") (CX := fun _ => L2.CX0) (sp := fun w => Lw.spLaw _) rfl (by decide) rfl ⟨rfl, by decide, by decide⟩ (fun w h Y => PySem.W.kIn_of Y) ?F (fun _ _ a ns hl _ hS => ⟨a, ns, rfl, hS, hl, fun _ => rfl⟩) (fun _ _ _ _ _ h => h)
  case F =>
    intro w mg fa h KX G hmg
    refine' Lw.all_mk KX G hmg ?a0 ?l0 ?c0 ?k0 ?a1 ?l1 ?c1 ?k1 ?a2 ?l2 ?c2 ?k2 ?a3 ?l3 ?c3 ?k3 ?a4 ?l4 ?c4 ?k4 ?a5 ?l5 ?c5 ?k5 ?a6 ?l6 ?c6 ?k6 ?a7 ?l7 ?c7 ?k7 ?a8 ?l8 ?c8 ?k8 ?a9 ?l9 ?c9 ?k9 ?a10 ?l10 ?c10 ?k10 ?a11 ?l11 ?c11 ?k11 ?a12 ?l12 ?c12 ?k12 ?a13 ?l13 ?c13 ?k13 ?a14 ?l14 ?c14 ?k14 ?a15 ?l15 ?c15 ?k15 ?a16 ?l16 ?c16 ?k16 ?a17 ?l17 ?c17 ?k17 ?a18 ?l18 ?c18 ?k18 ?a19 ?l19 ?c19 ?k19 ?a20 ?l20 ?c20 ?k20 ?a21 ?l21 ?c21 ?k21 ?a22 ?l22 ?c22 ?k22 ?a23 ?l23 ?c23 ?k23 ?z_ValueError ?z_bool ?z_dict ?z_enumerate ?z_int ?z_isinstance ?z_len ?z_list ?z_max ?z_range ?z_sorted ?z_tuple ?q_FREE ?qd_STEPS ?ld_STEPS ?li_STEPS ?lo_STEPS ?ke_STEPS ?qe_STEPS_0 ?le_STEPS_0 ?te_STEPS_0 ?qe_STEPS_1 ?le_STEPS_1 ?te_STEPS_1 ?qe_STEPS_2 ?le_STEPS_2 ?te_STEPS_2 ?qe_STEPS_3 ?le_STEPS_3 ?te_STEPS_3 ?qc_NoWay ?cl_NoWay ?ty_NoWay ?qc_NoAsk ?cl_NoAsk ?ty_NoAsk ?qc_NoGrid ?cl_NoGrid ?ty_NoGrid ?qc_NoPlace ?cl_NoPlace ?ty_NoPlace ?qc_NoRuns ?cl_NoRuns ?ty_NoRuns ?qc_TurnError ?cl_TurnError ?ty_TurnError ?gx6 ?gx7 ?x1_NoPlace ?x2_NoPlace ?x3_NoPlace ?x4_NoPlace ?x5_NoPlace ?x8_NoPlace ?sv_NoPlace ?s_NoPlace_NoWay ?ne_NoPlace_NoWay ?s_NoPlace_NoAsk ?ne_NoPlace_NoAsk ?s_NoPlace_NoGrid ?ne_NoPlace_NoGrid ?s_NoPlace_NoPlace ?s_NoPlace_NoRuns ?ne_NoPlace_NoRuns ?s_NoPlace_TurnError ?xn_place_NoPlace ?ex_N ?kp_N ?sb_N ?oqc_NoPlace ?oiC_NoPlace ?otI_NoPlace ?olf_NoPlace ?ocd_NoPlace ?olcc_NoPlace ?olcd_NoPlace ?ohvs_NoPlace ?ohfi_NoPlace ?osup_NoPlace ?omro_NoPlace ?osubV_NoPlace ?onst_NoPlace ?omgs_NoPlace ?olC_NoPlace ?ohbm_NoPlace ?osa_NoPlace ?oexC_NoPlace ?otyC_NoPlace ?okC_NoPlace ?ohno_NoPlace ?ohtop_NoPlace ?sT_TurnError ?hT_TurnError
    (case a0 => k_is); (case l0 => k_is); (case c0 => k_is); (case k0 => k_is); (case a1 => k_is); (case l1 => k_is); (case c1 => k_is); (case k1 => k_is)
    (case a2 => k_is); (case l2 => k_is); (case c2 => k_is); (case k2 => k_is); (case a3 => k_is); (case l3 => k_is); (case c3 => k_is); (case k3 => k_is)
    (case a4 => k_is); (case l4 => k_is); (case c4 => k_is); (case k4 => k_is); (case a5 => k_is); (case l5 => k_is); (case c5 => k_is); (case k5 => k_is)
    (case a6 => k_is); (case l6 => k_is); (case c6 => k_is); (case k6 => k_is); (case a7 => k_is); (case l7 => k_is); (case c7 => k_is); (case k7 => k_is)
    (case a8 => k_is); (case l8 => k_is); (case c8 => k_is); (case k8 => k_is); (case a9 => k_is); (case l9 => k_is); (case c9 => k_is); (case k9 => k_is)
    (case a10 => k_is); (case l10 => k_is); (case c10 => k_is); (case k10 => k_is); (case a11 => k_is); (case l11 => k_is); (case c11 => k_is); (case k11 => k_is)
    (case a12 => k_is); (case l12 => k_is); (case c12 => k_is); (case k12 => k_is); (case a13 => k_is); (case l13 => k_is); (case c13 => k_is); (case k13 => k_is)
    (case a14 => k_is); (case l14 => k_is); (case c14 => k_is); (case k14 => k_is); (case a15 => k_is); (case l15 => k_is); (case c15 => k_is); (case k15 => k_is)
    (case a16 => k_is); (case l16 => k_is); (case c16 => k_is); (case k16 => k_is); (case a17 => k_is); (case l17 => k_is); (case c17 => k_is); (case k17 => k_is)
    (case a18 => k_is); (case l18 => k_is); (case c18 => k_is); (case k18 => k_is); (case a19 => k_is); (case l19 => k_is); (case c19 => k_is); (case k19 => k_is)
    (case a20 => k_is); (case l20 => k_is); (case c20 => k_is); (case k20 => k_is); (case a21 => k_is); (case l21 => k_is); (case c21 => k_is); (case k21 => k_is)
    (case a22 => k_is); (case l22 => k_is); (case c22 => k_is); (case k22 => k_is); (case a23 => k_is); (case l23 => k_is); (case c23 => k_is); (case k23 => k_is)
    (case z_ValueError => k_is); (case z_bool => k_is); (case z_dict => k_is); (case z_enumerate => k_is); (case z_int => k_is); (case z_isinstance => k_is); (case z_len => k_is); (case z_list => k_is)
    (case z_max => k_is); (case z_range => k_is); (case z_sorted => k_is); (case z_tuple => k_is); (case q_FREE => k_is); (case qd_STEPS => k_is); (case ld_STEPS => k_is); (case li_STEPS => exact ⟨⟨_, _, rfl, rfl⟩, ⟨_, _, rfl, rfl⟩, ⟨_, _, rfl, rfl⟩, ⟨_, _, rfl, rfl⟩, trivial⟩)
    (case lo_STEPS => decide); (case ke_STEPS => rfl); (case qe_STEPS_0 => k_is); (case le_STEPS_0 => k_is); (case te_STEPS_0 => exact ⟨rfl, _, _, rfl, by decide, .cons ⟨_, rfl⟩ (.cons ⟨_, rfl⟩ .nil)⟩); (case qe_STEPS_1 => k_is); (case le_STEPS_1 => k_is); (case te_STEPS_1 => exact ⟨rfl, _, _, rfl, by decide, .cons ⟨_, rfl⟩ (.cons ⟨_, rfl⟩ .nil)⟩)
    (case qe_STEPS_2 => k_is); (case le_STEPS_2 => k_is); (case te_STEPS_2 => exact ⟨rfl, _, _, rfl, by decide, .cons ⟨_, rfl⟩ (.cons ⟨_, rfl⟩ .nil)⟩); (case qe_STEPS_3 => k_is); (case le_STEPS_3 => k_is); (case te_STEPS_3 => exact ⟨rfl, _, _, rfl, by decide, .cons ⟨_, rfl⟩ (.cons ⟨_, rfl⟩ .nil)⟩); (case qc_NoWay => k_is); (case cl_NoWay => k_is)
    (case ty_NoWay => k_is); (case qc_NoAsk => k_is); (case cl_NoAsk => k_is); (case ty_NoAsk => k_is); (case qc_NoGrid => k_is); (case cl_NoGrid => k_is); (case ty_NoGrid => k_is); (case qc_NoPlace => k_is)
    (case cl_NoPlace => k_is); (case ty_NoPlace => k_is); (case qc_NoRuns => k_is); (case cl_NoRuns => k_is); (case ty_NoRuns => k_is); (case qc_TurnError => k_is); (case cl_TurnError => k_is); (case ty_TurnError => k_is)
    (case gx6 => k_is); (case gx7 => k_is); (case x1_NoPlace => k_is); (case x2_NoPlace => k_is); (case x3_NoPlace => k_is); (case x4_NoPlace => k_is); (case x5_NoPlace => k_is); (case x8_NoPlace => k_is)
    (case sv_NoPlace => k_is); (case s_NoPlace_NoWay => k_is); (case ne_NoPlace_NoWay => decide); (case s_NoPlace_NoAsk => k_is); (case ne_NoPlace_NoAsk => decide); (case s_NoPlace_NoGrid => k_is); (case ne_NoPlace_NoGrid => decide); (case s_NoPlace_NoPlace => k_is)
    (case s_NoPlace_NoRuns => k_is); (case ne_NoPlace_NoRuns => decide); (case s_NoPlace_TurnError => k_is); (case xn_place_NoPlace => k_is); (case ex_N => k_exc); (case kp_N => k_is); (case sb_N => k_is); (case oqc_NoPlace => k_is)
    (case oiC_NoPlace => k_is); (case otI_NoPlace => k_is); (case olf_NoPlace => k_is); (case ocd_NoPlace => k_is); (case olcc_NoPlace => k_is); (case olcd_NoPlace => k_is); (case ohvs_NoPlace => rfl); (case ohfi_NoPlace => decide +kernel)
    (case osup_NoPlace => ks_is); (case omro_NoPlace => k_is); (case osubV_NoPlace => k_is); (case onst_NoPlace => k_is); (case omgs_NoPlace => k_is); (case olC_NoPlace => k_is); (case ohbm_NoPlace => decide +kernel); (case osa_NoPlace => k_is)
    (case oexC_NoPlace => k_is); (case otyC_NoPlace => k_is); (case okC_NoPlace => k_is); (case ohno_NoPlace => k_is); (case ohtop_NoPlace => decide +kernel); (case sT_TurnError => k_is); (case hT_TurnError => k_is)
