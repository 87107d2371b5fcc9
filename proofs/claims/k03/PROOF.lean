import PyProof.Rows.All
import Wide.All
import OpenK.AllK
import Wide.FinOn
import PySem.Challenge.RW_chancegrain_k03_whole_polynomials_by_the
import HandS.ForMost
import HandS.Wide
import HandS.Gcd
import HandS.TupAny
import HandS.TupMul
import HandS.Deep
import KE.KDictKeyed
import KE.KDictLaw
import HandS.Lambda
import HandS.Style
import HandS.More
import HandS.Ends
import HandS.EndBits
import KE.KDictDisplayH
import HandS.Zip
import KE.GoesMore
import PyProof.EnumMake
import HandS.DictComp
import HandS.SortInts
import HandS.Small
import KE.DatumOrd
import HandS.SortKw
import HandS.ExcInit
import HandS.ExcOwn
import HandS.TryMany
import HandS.BoundDict
import HandS.Conv
import HandS.IsInst
import PyProof.FString2
import PyProof.CallFns
import HandS.RaiseMore
import KE.SortData
import KE.KDictPairs
/-! TL1 -/
set_option Elab.async false
set_option linter.all false
set_option maxRecDepth 100000
set_option maxHeartbeats 4000000
/-! Trees over the layer: values without addresses, a store for what may change. -/
namespace TL
open PySem PySem.Spec PyProof.Rows L2
/-- a value as a tree; what may change is named by its place in the store -/
inductive T where
  | non
  | bl (b : Bool)
  | int (i : Int)
  | str (x : Str)
  | tup (ts : List T)
  | ref (l : Nat)
  | rdl (ns : List Int)
  | ptp (ts : List T)
/-- what stands at a place of the store -/
inductive Ob where
  | lst (ts : List T)
  | dK (kvs : List (Key × T))
  | dN (kvs : List (T × T))
  | lkK (kvs : List (Key × T))
  | lkN (kvs : List (T × T))
/-- nobody walks it -/
def unlk : Ob → Bool
  | .lkK _ => false
  | .lkN _ => false
  | _ => true
abbrev Store := List Ob
abbrev St := L2.St
/-- what the trees hang on: the written part, the program, the world -/
structure KX where
  K : PySem.W.Frag
  P : Program
  w : World
  tabs : List (Addr × Str)
/-- the tables that the makers of lambdas have -/
class Tb where
  tabs : List (Addr × Str)
  cls : Str → Addr
variable [Tb]
abbrev kX (K : PySem.W.Frag) (P : Program) (w : World) : KX := ⟨K, P, w, Tb.tabs⟩
abbrev kx (X : Cx) : KX := kX X.K X.prog X.w
abbrev Env1 := List (Option T)
/-- what never changes once it stands -/
def imm : HO → Bool
  | .tup _ => true
  | .frz _ _ => true
  | _ => false
def Ext (H H' : Hp) : Prop := ∀ a o, H a = some o → imm o = true → H' a = some o
/-- what a value is read off -/
def immv : HO → Bool
  | .tup _ => true
  | .frz _ (.tup _) => true
  | .frz _ (.lst _) => true
  | _ => false
def Exv (H H' : Hp) : Prop := ∀ a o, H a = some o → immv o = true → H' a = some o
theorem immv_imm {o : HO} (h : immv o = true) : imm o = true := by
  unfold immv at h
  split at h <;> first | rfl | cases h
theorem Ext.weak {H H' : Hp} (e : Ext H H') : Exv H H' := fun a o h i => e a o h (immv_imm i)
theorem Ext.refl (H : Hp) : Ext H H := fun _ _ h _ => h
theorem Ext.trans {H H1 H2 : Hp} (a : Ext H H1) (b : Ext H1 H2) : Ext H H2 := fun x o h i => b x o (a x o h i) i
theorem Ext.new {H : Hp} {p : Addr} {o : HO} (h : H p = none) : Ext H (upd H p o) := fun a u e _ => by
  have ne : a ≠ p := ne_of_none e h
  rw [upd_ne ne]; exact e
theorem Ext.mut {H : Hp} {p : Addr} {o u : HO} (h : H p = some u) (hu : imm u = false) : Ext H (upd H p o) := fun a w e i => by
  have ne : a ≠ p := fun z => by
    subst z; rw [h] at e; cases e; rw [hu] at i; cases i
  rw [upd_ne ne]; exact e
theorem Exv.rdT {H H' : Hp} {a : Addr} {xs : List V} (e : Exv H H') (h : Rd H a (.tup xs)) : Rd H' a (.tup xs) := by
  rcases h with h | ⟨o, h⟩
  · exact .inl (e a _ h rfl)
  · exact .inr ⟨o, e a _ h rfl⟩
theorem Exv.sqT {K : PySem.W.Frag} {H H' : Hp} {a : Addr} {xs : List V} (e : Exv H H') (h : SqT K H a xs) : SqT K H' a xs := by
  rcases h with h | h
  · exact .inl (e.rdT h)
  · exact .inr h
theorem Ext.rdT {H H' : Hp} {a : Addr} {xs : List V} (e : Ext H H') (h : Rd H a (.tup xs)) : Rd H' a (.tup xs) := e.weak.rdT h
theorem Ext.sqT {K : PySem.W.Frag} {H H' : Hp} {a : Addr} {xs : List V} (e : Ext H H') (h : SqT K H a xs) : SqT K H' a xs := e.weak.sqT h
/-- a list that is only read -/
def RdL (K : PySem.W.Frag) (H : Hp) (a : Addr) (xs : List V) : Prop :=
  (∃ o, H a = some (.frz o (.lst xs))) ∨ ∀ H' : Hp, SqL K H' a xs
theorem RdL.sq {K : PySem.W.Frag} {H : Hp} {a : Addr} {xs : List V} (h : RdL K H a xs) : SqL K H a xs := by
  rcases h with ⟨o, h⟩ | h
  · exact .inl (.inr ⟨o, h⟩)
  · exact h H
theorem RdL.of {K : PySem.W.Frag} {H : Hp} {a : Addr} {xs : List V} (h : SqL K H a xs) (n : ∀ ys, H a ≠ some (.lst ys)) : RdL K H a xs := by
  rcases h with (h | h) | h
  · exact absurd h (n _)
  · exact .inl h
  · exact .inr fun H' => .inr h
theorem Exv.rdl {K : PySem.W.Frag} {H H' : Hp} {a : Addr} {xs : List V} (e : Exv H H') (h : RdL K H a xs) : RdL K H' a xs := by
  rcases h with ⟨o, h⟩ | h
  · exact .inl ⟨o, e a _ h rfl⟩
  · exact .inr h
theorem Ext.rdl {K : PySem.W.Frag} {H H' : Hp} {a : Addr} {xs : List V} (e : Ext H H') (h : RdL K H a xs) : RdL K H' a xs := e.weak.rdl h
/-- a tuple that is known to have no dict of its own -/
def Ptp (H : Hp) (a : Addr) (xs : List V) : Prop := ∃ o : Obj, H a = some (.frz o (.tup xs)) ∧ o.dict = none
theorem Ptp.sqT {K : PySem.W.Frag} {H : Hp} {a : Addr} {xs : List V} (h : Ptp H a xs) : SqT K H a xs := let ⟨o, e, _⟩ := h; .inl (.inr ⟨o, e⟩)
theorem Exv.ptp {H H' : Hp} {a : Addr} {xs : List V} (e : Exv H H') (h : Ptp H a xs) : Ptp H' a xs := let ⟨o, g, d⟩ := h; ⟨o, e a _ g rfl, d⟩
mutual
inductive Rep (K : KX) (H : Hp) (ρ : List Addr) : T → V → Prop
  | non : Rep K H ρ .non .non
  | bl (b : Bool) : Rep K H ρ (.bl b) (.bl b)
  | int (i : Int) : Rep K H ρ (.int i) (.int i)
  | str (x : Str) : Rep K H ρ (.str x) (.str x)
  | tup {a : Addr} {vs : List V} {ts : List T} : SqT K.K H a vs → Reps K H ρ ts vs → Rep K H ρ (.tup ts) (.ref a)
  | ref {l : Nat} {a : Addr} : ρ[l]? = some a → Rep K H ρ (.ref l) (.ref a)
  | rdl {ns : List Int} {a : Addr} : RdL K.K H a (ns.map V.int) → Rep K H ρ (.rdl ns) (.ref a)
  | ptp {a : Addr} {vs : List V} {ts : List T} : Ptp H a vs → Reps K H ρ ts vs → Rep K H ρ (.ptp ts) (.ref a)
inductive Reps (K : KX) (H : Hp) (ρ : List Addr) : List T → List V → Prop
  | nil : Reps K H ρ [] []
  | cons {t : T} {v : V} {ts : List T} {vs : List V} : Rep K H ρ t v → Reps K H ρ ts vs → Reps K H ρ (t :: ts) (v :: vs)
end
/-- what follows: the heap of what never changes has grown, the places too -/
structure Fut (H H' : Hp) (ρ ρ' : List Addr) : Prop where
  e : Ext H H'
  p : ∃ more, ρ' = ρ ++ more
theorem Fut.refl (H : Hp) (ρ : List Addr) : Fut H H ρ ρ := ⟨Ext.refl H, [], by simp⟩
theorem Fut.trans {H H1 H2 : Hp} {ρ ρ1 ρ2 : List Addr} (a : Fut H H1 ρ ρ1) (b : Fut H1 H2 ρ1 ρ2) : Fut H H2 ρ ρ2 := by
  obtain ⟨m1, e1⟩ := a.p
  obtain ⟨m2, e2⟩ := b.p
  exact ⟨a.e.trans b.e, m1 ++ m2, by rw [e2, e1, List.append_assoc]⟩
/-- the same of what values are read off -/
structure Fuv (H H' : Hp) (ρ ρ' : List Addr) : Prop where
  e : Exv H H'
  p : ∃ more, ρ' = ρ ++ more
theorem Fut.weak {H H' : Hp} {ρ ρ' : List Addr} (f : Fut H H' ρ ρ') : Fuv H H' ρ ρ' := ⟨f.e.weak, f.p⟩
theorem Fuv.get {H H' : Hp} {ρ ρ' : List Addr} (f : Fuv H H' ρ ρ') {l : Nat} {a : Addr} (h : ρ[l]? = some a) : ρ'[l]? = some a := by
  obtain ⟨m, rfl⟩ := f.p
  have hl := (List.getElem?_eq_some_iff.mp h).1
  rw [List.getElem?_append_left hl]; exact h
theorem Fut.get {H H' : Hp} {ρ ρ' : List Addr} (f : Fut H H' ρ ρ') {l : Nat} {a : Addr} (h : ρ[l]? = some a) : ρ'[l]? = some a := by
  obtain ⟨m, rfl⟩ := f.p
  have hl := (List.getElem?_eq_some_iff.mp h).1
  rw [List.getElem?_append_left hl]; exact h
mutual
theorem Rep.mono {K : KX} {H H' : Hp} {ρ ρ' : List Addr} (f : Fuv H H' ρ ρ') : ∀ (t : T) (v : V), Rep K H ρ t v → Rep K H' ρ' t v
  | .non, _, h => by cases h; exact .non
  | .bl b, _, h => by cases h; exact .bl b
  | .int i, _, h => by cases h; exact .int i
  | .str x, _, h => by cases h; exact .str x
  | .tup ts, _, h => by
    cases h with
    | tup a b => exact .tup (f.e.sqT a) (Reps.mono f ts _ b)
  | .ref l, _, h => by
    cases h with
    | ref a => exact .ref (f.get a)
  | .rdl ns, _, h => by
    cases h with
    | rdl a => exact .rdl (f.e.rdl a)
  | .ptp ts, _, h => by
    cases h with
    | ptp a b => exact .ptp (f.e.ptp a) (Reps.mono f ts _ b)
theorem Reps.mono {K : KX} {H H' : Hp} {ρ ρ' : List Addr} (f : Fuv H H' ρ ρ') : ∀ (ts : List T) (vs : List V), Reps K H ρ ts vs → Reps K H' ρ' ts vs
  | [], _, h => by cases h; exact .nil
  | t :: ts, _, h => by
    cases h with
    | cons a b => exact .cons (Rep.mono f t _ a) (Reps.mono f ts _ b)
end
section
variable {K : KX} {H H' : Hp} {ρ ρ' : List Addr}
theorem Rep.up {t : T} {v : V} (h : Rep K H ρ t v) (f : Fut H H' ρ ρ') : Rep K H' ρ' t v := Rep.mono f.weak t v h
theorem Rep.upv {t : T} {v : V} (h : Rep K H ρ t v) (f : Fuv H H' ρ ρ') : Rep K H' ρ' t v := Rep.mono f t v h
theorem Reps.up {t : List T} {v : List V} (h : Reps K H ρ t v) (f : Fut H H' ρ ρ') : Reps K H' ρ' t v := Reps.mono f.weak t v h
theorem Reps.upv {t : List T} {v : List V} (h : Reps K H ρ t v) (f : Fuv H H' ρ ρ') : Reps K H' ρ' t v := Reps.mono f t v h
theorem Reps.length : ∀ {ts : List T} {vs : List V}, Reps K H ρ ts vs → ts.length = vs.length
  | [], _, h => by cases h; rfl
  | t :: ts, _, h => by
    cases h with
    | cons a b => simp [Reps.length b]
theorem Reps.get : ∀ {ts : List T} {vs : List V} {i : Nat} {t : T}, Reps K H ρ ts vs → ts[i]? = some t → ∃ v, vs[i]? = some v ∧ Rep K H ρ t v
  | [], _, _, _, h, e => by simp at e
  | t :: ts, _, i, x, h, e => by
    cases h with
    | cons a b =>
      cases i with
      | zero => simp at e; subst e; exact ⟨_, rfl, a⟩
      | succ i =>
        obtain ⟨v, h1, h2⟩ := Reps.get (i := i) b (by simpa using e)
        exact ⟨v, by simpa using h1, h2⟩
theorem Reps.app : ∀ {ts us : List T} {vs ws : List V}, Reps K H ρ ts vs → Reps K H ρ us ws → Reps K H ρ (ts ++ us) (vs ++ ws)
  | [], _, _, _, h, g => by cases h; exact g
  | t :: ts, _, _, _, h, g => by
    cases h with
    | cons a b => exact .cons a (Reps.app b g)
theorem Reps.take : ∀ {ts : List T} {vs : List V} (n : Nat), Reps K H ρ ts vs → Reps K H ρ (ts.take n) (vs.take n)
  | _, _, 0, _ => by simp; exact .nil
  | [], _, n + 1, h => by cases h; exact .nil
  | t :: ts, _, n + 1, h => by
    cases h with
    | cons a b => exact .cons a (Reps.take n b)
theorem Reps.drop : ∀ {ts : List T} {vs : List V} (n : Nat), Reps K H ρ ts vs → Reps K H ρ (ts.drop n) (vs.drop n)
  | _, _, 0, h => h
  | [], _, n + 1, h => by cases h; exact .nil
  | t :: ts, _, n + 1, h => by
    cases h with
    | cons a b => exact Reps.drop n b
theorem Reps.set : ∀ {ts : List T} {vs : List V} {t : T} {v : V} (i : Nat), Reps K H ρ ts vs → Rep K H ρ t v → Reps K H ρ (ts.set i t) (vs.set i v)
  | [], _, _, _, _, h, _ => by cases h; exact .nil
  | t :: ts, _, _, _, 0, h, g => by
    cases h with
    | cons a b => exact .cons g b
  | t :: ts, _, _, _, i + 1, h, g => by
    cases h with
    | cons a b => exact .cons a (Reps.set i b g)
theorem Reps.rev {ts : List T} {vs : List V} (h : Reps K H ρ ts vs) : Reps K H ρ ts.reverse vs.reverse := by
  induction ts generalizing vs with
  | nil => cases h; exact .nil
  | cons t ts ih =>
    cases h with
    | cons a b => rw [List.reverse_cons, List.reverse_cons]; exact (ih b).app (.cons a .nil)
end
/-- a tree as a key of a dict -/
def optNK (f : T → Option NestedKey) : List T → Option (List NestedKey)
  | [] => some []
  | t :: ts => match f t, optNK f ts with
    | some k, some ks => some (k :: ks)
    | _, _ => none
def toNK : Nat → T → Option NestedKey
  | _, .non => some .none
  | _, .int i => some (.num i)
  | _, .str x => some (.text x)
  | n + 1, .tup ts => (optNK (toNK n) ts).map .tup
  | _, _ => none
def nkd : Nat := 6
/-- a dict whose keys are tuples, by its raw entries -/
def dnO (K : KX) (a : Addr) (xs : List (NestedKey × Addr × V)) : HO := .ext fun h => xs.length ≤ sizeLine ∧ (a == sysModules) = false ∧ ∃ ys : List (NestedKey × Addr × Value),
  Paired (fun (x : NestedKey × Addr × V) (y : NestedKey × Addr × Value) => x.1 = y.1 ∧ x.2.1 = y.2.1 ∧ RelV x.2.2 y.2.2) xs ys ∧
  ∃ o es ep, h.get? a = some o ∧ o.ExactDict ∧ o.data = .dict es ep ∧ es.toList = ys.map (entryOfKey (nestedKind K.P K.w)) ∧ (ys.map (·.1)).Nodup
theorem dnO_ne {K : KX} {a c : Addr} {xs : List (NestedKey × Addr × V)} {q : Str} : dnO K a xs ≠ LamX.CodeO c q := by
  intro z
  unfold dnO LamX.CodeO at z
  injection z with z
  let oc : Obj := { cls := .none, data := .fields #[.none, .str q 0] }
  let h0 : Heap := { objs := Array.replicate (max a c + 1) oc }
  have hg : ∀ b, b ≤ max a c → h0.get? b = some oc := fun b hb => by
    unfold Heap.get?
    have : (Array.replicate (max a c + 1) oc)[b]? = some oc := by
      rw [Array.getElem?_replicate]; rw [if_pos (Nat.lt_succ_of_le hb)]
    show (match (Array.replicate (max a c + 1) oc)[b]? with | some ⟨_, _, .freed, _⟩ => none | r => r) = some oc
    rw [this]
  have h1 := (congrFun z h0).symm.mp ⟨oc, #[.none, .str q 0], 0, hg c (Nat.le_max_right _ _), rfl, rfl⟩
  obtain ⟨_, _, ys, _, o, es, ep, e1, _, e2, _⟩ := h1
  rw [hg a (Nat.le_max_left _ _)] at e1
  cases e1
  cases e2
inductive RepD (K : KX) (H : Hp) (ρ : List Addr) : List (T × T) → List (NestedKey × Addr × V) → Prop
  | nil : RepD K H ρ [] []
  | cons {t u : T} {k : NestedKey} {b : Addr} {v : V} {r : List (T × T)} {xs : List (NestedKey × Addr × V)} : toNK nkd t = some k → Rep K H ρ t (.ref b) → Rep K H ρ u v → RepD K H ρ r xs → RepD K H ρ ((t, u) :: r) ((k, b, v) :: xs)
theorem RepD.upv {K : KX} {H H' : Hp} {ρ ρ' : List Addr} {kvs : List (T × T)} {xs : List (NestedKey × Addr × V)} (h : RepD K H ρ kvs xs) (f : Fuv H H' ρ ρ') : RepD K H' ρ' kvs xs := by
  induction h with
  | nil => exact .nil
  | cons a b c d ih => exact .cons a (b.upv f) (c.upv f) ih
theorem RepD.up {K : KX} {H H' : Hp} {ρ ρ' : List Addr} {kvs : List (T × T)} {xs : List (NestedKey × Addr × V)} (h : RepD K H ρ kvs xs) (f : Fut H H' ρ ρ') : RepD K H' ρ' kvs xs := h.upv f.weak
/-- an object of the store stands at an address -/
def RepO (K : KX) (H : Hp) (ρ : List Addr) (a : Addr) : Ob → Prop
  | .lst ts => ∃ vs, H a = some (.lst vs) ∧ Reps K H ρ ts vs
  | .dK kvs => ∃ kws : List (Key × V), H a = some (.dK kws) ∧ kvs.map (·.1) = kws.map (·.1) ∧ Reps K H ρ (kvs.map (·.2)) (kws.map (·.2))
  | .dN kvs => ∃ xs : List (NestedKey × Addr × V), H a = some (dnO K a xs) ∧ RepD K H ρ kvs xs
  | .lkK kvs => ∃ (o : Obj) (kws : List (Key × V)), H a = some (.frz o (.dK kws)) ∧ kvs.map (·.1) = kws.map (·.1) ∧ Reps K H ρ (kvs.map (·.2)) (kws.map (·.2))
  | .lkN kvs => ∃ (o : Obj) (xs : List (NestedKey × Addr × V)), H a = some (.frz o (dnO K a xs)) ∧ RepD K H ρ kvs xs
structure Wd (K : KX) (ρ : List Addr) (st : Store) (H : Hp) : Prop where
  tb : LamX.Tabs K.tabs H
  len : ρ.length = st.length
  nd : ρ.Nodup
  ob : ∀ (l : Nat) (o : Ob) (a : Addr), st[l]? = some o → ρ[l]? = some a → RepO K H ρ a o
section
variable {K : KX} {H H' : Hp} {ρ ρ' : List Addr} {st : Store}
theorem Wd.at (w : Wd K ρ st H) {l : Nat} {o : Ob} (h : st[l]? = some o) : ∃ a, ρ[l]? = some a ∧ RepO K H ρ a o := by
  have hl := (List.getElem?_eq_some_iff.mp h).1
  rw [← w.len] at hl
  exact ⟨ρ[l], List.getElem?_eq_getElem hl, w.ob l o _ h (List.getElem?_eq_getElem hl)⟩
theorem Wd.addr (w : Wd K ρ st H) {l : Nat} {o : Ob} {a : Addr} (h : st[l]? = some o) (e : ρ[l]? = some a) : RepO K H ρ a o := w.ob l o a h e
/-- the heap grows, nothing that may change is touched -/
theorem Wd.grow (w : Wd K ρ st H) (e : ∀ a o, H a = some o → H' a = some o) : Wd K ρ st H' := by
  have f : Fut H H' ρ ρ := ⟨fun a o h _ => e a o h, [], by simp⟩
  refine ⟨w.tb.ext e, w.len, w.nd, fun l o a h1 h2 => ?_⟩
  have r := w.ob l o a h1 h2
  cases o with
  | lst ts => obtain ⟨vs, h, q⟩ := r; exact ⟨vs, e _ _ h, q.up f⟩
  | dK kvs => obtain ⟨vs, h, k, q⟩ := r; exact ⟨vs, e _ _ h, k, q.up f⟩
  | dN kvs => obtain ⟨vs, h, q⟩ := r; exact ⟨vs, e _ _ h, q.up f⟩
  | lkK kvs => obtain ⟨o, vs, h, k, q⟩ := r; exact ⟨o, vs, e _ _ h, k, q.up f⟩
  | lkN kvs => obtain ⟨o, vs, h, q⟩ := r; exact ⟨o, vs, e _ _ h, q.up f⟩
theorem grow_new {p : Addr} {o : HO} (h : H p = none) : ∀ a u, H a = some u → upd H p o a = some u := fun a u e => by
  rw [upd_ne (ne_of_none e h)]; exact e
theorem fut_grow (e : ∀ a o, H a = some o → H' a = some o) : Fut H H' ρ ρ := ⟨fun a o h _ => e a o h, [], by simp⟩
/-- what the store has is in the heap -/
theorem Wd.there (w : Wd K ρ st H) {l : Nat} {o : Ob} {a : Addr} (hl : st[l]? = some o) (e : ρ[l]? = some a) (nl : unlk o = true := by rfl) : ∃ u, H a = some u ∧ imm u = false := by
  have r := w.ob l o a hl e
  cases o with
  | lst ts => obtain ⟨vs, h, q⟩ := r; exact ⟨_, h, rfl⟩
  | dK kvs => obtain ⟨vs, h, k, q⟩ := r; exact ⟨_, h, rfl⟩
  | dN kvs => obtain ⟨vs, h, q⟩ := r; exact ⟨_, h, rfl⟩
  | lkK kvs => cases nl
  | lkN kvs => cases nl
theorem Wd.hasO (w : Wd K ρ st H) {l : Nat} {a : Addr} (e : ρ[l]? = some a) : ∃ u, H a = some u := by
  have hl := (List.getElem?_eq_some_iff.mp e).1
  rw [w.len] at hl
  have r := w.ob l st[l] a (List.getElem?_eq_getElem hl) e
  cases h : st[l] with
  | lst ts => rw [h] at r; obtain ⟨vs, h, q⟩ := r; exact ⟨_, h⟩
  | dK kvs => rw [h] at r; obtain ⟨vs, h, k, q⟩ := r; exact ⟨_, h⟩
  | dN kvs => rw [h] at r; obtain ⟨vs, h, q⟩ := r; exact ⟨_, h⟩
  | lkK kvs => rw [h] at r; obtain ⟨o, vs, h, k, q⟩ := r; exact ⟨_, h⟩
  | lkN kvs => rw [h] at r; obtain ⟨o, vs, h, q⟩ := r; exact ⟨_, h⟩
/-- what the store has is no table and no code -/
theorem Wd.apart (w : Wd K ρ st H) {l : Nat} {a : Addr} (e : ρ[l]? = some a) : (∀ ps, H a ≠ some (.tbl ps)) ∧ (∀ (c : Addr) (q : Str), H a ≠ some (LamX.CodeO c q)) := by
  have hl := (List.getElem?_eq_some_iff.mp e).1
  rw [w.len] at hl
  have r := w.ob l st[l] a (List.getElem?_eq_getElem hl) e
  cases h : st[l] with
  | lst ts => rw [h] at r; obtain ⟨vs, h, q⟩ := r; exact ⟨(fun ps z => by rw [h] at z; cases z), (fun c q z => by rw [h] at z; unfold LamX.CodeO at z; cases z)⟩
  | dK kvs => rw [h] at r; obtain ⟨vs, h, k, q⟩ := r; exact ⟨(fun ps z => by rw [h] at z; cases z), (fun c q z => by rw [h] at z; unfold LamX.CodeO at z; cases z)⟩
  | dN kvs =>
    rw [h] at r
    obtain ⟨vs, h, q⟩ := r
    refine ⟨(fun ps z => by rw [h] at z; unfold dnO at z; cases z), fun c q z => ?_⟩
    rw [h] at z
    exact dnO_ne (Option.some.inj z)
  | lkK kvs => rw [h] at r; obtain ⟨o, vs, h, k, q⟩ := r; exact ⟨(fun ps z => by rw [h] at z; cases z), (fun c q z => by rw [h] at z; unfold LamX.CodeO at z; cases z)⟩
  | lkN kvs => rw [h] at r; obtain ⟨o, vs, h, q⟩ := r; exact ⟨(fun ps z => by rw [h] at z; cases z), (fun c q z => by rw [h] at z; unfold LamX.CodeO at z; cases z)⟩
theorem Wd.new_not (w : Wd K ρ st H) {p : Addr} (hp : H p = none) : p ∉ ρ := fun hm => by
  obtain ⟨l, hl⟩ := List.getElem?_of_mem hm
  obtain ⟨u, h⟩ := w.hasO hl
  rw [hp] at h; cases h
theorem RepO.up {a : Addr} {o : Ob} (r : RepO K H ρ a o) (f : Fut H H' ρ ρ') (h : H' a = H a) : RepO K H' ρ' a o := by
  cases o with
  | lst ts => obtain ⟨vs, e, q⟩ := r; exact ⟨vs, h.trans e, q.up f⟩
  | dK kvs => obtain ⟨vs, e, k, q⟩ := r; exact ⟨vs, h.trans e, k, q.up f⟩
  | dN kvs => obtain ⟨vs, e, q⟩ := r; exact ⟨vs, h.trans e, q.up f⟩
  | lkK kvs => obtain ⟨o, vs, e, k, q⟩ := r; exact ⟨o, vs, h.trans e, k, q.up f⟩
  | lkN kvs => obtain ⟨o, vs, e, q⟩ := r; exact ⟨o, vs, h.trans e, q.up f⟩
/-- a new object is taken into the store -/
theorem Wd.push (w : Wd K ρ st H) {p : Addr} {u : HO} {o : Ob} (hp : H p = none) (r : RepO K (upd H p u) (ρ ++ [p]) p o) : Wd K (ρ ++ [p]) (st ++ [o]) (upd H p u) ∧ Fut H (upd H p u) ρ (ρ ++ [p]) := by
  have f : Fut H (upd H p u) ρ (ρ ++ [p]) := ⟨Ext.new hp, [p], rfl⟩
  refine ⟨⟨w.tb.ext (grow_new hp), by simp [w.len], ?_, fun l ob a h1 h2 => ?_⟩, f⟩
  · refine List.nodup_append.mpr ⟨w.nd, by simp, ?_⟩
    intro a ha b hb e
    have hb' : b = p := by simpa using hb
    subst hb'; subst e
    exact w.new_not hp ha
  · by_cases hl : l < st.length
    · rw [List.getElem?_append_left hl] at h1
      rw [List.getElem?_append_left (by rw [w.len]; exact hl)] at h2
      have ne : a ≠ p := fun z => w.new_not hp (z ▸ List.mem_of_getElem? h2)
      exact (w.ob l ob a h1 h2).up f (upd_ne ne)
    · have e : l = st.length := by
        have := (List.getElem?_eq_some_iff.mp h1).1
        simp at this; omega
      subst e
      rw [List.getElem?_append_right (Nat.le_refl _)] at h1
      rw [← w.len, List.getElem?_append_right (Nat.le_refl _)] at h2
      simp at h1 h2
      subst h1; subst h2
      exact r
/-- an object of the store is written -/
theorem Wd.put (w : Wd K ρ st H) {l : Nat} {p : Addr} {u u0 : HO} {o : Ob} (h0 : H p = some u0) (i0 : imm u0 = false) (hp : ρ[l]? = some p) (r : RepO K (upd H p u) ρ p o) : Wd K ρ (st.set l o) (upd H p u) ∧ Fut H (upd H p u) ρ ρ := by
  have f : Fut H (upd H p u) ρ ρ := ⟨Ext.mut h0 i0, [], by simp⟩
  obtain ⟨n1, n2⟩ := w.apart hp
  have tb' : LamX.Tabs K.tabs (upd H p u) := fun z hz => by
    obtain ⟨ps, h1, h2, h3⟩ := w.tb z hz
    refine ⟨ps, by rw [upd_ne (fun e => n1 ps (by rw [← e]; exact h1))]; exact h1, h2, fun pos cv hc => ?_⟩
    obtain ⟨c, e1, e2⟩ := h3 pos cv hc
    exact ⟨c, e1, by rw [upd_ne (fun e => n2 c _ (by rw [← e]; exact e2))]; exact e2⟩
  refine ⟨⟨tb', by simp [w.len], w.nd, fun m ob a h1 h2 => ?_⟩, f⟩
  by_cases e : m = l
  · subst e
    rw [hp] at h2; cases h2
    have hl := (List.getElem?_eq_some_iff.mp hp).1
    rw [w.len] at hl
    rw [List.getElem?_set_self hl] at h1
    cases h1; exact r
  · rw [List.getElem?_set_ne (Ne.symm e)] at h1
    have ne : a ≠ p := fun z => by
      subst z
      have h1 := (List.getElem?_eq_some_iff.mp hp).1
      exact e (((List.getElem?_inj h1 w.nd).mp (hp.trans h2.symm)).symm)
    exact (w.ob m ob a h1 h2).up f (upd_ne ne)
end
/-! ### the slots -/
def Slots (K : KX) (H : Hp) (ρ : List Addr) (e : Env1) (σ : St) : Prop := σ.length = e.length ∧ ∀ (i : Nat) (t : T), e[i]? = some (some t) → ∃ v, σ[i]? = some (some v) ∧ Rep K H ρ t v
section
variable {K : KX} {H H' : Hp} {ρ ρ' : List Addr} {e : Env1} {σ : St}
theorem Slots.up (s : Slots K H ρ e σ) (f : Fut H H' ρ ρ') : Slots K H' ρ' e σ := ⟨s.1, fun i t h => let ⟨v, h1, h2⟩ := s.2 i t h; ⟨v, h1, h2.up f⟩⟩
theorem Slots.set (s : Slots K H ρ e σ) (i : Nat) {t : T} {v : V} (r : Rep K H ρ t v) : Slots K H ρ (e.set i (some t)) (σ.set i (some v)) := by
  refine ⟨by simp [s.1], fun j u h => ?_⟩
  by_cases z : j = i
  · subst z
    have hj := (List.getElem?_eq_some_iff.mp h).1
    rw [List.length_set] at hj
    rw [List.getElem?_set_self hj] at h
    cases h
    exact ⟨v, by rw [List.getElem?_set_self (by rw [s.1]; exact hj)], r⟩
  · rw [List.getElem?_set_ne (Ne.symm z)] at h
    rw [List.getElem?_set_ne (Ne.symm z)]
    exact s.2 j u h
theorem slots_start {N : List Str} {ts : List T} {vs : List V} (r : Reps K H ρ ts vs) (hl : ts.length ≤ N.length) : Slots K H ρ (ts.map some ++ List.replicate (N.length - ts.length) none) (L2.start N vs) := by
  unfold L2.start
  have e := r.length
  refine ⟨by simp [e], fun i t h => ?_⟩
  by_cases hi : i < ts.length
  · rw [List.getElem?_append_left (by simpa using hi), List.getElem?_map] at h
    cases h1 : ts[i]? with
    | none => rw [h1] at h; cases h
    | some u =>
      rw [h1] at h; cases h
      obtain ⟨v, h2, h3⟩ := r.get h1
      refine ⟨v, ?_, h3⟩
      rw [List.getElem?_append_left (by simp [← e, hi]), List.getElem?_map, h2]; rfl
  · rw [List.getElem?_append_right (by simpa using hi), List.getElem?_replicate] at h
    split at h <;> cases h
end
/-! ### what is true behind a step -/
/-- the value t, with the store st', at a later heap -/
def QE (K : KX) (H : Hp) (ρ : List Addr) (t : T) (st' : Store) (Q : VK) : Prop := ∀ v H' ρ', Fut H H' ρ ρ' → Wd K ρ' st' H' → Rep K H' ρ' t v → Q v H'
def QA (K : KX) (H : Hp) (ρ : List Addr) (ts : List T) (st' : Store) (Q : List V → Hp → Prop) : Prop := ∀ vs H' ρ', Fut H H' ρ ρ' → Wd K ρ' st' H' → Reps K H' ρ' ts vs → Q vs H'
def QB (K : KX) (H : Hp) (ρ : List Addr) (b : Bool) (st' : Store) (Q : Bool → Hp → Prop) : Prop := ∀ H' ρ', Fut H H' ρ ρ' → Wd K ρ' st' H' → Q b H'
abbrev XE := Env1 → Store → Option (T × Store)
abbrev XA := Env1 → Store → Option (List T × Store)
abbrev XT := Env1 → Store → Option (Bool × Store)
inductive Out where
  | nx (e : Env1) (st : Store)
  | rt (t : T) (st : Store)
  | bk (e : Env1) (st : Store)
  | ct (e : Env1) (st : Store)
abbrev XS := Env1 → Store → Option Out
def QN (K : KX) (H : Hp) (ρ : List Addr) (e' : Env1) (st' : Store) (Q : St → Hp → Prop) : Prop := ∀ σ' H' ρ', Fut H H' ρ ρ' → Wd K ρ' st' H' → Slots K H' ρ' e' σ' → Q σ' H'
def QO (K : KX) (H : Hp) (ρ : List Addr) (D : Ends) : Out → Prop
  | .nx e st => QN K H ρ e st D.nx
  | .rt t st => QE K H ρ t st D.rt
  | .bk e st => QN K H ρ e st D.bk
  | .ct e st => QN K H ρ e st D.ct
/-! ### weakest readings -/
def We (X : Cx) (e : Expr) : TE := fun σ H Q => ∀ pins s, Inv X pins σ H s → wpAny (model X.prog X.w) X.A (eval e X.env) (EP X pins σ Q) X.xe s
def Wt (X : Cx) (e : Expr) : TT := fun σ H Q => ∀ pins s, Inv X pins σ H s → wpAny (model X.prog X.w) X.A (isTrue e X.env (eval e X.env)) (TP X pins σ Q) X.xe s
def Ww (X : Cx) (e : Expr) : TT := fun σ H Q => ∀ whole pins s, Inv X pins σ H s → wpAny (model X.prog X.w) X.A (isTrue e X.env whole) (TP X pins σ Q) X.xe s
def Wa (X : Cx) (es : List Expr) : TA := fun σ H Q => ∀ pos pins s, Inv X pins σ H s → wpAny (model X.prog X.w) X.A (spliced (backTo pos (starEach es X.env))) (AP X pins σ Q) X.xe s
def Ws (X : Cx) (st : Stmt) : TS := fun D σ H => ∀ pins s, Inv X pins σ H s → wpAny (model X.prog X.w) X.A (exec st X.env) (SP X pins D) X.xe s
def Wss (X : Cx) (st : List Stmt) : TS := fun D σ H => ∀ pins s, Inv X pins σ H s → wpAny (model X.prog X.w) X.A (execs st X.env) (SP X pins D) X.xe s
section
variable {X : Cx}
theorem We.pe {e : Expr} : PE X e (We X e) := ⟨fun pins s _ _ _ I h => h pins s I⟩
theorem Wt.pt {e : Expr} : PT X e (Wt X e) := ⟨fun pins s _ _ _ I h => h pins s I⟩
theorem Ww.pw {e : Expr} : PW X e (Ww X e) := ⟨fun whole pins s _ _ _ I h => h whole pins s I⟩
theorem Wa.pa {e : List Expr} : PA X e (Wa X e) := ⟨fun pos pins s _ _ _ I h => h pos pins s I⟩
theorem Ws.ps {e : Stmt} : PS X e (Ws X e) := ⟨fun pins s _ _ _ I h => h pins s I⟩
theorem Wss.pss {e : List Stmt} : PSs X e (Wss X e) := ⟨fun pins s _ _ _ I h => h pins s I⟩
theorem We.of {e : Expr} {t : TE} (h : PE X e t) {σ : St} {H : Hp} {Q : VK} (q : t σ H Q) : We X e σ H Q := fun pins s I => h.run pins s σ H Q I q
theorem Wt.of {e : Expr} {t : TT} (h : PT X e t) {σ : St} {H : Hp} {Q : Bool → Hp → Prop} (q : t σ H Q) : Wt X e σ H Q := fun pins s I => h.run pins s σ H Q I q
theorem Ww.of {e : Expr} {t : TT} (h : PW X e t) {σ : St} {H : Hp} {Q : Bool → Hp → Prop} (q : t σ H Q) : Ww X e σ H Q := fun whole pins s I => h.run whole pins s σ H Q I q
theorem Wa.of {e : List Expr} {t : TA} (h : PA X e t) {σ : St} {H : Hp} {Q : List V → Hp → Prop} (q : t σ H Q) : Wa X e σ H Q := fun pos pins s I => h.run pos pins s σ H Q I q
theorem Ws.of {e : Stmt} {t : TS} (h : PS X e t) {σ : St} {H : Hp} {D : Ends} (q : t D σ H) : Ws X e D σ H := fun pins s I => h.run pins s σ H D I q
theorem Wss.of {e : List Stmt} {t : TS} (h : PSs X e t) {σ : St} {H : Hp} {D : Ends} (q : t D σ H) : Wss X e D σ H := fun pins s I => h.run pins s σ H D I q
end
def ET (X : Cx) (e : Expr) (f : XE) : Prop := ∀ env st ρ σ H t st', Slots (kx X) H ρ env σ → Wd (kx X) ρ st H → f env st = some (t, st') → ∀ Q, QE (kx X) H ρ t st' Q → We X e σ H Q
def AT (X : Cx) (es : List Expr) (f : XA) : Prop := ∀ env st ρ σ H ts st', Slots (kx X) H ρ env σ → Wd (kx X) ρ st H → f env st = some (ts, st') → ∀ Q, QA (kx X) H ρ ts st' Q → Wa X es σ H Q
def TT1 (X : Cx) (e : Expr) (f : XT) : Prop := ∀ env st ρ σ H b st', Slots (kx X) H ρ env σ → Wd (kx X) ρ st H → f env st = some (b, st') → ∀ Q, QB (kx X) H ρ b st' Q → Wt X e σ H Q
def TW (X : Cx) (e : Expr) (f : XT) : Prop := ∀ env st ρ σ H b st', Slots (kx X) H ρ env σ → Wd (kx X) ρ st H → f env st = some (b, st') → ∀ Q, QB (kx X) H ρ b st' Q → Ww X e σ H Q
def ST (X : Cx) (s : Stmt) (f : XS) : Prop := ∀ env st ρ σ H o, Slots (kx X) H ρ env σ → Wd (kx X) ρ st H → f env st = some o → ∀ D, QO (kx X) H ρ D o → Ws X s D σ H
def SST (X : Cx) (s : List Stmt) (f : XS) : Prop := ∀ env st ρ σ H o, Slots (kx X) H ρ env σ → Wd (kx X) ρ st H → f env st = some o → ∀ D, QO (kx X) H ρ D o → Wss X s D σ H
section
variable {K : KX} {H H' : Hp} {ρ ρ' : List Addr}
theorem QE.up {t : T} {st : Store} {Q : VK} (q : QE K H ρ t st Q) (f : Fut H H' ρ ρ') : QE K H' ρ' t st Q := fun v H2 ρ2 g w r => q v H2 ρ2 (f.trans g) w r
theorem QA.up {t : List T} {st : Store} {Q : List V → Hp → Prop} (q : QA K H ρ t st Q) (f : Fut H H' ρ ρ') : QA K H' ρ' t st Q := fun v H2 ρ2 g w r => q v H2 ρ2 (f.trans g) w r
theorem QB.up {t : Bool} {st : Store} {Q : Bool → Hp → Prop} (q : QB K H ρ t st Q) (f : Fut H H' ρ ρ') : QB K H' ρ' t st Q := fun H2 ρ2 g w => q H2 ρ2 (f.trans g) w
theorem QN.up {e : Env1} {st : Store} {Q : St → Hp → Prop} (q : QN K H ρ e st Q) (f : Fut H H' ρ ρ') : QN K H' ρ' e st Q := fun v H2 ρ2 g w r => q v H2 ρ2 (f.trans g) w r
theorem QO.up {D : Ends} {o : Out} (q : QO K H ρ D o) (f : Fut H H' ρ ρ') : QO K H' ρ' D o := by
  cases o with
  | nx e st => exact QN.up (Q := D.nx) q f
  | rt t st => exact QE.up (Q := D.rt) q f
  | bk e st => exact QN.up (Q := D.bk) q f
  | ct e st => exact QN.up (Q := D.ct) q f
end
end TL
/-! TL2 -/
set_option Elab.async false
set_option linter.all false
set_option maxRecDepth 100000
set_option maxHeartbeats 4000000
namespace TL
variable [Tb]
open PySem PySem.Spec PyProof.Rows L2
/-! ### rules chosen by the values -/
def OpU (X : Cx) (f : Value → Value → Sem Value) : R2 := fun x y H Q => ∃ r : R2, OpR X f r ∧ r x y H Q
theorem OpU.ok {X : Cx} {f : Value → Value → Sem Value} : OpR X f (OpU X f) := fun pins s σ H x y v u Q I rx ry h => let ⟨_, ho, q⟩ := h; ho pins s σ H x y v u Q I rx ry q
def UnU (X : Cx) (f : Value → Sem Value) : V → Hp → VK → Prop := fun x H Q => ∃ r, UnR X f r ∧ r x H Q
theorem UnU.ok {X : Cx} {f : Value → Sem Value} : UnR X f (UnU X f) := fun pins s σ H x v Q I rx h => let ⟨_, ho, q⟩ := h; ho pins s σ H x v Q I rx q
def CallU (X : Cx) (f : Value) : List V → Hp → VK → Prop := fun xs H Q => ∃ r, CallR X f r ∧ r xs H Q
theorem CallU.ok {X : Cx} {f : Value} : CallR X f (CallU X f) := fun pins s σ H xs us Q I rx h => let ⟨_, ho, q⟩ := h; ho pins s σ H xs us Q I rx q
def IxU (X : Cx) : R2 := fun x y H Q => ∃ r : R2, IxR X r ∧ r x y H Q
theorem IxU.ok {X : Cx} : IxR X (IxU X) := fun a b pins s σ H x y v u Q I rx ry h hs => let ⟨_, ho, q⟩ := h; ho a b pins s σ H x y v u Q I rx ry q hs
def SlU (X : Cx) : V → Option Int → Option Int → Hp → VK → Prop := fun x l u H Q => ∃ r, SlR X r ∧ r x l u H Q
theorem SlU.ok {X : Cx} : SlR X (SlU X) := fun pins s σ H x v vl vu lo hi sl Q I rx h1 h2 h3 h => let ⟨_, ho, q⟩ := h; ho pins s σ H x v vl vu lo hi sl Q I rx h1 h2 h3 q
def TruU (X : Cx) : V → Hp → (Bool → Hp → Prop) → Prop := fun x H Q => ∃ k, TruV X.K x H k ∧ Q k H
abbrev F2 := T → T → Store → Option (T × Store)
abbrev F1 := T → Store → Option (T × Store)
abbrev FA := List T → Store → Option (T × Store)
def OpT (X : Cx) (fop : Value → Value → Sem Value) (f : F2) : Prop := ∀ ρ st H x y t st' vx vy, Wd (kx X) ρ st H → Rep (kx X) H ρ x vx → Rep (kx X) H ρ y vy → f x y st = some (t, st') → ∀ Q, QE (kx X) H ρ t st' Q → OpU X fop vx vy H Q
def UnT (X : Cx) (fop : Value → Sem Value) (f : F1) : Prop := ∀ ρ st H x t st' vx, Wd (kx X) ρ st H → Rep (kx X) H ρ x vx → f x st = some (t, st') → ∀ Q, QE (kx X) H ρ t st' Q → UnU X fop vx H Q
def IxT (X : Cx) (f : F2) : Prop := ∀ ρ st H x y t st' vx vy, Wd (kx X) ρ st H → Rep (kx X) H ρ x vx → Rep (kx X) H ρ y vy → f x y st = some (t, st') → ∀ Q, QE (kx X) H ρ t st' Q → IxU X vx vy H Q
def CallT (X : Cx) (fv : Value) (f : FA) : Prop := ∀ ρ st H ts t st' vs, Wd (kx X) ρ st H → Reps (kx X) H ρ ts vs → f ts st = some (t, st') → ∀ Q, QE (kx X) H ρ t st' Q → CallU X fv vs H Q
/-! ### the readings -/
def xC (t : T) : XE := fun _ st => some (t, st)
def xVar (i : Nat) : XE := fun e st => match e[i]? with
  | some (some t) => some (t, st)
  | _ => none
def xBin (f : F2) (a b : XE) : XE := fun e st => (a e st).bind fun p => (b e p.2).bind fun q => f p.1 q.1 q.2
def xUn (f : F1) (a : XE) : XE := fun e st => (a e st).bind fun p => f p.1 p.2
def xNil : XA := fun _ st => some ([], st)
def xCons (a : XE) (r : XA) : XA := fun e st => (a e st).bind fun p => (r e p.2).bind fun q => some (p.1 :: q.1, q.2)
def xCall (f : FA) (a : XA) : XE := fun e st => (a e st).bind fun p => f p.1 p.2
def tupT : FA := fun ts st => if ts.length ≤ sizeLine then some (.tup ts, st) else none
def lstT : FA := fun ts st => if ts.length ≤ sizeLine then some (.ref st.length, st ++ [.lst ts]) else none
section
variable {X : Cx} {a b c : Expr} {es : List Expr} {fa fb fc : XE} {pos : Pos}
theorem et_c {t : T} {v : V} (h : PE X a (tC v)) (r : ∀ H ρ, Rep (kx X) H ρ t v) : ET X a (xC t) := by
  intro env st ρ σ H t' st' s w e Q q
  cases e
  exact We.of h (show tC v σ H Q from q v H ρ (Fut.refl _ _) w (r _ _))
theorem et_int {i : Int} {j} : ET X (.Constant (.int i) j pos) (xC (.int i)) := et_c pe_int fun _ _ => .int i
theorem et_bl {i : Bool} {j} : ET X (.Constant (.bool i) j pos) (xC (.bl i)) := et_c pe_bl fun _ _ => .bl i
theorem et_non {j} : ET X (.Constant .none j pos) (xC .non) := et_c pe_non fun _ _ => .non
theorem et_str {x : Str} {j} : ET X (.Constant (.str x) j pos) (xC (.str x)) := et_c pe_str fun _ _ => .str x
theorem et_var (i : Nat) {x : Str} (hN : X.N[i]? = some x := by rfl) (hv : Vis X.env.scope x := by first | exact Or.inl rfl | exact Or.inr (Or.inl rfl) | exact Or.inr (Or.inr rfl))
    (hd : (x == ("__debug__" : Str)) = false := by decide +kernel) (hcd : (x == ("__classdict__" : Str)) = false := by decide +kernel) : ET X (.Name x pos) (xVar i) := by
  intro env st ρ σ H t st' s w e Q q
  unfold xVar at e
  split at e
  · rename_i u hu
    obtain ⟨v, h1, h2⟩ := s.2 i u hu
    cases e
    exact We.of (pe_var hN hv hd hcd) ⟨v, h1, q v H ρ (Fut.refl _ _) w h2⟩
  · cases e
theorem two {f : F2} {env : Env1} {st : Store} {r : T × Store} (e : xBin f fa fb env st = some r) : ∃ x st1 y st2, fa env st = some (x, st1) ∧ fb env st1 = some (y, st2) ∧ f x y st2 = some r := by
  unfold xBin at e
  cases h1 : fa env st with
  | none => rw [h1] at e; cases e
  | some p =>
    rw [h1] at e
    cases h2 : fb env p.2 with
    | none => simp [h2] at e
    | some q =>
      simp [h2] at e
      exact ⟨p.1, p.2, q.1, q.2, rfl, h2, e⟩
theorem one {f : F1} {env : Env1} {st : Store} {r : T × Store} (e : xUn f fa env st = some r) : ∃ x st1, fa env st = some (x, st1) ∧ f x st1 = some r := by
  unfold xUn at e
  cases h1 : fa env st with
  | none => rw [h1] at e; cases e
  | some p =>
    rw [h1] at e
    exact ⟨p.1, p.2, rfl, e⟩
theorem many {f : FA} {ga : XA} {env : Env1} {st : Store} {r : T × Store} (e : xCall f ga env st = some r) : ∃ x st1, ga env st = some (x, st1) ∧ f x st1 = some r := by
  unfold xCall at e
  cases h1 : ga env st with
  | none => rw [h1] at e; cases e
  | some p =>
    rw [h1] at e
    exact ⟨p.1, p.2, rfl, e⟩
/-- two values, then what is done with them -/
theorem run2 (ha : ET X a fa) (hb : ET X b fb) {f : F2} {k : V → V → Hp → VK → Prop}
    (hk : ∀ ρ st H x y t st' vx vy, Wd (kx X) ρ st H → Rep (kx X) H ρ x vx → Rep (kx X) H ρ y vy → f x y st = some (t, st') → ∀ Q, QE (kx X) H ρ t st' Q → k vx vy H Q)
    {env : Env1} {st : Store} {ρ : List Addr} {σ : St} {H : Hp} {t : T} {st' : Store} (s : Slots (kx X) H ρ env σ) (w : Wd (kx X) ρ st H) (e : xBin f fa fb env st = some (t, st')) {Q : VK} (q : QE (kx X) H ρ t st' Q) :
    We X a σ H fun vx H1 => We X b σ H1 fun vy H2 => k vx vy H2 Q := by
  obtain ⟨x, st1, y, st2, e1, e2, e3⟩ := two e
  refine ha env st ρ σ H x st1 s w e1 _ fun vx H1 ρ1 f1 w1 r1 => ?_
  refine hb env st1 ρ1 σ H1 y st2 (s.up f1) w1 e2 _ fun vy H2 ρ2 f2 w2 r2 => ?_
  exact hk ρ2 st2 H2 x y t st' vx vy w2 (r1.up f2) r2 e3 Q (q.up (f1.trans f2))
theorem et_bin {op : Operator} {f : F2} (h : OpT X (binaryOp op) f) (ha : ET X a fa) (hb : ET X b fb) : ET X (.BinOp a op b pos) (xBin f fa fb) := by
  intro env st ρ σ H t st' s w e Q q
  exact We.of (pe_op OpU.ok We.pe We.pe) (run2 ha hb (k := fun vx vy H Q => OpU X (binaryOp op) vx vy H Q) h s w e q)
theorem et_cmp {op : CmpOp} {f : F2} (h : OpT X (compareOp op) f) (ha : ET X a fa) (hb : ET X b fb) (hm : behindInMarks op b = false) : ET X (.Compare a [op] [b] pos) (xBin f fa fb) := by
  intro env st ρ σ H t st' s w e Q q
  exact We.of (pe_cmpR OpU.ok We.pe We.pe hm) (run2 ha hb (k := fun vx vy H Q => OpU X (compareOp op) vx vy H Q) h s w e q)
theorem et_ix {f : F2} (h : IxT X f) (ha : ET X a fa) (hb : ET X b fb) (hs : PlainIx b := by exact fun _ _ => rfl) : ET X (.Subscript a b pos) (xBin f fa fb) := by
  intro env st ρ σ H t st' s w e Q q
  exact We.of (pe_ix IxU.ok We.pe We.pe hs) (run2 ha hb (k := fun vx vy H Q => IxU X vx vy H Q) h s w e q)
theorem et_un {op : UnaryOp} {f : F1} (h : UnT X (unaryOp op) f) (ha : ET X a fa) : ET X (.UnaryOp op a pos) (xUn f fa) := by
  intro env st ρ σ H t st' s w e Q q
  obtain ⟨x, st1, e1, e2⟩ := one e
  refine We.of (pe_un UnU.ok We.pe) ?_
  refine ha env st ρ σ H x st1 s w e1 _ fun vx H1 ρ1 f1 w1 r1 => ?_
  exact h ρ1 st1 H1 x t st' vx w1 r1 e2 Q (q.up f1)
/-! ### argument lists -/
theorem at_nil : AT X [] xNil := by
  intro env st ρ σ H ts st' s w e Q q
  cases e
  exact Wa.of pa_nil (show tNil σ H Q from q [] H ρ (Fut.refl _ _) w .nil)
theorem at_cons {fr : XA} (ha : ET X a fa) (hr : AT X es fr) (hs : starEach (a :: es) X.env = (false, eval a X.env) :: starEach es X.env := by rfl) : AT X (a :: es) (xCons fa fr) := by
  intro env st ρ σ H ts st' s w e Q q
  unfold xCons at e
  cases h1 : fa env st with
  | none => rw [h1] at e; cases e
  | some p =>
    rw [h1] at e
    cases h2 : fr env p.2 with
    | none => simp [h2] at e
    | some p2 =>
      simp [h2] at e
      obtain ⟨rfl, rfl⟩ := e
      refine Wa.of (pa_cons We.pe Wa.pa hs) ?_
      show We X a σ H _
      refine ha env st ρ σ H p.1 p.2 s w h1 _ fun vx H1 ρ1 f1 w1 r1 => ?_
      refine hr env p.2 ρ1 σ H1 p2.1 p2.2 (s.up f1) w1 h2 _ fun vs H2 ρ2 f2 w2 r2 => ?_
      exact q _ H2 ρ2 (f1.trans f2) w2 (.cons (r1.up f2) r2)
theorem runA {fr : XA} {f : FA} (ha : AT X es fr) {k : List V → Hp → VK → Prop}
    (hk : ∀ ρ st H ts t st' vs, Wd (kx X) ρ st H → Reps (kx X) H ρ ts vs → f ts st = some (t, st') → ∀ Q, QE (kx X) H ρ t st' Q → k vs H Q)
    {env : Env1} {st : Store} {ρ : List Addr} {σ : St} {H : Hp} {t : T} {st' : Store} (s : Slots (kx X) H ρ env σ) (w : Wd (kx X) ρ st H) (e : xCall f fr env st = some (t, st')) {Q : VK} (q : QE (kx X) H ρ t st' Q) :
    Wa X es σ H fun vs H1 => k vs H1 Q := by
  obtain ⟨ts, st1, e1, e2⟩ := many e
  refine ha env st ρ σ H ts st1 s w e1 _ fun vs H1 ρ1 f1 w1 r1 => ?_
  exact hk ρ1 st1 H1 ts t st' vs w1 r1 e2 Q (q.up f1)
theorem new_tup {ρ : List Addr} {st : Store} {H : Hp} {ts : List T} {vs : List V} {Q : VK} (w : Wd (kx X) ρ st H) (r : Reps (kx X) H ρ ts vs) (q : QE (kx X) H ρ (.tup ts) st Q) {p : Addr} (hp : H p = none) : Q (.ref p) (upd H p (.tup vs)) := by
  have g : ∀ a o, H a = some o → upd H p (.tup vs) a = some o := grow_new hp
  have f : Fut H (upd H p (.tup vs)) ρ ρ := fut_grow g
  exact q _ _ ρ f (w.grow g) (.tup (SqT.of upd_same) (r.up f))
theorem new_lst {ρ : List Addr} {st : Store} {H : Hp} {ts : List T} {vs : List V} {Q : VK} (w : Wd (kx X) ρ st H) (r : Reps (kx X) H ρ ts vs) (q : QE (kx X) H ρ (.ref st.length) (st ++ [.lst ts]) Q) {p : Addr} (hp : H p = none) : Q (.ref p) (upd H p (.lst vs)) := by
  have f0 : Fut H (upd H p (.lst vs)) ρ (ρ ++ [p]) := ⟨Ext.new hp, [p], rfl⟩
  obtain ⟨w1, f⟩ := w.push (o := .lst ts) hp ⟨vs, upd_same, r.up f0⟩
  exact q _ _ _ f w1 (.ref (by rw [← w.len, List.getElem?_append_right (Nat.le_refl _)]; simp))
theorem et_tup {k} {fr : XA} (ha : AT X es fr) : ET X (.Tuple es k pos) (xCall tupT fr) := by
  intro env st ρ σ H t st' s w e Q q
  refine We.of (pe_tup Wa.pa) (runA (k := fun vs H1 Q => vs.length ≤ sizeLine ∧ ∀ p, H1 p = none → Q (.ref p) (upd H1 p (.tup vs))) ha ?_ s w e q)
  intro ρ st H ts t st' vs w r e Q q
  unfold tupT at e
  split at e
  · rename_i hz
    cases e
    exact ⟨by rw [← r.length]; exact hz, fun p hp => new_tup w r q hp⟩
  · cases e
theorem et_lst {fr : XA} (ha : AT X es fr) : ET X (.List es pos) (xCall lstT fr) := by
  intro env st ρ σ H t st' s w e Q q
  refine We.of (pe_lst Wa.pa) (runA (k := fun vs H1 Q => vs.length ≤ sizeLine ∧ ∀ p, H1 p = none → Q (.ref p) (upd H1 p (.lst vs))) ha ?_ s w e q)
  intro ρ st H ts t st' vs w r e Q q
  unfold lstT at e
  split at e
  · rename_i hz
    cases e
    exact ⟨by rw [← r.length]; exact hz, fun p hp => new_lst w r q hp⟩
  · cases e
/-! ### calls of what is built in -/
theorem et_callB {x : Str} {id : String} {p : Pos} {fr : XA} {f : FA} (h : CallT X (.builtin id) f) (ha : AT X (a :: es) fr) (hm : X.mg x = none) (hg : Gl X x := by rfl) (hv : bootBuiltins x = some (.builtin id) := by decide +kernel)
    (hn : x ≠ "__name__" := by decide +kernel) (hdb : (x == ("__debug__" : Str)) = false := by decide +kernel)
    (he : starEach (a :: es) X.env = (false, eval a X.env) :: starEach es X.env := by rfl) (hpl : (backTo pos (starEach es X.env)).any (·.1) = false := by rfl) : ET X (.Call (.Name x p) (a :: es) [] pos) (xCall f fr) := by
  intro env st ρ σ H t st' s w e Q q
  exact We.of (pe_callB CallU.ok hg hm hv Wa.pa hn hdb he hpl) (runA (k := fun vs H Q => CallU X (.builtin id) vs H Q) ha h s w e q)
theorem et_callTy {x : Str} {id : String} {p : Pos} {fr : XA} {f : FA} (h : CallT X (.type id) f) (ha : AT X (a :: es) fr) (hm : X.mg x = none) (hg : Gl X x := by rfl) (hv : bootBuiltins x = some (.type id) := by decide +kernel)
    (hn : x ≠ "__name__" := by decide +kernel) (hdb : (x == ("__debug__" : Str)) = false := by decide +kernel)
    (he : starEach (a :: es) X.env = (false, eval a X.env) :: starEach es X.env := by rfl) (hpl : (backTo pos (starEach es X.env)).any (·.1) = false := by rfl) : ET X (.Call (.Name x p) (a :: es) [] pos) (xCall f fr) := by
  intro env st ρ σ H t st' s w e Q q
  exact We.of (pe_callTy CallU.ok hg hm hv Wa.pa hn hdb he hpl) (runA (k := fun vs H Q => CallU X (.type id) vs H Q) ha h s w e q)
/-- a module's name for a built-in function -/
theorem et_callF {x : Str} {id : String} {p : Pos} {fr : XA} {f : FA} (h : CallT X (.builtin id) f) (ha : AT X (a :: es) fr) (hm : X.mg x = some (.builtin id)) (hg : Gl X x := by rfl) (hdb : (x == ("__debug__" : Str)) = false := by decide +kernel)
    (he : starEach (a :: es) X.env = (false, eval a X.env) :: starEach es X.env := by rfl) (hpl : (backTo pos (starEach es X.env)).any (·.1) = false := by rfl) : ET X (.Call (.Name x p) (a :: es) [] pos) (xCall f fr) := by
  intro env st ρ σ H t st' s w e Q q
  exact We.of (pe_callBfun CallU.ok hg hm Wa.pa hdb he hpl) (runA (k := fun vs H Q => CallU X (.builtin id) vs H Q) ha h s w e q)
end
/-! ### the operators -/
def bitsOk (i j : Int) : Bool := decide (i.natAbs.log2 + j.natAbs.log2 < 1000000)
theorem bitsOk.ok {i j : Int} (h : bitsOk i j = true) : CMulW i j := of_decide_eq_true (p := i.natAbs.log2 + j.natAbs.log2 < 1000000) h
def addT : F2
  | .int i, .int j, st => some (.int (i + j), st)
  | .str x, .str y, st => if x.length + y.length ≤ sizeLine then some (.str (x ++ y), st) else none
  | .tup xs, .tup ys, st => if xs.length + ys.length ≤ sizeLine then some (.tup (xs ++ ys), st) else none
  | .ref l, .ref m, st => match st[l]?, st[m]? with
    | some (.lst xs), some (.lst ys) => if xs.length + ys.length ≤ sizeLine then some (.ref st.length, st ++ [.lst (xs ++ ys)]) else none
    | _, _ => none
  | _, _, _ => none
def subT : F2
  | .int i, .int j, st => some (.int (i - j), st)
  | _, _, _ => none
def mulT : F2
  | .int i, .int j, st => if bitsOk i j then some (.int (i * j), st) else none
  | .ref l, .int k, st => match st[l]? with
    | some (.lst xs) => if -(2 ^ 63) ≤ k ∧ k < 2 ^ 63 ∧ xs.length * k.toNat ≤ sizeLine then some (.ref st.length, st ++ [.lst (List.replicate k.toNat xs).flatten]) else none
    | _ => none
  | _, _, _ => none
def fdivT : F2
  | .int i, .int j, st => if j ≠ 0 ∧ j.natAbs.log2 < 9000 then some (.int (i.fdiv j), st) else none
  | _, _, _ => none
def modT : F2
  | .int i, .int j, st => if j ≠ 0 then some (.int (i.fmod j), st) else none
  | _, _, _ => none
def powT : F2
  | .int i, .int j, st => if 0 ≤ j ∧ j ≤ 1000000 ∧ i.natAbs < 2 ^ 64 then some (.int (i ^ j.toNat), st) else none
  | _, _, _ => none
def cmpT (p : Int → Int → Bool) : F2
  | .int i, .int j, st => some (.bl (p i j), st)
  | _, _, _ => none
def negT : F1
  | .int i, st => some (.int (-i), st)
  | _, _ => none
section
variable {X : Cx}
theorem inv_int {K : KX} {H : Hp} {ρ : List Addr} {i : Int} {v : V} (r : Rep K H ρ (.int i) v) : v = .int i := by cases r; rfl
theorem ot_int {fop : Value → Value → Sem Value} {f : F2} {C : Int → Int → Prop} {g : Int → Int → V} {gt : Int → Int → T} (hr : OpR X fop (rI C g)) (hg : ∀ i j K H ρ, Rep K H ρ (gt i j) (g i j))
    {ρ st H i j vx vy Q} (w : Wd (kx X) ρ st H) (rx : Rep (kx X) H ρ (.int i) vx) (ry : Rep (kx X) H ρ (.int j) vy) (hc : C i j) (q : QE (kx X) H ρ (gt i j) st Q) : OpU X fop vx vy H Q := by
  cases rx; cases ry
  exact ⟨_, hr, i, j, rfl, rfl, hc, q _ _ _ (Fut.refl _ _) w (hg i j _ _ _)⟩
theorem ot_int0 {fop : Value → Value → Sem Value} {g : Int → Int → V} {gt : Int → Int → T} (hr : OpR X fop (rI0 g)) (hg : ∀ i j K H ρ, Rep K H ρ (gt i j) (g i j))
    {ρ st H i j vx vy Q} (w : Wd (kx X) ρ st H) (rx : Rep (kx X) H ρ (.int i) vx) (ry : Rep (kx X) H ρ (.int j) vy) (q : QE (kx X) H ρ (gt i j) st Q) : OpU X fop vx vy H Q := by
  cases rx; cases ry
  exact ⟨_, hr, i, j, rfl, rfl, q _ _ _ (Fut.refl _ _) w (hg i j _ _ _)⟩
theorem rep_lst {ρ : List Addr} {st : Store} {H : Hp} {l : Nat} {v : V} {ts : List T} (w : Wd (kx X) ρ st H) (r : Rep (kx X) H ρ (.ref l) v) (e : st[l]? = some (.lst ts)) : ∃ a vs, v = .ref a ∧ ρ[l]? = some a ∧ H a = some (.lst vs) ∧ Reps (kx X) H ρ ts vs := by
  cases r with
  | ref h =>
    obtain ⟨vs, h1, h2⟩ := w.addr e h
    exact ⟨_, vs, rfl, h, h1, h2⟩
theorem ot_add : OpT X (binaryOp .Add) addT := by
  intro ρ st H x y t st' vx vy w rx ry e Q q
  unfold addT at e
  split at e
  · cases e
    exact ot_int0 op_add (gt := fun i j => .int (i + j)) (fun i j _ _ _ => .int _) w rx ry q
  · split at e
    · rename_i hz
      cases e; cases rx; cases ry
      exact ⟨_, op_add_str, _, _, rfl, rfl, hz, q _ _ _ (Fut.refl _ _) w (.str _)⟩
    · cases e
  · split at e
    · rename_i _ xs ys hz
      cases e
      cases rx with
      | tup hx rx =>
        cases ry with
        | tup hy ry =>
          refine ⟨_, op_catA, _, _, _, _, rfl, rfl, hx, hy, by rw [← rx.length, ← ry.length]; exact hz, fun z => ?_, fun z z2 => ?_, fun z z2 p hp => ?_⟩
          · subst z
            have : xs = [] := by have := rx.length; simpa using this
            subst this
            exact q _ _ _ (Fut.refl _ _) w (.tup hy ry)
          · subst z2
            have : ys = [] := by have := ry.length; simpa using this
            subst this
            refine q _ _ _ (Fut.refl _ _) w ?_
            rw [List.append_nil]
            exact .tup hx rx
          · exact new_tup w (rx.app ry) q hp
    · cases e
  · split at e
    · rename_i l m st xs ys hl hm
      split at e
      · rename_i hz
        cases e
        obtain ⟨a, vs, rfl, _, h1, r1⟩ := rep_lst w rx hl
        obtain ⟨b, us, rfl, _, h2, r2⟩ := rep_lst w ry hm
        refine ⟨_, op_cat, _, _, _, _, rfl, rfl, h1, h2, by rw [← r1.length, ← r2.length]; exact hz, fun p hp => ?_⟩
        exact new_lst w (r1.app r2) q hp
      · cases e
    · cases e
  · cases e
theorem ot_sub : OpT X (binaryOp .Sub) subT := by
  intro ρ st H x y t st' vx vy w rx ry e Q q
  unfold subT at e
  split at e
  · cases e
    exact ot_int0 op_sub (gt := fun i j => .int (i - j)) (fun i j _ _ _ => .int _) w rx ry q
  · cases e
theorem ot_mul : OpT X (binaryOp .Mult) mulT := by
  intro ρ st H x y t st' vx vy w rx ry e Q q
  unfold mulT at e
  split at e
  · split at e
    · rename_i hz
      cases e
      exact ot_int (f := mulT) op_mulW (gt := fun i j => .int (i * j)) (fun i j _ _ _ => .int _) w rx ry (bitsOk.ok hz) q
    · cases e
  · split at e
    · rename_i l k st xs hl
      split at e
      · rename_i hz
        cases e; cases ry
        obtain ⟨a, vs, rfl, _, h1, r1⟩ := rep_lst w rx hl
        refine ⟨_, op_rep, _, _, _, rfl, rfl, h1, hz.1, hz.2.1, by rw [← r1.length]; exact hz.2.2, fun p hp => ?_⟩
        refine new_lst w ?_ q hp
        have all : ∀ n : Nat, Reps (kx X) H ρ (List.replicate n xs).flatten (List.replicate n vs).flatten := fun n => by
          induction n with
          | zero => exact .nil
          | succ n ih => rw [List.replicate_succ, List.replicate_succ, List.flatten_cons, List.flatten_cons]; exact r1.app ih
        exact all _
      · cases e
    · cases e
  · cases e
theorem op_fdivX : OpR X (binaryOp .FloorDiv) (rI (fun _ j => j ≠ 0 ∧ j.natAbs.log2 < 9000) fun i j => .int (i.fdiv j)) := opI fun i j _ _ _ _ _ hc q => floordiv_int hc.1 q (.inl (PyProof.noPylong_of_log2 hc.2))
theorem ot_fdiv : OpT X (binaryOp .FloorDiv) fdivT := by
  intro ρ st H x y t st' vx vy w rx ry e Q q
  unfold fdivT at e
  split at e
  · split at e
    · rename_i hz
      cases e
      exact ot_int (f := fdivT) op_fdivX (gt := fun i j => .int (i.fdiv j)) (fun i j _ _ _ => .int _) w rx ry hz q
    · cases e
  · cases e
theorem ot_mod : OpT X (binaryOp .Mod) modT := by
  intro ρ st H x y t st' vx vy w rx ry e Q q
  unfold modT at e
  split at e
  · split at e
    · rename_i hz
      cases e
      exact ot_int (f := modT) op_modN (gt := fun i j => .int (i.fmod j)) (fun i j _ _ _ => .int _) w rx ry hz q
    · cases e
  · cases e
theorem ot_pow : OpT X (binaryOp .Pow) powT := by
  intro ρ st H x y t st' vx vy w rx ry e Q q
  unfold powT at e
  split at e
  · split at e
    · rename_i hz
      cases e
      exact ot_int (f := powT) op_pow (gt := fun i j => .int (i ^ j.toNat)) (fun i j _ _ _ => .int _) w rx ry hz q
    · cases e
  · cases e
theorem ot_cmp {op : CmpOp} {p : Int → Int → Bool} (h : OpR X (compareOp op) (rI0 fun i j => .bl (p i j))) : OpT X (compareOp op) (cmpT p) := by
  intro ρ st H x y t st' vx vy w rx ry e Q q
  unfold cmpT at e
  split at e
  · cases e
    exact ot_int0 h (gt := fun i j => .bl (p i j)) (fun i j _ _ _ => .bl _) w rx ry q
  · cases e
abbrev ltT := cmpT fun i j => decide (i < j)
abbrev leT := cmpT fun i j => decide (i ≤ j)
abbrev gtT := cmpT fun i j => decide (j < i)
abbrev geT := cmpT fun i j => decide (j ≤ i)
theorem ot_lt : OpT X (compareOp .Lt) ltT := ot_cmp op_lt
theorem ot_le : OpT X (compareOp .LtE) leT := ot_cmp op_le
theorem ot_gt : OpT X (compareOp .Gt) gtT := ot_cmp op_gt
theorem ot_ge : OpT X (compareOp .GtE) geT := ot_cmp op_ge
theorem ut_neg : UnT X (unaryOp .USub) negT := by
  intro ρ st H x t st' vx w rx e Q q
  unfold negT at e
  split at e
  · cases e; cases rx
    exact ⟨_, un_neg, _, rfl, q _ _ _ (Fut.refl _ _) w (.int _)⟩
  · cases e
end
end TL
/-! TL3 -/
set_option Elab.async false
set_option linter.all false
set_option maxRecDepth 100000
set_option maxHeartbeats 4000000
namespace TL
variable [Tb]
open PySem PySem.Spec PyProof.Rows L2
/-! ### tests -/
def truT : T → Store → Option Bool
  | .non, _ => some false
  | .bl b, _ => some b
  | .int i, _ => some (i != 0)
  | .str x, _ => if x.length ≤ sizeLine then some ((x.length : Int) != 0) else none
  | .tup ts, _ => some (!ts.isEmpty)
  | .ref l, st => match st[l]? with
    | some (.lst ts) => some (!ts.isEmpty)
    | some (.dK kvs) => some (!kvs.isEmpty)
    | _ => none
  | .rdl ns, _ => some (!ns.isEmpty)
  | .ptp _, _ => none
def xTru (f : XE) : XT := fun e st => (f e st).bind fun p => (truT p.1 p.2).map fun b => (b, p.2)
def xBl (f : XE) : XT := fun e st => (f e st).bind fun p => match p.1 with
  | .bl b => some (b, p.2)
  | _ => none
def xNotT (f : XT) : XT := fun e st => (f e st).map fun p => (!p.1, p.2)
def xAndT (f g : XT) : XT := fun e st => (f e st).bind fun p => if p.1 then g e p.2 else some (false, p.2)
def xOrT (f g : XT) : XT := fun e st => (f e st).bind fun p => if p.1 then some (true, p.2) else g e p.2
def xIf (c : XT) (a b : XE) : XE := fun e st => (c e st).bind fun p => if p.1 then a e p.2 else b e p.2
def xAnd (a b : XE) : XE := fun e st => (xBl a e st).bind fun p => if p.1 then b e p.2 else some (.bl false, p.2)
def xOr (a b : XE) : XE := fun e st => (xBl a e st).bind fun p => if p.1 then some (.bl true, p.2) else b e p.2
def xNot (a : XE) : XE := fun e st => (xBl a e st).map fun p => (.bl (!p.1), p.2)
section
variable {X : Cx} {a b c : Expr} {es : List Expr} {fa fb fc : XE} {ta tb : XT} {pos : Pos}
theorem rep_empty {K : KX} {H : Hp} {ρ : List Addr} {ts : List T} {vs : List V} (r : Reps K H ρ ts vs) : ts.isEmpty = vs.isEmpty := by
  cases r <;> rfl
theorem emp_kv {κ : Type} {kvs : List (κ × T)} {kws : List (κ × V)} (h : kvs.map (·.1) = kws.map (·.1)) : kvs.isEmpty = kws.isEmpty := by
  cases kvs with
  | nil =>
    cases kws with
    | nil => rfl
    | cons a l => cases h
  | cons a l =>
    cases kws with
    | nil => cases h
    | cons b m => rfl
theorem emp_ints (ns : List Int) : ns.isEmpty = (ns.map V.int).isEmpty := by
  cases ns with
  | nil => rfl
  | cons a l => rfl
theorem tru_rep {ρ : List Addr} {st : Store} {H : Hp} {t : T} {v : V} {k : Bool} (w : Wd (kx X) ρ st H) (r : Rep (kx X) H ρ t v) (e : truT t st = some k) : TruV X.K v H k := by
  unfold truT at e
  split at e
  · cases e; cases r; rfl
  · cases e; cases r; rfl
  · cases e; cases r; rfl
  · split at e
    · rename_i hz
      cases e; cases r
      exact ⟨hz, rfl⟩
    · cases e
  · cases e
    cases r with
    | tup hx rx => exact .inr (.inl ⟨_, hx, by rw [rep_empty rx]⟩)
  · split at e
    · rename_i hl
      cases e
      obtain ⟨a, vs, rfl, _, h1, r1⟩ := rep_lst w r hl
      exact .inl ⟨_, SqL.of h1, by rw [rep_empty r1]⟩
    · rename_i hl
      cases e
      cases r with
      | ref h =>
        obtain ⟨kws, h1, h2, h3⟩ := w.addr hl h
        exact .inr (.inr ⟨_, h1, by rw [emp_kv h2]⟩)
    · cases e
  · cases e
    cases r with
    | rdl h =>
      exact .inl ⟨_, h.sq, by rw [emp_ints]⟩
  · cases e
theorem bl_of {f : XE} {e : Env1} {st : Store} {b : Bool} {st' : Store} (h : xBl f e st = some (b, st')) : f e st = some (.bl b, st') := by
  unfold xBl at h
  cases h1 : f e st with
  | none => rw [h1] at h; cases h
  | some p =>
    obtain ⟨t, s2⟩ := p
    rw [h1] at h
    cases t <;> simp at h
    obtain ⟨rfl, rfl⟩ := h
    rfl
theorem tt_val (ha : ET X a fa) (he : ∀ whole, isTrue a X.env whole = (do let v ← whole; standAt a.pos; holding [v] (truthy v)) := by intro _; rfl) : TT1 X a (xTru fa) := by
  intro env st ρ σ H k st' s w e Q q
  unfold xTru at e
  cases h1 : fa env st with
  | none => rw [h1] at e; cases e
  | some p =>
    obtain ⟨t, s2⟩ := p
    rw [h1] at e
    cases h2 : truT t s2 with
    | none => simp [h2] at e
    | some k2 =>
      simp [h2] at e
      obtain ⟨rfl, rfl⟩ := e
      refine Wt.of (pt_truth We.pe he) ?_
      refine ha env st ρ σ H t s2 s w h1 _ fun v H1 ρ1 f1 w1 r1 => ?_
      exact ⟨k2, tru_rep w1 r1 h2, q H1 ρ1 f1 w1⟩
theorem tt_cmp {op : CmpOp} {f : F2} (h : OpT X (compareOp op) f) (ha : ET X a fa) (hb : ET X b fb) (hm : behindInMarks op b = false) : TT1 X (.Compare a [op] [b] pos) (xBl (xBin f fa fb)) := by
  intro env st ρ σ H k st' s w e Q q
  refine Wt.of (pt_cmpR OpU.ok We.pe We.pe hm) ?_
  refine run2 ha hb (k := fun vx vy H Q => OpU X (compareOp op) vx vy H Q) h s w (bl_of e) fun v H1 ρ1 f1 w1 r1 => ?_
  cases r1
  exact ⟨k, rfl, q H1 ρ1 f1 w1⟩
theorem tt_not (ha : TT1 X a ta) : TT1 X (.UnaryOp .Not a pos) (xNotT ta) := by
  intro env st ρ σ H k st' s w e Q q
  unfold xNotT at e
  cases h1 : ta env st with
  | none => rw [h1] at e; cases e
  | some p =>
    obtain ⟨t, s2⟩ := p
    rw [h1] at e
    have e' : some (!t, s2) = some (k, st') := e
    cases e'
    exact Wt.of (pt_not Wt.pt) (ha env st ρ σ H _ _ s w h1 _ fun H1 ρ1 f1 w1 => q H1 ρ1 f1 w1)
theorem tw_and1 (ha : TT1 X a ta) : TW X (.BoolOp .And [a] pos) ta := by
  intro env st ρ σ H k st' s w e Q q
  exact Ww.of (pw_and1 Wt.pt) (ha env st ρ σ H k st' s w e Q q)
theorem tw_or1 (ha : TT1 X a ta) : TW X (.BoolOp .Or [a] pos) ta := by
  intro env st ρ σ H k st' s w e Q q
  exact Ww.of (pw_or1 Wt.pt) (ha env st ρ σ H k st' s w e Q q)
theorem tw_and (ha : TT1 X a ta) (hb : TW X (.BoolOp .And (b :: es) pos) tb) : TW X (.BoolOp .And (a :: b :: es) pos) (xAndT ta tb) := by
  intro env st ρ σ H k st' s w e Q q
  unfold xAndT at e
  cases h1 : ta env st with
  | none => rw [h1] at e; cases e
  | some p =>
    obtain ⟨t, s2⟩ := p
    rw [h1] at e
    refine Ww.of (pw_and Wt.pt Ww.pw) ?_
    refine ha env st ρ σ H t s2 s w h1 _ fun H1 ρ1 f1 w1 => ?_
    cases t with
    | true =>
      rw [if_pos rfl]
      exact hb env s2 ρ1 σ H1 k st' (s.up f1) w1 e Q (q.up f1)
    | false =>
      rw [if_neg Bool.false_ne_true]
      have e' : some (_, s2) = some (k, st') := e
      cases e'
      exact q H1 ρ1 f1 w1
theorem tw_or (ha : TT1 X a ta) (hb : TW X (.BoolOp .Or (b :: es) pos) tb) : TW X (.BoolOp .Or (a :: b :: es) pos) (xOrT ta tb) := by
  intro env st ρ σ H k st' s w e Q q
  unfold xOrT at e
  cases h1 : ta env st with
  | none => rw [h1] at e; cases e
  | some p =>
    obtain ⟨t, s2⟩ := p
    rw [h1] at e
    refine Ww.of (pw_or Wt.pt Ww.pw) ?_
    refine ha env st ρ σ H t s2 s w h1 _ fun H1 ρ1 f1 w1 => ?_
    cases t with
    | true =>
      rw [if_pos rfl]
      have e' : some (_, s2) = some (k, st') := e
      cases e'
      exact q H1 ρ1 f1 w1
    | false =>
      rw [if_neg Bool.false_ne_true]
      exact hb env s2 ρ1 σ H1 k st' (s.up f1) w1 e Q (q.up f1)
theorem tt_w (h : TW X a ta) : TT1 X a ta := fun env st ρ σ H k st' s w e Q q => Wt.of Ww.pw.pt (h env st ρ σ H k st' s w e Q q)
/-! ### and, or, not, if as values -/
theorem et_if {tc : XT} (hc : TT1 X c tc) (ha : ET X a fa) (hb : ET X b fb) : ET X (.IfExp c a b pos) (xIf tc fa fb) := by
  intro env st ρ σ H k st' s w e Q q
  unfold xIf at e
  cases h1 : tc env st with
  | none => rw [h1] at e; cases e
  | some p =>
    obtain ⟨t, s2⟩ := p
    rw [h1] at e
    refine We.of (pe_ifExp Wt.pt We.pe We.pe) ?_
    refine hc env st ρ σ H t s2 s w h1 _ fun H1 ρ1 f1 w1 => ?_
    cases t with
    | true =>
      rw [if_pos rfl]
      exact ha env s2 ρ1 σ H1 k st' (s.up f1) w1 e Q (q.up f1)
    | false =>
      rw [if_neg Bool.false_ne_true]
      exact hb env s2 ρ1 σ H1 k st' (s.up f1) w1 e Q (q.up f1)
theorem et_one {op} (ha : ET X a fa) : ET X (.BoolOp op [a] pos) fa := fun env st ρ σ H k st' s w e Q q => We.of (pe_one We.pe) (ha env st ρ σ H k st' s w e Q q)
theorem et_and (ha : ET X a fa) (hb : ET X (.BoolOp .And (b :: es) pos) fb) : ET X (.BoolOp .And (a :: b :: es) pos) (xAnd fa fb) := by
  intro env st ρ σ H k st' s w e Q q
  unfold xAnd at e
  cases h1 : xBl fa env st with
  | none => rw [h1] at e; cases e
  | some p =>
    obtain ⟨t, s2⟩ := p
    rw [h1] at e
    refine We.of (pe_and We.pe We.pe) ?_
    refine ha env st ρ σ H _ s2 s w (bl_of h1) _ fun v H1 ρ1 f1 w1 r1 => ?_
    cases r1
    refine ⟨t, rfl, ?_⟩
    cases t with
    | true =>
      rw [if_pos rfl]
      exact hb env s2 ρ1 σ H1 k st' (s.up f1) w1 e Q (q.up f1)
    | false =>
      rw [if_neg Bool.false_ne_true]
      have e' : some (_, s2) = some (k, st') := e
      cases e'
      exact q _ H1 ρ1 f1 w1 (.bl _)
theorem et_or (ha : ET X a fa) (hb : ET X (.BoolOp .Or (b :: es) pos) fb) : ET X (.BoolOp .Or (a :: b :: es) pos) (xOr fa fb) := by
  intro env st ρ σ H k st' s w e Q q
  unfold xOr at e
  cases h1 : xBl fa env st with
  | none => rw [h1] at e; cases e
  | some p =>
    obtain ⟨t, s2⟩ := p
    rw [h1] at e
    refine We.of (pe_or We.pe We.pe) ?_
    refine ha env st ρ σ H _ s2 s w (bl_of h1) _ fun v H1 ρ1 f1 w1 r1 => ?_
    cases r1
    refine ⟨t, rfl, ?_⟩
    cases t with
    | true =>
      rw [if_pos rfl]
      have e' : some (_, s2) = some (k, st') := e
      cases e'
      exact q _ H1 ρ1 f1 w1 (.bl _)
    | false =>
      rw [if_neg Bool.false_ne_true]
      exact hb env s2 ρ1 σ H1 k st' (s.up f1) w1 e Q (q.up f1)
theorem et_not (ha : ET X a fa) : ET X (.UnaryOp .Not a pos) (xNot fa) := by
  intro env st ρ σ H k st' s w e Q q
  unfold xNot at e
  cases h1 : xBl fa env st with
  | none => rw [h1] at e; cases e
  | some p =>
    obtain ⟨t, s2⟩ := p
    rw [h1] at e
    have e' : some (T.bl (!t), s2) = some (k, st') := e
    cases e'
    refine We.of (pe_not We.pe) ?_
    refine ha env st ρ σ H _ _ s w (bl_of h1) _ fun v H1 ρ1 f1 w1 r1 => ?_
    cases r1
    exact ⟨t, rfl, q _ H1 ρ1 f1 w1 (.bl _)⟩
end
/-! ### items, slices -/
def ixT : F2
  | .tup ts, .int i, st => (atI ts i).map fun t => (t, st)
  | .ptp ts, .int i, st => (atI ts i).map fun t => (t, st)
  | .ref l, .int i, st => match st[l]? with
    | some (.lst ts) => (atI ts i).map fun t => (t, st)
    | _ => none
  | .str z, .int i, st => if z.length ≤ sizeLine then (atI z.cps.toList i).map fun c => (.str ⟨#[c]⟩, st) else none
  | _, _, _ => none
def cutG {α : Type} (xs : List α) (lo hi : Option Int) : List α := (xs.drop (HT.sIx xs.length 0 lo)).take (HT.sIx xs.length xs.length hi - HT.sIx xs.length 0 lo)
def xPart (f : Option XE) : Env1 → Store → Option (Option Int × Store) := fun e st => match f with
  | none => some (none, st)
  | some f => (f e st).bind fun p => match p.1 with
    | .int i => some (some i, p.2)
    | _ => none
def slT (x : T) (lo hi : Option Int) (st : Store) : Option (T × Store) := match x with
  | .tup ts => some (.tup (cutG ts lo hi), st)
  | .ptp ts => some (.tup (cutG ts lo hi), st)
  | .ref l => match st[l]? with
    | some (.lst ts) => some (.ref st.length, st ++ [.lst (cutG ts lo hi)])
    | _ => none
  | .rdl ns => some (.ref st.length, st ++ [.lst ((cutG ns lo hi).map T.int)])
  | .str z => if z.length ≤ sizeLine then some (.str (cutS z lo hi), st) else none
  | _ => none
def xSl (f : XE) (lo hi : Option XE) : XE := fun e st => (f e st).bind fun p => (xPart lo e p.2).bind fun q => (xPart hi e q.2).bind fun r => slT p.1 q.1 r.1 r.2
def revT : F1
  | .ref l, st => match st[l]? with
    | some (.lst ts) => some (.ref st.length, st ++ [.lst ts.reverse])
    | _ => none
  | _, _ => none
section
variable {X : Cx} {a b c : Expr} {fa fb fc : XE} {pos p2 : Pos}
theorem atI_rep {K : KX} {H : Hp} {ρ : List Addr} {ts : List T} {vs : List V} {i : Int} {t : T} (r : Reps K H ρ ts vs) (e : atI ts i = some t) : ∃ v, atI vs i = some v ∧ Rep K H ρ t v := by
  unfold atI at e ⊢
  rw [r.length] at e
  cases h : ixN vs.length i with
  | none => rw [h] at e; cases e
  | some j =>
    rw [h] at e
    exact r.get e
theorem xt_ix : IxT X ixT := by
  intro ρ st H x y t st' vx vy w rx ry e Q q
  unfold ixT at e
  split at e
  · rename_i _ ts i
    cases h : atI ts i with
    | none => rw [h] at e; cases e
    | some u =>
      rw [h] at e
      cases e; cases ry
      cases rx with
      | tup hx rx =>
        obtain ⟨v, h1, h2⟩ := atI_rep rx h
        exact ⟨_, ix_tup, _, _, _, v, rfl, rfl, hx, h1, q _ _ _ (Fut.refl _ _) w h2⟩
  · rename_i _ ts i
    cases h : atI ts i with
    | none => rw [h] at e; cases e
    | some u =>
      rw [h] at e
      cases e; cases ry
      cases rx with
      | ptp hx rx =>
        obtain ⟨v, h1, h2⟩ := atI_rep rx h
        exact ⟨_, ix_tup, _, _, _, v, rfl, rfl, hx.sqT, h1, q _ _ _ (Fut.refl _ _) w h2⟩
  · split at e
    · rename_i _ l i _ ts hl
      cases h : atI ts i with
      | none => rw [h] at e; cases e
      | some u =>
        rw [h] at e
        cases e; cases ry
        obtain ⟨a, vs, rfl, _, h0, r1⟩ := rep_lst w rx hl
        obtain ⟨v, h1, h2⟩ := atI_rep r1 h
        exact ⟨_, ix_list, _, _, _, v, rfl, rfl, SqL.of h0, h1, q _ _ _ (Fut.refl _ _) w h2⟩
    · cases e
  · split at e
    · rename_i _ z i hz
      cases h : atI z.cps.toList i with
      | none => rw [h] at e; cases e
      | some u =>
        rw [h] at e
        cases e; cases rx; cases ry
        exact ⟨_, ix_str, _, _, u, rfl, rfl, hz, h, q _ _ _ (Fut.refl _ _) w (.str _)⟩
    · cases e
  · cases e
/-- a part of a slice -/
def Wo (X : Cx) (e : Option Expr) : TO := match e with
  | none => tNoPart
  | some e => tPart (We X e)
theorem Wo.po {e : Option Expr} : PO X e (Wo X e) := by
  cases e with
  | none => exact po_none
  | some e => exact po_some We.pe
def OT (X : Cx) (e : Option Expr) (f : Option XE) : Prop := ∀ env st ρ σ H o st', Slots (kx X) H ρ env σ → Wd (kx X) ρ st H → xPart f env st = some (o, st') → ∀ Q : Option Int → Hp → Prop, (∀ H' ρ', Fut H H' ρ ρ' → Wd (kx X) ρ' st' H' → Q o H') → Wo X e σ H Q
theorem ot_none : OT X none none := by
  intro env st ρ σ H o st' s w e Q q
  cases e
  exact q H ρ (Fut.refl _ _) w
theorem ot_some (ha : ET X a fa) : OT X (some a) (some fa) := by
  intro env st ρ σ H o st' s w e Q q
  unfold xPart at e
  cases h1 : fa env st with
  | none => simp [h1] at e
  | some p =>
    obtain ⟨t, s2⟩ := p
    simp only [h1, Option.bind_some] at e
    split at e
    · rename_i i
      cases e
      refine ha env st ρ σ H _ _ s w h1 _ fun v H1 ρ1 f1 w1 r1 => ?_
      cases r1
      exact ⟨_, rfl, q H1 ρ1 f1 w1⟩
    · cases e
theorem cut_rep {K : KX} {H : Hp} {ρ : List Addr} {ts : List T} {vs : List V} (r : Reps K H ρ ts vs) (lo hi : Option Int) : Reps K H ρ (cutG ts lo hi) (cutV vs lo hi) := by
  unfold cutG cutV
  rw [r.length]
  exact (r.drop _).take _
theorem reps_ints {K : KX} {H : Hp} {ρ : List Addr} : ∀ ns : List Int, Reps K H ρ (ns.map T.int) (ns.map V.int)
  | [] => .nil
  | n :: ns => .cons (.int n) (reps_ints ns)
theorem cutV_ints (ns : List Int) (lo hi : Option Int) : cutV (ns.map V.int) lo hi = (cutG ns lo hi).map V.int := by
  unfold cutV cutG
  simp
theorem et_sl {lo hi : Option Expr} {fl fh : Option XE} (ha : ET X a fa) (hl : OT X lo fl) (hh : OT X hi fh) : ET X (.Subscript a (.Slice lo hi none p2) pos) (xSl fa fl fh) := by
  intro env st ρ σ H t st' s w e Q q
  unfold xSl at e
  cases h1 : fa env st with
  | none => simp [h1] at e
  | some p =>
    obtain ⟨x, st1⟩ := p
    simp only [h1, Option.bind_some] at e
    cases h2 : xPart fl env st1 with
    | none => simp [h2] at e
    | some p =>
      obtain ⟨l, st2⟩ := p
      simp only [h2, Option.bind_some] at e
      cases h3 : xPart fh env st2 with
      | none => simp [h3] at e
      | some p =>
        obtain ⟨u, st3⟩ := p
        simp only [h3, Option.bind_some] at e
        refine We.of (pe_slice SlU.ok We.pe Wo.po Wo.po) ?_
        refine ha env st ρ σ H x st1 s w h1 _ fun vx H1 ρ1 f1 w1 r1 => ?_
        refine hl env st1 ρ1 σ H1 l st2 (s.up f1) w1 h2 _ fun H2 ρ2 f2 w2 => ?_
        refine hh env st2 ρ2 σ H2 u st3 (s.up (f1.trans f2)) w2 h3 _ fun H3 ρ3 f3 w3 => ?_
        have r3 := r1.up (f2.trans f3)
        have q3 := q.up ((f1.trans f2).trans f3)
        show SlU X vx l u H3 Q
        unfold slT at e
        split at e
        · cases e
          cases r3 with
          | tup hx rx =>
            refine ⟨_, sl_tupA, _, _, rfl, hx, fun z => ?_, fun z p hp => new_tup w3 (cut_rep rx l u) q3 hp⟩
            refine q3 _ _ _ (Fut.refl _ _) w3 (.tup hx ?_)
            have e2 := cut_rep rx l u
            have e3 : ∀ {α : Type} (xs : List α), HT.sIx xs.length 0 l = 0 ∧ HT.sIx xs.length xs.length u = xs.length → cutG xs l u = xs := fun xs h => by
              unfold cutG
              rw [h.1, h.2]
              simp
            rw [e3 _ (by rw [rx.length]; exact z)]
            exact rx
        · cases e
          cases r3 with
          | ptp hx rx =>
            refine ⟨_, sl_tupA, _, _, rfl, hx.sqT, fun z => ?_, fun z p hp => new_tup w3 (cut_rep rx l u) q3 hp⟩
            refine q3 _ _ _ (Fut.refl _ _) w3 (.tup hx.sqT ?_)
            have e2 := cut_rep rx l u
            have e3 : ∀ {α : Type} (xs : List α), HT.sIx xs.length 0 l = 0 ∧ HT.sIx xs.length xs.length u = xs.length → cutG xs l u = xs := fun xs h => by
              unfold cutG
              rw [h.1, h.2]
              simp
            rw [e3 _ (by rw [rx.length]; exact z)]
            exact rx
        · split at e
          · rename_i hl
            cases e
            obtain ⟨a, vs, rfl, _, h0, r4⟩ := rep_lst w3 r3 hl
            exact ⟨_, sl_list, _, _, rfl, SqL.of h0, fun p hp => new_lst w3 (cut_rep r4 l u) q3 hp⟩
          · cases e
        · cases e
          cases r3 with
          | rdl h =>
            refine ⟨_, sl_list, _, _, rfl, h.sq, fun p hp => ?_⟩
            rw [cutV_ints]
            exact new_lst w3 (reps_ints _) q3 hp
        · split at e
          · rename_i hz
            cases e; cases r3
            exact ⟨_, sl_str, _, rfl, hz, q3 _ _ _ (Fut.refl _ _) w3 (.str _)⟩
          · cases e
        · cases e
end
end TL
/-! TL4 -/
set_option Elab.async false
set_option linter.all false
set_option maxRecDepth 100000
set_option maxHeartbeats 4000000
namespace TL
variable [Tb]
open PySem PySem.Spec PyProof.Rows L2
/-! ### targets -/
abbrev XG := T → Env1 → Store → Option (Env1 × Store)
abbrev XGs := List T → Env1 → Store → Option (Env1 × Store)
/-- the slots but those at vs are as they were -/
def Away (vs : List Nat) (σ σ' : St) : Prop := σ'.length = σ.length ∧ ∀ i, i ∉ vs → σ'[i]? = σ[i]?
theorem Away.refl (vs : List Nat) (σ : St) : Away vs σ σ := ⟨rfl, fun _ _ => rfl⟩
def Wg (X : Cx) (tg : Expr) : TG := fun v σ H Q => ∀ pins s u, Inv X pins σ H s → RelV v u → wpAny (model X.prog X.w) X.A (assign tg X.env u) (fun _ s' => ∃ σ' H', Inv X pins σ' H' s' ∧ Q σ' H') X.xe s
def Wgs (X : Cx) (ts : List Expr) : TGs := fun vs σ H Q => ∀ pins s us, Inv X pins σ H s → Vals vs us →
    wpAny (model X.prog X.w) X.A (assignInOrder ((assignEach ts X.env).map (·.2)) us) (fun _ s' => ∃ σ' H', Inv X pins σ' H' s' ∧ Q σ' H') X.xe s
theorem Wg.pg {X : Cx} {tg : Expr} : PG X tg (Wg X tg) := ⟨fun pins s σ H v u Q I r h => h pins s u I r⟩
theorem Wgs.pgs {X : Cx} {tg : List Expr} : PGs X tg (Wgs X tg) := ⟨fun pins s σ H v u Q I r h => h pins s u I r⟩
theorem Wg.of {X : Cx} {tg : Expr} {t : TG} (h : PG X tg t) {v : V} {σ : St} {H : Hp} {Q : St → Hp → Prop} (q : t v σ H Q) : Wg X tg v σ H Q := fun pins s u I r => h.run pins s σ H v u Q I r q
theorem Wgs.of {X : Cx} {tg : List Expr} {t : TGs} (h : PGs X tg t) {v : List V} {σ : St} {H : Hp} {Q : St → Hp → Prop} (q : t v σ H Q) : Wgs X tg v σ H Q := fun pins s u I r => h.run pins s σ H v u Q I r q
def GT (X : Cx) (tg : Expr) (vs : List Nat) (g : XG) : Prop := ∀ env st ρ σ H t v e' st', Slots (kx X) H ρ env σ → Wd (kx X) ρ st H → Rep (kx X) H ρ t v → g t env st = some (e', st') →
  ∀ Q : St → Hp → Prop, (∀ σ' H' ρ', Fut H H' ρ ρ' → Wd (kx X) ρ' st' H' → Slots (kx X) H' ρ' e' σ' → Away vs σ σ' → Q σ' H') → Wg X tg v σ H Q
def GTs (X : Cx) (tg : List Expr) (vs : List Nat) (g : XGs) : Prop := ∀ env st ρ σ H ts us e' st', Slots (kx X) H ρ env σ → Wd (kx X) ρ st H → Reps (kx X) H ρ ts us → g ts env st = some (e', st') →
  ∀ Q : St → Hp → Prop, (∀ σ' H' ρ', Fut H H' ρ ρ' → Wd (kx X) ρ' st' H' → Slots (kx X) H' ρ' e' σ' → Away vs σ σ' → Q σ' H') → Wgs X tg us σ H Q
def xgName (i : Nat) : XG := fun t e st => some (e.set i (some t), st)
def xgsNil : XGs := fun ts e st => match ts with
  | [] => some (e, st)
  | _ => none
def xgsCons (g : XG) (r : XGs) : XGs := fun ts e st => match ts with
  | t :: ts => (g t e st).bind fun p => r ts p.1 p.2
  | [] => none
def xgTup (n : Nat) (r : XGs) : XG := fun t e st => match t with
  | .tup ts => if ts.length = n then r ts e st else none
  | _ => none
section
variable {X : Cx} {pos : Pos} {es : List Expr} {e : Expr} {g : XG} {r : XGs} {vs us : List Nat}
theorem gt_name {i : Nat} {x : Str} (hN : X.N.Nodup) (hi : X.N[i]? = some x := by rfl) (hx : Loc X.env.scope x := by first | exact .inl rfl | exact .inr rfl) (hf : X.fn x = true ∨ X.env.scope.names.lookup x = some .local := by first | exact .inl rfl | exact .inr rfl | assumption) :
    GT X (.Name x pos) [i] (xgName i) := by
  intro env st ρ σ H t v e' st' s w rt e Q q
  cases e
  refine Wg.of (pg_name hN hi hx hf) (show Q (σ.set i (some v)) H from q _ H ρ (Fut.refl _ _) w (s.set i rt) ⟨by simp, fun j hj => ?_⟩)
  rw [List.getElem?_set_ne (fun z => hj (by simp [z]))]
theorem gs_nil : GTs X [] [] xgsNil := by
  intro env st ρ σ H ts us e' st' s w rt e Q q
  unfold xgsNil at e
  split at e
  · cases e; cases rt
    exact Wgs.of pgs_nil ⟨rfl, q _ H ρ (Fut.refl _ _) w s (Away.refl _ _)⟩
  · cases e
theorem gs_cons (h1 : GT X e vs g) (h2 : GTs X es us r) (hs : (assignEach (e :: es) X.env).map (·.2) = assign e X.env :: (assignEach es X.env).map (·.2) := by rfl) : GTs X (e :: es) (vs ++ us) (xgsCons g r) := by
  intro env st ρ σ H ts us' e' st' s w rt e1 Q q
  unfold xgsCons at e1
  split at e1
  · rename_i t ts
    cases h : g t env st with
    | none => simp [h] at e1
    | some p =>
      obtain ⟨e2, st2⟩ := p
      simp only [h, Option.bind_some] at e1
      cases rt with
      | cons a b =>
        refine Wgs.of (pgs_cons Wg.pg Wgs.pgs hs) ⟨_, _, rfl, ?_⟩
        refine h1 env st ρ σ H t _ e2 st2 s w a h _ fun σ1 H1 ρ1 f1 w1 s1 a1 => ?_
        refine h2 e2 st2 ρ1 σ1 H1 ts _ e' st' s1 w1 (b.up f1) e1 Q fun σ2 H2 ρ2 f2 w2 s2 a2 => ?_
        refine q σ2 H2 ρ2 (f1.trans f2) w2 s2 ⟨a2.1.trans a1.1, fun i hi => ?_⟩
        rw [a2.2 i (fun z => hi (List.mem_append_right _ z)), a1.2 i (fun z => hi (List.mem_append_left _ z))]
  · cases e1
theorem gt_tup {n k : Nat} (hc : X.calm = true) (h : GTs X es vs r) (hn : (assignEach es X.env).length = n := by rfl) (hst : (assignEach es X.env).findIdx? (·.1) = none := by rfl) : GT X (.Tuple es k pos) vs (xgTup n r) := by
  intro env st ρ σ H t v e' st' s w rt e Q q
  unfold xgTup at e
  split at e
  · split at e
    · rename_i hl
      cases rt with
      | tup a b => exact Wg.of (pg_tup hc Wgs.pgs hn hst) ⟨_, _, rfl, a, by rw [← b.length]; exact hl, h env st ρ σ H _ _ e' st' s w b e Q q⟩
    · cases e
  · cases e
end
/-! ### statements -/
def xsNil : XS := fun e st => some (.nx e st)
def xsSeq (a b : XS) : XS := fun e st => (a e st).bind fun o => match o with
  | .nx e' st' => b e' st'
  | o => some o
def xsAsg (f : XE) (g : XG) : XS := fun e st => (f e st).bind fun p => (g p.1 e p.2).map fun q => .nx q.1 q.2
def xsSet (i : Nat) (f : XE) : XS := fun e st => (f e st).map fun p => .nx (e.set i (some p.1)) p.2
def xsPar (i j : Nat) (f : XA) : XS := fun e st => (f e st).bind fun p => match p.1 with
  | [a, b] => some (.nx ((e.set i (some a)).set j (some b)) p.2)
  | _ => none
def xsPar3 (i j l : Nat) (f : XA) : XS := fun e st => (f e st).bind fun p => match p.1 with
  | [a, b, c] => some (.nx (((e.set i (some a)).set j (some b)).set l (some c)) p.2)
  | _ => none
def xsAug (i : Nat) (f2 : F2) (f : XE) : XS := fun e st => match e[i]? with
  | some (some x) => (f e st).bind fun p => (f2 x p.1 p.2).map fun q => .nx (e.set i (some q.1)) q.2
  | _ => none
def xsExpr (f : XE) : XS := fun e st => (f e st).map fun p => .nx e p.2
def xsRet (f : XE) : XS := fun e st => (f e st).map fun p => .rt p.1 p.2
def xsIf (c : XT) (a b : XS) : XS := fun e st => (c e st).bind fun p => if p.1 then a e p.2 else b e p.2
def xsNever : XS := fun _ _ => none
def xsBreak : XS := fun e st => some (.bk e st)
def xsCont : XS := fun e st => some (.ct e st)
def whileF (c : XT) (b : XS) : Nat → XS
  | 0, _, _ => none
  | n + 1, e, st => (c e st).bind fun p => if p.1 then (b e p.2).bind fun o => match o with
      | .nx e' st' => whileF c b n e' st'
      | .ct e' st' => whileF c b n e' st'
      | .bk e' st' => some (.nx e' st')
      | .rt t st' => some (.rt t st')
    else some (.nx e p.2)
def xsWhile (fuel : Env1 → Store → Nat) (c : XT) (b : XS) : XS := fun e st => whileF c b (fuel e st) e st
/-- what is walked: the items by the store as it stands -/
abbrev Its1 := Store → Option (List T)
abbrev XI := Env1 → Store → Option (Its1 × Store)
def forL (it : Its1) (g : XG) (b : XS) : Nat → Nat → XS
  | 0, _, _, _ => none
  | n + 1, i, e, st => (it st).bind fun ts => match ts[i]? with
    | none => if i = ts.length then some (.nx e st) else none
    | some x => (g x e st).bind fun p => (b p.1 p.2).bind fun o => match o with
      | .nx e' st' => forL it g b n (i + 1) e' st'
      | .ct e' st' => forL it g b n (i + 1) e' st'
      | .bk e' st' => some (.nx e' st')
      | .rt t st' => some (.rt t st')
def xsFor (fi : XI) (g : XG) (b : XS) : XS := fun e st => (fi e st).bind fun p => (p.1 p.2).bind fun ts => forL p.1 g b (ts.length + 1) 0 e p.2
/-- an iterator walks what a function of the store tells -/
def ItOk (K : KX) (H : Hp) (ρ : List Addr) (it : Its1) (J : It) : Prop := ∀ H' ρ' st' ts, Fut H H' ρ ρ' → Wd K ρ' st' H' → it st' = some ts → ∀ i,
  (i < ts.length → J.go i H') ∧ (i = ts.length → J.stop i H') ∧ ∀ x H'', J.yld i H' x H'' → (∀ a o, H' a = some o → H'' a = some o) ∧ ∀ t, ts[i]? = some t → Rep K H'' ρ' t x
def Wi (X : Cx) (tg e : Expr) : TI := fun σ H R => ∀ pins s, Inv X pins σ H s → wpAny (model X.prog X.w) X.A (eval e X.env) (fun v s1 => wpAny (model X.prog X.w) X.A (pyIter v) (PIE X pins σ tg R) X.xe s1) X.xe s
theorem Wi.pi {X : Cx} {tg e : Expr} : PI X tg e (Wi X tg e) := ⟨fun pins s σ H R I h => h pins s I⟩
theorem Wi.of {X : Cx} {tg e : Expr} {t : TI} (h : PI X tg e t) {σ : St} {H : Hp} {R : It → Hp → Prop} (q : t σ H R) : Wi X tg e σ H R := fun pins s I => h.run pins s σ H R I q
def IT (X : Cx) (tg e : Expr) (f : XI) : Prop := ∀ env st ρ σ H it st', Slots (kx X) H ρ env σ → Wd (kx X) ρ st H → f env st = some (it, st') →
  ∀ R : It → Hp → Prop, (∀ J H' ρ', Fut H H' ρ ρ' → Wd (kx X) ρ' st' H' → ItOk (kx X) H' ρ' it J → R J H') → Wi X tg e σ H R
section
variable {X : Cx} {pos : Pos} {es : List Expr} {e c : Expr} {g : XG} {f : XE} {fa fb : XS} {tc : XT} {a b : List Stmt} {st1 : Stmt} {vs : List Nat}
theorem ss_nil : SST X [] xsNil := by
  intro env st ρ σ H o s w e D q
  cases e
  exact Wss.of pss_nil (show D.nx σ H from q _ H ρ (Fut.refl _ _) w s)
theorem ss_cons (ha : ST X st1 fa) (hb : SST X b fb) : SST X (st1 :: b) (xsSeq fa fb) := by
  intro env st ρ σ H o s w e D q
  unfold xsSeq at e
  cases h : fa env st with
  | none => simp [h] at e
  | some o1 =>
    simp only [h, Option.bind_some] at e
    refine Wss.of (pss_cons Ws.ps Wss.pss) ?_
    refine ha env st ρ σ H o1 s w h _ ?_
    cases o1 with
    | nx e1 s1 => exact fun σ1 H1 ρ1 f1 w1 sl1 => hb e1 s1 ρ1 σ1 H1 o sl1 w1 e D (q.up f1)
    | rt t s1 => cases e; exact q
    | bk e1 s1 => cases e; exact q
    | ct e1 s1 => cases e; exact q
theorem ss_one (ha : ST X st1 fa) : SST X [st1] fa := fun env st ρ σ H o s w e D q => Wss.of (pss_one Ws.ps) (ha env st ρ σ H o s w e D q)
theorem st_asg {tg : Expr} (hf : ET X e f) (hg : GT X tg vs g) (hs : swapsWithSole [tg] e pos.line X.env = pure false := by rfl) (hw : swappedStores [tg] e X.env = pure none := by rfl)
    (h1 : (assignEach [tg] X.env).map (·.2) = [assign tg X.env] := by rfl) : ST X (.Assign [tg] e pos) (xsAsg f g) := by
  intro env st ρ σ H o s w e D q
  unfold xsAsg at e
  cases h : f env st with
  | none => simp [h] at e
  | some p =>
    obtain ⟨t, s1⟩ := p
    simp only [h, Option.bind_some] at e
    cases h2 : g t env s1 with
    | none => simp [h2] at e
    | some p =>
      obtain ⟨e2, s2⟩ := p
      rw [h2] at e
      cases e
      refine Ws.of (ps_asg We.pe Wg.pg hs hw h1) ?_
      refine hf env st ρ σ H t s1 s w h _ fun v H1 ρ1 f1 w1 r1 => ?_
      exact hg env s1 ρ1 σ H1 t v e2 s2 (s.up f1) w1 r1 h2 _ fun σ2 H2 ρ2 f2 w2 s2' _ => q _ H2 ρ2 (f1.trans f2) w2 s2'
theorem st_set {i : Nat} {x : Str} {pos' : Pos} (hN : X.N.Nodup) (he : ET X e f) (hi : X.N[i]? = some x := by rfl) (hx : Loc X.env.scope x := by first | exact .inl rfl | exact .inr rfl)
    (hs : swapsWith e (some (.Name x pos')) pos.line X.env = pure false := by rfl) (hf : X.fn x = true ∨ X.env.scope.names.lookup x = some .local := by first | exact .inl rfl | exact .inr rfl | assumption) : ST X (.Assign [.Name x pos'] e pos) (xsSet i f) := by
  intro env st ρ σ H o s w e D q
  unfold xsSet at e
  cases h : f env st with
  | none => simp [h] at e
  | some p =>
    obtain ⟨t, s1⟩ := p
    rw [h] at e
    cases e
    refine Ws.of (ps_set hN hi hx We.pe hs hf) ?_
    exact he env st ρ σ H t s1 s w h _ fun v H1 ρ1 f1 w1 r1 => q _ H1 ρ1 f1 w1 ((s.up f1).set i r1)
theorem st_par {i j : Nat} {x y : Str} {a b : Expr} {fr : XA} {px py pt : Pos} {kt k2 pt2} (hc : X.calm = true) (hN : X.N.Nodup) (ha : AT X [a, b] fr) (hi : X.N[i]? = some x := by rfl) (hj : X.N[j]? = some y := by rfl) (hij : i ≠ j := by decide)
    (hx : X.env.scope.names.lookup x = some .local := by rfl) (hy : X.env.scope.names.lookup y = some .local := by rfl)
    (hw : swappedStores [.Tuple [.Name x px, .Name y py] kt pt] (.Tuple [a, b] k2 pt2) X.env = pure (some [x, y]) := by rfl)
    (hs : swapsWithSole [.Tuple [.Name x px, .Name y py] kt pt] (.Tuple [a, b] k2 pt2) pos.line X.env = pure false := by rfl) : ST X (.Assign [.Tuple [.Name x px, .Name y py] kt pt] (.Tuple [a, b] k2 pt2) pos) (xsPar i j fr) := by
  intro env st ρ σ H o s w e D q
  unfold xsPar at e
  cases h : fr env st with
  | none => simp [h] at e
  | some p =>
    obtain ⟨ts, s1⟩ := p
    simp only [h, Option.bind_some] at e
    split at e
    · cases e
      refine Ws.of (ps_par hc hN hi hj hij hx hy Wa.pa hw hs) ?_
      refine ha env st ρ σ H _ s1 s w h _ fun vs H1 ρ1 f1 w1 r1 => ?_
      cases r1 with
      | cons r1 r2 =>
        cases r2 with
        | cons r2 r3 =>
          cases r3
          exact ⟨_, _, rfl, q _ H1 ρ1 f1 w1 (((s.up f1).set i r1).set j r2)⟩
    · cases e
theorem st_par3 {i j l : Nat} {x y z : Str} {a b c : Expr} {fr : XA} {px py pz pt : Pos} {kt k2 pt2} (hc : X.calm = true) (hN : X.N.Nodup) (ha : AT X [a, b, c] fr) (hi : X.N[i]? = some x := by rfl) (hj : X.N[j]? = some y := by rfl) (hl : X.N[l]? = some z := by rfl)
    (hij : i ≠ j := by decide) (hil : i ≠ l := by decide) (hjl : j ≠ l := by decide)
    (hx : X.env.scope.names.lookup x = some .local := by rfl) (hy : X.env.scope.names.lookup y = some .local := by rfl) (hz : X.env.scope.names.lookup z = some .local := by rfl)
    (hw : swappedStores [.Tuple [.Name x px, .Name y py, .Name z pz] kt pt] (.Tuple [a, b, c] k2 pt2) X.env = pure (some [x, y, z]) := by rfl)
    (hs : swapsWithSole [.Tuple [.Name x px, .Name y py, .Name z pz] kt pt] (.Tuple [a, b, c] k2 pt2) pos.line X.env = pure false := by rfl) :
    ST X (.Assign [.Tuple [.Name x px, .Name y py, .Name z pz] kt pt] (.Tuple [a, b, c] k2 pt2) pos) (xsPar3 i j l fr) := by
  intro env st ρ σ H o s w e D q
  unfold xsPar3 at e
  cases h : fr env st with
  | none => simp [h] at e
  | some p =>
    obtain ⟨ts, s1⟩ := p
    simp only [h, Option.bind_some] at e
    split at e
    · cases e
      refine Ws.of (ps_par3 hc hN hi hj hl hij hil hjl hx hy hz Wa.pa hw hs) ?_
      refine ha env st ρ σ H _ s1 s w h _ fun vs H1 ρ1 f1 w1 r1 => ?_
      cases r1 with
      | cons r1 r2 =>
        cases r2 with
        | cons r2 r3 =>
          cases r3 with
          | cons r3 r4 =>
            cases r4
            exact ⟨_, _, _, rfl, q _ H1 ρ1 f1 w1 ((((s.up f1).set i r1).set j r2).set l r3)⟩
    · cases e
theorem st_aug {i : Nat} {x : Str} {pos' : Pos} {op : Operator} {f2 : F2} (hN : X.N.Nodup) (h2 : OpT X (inplaceOp op) f2) (he : ET X e f) (hi : X.N[i]? = some x := by rfl) (hx : Loc X.env.scope x := by first | exact .inl rfl | exact .inr rfl)
    (hf : X.fn x = true ∨ X.env.scope.names.lookup x = some .local := by first | exact .inl rfl | exact .inr rfl | assumption) : ST X (.AugAssign (.Name x pos') op e pos) (xsAug i f2 f) := by
  intro env st ρ σ H o s w e D q
  unfold xsAug at e
  split at e
  · rename_i t0 ht
    cases h : f env st with
    | none => simp [h] at e
    | some p =>
      obtain ⟨t, s1⟩ := p
      simp only [h, Option.bind_some] at e
      cases h3 : f2 t0 t s1 with
      | none => simp [h3] at e
      | some p =>
        obtain ⟨t3, s3⟩ := p
        rw [h3] at e
        cases e
        obtain ⟨v0, hv, r0⟩ := s.2 i t0 ht
        refine Ws.of (ps_aug (ti := OpU X (inplaceOp op)) hN hi hx We.pe (fun pins s σ H x y v u Q I rx ry h => OpU.ok pins s σ H x y v u Q I rx ry h) hf) ⟨v0, hv, ?_⟩
        refine he env st ρ σ H t s1 s w h _ fun v H1 ρ1 f1 w1 r1 => ?_
        exact h2 ρ1 s1 H1 t0 t t3 s3 v0 v w1 (r0.up f1) r1 h3 _ fun u H2 ρ2 f2 w2 r2 => q _ H2 ρ2 (f1.trans f2) w2 ((s.up (f1.trans f2)).set i r2)
  · cases e
theorem st_expr (he : ET X e f) (hs : swapsWith e none pos.line X.env = pure false := by rfl) : ST X (.Expr e pos) (xsExpr f) := by
  intro env st ρ σ H o s w e D q
  unfold xsExpr at e
  cases h : f env st with
  | none => simp [h] at e
  | some p =>
    obtain ⟨t, s1⟩ := p
    rw [h] at e
    cases e
    exact Ws.of (ps_expr We.pe hs) (he env st ρ σ H t s1 s w h _ fun v H1 ρ1 f1 w1 r1 => q _ H1 ρ1 f1 w1 (s.up f1))
theorem st_ret (he : ET X e f) : ST X (.Return (some e) pos) (xsRet f) := by
  intro env st ρ σ H o s w e D q
  unfold xsRet at e
  cases h : f env st with
  | none => simp [h] at e
  | some p =>
    obtain ⟨t, s1⟩ := p
    rw [h] at e
    cases e
    exact Ws.of (ps_ret We.pe) (he env st ρ σ H t s1 s w h _ fun v H1 ρ1 f1 w1 r1 => q _ H1 ρ1 f1 w1 r1)
theorem st_pass : ST X (.Pass pos) xsNil := by
  intro env st ρ σ H o s w e D q
  cases e
  exact Ws.of ps_pass (show D.nx σ H from q _ H ρ (Fut.refl _ _) w s)
theorem st_never {x : Stmt} : ST X x xsNever := by
  intro env st ρ σ H o s w e D q
  cases e
theorem st_if (hc : TT1 X c tc) (ha : SST X a fa) (hb : SST X b fb) : ST X (.If c a b pos) (xsIf tc fa fb) := by
  intro env st ρ σ H o s w e D q
  unfold xsIf at e
  cases h : tc env st with
  | none => simp [h] at e
  | some p =>
    obtain ⟨k, s1⟩ := p
    simp only [h, Option.bind_some] at e
    refine Ws.of (ps_if Wt.pt Wss.pss Wss.pss) ?_
    refine hc env st ρ σ H k s1 s w h _ fun H1 ρ1 f1 w1 => ?_
    cases k with
    | true =>
      rw [if_pos rfl]
      exact ha env s1 ρ1 σ H1 o (s.up f1) w1 e D (q.up f1)
    | false =>
      rw [if_neg Bool.false_ne_true]
      exact hb env s1 ρ1 σ H1 o (s.up f1) w1 e D (q.up f1)
theorem st_while {fuel : Env1 → Store → Nat} (hp : PassesOwn (model X.prog X.w) X.A X.env X.xe) (hc : TT1 X c tc) (hb : SST X b fb) : ST X (.While c b [] pos) (xsWhile fuel tc fb) := by
  intro env st ρ σ H o s w e D q
  refine Ws.of (ps_while hp Wt.pt Wss.pss) ?_
  refine ⟨fun m σ1 H1 => ∃ env1 st1 ρ1, Slots (kx X) H1 ρ1 env1 σ1 ∧ Wd (kx X) ρ1 st1 H1 ∧ whileF tc fb m env1 st1 = some o ∧ QO (kx X) H1 ρ1 D o, ⟨fuel env st, env, st, ρ, s, w, e, q⟩, ?_⟩
  rintro m σ1 H1 ⟨env1, st1, ρ1, s1, w1, e1, q1⟩
  cases m with
  | zero => cases e1
  | succ m =>
    unfold whileF at e1
    cases h : tc env1 st1 with
    | none => simp [h] at e1
    | some p =>
      obtain ⟨k, s2⟩ := p
      simp only [h, Option.bind_some] at e1
      refine hc env1 st1 ρ1 σ1 H1 k s2 s1 w1 h _ fun H2 ρ2 f2 w2 => ?_
      cases k with
      | false =>
        rw [if_neg Bool.false_ne_true]
        rw [if_neg Bool.false_ne_true] at e1
        cases e1
        exact q1 σ1 H2 ρ2 f2 w2 (s1.up f2)
      | true =>
        rw [if_pos rfl]
        rw [if_pos rfl] at e1
        cases h3 : fb env1 s2 with
        | none => simp [h3] at e1
        | some o3 =>
          simp only [h3, Option.bind_some] at e1
          refine ⟨fun σ' H' => ∃ env1 st1 ρ1, Slots (kx X) H' ρ1 env1 σ' ∧ Wd (kx X) ρ1 st1 H' ∧ whileF tc fb m env1 st1 = some o ∧ QO (kx X) H' ρ1 D o, fun σ' H' z => ⟨m, Nat.lt_succ_self _, z⟩, ?_⟩
          refine hb env1 s2 ρ2 σ1 H2 o3 (s1.up f2) w2 h3 _ ?_
          cases o3 with
          | nx e4 s4 => exact fun σ4 H4 ρ4 f4 w4 sl4 => ⟨e4, s4, ρ4, sl4, w4, e1, q1.up (f2.trans f4)⟩
          | ct e4 s4 => exact fun σ4 H4 ρ4 f4 w4 sl4 => ⟨e4, s4, ρ4, sl4, w4, e1, q1.up (f2.trans f4)⟩
          | bk e4 s4 => cases e1; exact QN.up (Q := D.nx) q1 f2
          | rt t4 s4 => cases e1; exact QE.up (Q := D.rt) q1 f2
theorem st_for {tg it : Expr} {fi : XI} (hp : PassesOwn (model X.prog X.w) X.A X.env X.xe) (hc : X.calm = true) (hi : IT X tg it fi) (hg : GT X tg vs g) (hb : SST X b fb)
    (hs : ∀ x, foldedSetIterable it X.env x = pure x := by intro _; rfl) : ST X (.For tg it b [] pos) (xsFor fi g fb) := by
  intro env st ρ σ H o s w e D q
  unfold xsFor at e
  cases h : fi env st with
  | none => simp [h] at e
  | some p =>
    obtain ⟨I1, s1⟩ := p
    simp only [h, Option.bind_some] at e
    cases h1 : I1 s1 with
    | none => simp [h1] at e
    | some ts0 =>
      simp only [h1, Option.bind_some] at e
      refine Ws.of (ps_for hp hc Wi.pi Wg.pg Wss.pss hs) ?_
      refine hi env st ρ σ H I1 s1 s w h _ fun J H1 ρ1 f1 w1 ok => ?_
      refine ⟨fun i m σ2 H2 => ∃ env2 st2 ρ2, Fut H1 H2 ρ1 ρ2 ∧ Slots (kx X) H2 ρ2 env2 σ2 ∧ Wd (kx X) ρ2 st2 H2 ∧ forL I1 g fb m i env2 st2 = some o ∧ QO (kx X) H2 ρ2 D o, ⟨ts0.length + 1, env, s1, ρ1, Fut.refl _ _, s.up f1, w1, e, q.up f1⟩, ?_⟩
      rintro i m σ2 H2 ⟨env2, st2, ρ2, f2, sl2, w2, e2, q2⟩
      cases m with
      | zero => cases e2
      | succ m =>
        unfold forL at e2
        cases h3 : I1 st2 with
        | none => simp [h3] at e2
        | some ts =>
          simp only [h3, Option.bind_some] at e2
          obtain ⟨k1, k2, k3⟩ := ok H2 ρ2 st2 ts f2 w2 h3 i
          cases h4 : ts[i]? with
          | none =>
            simp only [h4] at e2
            split at e2
            · rename_i hl
              cases e2
              exact .inl ⟨k2 hl, q2 σ2 H2 ρ2 (Fut.refl _ _) w2 sl2⟩
            · cases e2
          | some x =>
            simp only [h4] at e2
            have hlt := (List.getElem?_eq_some_iff.mp h4).1
            refine .inr ⟨k1 hlt, fun σ' H' => ∃ env2 st2 ρ2, Fut H1 H' ρ1 ρ2 ∧ Slots (kx X) H' ρ2 env2 σ' ∧ Wd (kx X) ρ2 st2 H' ∧ forL I1 g fb m (i + 1) env2 st2 = some o ∧ QO (kx X) H' ρ2 D o, fun σ' H' z => ⟨m, Nat.lt_succ_self _, z⟩, fun y H3 hy => ?_⟩
            obtain ⟨gr, ry⟩ := k3 y H3 hy
            have f3 : Fut H2 H3 ρ2 ρ2 := fut_grow gr
            cases h5 : g x env2 st2 with
            | none => simp [h5] at e2
            | some p =>
              obtain ⟨e5, s5⟩ := p
              simp only [h5, Option.bind_some] at e2
              refine hg env2 st2 ρ2 σ2 H3 x y e5 s5 (sl2.up f3) (w2.grow gr) (ry x h4) h5 _ fun σ6 H6 ρ6 f6 w6 sl6 _ => ?_
              cases h7 : fb e5 s5 with
              | none => simp [h7] at e2
              | some o7 =>
                simp only [h7, Option.bind_some] at e2
                have f26 := f3.trans f6
                refine hb e5 s5 ρ6 σ6 H6 o7 sl6 w6 h7 _ ?_
                cases o7 with
                | nx e8 s8 => exact fun σ8 H8 ρ8 f8 w8 sl8 => ⟨e8, s8, ρ8, f2.trans (f26.trans f8), sl8, w8, e2, q2.up (f26.trans f8)⟩
                | ct e8 s8 => exact fun σ8 H8 ρ8 f8 w8 sl8 => ⟨e8, s8, ρ8, f2.trans (f26.trans f8), sl8, w8, e2, q2.up (f26.trans f8)⟩
                | bk e8 s8 => cases e2; exact QN.up (Q := D.nx) q2 f26
                | rt t8 s8 => cases e2; exact QE.up (Q := D.rt) q2 f26
end
end TL
/-! TL5 -/
set_option Elab.async false
set_option linter.all false
set_option maxRecDepth 100000
set_option maxHeartbeats 4000000
namespace TL
variable [Tb]
open PySem PySem.Spec PyProof.Rows L2
/-! ### what is below a place -/
mutual
def below (n : Nat) : T → Bool
  | .tup ts => belows n ts
  | .ref l => decide (l < n)
  | .non => true
  | .bl _ => true
  | .int _ => true
  | .str _ => true
  | .rdl _ => true
  | .ptp ts => belows n ts
def belows (n : Nat) : List T → Bool
  | [] => true
  | t :: ts => below n t && belows n ts
end
def obelow (n : Nat) : Ob → Bool
  | .lst ts => belows n ts
  | .dK kvs => belows n (kvs.map (·.2))
  | .dN kvs => belows n (kvs.map (·.1)) && belows n (kvs.map (·.2))
  | .lkK kvs => belows n (kvs.map (·.2))
  | .lkN kvs => belows n (kvs.map (·.1)) && belows n (kvs.map (·.2))
section
variable {K : KX} {H H' : Hp} {ρ ρ' : List Addr}
mutual
theorem Rep.bel : ∀ (t : T) (v : V), Rep K H ρ t v → below ρ.length t = true
  | .non, _, _ => rfl
  | .bl _, _, _ => rfl
  | .int _, _, _ => rfl
  | .str _, _, _ => rfl
  | .rdl _, _, _ => rfl
  | .ptp ts, _, h => by
    cases h with
    | ptp a b => exact Reps.bel ts _ b
  | .tup ts, _, h => by
    cases h with
    | tup a b => exact Reps.bel ts _ b
  | .ref l, _, h => by
    cases h with
    | ref a => exact decide_eq_true (List.getElem?_eq_some_iff.mp a).1
theorem Reps.bel : ∀ (ts : List T) (vs : List V), Reps K H ρ ts vs → belows ρ.length ts = true
  | [], _, _ => rfl
  | t :: ts, _, h => by
    cases h with
    | cons a b =>
      show (below _ t && belows _ ts) = true
      rw [Rep.bel t _ a, Reps.bel ts _ b]; rfl
end
mutual
theorem Rep.cut (p : ∀ l a, l < n → ρ'[l]? = some a → ρ[l]? = some a) : ∀ (t : T) (v : V), below n t = true → Rep K H ρ' t v → Rep K H ρ t v
  | .non, _, _, h => by cases h; exact .non
  | .bl b, _, _, h => by cases h; exact .bl b
  | .int i, _, _, h => by cases h; exact .int i
  | .str x, _, _, h => by cases h; exact .str x
  | .rdl ns, _, _, h => by
    cases h with
    | rdl a => exact .rdl a
  | .ptp ts, _, b, h => by
    cases h with
    | ptp a c => exact .ptp a (Reps.cut p ts _ b c)
  | .tup ts, _, b, h => by
    cases h with
    | tup a c => exact .tup a (Reps.cut p ts _ b c)
  | .ref l, _, b, h => by
    cases h with
    | ref a => exact .ref (p l _ (of_decide_eq_true b) a)
theorem Reps.cut (p : ∀ l a, l < n → ρ'[l]? = some a → ρ[l]? = some a) : ∀ (ts : List T) (vs : List V), belows n ts = true → Reps K H ρ' ts vs → Reps K H ρ ts vs
  | [], _, _, h => by cases h; exact .nil
  | t :: ts, _, b, h => by
    have b' : below n t = true ∧ belows n ts = true := by
      have : (below n t && belows n ts) = true := b
      simpa using this
    cases h with
    | cons a c => exact .cons (Rep.cut p t _ b'.1 a) (Reps.cut p ts _ b'.2 c)
end
theorem RepD.bel {kvs : List (T × T)} {xs : List (NestedKey × Addr × V)} (h : RepD K H ρ kvs xs) : (belows ρ.length (kvs.map (·.1)) && belows ρ.length (kvs.map (·.2))) = true := by
  induction h with
  | nil => rfl
  | cons a b c d ih =>
    rw [Bool.and_eq_true] at ih
    show ((TL.below _ _ && belows _ _) && (TL.below _ _ && belows _ _)) = true
    rw [Rep.bel _ _ b, Rep.bel _ _ c, ih.1, ih.2]; rfl
theorem RepD.cut {n : Nat} (p : ∀ l a, l < n → ρ'[l]? = some a → ρ[l]? = some a) {kvs : List (T × T)} {xs : List (NestedKey × Addr × V)} (bl : (belows n (kvs.map (·.1)) && belows n (kvs.map (·.2))) = true) (h : RepD K H ρ' kvs xs) : RepD K H ρ kvs xs := by
  induction h with
  | nil => exact .nil
  | cons a b c d ih =>
    have bl : ((TL.below n _ && belows n _) && (TL.below n _ && belows n _)) = true := bl
    simp only [Bool.and_eq_true] at bl
    exact .cons a (Rep.cut p _ _ bl.1.1 b) (Rep.cut p _ _ bl.2.1 c) (ih (by rw [bl.1.2, bl.2.2]; rfl))
theorem RepO.bel {a : Addr} {o : Ob} (r : RepO K H ρ a o) : obelow ρ.length o = true := by
  cases o with
  | lst ts => obtain ⟨vs, h, q⟩ := r; exact Reps.bel _ _ q
  | dK kvs => obtain ⟨vs, h, k, q⟩ := r; exact Reps.bel _ _ q
  | dN kvs => obtain ⟨vs, h, q⟩ := r; exact q.bel
  | lkK kvs => obtain ⟨o, vs, h, k, q⟩ := r; exact Reps.bel _ _ q
  | lkN kvs => obtain ⟨o, vs, h, q⟩ := r; exact q.bel
theorem RepO.cut {n : Nat} (p : ∀ l a, l < n → ρ'[l]? = some a → ρ[l]? = some a) {a : Addr} {o : Ob} (b : obelow n o = true) (r : RepO K H ρ' a o) : RepO K H ρ a o := by
  cases o with
  | lst ts => obtain ⟨vs, h, q⟩ := r; exact ⟨vs, h, Reps.cut p _ _ b q⟩
  | dK kvs => obtain ⟨vs, h, k, q⟩ := r; exact ⟨vs, h, k, Reps.cut p _ _ b q⟩
  | dN kvs => obtain ⟨vs, h, q⟩ := r; exact ⟨vs, h, q.cut p b⟩
  | lkK kvs => obtain ⟨o, vs, h, k, q⟩ := r; exact ⟨o, vs, h, k, Reps.cut p _ _ b q⟩
  | lkN kvs => obtain ⟨o, vs, h, q⟩ := r; exact ⟨o, vs, h, q.cut p b⟩
end
/-- what a call leaves may be forgotten: the store st2 and the value t2 behind the body, st' and t for the caller -/
def Cut (st : Store) (t2 : T) (st2 : Store) (t : T) (st' : Store) : Prop := ∀ (K : KX) (H H' : Hp) (ρ ρ' : List Addr) (v : V), Wd K ρ st H → Fut H H' ρ ρ' → Wd K ρ' st2 H' → Rep K H' ρ' t2 v →
  ∃ ρ'', Fut H H' ρ ρ'' ∧ Wd K ρ'' st' H' ∧ Rep K H' ρ'' t v
theorem Cut.refl (st : Store) (t : T) (st' : Store) : Cut st t st' t st' := fun _ _ _ _ ρ' _ _ f w r => ⟨ρ', f, w, r⟩
section
variable {K : KX} {H H' : Hp} {ρ ρ' : List Addr} {st st2 : Store}
theorem wd_back (w : Wd K ρ st H) (f : Fut H H' ρ ρ') (w2 : Wd K ρ' st2 H') (hl : st.length ≤ st2.length) (hc : ∀ l o, l < st.length → st2[l]? = some o → st[l]? = some o ∨ obelow st.length o = true) : Wd K ρ (st2.take st.length) H' := by
  obtain ⟨m, rfl⟩ := f.p
  have pr : ∀ l a, l < st.length → (ρ ++ m)[l]? = some a → ρ[l]? = some a := fun l a hl h => by
    rw [List.getElem?_append_left (by rw [w.len]; exact hl)] at h; exact h
  refine ⟨w2.tb, by rw [List.length_take, w.len]; omega, w.nd, fun l o a h1 h2 => ?_⟩
  have hll : l < st.length := by
    have := (List.getElem?_eq_some_iff.mp h2).1
    rw [w.len] at this; exact this
  rw [List.getElem?_take_of_lt hll] at h1
  have h3 : (ρ ++ m)[l]? = some a := by
    rw [List.getElem?_append_left (by rw [w.len]; exact hll)]; exact h2
  have r := w2.ob l o a h1 h3
  refine r.cut pr ?_
  rcases hc l o hll h1 with z | z
  · have r0 := w.ob l o a z h2
    have := r0.bel
    rw [w.len] at this; exact this
  · exact z
end
/-- the store ahead, a few of its objects changed; the value hangs on these alone -/
theorem Cut.back {st st2 : Store} {t : T} (hl : st.length ≤ st2.length) (hc : ∀ l o, l < st.length → st2[l]? = some o → st[l]? = some o ∨ obelow st.length o = true) (hb : below st.length t = true) : Cut st t st2 t (st2.take st.length) := by
  intro K H H' ρ ρ' v w f w2 r
  refine ⟨ρ, ⟨f.e, [], by simp⟩, wd_back w f w2 hl hc, ?_⟩
  obtain ⟨m, rfl⟩ := f.p
  exact Rep.cut (n := st.length) (fun l a hl h => by rw [List.getElem?_append_left (by rw [w.len]; exact hl)] at h; exact h) _ _ hb r
theorem Cut.pure {st g : Store} {t : T} (hb : below st.length t = true) : Cut st t (st ++ g) t st := by
  have h := Cut.back (st := st) (st2 := st ++ g) (t := t) (by simp) (fun l o hl h => .inl (by rw [List.getElem?_append_left hl] at h; exact h)) hb
  rw [List.take_left'] at h
  · exact h
  · rfl
/-- a new object, all else forgotten -/
theorem Cut.new {st g : Store} {j : Nat} {o : Ob} (hj : st.length ≤ j) (ho : (st ++ g)[j]? = some o) (hb : obelow st.length o = true) : Cut st (.ref j) (st ++ g) (.ref st.length) (st ++ [o]) := by
  intro K H H' ρ ρ' v w f w2 r
  have wb := wd_back w f w2 (by simp) (fun l o hl h => .inl (by rw [List.getElem?_append_left hl] at h; exact h))
  rw [List.take_left' rfl] at wb
  cases r with
  | @ref _ a ha =>
    have r2 := w2.ob j o a ho ha
    obtain ⟨m, rfl⟩ := f.p
    have na : a ∉ ρ := fun hm => by
      obtain ⟨i, hi⟩ := List.getElem?_of_mem hm
      have hil := (List.getElem?_eq_some_iff.mp hi).1
      have hi2 : (ρ ++ m)[i]? = some a := by rw [List.getElem?_append_left hil]; exact hi
      have := (List.getElem?_inj (by rw [List.length_append]; omega) w2.nd).mp (hi2.trans ha.symm)
      rw [w.len] at hil
      omega
    have pr : ∀ l b, l < st.length → (ρ ++ m)[l]? = some b → (ρ ++ [a])[l]? = some b := fun l b hl h => by
      rw [List.getElem?_append_left (by rw [w.len]; exact hl)] at h ⊢; exact h
    refine ⟨ρ ++ [a], ⟨f.e, [a], rfl⟩, ⟨w2.tb, by simp [w.len], ?_, fun l ob b h1 h2 => ?_⟩, .ref ?_⟩
    · refine List.nodup_append.mpr ⟨w.nd, by simp, ?_⟩
      intro x hx y hy e
      have : y = a := by simpa using hy
      subst this; subst e
      exact na hx
    · by_cases hl : l < st.length
      · rw [List.getElem?_append_left hl] at h1
        rw [List.getElem?_append_left (by rw [w.len]; exact hl)] at h2
        exact (wb.ob l ob b h1 h2).up ⟨Ext.refl _, [a], rfl⟩ rfl
      · have e : l = st.length := by
          have := (List.getElem?_eq_some_iff.mp h1).1
          simp at this; omega
        subst e
        rw [List.getElem?_append_right (Nat.le_refl _)] at h1
        rw [← w.len, List.getElem?_append_right (Nat.le_refl _)] at h2
        simp at h1 h2
        subst h1; subst h2
        exact r2.cut pr hb
    · rw [← w.len, List.getElem?_append_right (Nat.le_refl _)]; simp
/-! ### defs -/
/-- what a def of the text does, on trees; nothing is raised -/
structure FnT (P : Program) (w : World) (K : PySem.W.Frag) (mg : Str → Option Value) (base : Heap) (k : Nat) (f : Addr) (fd : FuncData) (ps : List Str) (F : FA) : Prop where
  len : ∀ ts st r, F ts st = some r → ts.length = ps.length
  run : ∀ (A : Around) (outer : List Env) (s : Shared) (H : Hp) (args : Args) (us : List Value) (vs : List V) (ρ : List Addr) (ts : List T) (st : Store) (t : T) (st' : Store) (Q : VK), Room k A → A.guards = some [] →
    Env0 P w K mg base A outer s H → BindsTo s fd args (ps.zip us) → Vals vs us → Wd (kX K P w) ρ st H → Reps (kX K P w) H ρ ts vs → F ts st = some (t, st') → QE (kX K P w) H ρ t st' Q →
    codeAny (model P w) A (.call (.ref f) args) (CR CX0 outer P w H s Q E0) s
def fnF (n : Nat) (N : Nat) (b : XS) : FA := fun ts st => if ts.length = n then (b (ts.map some ++ List.replicate (N - ts.length) none) st).bind fun o => match o with
  | .rt t st' => some (t, st')
  | .nx _ st' => some (.non, st')
  | _ => none
  else none
/-- a def's body: its context -/
abbrev cx0 (P : Program) (w : World) (K : PySem.W.Frag) (mg : Str → Option Value) (base : Heap) (N : List Str) (qual : Str) (sc : Scope) (f : Addr) (cdv : Value) (A : Around) (outer : List Env) (s : Shared) (H : Hp) (E : XK) : Cx :=
  (cxOf CX0 P w K mg base N qual sc f cdv A outer s H E).nox
section
variable {P : Program} {w : World} {K : PySem.W.Frag} {mg : Str → Option Value} {base : Heap}
theorem FnT.mono {j k : Nat} {f : Addr} {fd : FuncData} {ps : List Str} {F : FA} (G : FnT P w K mg base j f fd ps F) (h : j ≤ k) : FnT P w K mg base k f fd ps F :=
  ⟨G.len, fun A outer s H args us vs ρ ts st t st' Q hr => G.run A outer s H args us vs ρ ts st t st' Q (hr.mono h)⟩
/-- a promise that says less -/
theorem FnT.as {k : Nat} {f : Addr} {fd : FuncData} {ps : List Str} {F F' : FA} (G : FnT P w K mg base k f fd ps F)
    (h : ∀ ts st t st', F' ts st = some (t, st') → ∃ t2 st2, F ts st = some (t2, st2) ∧ Cut st t2 st2 t st') : FnT P w K mg base k f fd ps F' := by
  refine ⟨fun ts st r e => ?_, fun A outer s H args us vs ρ ts st t st' Q hr hg e0 hb rv wd rs e q => ?_⟩
  · obtain ⟨t2, st2, e2, _⟩ := h ts st r.1 r.2 e
    exact G.len ts st _ e2
  · obtain ⟨t2, st2, e2, c⟩ := h ts st t st' e
    refine G.run A outer s H args us vs ρ ts st t2 st2 Q hr hg e0 hb rv wd rs e2 fun v H' ρ' f' w' r' => ?_
    obtain ⟨ρ2, f2, w2, r2⟩ := c (kX K P w) H H' ρ ρ' v wd f' w' r'
    exact q v H' ρ2 f2 w2 r2
theorem FnT.ofL {x qual : Str} {st : Stmt} {f : Addr} {oc kV doc pm cdv ct : Value} {od an : Option Addr} {osl : Array (Option Value)} {N ps : List Str} {k : Nat} {Fb : XS} (lk : K.lookup f = some ⟨oc, od, .func (PySem.W.fnOf x qual (defArgs st) (defBody st) (defScope st) .none kV doc pm an cdv ct), osl⟩) (hcd : PySem.W.codeIn K cdv qual = true) (S : FnScope N ps (defScope st))
    (hbody : ∀ (A : Around) (outer : List Env) (s : Shared) (H : Hp), Room k (A.deeper (envOfC qual (defScope st) s.heap.objs.size f cdv)) → (A.deeper (envOfC qual (defScope st) s.heap.objs.size f cdv)).guards = some [] →
      SST (cx0 P w K mg base N qual (defScope st) f cdv A outer s H E0) (defBody st) Fb) : FnT P w K mg base (k + 1) f (PySem.W.fnOf x qual (defArgs st) (defBody st) (defScope st) .none kV doc pm an cdv ct) ps (fnF ps.length N.length Fb) := by
  refine ⟨fun ts st r e => ?_, fun A outer s H args us vs ρ ts st0 t st' Q hr hg e0 hb rv wd rs e q => ?_⟩
  · unfold fnF at e
    split at e
    · assumption
    · cases e
  · unfold fnF at e
    split at e
    · rename_i hts
      cases hB : Fb (ts.map some ++ List.replicate (N.length - ts.length) none) st0 with
      | none => simp [hB] at e
      | some o =>
        simp only [hB, Option.bind_some] at e
        have hvl : vs.length = ps.length := by rw [← rs.length]; exact hts
        have KX : K.In s.heap := e0.mod.kin.keeps fun b o eb => (e0.bs b o eb).1
        have lim : s.heap.NoLimit := e0.mod.nolimit.keeps fun b o eb => (e0.bs b o eb).1
        have hkinds : ∀ y ∈ ps.zip us, (defScope st).names.lookup y.1 = some .local ∨ ((defScope st).names.lookup y.1 = some .cell ∧ ((cellsFrom (s.heap.objs.size + 1) (defScope st).names []).lookup y.1).isSome = true) := fun ⟨n, u⟩ hy => by
          rcases S.par n (List.of_mem_zip hy).1 with z | z
          · exact .inl z
          · exact .inr ⟨z, PySem.W.cellsFrom_some _ _ _ (.inl z)⟩
        refine codeAny_call_function hr.depth (KX _ _ lk) rfl S.co S.gen rfl (PySem.W.codeRec_of KX hcd) (hb _ _ _ _ ?_)
        refine wpAny_newFunctionEnv_cells S.kind hkinds fun env henv s1 x1 => ?_
        subst henv
        refine ⟨lim.keeps x1.toInCall.keep, codeAny_func ?_⟩
        have I0 : Inv (cxOf CX0 P w K mg base N qual (defScope st) f cdv A outer s H E0) [] (L2.start N vs) H s1 := inv_start S hr.hd e0 hvl rv x1
        have hB2 := hbody A outer s H (hr.deeper _) (by rw [show (A.deeper (envOfC qual (defScope st) s.heap.objs.size f cdv)).guards = A.guards from rfl]; exact hg)
        have hN : ts.length ≤ N.length := by
          have := congrArg List.length S.pre
          rw [List.length_take] at this
          omega
        have hss := hB2 _ st0 ρ (L2.start N vs) H o (slots_start rs hN) wd hB { nx := fun _ H' => Q .non H', rt := Q } (by
          cases o with
          | nx e1 s1 =>
            cases e
            exact fun σ' H' ρ' f' w' _ => q .non H' ρ' f' w' .non
          | rt t1 s1 =>
            cases e
            exact q
          | bk e1 s1 => cases e
          | ct e1 s1 => cases e)
        have hw := (PSs.nox ⟨fun pins s2 σ2 H2 D I (h : Wss (cx0 P w K mg base N qual (defScope st) f cdv A outer s H E0) (defBody st) D σ2 H2) => h pins s2 I⟩ : PSs (cxOf CX0 P w K mg base N qual (defScope st) f cdv A outer s H E0) (defBody st) _).run [] s1 (L2.start N vs) H _ I0 hss
        have done : ∀ {σ' : St} {H' : Hp} {v : V} {u : Value} {s' : Shared}, Inv (cxOf CX0 P w K mg base N qual (defScope st) f cdv A outer s H E0) [] σ' H' s' → RelV v u → Q v H' → CE outer P w H s Q u s' :=
          fun {σ' H' v u s'} J rv q => ⟨v, H', J.os, J.bare, J.base, J.hok, rv, q⟩
        refine wpAny_mono hw (fun fl s' hs => ?_) fun e s' hs => hs
        cases fl with
        | ret u => obtain ⟨v, σ', H', J, r1, q1⟩ := hs; exact done J r1 q1
        | next => obtain ⟨σ', H', J, q1⟩ := hs; exact done (v := V.non) (u := Value.none) J rfl q1
        | brk => obtain ⟨_, _, _, z⟩ := hs; exact z.elim
        | cont => obtain ⟨_, _, _, z⟩ := hs; exact z.elim
    · cases e
theorem FnT.of {x qual : Str} {st : Stmt} {f : Addr} {fd : FuncData} {N ps : List Str} {k : Nat} {Fb : XS} (F : Fun K x qual st f fd) (S : FnScope N ps (defScope st))
    (hbody : ∀ (cdv : Value) (A : Around) (outer : List Env) (s : Shared) (H : Hp), Room k (A.deeper (envOfC qual (defScope st) s.heap.objs.size f cdv)) → (A.deeper (envOfC qual (defScope st) s.heap.objs.size f cdv)).guards = some [] →
      SST (cx0 P w K mg base N qual (defScope st) f cdv A outer s H E0) (defBody st) Fb) : FnT P w K mg base (k + 1) f fd ps (fnF ps.length N.length Fb) := by
  obtain ⟨oc, od, kV, doc, pm, an, cdv, ct, osl, rfl, lk, hcd⟩ := F.ex
  exact FnT.ofL lk hcd S fun A outer s H => hbody cdv A outer s H
end
section
variable {X : Cx} {k : Nat} {f : Addr} {fd : FuncData} {ps : List Str} {F : FA} {x : Str} {p pos : Pos} {e : Expr} {es : List Expr} {fr : XA}
theorem et_call (G : FnT X.prog X.w X.K X.mg X.base k f fd ps F) (hr : Room k X.A) (hgu : X.A.guards = some []) (hm : X.mg x = some (.ref f)) (hk : PySem.W.keepIn X.K (.ref f) = true) (hb : Binds X.K fd ps []) (ha : AT X (e :: es) fr)
    (hg : Gl X x := by rfl) (hdb : (x == ("__debug__" : Str)) = false := by decide +kernel) (he : starEach (e :: es) X.env = (false, eval e X.env) :: starEach es X.env := by rfl) (hpl : (backTo pos (starEach es X.env)).any (·.1) = false := by rfl) :
    ET X (.Call (.Name x p) (e :: es) [] pos) (xCall F fr) := by
  intro env st ρ σ H t st' s w e1 Q q
  obtain ⟨ts, st1, e2, e3⟩ := many e1
  intro pins s0 I
  refine wpAny_Call_Name_kw (ld_glob I hg hm ?_ hdb)
  have hA := (Wa.pa.run pos pins s0 σ H _ I (ha env st ρ σ H ts st1 s w e2 (fun vs H1 => ∃ ρ1, Fut H H1 ρ ρ1 ∧ Wd (kx X) ρ1 st1 H1 ∧ Reps (kx X) H1 ρ1 ts vs) fun vs H1 ρ1 f1 w1 r1 => ⟨ρ1, f1, w1, r1⟩))
  refine PySem.W.callWith_K (h₀ := X.base) I.ok.mod.kin hk (thn hA fun us s1 ⟨vs, H1, I1, r, ρ1, f1, w1, r1⟩ => ⟨I1.kIn, ?_⟩) he hpl
  have hlen : (us ++ []).length = ps.length := by
    rw [List.append_nil, ← r.length, ← r1.length]; exact G.len ts st1 _ e3
  have hbb := hb s1 us I1.kIn hlen
  rw [List.append_nil] at hbb
  refine wpAny_call (codeAny_mono (G.run X.A X.stack s1 H1 ⟨us, []⟩ us vs ρ1 ts st1 t st' Q hr hgu I1.env0 hbb r w1 r1 e3 (q.up f1)) fun rr s2 hq => ?_)
  cases rr with
  | error e => exact False.elim hq
  | ok fl =>
    cases fl with
    | ret u => exact I1.after hq
    | next => exact False.elim hq
    | brk => exact False.elim hq
    | cont => exact False.elim hq
end
end TL
/-! TL6 -/
set_option Elab.async false
set_option linter.all false
set_option maxRecDepth 100000
set_option maxHeartbeats 4000000
namespace TL
variable [Tb]
open PySem PySem.Spec PyProof.Rows L2
/-! ### data as a whole: ==, in, repr -/
def optAll {α : Type} (f : T → Option α) : List T → Option (List α)
  | [] => some []
  | t :: ts => match f t, optAll f ts with
    | some d, some ds => some (d :: ds)
    | _, _ => none
def toD (st : Store) : Nat → T → Option PyData
  | _, .non => some .none
  | _, .bl b => some (.bool b)
  | _, .int i => some (.int i)
  | _, .str x => some (.str x)
  | _, .rdl ns => some (.list (ns.map .int))
  | 0, .tup _ => none
  | 0, .ptp _ => none
  | 0, .ref _ => none
  | n + 1, .tup ts => (optAll (toD st n) ts).map .tuple
  | n + 1, .ptp ts => (optAll (toD st n) ts).map .tuple
  | n + 1, .ref l => match st[l]? with
    | some (.lst ts) => (optAll (toD st n) ts).map .list
    | _ => none
section
variable {K : KX} {H : Hp} {ρ : List Addr} {st : Store}
theorem dps_ints : ∀ ns : List Int, DpAll K.K H (ns.map V.int) (ns.map PyData.int)
  | [] => .nil
  | n :: ns => .cons (.int n) (dps_ints ns)
theorem toDs_dp {f : T → Option PyData} (h : ∀ t d v, f t = some d → Rep K H ρ t v → Dp K.K H v d) : ∀ (ts : List T) (ds : List PyData) (vs : List V), optAll f ts = some ds → Reps K H ρ ts vs → DpAll K.K H vs ds
  | [], ds, vs, e, r => by
    cases r
    cases e
    exact .nil
  | t :: ts, ds, vs, e, r => by
    unfold optAll at e
    cases r with
    | cons a b =>
      split at e
      · rename_i d ds' h1 h2
        cases e
        exact .cons (h _ _ _ h1 a) (toDs_dp h ts _ _ h2 b)
      · cases e
theorem toD_dp (w : Wd K ρ st H) : ∀ (n : Nat) (t : T) (d : PyData) (v : V), toD st n t = some d → Rep K H ρ t v → Dp K.K H v d
  | 0, .non, d, v, e, r => by cases r; cases e; exact .non
  | 0, .bl b, d, v, e, r => by cases r; cases e; exact .bl b
  | 0, .int b, d, v, e, r => by cases r; cases e; exact .int b
  | 0, .str b, d, v, e, r => by cases r; cases e; exact .str b
  | 0, .rdl b, d, v, e, r => by
    cases e
    cases r with
    | rdl h => exact .lst h.sq (dps_ints _)
  | 0, .tup ts, d, v, e, r => by cases e
  | 0, .ptp ts, d, v, e, r => by cases e
  | 0, .ref l, d, v, e, r => by cases e
  | n + 1, .non, d, v, e, r => by cases r; cases e; exact .non
  | n + 1, .bl b, d, v, e, r => by cases r; cases e; exact .bl b
  | n + 1, .int b, d, v, e, r => by cases r; cases e; exact .int b
  | n + 1, .str b, d, v, e, r => by cases r; cases e; exact .str b
  | n + 1, .rdl b, d, v, e, r => by
    cases e
    cases r with
    | rdl h => exact .lst h.sq (dps_ints _)
  | n + 1, .tup ts, d, v, e, r => by
    unfold toD at e
    cases h : optAll (toD st n) ts with
    | none => rw [h] at e; cases e
    | some ds =>
      rw [h] at e
      cases e
      cases r with
      | tup a b => exact .tup a (toDs_dp (fun t d v => toD_dp w n t d v) ts ds _ h b)
  | n + 1, .ptp ts, d, v, e, r => by
    unfold toD at e
    cases h : optAll (toD st n) ts with
    | none => rw [h] at e; cases e
    | some ds =>
      rw [h] at e
      cases e
      cases r with
      | ptp a b => exact .tup a.sqT (toDs_dp (fun t d v => toD_dp w n t d v) ts ds _ h b)
  | n + 1, .ref l, d, v, e, r => by
    unfold toD at e
    split at e
    · rename_i ts hl
      cases h : optAll (toD st n) ts with
      | none => rw [h] at e; cases e
      | some ds =>
        rw [h] at e
        cases e
        cases r with
        | ref ha =>
          obtain ⟨vs, h1, h2⟩ := w.addr hl ha
          exact .lst (SqL.of h1) (toDs_dp (fun t d v => toD_dp w n t d v) ts ds _ h h2)
    · cases e
end
def dpth : Nat := 12
/-- == of any data -/
def eqdT (neg : Bool) : F2 := fun x y st => match toD st dpth x, toD st dpth y with
  | some d, some e => if SeqAt.shaped d && SeqAt.shaped e then some (.bl (if neg then !PyData.eqv d e else PyData.eqv d e), st) else none
  | _, _ => none
def eqT : F2
  | .int i, .int j, st => some (.bl (decide (i = j)), st)
  | .str x, .str y, st => some (.bl (decide (x = y)), st)
  | .bl x, .bl y, st => some (.bl (decide (x = y)), st)
  | x, y, st => eqdT false x y st
def neT : F2
  | .int i, .int j, st => some (.bl (!decide (i = j)), st)
  | .str x, .str y, st => some (.bl (!decide (x = y)), st)
  | .bl x, .bl y, st => some (.bl (!decide (x = y)), st)
  | x, y, st => eqdT true x y st
def inT (neg : Bool) : F2 := fun x y st => match toD st dpth x, toD st dpth y with
  | some d, some (.list ds) => if SeqAt.shaped d && SeqAt.shaped (.list ds) then some (.bl (if neg then !ds.any (fun z => PyData.eqv z d) else ds.any (fun z => PyData.eqv z d)), st) else none
  | _, _ => none
section
variable {X : Cx}
theorem ot_eqd (hu : X.A.units + 64 < cLine) : OpT X (compareOp .Eq) (eqdT false) := by
  intro ρ st H x y t st' vx vy w rx ry e Q q
  unfold eqdT at e
  split at e
  · rename_i d d' h1 h2
    split at e
    · rename_i hs
      cases e
      rw [Bool.and_eq_true] at hs
      exact ⟨_, op_eqD hu, d, d', toD_dp w _ _ _ _ h1 rx, toD_dp w _ _ _ _ h2 ry, hs.1, hs.2, q _ _ _ (Fut.refl _ _) w (.bl _)⟩
    · cases e
  · cases e
theorem ot_ned (hu : X.A.units + 64 < cLine) : OpT X (compareOp .NotEq) (eqdT true) := by
  intro ρ st H x y t st' vx vy w rx ry e Q q
  unfold eqdT at e
  split at e
  · rename_i d d' h1 h2
    split at e
    · rename_i hs
      cases e
      rw [Bool.and_eq_true] at hs
      exact ⟨_, op_neD hu, d, d', toD_dp w _ _ _ _ h1 rx, toD_dp w _ _ _ _ h2 ry, hs.1, hs.2, q _ _ _ (Fut.refl _ _) w (.bl _)⟩
    · cases e
  · cases e
theorem dec_i (i j : Int) : decide (V.int i = V.int j) = decide (i = j) := by simp
theorem dec_s (i j : Str) : decide (V.str i = V.str j) = decide (i = j) := by simp
theorem dec_b (i j : Bool) : decide (V.bl i = V.bl j) = decide (i = j) := by simp
theorem ot_eq (hu : X.A.units + 64 < cLine) : OpT X (compareOp .Eq) eqT := by
  intro ρ st H x y t st' vx vy w rx ry e Q q
  unfold eqT at e
  split at e
  · cases e; cases rx; cases ry
    exact ⟨_, op_eq, rfl, by rw [dec_i]; exact q _ _ _ (Fut.refl _ _) w (.bl _)⟩
  · cases e; cases rx; cases ry
    exact ⟨_, op_eq, rfl, by rw [dec_s]; exact q _ _ _ (Fut.refl _ _) w (.bl _)⟩
  · cases e; cases rx; cases ry
    exact ⟨_, op_eq, rfl, by rw [dec_b]; exact q _ _ _ (Fut.refl _ _) w (.bl _)⟩
  · exact ot_eqd hu ρ st H _ _ t st' vx vy w rx ry e Q q
theorem ot_ne (hu : X.A.units + 64 < cLine) : OpT X (compareOp .NotEq) neT := by
  intro ρ st H x y t st' vx vy w rx ry e Q q
  unfold neT at e
  split at e
  · cases e; cases rx; cases ry
    exact ⟨_, op_ne, rfl, by rw [dec_i]; exact q _ _ _ (Fut.refl _ _) w (.bl _)⟩
  · cases e; cases rx; cases ry
    exact ⟨_, op_ne, rfl, by rw [dec_s]; exact q _ _ _ (Fut.refl _ _) w (.bl _)⟩
  · cases e; cases rx; cases ry
    exact ⟨_, op_ne, rfl, by rw [dec_b]; exact q _ _ _ (Fut.refl _ _) w (.bl _)⟩
  · exact ot_ned hu ρ st H _ _ t st' vx vy w rx ry e Q q
theorem ot_in (hu : X.A.units + 65 < cLine) : OpT X (compareOp .In) (inT false) := by
  intro ρ st H x y t st' vx vy w rx ry e Q q
  unfold inT at e
  split at e
  · rename_i d ds h1 h2
    split at e
    · rename_i hs
      cases e
      rw [Bool.and_eq_true] at hs
      exact ⟨_, op_inD hu, d, ds, toD_dp w _ _ _ _ h1 rx, toD_dp w _ _ _ _ h2 ry, hs.1, hs.2, q _ _ _ (Fut.refl _ _) w (.bl _)⟩
    · cases e
  · cases e
theorem ot_notin (hu : X.A.units + 65 < cLine) : OpT X (compareOp .NotIn) (inT true) := by
  intro ρ st H x y t st' vx vy w rx ry e Q q
  unfold inT at e
  split at e
  · rename_i d ds h1 h2
    split at e
    · rename_i hs
      cases e
      rw [Bool.and_eq_true] at hs
      exact ⟨_, op_notInD hu, d, ds, toD_dp w _ _ _ _ h1 rx, toD_dp w _ _ _ _ h2 ry, hs.1, hs.2, q _ _ _ (Fut.refl _ _) w (.bl _)⟩
    · cases e
  · cases e
end
/-- repr of a list or tuple of data -/
def reprT : FA
  | [.tup ts], st => match toD st dpth (.tup ts) with
    | some d => if d.showable && !d.hasDict && decide (d.depth ≤ 60) && decide (d.shown.length ≤ sizeLine) then some (.str d.shown, st) else none
    | _ => none
  | [.ref l], st => match toD st dpth (.ref l) with
    | some d => if d.showable && !d.hasDict && decide (d.depth ≤ 60) && decide (d.shown.length ≤ sizeLine) then some (.str d.shown, st) else none
    | _ => none
  | _, _ => none
section
variable {X : Cx}
theorem cr_repr (hu : X.A.units + 64 < cLine) (hg : X.A.guards = some []) : CallR X (.builtin "repr") (fun xs H Q => ∃ (a : Addr) (d : PyData), xs = [.ref a] ∧ Dp X.K H (.ref a) d ∧ d.showable = true ∧ d.hasDict = false ∧ d.depth ≤ 60 ∧ d.shown.length ≤ sizeLine ∧ Q (.str d.shown) H) := by
  intro pins s σ H xs us Q I r h
  obtain ⟨a, d, rfl, hd, h1, h2, h3, h4, q⟩ := h
  obtain ⟨u, rfl, ru⟩ := r.one
  cases ru
  obtain ⟨as, rd⟩ := Dp.reads I d (.ref a) (.ref a) hd rfl
  exact PySem.repr_of_reads' rd h1 (fun z => by rw [h2] at z; cases z) hg (by omega) (fun _ _ e => e) (fun h' u tk hk => ⟨.str d.shown, H, I.kept hk, ⟨u, rfl⟩, q⟩) h4
theorem ct_repr (hu : X.A.units + 64 < cLine) (hg : X.A.guards = some []) : CallT X (.builtin "repr") reprT := by
  intro ρ st H ts t st' vs w rs e Q q
  unfold reprT at e
  split at e
  · split at e
    · rename_i d hd
      split at e
      · rename_i hc
        cases e
        simp only [Bool.and_eq_true, decide_eq_true_eq, Bool.not_eq_true'] at hc
        obtain ⟨⟨⟨c1, c2⟩, c3⟩, c4⟩ := hc
        cases rs with
        | cons r1 r2 =>
          cases r2
          have dp := toD_dp w _ _ _ _ hd r1
          cases r1 with
          | tup a b => exact ⟨_, cr_repr hu hg, _, d, rfl, dp, c1, c2, c3, c4, q _ _ _ (Fut.refl _ _) w (.str _)⟩
      · cases e
    · cases e
  · split at e
    · rename_i d hd
      split at e
      · rename_i hc
        cases e
        simp only [Bool.and_eq_true, decide_eq_true_eq, Bool.not_eq_true'] at hc
        obtain ⟨⟨⟨c1, c2⟩, c3⟩, c4⟩ := hc
        cases rs with
        | cons r1 r2 =>
          cases r2
          have dp := toD_dp w _ _ _ _ hd r1
          cases r1 with
          | ref a => exact ⟨_, cr_repr hu hg, _, d, rfl, dp, c1, c2, c3, c4, q _ _ _ (Fut.refl _ _) w (.str _)⟩
      · cases e
    · cases e
  · cases e
/-! ### functions that are built in -/
def absT : FA
  | [.int i], st => some (.int (if i < 0 then -i else i), st)
  | _, _ => none
def intT : FA
  | [.int i], st => some (.int i, st)
  | [.bl k], st => some (.int (if k then 1 else 0), st)
  | _, _ => none
def lenT : FA
  | [.tup ts], st => some (.int ts.length, st)
  | [.ptp ts], st => some (.int ts.length, st)
  | [.ref l], st => match st[l]? with
    | some (.lst ts) => some (.int ts.length, st)
    | _ => none
  | [.rdl ns], st => some (.int ns.length, st)
  | [.str z], st => if z.length ≤ sizeLine then some (.int z.length, st) else none
  | _, _ => none
def gcdT : FA
  | [.int a, .int b], st => some (.int ((Nat.gcd a.natAbs b.natAbs : Nat) : Int), st)
  | _, _ => none
def lcmT : FA
  | [.int a, .int b], st => if a.natAbs.log2 < 6000 ∧ b.natAbs.log2 < 6000 then some (.int ((Nat.lcm a.natAbs b.natAbs : Nat) : Int), st) else none
  | _, _ => none
def tupleT : FA
  | [.tup ts], st => some (.tup ts, st)
  | [.ref l], st => match st[l]? with
    | some (.lst ts) => some (.tup ts, st)
    | _ => none
  | _, _ => none
def listT : FA
  | [.tup ts], st => some (.ref st.length, st ++ [.lst ts])
  | [.ref l], st => match st[l]? with
    | some (.lst ts) => some (.ref st.length, st ++ [.lst ts])
    | _ => none
  | _, _ => none
def intsOf (ts : List T) : Option (List Int) := optAll (fun t => match t with
  | .int i => some i
  | _ => none) ts
def blsOf (ts : List T) : Option (List Bool) := optAll (fun t => match t with
  | .bl i => some i
  | _ => none) ts
def sumT : FA
  | [.ref l], st => match st[l]? with
    | some (.lst ts) => (intsOf ts).map fun ns => (.int ns.sum, st)
    | _ => none
  | _, _ => none
def allT : FA
  | [.ref l], st => match st[l]? with
    | some (.lst ts) => (blsOf ts).map fun ns => (.bl (ns.all id), st)
    | _ => none
  | _, _ => none
theorem optAll_reps {α : Type} {K : KX} {H : Hp} {ρ : List Addr} {f : T → Option α} {g : α → V} (h : ∀ t a v, f t = some a → Rep K H ρ t v → v = g a) : ∀ (ts : List T) (as : List α) (vs : List V), optAll f ts = some as → Reps K H ρ ts vs → vs = as.map g
  | [], as, vs, e, r => by cases r; cases e; rfl
  | t :: ts, as, vs, e, r => by
    unfold optAll at e
    cases r with
    | cons a b =>
      split at e
      · rename_i d ds' h1 h2
        cases e
        rw [List.map_cons, h _ _ _ h1 a, optAll_reps h ts _ _ h2 b]
      · cases e
theorem ints_rep {K : KX} {H : Hp} {ρ : List Addr} {ts : List T} {ns : List Int} {vs : List V} (e : intsOf ts = some ns) (r : Reps K H ρ ts vs) : vs = ns.map V.int :=
  optAll_reps (g := V.int) (fun t a v h1 h2 => by
    cases h2 <;> simp at h1
    rw [h1]) ts ns vs e r
theorem bls_rep {K : KX} {H : Hp} {ρ : List Addr} {ts : List T} {ns : List Bool} {vs : List V} (e : blsOf ts = some ns) (r : Reps K H ρ ts vs) : vs = ns.map V.bl :=
  optAll_reps (g := V.bl) (fun t a v h1 h2 => by
    cases h2 <;> simp at h1
    rw [h1]) ts ns vs e r
theorem ct_abs : CallT X (.builtin "abs") absT := by
  intro ρ st H ts t st' vs w rs e Q q
  unfold absT at e
  split at e
  · cases e
    cases rs with
    | cons r1 r2 =>
      cases r1; cases r2
      exact ⟨_, call_abs, _, rfl, q _ _ _ (Fut.refl _ _) w (.int _)⟩
  · cases e
theorem ct_int : CallT X (.type "int") intT := by
  intro ρ st H ts t st' vs w rs e Q q
  unfold intT at e
  split at e
  · cases e
    cases rs with
    | cons r1 r2 =>
      cases r1; cases r2
      exact ⟨_, call_int1, .inl ⟨_, rfl, q _ _ _ (Fut.refl _ _) w (.int _)⟩⟩
  · cases e
    cases rs with
    | cons r1 r2 =>
      cases r1; cases r2
      exact ⟨_, call_int1, .inr ⟨_, rfl, q _ _ _ (Fut.refl _ _) w (.int _)⟩⟩
  · cases e
theorem ct_len : CallT X (.builtin "len") lenT := by
  intro ρ st H ts t st' vs w rs e Q q
  unfold lenT at e
  split at e
  · cases e
    cases rs with
    | cons r1 r2 =>
      cases r2
      cases r1 with
      | tup a b => exact ⟨_, call_len_seq, _, _, rfl, .inr a, by rw [← b.length]; exact q _ _ _ (Fut.refl _ _) w (.int _)⟩
  · cases e
    cases rs with
    | cons r1 r2 =>
      cases r2
      cases r1 with
      | ptp a b => exact ⟨_, call_len_seq, _, _, rfl, .inr a.sqT, by rw [← b.length]; exact q _ _ _ (Fut.refl _ _) w (.int _)⟩
  · split at e
    · rename_i hl
      cases e
      cases rs with
      | cons r1 r2 =>
        cases r2
        obtain ⟨a, us, rfl, _, h1, r3⟩ := rep_lst w r1 hl
        exact ⟨_, call_len_seq, _, _, rfl, .inl (SqL.of h1), by rw [← r3.length]; exact q _ _ _ (Fut.refl _ _) w (.int _)⟩
    · cases e
  · cases e
    cases rs with
    | cons r1 r2 =>
      cases r2
      cases r1 with
      | rdl h => exact ⟨_, call_len_seq, _, _, rfl, .inl h.sq, by rw [List.length_map]; exact q _ _ _ (Fut.refl _ _) w (.int _)⟩
  · split at e
    · rename_i hz
      cases e
      cases rs with
      | cons r1 r2 =>
        cases r1; cases r2
        exact ⟨_, call_len_str, _, rfl, hz, q _ _ _ (Fut.refl _ _) w (.int _)⟩
    · cases e
  · cases e
theorem ct_gcd : CallT X (.builtin "math.gcd") gcdT := by
  intro ρ st H ts t st' vs w rs e Q q
  unfold gcdT at e
  split at e
  · cases e
    cases rs with
    | cons r1 r2 =>
      cases r2 with
      | cons r2 r3 =>
        cases r1; cases r2; cases r3
        exact ⟨_, cr_gcd, _, _, rfl, q _ _ _ (Fut.refl _ _) w (.int _)⟩
  · cases e
theorem cr_lcm : CallR X (.builtin "math.lcm") (fun vs H Q => ∃ a b : Int, vs = [.int a, .int b] ∧ a.natAbs.log2 < 6000 ∧ b.natAbs.log2 < 6000 ∧ Q (.int ((Nat.lcm a.natAbs b.natAbs : Nat) : Int)) H) := by
  intro pins s σ H vs us Q I r h
  obtain ⟨a, b, rfl, ha, hb, q⟩ := h
  obtain ⟨u1, u2, rfl, ⟨t, rfl⟩, ⟨u, rfl⟩⟩ := r.two
  have e1 : Nat.lcm 1 a.natAbs = a.natAbs := by simp
  have hm : (max 1 a.natAbs).log2 < 6000 := by
    rcases Nat.le_total 1 a.natAbs with h | h
    · rw [Nat.max_eq_right h]; exact ha
    · rw [Nat.max_eq_left h]; decide
  have hm2 : (max a.natAbs b.natAbs).log2 < 6000 := by
    rcases Nat.le_total a.natAbs b.natAbs with h | h
    · rw [Nat.max_eq_right h]; exact hb
    · rw [Nat.max_eq_left h]; exact ha
  have hlt : ∀ n : Nat, n.log2 < 6000 → n < 2 ^ 6000 := fun n h => Nat.lt_of_lt_of_le Nat.lt_log2_self (Nat.pow_le_pow_right (by decide) h)
  have hle : Nat.lcm a.natAbs b.natAbs ≤ a.natAbs * b.natAbs := by
    unfold Nat.lcm
    exact Nat.div_le_self _ _
  have hsz : ((((Nat.lcm 1 a.natAbs).lcm b.natAbs : Nat) : Int)).natAbs.log2 < bitsLine := by
    rw [e1, Int.natAbs_natCast]
    by_cases h0 : Nat.lcm a.natAbs b.natAbs = 0
    · rw [h0]; decide +kernel
    · have h2 : Nat.lcm a.natAbs b.natAbs < 2 ^ 12000 := by
        refine Nat.lt_of_le_of_lt hle ?_
        rw [show (12000 : Nat) = 6000 + 6000 from rfl, Nat.pow_add]
        exact Nat.mul_lt_mul'' (hlt _ ha) (hlt _ hb)
      have h3 := (Nat.log2_lt h0).mpr h2
      exact Nat.lt_trans h3 (by decide +kernel)
  refine PySem.call_function_meets PySem.W.MGF.kind_lcm PySem.W.MGF.plain_lcm PySem.W.MGF.entry_lcm (PySem.W.MGF.args_lcm _ _) (PySem.W.mg_run_lcm a t b u (by omega) (by omega) hsz).meets ?_
  rw [e1]
  exact ⟨.int _, H, I.tok _, ⟨_, rfl⟩, q⟩
theorem ct_lcm : CallT X (.builtin "math.lcm") lcmT := by
  intro ρ st H ts t st' vs w rs e Q q
  unfold lcmT at e
  split at e
  · split at e
    · rename_i hz
      cases e
      cases rs with
      | cons r1 r2 =>
        cases r2 with
        | cons r2 r3 =>
          cases r1; cases r2; cases r3
          exact ⟨_, cr_lcm, _, _, rfl, hz.1, hz.2, q _ _ _ (Fut.refl _ _) w (.int _)⟩
    · cases e
  · cases e
theorem ct_tuple : CallT X (.type "tuple") tupleT := by
  intro ρ st H ts t st' vs w rs e Q q
  unfold tupleT at e
  split at e
  · cases e
    cases rs with
    | cons r1 r2 =>
      cases r2
      cases r1 with
      | tup a b => exact ⟨_, call_tupleT, _, _, rfl, a, q _ _ _ (Fut.refl _ _) w (.tup a b)⟩
  · split at e
    · rename_i hl
      cases e
      cases rs with
      | cons r1 r2 =>
        cases r2
        obtain ⟨a, us, rfl, _, h1, r3⟩ := rep_lst w r1 hl
        exact ⟨_, call_tuple_of, _, _, rfl, .inl ⟨SqL.of h1, fun p hp => new_tup w r3 q hp⟩⟩
    · cases e
  · cases e
theorem ct_list : CallT X (.type "list") listT := by
  intro ρ st H ts t st' vs w rs e Q q
  unfold listT at e
  split at e
  · cases e
    cases rs with
    | cons r1 r2 =>
      cases r2
      cases r1 with
      | tup a b => exact ⟨_, call_list_of, _, _, rfl, .inr a, fun p hp => new_lst w b q hp⟩
  · split at e
    · rename_i hl
      cases e
      cases rs with
      | cons r1 r2 =>
        cases r2
        obtain ⟨a, us, rfl, _, h1, r3⟩ := rep_lst w r1 hl
        exact ⟨_, call_list_of, _, _, rfl, .inl (SqL.of h1), fun p hp => new_lst w r3 q hp⟩
    · cases e
  · cases e
theorem ct_sum (hc : X.calm = true) : CallT X (.builtin "sum") sumT := by
  intro ρ st H ts t st' vs w rs e Q q
  unfold sumT at e
  split at e
  · split at e
    · rename_i ts2 hl
      cases h : intsOf ts2 with
      | none => rw [h] at e; cases e
      | some ns =>
        rw [h] at e
        cases e
        cases rs with
        | cons r1 r2 =>
          cases r2
          obtain ⟨a, us, rfl, _, h1, r3⟩ := rep_lst w r1 hl
          exact ⟨_, cr_sum hc, _, ns, rfl, by rw [← ints_rep h r3]; exact SqL.of h1, q _ _ _ (Fut.refl _ _) w (.int _)⟩
    · cases e
  · cases e
theorem ct_all (hc : X.calm = true) : CallT X (.builtin "all") allT := by
  intro ρ st H ts t st' vs w rs e Q q
  unfold allT at e
  split at e
  · split at e
    · rename_i ts2 hl
      cases h : blsOf ts2 with
      | none => rw [h] at e; cases e
      | some ns =>
        rw [h] at e
        cases e
        cases rs with
        | cons r1 r2 =>
          cases r2
          obtain ⟨a, us, rfl, _, h1, r3⟩ := rep_lst w r1 hl
          exact ⟨_, cr_all hc, _, ns, rfl, by rw [← bls_rep h r3]; exact SqL.of h1, q _ _ _ (Fut.refl _ _) w (.bl _)⟩
    · cases e
  · cases e
end
/-! ### what is walked -/
def xiSeq (f : XE) : XI := fun e st => (f e st).bind fun p => match p.1 with
  | .tup ts => some (fun _ => some ts, p.2)
  | .ptp ts => some (fun _ => some ts, p.2)
  | .ref l => match p.2[l]? with
    | some (.lst _) => some (fun st => match st[l]? with
      | some (.lst ts) => some ts
      | _ => none, p.2)
    | _ => none
  | .rdl ns => some (fun _ => some (ns.map T.int), p.2)
  | _ => none
def rngs (lo : Int) (n : Nat) : List T := (List.range n).map fun i : Nat => T.int (lo + (i : Int))
def xiRange1 (f : XE) : XI := fun e st => (f e st).bind fun p => match p.1 with
  | .int j => if -(2 ^ 62) ≤ j ∧ j < 2 ^ 62 then some (fun _ => some (rngs 0 j.toNat), p.2) else none
  | _ => none
def xiRange2 (f g : XE) : XI := fun e st => (f e st).bind fun p => (g e p.2).bind fun r => match p.1, r.1 with
  | .int i, .int j => if -(2 ^ 62) ≤ i ∧ i < 2 ^ 62 ∧ -(2 ^ 62) ≤ j ∧ j < 2 ^ 62 then some (fun _ => some (rngs i (j - i).toNat), r.2) else none
  | _, _ => none
section
variable {X : Cx} {tg a b : Expr} {fa fb : XE} {p pos : Pos}
theorem it_seq (ha : ET X a fa) : IT X tg a (xiSeq fa) := by
  intro env st ρ σ H it st' s w e R q
  unfold xiSeq at e
  cases h : fa env st with
  | none => simp [h] at e
  | some pr =>
    obtain ⟨t, s1⟩ := pr
    simp only [h, Option.bind_some] at e
    cases t with
    | ptp ts =>
      cases e
      refine Wi.of (pi_tup We.pe) ?_
      refine ha env st ρ σ H _ _ s w h _ fun v H1 ρ1 f1 w1 r1 => ?_
      cases r1 with
      | ptp hx0 rx =>
        have hx := hx0.sqT (K := X.K)
        refine ⟨_, rfl, ⟨_, hx⟩, q _ H1 ρ1 f1 w1 fun H2 ρ2 st2 ts2 f2 w2 e2 i => ?_⟩
        cases e2
        have hx2 := f2.e.sqT hx
        have rx2 := rx.up f2
        refine ⟨fun hi => ?_, fun hi => ⟨_, hx2, by rw [← rx.length, hi]; exact Nat.le_refl _⟩, fun x H3 y => ?_⟩
        · obtain ⟨v, hv, _⟩ := rx2.get (List.getElem?_eq_getElem hi)
          exact ⟨_, v, hx2, hv⟩
        · obtain ⟨rfl, y⟩ := y
          refine ⟨fun _ _ z => z, fun t ht => ?_⟩
          obtain ⟨v, hv, rv⟩ := rx2.get ht
          have := y _ hx2
          rw [hv] at this
          cases this
          exact rv
    | tup ts =>
      cases e
      refine Wi.of (pi_tup We.pe) ?_
      refine ha env st ρ σ H _ _ s w h _ fun v H1 ρ1 f1 w1 r1 => ?_
      cases r1 with
      | tup hx rx =>
        refine ⟨_, rfl, ⟨_, hx⟩, q _ H1 ρ1 f1 w1 fun H2 ρ2 st2 ts2 f2 w2 e2 i => ?_⟩
        cases e2
        have hx2 := f2.e.sqT hx
        have rx2 := rx.up f2
        refine ⟨fun hi => ?_, fun hi => ⟨_, hx2, by rw [← rx.length, hi]; exact Nat.le_refl _⟩, fun x H3 y => ?_⟩
        · obtain ⟨v, hv, _⟩ := rx2.get (List.getElem?_eq_getElem hi)
          exact ⟨_, v, hx2, hv⟩
        · obtain ⟨rfl, y⟩ := y
          refine ⟨fun _ _ z => z, fun t ht => ?_⟩
          obtain ⟨v, hv, rv⟩ := rx2.get ht
          have := y _ hx2
          rw [hv] at this
          cases this
          exact rv
    | ref l =>
      cases hl : s1[l]? with
      | none => simp [hl] at e
      | some ob =>
        cases ob with
        | lst ts0 =>
          simp only [hl] at e
          cases e
          refine Wi.of (pi_list We.pe) ?_
          refine ha env st ρ σ H _ _ s w h _ fun v H1 ρ1 f1 w1 r1 => ?_
          obtain ⟨a0, vs0, rfl, ha0, h0, r0⟩ := rep_lst w1 r1 hl
          refine ⟨_, rfl, ⟨_, SqL.of h0⟩, q _ H1 ρ1 f1 w1 fun H2 ρ2 st2 ts2 f2 w2 e2 i => ?_⟩
          simp only at e2
          split at e2
          · rename_i ts3 h3
            cases e2
            obtain ⟨vs2, h4, r4⟩ := w2.addr h3 (f2.get ha0)
            refine ⟨fun hi => ?_, fun hi => ⟨_, SqL.of h4, by rw [← r4.length, hi]; exact Nat.le_refl _⟩, fun x H3 y => ?_⟩
            · obtain ⟨v, hv, _⟩ := r4.get (List.getElem?_eq_getElem hi)
              exact ⟨_, v, SqL.of h4, hv⟩
            · obtain ⟨rfl, y⟩ := y
              refine ⟨fun _ _ z => z, fun t ht => ?_⟩
              obtain ⟨v, hv, rv⟩ := r4.get ht
              have := y _ (SqL.of h4)
              rw [hv] at this
              cases this
              exact rv
          · cases e2
        | dK kvs => simp [hl] at e
        | dN kvs => simp [hl] at e
        | lkK kvs => simp [hl] at e
        | lkN kvs => simp [hl] at e
    | rdl ns =>
      cases e
      refine Wi.of (pi_list We.pe) ?_
      refine ha env st ρ σ H _ _ s w h _ fun v H1 ρ1 f1 w1 r1 => ?_
      cases r1 with
      | rdl hx =>
        refine ⟨_, rfl, ⟨_, hx.sq⟩, q _ H1 ρ1 f1 w1 fun H2 ρ2 st2 ts2 f2 w2 e2 i => ?_⟩
        cases e2
        have hx2 := (f2.e.rdl hx).sq
        have rx2 : Reps (kx X) H2 ρ2 (ns.map T.int) (ns.map V.int) := reps_ints ns
        refine ⟨fun hi => ?_, fun hi => ⟨_, hx2, by rw [← rx2.length, hi]; exact Nat.le_refl _⟩, fun x H3 y => ?_⟩
        · obtain ⟨v, hv, _⟩ := rx2.get (List.getElem?_eq_getElem hi)
          exact ⟨_, v, hx2, hv⟩
        · obtain ⟨rfl, y⟩ := y
          refine ⟨fun _ _ z => z, fun t ht => ?_⟩
          obtain ⟨v, hv, rv⟩ := rx2.get ht
          have := y _ hx2
          rw [hv] at this
          cases this
          exact rv
    | non => cases e
    | bl b => cases e
    | int i => cases e
    | str x => cases e
theorem rngs_get {lo : Int} {n i : Nat} {t : T} (h : (rngs lo n)[i]? = some t) : i < n ∧ t = .int (lo + (i : Int)) := by
  unfold rngs at h
  rw [List.getElem?_map] at h
  cases h1 : (List.range n)[i]? with
  | none => rw [h1] at h; cases h
  | some j =>
    rw [h1] at h
    cases h
    have h2 := List.getElem?_eq_some_iff.mp h1
    obtain ⟨h3, h4⟩ := h2
    simp at h3 h4
    subst h4
    exact ⟨h3, rfl⟩
theorem itOk_range {K : KX} {H : Hp} {ρ : List Addr} {lo : Int} {n : Nat} : ItOk K H ρ (fun _ => some (rngs lo n)) (Itr lo n) := by
  intro H2 ρ2 st2 ts2 f2 w2 e2 i
  cases e2
  have hl : (rngs lo n).length = n := by simp [rngs]
  refine ⟨fun hi => by rw [hl] at hi; exact hi, fun hi => by rw [hl] at hi; exact Nat.le_of_eq hi.symm, fun x H3 y => ?_⟩
  obtain ⟨rfl, rfl⟩ := y
  refine ⟨fun _ _ z => z, fun t ht => ?_⟩
  obtain ⟨_, rfl⟩ := rngs_get ht
  exact .int _
theorem it_range1 (ha : ET X a fa) (hm : X.mg "range" = none) (hg : Gl X "range" := by rfl) (hs : starEach [a] X.env = [(false, eval a X.env)] := by rfl) (hs2 : starEach [a] X.env = (false, eval a X.env) :: starEach [] X.env := by rfl) : IT X tg (.Call (.Name "range" p) [a] [] pos) (xiRange1 fa) := by
  intro env st ρ σ H it st' s w e R q
  unfold xiRange1 at e
  cases h : fa env st with
  | none => simp [h] at e
  | some pr =>
    obtain ⟨t, s1⟩ := pr
    simp only [h, Option.bind_some] at e
    split at e
    · split at e
      · rename_i hz
        cases e
        refine Wi.of (pi_range1 hg hm (pa_cons We.pe pa_nil hs2) hs) ?_
        refine ha env st ρ σ H _ _ s w h _ fun v H1 ρ1 f1 w1 r1 => ?_
        cases r1
        exact ⟨_, rfl, hz.1, hz.2, q _ H1 ρ1 f1 w1 itOk_range⟩
      · cases e
    · cases e
theorem it_range2 (ha : ET X a fa) (hb : ET X b fb) (hm : X.mg "range" = none) (hg : Gl X "range" := by rfl) (hs : starEach [a, b] X.env = [(false, eval a X.env), (false, eval b X.env)] := by rfl) (hs2 : starEach [b] X.env = [(false, eval b X.env)] := by rfl)
    (hs3 : starEach (a :: [b]) X.env = (false, eval a X.env) :: starEach [b] X.env := by rfl) (hs4 : starEach (b :: []) X.env = (false, eval b X.env) :: starEach [] X.env := by rfl) : IT X tg (.Call (.Name "range" p) [a, b] [] pos) (xiRange2 fa fb) := by
  intro env st ρ σ H it st' s w e R q
  unfold xiRange2 at e
  cases h : fa env st with
  | none => simp [h] at e
  | some pr =>
    obtain ⟨t, s1⟩ := pr
    simp only [h, Option.bind_some] at e
    cases h2 : fb env s1 with
    | none => simp [h2] at e
    | some pr2 =>
      obtain ⟨t2, s2⟩ := pr2
      simp only [h2, Option.bind_some] at e
      split at e
      · split at e
        · rename_i hz
          cases e
          refine Wi.of (pi_range2 hg hm (pa_cons We.pe (pa_cons We.pe pa_nil hs4) hs3) hs hs2) ?_
          refine ha env st ρ σ H _ _ s w h _ fun v H1 ρ1 f1 w1 r1 => ?_
          refine hb env _ ρ1 σ H1 _ _ (s.up f1) w1 h2 _ fun v2 H2 ρ2 f2 w2 r2 => ?_
          simp only at *
          subst_vars
          cases r1; cases r2
          exact ⟨_, _, rfl, hz, q _ H2 ρ2 (f1.trans f2) w2 itOk_range⟩
        · cases e
      · cases e
end
end TL
/-! TL7 -/
set_option Elab.async false
set_option linter.all false
set_option maxRecDepth 100000
set_option maxHeartbeats 4000000
namespace TL
variable [Tb]
open PySem PySem.Spec PyProof.Rows L2
/-! ### methods of lists -/
def MtU (X : Cx) (id : String) : V → List V → Hp → VK → Prop := fun x xs H Q => ∃ r, MtR X id r ∧ r x xs H Q
theorem MtU.ok {X : Cx} {id : String} : MtR X id (MtU X id) := fun pins s σ H x xs v us Q I rx rs h => let ⟨_, ho, q⟩ := h; ho pins s σ H x xs v us Q I rx rs q
abbrev FM := T → List T → Store → Option (T × Store)
/-- a method of values of a built-in type -/
def MtT (X : Cx) (Ty : String) (id : String) (f : FM) : Prop := ∀ ρ st H x ts t st' vx vs, Wd (kx X) ρ st H → Rep (kx X) H ρ x vx → Reps (kx X) H ρ ts vs → f x ts st = some (t, st') → ∀ Q, QE (kx X) H ρ t st' Q → MtU X id vx vs H Q
/-- the receiver is of the type, as the store stands ahead of the arguments -/
def isTy (Ty : String) (t : T) (st : Store) : Bool := match t with
  | .ref l => match st[l]? with
    | some (.lst _) => Ty == "list"
    | some (.dK _) => Ty == "dict"
    | _ => false
  | .str _ => Ty == "str"
  | .int _ => Ty == "int"
  | .rdl _ => Ty == "list"
  | _ => false
def xMeth (Ty : String) (f : FM) (a : XE) (r : XA) : XE := fun e st => (a e st).bind fun p => if isTy Ty p.1 p.2 then (r e p.2).bind fun q => f p.1 q.1 q.2 else none
def xMeth0 (Ty : String) (f : FM) (a : XE) : XE := fun e st => (a e st).bind fun p => if isTy Ty p.1 p.2 then f p.1 [] p.2 else none
def appendT : FM
  | .ref l, [x], st => match st[l]? with
    | some (.lst ts) => if ts.length < sizeLine then some (.non, st.set l (.lst (ts ++ [x]))) else none
    | _ => none
  | _, _, _ => none
def extendT : FM
  | .ref l, [.ref m], st => match st[l]?, st[m]? with
    | some (.lst ts), some (.lst us) => if ts.length + us.length ≤ sizeLine then some (.non, st.set l (.lst (ts ++ us))) else none
    | _, _ => none
  | _, _, _ => none
def insertT : FM
  | .ref l, [.int i, x], st => match st[l]? with
    | some (.lst ts) => if ts.length < sizeLine ∧ 0 ≤ i ∧ i < 2 ^ 63 then some (.non, st.set l (.lst (ts.take i.toNat ++ [x] ++ ts.drop i.toNat))) else none
    | _ => none
  | _, _, _ => none
section
variable {X : Cx} {o e : Expr} {es : List Expr} {fa : XE} {fr : XA} {name : Str} {apos cpos : Pos} {Ty id : String} {f : FM}
theorem isTy_ok {ρ : List Addr} {st : Store} {H : Hp} {t : T} {v : V} (w : Wd (kx X) ρ st H) (r : Rep (kx X) H ρ t v) (h : isTy Ty t st = true) : tyV X.K Ty v H := by
  unfold isTy at h
  split at h
  · split at h
    · rename_i hl
      obtain ⟨a, vs, rfl, _, h1, _⟩ := rep_lst w r hl
      exact .inl ⟨eq_of_beq h, _, SqL.of h1⟩
    · rename_i hl
      cases r with
      | ref ha =>
        obtain ⟨kws, h1, _⟩ := w.addr hl ha
        exact .inr (.inr (.inl ⟨eq_of_beq h, .inl ⟨_, h1⟩⟩))
    · cases h
  · cases r; exact eq_of_beq h
  · cases r; exact eq_of_beq h
  · cases r with
    | rdl hx => exact .inl ⟨eq_of_beq h, _, hx.sq⟩
  · cases h
theorem et_meth (pa : PlainAttrs Ty) (slot : Slot Ty name id) (hty : typeOf (.builtin id) = pure (.type "method_descriptor")) (hm : MtT X Ty id f) (ho : ET X o fa) (ha : AT X (e :: es) fr)
    (hbase : attributeBase o name X.env (eval o X.env) = eval o X.env := by rfl)
    (hfew : ((backTo cpos (starEach (e :: es) X.env)).all (fun x => !x.1) && (backToKw cpos (keywordEach [] X.env)).all (fun x => x.1.isSome)
      && decide ((e :: es).length + ([] : List Keyword).length + (if ([] : List Keyword).isEmpty then 0 else 1) < 30)) = true := by rfl)
    (hline : (apos.endLine == cpos.line) = true := by rfl) (hs : starEach (e :: es) X.env = (false, eval e X.env) :: starEach es X.env := by rfl) (hplain : (backTo cpos (starEach es X.env)).any (·.1) = false := by rfl) :
    ET X (.Call (.Attribute o name apos) (e :: es) [] cpos) (xMeth Ty f fa fr) := by
  intro env st ρ σ H t st' s w e1 Q q
  unfold xMeth at e1
  cases h : fa env st with
  | none => simp [h] at e1
  | some p =>
    obtain ⟨x, s1⟩ := p
    simp only [h, Option.bind_some] at e1
    split at e1
    · rename_i hi
      cases h2 : fr env s1 with
      | none => simp [h2] at e1
      | some p =>
        obtain ⟨ts, s2⟩ := p
        simp only [h2, Option.bind_some] at e1
        refine We.of (pe_bm pa slot hty MtU.ok We.pe Wa.pa hbase hfew hline hs hplain) ?_
        refine ho env st ρ σ H x s1 s w h _ fun v H1 ρ1 f1 w1 r1 => ⟨isTy_ok w1 r1 hi, ?_⟩
        refine ha env s1 ρ1 σ H1 ts s2 (s.up f1) w1 h2 _ fun vs H2 ρ2 f2 w2 r2 => ?_
        exact hm ρ2 s2 H2 x ts t st' v vs w2 (r1.up f2) r2 e1 Q (q.up (f1.trans f2))
    · cases e1
theorem et_meth0 (pa : PlainAttrs Ty) (slot : Slot Ty name id) (hty : typeOf (.builtin id) = pure (.type "method_descriptor")) (hm : MtT X Ty id f) (ho : ET X o fa)
    (hbase : attributeBase o name X.env (eval o X.env) = eval o X.env := by rfl) (hline : (apos.endLine == cpos.line) = true := by rfl) : ET X (.Call (.Attribute o name apos) [] [] cpos) (xMeth0 Ty f fa) := by
  intro env st ρ σ H t st' s w e1 Q q
  unfold xMeth0 at e1
  cases h : fa env st with
  | none => simp [h] at e1
  | some p =>
    obtain ⟨x, s1⟩ := p
    simp only [h, Option.bind_some] at e1
    split at e1
    · rename_i hi
      refine We.of (pe_bm0 pa slot hty MtU.ok We.pe hbase hline) ?_
      refine ho env st ρ σ H x s1 s w h _ fun v H1 ρ1 f1 w1 r1 => ⟨isTy_ok w1 r1 hi, ?_⟩
      exact hm ρ1 s1 H1 x [] t st' v [] w1 r1 .nil e1 Q (q.up f1)
    · cases e1
theorem put_lst {ρ : List Addr} {st : Store} {H : Hp} {l : Nat} {a : Addr} {ts : List T} {vs : List V} {t : T} {v : V} {Q : VK} {us : List T} (w : Wd (kx X) ρ st H) (hl : st[l]? = some (.lst us)) (ha : ρ[l]? = some a) (r : Reps (kx X) H ρ ts vs) (rv : Rep (kx X) H ρ t v) (q : QE (kx X) H ρ t (st.set l (.lst ts)) Q) : Q v (upd H a (.lst vs)) := by
  obtain ⟨u0, h0, i0⟩ := w.there hl ha
  have f0 : Fut H (upd H a (.lst vs)) ρ ρ := ⟨Ext.mut h0 i0, [], by simp⟩
  obtain ⟨w1, f⟩ := w.put (o := .lst ts) h0 i0 ha ⟨vs, upd_same, r.up f0⟩
  exact q _ _ _ f w1 (rv.up f)
theorem mm_append : MtT X "list" "list.append" appendT := by
  intro ρ st H x ts t st' vx vs w rx rs e Q q
  unfold appendT at e
  split at e
  · split at e
    · rename_i hl
      split at e
      · rename_i hz
        cases e
        obtain ⟨a, us, rfl, ha, h1, r1⟩ := rep_lst w rx hl
        cases rs with
        | cons r2 r3 =>
          cases r3
          exact ⟨_, mt_append, _, _, _, rfl, rfl, h1, by rw [← r1.length]; exact hz, put_lst w hl ha (r1.app (.cons r2 .nil)) .non q⟩
      · cases e
    · cases e
  · cases e
theorem mm_extend : MtT X "list" "list.extend" extendT := by
  intro ρ st H x ts t st' vx vs w rx rs e Q q
  unfold extendT at e
  split at e
  · split at e
    · rename_i hl hm
      split at e
      · rename_i hz
        cases e
        obtain ⟨a, us, rfl, ha, h1, r1⟩ := rep_lst w rx hl
        cases rs with
        | cons r2 r3 =>
          cases r3
          obtain ⟨b, ws, rfl, hb, h2, r4⟩ := rep_lst w r2 hm
          exact ⟨_, mt_extend, _, _, _, _, rfl, rfl, h1, h2, by rw [← r1.length, ← r4.length]; exact hz, put_lst w hl ha (r1.app r4) .non q⟩
      · cases e
    · cases e
  · cases e
theorem mm_insert : MtT X "list" "list.insert" insertT := by
  intro ρ st H x ts t st' vx vs w rx rs e Q q
  unfold insertT at e
  split at e
  · split at e
    · rename_i hl
      split at e
      · rename_i hz
        cases e
        obtain ⟨a, us, rfl, ha, h1, r1⟩ := rep_lst w rx hl
        cases rs with
        | cons r2 r3 =>
          cases r2
          cases r3 with
          | cons r4 r5 =>
            cases r5
            exact ⟨_, mt_insert, _, _, _, _, rfl, rfl, h1, by rw [← r1.length]; exact hz.1, hz.2.1, hz.2.2, put_lst w hl ha (((r1.take _).app (.cons r4 .nil)).app (r1.drop _)) .non q⟩
      · cases e
    · cases e
  · cases e
end
/-! ### stores to items -/
/-- o[i] = v -/
def setIxT (o i v : T) (st : Store) : Option Store := match o, i with
  | .ref l, .int k => match st[l]? with
    | some (.lst ts) => (ixN ts.length k).map fun j => st.set l (.lst (ts.set j v))
    | _ => none
  | _, _ => none
def xgSub (o i : XE) : XG := fun t e st => (o e st).bind fun p => (i e p.2).bind fun q => (setIxT p.1 q.1 t q.2).map fun s => (e, s)
def getL (o i : T) (st : Store) : Option T := match o, i with
  | .ref l, .int k => match st[l]? with
    | some (.lst ts) => atI ts k
    | _ => none
  | _, _ => none
theorem getL_inv {o i : T} {st : Store} {x : T} (e : getL o i st = some x) : ∃ l k ts, o = .ref l ∧ i = .int k ∧ st[l]? = some (.lst ts) ∧ atI ts k = some x := by
  unfold getL at e
  split at e
  · split at e
    · rename_i h
      exact ⟨_, _, _, rfl, rfl, h, e⟩
    · cases e
  · cases e
def xsAugS (o i : XE) (f2 : F2) (f : XE) : XS := fun e st => (o e st).bind fun p => (i e p.2).bind fun q => (getL p.1 q.1 q.2).bind fun x => (f e q.2).bind fun y => (f2 x y.1 y.2).bind fun z => (setIxT p.1 q.1 z.1 z.2).map fun s => .nx e s
def SetU (X : Cx) : TSet := fun o i v H Q => ∃ r : TSet, PSet X r ∧ r o i v H Q
theorem SetU.ok {X : Cx} : PSet X (SetU X) := fun pins s σ H o i v ov iv u Q I r1 r2 r3 h => let ⟨_, ho, q⟩ := h; ho pins s σ H o i v ov iv u Q I r1 r2 r3 q
section
variable {X : Cx} {o i e : Expr} {fo fi f : XE} {pos tpos : Pos}
theorem set_ok {ρ : List Addr} {st st' : Store} {H : Hp} {o i v : T} {vo vi vv : V} (w : Wd (kx X) ρ st H) (ro : Rep (kx X) H ρ o vo) (ri : Rep (kx X) H ρ i vi) (rv : Rep (kx X) H ρ v vv) (e : setIxT o i v st = some st') (Q : Hp → Prop) (q : ∀ H', Fut H H' ρ ρ → Wd (kx X) ρ st' H' → Q H') : SetU X vo vi vv H Q := by
  unfold setIxT at e
  split at e
  · split at e
    · rename_i ts hl
      cases hj : ixN ts.length _ with
      | none => rw [hj] at e; cases e
      | some j =>
        rw [hj] at e
        cases e
        cases ri
        obtain ⟨a, us, rfl, ha, h1, r1⟩ := rep_lst w ro hl
        obtain ⟨u0, h0, i0⟩ := w.there hl ha
        have f0 : Fut H (upd H a (.lst (us.set j vv))) ρ ρ := ⟨Ext.mut h0 i0, [], by simp⟩
        obtain ⟨w1, f⟩ := w.put (o := .lst (ts.set j v)) h0 i0 ha ⟨us.set j vv, upd_same, (r1.set j rv).up f0⟩
        exact ⟨_, set_list, _, _, _, j, rfl, rfl, h1, by rw [← r1.length]; exact hj, q _ f w1⟩
    · cases e
  · cases e
theorem gt_sub (ho : ET X o fo) (hi : ET X i fi)
    (ha : ∀ v, assign (.Subscript o i pos) X.env v = (do
      let ov ← holding [v] (eval o X.env)
      let iv ← holding [v, ov] (eval i X.env)
      standAt pos
      holding [v, ov, iv] (setItem ov iv v)
      release [v, ov, iv] []) := by intro _; rfl) : GT X (.Subscript o i pos) [] (xgSub fo fi) := by
  intro env st ρ σ H t v e' st' s w rt e Q q
  unfold xgSub at e
  cases h1 : fo env st with
  | none => simp [h1] at e
  | some p =>
    obtain ⟨to, s1⟩ := p
    simp only [h1, Option.bind_some] at e
    cases h2 : fi env s1 with
    | none => simp [h2] at e
    | some p =>
      obtain ⟨ti, s2⟩ := p
      simp only [h2, Option.bind_some] at e
      cases h3 : setIxT to ti t s2 with
      | none => simp [h3] at e
      | some s3 =>
        simp only [h3, Option.map_some] at e
        cases e
        refine Wg.of (pg_sub We.pe We.pe SetU.ok ha) ?_
        refine ho env st ρ σ H to s1 s w h1 _ fun vo H1 ρ1 f1 w1 r1 => ?_
        refine hi env s1 ρ1 σ H1 ti s2 (s.up f1) w1 h2 _ fun vi H2 ρ2 f2 w2 r2 => ?_
        refine set_ok w2 (r1.up f2) r2 (rt.up (f1.trans f2)) h3 _ fun H3 f3 w3 => ?_
        exact q σ H3 ρ2 ((f1.trans f2).trans f3) w3 (s.up ((f1.trans f2).trans f3)) (Away.refl _ _)
theorem pget_list : PGet X (rIxL X.K) := by
  intro pins s σ H x y v u Q I rx ry h
  obtain ⟨p, xs, i, z, rfl, rfl, hq, he, q⟩ := h
  cases rx
  obtain ⟨t, rfl⟩ := ry
  obtain ⟨its, r, pl, hz⟩ := I.list hq
  obtain ⟨j, h1, h2, h3, h4, h5⟩ := atI_get he
  obtain ⟨w, ew, rw'⟩ := r.get h2
  have hl := r.length
  have hn := line63
  have done : EP X pins σ Q w s := ⟨z, H, I, rw', q⟩
  by_cases h0 : 0 ≤ i
  · have hj : i.toNat = j := by
      rw [seqIndex_of h0 h5] at h1
      exact Option.some.inj h1
    exact wpAny_getItem_list pl.isList h0 (by omega) (by rw [hj]; simpa using ew) done
  · have hj : (i + (its.toArray.size : Int)).toNat = j := by
      rw [seqIndex_neg (by omega) h4] at h1
      rw [List.size_toArray, ← hl]
      exact Option.some.inj h1
    exact wpAny_getItem_list_neg pl.isList (by omega) (by rw [List.size_toArray] <;> omega) (by omega) (by rw [hj]; simpa using ew) done
theorem st_augS {op : Operator} {f2 : F2} (ho : ET X o fo) (hi : ET X i fi) (he : ET X e f) (h2 : OpT X (inplaceOp op) f2)
    (ha : ∀ ov iv new, augStore i ov iv new = (do holding [new, ov, iv] (setItem ov iv new); release [new, ov, iv] []; pure .next) := by intros; rfl) : ST X (.AugAssign (.Subscript o i tpos) op e pos) (xsAugS fo fi f2 f) := by
  intro env st ρ σ H out s w e1 D q
  unfold xsAugS at e1
  cases h1 : fo env st with
  | none => simp [h1] at e1
  | some p =>
    obtain ⟨to, s1⟩ := p
    simp only [h1, Option.bind_some] at e1
    cases h3 : fi env s1 with
    | none => simp [h3] at e1
    | some p =>
      obtain ⟨ti, s2⟩ := p
      simp only [h3, Option.bind_some] at e1
      cases h4 : getL to ti s2 with
      | none => simp [h4] at e1
      | some x =>
        simp only [h4, Option.bind_some] at e1
        obtain ⟨l, k, ts, rfl, rfl, hts, hx⟩ := getL_inv h4
        cases h5 : f env s2 with
        | none => simp [h5] at e1
        | some p =>
          obtain ⟨y, s5⟩ := p
          simp only [h5, Option.bind_some] at e1
          cases h6 : f2 x y s5 with
          | none => simp [h6] at e1
          | some p =>
            obtain ⟨z, s6⟩ := p
            simp only [h6, Option.bind_some] at e1
            cases h7 : setIxT (.ref l) (.int k) z s6 with
            | none => simp [h7] at e1
            | some s7 =>
              simp only [h7, Option.map_some] at e1
              cases e1
              refine Ws.of (ps_augS (tip := OpU X (inplaceOp op)) We.pe We.pe pget_list We.pe (fun pins s σ H x y v u Q I rx ry h => OpU.ok pins s σ H x y v u Q I rx ry h) SetU.ok ha) ?_
              refine ho env st ρ σ H _ s1 s w h1 _ fun vo H1 ρ1 f1 w1 r1 => ?_
              refine hi env s1 ρ1 σ H1 _ s2 (s.up f1) w1 h3 _ fun vi H2 ρ2 f2' w2 r2 => ?_
              obtain ⟨a, us, rfl, ha2, hh, r3⟩ := rep_lst w2 (r1.up f2') hts
              obtain ⟨v, hv, rv⟩ := atI_rep r3 hx
              cases r2
              refine ⟨_, _, _, v, rfl, rfl, SqL.of hh, hv, ?_⟩
              refine he env s2 ρ2 σ H2 y s5 (s.up (f1.trans f2')) w2 h5 _ fun vy H5 ρ5 f5 w5 r5 => ?_
              refine h2 ρ5 s5 H5 x y z s6 v vy w5 (rv.up f5) r5 h6 _ fun vz H6 ρ6 f6 w6 r6 => ?_
              have f26 := f5.trans f6
              refine set_ok w6 (r1.up (f2'.trans f26)) (.int _) r6 h7 _ fun H7 f7 w7 => ?_
              have fall := ((f1.trans f2').trans f26).trans f7
              exact q σ H7 ρ6 fall w7 (s.up fall)
end
def iaddT : F2
  | .int i, .int j, st => some (.int (i + j), st)
  | _, _, _ => none
theorem ot_iadd {X : Cx} : OpT X (inplaceOp .Add) iaddT := by
  intro ρ st H x y t st' vx vy w rx ry e Q q
  unfold iaddT at e
  split at e
  · cases e
    exact ot_int0 iop_add (gt := fun i j => .int (i + j)) (fun i j _ _ _ => .int _) w rx ry q
  · cases e
end TL
/-! TL8 -/
set_option Elab.async false
set_option linter.all false
set_option maxRecDepth 100000
set_option maxHeartbeats 4000000
namespace TL
variable [Tb]
open PySem PySem.Spec PyProof.Rows L2
/-! ### list comprehensions -/
def wipeE (e : Env1) : List Nat → Env1
  | [] => e
  | v :: vs => (wipeE e vs).set v none
theorem wipe_in {σ : St} {i : Nat} : ∀ {vs : List Nat}, i ∈ vs → i < σ.length → (wipe σ vs)[i]? = some none
  | v :: vs, h, hl => by
    show ((wipe σ vs).set v none)[i]? = some none
    by_cases e : v = i
    · subst e
      rw [List.getElem?_set_self (by rw [wipe_length]; exact hl)]
    · rw [List.getElem?_set_ne e]
      rcases List.mem_cons.mp h with z | z
      · exact absurd z.symm e
      · exact wipe_in z hl
theorem wipe_not {σ : St} {i : Nat} : ∀ {vs : List Nat}, i ∉ vs → (wipe σ vs)[i]? = σ[i]?
  | [], _ => rfl
  | v :: vs, h => by
    show ((wipe σ vs).set v none)[i]? = _
    rw [List.getElem?_set_ne (fun z => h (by simp [z]))]
    exact wipe_not fun z => h (List.mem_cons_of_mem _ z)
theorem wipeE_length (e : Env1) : ∀ vs : List Nat, (wipeE e vs).length = e.length
  | [] => rfl
  | v :: vs => by
    show ((wipeE e vs).set v none).length = _
    rw [List.length_set, wipeE_length e vs]
theorem wipeE_some {e : Env1} {i : Nat} {t : T} : ∀ {vs : List Nat}, (wipeE e vs)[i]? = some (some t) → e[i]? = some (some t) ∧ i ∉ vs
  | [], h => ⟨h, by simp⟩
  | v :: vs, h => by
    have h : ((wipeE e vs).set v none)[i]? = some (some t) := h
    by_cases z : v = i
    · subst z
      rw [List.getElem?_set] at h
      simp at h
    · rw [List.getElem?_set_ne z] at h
      obtain ⟨h1, h2⟩ := wipeE_some h
      refine ⟨h1, fun hm => ?_⟩
      rcases List.mem_cons.mp hm with q | q
      · exact z q.symm
      · exact h2 q
theorem wipe_away {vs : List Nat} {σ σ2 : St} (a : Away vs (wipe σ vs) σ2) : wipe σ2 vs = wipe σ vs := by
  have hl : σ2.length = σ.length := a.1.trans (wipe_length σ vs)
  refine List.ext_getElem? fun i => ?_
  by_cases h : i ∈ vs
  · by_cases hi : i < σ.length
    · rw [wipe_in h hi, wipe_in h (by rw [hl]; exact hi)]
    · rw [List.getElem?_eq_none (by rw [wipe_length]; omega), List.getElem?_eq_none (by rw [wipe_length]; omega)]
  · rw [wipe_not h, a.2 i h]
theorem slots_wipe {K : KX} {H : Hp} {ρ : List Addr} {e : Env1} {σ : St} (s : Slots K H ρ e σ) (vs : List Nat) : Slots K H ρ (wipeE e vs) (wipe σ vs) := by
  refine ⟨by rw [wipe_length, wipeE_length]; exact s.1, fun i t h => ?_⟩
  obtain ⟨h1, h2⟩ := wipeE_some h
  obtain ⟨v, hv, r⟩ := s.2 i t h1
  exact ⟨v, by rw [wipe_not h2]; exact hv, r⟩
def lcL (it : Its1) (g : XG) (tt : XT) (te : XE) (l : Nat) : Nat → Nat → Env1 → Store → Option Store
  | 0, _, _, _ => none
  | n + 1, i, e, st => (it st).bind fun ts => match ts[i]? with
    | none => if i = ts.length then some st else none
    | some x => (g x e st).bind fun p => (tt p.1 p.2).bind fun b => if b.1 then (te p.1 b.2).bind fun y => match y.2[l]? with
        | some (.lst acc) => if acc.length < sizeLine then lcL it g tt te l n (i + 1) e (y.2.set l (.lst (acc ++ [y.1]))) else none
        | _ => none
      else lcL it g tt te l n (i + 1) e b.2
def xLc (fi : XI) (g : XG) (vs : List Nat) (tt : XT) (te : XE) : XE := fun e st => (fi e st).bind fun p => (p.1 (p.2 ++ [.lst []])).bind fun ts =>
  (lcL p.1 g tt te p.2.length (ts.length + 1) 0 (wipeE e vs) (p.2 ++ [.lst []])).map fun s => (.ref p.2.length, s)
def xYes : XT := fun _ st => some (true, st)
def Wts (X : Cx) (ifs : List Expr) : L2.TT := fun σ H Q => ∀ pins s, Inv X pins σ H s →
  wpAny (model X.prog X.w) X.A (forIn ifs true fun c r => if r = true then do let ok ← isTrue c X.env (eval c X.env); pure (ForInStep.yield ok) else pure (ForInStep.yield r)) (TP X pins σ Q) X.xe s
theorem Wts.of {X : Cx} {e : List Expr} {t : L2.TT} (h : PTs X e t) {σ : St} {H : Hp} {Q : Bool → Hp → Prop} (q : t σ H Q) : Wts X e σ H Q := fun pins s I => h.run pins s σ H Q I q
def PTT (X : Cx) (ifs : List Expr) (f : XT) : Prop := ∀ env st ρ σ H b st', Slots (kx X) H ρ env σ → Wd (kx X) ρ st H → f env st = some (b, st') → ∀ Q, QB (kx X) H ρ b st' Q → Wts X ifs σ H Q
theorem pt_nil {X : Cx} : PTT X [] xYes := by
  intro env st ρ σ H b st' s w e Q q
  cases e
  exact Wts.of pts_nil (show Q true H from q H ρ (Fut.refl _ _) w)
theorem pt_one {X : Cx} {c : Expr} {f : XT} (h : TT1 X c f) : PTT X [c] f := fun env st ρ σ H b st' s w e Q q => Wts.of (pts_one Wt.pt) (h env st ρ σ H b st' s w e Q q)
/-- a block of X -/
abbrev blkX (X : Cx) (scope : Scope) (s : Shared) (H : Hp) (C : Addr) (cl : List (Str × Addr)) (fp : List Addr) : Cx := X.blk s H scope (compEnvC scope cl C X.env) fp
def gU (X : Cx) (scope : Scope) (tg : Expr) : TG := fun v σ H Q => ∀ s H0 C cl fp, Wg (blkX X scope s H0 C cl fp) tg v σ H Q
def tU (X : Cx) (scope : Scope) (ifs : List Expr) : L2.TT := fun σ H Q => ∀ s H0 C cl fp, Wts (blkX X scope s H0 C cl fp) ifs σ H Q
def eU (X : Cx) (scope : Scope) (e : Expr) : TE := fun σ H Q => ∀ s H0 C cl fp, We (blkX X scope s H0 C cl fp) e σ H Q
section
variable {X : Cx} {elt tg iter : Expr} {ifs : List Expr} {scope : Scope} {own : List (Str × Nat)} {pos : Pos} {fi : XI} {g : XG} {tt : XT} {te : XE} {vs : List Nat}
theorem gU.pg {s H C cl fp} : PG (X.blk s H scope (compEnvC scope cl C X.env) fp) tg (gU X scope tg) := ⟨fun pins s1 σ H v u Q I r h => h _ _ _ _ _ pins s1 u I r⟩
theorem tU.pt {s H C cl fp} : PTs (X.blk s H scope (compEnvC scope cl C X.env) fp) ifs (tU X scope ifs) := ⟨fun pins s1 σ H Q I h => h _ _ _ _ _ pins s1 I⟩
theorem eU.pe {s H C cl fp} : PE (X.blk s H scope (compEnvC scope cl C X.env) fp) elt (eU X scope elt) := ⟨fun pins s1 σ H Q I h => h _ _ _ _ _ pins s1 I⟩
theorem lc_ok (hi : IT X tg iter fi) (hg : ∀ s H C cl fp, GT (blkX X scope s H C cl fp) tg vs g) (ht : ∀ s H C cl fp, PTT (blkX X scope s H C cl fp) ifs tt) (he : ∀ s H C cl fp, ET (blkX X scope s H C cl fp) elt te)
    {env : Env1} {st : Store} {ρ : List Addr} {σ : St} {H : Hp} {t : T} {st' : Store} (s : Slots (kx X) H ρ env σ) (w : Wd (kx X) ρ st H) (e : xLc fi g vs tt te env st = some (t, st')) {Q : VK} (q : QE (kx X) H ρ t st' Q) :
    tLc (Wi X tg iter) (gU X scope tg) (tU X scope ifs) (eU X scope elt) vs σ H Q := by
  unfold xLc at e
  cases h : fi env st with
  | none => simp [h] at e
  | some p =>
    obtain ⟨it, s1⟩ := p
    simp only [h, Option.bind_some] at e
    cases h1 : it (s1 ++ [.lst []]) with
    | none => simp [h1] at e
    | some ts0 =>
      simp only [h1, Option.bind_some] at e
      cases h2 : lcL it g tt te s1.length (ts0.length + 1) 0 (wipeE env vs) (s1 ++ [.lst []]) with
      | none => simp [h2] at e
      | some sE =>
        simp only [h2, Option.map_some] at e
        cases e
        refine hi env st ρ σ H it s1 s w h _ fun J H1 ρ1 f1 w1 ok => ?_
        intro D hD
        have f00 : Fut H1 (upd H1 D (.lst [])) ρ1 (ρ1 ++ [D]) := ⟨Ext.new hD, [D], rfl⟩
        obtain ⟨w2, f2⟩ := w1.push (o := .lst []) hD ⟨[], upd_same, .nil⟩
        have hDl : (ρ1 ++ [D])[s1.length]? = some D := by rw [← w1.len, List.getElem?_append_right (Nat.le_refl _)]; simp
        refine ⟨fun i m H3 => ∃ st3 ρ3, Fut (upd H1 D (.lst [])) H3 (ρ1 ++ [D]) ρ3 ∧ Wd (kx X) ρ3 st3 H3 ∧ lcL it g tt te s1.length m i (wipeE env vs) st3 = some st' ∧ QE (kx X) H3 ρ3 (.ref s1.length) st' Q,
          ⟨ts0.length + 1, s1 ++ [.lst []], ρ1 ++ [D], Fut.refl _ _, w2, h2, q.up (f1.trans f2)⟩, ?_⟩
        rintro i m H3 ⟨st3, ρ3, f3, w3, e3, q3⟩
        cases m with
        | zero => cases e3
        | succ m =>
          unfold lcL at e3
          cases h4 : it st3 with
          | none => simp [h4] at e3
          | some ts =>
            simp only [h4, Option.bind_some] at e3
            obtain ⟨k1, k2, k3⟩ := ok H3 ρ3 st3 ts (f2.trans f3) w3 h4 i
            cases h5 : ts[i]? with
            | none =>
              simp only [h5] at e3
              split at e3
              · rename_i hl
                cases e3
                exact .inl ⟨k2 hl, q3 _ H3 ρ3 (Fut.refl _ _) w3 (.ref (f3.get hDl))⟩
              · cases e3
            | some x =>
              simp only [h5] at e3
              have hlt := (List.getElem?_eq_some_iff.mp h5).1
              refine .inr ⟨k1 hlt, fun H4 => ∃ st3 ρ3, Fut (upd H1 D (.lst [])) H4 (ρ1 ++ [D]) ρ3 ∧ Wd (kx X) ρ3 st3 H4 ∧ lcL it g tt te s1.length m (i + 1) (wipeE env vs) st3 = some st' ∧ QE (kx X) H4 ρ3 (.ref s1.length) st' Q, fun H4 z => ⟨m, Nat.lt_succ_self _, z⟩, fun y H4 hy => ?_⟩
              obtain ⟨gr, ry⟩ := k3 y H4 hy
              have f4 : Fut H3 H4 ρ3 ρ3 := fut_grow gr
              have sl : Slots (kx X) H4 ρ3 (wipeE env vs) (wipe σ vs) := slots_wipe (s.up (((f1.trans f2).trans f3).trans f4)) vs
              cases h6 : g x (wipeE env vs) st3 with
              | none => simp [h6] at e3
              | some p =>
                obtain ⟨e6, s6⟩ := p
                simp only [h6, Option.bind_some] at e3
                intro sB HB CB clB fpB
                refine hg sB HB CB clB fpB (wipeE env vs) st3 ρ3 (wipe σ vs) H4 x y e6 s6 sl (w3.grow gr) (ry x h5) h6 _ fun σ6 H6 ρ6 f6 w6 sl6 a6 => ⟨wipe_away a6, ?_⟩
                cases h7 : tt e6 s6 with
                | none => simp [h7] at e3
                | some p =>
                  obtain ⟨b, s7⟩ := p
                  simp only [h7, Option.bind_some] at e3
                  intro sB HB CB clB fpB
                  refine ht sB HB CB clB fpB e6 s6 ρ6 σ6 H6 b s7 sl6 w6 h7 _ fun H7 ρ7 f7 w7 => ?_
                  have f37 := (f4.trans f6).trans f7
                  cases b with
                  | false =>
                    rw [if_neg Bool.false_ne_true]
                    rw [if_neg Bool.false_ne_true] at e3
                    exact ⟨s7, ρ7, f3.trans f37, w7, e3, q3.up f37⟩
                  | true =>
                    rw [if_pos rfl]
                    rw [if_pos rfl] at e3
                    cases h8 : te e6 s7 with
                    | none => simp [h8] at e3
                    | some p =>
                      obtain ⟨z, s8⟩ := p
                      simp only [h8, Option.bind_some] at e3
                      split at e3
                      · rename_i acc hacc
                        split at e3
                        · rename_i hz
                          intro sB HB CB clB fpB
                          refine he sB HB CB clB fpB e6 s7 ρ7 σ6 H7 z s8 (sl6.up f7) w7 h8 _ fun vz H8 ρ8 f8 w8 r8 => ?_
                          have f38 := f37.trans f8
                          have hD8 := (f3.trans f38).get hDl
                          obtain ⟨us, hu, ru⟩ := w8.addr hacc hD8
                          obtain ⟨u0, h0, i0⟩ := w8.there hacc hD8
                          have f9 : Fut H8 (upd H8 D (.lst (us ++ [vz]))) ρ8 ρ8 := ⟨Ext.mut h0 i0, [], by simp⟩
                          obtain ⟨w9, _⟩ := w8.put (o := .lst (acc ++ [z])) h0 i0 hD8 ⟨us ++ [vz], upd_same, (ru.app (.cons r8 .nil)).up f9⟩
                          exact ⟨us, hu, by rw [← ru.length]; exact hz, _, ρ8, (f3.trans f38).trans f9, w9, e3, q3.up (f38.trans f9)⟩
                        · cases e3
                      · cases e3
theorem et_lc (hc : X.calm = true) (hN : X.N.Nodup) (ok : BlkOk X.N X.env.scope scope own) (hi : IT X tg iter fi) (hg : ∀ s H C cl fp, GT (blkX X scope s H C cl fp) tg (own.map (·.2)) g)
    (ht : ∀ s H C cl fp, PTT (blkX X scope s H C cl fp) ifs tt) (he : ∀ s H C cl fp, ET (blkX X scope s H C cl fp) elt te) (hs : ∀ x, foldedSetIterable iter X.env x = pure x := by intro _; rfl) :
    ET X (.ListComp elt [⟨tg, iter, ifs, 0⟩] scope pos) (xLc fi g (own.map (·.2)) tt te) := by
  intro env st ρ σ H t st' s w e Q q
  exact We.of (pe_lc hc hN Wi.pi ok (fun _ _ _ _ _ => gU.pg) (fun _ _ _ _ _ => tU.pt) (fun _ _ _ _ _ => eU.pe) hs) (lc_ok hi hg ht he s w e q)
theorem st_setLc {i : Nat} {y : Str} {py spos : Pos} (hc : X.calm = true) (hN : X.N.Nodup) (ok : BlkOk X.N X.env.scope scope own) (hi : IT X tg iter fi) (hg : ∀ s H C cl fp, GT (blkX X scope s H C cl fp) tg (own.map (·.2)) g)
    (ht : ∀ s H C cl fp, PTT (blkX X scope s H C cl fp) ifs tt) (he : ∀ s H C cl fp, ET (blkX X scope s H C cl fp) elt te) (hy : X.N[i]? = some y := by rfl) (hyl : X.env.scope.names.lookup y = some .local := by rfl)
    (hsw : swapsWith (.ListComp elt [⟨tg, iter, ifs, 0⟩] scope pos) (some (.Name y py)) spos.line X.env = pure true := by exact sw_true rfl rfl rfl (by decide +kernel)) (hs : ∀ x, foldedSetIterable iter X.env x = pure x := by intro _; rfl) :
    ST X (.Assign [.Name y py] (.ListComp elt [⟨tg, iter, ifs, 0⟩] scope pos) spos) (xsSet i (xLc fi g (own.map (·.2)) tt te)) := by
  intro env st ρ σ H o s w e D q
  unfold xsSet at e
  cases h : xLc fi g (own.map (·.2)) tt te env st with
  | none => simp [h] at e
  | some p =>
    obtain ⟨t, s1⟩ := p
    rw [h] at e
    cases e
    refine Ws.of (ps_setLc hc hN hy hyl hsw Wi.pi ok (fun _ _ _ _ _ => gU.pg) (fun _ _ _ _ _ => tU.pt) (fun _ _ _ _ _ => eU.pe) hs) ?_
    exact lc_ok hi hg ht he s w h fun v H1 ρ1 f1 w1 r1 => q _ H1 ρ1 f1 w1 ((s.up f1).set i r1)
end
end TL
/-! TL9 -/
set_option Elab.async false
set_option linter.all false
set_option maxRecDepth 100000
set_option maxHeartbeats 4000000
namespace TL
variable [Tb]
open PySem PySem.Spec PyProof.Rows L2
/-- a def of the text as it stands behind the top, and what it does on trees -/
structure DefAt (P : Program) (w : World) (K : PySem.W.Frag) (mg : Str → Option Value) (base : Heap) (k : Nat) (x : Str) (ps : List Str) (F : FA) : Prop where
  ex : ∃ (f : Addr) (fd : FuncData), mg x = some (.ref f) ∧ PySem.W.keepIn K (.ref f) = true ∧ Binds K fd ps [] ∧ FnT P w K mg base k f fd ps F
section
variable {P : Program} {w : World} {K : PySem.W.Frag} {mg : Str → Option Value} {base : Heap} {k : Nat} {x : Str} {ps : List Str}
theorem DefAt.as {F F' : FA} (G : DefAt P w K mg base k x ps F) (h : ∀ ts st t st', F' ts st = some (t, st') → ∃ t2 st2, F ts st = some (t2, st2) ∧ Cut st t2 st2 t st') : DefAt P w K mg base k x ps F' := by
  obtain ⟨f, fd, h1, h2, h3, h4⟩ := G.ex
  exact ⟨f, fd, h1, h2, h3, h4.as h⟩
/-- where a def stands -/
structure Place (K : PySem.W.Frag) (mg : Str → Option Value) (x : Str) (st : Stmt) (ps : List Str) : Prop where
  ex : ∃ (f : Addr) (fd : FuncData), mg x = some (.ref f) ∧ Fun K x x st f fd ∧ Binds K fd ps []
theorem DefAt.of {st : Stmt} {N : List Str} {Fb : XS} (L : Place K mg x st ps) (S : FnScope N ps (defScope st))
    (hbody : ∀ (f : Addr) (cdv : Value) (A : Around) (outer : List Env) (s : Shared) (H : Hp), Room k (A.deeper (envOfC x (defScope st) s.heap.objs.size f cdv)) → (A.deeper (envOfC x (defScope st) s.heap.objs.size f cdv)).guards = some [] →
      SST (cx0 P w K mg base N x (defScope st) f cdv A outer s H E0) (defBody st) Fb) : DefAt P w K mg base (k + 1) x ps (fnF ps.length N.length Fb) := by
  obtain ⟨f, fd, h1, F, b⟩ := L.ex
  exact ⟨f, fd, h1, F.kp, b, FnT.of F S fun cdv A outer s H => hbody f cdv A outer s H⟩
end
section
variable {X : Cx} {k j : Nat} {ps : List Str} {F : FA} {x : Str} {p pos : Pos} {e : Expr} {es : List Expr} {fr : XA}
theorem et_callD (G : DefAt X.prog X.w X.K X.mg X.base k x ps F) (hr : Room j X.A) (hgu : X.A.guards = some []) (ha : AT X (e :: es) fr) (hkj : k ≤ j := by decide)
    (hg : Gl X x := by rfl) (hdb : (x == ("__debug__" : Str)) = false := by decide +kernel) (he : starEach (e :: es) X.env = (false, eval e X.env) :: starEach es X.env := by rfl) (hpl : (backTo pos (starEach es X.env)).any (·.1) = false := by rfl) :
    ET X (.Call (.Name x p) (e :: es) [] pos) (xCall F fr) := by
  obtain ⟨f, fd, h1, h2, h3, h4⟩ := G.ex
  exact et_call h4 (hr.mono hkj) hgu h1 h2 h3 ha hg hdb he hpl
theorem room65 {A : Around} (h : Room j A) : A.units + 65 < cLine := by have := h.un; omega
end
end TL
namespace TL
variable [Tb]
/-- turns enough for a while loop that counts an int down -/
def fuelAll : Env1 → Store → Nat := fun e _ => (e.map fun o => match o with
  | some (.int i) => i.natAbs
  | _ => 0).sum + 2
end TL
/-! TL10 -/
set_option Elab.async false
set_option linter.all false
set_option maxRecDepth 100000
set_option maxHeartbeats 4000000
namespace TL
variable [Tb]
open PySem PySem.Spec PyProof.Rows L2
/-- the makers of lambdas: the code object, its table, the lambda's name -/
structure Maker where
  c : Addr
  P : Addr
  q : Str
deriving DecidableEq
/-- what stands at the start of a law, of the makers -/
structure Makers (K : PySem.W.Frag) (h : Heap) (ms : List Maker) : Prop where
  e : ∀ m ∈ ms, h.get? m.P = some { cls := .none, data := .fields #[] }
  k : ∀ m ∈ ms, K.lookup m.P = none
  c : ∀ m ∈ ms, PySem.W.CodeHd h m.c m.P
section
variable {P : Program} {w : World} {K : PySem.W.Frag} {mg mb : Str → Option Value} {k : Nat} {fa a : Addr} {x : Str} {s₁ : Shared} {vs : List Value} {ns : List Int} {ms : List Maker}
def isTab (ms : List Maker) (b : Addr) : Bool := ms.any fun m => m.P == b
theorem isTab_at {b : Addr} (h : isTab ms b = true) : ∃ m ∈ ms, m.P = b := by
  obtain ⟨m, h1, h2⟩ := List.any_eq_true.mp h
  exact ⟨m, h1, eq_of_beq h2⟩
theorem isTab_of {m : Maker} (h : m ∈ ms) : isTab ms m.P = true := List.any_eq_true.mpr ⟨m, h, beq_self_eq_true _⟩
/-- the law is called where at most the script and the tables are tracked -/
theorem law_coreT {Fl : FA} (H : Hp) (ob : Obj) (hH : ∀ b u, H b = some u → (b = a ∧ u = .frz ob (.lst (ns.map V.int))) ∨ (isTab ms b = true ∧ u = .tbl #[])) (hP : ∀ m ∈ ms, H m.P = some (.tbl #[])) (hK : ∀ b u, H b = some u → K.lookup b = none) (hok : HOk P w H s₁.heap) (hS : RdL K H a (ns.map V.int))
    (M : Makers K s₁.heap ms) (htb : ∀ p ∈ Tb.tabs, ∃ m ∈ ms, p = (m.P, m.q)) (hbm : ∃ (bm : Addr) (o : Obj), mg "__builtins__" = some (.ref bm) ∧ bm ≠ builtinsNs ∧ s₁.heap.get? bm = some o ∧ o.cls = .type "module" ∧ o.dict = some builtinsNs ∧ o.data = .plain)
    (KX : K.In s₁.heap) (hns : s₁.heap.Ns mainGlobals mg) (hb : s₁.heap.Ns builtinsNs mb) (hbb : ∀ x : Str, x ≠ "__name__" → mb x = bootBuiltins x) (hlim : s₁.heap.NoLimit) (hg : s₁.gens = #[])
    (ha : s₁.heap.get? a = some { cls := .type "list", data := .seq vs.toArray }) (hr : Room k callerA)
    (F : ∀ base : Heap, K.In base → base.Ns mainGlobals mg → (∀ m ∈ ms, LamX.TabB base mg m.c m.P) → ∃ fd, L2.Binds K fd [x] [] ∧ FnT P w K mg base k fa fd [x] Fl)
    (hF : ∃ st', Fl [.rdl ns] [] = some (.bl true, st')) :
    codeAny (model P w) callerA (.call (.ref fa) ⟨[.ref a], []⟩) (fun r s' => r = .ok (.ret (.bool true)) ∧ OldK s₁.heap s'.heap ∧ s'.os = s₁.os ∧ AllBare s'.gens) s₁ := by
  obtain ⟨st', hF⟩ := hF
  have other : ∀ {b : Addr} {o : Obj}, s₁.heap.get? b = some o → (∀ vs n, o.data ≠ .seq vs n) → o.data ≠ .fields #[] → H b = none := by
    intro b o e d1 d2
    cases q : H b with
    | none => rfl
    | some u =>
      rcases hH b u q with ⟨rfl, _⟩ | ⟨t, _⟩
      · rw [ha] at e; cases e; exact (d1 _ _ rfl).elim
      · obtain ⟨m, hm, rfl⟩ := isTab_at t
        rw [M.e m hm] at e; cases e; exact (d2 rfl).elim
  have notDict : ∀ {b : Addr} {o : Obj} {es : Array DictEntry} {ep : Nat}, s₁.heap.get? b = some o → o.data = .dict es ep → H b = none :=
    fun e d => other e (fun vs n z => by rw [d] at z; cases z) (fun z => by rw [d] at z; cases z)
  have nsB : ∀ {b : Addr} {m : Str → Option Value}, s₁.heap.Ns b m → (hidT s₁.heap H).Ns b m := by
    rintro b m ⟨o, es, ep, e, d, r⟩
    exact ⟨o, es, ep, hidT_get e (notDict e d), d, r⟩
  have kIn : K.In (hidT s₁.heap H) := by
    intro b o e
    refine hidT_get (KX b o e) ?_
    cases q : H b with
    | none => rfl
    | some u => rw [hK b u q] at e; cases e
  have md : Mod K mg (hidT s₁.heap H) := by
    obtain ⟨mc, c1, c2⟩ := hlim
    exact ⟨kIn, nsB hns, ⟨mb, nsB hb, hbb⟩, ⟨mc, nsB c1, c2⟩⟩
  have env : Env0 P w K mg (hidT s₁.heap H) callerA [] s₁ H := by
    refine ⟨rfl, md, fun b o e => of_hidT e, Nat.le_of_eq (hidT_size _ _), trivial, fun b hm => ?_, hok, .of_eq hg⟩
    exact absurd (show b ∈ ([] : List Addr) from hm) (by simp)
  have tabB : ∀ m ∈ ms, LamX.TabB (hidT s₁.heap H) mg m.c m.P := by
    intro m hm
    obtain ⟨oG, esG, epG, eG, dG, _⟩ := id hns
    refine ⟨?_, ?_, fun z => ?_⟩
    · obtain ⟨o, us, fl, tf, fs, tg, iF, tx, tt, e1, r1, r2, r⟩ := M.c m hm
      refine ⟨o, us, fl, tf, fs, tg, iF, tx, tt, hidT_get e1 (other e1 (fun vs n z => by rw [r2] at z; cases z) (fun z => ?_)), r1, r2, r⟩
      rw [r2] at z; cases z; simp at r
    · obtain ⟨bm, o, b1, b2, b3, b4, b5, b6⟩ := hbm
      have n1 : bm ≠ mainGlobals := fun q => by rw [q, eG] at b3; cases b3; rw [dG] at b6; cases b6
      have n2 : bm ≠ m.P := fun q => by rw [q, M.e m hm] at b3; cases b3; cases b6
      exact ⟨bm, o, b1, b2, n1, n2, hidT_get b3 (other b3 (fun vs n z => by rw [b6] at z; cases z) (fun z => by rw [b6] at z; cases z)), b4, b5, b6⟩
    · rw [z, M.e m hm] at eG; cases eG; cases dG
  have tabs0 : LamX.Tabs Tb.tabs H := fun p hp => by
    obtain ⟨m, hm, rfl⟩ := htb p hp
    exact .nil (hP m hm)
  have w0 : Wd (kX K P w) [] [] H := ⟨tabs0, rfl, by simp, fun l o b h _ => by simp at h⟩
  obtain ⟨fd, hbd, hfn⟩ := F _ kIn (nsB hns) tabB
  have run := hfn.run callerA [] s₁ H ⟨[.ref a], []⟩ [.ref a] [.ref a] [] [.rdl ns] [] (.bl true) st' (fun v _ => v = .bl true) hr rfl env (hbd s₁ [.ref a] KX rfl) (.cons rfl .nil) w0 (.cons (.rdl hS) .nil) hF
    (fun v H' ρ' _ _ r => by cases r; rfl)
  refine codeAny_mono run fun r s' h => ?_
  match r, h with
  | .error e, h => exact False.elim h
  | .ok .next, h => exact False.elim h
  | .ok .brk, h => exact False.elim h
  | .ok .cont, h => exact False.elim h
  | .ok (.ret u), ⟨v, H', os, bare, un, hok', r', q⟩ =>
    cases (show v = .bl true from q)
    cases (show u = Value.bool true from r')
    have keep : ∀ b o, isTab ms b = false → s₁.heap.get? b = some o → s'.heap.get? b = some o := by
      intro b o nt e
      cases q : H b with
      | none => exact un.keep b o e q (fun z => absurd (show b ∈ ([] : List Addr) from z) (by simp)) (by simp)
      | some u =>
        rcases hH b u q with ⟨_, rfl⟩ | ⟨t, _⟩
        · have l1 := (hok b _ q).1
          have l2 := (hok' b _ (un.frzs b ob _ q)).1
          rw [e] at l1; cases l1
          exact l2
        · rw [nt] at t; cases t
    have grown : ∀ m ∈ ms, ∃ more : Array Value, s'.heap.get? m.P = some { cls := .none, data := .fields more } := fun m hm => by
      obtain ⟨more, z⟩ := un.tbls m.P #[] (hP m hm)
      exact ⟨_, hok' m.P _ z⟩
    refine ⟨rfl, ⟨fun b o e => ?_, fun b o e => ?_⟩, os, bare⟩
    · cases t : isTab ms b with
      | false => exact .inl (keep b o t e)
      | true =>
        obtain ⟨m, hm, rfl⟩ := isTab_at t
        obtain ⟨more, z⟩ := grown m hm
        rw [M.e m hm] at e; cases e
        exact .inr (.inl ⟨((M.c m hm).tab (M.e m hm)).isCodeTable, rfl, #[], more, rfl, by rw [Array.empty_append]; exact z⟩)
    · cases t : isTab ms b with
      | false => exact ⟨o, keep b o t e⟩
      | true =>
        obtain ⟨m, hm, rfl⟩ := isTab_at t
        obtain ⟨more, z⟩ := grown m hm
        exact ⟨_, z⟩
theorem law_callT {Fl : FA} (M : Makers K s₁.heap ms) (htb : ∀ p ∈ Tb.tabs, ∃ m ∈ ms, p = (m.P, m.q)) (hbm : ∃ (bm : Addr) (o : Obj), mg "__builtins__" = some (.ref bm) ∧ bm ≠ builtinsNs ∧ s₁.heap.get? bm = some o ∧ o.cls = .type "module" ∧ o.dict = some builtinsNs ∧ o.data = .plain)
    (KX : K.In s₁.heap) (hns : s₁.heap.Ns mainGlobals mg) (hb : s₁.heap.Ns builtinsNs mb) (hbb : ∀ x : Str, x ≠ "__name__" → mb x = bootBuiltins x) (hlim : s₁.heap.NoLimit) (hg : s₁.gens = #[])
    (ha : s₁.heap.get? a = some { cls := .type "list", data := .seq vs.toArray }) (hi : IntsAre vs ns) (hl : ns.length ≤ sizeLine) (hr : Room k callerA)
    (F : ∀ base : Heap, K.In base → base.Ns mainGlobals mg → (∀ m ∈ ms, LamX.TabB base mg m.c m.P) → ∃ fd, L2.Binds K fd [x] [] ∧ FnT P w K mg base k fa fd [x] Fl)
    (hF : ∃ st', Fl [.rdl ns] [] = some (.bl true, st')) :
    codeAny (model P w) callerA (.call (.ref fa) ⟨[.ref a], []⟩) (fun r s' => r = .ok (.ret (.bool true)) ∧ OldK s₁.heap s'.heap ∧ s'.os = s₁.os ∧ AllBare s'.gens) s₁ := by
  have rv := vals_ints hi
  have same := hi.length
  have aT : isTab ms a = false := by
    cases t : isTab ms a with
    | false => rfl
    | true =>
      obtain ⟨m, hm, e⟩ := isTab_at t
      have := M.e m hm
      rw [e, ha] at this
      cases this
  have tabAt : ∀ b, isTab ms b = true → s₁.heap.get? b = some { cls := .none, data := .fields #[] } := fun b t => by
    obtain ⟨m, hm, rfl⟩ := isTab_at t
    exact M.e m hm
  have tabK : ∀ b, isTab ms b = true → K.lookup b = none := fun b t => by
    obtain ⟨m, hm, rfl⟩ := isTab_at t
    exact M.k m hm
  cases hk : K.lookup a with
  | some o =>
    have e := KX a o hk
    rw [ha] at e
    cases e
    have at0 : ∀ b u, (if isTab ms b = true then some (HO.tbl #[]) else none) = some u → isTab ms b = true ∧ u = HO.tbl #[] := by
      intro b u z
      by_cases q : isTab ms b = true
      · rw [if_pos q] at z; cases z; exact ⟨q, rfl⟩
      · rw [if_neg q] at z; cases z
    refine law_coreT (fun b => if isTab ms b = true then some (HO.tbl #[]) else none) { cls := .type "list", data := .seq vs.toArray } (fun b u z => .inr (at0 b u z)) (fun m hm => if_pos (isTab_of hm)) (fun b u z => tabK b (at0 b u z).1) (fun b u z => ?_) ?_ M htb hbm KX hns hb hbb hlim hg ha hr F hF
    · obtain ⟨q1, rfl⟩ := at0 b u z
      exact tabAt b q1
    · exact .inr fun H' => .inr ⟨_, vs.toArray, _, hk, rfl, rfl, rfl, by rw [List.size_toArray, same]; exact hl, by simpa using rv⟩
  | none =>
    have at1 : ∀ b u, (if b = a then some (HO.frz { cls := .type "list", data := .seq vs.toArray } (.lst (ns.map V.int))) else if isTab ms b = true then some (HO.tbl #[]) else none) = some u → (b = a ∧ u = HO.frz { cls := .type "list", data := .seq vs.toArray } (.lst (ns.map V.int))) ∨ (isTab ms b = true ∧ u = HO.tbl #[]) := by
      intro b u z
      by_cases q : b = a
      · rw [if_pos q] at z; cases z; exact .inl ⟨q, rfl⟩
      · rw [if_neg q] at z
        by_cases q2 : isTab ms b = true
        · rw [if_pos q2] at z; cases z; exact .inr ⟨q2, rfl⟩
        · rw [if_neg q2] at z; cases z
    refine law_coreT (fun b => if b = a then some (HO.frz { cls := .type "list", data := .seq vs.toArray } (.lst (ns.map V.int))) else if isTab ms b = true then some (HO.tbl #[]) else none) { cls := .type "list", data := .seq vs.toArray } at1 (fun m hm => ?_) (fun b u z => ?_) (fun b u z => ?_) ?_ M htb hbm KX hns hb hbb hlim hg ha hr F hF
    · have hne : m.P ≠ a := fun z => by rw [← z, isTab_of hm] at aT; cases aT
      rw [if_neg hne, if_pos (isTab_of hm)]
    · rcases at1 b u z with ⟨rfl, _⟩ | ⟨t, _⟩
      · exact hk
      · exact tabK b t
    · rcases at1 b u z with ⟨rfl, rfl⟩ | ⟨t, rfl⟩
      · exact ⟨ha, by rw [List.length_map]; exact hl, vs, _, rv, ha⟩
      · exact tabAt b t
    · exact .inl ⟨_, if_pos rfl⟩
end
/-- the end of a law row -/
theorem walkT {l : PySem.W.OpenLaw} {n k : Nat} {q : Program} {loose : List Str} {XP : (Str → Option Value) → Heap → Prop} {YP : World → Heap → Prop} {d : DefRec} {K : Params → PySem.W.Frag} {x : Str} {Fl : FA} {ms : List Maker}
    (hn : l.most = some n) (hn2 : n ≤ sizeLine) (hdf : d.params.defaults = []) (hr : Room k callerA)
    (hY : ∀ (w : World) (h : Heap), YP w h → (K w.params).In h) (hM : ∀ (w : World) (h : Heap), YP w h → Makers (K w.params) h ms) (htb : ∀ p ∈ Tb.tabs, ∃ m ∈ ms, p = (m.P, m.q))
    (F : ∀ (w : World) (mg : Str → Option Value) (fa : Addr) (h : Heap), (K w.params).In h → h.Ns mainGlobals mg → mg d.name = some (.ref fa) →
      ∀ base : Heap, (K w.params).In base → base.Ns mainGlobals mg → (∀ m ∈ ms, LamX.TabB base mg m.c m.P) → ∃ fd, L2.Binds (K w.params) fd [x] [] ∧ FnT l.prog w (K w.params) mg base k fa fd [x] Fl)
    (hF : ∀ ns : List Int, ns.length ≤ n → (∀ z ∈ ns, Builtin.Int.intBits z ≤ 1048576) → ∃ st', Fl [.rdl ns] [] = some (.bl true, st')) :
    PySem.W.WalkO q loose XP YP l.row.toRowW d [] (fun f vs => PySem.call f vs) := by
  refine Att.attach_callB hn hdf fun w s₀ s₁ mg mb fa o pm cd doc a vs ns G Y ho hd hcd hmg hobj hints hlen hbits hg => ?_
  have KX := hY w _ Y
  exact law_callT (hM w _ Y) htb G.T.bmain KX G.T.g G.T.b G.T.builtins G.T.nolimit hg hobj hints (Nat.le_trans hlen hn2) hr (F w mg fa _ KX G.T.g hmg) (hF ns hlen hbits)
end TL
namespace TL
variable [Tb]
open PySem PySem.Spec PyProof.Rows L2
theorem place_mk {K : PySem.W.Frag} {h : Heap} {mg : Str → Option Value} (X : K.In h) (G : h.Ns mainGlobals mg) {x : Str} {st : Stmt} {ps : List Str} {f : Addr} {oc : Value} {od an : Option Addr} {sl : Array (Option Value)} {kV dc pm cd ct : Value}
    (hb : ∀ (kV doc pm : Value) (an : Option Addr) (cdv ct : Value) (us : List Value), us.length = ps.length → bindArgs (PySem.W.fnOf x x (defArgs st) (defBody st) (defScope st) .none kV doc pm an cdv ct) ⟨us, []⟩ = pure (ps.zip us))
    (a : PySem.W.nsIn K mainGlobals x = some (some (.ref f))) (l : K.lookup f = some ⟨oc, od, .func (PySem.W.fnOf x x (defArgs st) (defBody st) (defScope st) .none kV dc pm an cd ct), sl⟩) (c : PySem.W.codeIn K cd x = true) (k : PySem.W.keepIn K (.ref f) = true) : Place K mg x st ps := by
  have F := fun_mk (st := st) l c k
  exact ⟨f, _, PySem.W.mg_of X G a, F, F.binds hb⟩
/-- a def at the place that the module tells -/
theorem DefAt.fn {P : Program} {w : World} {K : PySem.W.Frag} {mg : Str → Option Value} {base : Heap} {k : Nat} {x : Str} {ps : List Str} {F : FA} (G : DefAt P w K mg base k x ps F) {fa : Addr} (h : mg x = some (.ref fa)) : ∃ fd, Binds K fd ps [] ∧ FnT P w K mg base k fa fd ps F := by
  obtain ⟨f, fd, h1, _, h3, h4⟩ := G.ex
  rw [h] at h1
  cases h1
  exact ⟨fd, h3, h4⟩
end TL
/-! TL11 -/
set_option Elab.async false
set_option linter.all false
set_option maxRecDepth 100000
set_option maxHeartbeats 4000000
namespace TL
variable [Tb]
open PySem PySem.Spec PyProof.Rows L2
/-! ### dicts whose keys are tuples -/
theorem nk_depth : ∀ (n : Nat) (t : T) (k : NestedKey), toNK n t = some k → k.depth ≤ n
  | n, .non, k, h => by cases n <;> (cases h; exact Nat.zero_le _)
  | n, .int i, k, h => by cases n <;> (cases h; exact Nat.zero_le _)
  | n, .str i, k, h => by cases n <;> (cases h; exact Nat.zero_le _)
  | 0, .tup ts, k, h => by cases h
  | n + 1, .tup ts, k, h => by
    unfold toNK at h
    cases e : optNK (toNK n) ts with
    | none => rw [e] at h; cases h
    | some ks =>
      rw [e] at h
      cases h
      have all : ∀ (ts : List T) (ks : List NestedKey), optNK (toNK n) ts = some ks → NestedKey.depthAll ks ≤ n := by
        intro ts
        induction ts with
        | nil => intro ks h; cases h; exact Nat.zero_le _
        | cons t ts ih =>
          intro ks h
          unfold optNK at h
          split at h
          · rename_i k1 k2 h1 h2
            cases h
            simp only [NestedKey.depthAll]
            have a := nk_depth n t _ h1
            have b := ih _ h2
            omega
          · cases h
      simp only [NestedKey.depth]
      have := all ts ks e
      omega
  | 0, .bl b, k, h => by cases h
  | n + 1, .bl b, k, h => by cases h
  | 0, .ref b, k, h => by cases h
  | n + 1, .ref b, k, h => by cases h
  | 0, .rdl b, k, h => by cases h
  | n + 1, .rdl b, k, h => by cases h
  | 0, .ptp b, k, h => by cases h
  | n + 1, .ptp b, k, h => by cases h
section
variable {X : Cx} {pins : List (Addr × Obj)} {σ : St} {H : Hp} {s : Shared} {ρ : List Addr}
theorem nk_is (I : Inv X pins σ H s) : ∀ (n : Nat) (t : T) (k : NestedKey) (v : V) (u : Value), toNK n t = some k → Rep (kx X) H ρ t v → RelV v u → NestedIs s.heap k u
  | n, .non, k, v, u, h, r, q => by cases r; cases q; cases n <;> (cases h; exact .none)
  | n, .int i, k, v, u, h, r, q => by cases r; obtain ⟨t, rfl⟩ := q; cases n <;> (cases h; exact .int _ _)
  | n, .str i, k, v, u, h, r, q => by cases r; obtain ⟨t, rfl⟩ := q; cases n <;> (cases h; exact .text _ _)
  | 0, .tup ts, k, v, u, h, r, q => by cases h
  | n + 1, .tup ts, k, v, u, h, r, q => by
    unfold toNK at h
    cases e : optNK (toNK n) ts with
    | none => rw [e] at h; cases h
    | some ks =>
      rw [e] at h
      cases h
      cases r with
      | tup hx rx =>
        cases q
        obtain ⟨its, rv, ⟨o, ho, hc, m, hd⟩, _⟩ := I.tuple hx
        have all : ∀ (ts : List T) (ks : List NestedKey) (vs : List V) (us : List Value), optNK (toNK n) ts = some ks → Reps (kx X) H ρ ts vs → Vals vs us → NestedAll s.heap ks us := by
          intro ts
          induction ts with
          | nil => intro ks vs us h r q; cases h; cases r; cases q; exact .nil
          | cons t ts ih =>
            intro ks vs us h r q
            unfold optNK at h
            split at h
            · rename_i k1 k2 h1 h2
              cases h
              cases r with
              | cons r1 r2 =>
                cases q with
                | cons q1 q2 => exact .cons (nk_is I n t _ _ _ h1 r1 q1) (ih _ _ _ h2 r2 q2)
            · cases h
        exact .tup ho hc hd (by simpa using all ts ks _ _ e rx rv)
  | 0, .bl b, k, v, u, h, r, q => by cases h
  | n + 1, .bl b, k, v, u, h, r, q => by cases h
  | 0, .ref b, k, v, u, h, r, q => by cases h
  | n + 1, .ref b, k, v, u, h, r, q => by cases h
  | 0, .rdl b, k, v, u, h, r, q => by cases h
  | n + 1, .rdl b, k, v, u, h, r, q => by cases h
  | 0, .ptp b, k, v, u, h, r, q => by cases h
  | n + 1, .ptp b, k, v, u, h, r, q => by cases h
theorem nk_key (I : Inv X pins σ H s) {t : T} {k : NestedKey} {b : Addr} (h : toNK nkd t = some k) (r : Rep (kx X) H ρ t (.ref b)) : (nestedKind X.prog X.w).is s.heap k b :=
  ⟨nk_is I nkd t k _ _ h r rfl, Nat.le_trans (nk_depth _ _ _ h) (by decide)⟩
abbrev ERel : NestedKey × Addr × V → NestedKey × Addr × Value → Prop := fun x y => x.1 = y.1 ∧ x.2.1 = y.2.1 ∧ RelV x.2.2 y.2.2
theorem erel_keys : ∀ {xs : List (NestedKey × Addr × V)} {ys : List (NestedKey × Addr × Value)}, Paired ERel xs ys → ys.map (·.1) = xs.map (·.1)
  | _, _, .nil => rfl
  | _, _, .cons a b => by rw [List.map_cons, List.map_cons, erel_keys b, a.1]
/-- the dict in the very heap -/
theorem dn_heap (I : Inv X pins σ H s) {a : Addr} {xs : List (NestedKey × Addr × V)} {kvs : List (T × T)} (h : H a = some (dnO (kx X) a xs)) (r : RepD (kx X) H ρ kvs xs) :
    xs.length ≤ sizeLine ∧ (a == sysModules) = false ∧ ∃ ys : List (NestedKey × Addr × Value), Paired ERel xs ys ∧ s.heap.DictOfH (nestedKind X.prog X.w) a ys := by
  obtain ⟨⟨z, q, ys, p, o, es, ep, h1, h2, h3, h4, h5⟩, _⟩ := I.hok a _ h
  refine ⟨z, q, ys, p, o, es, ep, h1, h2, h3, h4, ?_, h5⟩
  have all : ∀ {kvs : List (T × T)} {xs : List (NestedKey × Addr × V)} {ys : List (NestedKey × Addr × Value)}, RepD (kx X) H ρ kvs xs → Paired ERel xs ys → ∀ y ∈ ys, (nestedKind X.prog X.w).is s.heap y.1 y.2.1 := by
    intro kvs xs ys r
    induction r generalizing ys with
    | nil => intro p y hy; cases p; cases hy
    | cons a b c d ih =>
      intro p y hy
      cases p with
      | cons p1 p2 =>
        rcases List.mem_cons.mp hy with e | hy
        · subst e
          rw [← p1.1, ← p1.2.1]
          exact nk_key I a b
        · exact ih p2 y hy
  exact all r p
/-- a dict is laid, or written -/
theorem dn_obj {h : Heap} {a : Addr} {xs : List (NestedKey × Addr × V)} {ys : List (NestedKey × Addr × Value)} (z : xs.length ≤ sizeLine) (q : (a == sysModules) = false) (p : Paired ERel xs ys) (d : h.DictOfH (nestedKind X.prog X.w) a ys) {H' : Hp} :
    ObjOk X.prog X.w H' h a (dnO (kx X) a xs) := by
  obtain ⟨o, es, ep, h1, h2, h3, h4, _, h5⟩ := d
  refine ⟨⟨z, q, ys, p, o, es, ep, h1, h2, h3, h4, h5⟩, ⟨o, h1⟩, ?_⟩
  rintro h1' h2' ⟨z, q, ys, p, o, es, ep, g1, g2⟩ keep
  exact ⟨z, q, ys, p, o, es, ep, keep _ g1, g2⟩
end
/-! ### looking up, storing, on trees -/
def isKey (k : NestedKey) (t : T) : Bool := decide (toNK nkd t = some k)
def lookD (kvs : List (T × T)) (k : NestedKey) : Option T := (kvs.find? fun p => isKey k p.1).map (·.2)
def storeD (kvs : List (T × T)) (t : T) (k : NestedKey) (u : T) : List (T × T) := if (lookD kvs k).isSome then kvs.map fun p => if isKey k p.1 then (p.1, u) else p else kvs ++ [(t, u)]
section
variable {K : KX} {H : Hp} {ρ : List Addr}
theorem repd_look : ∀ {kvs : List (T × T)} {xs : List (NestedKey × Addr × V)} (k : NestedKey), RepD K H ρ kvs xs → match lookD kvs k, (xs.find? fun x => decide (x.1 = k)) with
    | some u, some x => x.1 = k ∧ Rep K H ρ u x.2.2
    | none, none => True
    | _, _ => False := by
  intro kvs xs k r
  induction r with
  | nil => trivial
  | @cons t u k1 b v r xs h1 h2 h3 h4 ih =>
    unfold lookD at ih ⊢
    by_cases e : k1 = k
    · subst e
      have hk : isKey k1 t = true := decide_eq_true h1
      simp only [List.find?_cons, hk, decide_true, Option.map_some]
      exact ⟨trivial, h3⟩
    · have hk : isKey k t = false := decide_eq_false fun z => e (by rw [h1] at z; exact Option.some.inj z)
      have hd : decide (k1 = k) = false := decide_eq_false e
      simp only [List.find?_cons, hk, hd]
      exact ih
theorem repd_len {kvs : List (T × T)} {xs : List (NestedKey × Addr × V)} (r : RepD K H ρ kvs xs) : kvs.length = xs.length := by
  induction r with
  | nil => rfl
  | cons a b c d ih => simp [ih]
/-- the raw entries behind a store -/
def storeX (xs : List (NestedKey × Addr × V)) (k : NestedKey) (b : Addr) (v : V) : List (NestedKey × Addr × V) :=
  if (xs.find? fun x => decide (x.1 = k)).isSome then xs.map fun x => if x.1 = k then (x.1, x.2.1, v) else x else xs ++ [(k, b, v)]
theorem repd_app {kvs kws : List (T × T)} {xs ys : List (NestedKey × Addr × V)} (r : RepD K H ρ kvs xs) (q : RepD K H ρ kws ys) : RepD K H ρ (kvs ++ kws) (xs ++ ys) := by
  induction r with
  | nil => exact q
  | cons a b c d ih => exact .cons a b c ih
theorem repd_store {kvs : List (T × T)} {xs : List (NestedKey × Addr × V)} {t u : T} {k : NestedKey} {b : Addr} {v : V} (r : RepD K H ρ kvs xs) (h1 : toNK nkd t = some k) (h2 : Rep K H ρ t (.ref b)) (h3 : Rep K H ρ u v) : RepD K H ρ (storeD kvs t k u) (storeX xs k b v) := by
  have l := repd_look k r
  unfold storeD storeX
  cases e1 : lookD kvs k with
  | none =>
    cases e2 : (xs.find? fun x => decide (x.1 = k)) with
    | none => exact repd_app r (.cons h1 h2 h3 .nil)
    | some x => rw [e1, e2] at l; exact l.elim
  | some u0 =>
    cases e2 : (xs.find? fun x => decide (x.1 = k)) with
    | none => rw [e1, e2] at l; exact l.elim
    | some x =>
      simp only [Option.isSome_some, if_true]
      clear l e1 e2
      induction r with
      | nil => exact .nil
      | @cons t1 u1 k1 b1 v1 r1 xs1 g1 g2 g3 g4 ih =>
        by_cases e : k1 = k
        · subst e
          have hk : isKey k1 t1 = true := decide_eq_true g1
          simp only [List.map_cons, hk, if_true]
          exact .cons g1 g2 h3 ih
        · have hk : isKey k t1 = false := decide_eq_false fun z => e (by rw [g1] at z; exact Option.some.inj z)
          simp only [List.map_cons, hk, e, if_false]
          exact .cons g1 g2 g3 ih
theorem erel_look : ∀ {xs : List (NestedKey × Addr × V)} {ys : List (NestedKey × Addr × Value)} (k : NestedKey), Paired ERel xs ys → match (xs.find? fun x => decide (x.1 = k)), atKey ys k with
    | some x, some y => RelV x.2.2 y.2
    | none, none => True
    | _, _ => False
  | _, _, k, .nil => trivial
  | x :: xs, y :: ys, k, .cons a b => by
    have ih := erel_look k b
    unfold atKey at ih ⊢
    by_cases e : x.1 = k
    · have e2 : y.1 = k := a.1.symm.trans e
      simp only [List.find?_cons, e, e2, decide_true, Option.map_some]
      exact a.2.2
    · have e2 : ¬ y.1 = k := fun z => e (a.1.trans z)
      simp only [List.find?_cons, decide_eq_false e, decide_eq_false e2]
      exact ih
theorem erel_store {xs : List (NestedKey × Addr × V)} {ys : List (NestedKey × Addr × Value)} {k : NestedKey} {b : Addr} {v : V} {u : Value} (p : Paired ERel xs ys) (r : RelV v u) : Paired ERel (storeX xs k b v) (storedH ys k b u) := by
  have l := erel_look k p
  unfold storeX storedH
  cases e1 : (xs.find? fun x => decide (x.1 = k)) with
  | none =>
    cases e2 : atKey ys k with
    | some y => rw [e1, e2] at l; exact l.elim
    | none =>
      simp only [Option.isSome_none, Bool.false_eq_true, if_false]
      clear l e1 e2
      induction p with
      | nil => exact .cons ⟨rfl, rfl, r⟩ .nil
      | cons a b ih => exact .cons a ih
  | some x =>
    cases e2 : atKey ys k with
    | none => rw [e1, e2] at l; exact l.elim
    | some y =>
      simp only [Option.isSome_some, if_true]
      clear l e1 e2
      induction p with
      | nil => exact .nil
      | @cons x y xs ys a b ih =>
        rw [List.map_cons, List.map_cons]
        refine .cons ?_ ih
        by_cases e : x.1 = k
        · have e2 : y.1 = k := a.1.symm.trans e
          rw [if_pos e]
          unfold putAt
          rw [if_pos e2]
          exact ⟨a.1, a.2.1, r⟩
        · have e2 : ¬ y.1 = k := fun z => e (a.1.trans z)
          rw [if_neg e]
          unfold putAt
          rw [if_neg e2]
          exact a
theorem storeX_len (xs : List (NestedKey × Addr × V)) (k : NestedKey) (b : Addr) (v : V) : (storeX xs k b v).length ≤ xs.length + 1 := by
  unfold storeX
  split
  · simp
  · simp
end
/-! ### the operations -/
section
variable {X : Cx}
/-- what an operation finds: the dict at a, the key k at b -/
structure DnAt (X : Cx) (H : Hp) (ρ : List Addr) (a : Addr) (kvs : List (T × T)) (xs : List (NestedKey × Addr × V)) : Prop where
  h : H a = some (dnO (kx X) a xs)
  r : RepD (kx X) H ρ kvs xs
theorem nroom {A : Around} (hu : A.units + 64 < cLine) (P : Program) (w : World) : (nestedKind P w).room A.in1 := by
  show A.units + 1 + 8 < cLine
  omega
theorem op_inN (neg : Bool) (hu : X.A.units + 64 < cLine) : OpR X (compareOp (if neg then .NotIn else .In)) (fun x y H Q => ∃ a b ρ kvs xs t k, x = .ref b ∧ y = .ref a ∧ DnAt X H ρ a kvs xs ∧ toNK nkd t = some k ∧ Rep (kx X) H ρ t (.ref b) ∧ Q (.bl (if neg then !(lookD kvs k).isSome else (lookD kvs k).isSome)) H) := by
  intro pins s σ H x y v u Q I rx ry h
  obtain ⟨a, b, ρ, kvs, xs, t, k, rfl, rfl, d, hk, rb, q⟩ := h
  cases rx; cases ry
  obtain ⟨z, hs, ys, p, dh⟩ := dn_heap I d.h d.r
  have l1 := repd_look k d.r
  have l2 := erel_look k p
  have e : (valueAt (pairsH ys) k).isSome = (lookD kvs k).isSome := by
    rw [valueAt_pairsH, Option.isSome_map]
    cases h1 : lookD kvs k <;> cases h2 : (xs.find? fun x => decide (x.1 = k)) <;> cases h3 : atKey ys k <;> rw [h1, h2] at l1 <;> rw [h2, h3] at l2 <;> first | rfl | exact l1.elim | exact l2.elim
  cases neg with
  | false => exact in_keyed (nroom hu _ _) (nk_key I hk rb) hs ⟨ys, dh, rfl⟩ ⟨.bl _, H, I.tok _, by rw [e]; rfl, q⟩
  | true => exact notIn_keyed (nroom hu _ _) (nk_key I hk rb) hs ⟨ys, dh, rfl⟩ ⟨.bl _, H, I.tok _, by rw [e]; rfl, q⟩
/-- what stands there -/
theorem look_all {H : Hp} {ρ : List Addr} {kvs : List (T × T)} {xs : List (NestedKey × Addr × V)} {ys : List (NestedKey × Addr × Value)} {k : NestedKey} {u : T} (r : RepD (kx X) H ρ kvs xs) (p : Paired ERel xs ys) (h : lookD kvs k = some u) :
    ∃ v w, valueAt (pairsH ys) k = some w ∧ RelV v w ∧ Rep (kx X) H ρ u v := by
  have l1 := repd_look k r
  have l2 := erel_look k p
  cases h2 : (xs.find? fun x => decide (x.1 = k)) with
  | none => rw [h, h2] at l1; exact l1.elim
  | some x =>
    cases h3 : atKey ys k with
    | none => rw [h2, h3] at l2; exact l2.elim
    | some y =>
      rw [h, h2] at l1
      rw [h2, h3] at l2
      exact ⟨x.2.2, y.2, by rw [valueAt_pairsH, h3]; rfl, l2, l1.2⟩
theorem look_none {H : Hp} {ρ : List Addr} {kvs : List (T × T)} {xs : List (NestedKey × Addr × V)} {ys : List (NestedKey × Addr × Value)} {k : NestedKey} (r : RepD (kx X) H ρ kvs xs) (p : Paired ERel xs ys) (h : lookD kvs k = none) : valueAt (pairsH ys) k = none := by
  have l1 := repd_look k r
  have l2 := erel_look k p
  cases h2 : (xs.find? fun x => decide (x.1 = k)) with
  | some x => rw [h, h2] at l1; exact l1.elim
  | none =>
    cases h3 : atKey ys k with
    | some y => rw [h2, h3] at l2; exact l2.elim
    | none => rw [valueAt_pairsH, h3]; rfl
theorem ix_N (hu : X.A.units + 64 < cLine) : IxR X (fun x y H Q => ∃ a b ρ kvs xs t k u, x = .ref a ∧ y = .ref b ∧ DnAt X H ρ a kvs xs ∧ toNK nkd t = some k ∧ Rep (kx X) H ρ t (.ref b) ∧ lookD kvs k = some u ∧ ∀ v, Rep (kx X) H ρ u v → Q v H) := by
  intro value slice pins s σ H x y v0 u0 Q I rx ry h hs
  obtain ⟨a, b, ρ, kvs, xs, t, k, u, rfl, rfl, d, hk, rb, hl, q⟩ := h
  cases rx; cases ry
  obtain ⟨z, hsm, ys, p, dh⟩ := dn_heap I d.h d.r
  obtain ⟨v, w, h1, h2, h3⟩ := look_all d.r p hl
  exact subscriptTail_builtinR (x := w) dh.typeIs PySem.F.slot_dict_getitem.lookup
    (getItem_keyed (Q := fun r s' => r = w ∧ EP X pins σ Q r s') (nroom hu _ _) (nk_key I hk rb) ⟨ys, dh, rfl⟩ h1 ⟨rfl, v, H, I.tok _, h2, q v h3⟩) hs
theorem set_N (hu : X.A.units + 64 < cLine) : PSet X (fun o i v H Q => ∃ a b ρ kvs xs t k, o = .ref a ∧ i = .ref b ∧ DnAt X H ρ a kvs xs ∧ toNK nkd t = some k ∧ Rep (kx X) H ρ t (.ref b) ∧ xs.length < sizeLine ∧ Q (upd H a (dnO (kx X) a (storeX xs k b v)))) := by
  intro pins s σ H o i v ov iv u Q I ro ri rv h
  obtain ⟨a, b, ρ, kvs, xs, t, k, rfl, rfl, d, hk, rb, hz, q⟩ := h
  cases ro; cases ri
  obtain ⟨z, hsm, ys, p, dh⟩ := dn_heap I d.h d.r
  have hl : ys.length = xs.length := by
    have := congrArg List.length (erel_keys p)
    simpa using this
  refine wpAny_setItem_heap (hsz := by rw [hl]; omega) (nroom hu _ _) (nk_key I hk rb) dh fun h' dh' sb => ?_
  refine ⟨_, I.write (x := a) (e := a) (o := dnO (kx X) a (storeX xs k b v)) (t' := s.toks + _) (by rw [d.h]; trivial) (.inl rfl) (fun b' ob hb e => (sb.2 b' hb).trans e) ?_ ?_, q⟩
  · obtain ⟨o', _, _, g, _⟩ := dh'
    exact ⟨o', g⟩
  · exact dn_obj (Nat.le_trans (storeX_len xs k b v) hz) hsm (erel_store p rv) dh'
theorem pe_dnewN {pos : Pos} : PE X (.Dict [] [] pos) (fun _ H Q => ∀ d, H d = none → Q (.ref d) (upd H d (dnO (kx X) d []))) := by
  refine ⟨fun pins s σ H Q I h => ?_⟩
  refine wpAny_Dict_empty ⟨.ref s.heap.objs.size, _, I.laid (a := s.heap.objs.size) (o := dnO (kx X) s.heap.objs.size []) (t' := s.toks) (fun _ _ q => Heap.get?_push_of_some _ q) (Nat.le_refl _) ?_, rfl, h _ (I.hok.fresh (Nat.le_refl _))⟩
  refine dn_obj (ys := []) (Nat.zero_le _) ?_ .nil (Heap.DictOfH.new _)
  have hb := (dk_empty (P := X.prog) (w := X.w) (H := H) s.heap I.big)
  exact hb.2.1
end
end TL
/-! TL12 -/
set_option Elab.async false
set_option linter.all false
set_option maxRecDepth 100000
set_option maxHeartbeats 4000000
/-! what is walked in twos: zip, enumerate -/
namespace TL
variable [Tb]
open PySem PySem.Spec PyProof.Rows L2
/-- a value as something walked: whether it is a tuple, and its items by the store -/
def seqOf (t : T) (st : Store) : Option (Bool × Its1) := match t with
  | .tup ts => some (true, fun _ => some ts)
  | .ref l => match st[l]? with
    | some (.lst _) => some (false, fun st => match st[l]? with
      | some (.lst ts) => some ts
      | _ => none)
    | _ => none
  | .rdl ns => some (false, fun _ => some (ns.map T.int))
  | _ => none
/-- the sequence at a, by the tag -/
def SqA (b : Bool) (K : PySem.W.Frag) (H : Hp) (a : Addr) (xs : List V) : Prop := if b then SqT K H a xs else SqL K H a xs
theorem seq_at {X : Cx} {H : Hp} {ρ : List Addr} {st : Store} {t : T} {v : V} {b : Bool} {it : Its1} (w : Wd (kx X) ρ st H) (r : Rep (kx X) H ρ t v) (h : seqOf t st = some (b, it)) :
    ∃ a, v = .ref a ∧ (∃ xs, SqA b X.K H a xs) ∧ ∀ H' ρ' st' ts, Fut H H' ρ ρ' → Wd (kx X) ρ' st' H' → it st' = some ts → ∃ xs, SqA b X.K H' a xs ∧ Reps (kx X) H' ρ' ts xs := by
  cases t with
  | tup ts =>
    cases h
    cases r with
    | tup h1 h2 =>
      refine ⟨_, rfl, ⟨_, h1⟩, fun H' ρ' st' ts' f w' e => ?_⟩
      cases e
      exact ⟨_, f.e.sqT h1, h2.up f⟩
  | ref l =>
    simp only [seqOf] at h
    cases hl : st[l]? with
    | none => simp [hl] at h
    | some ob =>
      cases ob with
      | lst ts0 =>
        simp only [hl] at h
        cases h
        obtain ⟨a0, vs0, rfl, ha0, h0, r0⟩ := rep_lst w r hl
        refine ⟨_, rfl, ⟨_, SqL.of h0⟩, fun H' ρ' st' ts' f w' e => ?_⟩
        simp only at e
        split at e
        · rename_i ts3 h3
          cases e
          obtain ⟨vs2, h4, r4⟩ := w'.addr h3 (f.get ha0)
          exact ⟨_, SqL.of h4, r4⟩
        · cases e
      | dK kvs => simp [hl] at h
      | dN kvs => simp [hl] at h
      | lkK kvs => simp [hl] at h
      | lkN kvs => simp [hl] at h
  | rdl ns =>
    cases h
    cases r with
    | rdl hx =>
      refine ⟨_, rfl, ⟨_, hx.sq⟩, fun H' ρ' st' ts' f w' e => ?_⟩
      cases e
      exact ⟨_, (f.e.rdl hx).sq, reps_ints ns⟩
  | non => cases h
  | bl b => cases h
  | int i => cases h
  | str x => cases h
  | ptp x => cases h
def zipL (as bs : List T) : List T := List.zipWith (fun x y => T.tup [x, y]) as bs
def xiZip (fa fb : XE) : XI := fun e st => (fa e st).bind fun p => (fb e p.2).bind fun r => match seqOf p.1 r.2, seqOf r.1 r.2 with
  | some (b, i), some (c, j) => if b = c then some (fun st => (i st).bind fun xs => (j st).map fun ys => zipL xs ys, r.2) else none
  | _, _ => none
def enumL (n : Nat) : List T → List T
  | [] => []
  | t :: ts => .tup [.int (n : Nat), t] :: enumL (n + 1) ts
theorem enumL_get : ∀ {ts : List T} {n i : Nat}, (enumL n ts)[i]? = (ts[i]?).map fun t => .tup [.int ((n + i : Nat) : Int), t]
  | [], n, i => by simp [enumL]
  | t :: ts, n, 0 => by simp [enumL]
  | t :: ts, n, i + 1 => by
    simp only [enumL, List.getElem?_cons_succ]
    rw [enumL_get]
    have : n + 1 + i = n + (i + 1) := by omega
    rw [this]
theorem enumL_length : ∀ {ts : List T} {n : Nat}, (enumL n ts).length = ts.length
  | [], n => rfl
  | t :: ts, n => by simp [enumL, enumL_length]
def xiEnum (fa : XE) : XI := fun e st => (fa e st).bind fun p => match seqOf p.1 p.2 with
  | some (false, i) => some (fun st => (i st).map (enumL 0), p.2)
  | _ => none
section
variable {X : Cx} {a b : Expr} {fa fb : XE} {p pos tpos : Pos} {elts : List Expr} {kk : Nat}
theorem rep_pair {K : KX} {H : Hp} {ρ : List Addr} {T0 : Addr} {x y : V} {tx ty : T} (hT : H T0 = none) (rx : Rep K H ρ tx x) (ry : Rep K H ρ ty y) : Rep K (upd H T0 (.tup [x, y])) ρ (.tup [tx, ty]) (.ref T0) := by
  have f : Fut H (upd H T0 (.tup [x, y])) ρ ρ := fut_grow (grow_new hT)
  exact .tup (.inl (.inl upd_same)) (.cons (rx.up f) (.cons (ry.up f) .nil))
theorem it_zip (ha : ET X a fa) (hb : ET X b fb) (hm : X.mg "zip" = none) (hg : Gl X "zip" := by rfl) (hs : starEach [a, b] X.env = (false, eval a X.env) :: starEach [b] X.env := by rfl) (hs2 : starEach [b] X.env = (false, eval b X.env) :: starEach [] X.env := by rfl)
    (hpl : (backTo pos (starEach [b] X.env)).any (·.1) = false := by rfl) : IT X (.Tuple elts kk tpos) (.Call (.Name "zip" p) [a, b] [] pos) (xiZip fa fb) := by
  intro env st ρ σ H it st' s w e R q
  unfold xiZip at e
  cases h : fa env st with
  | none => simp [h] at e
  | some pr =>
    obtain ⟨t, s1⟩ := pr
    simp only [h, Option.bind_some] at e
    cases h2 : fb env s1 with
    | none => simp [h2] at e
    | some pr2 =>
      obtain ⟨t2, s2⟩ := pr2
      simp only [h2, Option.bind_some] at e
      cases k1 : seqOf t s2 with
      | none => simp [k1] at e
      | some bi =>
        obtain ⟨b1, i1⟩ := bi
        cases k2 : seqOf t2 s2 with
        | none => simp [k1, k2] at e
        | some bj =>
          obtain ⟨b2, i2⟩ := bj
          simp only [k1, k2] at e
          split at e
          · rename_i hbb
            subst hbb
            cases e
            refine Wi.of (RZ.pi_zipA hg hm (pa_cons We.pe (pa_cons We.pe pa_nil hs2) hs) hs hpl) ?_
            refine ha env st ρ σ H _ _ s w h _ fun v H1 ρ1 f1 w1 r1 => ?_
            refine hb env _ ρ1 σ H1 _ _ (s.up f1) w1 h2 _ fun v2 H2 ρ2 f2 w2 r2 => ?_
            obtain ⟨a1, rfl, ⟨xs1, q1⟩, g1⟩ := seq_at w2 (r1.up f2) k1
            obtain ⟨a2, rfl, ⟨xs2, q2⟩, g2⟩ := seq_at w2 r2 k2
            refine ⟨a1, a2, xs1, xs2, rfl, ?_⟩
            have fin : ∀ (J : It), (∀ i H3, (∃ (xs ys : List V) (x y : V), SqA b1 X.K H3 a1 xs ∧ SqA b1 X.K H3 a2 ys ∧ xs[i]? = some x ∧ ys[i]? = some y) → J.go i H3) →
                (∀ i H3, (∃ (xs ys : List V), SqA b1 X.K H3 a1 xs ∧ SqA b1 X.K H3 a2 ys ∧ (xs.length ≤ i ∨ ys.length ≤ i)) → J.stop i H3) →
                (∀ i H3 v H4, J.yld i H3 v H4 → ∃ T x y, v = .ref T ∧ H3 T = none ∧ H4 = upd H3 T (.tup [x, y]) ∧ (∀ xs, SqA b1 X.K H3 a1 xs → xs[i]? = some x) ∧ ∀ ys, SqA b1 X.K H3 a2 ys → ys[i]? = some y) →
                ItOk (kx X) H2 ρ2 (fun st => (i1 st).bind fun xs => (i2 st).map fun ys => zipL xs ys) J := by
              intro J hgo hstop hyld H3 ρ3 st3 ts3 f3 w3 e3 i
              cases c1 : i1 st3 with
              | none => simp [c1] at e3
              | some as =>
                cases c2 : i2 st3 with
                | none => simp [c1, c2] at e3
                | some bs =>
                  simp only [c1, c2, Option.bind_some, Option.map_some] at e3
                  cases e3
                  obtain ⟨ys1, p1, z1⟩ := g1 H3 ρ3 st3 as f3 w3 c1
                  obtain ⟨ys2, p2, z2⟩ := g2 H3 ρ3 st3 bs f3 w3 c2
                  have l1 := z1.length
                  have l2 := z2.length
                  have hl : (zipL as bs).length = min as.length bs.length := by simp [zipL]
                  refine ⟨fun hi => ?_, fun hi => ?_, fun x H4 hy => ?_⟩
                  · rw [hl] at hi
                    obtain ⟨v1, hv1, _⟩ := z1.get (List.getElem?_eq_getElem (by omega : i < as.length))
                    obtain ⟨v2, hv2, _⟩ := z2.get (List.getElem?_eq_getElem (by omega : i < bs.length))
                    exact hgo i H3 ⟨ys1, ys2, v1, v2, p1, p2, hv1, hv2⟩
                  · rw [hl] at hi
                    exact hstop i H3 ⟨ys1, ys2, p1, p2, by omega⟩
                  · obtain ⟨T0, x1, y1, rfl, hT, rfl, u1, u2⟩ := hyld i H3 x H4 hy
                    refine ⟨grow_new hT, fun t ht => ?_⟩
                    simp only [zipL, List.getElem?_zipWith] at ht
                    cases n1 : as[i]? with
                    | none => simp [n1] at ht
                    | some ta =>
                      cases n2 : bs[i]? with
                      | none => simp [n1, n2] at ht
                      | some tb =>
                        simp only [n1, n2, Option.some.injEq] at ht
                        subst ht
                        obtain ⟨v1, hv1, rv1⟩ := z1.get n1
                        obtain ⟨v2, hv2, rv2⟩ := z2.get n2
                        rw [u1 _ p1] at hv1
                        rw [u2 _ p2] at hv2
                        cases hv1; cases hv2
                        exact rep_pair hT rv1 rv2
            cases b1 with
            | true => exact .inr ⟨q1, q2, q _ H2 ρ2 (f1.trans f2) w2 (fin (RZ.ItzT X.K a1 a2) (fun i H3 h => h) (fun i H3 h => h) fun i H3 v H4 h => h)⟩
            | false => exact .inl ⟨q1, q2, q _ H2 ρ2 (f1.trans f2) w2 (fin (Itz X.K a1 a2) (fun i H3 h => h) (fun i H3 h => h) fun i H3 v H4 h => h)⟩
          · cases e
theorem it_enum (ha : ET X a fa) (hm : X.mg "enumerate" = none) (hg : Gl X "enumerate" := by rfl) (hs : starEach [a] X.env = [(false, eval a X.env)] := by rfl) (hs2 : starEach [a] X.env = (false, eval a X.env) :: starEach [] X.env := by rfl) :
    IT X (.Tuple elts kk tpos) (.Call (.Name "enumerate" p) [a] [] pos) (xiEnum fa) := by
  intro env st ρ σ H it st' s w e R q
  unfold xiEnum at e
  cases h : fa env st with
  | none => simp [h] at e
  | some pr =>
    obtain ⟨t, s1⟩ := pr
    simp only [h, Option.bind_some] at e
    cases k1 : seqOf t s1 with
    | none => simp [k1] at e
    | some bi =>
      obtain ⟨b1, i1⟩ := bi
      cases b1 with
      | true => simp [k1] at e
      | false =>
        simp only [k1] at e
        cases e
        refine Wi.of (pi_enum hg hm (pa_cons We.pe pa_nil hs2) hs) ?_
        refine ha env st ρ σ H _ _ s w h _ fun v H1 ρ1 f1 w1 r1 => ?_
        obtain ⟨a1, rfl, ⟨xs1, q1⟩, g1⟩ := seq_at w1 r1 k1
        refine ⟨a1, xs1, rfl, q1, q _ H1 ρ1 f1 w1 fun H3 ρ3 st3 ts3 f3 w3 e3 i => ?_⟩
        cases c1 : i1 st3 with
        | none => simp [c1] at e3
        | some as =>
          simp only [c1, Option.map_some] at e3
          cases e3
          obtain ⟨ys1, p1, z1⟩ := g1 H3 ρ3 st3 as f3 w3 c1
          have l1 := z1.length
          refine ⟨fun hi => ?_, fun hi => ?_, fun x H4 hy => ?_⟩
          · rw [enumL_length] at hi
            obtain ⟨v1, hv1, _⟩ := z1.get (List.getElem?_eq_getElem hi)
            exact ⟨ys1, v1, p1, hv1⟩
          · rw [enumL_length] at hi
            exact ⟨ys1, p1, by omega⟩
          · obtain ⟨T0, x1, rfl, hT, rfl, u1⟩ := hy
            refine ⟨grow_new hT, fun t ht => ?_⟩
            rw [enumL_get] at ht
            cases n1 : as[i]? with
            | none => simp [n1] at ht
            | some ta =>
              simp only [n1, Option.map_some, Option.some.injEq] at ht
              subst ht
              obtain ⟨v1, hv1, rv1⟩ := z1.get n1
              rw [u1 _ p1] at hv1
              cases hv1
              have e0 : ((0 + i : Nat) : Int) = ((i : Nat) : Int) := by omega
              rw [e0]
              exact rep_pair hT (.int _) rv1
end
end TL
/-! TL13 -/
set_option Elab.async false
set_option linter.all false
set_option maxRecDepth 100000
set_option maxHeartbeats 4000000
/-! enumerate of what begins an iterator; of tuples -/
namespace TL
variable [Tb]
open PySem PySem.Spec PyProof.Rows L2 PySem.W
theorem enum_new1 {v : Value} {o : Obj} {H : Heap → Prop} (B : Begins v o H) :
    Meets (Builtin.«enumerate.__new__» ⟨[.type "enumerate", v], []⟩) (fun _ R s => H s.heap ∧
      R (.ok (.ret (.ref (s.heap.push o).objs.size))) { s with heap := (s.heap.push o).push { cls := .type "enumerate", data := .fields #[.none, .bool false, .ref s.heap.objs.size, rawInt 0, .none, .none] } }) :=
  .of_wp fun prog w A R s h => by
    obtain ⟨hp, g, d, tk, os⟩ := s; obtain ⟨h1, h⟩ := h; have hsub := sub_enumerate
    have q1 : ∀ {A' : Around} {E : Value → Shared → Prop} {Q : Value → Shared → Prop}, Q (.ref hp.objs.size) ⟨hp.push o, g, d, tk, os⟩ → wpAny (model prog w) A' (pyIter v) Q E ⟨hp, g, d, tk, os⟩ := fun q => B.iter prog w _ _ ⟨hp, g, d, tk, os⟩ _ h1 q
    wp_walk using q1
    refine wpAny_stack_any fun st0 => wpAny_pure ?_
    split
    · rename_i c _ _ _ _ _; cases (c == Value.type "enumerate") <;> (wp_walk using q1; exact ⟨_, rfl, h⟩)
    · wp_walk using q1; exact ⟨_, rfl, h⟩
section
variable {prog : Program} {w : World} {A : Around} {E : Value → Shared → Prop} {s : Shared}
theorem enum_call1 {v : Value} {o : Obj} {H : Heap → Prop} {Q : Value → Shared → Prop} (B : Begins v o H) (h1 : H s.heap)
    (h : ∀ h', IsEnum h' (s.heap.objs.size + 1) s.heap.objs.size 0 .none → h'.get? s.heap.objs.size = some o → h'.objs.size = s.heap.objs.size + 2 → (∀ b u, s.heap.get? b = some u → h'.get? b = some u) → Q (.ref (s.heap.objs.size + 1)) { s with heap := h' }) :
    wpAny (model prog w) A (call (.type "enumerate") [v]) Q E s := by
  refine callType_new F.called_enumerate (by decide) (F.typeCall_enumerate_1 _) (F.newCall_enumerate_1 _) (fun obj => F.args_object_init_2 obj _) F.entry_enumerate_new (enum_new1 B) ⟨h1, ?_⟩
  have hz : (s.heap.push o).objs.size = s.heap.objs.size + 1 := Heap.size_push ..
  show _ ∧ _; rw [hz]
  have he : IsEnum ((s.heap.push o).push { cls := .type "enumerate", data := .fields #[.none, .bool false, .ref s.heap.objs.size, rawInt 0, .none, .none] }) (s.heap.objs.size + 1) s.heap.objs.size 0 .none := by
    have g := Heap.get?_push_size (s.heap.push o) (o := { cls := .type "enumerate", data := .fields #[.none, .bool false, .ref s.heap.objs.size, rawInt 0, .none, .none] }) rfl
    rw [hz] at g; exact g
  exact ⟨⟨_, he, rfl⟩, h _ he (Heap.get?_push_of_some _ (Heap.get?_push_size _ B.free)) (by rw [Heap.size_push, hz]) fun b u x => Heap.get?_push_of_some _ (Heap.get?_push_of_some _ x)⟩
end
theorem pyNext_enumT_end {prog : Program} {w : World} {A : Around} {E : Value → Shared → Prop} {s : Shared} {e it t : Addr} {i : Nat} {c : Int} {items : Array Value} {old : Value} {Q : Option Value → Shared → Prop} (hh : A.handled = none) (he : IsEnum s.heap e it c old) (hit : s.heap.IsTupleIter it t i) (ht : s.heap.IsTuple t items) (hx : items[i]? = none)
    (hQ : ∀ h', Heap.ExtBut it s.heap h' → Q none { s with heap := h' }) : wpAny (model prog w) A (pyNext (.ref e)) Q E s := by
  have hT : s.TypeIs (.ref e) "enumerate" := ⟨_, he, rfl⟩; unfold pyNext
  refine wpAny_bind (wpAny_attempt (wpAny_callSpecial?_slot (name := Str.ofString "__next__") hT F.slot_enumerate_next (wpAny_call_entry F.slot_enumerate_next hT F.entry_enumerate_next ?_ (F.args_enumerate_next_1 _))))
  show wpAny _ _ (field (.ref e) 2 >>= _) _ _ _; refine wpAny_bind (wpAny_field he rfl (x := .ref it) rfl ?_)
  refine wpAny_bind (wpAny_nextOf_tuple_end hh hit ht hx fun h' x he' hx' => ?_)
  obtain ⟨o, ho, hc⟩ := hx'; exact wpAny_bind (wpAny_isInstance (T := "StopIteration") (b := true) ⟨o, ho, hc⟩ isSubtype_stop (wpAny_pure (hQ _ he')))
/-- the tuple at a, each item in a new pair -/
def IteT (K : PySem.W.Frag) (a : Addr) : It :=
  ⟨fun i H => ∃ (xs : List V) (x : V), SqT K H a xs ∧ xs[i]? = some x, fun i H v H' => ∃ T x, v = .ref T ∧ H T = none ∧ H' = upd H T (.tup [.int (i : Nat), x]) ∧ ∀ xs, SqT K H a xs → xs[i]? = some x, fun i H => ∃ xs : List V, SqT K H a xs ∧ xs.length ≤ i⟩
theorem turn_enumT {P : Program} {w : World} {K : PySem.W.Frag} {elts : List Expr} {kk : Nat} {tpos : Pos} (a e it : Addr) :
    Turn P w K (.Tuple elts kk tpos) (IteT K a) [e, it] e (fun i h => (∃ old, IsEnum h e it ((i : Nat) : Int) old) ∧ h.IsTupleIter it a i ∧ e ≠ it ∧ a ≠ it ∧ a ≠ e) where
  mem := by simp
  obj := fun i h st b hb => by
    obtain ⟨⟨old, he⟩, ⟨o, ho, hc, hd⟩, _⟩ := st
    have e' : b = e ∨ b = it := by simpa using hb
    rcases e' with z | z
    · rw [z]; exact ⟨_, he, fun v q => nomatch q⟩
    · rw [z]; exact ⟨o, ho, fun v q => by rw [hd] at q; cases q⟩
  keep := fun i h h' st k => let ⟨⟨old, he⟩, hi, hne⟩ := st; ⟨⟨old, k e (by simp) _ he⟩, hi.at fun o q => k it (by simp) o q, hne⟩
  item := by
    intro X hP hw hK hc i pins s σ H E I hf st hg
    subst hP hw hK
    obtain ⟨⟨old, he⟩, hit, hne, ha1, ha2⟩ := st
    obtain ⟨xs, x, hq, hx⟩ := hg
    obtain ⟨its, rv, p, _⟩ := I.tuple hq
    obtain ⟨u, hu, ru⟩ := rv.get hx
    have hel : e < s.heap.objs.size := Heap.lt_size he
    have hil : it < s.heap.objs.size := by obtain ⟨_, q, _⟩ := hit; exact Heap.lt_size q
    have hsz := (Array.getElem?_eq_some_iff.mp (show its.toArray[i]? = some u by simpa using hu)).1
    refine wpAny_pyNext_enum_itemD (Draws.tuple (show X.A.in1.handled = none from I.ok.hd hc) it a ha1 its.toArray) he ⟨hit, p⟩ hsz hne (by simp; exact ⟨hne, Ne.symm ha2⟩) fun y h' tk hy ho hit' hT hsz hk => ?_
    have hy' : some y = some u := hy.symm.trans (by simpa using hu)
    cases hy'
    refine ⟨_, rfl, wpAny_letOwnedTupleGo_enum (s := { s with heap := h', toks := tk + 1 }) ho fun h'' he' sb => ?_⟩
    have hT2 : h''.get? s.heap.objs.size = some { cls := .type "tuple", data := .seq #[.int i tk, u] } := (sb.2 _ (Nat.ne_of_gt hel)).trans hT
    have new : ObjOk X.prog X.w (upd H s.heap.objs.size (.tup [.int (i : Nat), x])) h'' s.heap.objs.size (.tup [.int (i : Nat), x]) :=
      ⟨by show 2 ≤ sizeLine; decide, [.int i tk, u], .cons ⟨_, rfl⟩ (.cons ru .nil), ⟨_, hT2, rfl, _, rfl⟩⟩
    have I1 : Inv X pins σ (upd H s.heap.objs.size (.tup [.int (i : Nat), x])) { s with heap := h'', toks := tk + 1 } :=
      I.turnedNew (ch := [e, it]) (fun b ob hb q => (sb.2 b (fun z => hb (by simp [z]))).trans (hk b ob (fun z => hb (by simp [z])) (fun z => hb (by simp [z])) q)) hf (Nat.le_refl _) new
    refine ⟨.ref s.heap.objs.size, _, I1, rfl, ⟨_, x, rfl, I.hok.fresh (Nat.le_refl _), rfl, fun ys hy => by rw [I.tuple_inj hy hq]; exact hx⟩, ⟨⟨u, ?_⟩, hit'.1.at fun o q => (sb.2 it (Ne.symm hne)).trans q, hne, ha1, ha2⟩, fun b hb => ?_⟩
    · have e1 : ((i + 1 : Nat) : Int) = (i : Int) + 1 := by omega
      rw [e1]; exact he'
    · have hb' : b < s.heap.objs.size := by
        have e' : b = e ∨ b = it := by simpa using hb
        rcases e' with z | z
        · rw [z]; exact hel
        · rw [z]; exact hil
      rw [upd_ne (Nat.ne_of_lt hb')]; exact (hf b hb).1
  done := by
    intro X hP hw hK hc i pins s σ H E I hf st hg
    subst hP hw hK
    obtain ⟨⟨old, he⟩, hit, hne, ha1, ha2⟩ := st
    obtain ⟨xs, hq, hx⟩ := hg
    obtain ⟨its, rv, p, _⟩ := I.tuple hq
    obtain ⟨f0, f1, f2, f3, f4, f5⟩ := hf it (by simp)
    have hl := rv.length
    have hnone : its.toArray[i]? = none := by simp; omega
    refine pyNext_enumT_end (I.ok.hd hc) he hit p hnone fun h' eb => ⟨rfl, I.turned (t' := s.toks) (fun b o hb q => eb b o hb q) f0 f1 f3 f4 f5⟩
  self := fun A i s Q E st h => let ⟨⟨_, he⟩, _⟩ := st; wpAny_pyIter_enum he h
def iEnumT (K : PySem.W.Frag) (ta : TA) : TI := fun σ H R => ta σ H fun vs H1 => ∃ a xs, vs = [.ref a] ∧ SqT K H1 a xs ∧ R (IteT K a) H1
theorem pi_enumT {X : Cx} {e : Expr} {ta : TA} {p pos tpos : Pos} {elts : List Expr} {kk : Nat} (hg : Gl X "enumerate") (hm : X.mg "enumerate" = none) (ha : PA X [e] ta) (hs : starEach [e] X.env = [(false, eval e X.env)]) :
    PI X (.Tuple elts kk tpos) (.Call (.Name "enumerate" p) [e] [] pos) (iEnumT X.K ta) := by
  refine ⟨fun pins s σ H R I h => Call_ (ld_blt I hg hm boot_enumerate (PyProof.Rows.callWith_type1 (thn (ha.run pos pins s σ H _ I h) fun us s1 ⟨vs, H1, I1, r1, q1⟩ => ?_) hs rfl))⟩
  obtain ⟨a, xs, ex, hq, q⟩ := q1
  subst ex
  cases r1 with
  | cons r rr =>
    cases rr; cases r
    obtain ⟨its, rv, p', _⟩ := I1.tuple hq
    obtain ⟨oa, hoa, _⟩ := id p'
    have hal : a < s1.heap.objs.size := Heap.lt_size hoa
    refine enum_call1 (begins_tuple a its.toArray) p' fun h' he hit hsz hk => wpAny_pyIter_enum he ?_
    have I2 : Inv X pins σ H1 { s1 with heap := h' } := I1.kept (t' := s1.toks) hk
    refine ⟨s1.heap.objs.size + 1, [s1.heap.objs.size + 1, s1.heap.objs.size], _, _, H1, rfl, I2, turn_enumT a (s1.heap.objs.size + 1) s1.heap.objs.size, ⟨⟨.none, he⟩, ⟨_, hit, rfl, rfl⟩, Nat.succ_ne_self _, Nat.ne_of_lt hal, Nat.ne_of_lt (Nat.lt_succ_of_lt hal)⟩, fun b hb => ?_, q⟩
    have e' : b = s1.heap.objs.size + 1 ∨ b = s1.heap.objs.size := by simpa using hb
    have hle : s1.heap.objs.size ≤ b := by
      rcases e' with z | z
      · rw [z]; exact Nat.le_add_right _ _
      · rw [z]; exact Nat.le_refl _
    exact I1.fpOk hle (I1.hok.fresh hle)
def xiEnumT (fa : XE) : XI := fun e st => (fa e st).bind fun p => match seqOf p.1 p.2 with
  | some (true, i) => some (fun st => (i st).map (enumL 0), p.2)
  | _ => none
theorem it_enumT {X : Cx} {a : Expr} {fa : XE} {p pos tpos : Pos} {elts : List Expr} {kk : Nat} (ha : ET X a fa) (hm : X.mg "enumerate" = none) (hg : Gl X "enumerate" := by rfl) (hs : starEach [a] X.env = [(false, eval a X.env)] := by rfl) (hs2 : starEach [a] X.env = (false, eval a X.env) :: starEach [] X.env := by rfl) :
    IT X (.Tuple elts kk tpos) (.Call (.Name "enumerate" p) [a] [] pos) (xiEnumT fa) := by
  intro env st ρ σ H it st' s w e R q
  unfold xiEnumT at e
  cases h : fa env st with
  | none => simp [h] at e
  | some pr =>
    obtain ⟨t, s1⟩ := pr
    simp only [h, Option.bind_some] at e
    cases k1 : seqOf t s1 with
    | none => simp [k1] at e
    | some bi =>
      obtain ⟨b1, i1⟩ := bi
      cases b1 with
      | false => simp [k1] at e
      | true =>
        simp only [k1] at e
        cases e
        refine Wi.of (pi_enumT hg hm (pa_cons We.pe pa_nil hs2) hs) ?_
        refine ha env st ρ σ H _ _ s w h _ fun v H1 ρ1 f1 w1 r1 => ?_
        obtain ⟨a1, rfl, ⟨xs1, q1⟩, g1⟩ := seq_at w1 r1 k1
        refine ⟨a1, xs1, rfl, q1, q _ H1 ρ1 f1 w1 fun H3 ρ3 st3 ts3 f3 w3 e3 i => ?_⟩
        cases c1 : i1 st3 with
        | none => simp [c1] at e3
        | some as =>
          simp only [c1, Option.map_some] at e3
          cases e3
          obtain ⟨ys1, p1, z1⟩ := g1 H3 ρ3 st3 as f3 w3 c1
          have l1 := z1.length
          refine ⟨fun hi => ?_, fun hi => ?_, fun x H4 hy => ?_⟩
          · rw [enumL_length] at hi
            obtain ⟨v1, hv1, _⟩ := z1.get (List.getElem?_eq_getElem hi)
            exact ⟨ys1, v1, p1, hv1⟩
          · rw [enumL_length] at hi
            exact ⟨ys1, p1, by omega⟩
          · obtain ⟨T0, x1, rfl, hT, rfl, u1⟩ := hy
            refine ⟨grow_new hT, fun t ht => ?_⟩
            rw [enumL_get] at ht
            cases n1 : as[i]? with
            | none => simp [n1] at ht
            | some ta =>
              simp only [n1, Option.map_some, Option.some.injEq] at ht
              subst ht
              obtain ⟨v1, hv1, rv1⟩ := z1.get n1
              rw [u1 _ p1] at hv1
              cases hv1
              have e0 : ((0 + i : Nat) : Int) = ((i : Nat) : Int) := by omega
              rw [e0]
              exact rep_pair hT (.int _) rv1
/-- enumerate of a list or of a tuple: which of the two is told ahead -/
def isTupE (f : XE) (b : Bool) : XE := fun e st => (f e st).bind fun p => if (match p.1 with | .tup _ => true | _ => false) = b then some p else none
end TL
/-! TL14 -/
set_option Elab.async false
set_option linter.all false
set_option maxRecDepth 100000
set_option maxHeartbeats 4000000
/-! dicts on trees: looked up, asked, written, displayed, by comprehensions; sorted -/
namespace TL
variable [Tb]
open PySem PySem.Spec PyProof.Rows L2
/-! ### iterables of either kind -/
def xiEnumA (fa : XE) : XI := fun e st => (fa e st).bind fun p => match seqOf p.1 p.2 with
  | some (_, i) => some (fun st => (i st).map (enumL 0), p.2)
  | _ => none
theorem it_enumA {X : Cx} {a : Expr} {fa : XE} {p pos tpos : Pos} {elts : List Expr} {kk : Nat} (ha : ET X a fa) (hm : X.mg "enumerate" = none) (hg : Gl X "enumerate" := by rfl) (hs : starEach [a] X.env = [(false, eval a X.env)] := by rfl) (hs2 : starEach [a] X.env = (false, eval a X.env) :: starEach [] X.env := by rfl) :
    IT X (.Tuple elts kk tpos) (.Call (.Name "enumerate" p) [a] [] pos) (xiEnumA fa) := by
  intro env st ρ σ H it st' s w e R q
  unfold xiEnumA at e
  cases h : fa env st with
  | none => simp [h] at e
  | some pr =>
    obtain ⟨t, s1⟩ := pr
    simp only [h, Option.bind_some] at e
    cases k1 : seqOf t s1 with
    | none => simp [k1] at e
    | some bi =>
      obtain ⟨b1, i1⟩ := bi
      cases b1 with
      | true => exact it_enumT ha hm hg hs hs2 env st ρ σ H it st' s w (by unfold xiEnumT; simp only [h, Option.bind_some, k1]; simpa [k1] using e) R q
      | false => exact it_enum ha hm hg hs hs2 env st ρ σ H it st' s w (by unfold xiEnum; simp only [h, Option.bind_some, k1]; simpa [k1] using e) R q
/-! ### keys that are ints or texts -/
def toKy : T → Option Key
  | .int i => some (.inl i)
  | .str x => some (.inr x)
  | _ => none
def unKy : Key → T
  | .inl i => .int i
  | .inr x => .str x
theorem toKy_un {t : T} {k : Key} (h : toKy t = some k) : t = unKy k := by
  cases t <;> cases h <;> rfl
theorem ky_rep {K : KX} {H : Hp} {ρ : List Addr} {t : T} {k : Key} {v : V} (h : toKy t = some k) (r : Rep K H ρ t v) : v = kV k := by
  cases t <;> cases h <;> cases r <;> rfl
theorem un_rep {K : KX} {H : Hp} {ρ : List Addr} (k : Key) : Rep K H ρ (unKy k) (kV k) := by
  cases k
  · exact .int _
  · exact .str _
def lookK (kvs : List (Key × T)) (k : Key) : Option T := (kvs.find? fun p => decide (p.1 = k)).map (·.2)
def storeK (kvs : List (Key × T)) (k : Key) (u : T) : List (Key × T) := if (kvs.any fun p => decide (p.1 = k)) = true then kvs.map (fun p => if p.1 = k then (p.1, u) else p) else kvs ++ [(k, u)]
/-- two dicts that tell the same -/
structure RepK (K : KX) (H : Hp) (ρ : List Addr) (kvs : List (Key × T)) (kws : List (Key × V)) : Prop where
  k : kvs.map (·.1) = kws.map (·.1)
  v : Reps K H ρ (kvs.map (·.2)) (kws.map (·.2))
section
variable {K : KX} {H H' : Hp} {ρ ρ' : List Addr}
theorem RepK.up {kvs : List (Key × T)} {kws : List (Key × V)} (r : RepK K H ρ kvs kws) (f : Fut H H' ρ ρ') : RepK K H' ρ' kvs kws := ⟨r.k, r.v.up f⟩
theorem RepK.len {kvs : List (Key × T)} {kws : List (Key × V)} (r : RepK K H ρ kvs kws) : kvs.length = kws.length := by simpa using congrArg List.length r.k
theorem RepK.look : ∀ {kvs : List (Key × T)} {kws : List (Key × V)} (k : Key), RepK K H ρ kvs kws → match lookK kvs k, valV kws k with
    | some u, some v => Rep K H ρ u v
    | none, none => True
    | _, _ => False
  | [], [], k, r => True.intro
  | [], _ :: _, k, r => by have := r.len; simp at this
  | _ :: _, [], k, r => by have := r.len; simp at this
  | p :: kvs, q :: kws, k, r => by
    have h1 : p.1 = q.1 := by have := r.k; simp at this; exact this.1
    have h2 : kvs.map (·.1) = kws.map (·.1) := by have := r.k; simp at this; exact this.2
    have r1 := r.v
    rw [List.map_cons, List.map_cons] at r1
    cases r1 with
    | cons a b =>
      by_cases e : p.1 = k
      · rw [valV_pos (show q.1 = k from h1 ▸ e)]
        have : lookK (p :: kvs) k = some p.2 := by simp [lookK, List.find?_cons, e]
        rw [this]
        exact a
      · rw [valV_neg (show ¬ q.1 = k from fun z => e (h1 ▸ z))]
        have : lookK (p :: kvs) k = lookK kvs k := by simp [lookK, List.find?_cons, e]
        rw [this]
        exact RepK.look k ⟨h2, b⟩
theorem any_keys {α β : Type} {xs : List (Key × α)} {ys : List (Key × β)} (h : xs.map (·.1) = ys.map (·.1)) (k : Key) : (xs.any fun p => decide (p.1 = k)) = ys.any fun p => decide (p.1 = k) := by
  have a : (xs.any fun p => decide (p.1 = k)) = (xs.map (·.1)).any fun z => decide (z = k) := by rw [List.any_map]; rfl
  have b : (ys.any fun p => decide (p.1 = k)) = (ys.map (·.1)).any fun z => decide (z = k) := by rw [List.any_map]; rfl
  rw [a, b, h]
theorem RepK.put {kvs : List (Key × T)} {kws : List (Key × V)} {k : Key} {u : T} {v : V} (r : RepK K H ρ kvs kws) (ru : Rep K H ρ u v) : RepK K H ρ (storeK kvs k u) (putK kws k v) := by
  unfold storeK putK
  have e := any_keys r.k k
  by_cases h : (kvs.any fun p => decide (p.1 = k)) = true
  · rw [if_pos h, if_pos (e ▸ h)]
    clear h e
    induction kvs generalizing kws with
    | nil =>
      cases kws with
      | nil => exact ⟨rfl, .nil⟩
      | cons q kws => have := r.len; simp at this
    | cons p kvs ih =>
      cases kws with
      | nil => have := r.len; simp at this
      | cons q kws =>
        have h1 : p.1 = q.1 := by have := r.k; simp at this; exact this.1
        have h2 : kvs.map (·.1) = kws.map (·.1) := by have := r.k; simp at this; exact this.2
        have r1 := r.v
        rw [List.map_cons, List.map_cons] at r1
        cases r1 with
        | cons a b =>
          obtain ⟨i1, i2⟩ := ih ⟨h2, b⟩
          by_cases z : p.1 = k
          · refine ⟨?_, ?_⟩
            · simp only [List.map_cons, if_pos z, if_pos (show q.1 = k from h1 ▸ z), h1, i1]
            · simp only [List.map_cons, if_pos z, if_pos (show q.1 = k from h1 ▸ z)]
              exact .cons ru i2
          · refine ⟨?_, ?_⟩
            · simp only [List.map_cons, if_neg z, if_neg (show ¬ q.1 = k from fun y => z (h1 ▸ y)), h1, i1]
            · simp only [List.map_cons, if_neg z, if_neg (show ¬ q.1 = k from fun y => z (h1 ▸ y))]
              exact .cons a i2
  · rw [if_neg h, if_neg (e ▸ h)]
    refine ⟨?_, ?_⟩
    · simp [r.k]
    · rw [List.map_append, List.map_append]
      exact r.v.app (.cons ru .nil)
end
/-! ### either kind -/
def isTup : T → Bool
  | .tup _ => true
  | _ => false
def dLook (o : Ob) (t : T) : Option (Option T) := match o with
  | .dK kvs => (toKy t).map (lookK kvs)
  | .dN kvs => if isTup t then (toNK nkd t).map (lookD kvs) else none
  | _ => none
def dStore (o : Ob) (t u : T) : Option Ob := match o with
  | .dK kvs => if kvs.length < sizeLine then (toKy t).map fun k => .dK (storeK kvs k u) else none
  | .dN kvs => if kvs.length < sizeLine ∧ isTup t = true then (toNK nkd t).map fun k => .dN (storeD kvs t k u) else none
  | _ => none
def dAt (t : T) (st : Store) : Option (Nat × Ob) := match t with
  | .ref l => (st[l]?).map fun o => (l, o)
  | _ => none
def ixD : F2 := fun x y st => (dAt x st).bind fun d => (dLook d.2 y).bind fun r => r.map fun u => (u, st)
def inD (neg : Bool) : F2 := fun x y st => (dAt y st).bind fun d => (dLook d.2 x).map fun r => (.bl (if neg then !r.isSome else r.isSome), st)
def setD (o i v : T) (st : Store) : Option Store := (dAt o st).bind fun d => (dStore d.2 i v).map fun n => st.set d.1 n
section
variable {X : Cx} {H : Hp} {ρ : List Addr} {st : Store}
theorem dAt_inv {t : T} {d : Nat × Ob} (h : dAt t st = some d) : t = .ref d.1 ∧ st[d.1]? = some d.2 := by
  cases t with
  | ref l =>
    cases e : st[l]? with
    | none => simp [dAt, e] at h
    | some o => simp only [dAt, e, Option.map_some, Option.some.injEq] at h; subst h; exact ⟨rfl, e⟩
  | non => cases h
  | bl b => cases h
  | int i => cases h
  | str i => cases h
  | tup i => cases h
  | rdl i => cases h
  | ptp i => cases h
theorem dK_at (w : Wd (kx X) ρ st H) {l : Nat} {kvs : List (Key × T)} {v : V} (r : Rep (kx X) H ρ (.ref l) v) (e : st[l]? = some (.dK kvs)) : ∃ a kws, v = .ref a ∧ ρ[l]? = some a ∧ H a = some (.dK kws) ∧ RepK (kx X) H ρ kvs kws := by
  cases r with
  | ref ha =>
    obtain ⟨kws, h1, h2, h3⟩ := w.addr e ha
    exact ⟨_, kws, rfl, ha, h1, h2, h3⟩
theorem dN_at (w : Wd (kx X) ρ st H) {l : Nat} {kvs : List (T × T)} {v : V} (r : Rep (kx X) H ρ (.ref l) v) (e : st[l]? = some (.dN kvs)) : ∃ a xs, v = .ref a ∧ ρ[l]? = some a ∧ DnAt X H ρ a kvs xs := by
  cases r with
  | ref ha =>
    obtain ⟨xs, h1, h2⟩ := w.addr e ha
    exact ⟨_, xs, rfl, ha, h1, h2⟩
theorem tup_ref {K : KX} {t : T} {v : V} (h : isTup t = true) (r : Rep K H ρ t v) : ∃ b, v = .ref b := by
  cases r <;> first | exact ⟨_, rfl⟩ | cases h
theorem op_inK (neg : Bool) (hu : X.A.units + 1 < cLine) : OpR X (compareOp (if neg then .NotIn else .In)) (fun x y H Q => ∃ a o, y = .ref a ∧ DGet H a x o ∧ Q (.bl (if neg then !o.isSome else o.isSome)) H) := by
  intro pins s σ H x y v u Q I rx ry h
  obtain ⟨a, o, rfl, g, q⟩ := h
  cases ry
  cases neg with
  | false => exact d_in hu I g rx fun s' I' => ⟨.bl _, H, I', rfl, q⟩
  | true => exact d_notIn hu I g rx fun s' I' => ⟨.bl _, H, I', rfl, q⟩
theorem ot_inD (neg : Bool) (hu : X.A.units + 65 < cLine) : OpT X (compareOp (if neg then .NotIn else .In)) (inD neg) := by
  intro ρ st H x y t st' vx vy w rx ry e Q q
  unfold inD at e
  cases h : dAt y st with
  | none => simp [h] at e
  | some d =>
    obtain ⟨l, ob⟩ := d
    obtain ⟨rfl, hl⟩ := dAt_inv h
    simp only [h, Option.bind_some] at e
    cases h2 : dLook ob x with
    | none => simp [h2] at e
    | some r =>
      simp only [h2, Option.map_some] at e
      cases e
      cases ob with
      | lkK ts => cases h2
      | lkN ts => cases h2
      | lst ts => cases h2
      | dK kvs =>
        simp only [dLook] at h2
        cases h3 : toKy x with
        | none => simp [h3] at h2
        | some k =>
          simp only [h3, Option.map_some, Option.some.injEq] at h2
          obtain ⟨a, kws, rfl, ha, h4, r4⟩ := dK_at w ry hl
          refine ⟨_, op_inK neg (by omega), a, valV kws k, rfl, by rw [ky_rep h3 rx]; exact .k h4, ?_⟩
          have := r4.look k
          have e : (valV kws k).isSome = r.isSome := by
            rw [← h2]
            cases c1 : lookK kvs k <;> cases c2 : valV kws k <;> rw [c1, c2] at this <;> first | rfl | exact this.elim
          rw [e]
          exact q _ _ _ (Fut.refl _ _) w (.bl _)
      | dN kvs =>
        simp only [dLook] at h2
        split at h2
        · rename_i ht
          cases h3 : toNK nkd x with
          | none => simp [h3] at h2
          | some k =>
            simp only [h3, Option.map_some, Option.some.injEq] at h2
            obtain ⟨a, xs, rfl, ha, d⟩ := dN_at w ry hl
            obtain ⟨b, rfl⟩ := tup_ref ht rx
            refine ⟨_, op_inN neg (by omega), a, b, ρ, kvs, xs, x, k, rfl, rfl, d, h3, rx, ?_⟩
            rw [h2]
            exact q _ _ _ (Fut.refl _ _) w (.bl _)
        · cases h2
theorem ix_K (hu : X.A.units + 1 < cLine) : IxR X (fun x y H Q => ∃ a kws k v, x = .ref a ∧ y = kV k ∧ H a = some (.dK kws) ∧ valV kws k = some v ∧ Q v H) := by
  intro value slice pins s σ H x y v0 u0 Q I rx ry h hs
  obtain ⟨a, kws, k, v, rfl, rfl, h1, h2, q⟩ := h
  cases rx
  obtain ⟨z, hd, vs, rel, dd⟩ := dk_rd I.hok (.inl h1)
  obtain ⟨w', hw, rw'⟩ := RelO.some_of (v := v) (o := valueAt vs k) (by rw [← h2]; exact rel.val k)
  exact subscriptTail_builtinR (x := w') dd.typeIs PySem.F.slot_dict_getitem.lookup (wpAny_getItem_of (Q := fun r s' => r = w' ∧ EP X pins σ Q r s') (kV_is ry) dd.mapOf hw ⟨rfl, v, H, I.tok _, rw', q⟩) hs
theorem xt_ixD (hu : X.A.units + 65 < cLine) : IxT X ixD := by
  intro ρ st H x y t st' vx vy w rx ry e Q q
  unfold ixD at e
  cases h : dAt x st with
  | none => simp [h] at e
  | some d =>
    obtain ⟨l, ob⟩ := d
    obtain ⟨rfl, hl⟩ := dAt_inv h
    simp only [h, Option.bind_some] at e
    cases h2 : dLook ob y with
    | none => simp [h2] at e
    | some r =>
      simp only [h2, Option.bind_some] at e
      cases r with
      | none => cases e
      | some u =>
        cases e
        cases ob with
        | lkK ts => cases h2
        | lkN ts => cases h2
        | lst ts => cases h2
        | dK kvs =>
          simp only [dLook] at h2
          cases h3 : toKy y with
          | none => simp [h3] at h2
          | some k =>
            simp only [h3, Option.map_some, Option.some.injEq] at h2
            obtain ⟨a, kws, rfl, ha, h4, r4⟩ := dK_at w rx hl
            have l4 := r4.look k
            rw [h2] at l4
            cases c2 : valV kws k with
            | none => rw [c2] at l4; exact l4.elim
            | some v =>
              rw [c2] at l4
              exact ⟨_, ix_K (by omega), a, kws, k, v, rfl, ky_rep h3 ry, h4, c2, q _ _ _ (Fut.refl _ _) w l4⟩
        | dN kvs =>
          simp only [dLook] at h2
          split at h2
          · rename_i ht
            cases h3 : toNK nkd y with
            | none => simp [h3] at h2
            | some k =>
              simp only [h3, Option.map_some, Option.some.injEq] at h2
              obtain ⟨a, xs, rfl, ha, d⟩ := dN_at w rx hl
              obtain ⟨b, rfl⟩ := tup_ref ht ry
              exact ⟨_, ix_N (by omega), a, b, ρ, kvs, xs, y, k, t, rfl, rfl, d, h3, ry, h2, fun v r => q _ _ _ (Fut.refl _ _) w r⟩
          · cases h2
/-- lists, tuples, texts, dicts -/
def ixA : F2 := fun x y st => match dAt x st with
  | some (_, .dK _) => ixD x y st
  | some (_, .dN _) => ixD x y st
  | _ => ixT x y st
theorem xt_ixA (hu : X.A.units + 65 < cLine) : IxT X ixA := by
  intro ρ st H x y t st' vx vy w rx ry e Q q
  unfold ixA at e
  split at e
  · exact xt_ixD hu ρ st H x y t st' vx vy w rx ry e Q q
  · exact xt_ixD hu ρ st H x y t st' vx vy w rx ry e Q q
  · exact xt_ix ρ st H x y t st' vx vy w rx ry e Q q
def inA (neg : Bool) : F2 := fun x y st => match dAt y st with
  | some (_, .dK _) => inD neg x y st
  | some (_, .dN _) => inD neg x y st
  | _ => inT neg x y st
theorem ot_inA (neg : Bool) (hu : X.A.units + 65 < cLine) : OpT X (compareOp (if neg then .NotIn else .In)) (inA neg) := by
  intro ρ st H x y t st' vx vy w rx ry e Q q
  unfold inA at e
  split at e
  · exact ot_inD neg hu ρ st H x y t st' vx vy w rx ry e Q q
  · exact ot_inD neg hu ρ st H x y t st' vx vy w rx ry e Q q
  · cases neg with
    | false => exact ot_in hu ρ st H x y t st' vx vy w rx ry e Q q
    | true => exact ot_notin hu ρ st H x y t st' vx vy w rx ry e Q q
end
end TL
/-! TL15 -/
set_option Elab.async false
set_option linter.all false
set_option maxRecDepth 100000
set_option maxHeartbeats 4000000
namespace TL
variable [Tb]
open PySem PySem.Spec PyProof.Rows L2
section
variable {X : Cx} {ρ : List Addr} {st : Store}
theorem setD_ok (hu : X.A.units + 65 < cLine) {st' : Store} {H : Hp} {o i v : T} {vo vi vv : V} (w : Wd (kx X) ρ st H) (ro : Rep (kx X) H ρ o vo) (ri : Rep (kx X) H ρ i vi) (rv : Rep (kx X) H ρ v vv) (e : setD o i v st = some st') (Q : Hp → Prop) (q : ∀ H', Fut H H' ρ ρ → Wd (kx X) ρ st' H' → Q H') : SetU X vo vi vv H Q := by
  unfold setD at e
  cases h : dAt o st with
  | none => simp [h] at e
  | some d =>
    obtain ⟨l, ob⟩ := d
    obtain ⟨rfl, hl⟩ := dAt_inv h
    simp only [h, Option.bind_some] at e
    cases h2 : dStore ob i v with
    | none => simp [h2] at e
    | some n =>
      simp only [h2, Option.map_some] at e
      cases e
      cases ob with
      | lkK ts => cases h2
      | lkN ts => cases h2
      | lst ts => cases h2
      | dK kvs =>
        simp only [dStore] at h2
        split at h2
        · rename_i hz
          cases h3 : toKy i with
          | none => simp [h3] at h2
          | some k =>
            simp only [h3, Option.map_some, Option.some.injEq] at h2
            subst h2
            obtain ⟨a, kws, rfl, ha, h4, r4⟩ := dK_at w ro hl
            obtain ⟨u0, h0, i0⟩ := w.there hl ha
            have f0 : Fut H (upd H a (.dK (putK kws k vv))) ρ ρ := ⟨Ext.mut h0 i0, [], by simp⟩
            have r5 := (r4.put (k := k) rv).up f0
            obtain ⟨w1, f⟩ := w.put (o := .dK (storeK kvs k v)) h0 i0 ha ⟨putK kws k vv, upd_same, r5.k, r5.v⟩
            refine ⟨_, set_dict (by omega), a, _, rfl, ?_, q _ f w1⟩
            rw [ky_rep h3 ri]
            exact .k h4 (by rw [← r4.len]; exact hz)
        · cases h2
      | dN kvs =>
        simp only [dStore] at h2
        split at h2
        · rename_i hz
          cases h3 : toNK nkd i with
          | none => simp [h3] at h2
          | some k =>
            simp only [h3, Option.map_some, Option.some.injEq] at h2
            subst h2
            obtain ⟨a, xs, rfl, ha, d⟩ := dN_at w ro hl
            obtain ⟨b, rfl⟩ := tup_ref hz.2 ri
            obtain ⟨u0, h0, i0⟩ := w.there hl ha
            have f0 : Fut H (upd H a (dnO (kx X) a (storeX xs k b vv))) ρ ρ := ⟨Ext.mut h0 i0, [], by simp⟩
            obtain ⟨w1, f⟩ := w.put (o := .dN (storeD kvs i k v)) h0 i0 ha ⟨_, upd_same, (repd_store d.r h3 ri rv).up f0⟩
            exact ⟨_, set_N (by omega), a, b, ρ, kvs, xs, i, k, rfl, rfl, d, h3, ri, by rw [← repd_len d.r]; exact hz.1, q _ f w1⟩
        · cases h2
def setA (o i v : T) (st : Store) : Option Store := match dAt o st with
  | some (_, .dK _) => setD o i v st
  | some (_, .dN _) => setD o i v st
  | _ => setIxT o i v st
theorem setA_ok (hu : X.A.units + 65 < cLine) {st' : Store} {H : Hp} {o i v : T} {vo vi vv : V} (w : Wd (kx X) ρ st H) (ro : Rep (kx X) H ρ o vo) (ri : Rep (kx X) H ρ i vi) (rv : Rep (kx X) H ρ v vv) (e : setA o i v st = some st') (Q : Hp → Prop) (q : ∀ H', Fut H H' ρ ρ → Wd (kx X) ρ st' H' → Q H') : SetU X vo vi vv H Q := by
  unfold setA at e
  split at e
  · exact setD_ok hu w ro ri rv e Q q
  · exact setD_ok hu w ro ri rv e Q q
  · exact set_ok w ro ri rv e Q q
def xgSubA (o i : XE) : XG := fun t e st => (o e st).bind fun p => (i e p.2).bind fun q => (setA p.1 q.1 t q.2).map fun s => (e, s)
theorem gt_subA {o i : Expr} {fo fi : XE} {pos : Pos} (hu : X.A.units + 65 < cLine) (ho : ET X o fo) (hi : ET X i fi)
    (ha : ∀ v, assign (.Subscript o i pos) X.env v = (do
      let ov ← holding [v] (eval o X.env)
      let iv ← holding [v, ov] (eval i X.env)
      standAt pos
      holding [v, ov, iv] (setItem ov iv v)
      release [v, ov, iv] []) := by intro _; rfl) : GT X (.Subscript o i pos) [] (xgSubA fo fi) := by
  intro env st ρ σ H t v e' st' s w rt e Q q
  unfold xgSubA at e
  cases h1 : fo env st with
  | none => simp [h1] at e
  | some p =>
    obtain ⟨to, s1⟩ := p
    simp only [h1, Option.bind_some] at e
    cases h2 : fi env s1 with
    | none => simp [h2] at e
    | some p =>
      obtain ⟨ti, s2⟩ := p
      simp only [h2, Option.bind_some] at e
      cases h3 : setA to ti t s2 with
      | none => simp [h3] at e
      | some s3 =>
        simp only [h3, Option.map_some] at e
        cases e
        refine Wg.of (pg_sub We.pe We.pe SetU.ok ha) ?_
        refine ho env st ρ σ H to s1 s w h1 _ fun vo H1 ρ1 f1 w1 r1 => ?_
        refine hi env s1 ρ1 σ H1 ti s2 (s.up f1) w1 h2 _ fun vi H2 ρ2 f2 w2 r2 => ?_
        refine setA_ok hu w2 (r1.up f2) r2 (rt.up (f1.trans f2)) h3 _ fun H3 f3 w3 => ?_
        exact q σ H3 ρ2 ((f1.trans f2).trans f3) w3 (s.up ((f1.trans f2).trans f3)) (Away.refl _ _)
/-! ### displays -/
def xDictK : XE := fun _ st => some (.ref st.length, st ++ [.dK []])
def xDictN : XE := fun _ st => some (.ref st.length, st ++ [.dN []])
theorem et_dictK {pos : Pos} : ET X (.Dict [] [] pos) xDictK := by
  intro env st ρ σ H t st' s w e Q q
  cases e
  refine We.of pe_dnewK fun p hp => ?_
  obtain ⟨w2, f2⟩ := w.push (o := .dK []) (u := .dK []) hp ⟨[], upd_same, rfl, .nil⟩
  exact q _ _ _ f2 w2 (.ref (by rw [← w.len, List.getElem?_append_right (Nat.le_refl _)]; simp))
theorem et_dictN {pos : Pos} : ET X (.Dict [] [] pos) xDictN := by
  intro env st ρ σ H t st' s w e Q q
  cases e
  refine We.of pe_dnewN fun p hp => ?_
  obtain ⟨w2, f2⟩ := w.push (o := .dN []) (u := dnO (kx X) p []) hp ⟨[], upd_same, .nil⟩
  exact q _ _ _ f2 w2 (.ref (by rw [← w.len, List.getElem?_append_right (Nat.le_refl _)]; simp))
/-! ### sorted ints, of a list or of the keys of a dict -/
def insI (x : Int) : List Int → List Int
  | [] => [x]
  | y :: ys => if x ≤ y then x :: y :: ys else y :: insI x ys
def sortI : List Int → List Int
  | [] => []
  | x :: xs => insI x (sortI xs)
theorem insI_perm (x : Int) : ∀ ys, (insI x ys).Perm (x :: ys)
  | [] => .refl _
  | y :: ys => by
    unfold insI
    split
    · exact .refl _
    · exact ((insI_perm x ys).cons y).trans (.swap x y ys)
theorem sortI_perm : ∀ xs, (sortI xs).Perm xs
  | [] => .refl _
  | x :: xs => (insI_perm x _).trans ((sortI_perm xs).cons x)
theorem insI_rise (x : Int) : ∀ ys, ys.Pairwise (· ≤ ·) → (insI x ys).Pairwise (· ≤ ·)
  | [], _ => by simp [insI]
  | y :: ys, h => by
    unfold insI
    have h1 := List.pairwise_cons.mp h
    split
    · rename_i hxy
      refine List.pairwise_cons.mpr ⟨fun a ha => ?_, h⟩
      rcases List.mem_cons.mp ha with e | ha
      · rw [e]; exact hxy
      · exact Int.le_trans hxy (h1.1 a ha)
    · rename_i hxy
      refine List.pairwise_cons.mpr ⟨fun a ha => ?_, insI_rise x ys h1.2⟩
      rcases List.mem_cons.mp ((insI_perm x ys).mem_iff.mp ha) with e | ha
      · rw [e]; omega
      · exact h1.1 a ha
theorem sortI_rise : ∀ xs, (sortI xs).Pairwise (· ≤ ·)
  | [] => List.Pairwise.nil
  | x :: xs => insI_rise x _ (sortI_rise xs)
theorem sortI_one {xs ys : List Int} (h : ys.Perm xs) (r : ys.Pairwise (· ≤ ·)) : ys = sortI xs :=
  List.Perm.eq_of_pairwise (fun a b _ _ h1 h2 => Int.le_antisymm h1 h2) r (sortI_rise xs) (h.trans (sortI_perm xs).symm)
def keysI : List (Key × T) → Option (List Int)
  | [] => some []
  | (.inl i, _) :: r => (keysI r).map (i :: ·)
  | _ :: _ => none
theorem keysI_map : ∀ {kvs : List (Key × T)} {is : List Int}, keysI kvs = some is → kvs.map (·.1) = is.map Sum.inl
  | [], is, h => by cases h; rfl
  | (.inl i, u) :: r, is, h => by
    unfold keysI at h
    cases e : keysI r with
    | none => rw [e] at h; cases h
    | some js =>
      rw [e] at h
      cases h
      rw [List.map_cons, List.map_cons, keysI_map e]
  | (.inr x, u) :: r, is, h => by cases h
def sortedT : FA := fun ts st => match ts with
  | [.ref l] => match st[l]? with
    | some (.lst ts) => (intsOf ts).map fun is => (.ref st.length, st ++ [.lst ((sortI is).map T.int)])
    | some (.dK kvs) => (keysI kvs).bind fun is => if is.length < 64 then some (.ref st.length, st ++ [.lst ((sortI is).map T.int)]) else none
    | _ => none
  | _ => none
theorem ct_sorted (hc : X.calm = true) : CallT X (.builtin "sorted") sortedT := by
  intro ρ st H ts t st' vs w rs e Q q
  unfold sortedT at e
  split at e
  · rename_i l
    cases rs with
    | cons r1 r2 =>
      cases r2
      split at e
      · rename_i ts hl
        cases h : intsOf ts with
        | none => rw [h] at e; cases e
        | some is =>
          rw [h] at e
          cases e
          obtain ⟨a, us, rfl, _, h1, r3⟩ := rep_lst w r1 hl
          refine ⟨_, cr_sortedI, a, is, rfl, by rw [← ints_rep h r3]; exact SqL.of h1, fun ns' p perm rise hp => ?_⟩
          rw [sortI_one perm rise]
          obtain ⟨w2, f2⟩ := w.push (o := .lst ((sortI is).map T.int)) (u := .lst ((sortI is).map V.int)) hp ⟨_, upd_same, reps_ints _⟩
          exact q _ _ _ f2 w2 (.ref (by rw [← w.len, List.getElem?_append_right (Nat.le_refl _)]; simp))
      · rename_i kvs hl
        cases h : keysI kvs with
        | none => rw [h] at e; cases e
        | some is =>
          simp only [h, Option.bind_some] at e
          split at e
          · rename_i hz
            cases e
            obtain ⟨a, kws, rfl, _, h1, r3⟩ := dK_at w r1 hl
            refine ⟨_, call_sortedDI hc, a, kws, is, rfl, .inl h1, by rw [← r3.k]; exact keysI_map h, hz, fun ns' p perm rise hp => ?_⟩
            rw [sortI_one perm rise]
            obtain ⟨w2, f2⟩ := w.push (o := .lst ((sortI is).map T.int)) (u := .lst ((sortI is).map V.int)) hp ⟨_, upd_same, reps_ints _⟩
            exact q _ _ _ f2 w2 (.ref (by rw [← w.len, List.getElem?_append_right (Nat.le_refl _)]; simp))
          · cases e
      · cases e
  · cases e
end
end TL
/-! TL16 -/
set_option Elab.async false
set_option linter.all false
set_option maxRecDepth 100000
set_option maxHeartbeats 4000000
namespace TL
variable [Tb]
open PySem PySem.Spec PyProof.Rows L2
/-! ### the greatest of a list of ints, or what is told for none -/
def maxI (x : Int) (xs : List Int) : Int := xs.foldl (fun a y => if a < y then y else a) x
theorem maxI_of (x : Int) (xs : List Int) : PySem.W.maxOf x xs = maxI x xs := by
  unfold PySem.W.maxOf maxI
  have e : (fun (a y : Int) => if PySem.W.DatumOrd.lt a y = true then y else a) = fun a y => if a < y then y else a := by
    funext a y
    show (if decide (a < y) = true then y else a) = _
    simp only [decide_eq_true_eq]
  rw [e]
def rMaxDef (K : PySem.W.Frag) : List V → List V → Hp → VK → Prop := fun vs zs H Q => ∃ (a : Addr) (ns : List Int) (d : V), vs = [.ref a] ∧ zs = [d] ∧ SqL K H a (ns.map V.int) ∧ (match ns with | [] => Q d H | n :: r => Q (.int (maxI n r)) H)
section
variable {X : Cx}
theorem cr_maxDef (hc : X.calm = true) (hu : X.A.units + 64 < cLine) : CallRK X (.builtin "max") [Str.ofString "default"] (rMaxDef X.K) := by
  intro pins s σ H vs zs us ws Q I r1 r2 h
  obtain ⟨a, ns, d, rfl, rfl, hs, q⟩ := h
  cases r1 with
  | cons ra rr =>
    cases rr
    cases r2 with
    | cons rd rr =>
      cases rr
      cases ra
      obtain ⟨its, rv, pl, hz⟩ := I.list hs
      have hi := rv.ints
      have hd1 : PySem.W.Datum.depth Int + 0 ≤ 8 := by decide
      refine PySem.W.max_list_datum_default (I.ok.hd hc) pl.isList (PySem.W.HoldAll.of_ints (by simpa using hi)) (by omega) (fun e h' tk k => ?_) fun y ys i v h' tk e hv ho k => ?_
      · subst e
        exact ⟨d, H, I.kept k, rd, q⟩
      · subst e
        rw [maxI_of] at ho
        have i1 := PySem.W.HoldAll.toInts (vs := [v]) (ns := [maxI y ys]) (PySem.W.HoldAll.cons ho PySem.W.HoldAll.nil)
        cases i1 with
        | cons n t r => exact ⟨.int _, H, I.kept k, ⟨_, rfl⟩, q⟩
def maxDT (t d : T) (st : Store) : Option (T × Store) := match t with
  | .ref l => match st[l]? with
    | some (.lst ts) => (intsOf ts).map fun ns => (match ns with | [] => d | n :: r => .int (maxI n r), st)
    | _ => none
  | _ => none
def xMaxD (f g : XE) : XE := fun e st => (f e st).bind fun p => (g e p.2).bind fun r => maxDT p.1 r.1 r.2
theorem et_maxD {a b : Expr} {fa fb : XE} {p pos kpos : Pos} (hc : X.calm = true) (hu : X.A.units + 64 < cLine) (ha : ET X a fa) (hb : ET X b fb) (hm : X.mg "max" = none) (hg : Gl X "max" := by rfl)
    (hs2 : starEach [a] X.env = (false, eval a X.env) :: starEach [] X.env := by rfl)
    (he : backTo pos (starEach [a] X.env) = (false, eval a X.env) :: backTo pos (starEach [] X.env) := by rfl) (hpl : (backTo pos (starEach [a] X.env)).any (·.1) = false := by rfl)
    (hall : (backToKw pos (keywordEach [⟨some (Str.ofString "default"), b, kpos⟩] X.env)).all (·.1.isSome) = true := by rfl) (hnone : (backToKw pos (keywordEach [⟨some (Str.ofString "default"), b, kpos⟩] X.env)).any (·.1.isNone) = false := by rfl) (hks : (backToKw pos (keywordEach [⟨some (Str.ofString "default"), b, kpos⟩] X.env)).filterMap (·.1) = [Str.ofString "default"] := by rfl) :
    ET X (.Call (.Name "max" p) [a] [⟨some (Str.ofString "default"), b, kpos⟩] pos) (xMaxD fa fb) := by
  intro env st ρ σ H t st' s w e Q q
  unfold xMaxD at e
  cases h1 : fa env st with
  | none => simp [h1] at e
  | some pr =>
    obtain ⟨t1, s1⟩ := pr
    simp only [h1, Option.bind_some] at e
    cases h2 : fb env s1 with
    | none => simp [h2] at e
    | some pr2 =>
      obtain ⟨t2, s2⟩ := pr2
      simp only [h2, Option.bind_some] at e
      unfold maxDT at e
      split at e
      · rename_i l
        split at e
        · rename_i ts hl
          cases h : intsOf ts with
          | none => rw [h] at e; cases e
          | some ns =>
            rw [h] at e
            cases e
            refine We.of (pe_callBK (cr_maxDef hc hu) hg hm (by decide +kernel) (pa_cons We.pe pa_nil hs2) (pk_cons We.pe pk_nil) (by decide +kernel) (by decide +kernel) he hpl hall hnone hks) ?_
            refine ha env st ρ σ H _ _ s w h1 _ fun v1 H1 ρ1 f1 w1 r1 => ?_
            refine hb env _ ρ1 σ H1 _ _ (s.up f1) w1 h2 _ fun v2 H2 ρ2 f2 w2 r2 => ?_
            obtain ⟨a, us, rfl, _, h3, r3⟩ := rep_lst w2 (r1.up f2) hl
            refine ⟨a, ns, v2, rfl, rfl, by rw [← ints_rep h r3]; exact SqL.of h3, ?_⟩
            cases ns with
            | nil => exact q _ _ _ (f1.trans f2) w2 r2
            | cons n r => exact q _ _ _ (f1.trans f2) w2 (.int _)
        · cases e
      · cases e
/-! ### comprehensions that make a dict -/
def dcL (it : Its1) (g : XG) (tt : XT) (tk tv : XE) (l : Nat) : Nat → Nat → Env1 → Store → Option Store
  | 0, _, _, _ => none
  | n + 1, i, e, st => (it st).bind fun ts => match ts[i]? with
    | none => if i = ts.length then some st else none
    | some x => (g x e st).bind fun p => (tt p.1 p.2).bind fun b => if b.1 then (tk p.1 b.2).bind fun k => (tv p.1 k.2).bind fun y => match y.2[l]?, toKy k.1 with
        | some (.dK kvs), some ky => if kvs.length < sizeLine then dcL it g tt tk tv l n (i + 1) e (y.2.set l (.dK (storeK kvs ky y.1))) else none
        | _, _ => none
      else dcL it g tt tk tv l n (i + 1) e b.2
def xDcK (fi : XI) (g : XG) (vs : List Nat) (tt : XT) (tk tv : XE) : XE := fun e st => (fi e st).bind fun p => (p.1 (p.2 ++ [.dK []])).bind fun ts =>
  (dcL p.1 g tt tk tv p.2.length (ts.length + 1) 0 (wipeE e vs) (p.2 ++ [.dK []])).map fun s => (.ref p.2.length, s)
theorem dc_ok {kx vx tg iter : Expr} {ifs : List Expr} {scope : Scope} {fi : XI} {g : XG} {tt : XT} {tk tv : XE} {vs : List Nat} (hi : IT X tg iter fi) (hg : ∀ s H C cl fp, GT (blkX X scope s H C cl fp) tg vs g) (ht : ∀ s H C cl fp, PTT (blkX X scope s H C cl fp) ifs tt)
    (hk : ∀ s H C cl fp, ET (blkX X scope s H C cl fp) kx tk) (he : ∀ s H C cl fp, ET (blkX X scope s H C cl fp) vx tv)
    {env : Env1} {st : Store} {ρ : List Addr} {σ : St} {H : Hp} {t : T} {st' : Store} (s : Slots (TL.kx X) H ρ env σ) (w : Wd (TL.kx X) ρ st H) (e : xDcK fi g vs tt tk tv env st = some (t, st')) {Q : VK} (q : QE (TL.kx X) H ρ t st' Q) :
    tDc (Wi X tg iter) (gU X scope tg) (tU X scope ifs) (eU X scope kx) (eU X scope vx) vs σ H Q := by
  unfold xDcK at e
  cases h : fi env st with
  | none => simp [h] at e
  | some p =>
    obtain ⟨it, s1⟩ := p
    simp only [h, Option.bind_some] at e
    cases h1 : it (s1 ++ [.dK []]) with
    | none => simp [h1] at e
    | some ts0 =>
      simp only [h1, Option.bind_some] at e
      cases h2 : dcL it g tt tk tv s1.length (ts0.length + 1) 0 (wipeE env vs) (s1 ++ [.dK []]) with
      | none => simp [h2] at e
      | some sE =>
        simp only [h2, Option.map_some] at e
        cases e
        refine hi env st ρ σ H it s1 s w h _ fun J H1 ρ1 f1 w1 ok => ?_
        intro D hD
        obtain ⟨w2, f2⟩ := w1.push (o := .dK []) (u := .dK []) hD ⟨[], upd_same, rfl, .nil⟩
        have hDl : (ρ1 ++ [D])[s1.length]? = some D := by rw [← w1.len, List.getElem?_append_right (Nat.le_refl _)]; simp
        refine ⟨fun i m H3 => ∃ st3 ρ3, Fut (upd H1 D (.dK [])) H3 (ρ1 ++ [D]) ρ3 ∧ Wd (TL.kx X) ρ3 st3 H3 ∧ dcL it g tt tk tv s1.length m i (wipeE env vs) st3 = some st' ∧ QE (TL.kx X) H3 ρ3 (.ref s1.length) st' Q,
          ⟨ts0.length + 1, s1 ++ [.dK []], ρ1 ++ [D], Fut.refl _ _, w2, h2, q.up (f1.trans f2)⟩, ?_⟩
        rintro i m H3 ⟨st3, ρ3, f3, w3, e3, q3⟩
        cases m with
        | zero => cases e3
        | succ m =>
          unfold dcL at e3
          cases h4 : it st3 with
          | none => simp [h4] at e3
          | some ts =>
            simp only [h4, Option.bind_some] at e3
            obtain ⟨k1, k2, k3⟩ := ok H3 ρ3 st3 ts (f2.trans f3) w3 h4 i
            cases h5 : ts[i]? with
            | none =>
              simp only [h5] at e3
              split at e3
              · rename_i hl
                cases e3
                exact .inl ⟨k2 hl, q3 _ H3 ρ3 (Fut.refl _ _) w3 (.ref (f3.get hDl))⟩
              · cases e3
            | some x =>
              simp only [h5] at e3
              have hlt := (List.getElem?_eq_some_iff.mp h5).1
              refine .inr ⟨k1 hlt, fun H4 => ∃ st3 ρ3, Fut (upd H1 D (.dK [])) H4 (ρ1 ++ [D]) ρ3 ∧ Wd (TL.kx X) ρ3 st3 H4 ∧ dcL it g tt tk tv s1.length m (i + 1) (wipeE env vs) st3 = some st' ∧ QE (TL.kx X) H4 ρ3 (.ref s1.length) st' Q, fun H4 z => ⟨m, Nat.lt_succ_self _, z⟩, fun y H4 hy => ?_⟩
              obtain ⟨gr, ry⟩ := k3 y H4 hy
              have f4 : Fut H3 H4 ρ3 ρ3 := fut_grow gr
              have sl : Slots (TL.kx X) H4 ρ3 (wipeE env vs) (wipe σ vs) := slots_wipe (s.up (((f1.trans f2).trans f3).trans f4)) vs
              cases h6 : g x (wipeE env vs) st3 with
              | none => simp [h6] at e3
              | some p =>
                obtain ⟨e6, s6⟩ := p
                simp only [h6, Option.bind_some] at e3
                intro sB HB CB clB fpB
                refine hg sB HB CB clB fpB (wipeE env vs) st3 ρ3 (wipe σ vs) H4 x y e6 s6 sl (w3.grow gr) (ry x h5) h6 _ fun σ6 H6 ρ6 f6 w6 sl6 a6 => ⟨wipe_away a6, ?_⟩
                cases h7 : tt e6 s6 with
                | none => simp [h7] at e3
                | some p =>
                  obtain ⟨b, s7⟩ := p
                  simp only [h7, Option.bind_some] at e3
                  intro sB HB CB clB fpB
                  refine ht sB HB CB clB fpB e6 s6 ρ6 σ6 H6 b s7 sl6 w6 h7 _ fun H7 ρ7 f7 w7 => ?_
                  have f37 := (f4.trans f6).trans f7
                  cases b with
                  | false =>
                    rw [if_neg Bool.false_ne_true]
                    rw [if_neg Bool.false_ne_true] at e3
                    exact ⟨s7, ρ7, f3.trans f37, w7, e3, q3.up f37⟩
                  | true =>
                    rw [if_pos rfl]
                    rw [if_pos rfl] at e3
                    cases h8 : tk e6 s7 with
                    | none => simp [h8] at e3
                    | some p =>
                      obtain ⟨zk, s8⟩ := p
                      simp only [h8, Option.bind_some] at e3
                      cases h9 : tv e6 s8 with
                      | none => simp [h9] at e3
                      | some p =>
                        obtain ⟨z, s9⟩ := p
                        simp only [h9, Option.bind_some] at e3
                        intro sB HB CB clB fpB
                        refine hk sB HB CB clB fpB e6 s7 ρ7 σ6 H7 zk s8 (sl6.up f7) w7 h8 _ fun vk H8 ρ8 f8 w8 r8 => ?_
                        intro sB HB CB clB fpB
                        refine he sB HB CB clB fpB e6 s8 ρ8 σ6 H8 z s9 (sl6.up (f7.trans f8)) w8 h9 _ fun vz H9 ρ9 f9 w9 r9 => ?_
                        split at e3
                        · rename_i kvs ky hacc hky
                          split at e3
                          · rename_i hz
                            have f39 := (f37.trans f8).trans f9
                            have hD9 := (f3.trans f39).get hDl
                            obtain ⟨kws, hu, kk, kv⟩ := w9.addr hacc hD9
                            have rk : RepK (TL.kx X) H9 ρ9 kvs kws := ⟨kk, kv⟩
                            obtain ⟨u0, h0, i0⟩ := w9.there hacc hD9
                            have fA : Fut H9 (upd H9 D (.dK (putK kws ky vz))) ρ9 ρ9 := ⟨Ext.mut h0 i0, [], by simp⟩
                            have rB := (rk.put (k := ky) r9).up fA
                            obtain ⟨wA, _⟩ := w9.put (o := .dK (storeK kvs ky z)) h0 i0 hD9 ⟨putK kws ky vz, upd_same, rB.k, rB.v⟩
                            exact ⟨kws, ky, ky_rep hky r8, hu, by rw [← rk.len]; exact hz, _, ρ9, (f3.trans f39).trans fA, wA, e3, q3.up (f39.trans fA)⟩
                          · cases e3
                        · cases e3
theorem et_dcK {kx vx tg iter : Expr} {ifs : List Expr} {scope : Scope} {own : List (Str × Nat)} {pos : Pos} {fi : XI} {g : XG} {tt : XT} {tk tv : XE} (hc : X.calm = true) (hN : X.N.Nodup) (ok : BlkOk X.N X.env.scope scope own) (hi : IT X tg iter fi) (hg : ∀ s H C cl fp, GT (blkX X scope s H C cl fp) tg (own.map (·.2)) g)
    (ht : ∀ s H C cl fp, PTT (blkX X scope s H C cl fp) ifs tt) (hk : ∀ s H C cl fp, ET (blkX X scope s H C cl fp) kx tk) (he : ∀ s H C cl fp, ET (blkX X scope s H C cl fp) vx tv) (hs : ∀ x, foldedSetIterable iter X.env x = pure x := by intro _; rfl) :
    ET X (.DictComp kx vx [⟨tg, iter, ifs, 0⟩] scope pos) (xDcK fi g (own.map (·.2)) tt tk tv) := by
  intro env st ρ σ H t st' s w e Q q
  exact We.of (pe_dc hc hN Wi.pi ok (fun _ _ _ _ _ => gU.pg) (fun _ _ _ _ _ => tU.pt) (fun _ _ _ _ _ => eU.pe) (fun _ _ _ _ _ => eU.pe) hs) (dc_ok hi hg ht hk he s w e q)
theorem swD_true {kx vx : Expr} {gs : List Comprehension} {scope : Scope} {pos py : Pos} {y : Str} {l : Nat} {env : Env} (hk : env.scope.kind = .function) (hy : env.scope.names.lookup y = some .local) (hl : (py.line == pos.line) = true) (ha : (scope.names.any fun (n, k) => n == y && (k == .local || k == .cell)) = false) :
    swapsWith (.DictComp kx vx gs scope pos) (some (.Name y py)) l env = pure true := by
  have ky : env.kindOf y = some .local := hy
  have hb : env.blockKind = .function := by unfold Env.blockKind; rw [hk]; rfl
  unfold swapsWith; simp only [hb, ky, ha, Expr.pos, hl]; rfl
theorem st_setDc {kx vx tg iter : Expr} {ifs : List Expr} {scope : Scope} {own : List (Str × Nat)} {pos : Pos} {fi : XI} {g : XG} {tt : XT} {tk tv : XE} {i : Nat} {y : Str} {py spos : Pos} (hc : X.calm = true) (hN : X.N.Nodup) (ok : BlkOk X.N X.env.scope scope own) (hi : IT X tg iter fi) (hg : ∀ s H C cl fp, GT (blkX X scope s H C cl fp) tg (own.map (·.2)) g)
    (ht : ∀ s H C cl fp, PTT (blkX X scope s H C cl fp) ifs tt) (hk : ∀ s H C cl fp, ET (blkX X scope s H C cl fp) kx tk) (he : ∀ s H C cl fp, ET (blkX X scope s H C cl fp) vx tv) (hy : X.N[i]? = some y := by rfl) (hyl : X.env.scope.names.lookup y = some .local := by rfl)
    (hsw : swapsWith (.DictComp kx vx [⟨tg, iter, ifs, 0⟩] scope pos) (some (.Name y py)) spos.line X.env = pure true := by exact swD_true rfl rfl rfl (by decide +kernel)) (hs : ∀ x, foldedSetIterable iter X.env x = pure x := by intro _; rfl) :
    ST X (.Assign [.Name y py] (.DictComp kx vx [⟨tg, iter, ifs, 0⟩] scope pos) spos) (xsSet i (xDcK fi g (own.map (·.2)) tt tk tv)) := by
  intro env st ρ σ H o s w e D q
  unfold xsSet at e
  cases h : xDcK fi g (own.map (·.2)) tt tk tv env st with
  | none => simp [h] at e
  | some p =>
    obtain ⟨t, s1⟩ := p
    rw [h] at e
    cases e
    have h1 := dc_ok hi hg ht hk he s w h (Q := fun x H1 => gName i x σ H1 D.nx) fun v H1 ρ1 f1 w1 r1 => q _ H1 ρ1 f1 w1 ((s.up f1).set i r1)
    intro pins sh I
    rw [exec_Assign_Name_used _ _ _ _ hsw]; refine wpAny_bind (wpAny_standAt (wpAny_bind ?_))
    show wpAny _ X.A (do let _ ← comprehension (.DictComp kx vx [⟨tg, iter, ifs, 0⟩] scope pos) scope X.env (firstIterPos [⟨tg, iter, ifs, 0⟩] pos) newDict false (eval iter X.env) (some (assign (.Name y py) X.env))) _ _ sh
    refine wpAny_bind (thn (dc_core (Qf := fun _ s' => SP X pins D .next s') hc hN I Wi.pi ok (fun _ _ _ _ _ => gU.pg) (fun _ _ _ _ _ => tU.pt) (fun _ _ _ _ _ => eU.pe) (fun _ _ _ _ _ => eU.pe) hs h1 fun L C s' m H' I' q hn f => ?_) fun _ s' hq => wpAny_pure (wpAny_pure hq))
    show wpAny _ _ (assign (.Name y py) X.env (.ref L)) _ _ _
    refine wpAny_assign_Name (store_ok2 (v := V.ref L) I' hN hy (.inl hyl) rfl (fun s2 I2 ⟨a, sb, ha⟩ => ?_) (.inr hyl))
    obtain ⟨f0, f1, f2, f3, f4, f5⟩ := f
    have haC : C ≠ a := ha.elim (fun z => by rw [z]; exact f1) fun z e => f4 y a z e.symm
    exact ⟨m, hn.sameBut sb haC, fun h3 sb3 => ⟨_, H', I2.turned (t' := s2.toks) (fun b o hb e => (sb3.2 b hb).trans e) f0 f1 f3 f4 f5, q⟩⟩
end
end TL
/-! TL17 -/
set_option Elab.async false
set_option linter.all false
set_option maxRecDepth 100000
set_option maxHeartbeats 4000000
/-! what is raised, on trees -/
namespace TL
variable [Tb]
open PySem PySem.Spec PyProof.Rows L2
/-- an exception: where its class stands, its one field if it has one -/
structure Ex where
  n : Str
  f : Option (Str × T)
def Ex.C (x : Ex) : Addr := Tb.cls x.n
def ExD (K : KX) (H : Hp) (ρ : List Addr) (x : Ex) (d : Option Addr) : Prop := match x.f with
  | none => d = none
  | some p => ∃ a v, d = some a ∧ H a = some (.xd [(p.1, v)]) ∧ Rep K H ρ p.2 v
def QX (K : KX) (H : Hp) (ρ : List Addr) (x : Ex) (st' : Store) (E : XK) : Prop := ∀ d H' ρ', Fut H H' ρ ρ' → Wd K ρ' st' H' → ExD K H' ρ' x d → E (.ref x.C) d H'
theorem QX.up {K : KX} {H H' : Hp} {ρ ρ' : List Addr} {x : Ex} {st : Store} {E : XK} (q : QX K H ρ x st E) (f : Fut H H' ρ ρ') : QX K H' ρ' x st E := fun d H2 ρ2 g w r => q d H2 ρ2 (f.trans g) w r
abbrev XX := Env1 → Store → Option (Ex × Store)
abbrev FX := List T → Store → Option (Ex × Store)
def WX0 (E : XK) : WX := fun cls d _ H => E cls d H
def noV : VK := fun _ _ => False
def noD : Ends := { nx := fun _ _ => False, rt := fun _ _ => False, bk := fun _ _ => False, ct := fun _ _ => False }
def EX (X : Cx) (e : Expr) (g : XX) : Prop := ∀ env st ρ σ H x st' E, Takes X (WX0 E) → Slots (kx X) H ρ env σ → Wd (kx X) ρ st H → g env st = some (x, st') → QX (kx X) H ρ x st' E → We X e σ H noV
def AX (X : Cx) (es : List Expr) (g : XX) : Prop := ∀ env st ρ σ H x st' E, Takes X (WX0 E) → Slots (kx X) H ρ env σ → Wd (kx X) ρ st H → g env st = some (x, st') → QX (kx X) H ρ x st' E → Wa X es σ H fun _ _ => False
def SX1 (X : Cx) (s : Stmt) (g : XX) : Prop := ∀ env st ρ σ H x st' E, Takes X (WX0 E) → Slots (kx X) H ρ env σ → Wd (kx X) ρ st H → g env st = some (x, st') → QX (kx X) H ρ x st' E → Ws X s noD σ H
def SX (X : Cx) (s : List Stmt) (g : XX) : Prop := ∀ env st ρ σ H x st' E, Takes X (WX0 E) → Slots (kx X) H ρ env σ → Wd (kx X) ρ st H → g env st = some (x, st') → QX (kx X) H ρ x st' E → Wss X s noD σ H
def xNo : XX := fun _ _ => none
/-- the def raises -/
structure FnX (P : Program) (w : World) (K : PySem.W.Frag) (mg : Str → Option Value) (base : Heap) (k : Nat) (f : Addr) (fd : FuncData) (ps : List Str) (F : FX) : Prop where
  len : ∀ ts st r, F ts st = some r → ts.length = ps.length
  run : ∀ (A : Around) (outer : List Env) (s : Shared) (H : Hp) (args : Args) (us : List Value) (vs : List V) (ρ : List Addr) (ts : List T) (st : Store) (x : Ex) (st' : Store) (E : XK), Room k A → A.guards = some [] →
    Env0 P w K mg base A outer s H → BindsTo s fd args (ps.zip us) → Vals vs us → Wd (kX K P w) ρ st H → Reps (kX K P w) H ρ ts vs → F ts st = some (x, st') → QX (kX K P w) H ρ x st' E →
    codeAny (model P w) A (.call (.ref f) args) (CR (L2.CX P w) outer P w H s noV E) s
def fnX (n : Nat) (N : Nat) (b : XX) : FX := fun ts st => if ts.length = n then b (ts.map some ++ List.replicate (N - ts.length) none) st else none
abbrev cxX (P : Program) (w : World) (K : PySem.W.Frag) (mg : Str → Option Value) (base : Heap) (N : List Str) (qual : Str) (sc : Scope) (f : Addr) (cdv : Value) (A : Around) (outer : List Env) (s : Shared) (H : Hp) (E : XK) : Cx :=
  cxOf (L2.CX P w) P w K mg base N qual sc f cdv A outer s H E
section
variable {P : Program} {w : World} {K : PySem.W.Frag} {mg : Str → Option Value} {base : Heap}
theorem FnX.mono {j k : Nat} {f : Addr} {fd : FuncData} {ps : List Str} {F : FX} (G : FnX P w K mg base j f fd ps F) (h : j ≤ k) : FnX P w K mg base k f fd ps F :=
  ⟨G.len, fun A outer s H args us vs ρ ts st t st' E hr => G.run A outer s H args us vs ρ ts st t st' E (hr.mono h)⟩
theorem FnX.as {k : Nat} {f : Addr} {fd : FuncData} {ps : List Str} {F F' : FX} (G : FnX P w K mg base k f fd ps F) (h : ∀ ts st r, F' ts st = some r → F ts st = some r) : FnX P w K mg base k f fd ps F' :=
  ⟨fun ts st r e => G.len ts st r (h _ _ _ e), fun A outer s H args us vs ρ ts st t st' E hr hg e0 hb rv wd rs e q => G.run A outer s H args us vs ρ ts st t st' E hr hg e0 hb rv wd rs (h _ _ _ e) q⟩
theorem FnX.of {x qual : Str} {st : Stmt} {f : Addr} {fd : FuncData} {N ps : List Str} {k : Nat} {Fb : XX} (F : Fun K x qual st f fd) (S : FnScope N ps (defScope st))
    (hbody : ∀ (cdv : Value) (A : Around) (outer : List Env) (s : Shared) (H : Hp) (E : XK), Room k (A.deeper (envOfC qual (defScope st) s.heap.objs.size f cdv)) → (A.deeper (envOfC qual (defScope st) s.heap.objs.size f cdv)).guards = some [] →
      SX (cxX P w K mg base N qual (defScope st) f cdv A outer s H E) (defBody st) Fb) : FnX P w K mg base (k + 1) f fd ps (fnX ps.length N.length Fb) := by
  obtain ⟨oc, od, kV, doc, pm, an, cdv, ct, osl, rfl, lk, hcd⟩ := F.ex
  refine ⟨fun ts st r e => ?_, fun A outer s H args us vs ρ ts st0 x0 st' E hr hg e0 hb rv wd rs e q => ?_⟩
  · unfold fnX at e
    split at e
    · assumption
    · cases e
  · unfold fnX at e
    split at e
    · rename_i hts
      have hvl : vs.length = ps.length := by rw [← rs.length]; exact hts
      have KX : K.In s.heap := e0.mod.kin.keeps fun b o eb => (e0.bs b o eb).1
      have lim : s.heap.NoLimit := e0.mod.nolimit.keeps fun b o eb => (e0.bs b o eb).1
      have hkinds : ∀ y ∈ ps.zip us, (defScope st).names.lookup y.1 = some .local ∨ ((defScope st).names.lookup y.1 = some .cell ∧ ((cellsFrom (s.heap.objs.size + 1) (defScope st).names []).lookup y.1).isSome = true) := fun ⟨n, u⟩ hy => by
        rcases S.par n (List.of_mem_zip hy).1 with z | z
        · exact .inl z
        · exact .inr ⟨z, PySem.W.cellsFrom_some _ _ _ (.inl z)⟩
      refine codeAny_call_function hr.depth (KX _ _ lk) rfl S.co S.gen rfl (PySem.W.codeRec_of KX hcd) (hb _ _ _ _ ?_)
      refine wpAny_newFunctionEnv_cells S.kind hkinds fun env henv s1 x1 => ?_
      subst henv
      refine ⟨lim.keeps x1.toInCall.keep, codeAny_func ?_⟩
      have I0 : Inv (cxX P w K mg base N qual (defScope st) f cdv A outer s H E) [] (L2.start N vs) H s1 := inv_start S hr.hd e0 hvl rv x1
      have hB2 := hbody cdv A outer s H E (hr.deeper _) (by rw [show (A.deeper (envOfC qual (defScope st) s.heap.objs.size f cdv)).guards = A.guards from rfl]; exact hg)
      have hN : ts.length ≤ N.length := by
        have := congrArg List.length S.pre
        rw [List.length_take] at this
        omega
      have hss := hB2 _ st0 ρ (L2.start N vs) H x0 st' E (takes_of rfl rfl rfl rfl) (slots_start rs hN) wd e q
      refine wpAny_mono (hss [] s1 I0) (fun fl s' hs => ?_) fun e s' hs => hs
      cases fl with
      | ret u => obtain ⟨v, σ', H', J, r1, q1⟩ := hs; exact q1.elim
      | next => obtain ⟨σ', H', J, q1⟩ := hs; exact q1.elim
      | brk => obtain ⟨_, _, _, z⟩ := hs; exact z.elim
      | cont => obtain ⟨_, _, _, z⟩ := hs; exact z.elim
    · cases e
end
/-- what a call of a def that raises reads: its arguments first -/
def xCallX (F : FX) (fr : XA) : XX := fun e st => (fr e st).bind fun p => F p.1 p.2
section
variable {X : Cx} {k : Nat} {f : Addr} {fd : FuncData} {ps : List Str} {F : FX} {x : Str} {p pos : Pos} {e : Expr} {es : List Expr} {fr : XA}
theorem ex_call (G : FnX X.prog X.w X.K X.mg X.base k f fd ps F) (hr : Room k X.A) (hgu : X.A.guards = some []) (hm : X.mg x = some (.ref f)) (hk : PySem.W.keepIn X.K (.ref f) = true) (hb : Binds X.K fd ps []) (ha : AT X (e :: es) fr)
    (hg : Gl X x := by rfl) (hdb : (x == ("__debug__" : Str)) = false := by decide +kernel) (he : starEach (e :: es) X.env = (false, eval e X.env) :: starEach es X.env := by rfl) (hpl : (backTo pos (starEach es X.env)).any (·.1) = false := by rfl) :
    EX X (.Call (.Name x p) (e :: es) [] pos) (xCallX F fr) := by
  intro env st ρ σ H x0 st' E tk s w e1 q
  unfold xCallX at e1
  cases e2 : fr env st with
  | none => simp [e2] at e1
  | some pr =>
    obtain ⟨ts, st1⟩ := pr
    simp only [e2, Option.bind_some] at e1
    intro pins s0 I
    refine wpAny_Call_Name_kw (ld_glob I hg hm ?_ hdb)
    have hA := (Wa.pa.run pos pins s0 σ H _ I (ha env st ρ σ H ts st1 s w e2 (fun vs H1 => ∃ ρ1, Fut H H1 ρ ρ1 ∧ Wd (kx X) ρ1 st1 H1 ∧ Reps (kx X) H1 ρ1 ts vs) fun vs H1 ρ1 f1 w1 r1 => ⟨ρ1, f1, w1, r1⟩))
    refine PySem.W.callWith_K (h₀ := X.base) I.ok.mod.kin hk (thn hA fun us s1 ⟨vs, H1, I1, r, ρ1, f1, w1, r1⟩ => ⟨I1.kIn, ?_⟩) he hpl
    have hlen : (us ++ []).length = ps.length := by
      rw [List.append_nil, ← r.length, ← r1.length]; exact G.len ts st1 _ e1
    have hbb := hb s1 us I1.kIn hlen
    rw [List.append_nil] at hbb
    refine wpAny_call (codeAny_mono (G.run X.A X.stack s1 H1 ⟨us, []⟩ us vs ρ1 ts st1 x0 st' E hr hgu I1.env0 hbb r w1 r1 e1 (q.up f1)) fun rr s2 hq => ?_)
    cases rr with
    | error er => exact passAt tk σ pins H1 s1 er s2 I1 hq
    | ok fl =>
      cases fl with
      | ret u => obtain ⟨_, _, _, _, _, _, _, z⟩ := hq; exact z.elim
      | next => exact False.elim hq
      | brk => exact False.elim hq
      | cont => exact False.elim hq
end
/-! ### statements -/
section
variable {X : Cx} {st1 : Stmt} {b c0 : List Stmt} {fs : XS} {gx gy : XX} {e c : Expr} {tc : XT} {pos : Pos}
def xxSeq (fs : XS) (gx gy : XX) : XX := fun e st => match fs e st with
  | some (.nx e' st') => gy e' st'
  | some _ => none
  | none => gx e st
theorem sx_cons (hs : ST X st1 fs) (h1 : SX1 X st1 gx) (h2 : SX X b gy) : SX X (st1 :: b) (xxSeq fs gx gy) := by
  intro env st ρ σ H x st' E tk s w e1 q
  unfold xxSeq at e1
  refine Wss.of (pss_cons Ws.ps Wss.pss) ?_
  split at e1
  · rename_i e2 s2 hf
    exact hs env st ρ σ H _ s w hf _ fun σ' H' ρ' f' w' s' => h2 e2 s2 ρ' σ' H' x st' E tk s' w' e1 (q.up f')
  · cases e1
  · exact fun pins s0 I => wpAny_mono (h1 env st ρ σ H x st' E tk s w e1 q pins s0 I) (fun fl s1 hq => by
      cases fl with
      | ret u => obtain ⟨_, _, _, _, _, z⟩ := hq; exact z.elim
      | next => obtain ⟨_, _, _, z⟩ := hq; exact z.elim
      | brk => obtain ⟨_, _, _, z⟩ := hq; exact z.elim
      | cont => obtain ⟨_, _, _, z⟩ := hq; exact z.elim) fun _ _ z => z
theorem sx_one (h1 : SX1 X st1 gx) : SX X [st1] gx := fun env st ρ σ H x st' E tk s w e q => Wss.of (pss_one Ws.ps) (h1 env st ρ σ H x st' E tk s w e q)
theorem s1_no : SX1 X st1 xNo := fun _ _ _ _ _ _ _ _ _ _ _ e => by cases e
theorem sx_no : SX X b xNo := fun _ _ _ _ _ _ _ _ _ _ _ e => by cases e
def xxIf (tc : XT) (gx gy : XX) : XX := fun e st => (tc e st).bind fun p => if p.1 then gx e p.2 else gy e p.2
theorem s1_if (hc : TT1 X c tc) (ha : SX X b gx) (hb : SX X c0 gy) : SX1 X (.If c b c0 pos) (xxIf tc gx gy) := by
  intro env st ρ σ H x st' E tk s w e1 q
  unfold xxIf at e1
  cases h : tc env st with
  | none => simp [h] at e1
  | some pr =>
    obtain ⟨bb, s1⟩ := pr
    simp only [h, Option.bind_some] at e1
    refine Ws.of (ps_if Wt.pt Wss.pss Wss.pss) ?_
    refine hc env st ρ σ H bb s1 s w h _ fun H1 ρ1 f1 w1 => ?_
    cases bb with
    | true => exact ha env s1 ρ1 σ H1 x st' E tk (s.up f1) w1 (by simpa using e1) (q.up f1)
    | false => exact hb env s1 ρ1 σ H1 x st' E tk (s.up f1) w1 (by simpa using e1) (q.up f1)
theorem s1_ret (he : EX X e gx) : SX1 X (.Return (some e) pos) gx := by
  intro env st ρ σ H x st' E tk s w e1 q
  refine Ws.of (ps_ret We.pe) ?_
  exact fun pins s0 I => wpAny_mono (he env st ρ σ H x st' E tk s w e1 q pins s0 I) (fun v s1 hq => by obtain ⟨_, _, _, _, z⟩ := hq; exact z.elim) fun _ _ z => z
end
end TL
/-! TL18 -/
set_option Elab.async false
set_option linter.all false
set_option maxRecDepth 100000
set_option maxHeartbeats 4000000
/-! raise C(), raise C(e): classes of the program with an __init__ of their own -/
namespace TL
variable [Tb]
open PySem PySem.Spec PyProof.Rows L2
/-- the promise of an __init__ that does nothing -/
def spI0 (C : Addr) : Sp := fun vs H Q _ => ∃ a, vs = [V.ref a] ∧ H a = some (exo a C none) ∧ Q .non H
/-- the promise of an __init__ that keeps its one argument -/
def spI1 (C : Addr) (f : Str) : Sp := fun vs H Q _ => ∃ a v, vs = [V.ref a, v] ∧ H a = some (exo a C none) ∧ ∀ dx, H dx = none → dx ≠ a → Q .non (upd (upd H dx (exd dx [(f, v)])) a (exo a C (some dx)))
/-- a class of exceptions as the written part has it -/
structure ExcC (K : PySem.W.Frag) (mg : Str → Option Value) (x : Str) (C fI : Addr) (st : Stmt) (fd : FuncData) (qual : Str) : Prop where
  g : mg x = some (.ref C)
  o : OexC K C
  i : PySem.W.findIn K (.ref C) "__init__" = some (some (.ref fI))
  t : PySem.W.typeIn K (.ref fI) = some (.type "function")
  F : Fun K "__init__" qual st fI fd
section
variable {P : Program} {w : World} {K : PySem.W.Frag} {mg : Str → Option Value} {base : Heap} {fI C : Addr} {fd : FuncData} {st : Stmt} {qual x f : Str}
theorem init0 {p : Pos} (F : Fun K "__init__" qual st fI fd) (hb : defBody st = [.Pass p]) (S : FnScope ["self"] ["self"] (defScope st)) : FnOk P w K mg base C8.CX0 1 fI fd ["self"] (spI0 C) := by
  refine F.ok S (fun vs H Q E h => by obtain ⟨a, rfl, _⟩ := h; rfl) fun cdv A outer s H vs Q E hr h => ?_
  rw [hb]
  refine ⟨_, pss_one ps_pass, ?_⟩
  obtain ⟨a, rfl, _, q⟩ := h
  exact q
theorem init1 {p1 p2 p3 p4 : Pos} {y : Str} (F : Fun K "__init__" qual st fI fd) (o : OexC K C) (hno : PySem.W.findIn K (.ref C) f = some none) (hb : defBody st = [.Assign [.Attribute (.Name "self" p1) f p2] (.Name y p3) p4]) (S : FnScope ["self", y] ["self", y] (defScope st))
    (hv1 : Vis (defScope st) "self") (hv2 : Vis (defScope st) y) (hd : (y == ("__debug__" : Str)) = false) (hcd : (y == ("__classdict__" : Str)) = false) : FnOk P w K mg base C8.CX0 1 fI fd ["self", y] (spI1 C f) := by
  refine F.ok S (fun vs H Q E h => by obtain ⟨a, v, rfl, _⟩ := h; rfl) fun cdv A outer s H vs Q E hr h => ?_
  rw [hb]
  refine ⟨_, pss_one (ps_ost (pe_var (i := 0) rfl hv1 (by decide) (by decide)) (pe_var (i := 1) rfl hv2 hd hcd) (by rfl)), ?_⟩
  obtain ⟨a, v, rfl, ha, q⟩ := h
  exact ⟨v, rfl, .ref a, rfl, a, C, rfl, o, hno, .inl ⟨ha, fun dx h1 h2 => q dx h1 h2⟩⟩
end
section
variable {X : Cx} {pins : List (Addr × Obj)} {σ : St} {H1 H2 : Hp} {Q : XK}
/-- the end of C(): the exception is let go, it has no dict -/
theorem mk_endN {hp hp2 h2 : Heap} {g1 g2 : Array GenState} {d1 d2 : Drawn} {t1 t2 : Nat} {os1 os2 : OsState} {a C : Addr} (T : Raises X (.ref C)) (I1 : Inv X pins σ H1 ⟨hp, g1, d1, t1, os1⟩) (ha : hp.objs.size ≤ a) (k : ∀ b o, hp.get? b = some o → hp2.get? b = some o)
    (un : Un (frs X.stack) [] (upd H1 a (exo a C none)) (upd H1 a (exo a C none)) hp2 h2) (hok : HOk X.prog X.w (upd H1 a (exo a C none)) h2) (ho : os2 = os1) (hb : AllBare g2) (q : Q (.ref C) none H1) : MkP X pins σ Q (.ref a) ⟨h2, g2, d2, t2, os2⟩ := by
  have hn : H1 a = none := I1.hok.fresh ha
  have ea : upd H1 a (exo a C none) a = some (exo a C none) := upd_same
  obtain ⟨t0, hoe⟩ := exo_at hok ea
  obtain ⟨G, gin, gout⟩ := restrict h2 fun b => decide (b ≠ a)
  have gk : ∀ b, b ≠ a → G.get? b = h2.get? b := fun b hne => gin b (decide_eq_true hne)
  have ga : G.get? a = none := gout a (by simp)
  have away : ∀ {b : Addr} {o : Obj}, hp.get? b = some o → b ≠ a := fun {b o} z => Nat.ne_of_lt (Nat.lt_of_lt_of_le (Heap.lt_size z) ha)
  have at1 : ∀ {b : Addr}, b ≠ a → upd H1 a (exo a C none) b = H1 b := fun {b} hne => upd_ne hne
  have U : Un (frs X.stack) [] H1 H1 hp G := by
    refine ⟨fun b o z n hf hx => ?_, fun b o z n hf hx => ?_, fun b o z n hx => n, fun b o z hx => ?_, fun b xs z => z, fun b o v z => z, fun b ps z => ⟨#[], by rw [z]; simp⟩⟩
    · rw [gk b (away z)]; exact un.keep b o (k b o z) ((at1 (away z)).trans n) hf hx
    · rw [gk b (away z)]; exact un.slot b o (k b o z) ((at1 (away z)).trans n) hf hx
    · rw [gk b (away z)]; exact un.there b o (k b o z) hx
  have hok3 : HOk X.prog X.w H1 G := fun b o z => by
    have hba : b ≠ a := fun e => by rw [e, hn] at z; cases z
    have noa : ∀ {c y : Addr}, H1 c = some (.own y) → c ≠ a := fun {c y} hc e => by rw [e, hn] at hc; cases hc
    refine (hok b o ((at1 hba).trans z)).stay (fun c v hc y => ?_) (fun c hc => ?_) (fun c xs hc => ?_)
    · have hca : c ≠ a := by
        rcases hc with e | e
        · rw [e]; exact hba
        · intro e2; rw [e2, ea] at e; exact exo_own (Option.some.inj e)
      rw [gk c hca]; exact y
    · have hca : c ≠ a := fun e2 => by rw [e2, ea] at hc; exact exo_own (Option.some.inj hc)
      exact (at1 hca).symm.trans hc
    · have hca : c ≠ a := fun e2 => by rw [e2, ea] at hc; exact exo_tup (Option.some.inj hc)
      exact (at1 hca).symm.trans hc
  have J : Inv X pins σ H1 ⟨G, g2, d2, t2, os2⟩ := I1.call' (ch := []) ho U hok3 hb (fun b z => absurd z (by simp))
  refine ⟨a, _, _, ⟨G, g2, d2, t2, os2⟩, H1, .ref C, none, rfl, J, fun b o z => ?_, ga, hoe, ⟨rfl, rfl⟩, rfl, rfl, hn, rfl, hb, T, q⟩
  by_cases hba : b = a
  · rw [hba, ga] at z; cases z
  · exact (gk b hba).symm.trans z
variable {x qual : Str} {C fI : Addr} {st : Stmt} {fd : FuncData} {p pos pos2 : Pos}
theorem pmk0 (B : ExcC X.K X.mg x C fI st fd qual) (F1 : FnOk X.prog X.w X.K X.mg X.base C8.CX0 1 fI fd ["self"] (spI0 C)) (hb : L2.Binds X.K fd ["self"] []) (hr : Room 2 X.A) (hg : Gl X x) (hdb : (x == ("__debug__" : Str)) = false) :
    PMk X (.Call (.Name x p) [] [] pos) (fun _ H Q => Q (.ref C) none H) := by
  intro pins s σ H Q I h
  obtain ⟨nm, q, N, bs, bm, sn, sub, ab, col, dd, k0, k1, k2, k3, k5, hC, hbm⟩ := B.o.cls
  refine wpAny_Call_Name_kw (ld_glob I hg B.g ?_ hdb)
  refine PySem.W.callWith_K0 I.kIn B.o.kC ?_
  obtain ⟨hp, g, dr, tk, os⟩ := s
  have hsz : hp.objs.size ≤ hp.objs.size + 1 := Nat.le_succ _
  have kk : ∀ b o, hp.get? b = some o → ((hp.push (PySem.W.kdv_tup [])).push (PySem.HandSPX.excO C hp.objs.size)).get? b = some o := fun b o e => Heap.get?_push_of_some _ (Heap.get?_push_of_some _ e)
  have hget : ((hp.push (PySem.W.kdv_tup [])).push (PySem.HandSPX.excO C hp.objs.size)).get? (hp.objs.size + 1) = some (PySem.HandSPX.excO C hp.objs.size) := by heap_get
  have I2 : Inv X pins σ (upd H (hp.objs.size + 1) (exo (hp.objs.size + 1) C none)) ⟨(hp.push (PySem.W.kdv_tup [])).push (PySem.HandSPX.excO C hp.objs.size), g, dr, tk, os⟩ :=
    I.laid (t' := tk) (a := hp.objs.size + 1) (o := exo (hp.objs.size + 1) C none) kk hsz (exo_ok hget)
  refine wpAny_call (PySem.HandSPX.call_own F.excBase_ValueError (fun Y => PySem.HandSPX.refsVE_contains Y bm hbm) (I.kIn _ _ hC) (PySem.W.looks_findIn I.kIn B.i) (fun self => PySem.W.bind_fn I.kIn self B.t) (by show 0 ≤ sizeLine; decide) ?_)
  refine codeAny_mono (F1.run _ X.stack _ _ ⟨[Value.ref (hp.objs.size + 1)], []⟩ [Value.ref (hp.objs.size + 1)] [V.ref (hp.objs.size + 1)] (fun v H2 => v = .non ∧ H2 = upd H (hp.objs.size + 1) (exo (hp.objs.size + 1) C none)) (fun _ _ _ => False) (hr.make C [] []) (I2.env0.make C [] []) (hb _ [Value.ref (hp.objs.size + 1)] I2.kIn rfl) (.cons rfl .nil) ⟨_, rfl, upd_same, rfl, rfl⟩) fun r s' hq' => ?_
  cases r with
  | error er => exact False.elim hq'
  | ok fl =>
    cases fl with
    | ret u =>
      obtain ⟨v, H2, os2, bare2, un2, hok2, rv, rfl, rfl⟩ := hq'
      obtain ⟨h2, g2, d2, t2, os'⟩ := s'
      exact ⟨rv, mk_endN (raises_own B.o.exC B.o.tyC) I hsz kk un2 hok2 os2 bare2 h⟩
    | next => exact False.elim hq'
    | brk => exact False.elim hq'
    | cont => exact False.elim hq'
/-! ### on trees -/
def xRaise0 (n : Str) : XX := fun _ st => some (⟨n, none⟩, st)
def xRaise1 (n : Str) (f : Str) (fe : XE) : XX := fun e st => (fe e st).map fun p => (⟨n, some (f, p.1)⟩, p.2)
theorem s1_raise0 (hc : X.calm = true) (B : ExcC X.K X.mg x (Tb.cls x) fI st fd qual) (F1 : FnOk X.prog X.w X.K X.mg X.base C8.CX0 1 fI fd ["self"] (spI0 (Tb.cls x))) (hb : L2.Binds X.K fd ["self"] []) (hr : Room 2 X.A) (hg : Gl X x := by rfl) (hdb : (x == ("__debug__" : Str)) = false := by decide +kernel) :
    SX1 X (.Raise (some (.Call (.Name x p) [] [] pos)) none pos2) (xRaise0 x) := by
  intro env st0 ρ σ H x0 st' E tk s w e q
  cases e
  refine Ws.of (ps_raise hc tk (pmk0 B F1 hb hr hg hdb)) ?_
  exact q none H ρ (Fut.refl _ _) w rfl
theorem s1_raise1 {y f : Str} {e1 : Expr} {fe : XE} (hc : X.calm = true) (B : ExcC X.K X.mg x (Tb.cls x) fI st fd qual) (F1 : FnOk X.prog X.w X.K X.mg X.base C8.CX0 1 fI fd ["self", y] (spI1 (Tb.cls x) f)) (hb : L2.Binds X.K fd ["self", y] []) (hr : Room 2 X.A) (ha : AT X [e1] (fun e st => (fe e st).map fun p => ([p.1], p.2)))
    (hg : Gl X x := by rfl) (hdb : (x == ("__debug__" : Str)) = false := by decide +kernel) (he : starEach [e1] X.env = (false, eval e1 X.env) :: starEach [] X.env := by rfl) (hpl : (backTo pos (starEach [] X.env)).any (·.1) = false := by rfl) :
    SX1 X (.Raise (some (.Call (.Name x p) [e1] [] pos)) none pos2) (xRaise1 x f fe) := by
  intro env st0 ρ σ H x0 st' E tk s w e q
  unfold xRaise1 at e
  cases h : fe env st0 with
  | none => simp [h] at e
  | some pr =>
    obtain ⟨t, s1⟩ := pr
    simp only [h, Option.map_some] at e
    cases e
    refine Ws.of (ps_raise hc tk (pmk_oex B.o B.i B.t F1 hr hb .nil pass0 hg B.g Wa.pa hdb he hpl)) ?_
    refine ha env st0 ρ σ H [t] st' s w (by simp [h]) _ fun vs H1 ρ1 f1 w1 r1 => ?_
    cases r1 with
    | @cons _ vv _ _ r1 r2 =>
      cases r2
      refine ⟨by show 1 ≤ 1000; decide, fun a hna => ⟨a, _, rfl, upd_same, fun dx hdx hne => ⟨rfl, dx, [(f, vv)], upd_same, by rw [upd_ne hne, upd_same], by rw [upd_ne hne] at hdx; exact hdx, ?_⟩⟩⟩
      rw [upd_ne hne] at hdx
      have eH : upd (del (upd (upd (upd H1 a (exo a (Tb.cls x) none)) dx (exd dx [(f, vv)])) a (exo a (Tb.cls x) (some dx))) a) dx (.xd [(f, vv)]) = upd H1 dx (.xd [(f, vv)]) := by
        funext b
        by_cases h1 : b = dx
        · rw [h1, upd_same, upd_same]
        · rw [upd_ne h1, upd_ne h1]
          by_cases h2 : b = a
          · rw [h2, del_same, hna]
          · rw [del_ne h2, upd_ne h2, upd_ne h1, upd_ne h2]
      rw [eH]
      have fg : Fut H1 (upd H1 dx (.xd [(f, vv)])) ρ1 ρ1 := fut_grow (grow_new hdx)
      exact q (some dx) _ ρ1 (f1.trans fg) (w1.grow (grow_new hdx)) ⟨dx, _, rfl, upd_same, r1.up fg⟩
end
end TL
/-! TL19 -/
set_option Elab.async false
set_option linter.all false
set_option maxRecDepth 100000
set_option maxHeartbeats 4000000
/-! try with clauses of both sorts, none of which lets anything out -/
namespace TL
variable [Tb]
open PySem PySem.Spec PyProof.Rows L2
/-- an exception has been caught: s' is the state, h its heap -/
structure Got (X : Cx) (pins : List (Addr × Obj)) (σ : St) (H : Hp) (a : Addr) (cls : Value) (d : Option Addr) (s' : Shared) (h : Heap) : Prop where
  ex : ∃ (B : Heap) (sI : Shared), Inv X pins σ H sI ∧ (∀ b o, sI.heap.get? b = some o → b ∉ frs X.stack → B.get? b = some o) ∧ sI.heap.UpToSlots h ∧ HandSPX.FlyingZ B (X.env :: X.outer) a (Zc cls d) h ∧ H a = none ∧ s'.os = sI.os ∧ AllBare s'.gens
section
variable {X : Cx} {pins : List (Addr × Obj)} {σ : St} {H : Hp} {a : Addr} {cls : Value} {d : Option Addr} {s' : Shared} {h : Heap}
theorem Got.none (g : Got X pins σ H a cls d s' h) : H a = none := by
  obtain ⟨_, _, _, _, _, _, n, _⟩ := g.ex
  exact n
/-- what is known in an except suite -/
theorem Got.suite (g : Got X pins σ H a cls d s' h) (hf : X.env.frame = some X.env.locals) : ∃ oe, Inv (X.suite a ((a, oe) :: (X.pn ++ pins))) [] σ H { s' with heap := h } ∧ h.get? a = some oe ∧ Zc cls d oe ∧ ∃ vs, oe.data = .fields vs := by
  obtain ⟨B, sI, J, nb, up, fl, na, os, ag⟩ := g.ex
  have J3 : Inv X pins σ H { s' with heap := h } := J.landed nb fl.1 up os ag
  obtain ⟨oe, vs, he, hz, hd⟩ := fl.there
  have nfr : a ∉ frs (X.env :: X.outer) := fun hm => by
    obtain ⟨_, o', e', hnf⟩ := fl.2.2.1.mem hm
    rw [he] at e'; cases e'
    exact hnf _ hd
  refine ⟨oe, J3.suite he hd na (fun z => nfr (List.mem_filterMap.mpr ⟨X.env, List.mem_cons_self, by rw [hf, z]⟩)) (fun hm => ?_), he, hz, vs, hd⟩
  obtain ⟨e, he2, q⟩ := List.mem_filterMap.mp hm
  exact nfr (List.mem_filterMap.mpr ⟨e, List.mem_cons_of_mem _ he2, q⟩)
/-- the clause is entered: the exception is taken down once more -/
theorem Got.again (g : Got X pins σ H a cls d s' h) {M : Model} {A : Around} {E : Value → Shared → Prop} {Q : Unit → Shared → Prop} (q : ∀ h4, Got X pins σ H a cls d s' h4 → Q () { s' with heap := h4 }) {x : Sem Unit}
    (hx : ∀ B, HandSPX.FlyingZ B (X.env :: X.outer) a (Zc cls d) h → (∀ h4, HandSPX.FlyingZ B (X.env :: X.outer) a (Zc cls d) h4 → h.UpToSlots h4 → Q () { s' with heap := h4 }) → wpAny M A x Q E { s' with heap := h }) : wpAny M A x Q E { s' with heap := h } := by
  obtain ⟨B, sI, J, nb, up, fl, na, os, ag⟩ := g.ex
  exact hx B fl fun h4 fl4 up4 => q h4 ⟨B, sI, J, nb, up.trans up4, fl4, na, os, ag⟩
abbrev Wish := Value → Option Addr → St → Hp → Prop
/-- the ends behind a clause with a name: its slot is empty again -/
def endAs (D : Ends) (i : Nat) : Ends := { nx := fun σ H => D.nx (σ.set i none) H, rt := D.rt, bk := fun σ H => D.bk (σ.set i none) H, ct := fun σ H => D.ct (σ.set i none) H }
inductive HdsM (X : Cx) (D : Ends) : List ExceptHandler → Wish → Prop
  | nil : HdsM X D [] fun _ _ _ _ => False
  | bare {x : Str} {c : Value} {ts : Addr → Value → Option Addr → TS} {b₀ : Stmt} {su : List Stmt} {np p : Pos} {hds : List ExceptHandler} {w : Wish} (hc : Names X x c)
      (hsu : ∀ (a : Addr) (oe : Obj) (cls : Value) (d : Option Addr) (pn : List (Addr × Obj)), Zc cls d oe → (∃ vs, oe.data = .fields vs) → PSs (X.suite a ((a, oe) :: pn)) (b₀ :: su) (ts a cls d)) (r : HdsM X D hds w) :
      HdsM X D (.ExceptHandler (some (.Name x np)) none (b₀ :: su) p :: hds) fun cls d σ H => ∃ b, PySem.W.exmOne X.K cls c = some b ∧ (b = true → ∀ a, H a = none → ts a cls d D σ H) ∧ (b = false → w cls d σ H)
  | as {x n : Str} {i : Nat} {c : Value} {ts : Addr → Value → Option Addr → TS} {b₀ : Stmt} {su : List Stmt} {np p : Pos} {hds : List ExceptHandler} {w : Wish} (hc : Names X x c) (hN : X.N.Nodup) (hi : X.N[i]? = some n) (hln : X.env.kindOf n = some .local)
      (hsu : ∀ (a : Addr) (oe : Obj) (cls : Value) (d : Option Addr) (pn : List (Addr × Obj)), Zc cls d oe → (∃ vs, oe.data = .fields vs) → PSs (X.suite a ((a, oe) :: pn)) (b₀ :: su) (ts a cls d)) (r : HdsM X D hds w) :
      HdsM X D (.ExceptHandler (some (.Name x np)) (some n) (b₀ :: su) p :: hds) fun cls d σ H => ∃ b, PySem.W.exmOne X.K cls c = some b ∧ (b = true → ∀ a, H a = none → ts a cls d (endAs D i) (σ.set i (some (.ref a))) H) ∧ (b = false → w cls d σ H)
/-- the class of a clause is looked up, and held against the exception's -/
theorem clause_test {x : Str} {c : Value} {np : Pos} {b : Bool} {Q : Bool → Shared → Prop} {E : Value → Shared → Prop} (g : Got X pins σ H a cls d s' h) (hf : X.env.frame = some X.env.locals) (hc : Names X x c) (hb : PySem.W.exmOne X.K cls c = some b) (q : Q b { s' with heap := h }) :
    wpAny (model X.prog X.w) (X.A.mark (some (.ref a))) (eval (.Name x np) X.env) (fun v s2 => wpAny (model X.prog X.w) (X.A.mark (some (.ref a))) (excMatches (.ref a) v) Q E s2) E { s' with heap := h } := by
  obtain ⟨oe, S, he, hz, vs, hd⟩ := g.suite hf
  have LT : PySem.W.Looks (model X.prog X.w) h (typeOf (.ref a)) cls := fun A Q E s k q => wpAny_typeOf_ref (k _ _ he) (by rw [hz.1]; exact q)
  have LM := PySem.W.exm_one (M := model X.prog X.w) (S.kIn) LT hb
  obtain ⟨hg, hdbg, hm | ⟨hm, hv, hnn⟩⟩ := hc
  · exact ld_glob (X := X.suite a ((a, oe) :: (X.pn ++ pins))) S hg hm (LM.here q) hdbg
  · exact ld_blt (X := X.suite a ((a, oe) :: (X.pn ++ pins))) S hg hm hv (LM.here q) hnn hdbg
theorem handled {D : Ends} {hds : List ExceptHandler} {w : Wish} (hk : HdsM X D hds w) (ok : X.Ok) (hf : X.env.frame = some X.env.locals) : ∀ {h : Heap}, Got X pins σ H a cls d s' h → w cls d σ H → wpAny (model X.prog X.w) X.A (handleBy (.ref a) X.env hds) (SP X pins D) X.xe { s' with heap := h } := by
  induction hk with
  | nil => exact fun _ z => z.elim
  | @bare x c ts b₀ su np p hds2 w2 hc hsu r ih =>
    rintro h g ⟨b, hb1, yes, no⟩
    refine wpAny_handleBy_cons (codeAny_handlers_test (clause_test g hf hc hb1 ?_)) (by intro q; cases q)
    cases b with
    | false => show wpAny _ X.A (handleBy (.ref a) X.env hds2) _ _ _; exact ih g (no rfl)
    | true =>
      refine codeAny_handlers_suite (g.again (fun h4 g4 => ?_) fun B fl k => HandSPX.lands_againZ fl k)
      obtain ⟨oe, S, he, hz, hd⟩ := g4.suite hf
      refine wpAny_mono ((hsu a oe cls d (X.pn ++ pins) hz hd).run [] _ _ H _ S (yes rfl a g.none)) (fun f s6 hsp => ?_) (fun _ _ z => False.elim z)
      cases f with
      | next => obtain ⟨σ6, H6, S6, q6⟩ := hsp; exact ⟨_, _, S6.unsuite ok, q6⟩
      | brk => obtain ⟨σ6, H6, S6, q6⟩ := hsp; exact ⟨_, _, S6.unsuite ok, q6⟩
      | cont => obtain ⟨σ6, H6, S6, q6⟩ := hsp; exact ⟨_, _, S6.unsuite ok, q6⟩
      | ret u => obtain ⟨v6, σ6, H6, S6, r6, q6⟩ := hsp; exact ⟨_, _, _, S6.unsuite ok, r6, q6⟩
  | @as x n i c ts b₀ su np p hds2 w2 hc hN hi hln hsu r ih =>
    rintro h g ⟨b, hb1, yes, no⟩
    refine wpAny_handleBy_cons (codeAny_handlers_test (clause_test g hf hc hb1 ?_)) (by intro q; cases q)
    cases b with
    | false => show wpAny _ X.A (handleBy (.ref a) X.env hds2) _ _ _; exact ih g (no rfl)
    | true =>
      refine codeAny_handlers_suite_as (g.again (fun h4 g4 => ?_) fun B fl k => HandSPX.lands_againZ fl k)
      obtain ⟨oe, S, he, hz, hd⟩ := g4.suite hf
      refine store_ok (X := X.suite a ((a, oe) :: (X.pn ++ pins))) (v := .ref a) S hN hi (.inl hln) rfl (fun s5 S5 => ?_) (.inr hln)
      refine wpAny_mono ((hsu a oe cls d (X.pn ++ pins) hz hd).run [] s5 _ H _ S5 (yes rfl a g.none)) (fun f s6 hsp => ?_) (fun _ _ z => False.elim z)
      cases f with
      | next => obtain ⟨σ6, H6, S6, q6⟩ := hsp; exact gone_ok (S6.unsuite ok) hN hi hln fun s7 J7 => ⟨_, _, J7, q6⟩
      | brk => obtain ⟨σ6, H6, S6, q6⟩ := hsp; exact gone_ok (S6.unsuite ok) hN hi hln fun s7 J7 => ⟨_, _, J7, q6⟩
      | cont => obtain ⟨σ6, H6, S6, q6⟩ := hsp; exact gone_ok (S6.unsuite ok) hN hi hln fun s7 J7 => ⟨_, _, J7, q6⟩
      | ret u => obtain ⟨v6, σ6, H6, S6, r6, q6⟩ := hsp; exact gone_ok (S6.unsuite ok) hN hi hln fun s7 J7 => ⟨_, _, _, J7, r6, q6⟩
/-- try: body, clauses; the body's wish is what the clauses make of an exception -/
theorem try_all {body : List Stmt} {h₀ : ExceptHandler} {hds : List ExceptHandler} {pos : Pos} {tb : WX → TS} {D : Ends} {w : Wish} (hs : X.stack = X.env :: X.outer) (hf : X.env.frame = some X.env.locals)
    (hb : ∀ (W : WX) (pn : List (Addr × Obj)) (xe : Value → Shared → Prop), Takes (X.tr pn xe) W → PSs (X.tr pn xe) body (tb W)) (hk : HdsM X D (h₀ :: hds) w) {σ : St} {H : Hp} (q : tb w D σ H) : Ws X (.Try body (h₀ :: hds) [] [] pos) D σ H := by
  intro pins s I
  have ok := I.ok
  have hfr : X.A.frames = some (X.env :: X.outer) := by rw [ok.frames, hs]
  refine wpAny_Try_except (wpAny_mono ((hb w (X.pn ++ pins) (fun e s₁ => wpAny (model X.prog X.w) X.A (noteFrame e X.env) (fun _ s₂ => wpAny (model X.prog X.w) X.A (setFlight e none) (fun _ s₃ => wpAny (model X.prog X.w) X.A (handleBy e X.env (h₀ :: hds)) (SP X pins D) X.xe s₃) X.xe s₂) X.xe s₁) ?_).run [] s σ H D (I.toTry _) q) ?_ fun e s1 he => he)
  · rintro u s' ⟨a, B, sI, pins', σ', H', cls, d, rfl, J', nb, up, sky, na, os, ag, hw⟩
    have sky' : Sky B (X.env :: X.outer) a (Zc cls d) X.env.locals s'.heap := by rw [← hs]; exact sky
    show wpAny (model X.prog X.w) X.A (noteFrame (.ref a) X.env) _ _ _
    exact Sky.land Zc.steady hfr hf sky' fun h3 fl3 up3 => handled (s' := s') hk ok hf ⟨B, sI, J'.ofTry ok, nb, up.trans up3, fl3, na, os, ag⟩ hw
  · intro f s1 hsp
    cases f with
    | next => obtain ⟨σ', H', J', q⟩ := hsp; exact wpAny_execs_nil ⟨σ', H', J'.ofTry ok, q⟩
    | brk => obtain ⟨σ', H', J', q⟩ := hsp; exact ⟨σ', H', J'.ofTry ok, q⟩
    | cont => obtain ⟨σ', H', J', q⟩ := hsp; exact ⟨σ', H', J'.ofTry ok, q⟩
    | ret u => obtain ⟨v, σ', H', J', r, q⟩ := hsp; exact ⟨v, σ', H', J'.ofTry ok, r, q⟩
end
end TL
/-! TL20 -/
set_option Elab.async false
set_option linter.all false
set_option maxRecDepth 100000
set_option maxHeartbeats 4000000
/-! heard(lambda: e): what e comes to, or how it is refused -/
namespace TL
variable [Tb]
open PySem PySem.Spec PyProof.Rows L2
structure FldOk (K : PySem.W.Frag) (C : Addr) (f : Str) : Prop where
  ga : PySem.W.findIn K (.ref C) "__getattribute__" = some (some (.builtin "BaseException.__getattribute__"))
  gg : PySem.W.findIn K (.ref C) "__getattr__" = some none
  no : PySem.W.findIn K (.ref C) f = some none
  ex : PySem.W.subIn K (.ref C) (.type "BaseException") = some true
  hd : PySem.W.hasDictIn K C = true
/-- a clause: its class, the word, the field that it tells if it has a name -/
structure ClT where
  c : Value
  word : Str
  f : Option Str
def Leads (K : PySem.W.Frag) : List ClT → Ex → T → Prop
  | [], _, _ => False
  | cl :: r, x, t => ∃ b, PySem.W.exmOne K (.ref x.C) cl.c = some b ∧ (b = true → match cl.f with
      | none => t = .tup [.str cl.word]
      | some f => FldOk K x.C f ∧ ∃ u, x.f = some (f, u) ∧ t = .tup [.str cl.word, u]) ∧ (b = false → Leads K r x t)
section
variable {X : Cx}
theorem pe_fld {a : Addr} {oe : Obj} {cls : Value} {d : Option Addr} {pn : List (Addr × Obj)} {e : Expr} {te : TE} {f : Str} {pos : Pos} (hz : Zc cls d oe) (hf : ∃ vs, oe.data = .fields vs) (he : PE (X.suite a ((a, oe) :: pn)) e te) (hb : attributeBase e f X.env (eval e X.env) = eval e X.env) :
    PE (X.suite a ((a, oe) :: pn)) (.Attribute e f pos) (fun σ H Q => te σ H fun x H1 => x = .ref a ∧ ∃ C dd v, cls = .ref C ∧ FldOk X.K C f ∧ d = some dd ∧ H1 dd = some (.xd [(f, v)]) ∧ Q v H1) := by
  refine ⟨fun pins s σ H Q I h => attr_of hb (thn (he.run pins s σ H _ I h) fun u s1 ⟨x, H1, I1, rx, ex, C, dd, v, ec, T, ed, ea, q⟩ => ?_)⟩
  subst ex ec ed
  cases rx
  obtain ⟨ha, _⟩ := I1.pin (a, oe) (List.mem_append_left _ List.mem_cons_self)
  obtain ⟨vs, hd⟩ := hf
  obtain ⟨mA, hns, hr⟩ := (show ObjOk X.prog X.w H1 s1.heap dd (.xd [(f, v)]) from I1.hok dd _ ea)
  obtain ⟨od, ho, hl⟩ := lookIn_ns hns
  have l : List.lookup f [(f, v)] = some v := by simp [List.lookup]
  obtain ⟨u, hu, ru⟩ := RelO.some_of (v := v) (o := mA f) (by rw [← l]; exact hr f)
  have J : PySem.W.InstAt s1.heap a oe C (some od) := ⟨ha, hz.1, by unfold PySem.W.notCls; rw [hd] <;> rfl, by rw [hz.2]; exact ho⟩
  exact HandSPX.exc_get I1.kIn J T.ga T.gg T.ex (PySem.W.findObj_own T.hd T.no rfl (by rw [hl, hu])) (handed_of ru) ⟨v, H1, I1.tok _, ru, q⟩
/-- the clauses as they stand in the text -/
inductive HdsT (X : Cx) : List ExceptHandler → List ClT → Prop
  | nil : HdsT X [] []
  | bare {x : Str} {c : Value} {word : Str} {np p p1 p2 p3 : Pos} {j kk : Nat} {hds : List ExceptHandler} {r : List ClT} (hc : Names X x c) (hr : HdsT X hds r) :
      HdsT X (.ExceptHandler (some (.Name x np)) none [.Return (some (.Tuple [.Constant (.str word) j p1] kk p2)) p3] p :: hds) (⟨c, word, none⟩ :: r)
  | as {x n f : Str} {c : Value} {i : Nat} {word : Str} {np p p1 p2 p3 p4 p5 : Pos} {j kk : Nat} {hds : List ExceptHandler} {r : List ClT} (hc : Names X x c) (hi : X.N[i]? = some n) (hln : X.env.scope.names.lookup n = some .local) (hd : (n == ("__debug__" : Str)) = false) (hcd : (n == ("__classdict__" : Str)) = false)
      (hb : attributeBase (.Name n p4) f X.env (eval (.Name n p4) X.env) = eval (.Name n p4) X.env) (hr : HdsT X hds r) :
      HdsT X (.ExceptHandler (some (.Name x np)) (some n) [.Return (some (.Tuple [.Constant (.str word) j p1, .Attribute (.Name n p4) f p5] kk p2)) p3] p :: hds) (⟨c, word, some f⟩ :: r)
theorem hds_ok {hds : List ExceptHandler} {cs : List ClT} (hN : X.N.Nodup) (hT : HdsT X hds cs) : ∃ w : Ends → Wish, (∀ D, HdsM X D hds (w D)) ∧ ∀ (D : Ends) (x : Ex) (t : T) (d : Option Addr) (σ : St) (H : Hp) (ρ : List Addr) (st' : Store),
    Leads X.K cs x t → ExD (kx X) H ρ x d → Wd (kx X) ρ st' H → QE (kx X) H ρ t st' D.rt → σ.length = X.N.length → w D (.ref x.C) d σ H := by
  induction hT with
  | nil => exact ⟨fun _ _ _ _ _ => False, fun D => .nil, fun D x t d σ H ρ st' l => l.elim⟩
  | @bare x c word np p p1 p2 p3 j kk hds r hc hr ih =>
    obtain ⟨w, h1, h2⟩ := ih
    refine ⟨_, fun D => .bare (ts := fun a cls d => tRet (tTup (tCons (tC (.str word)) tNil))) hc (fun a oe cls d pn hz hf => pss_one (ps_ret (pe_tup (pa_cons pe_str pa_nil)))) (h1 D), fun D x0 t d σ H ρ st' l ed wd q hl => ?_⟩
    obtain ⟨b, e1, e2, e3⟩ := l
    refine ⟨b, e1, fun hb a na => ?_, fun hb => h2 D x0 t d σ H ρ st' (e3 hb) ed wd q hl⟩
    have e4 : t = .tup [.str word] := e2 hb
    subst e4
    show ([V.str word]).length ≤ sizeLine ∧ ∀ p, H p = none → D.rt (.ref p) (upd H p (.tup [V.str word]))
    exact ⟨by show 1 ≤ sizeLine; decide, fun p hp => q _ _ ρ (fut_grow (grow_new hp)) (wd.grow (grow_new hp)) (.tup (.inl (.inl upd_same)) (.cons (.str _) .nil))⟩
  | @as x n f c i word np p p1 p2 p3 p4 p5 j kk hds r hc hi hln hd hcd hb hr ih =>
    obtain ⟨w, h1, h2⟩ := ih
    refine ⟨_, fun D => .as (i := i) hc hN hi hln (fun a oe cls d pn hz hf => pss_one (ps_ret (pe_tup (pa_cons pe_str (pa_cons (pe_fld hz hf (pe_var (X := X.suite a ((a, oe) :: pn)) (i := i) hi (.inl hln) hd hcd) hb) pa_nil))))) (h1 D), fun D x0 t d σ H ρ st' l ed wd q hl => ?_⟩
    obtain ⟨b, e1, e2, e3⟩ := l
    refine ⟨b, e1, fun hb a na => ?_, fun hb => h2 D x0 t d σ H ρ st' (e3 hb) ed wd q hl⟩
    obtain ⟨fo, u, e4, e5⟩ := e2 hb
    subst e5
    unfold ExD at ed
    rw [e4] at ed
    obtain ⟨dd, v, rfl, hdd, rv⟩ := ed
    have hlt : i < σ.length := by rw [hl]; exact (List.getElem?_eq_some_iff.mp hi).1
    refine ⟨.ref a, by rw [List.getElem?_set_self hlt], rfl, x0.C, dd, v, rfl, fo, rfl, hdd, ?_⟩
    show ([V.str word, v]).length ≤ sizeLine ∧ ∀ p, H p = none → D.rt (.ref p) (upd H p (.tup [V.str word, v]))
    exact ⟨by show 2 ≤ sizeLine; decide, fun p hp => q _ _ ρ (fut_grow (grow_new hp)) (wd.grow (grow_new hp)) (rep_pair hp (.str _) rv)⟩
end
/-! ### the lambda is made: what the store tells stays -/
theorem Wd.made {K : KX} {ρ : List Addr} {st : Store} {H H1 : Hp} (w : Wd K ρ st H) (e : LamX.ExtN H H1) (t : LamX.Tabs K.tabs H1) : Wd K ρ st H1 ∧ Fut H H1 ρ ρ := by
  have f : Fut H H1 ρ ρ := ⟨fun a o h i => e a o h (fun ps z => by subst z; cases i), [], by simp⟩
  refine ⟨⟨t, w.len, w.nd, fun l o a h1 h2 => ?_⟩, f⟩
  obtain ⟨u, hu⟩ := w.hasO h2
  exact (w.ob l o a h1 h2).up f ((e a u hu (fun ps z => (w.apart h2).1 ps (by rw [hu, z]))).trans hu.symm)
end TL
/-! TL21 -/
set_option Elab.async false
set_option linter.all false
set_option maxRecDepth 100000
set_option maxHeartbeats 4000000
namespace TL
variable [Tb]
open PySem PySem.Spec PyProof.Rows L2 LamX
/-- the lambda's body, called from wherever -/
def tLamW (X : Cx) (k : Nat) (scope : Scope) (f c' : Addr) (body : Expr) (E : XK) : TE := fun σ HZ Q => ∀ (A : Around) (outer : List Env) (s : Shared), A.guards = some [] → Room k (A.deeper (lamEnv X scope s.heap.objs.size f c')) → We (lamCx X A outer s HZ E scope f c') body σ HZ Q
section
variable {X : Cx} {pins : List (Addr × Obj)} {σ : St} {H : Hp} {s : Shared}
/-- a(), in the def that got the lambda -/
theorem act_pe {Ng : List Str} {qg : Str} {sg : Scope} {g f c' : Addr} {cdg pm ctv : Value} {params : Arguments} {body : Expr} {scope : Scope} {k : Nat} {a : Str} {pn : List (Addr × Obj)} {xe : Value → Shared → Prop} {W : WX} {p1 p2 : Pos}
    (I : Inv X pins σ H s) (L : LamS X.env.scope scope) (hf : s.heap.get? f = some (PySem.W.kla_obj "<lambda>" (X.env.qual ++ "<lambda>") params body scope (cloFrom X.env.cells scope.names []) pm c' ctv)) (hfn : H f = none) (hfr : f ∉ frs X.stack)
    (hbind : bindArgs (PySem.W.kla_fn "<lambda>" (X.env.qual ++ "<lambda>") params body scope (cloFrom X.env.cells scope.names []) pm (.ref c') ctv) ⟨[], []⟩ = pure [])
    (tk : Takes ((cxOf C8.CX0 X.prog X.w X.K X.mg X.base Ng qg sg g cdg X.A X.stack s H C8.E0).tr pn xe) W) (hr : Room (k + 1) (X.A.deeper (envOfC qg sg s.heap.objs.size g cdg))) (hgu : X.A.guards = some []) (hN : Ng[0]? = some a) (hv : Vis sg a) (hd : (a == ("__debug__" : Str)) = false) (hcd : (a == ("__classdict__" : Str)) = false) :
    PE ((cxOf C8.CX0 X.prog X.w X.K X.mg X.base Ng qg sg g cdg X.A X.stack s H C8.E0).tr pn xe) (.Call (.Name a p1) [] [] p2)
      (fun σZ HZ Q => σZ[0]? = some (some (.ref f)) ∧ HZ c' = some (CodeO c' (X.env.qual ++ "<lambda>")) ∧ ∃ E : XK, (∀ cls d H', E cls d H' → W cls d σZ H') ∧ tLamW X k scope f c' body E σ HZ Q) := by
  refine ⟨fun pinsZ sZ σZ HZ Q IZ ⟨hs, hc, E, hE, ht⟩ => wpAny_Call_Name_kw (thn ((pe_var (pos := p1) (i := 0) hN hv hd hcd).run pinsZ sZ σZ HZ (fun v H1 => v = .ref f ∧ H1 = HZ) IZ ⟨.ref f, hs, rfl, rfl⟩) fun u s1 ⟨v, H1, I1, r1, ev, eH⟩ => ?_)⟩
  subst ev; rw [eH] at I1; cases r1
  have of1 : s1.heap.get? f = some (PySem.W.kla_obj "<lambda>" (X.env.qual ++ "<lambda>") params body scope (cloFrom X.env.cells scope.names []) pm c' ctv) := I1.base.keep f _ hf hfn hfr (fun z => absurd (show f ∈ ([] : List Addr) from z) (by simp))
  refine PySem.W.callWith_F0 ⟨_, _, _, _, of1⟩ (wpAny_call (codeAny_mono (R := CR (L2.CX X.prog X.w) (envOfC qg sg s.heap.objs.size g cdg :: X.stack) X.prog X.w HZ s1 Q E) ?_ fun r s' hq => ?_))
  · obtain ⟨⟨oc, vs, t, hoc, hdc, hvc⟩, _, _⟩ := I1.hok c' _ hc
    refine PySem.W.kla_callFunE hr.depth of1 rfl L.co L.gen rfl ⟨c', oc, vs, t, rfl, hoc, hdc, hvc⟩ ?_
    have hb2 : bindArgs (PySem.W.kla_fn "<lambda>" (X.env.qual ++ "<lambda>") params body scope (cloFrom X.env.cells scope.names []) pm (.ref c') ctv) ⟨[] ++ [], []⟩ = pure [] := hbind
    rw [hb2]
    refine wpAny_pure (wpAny_newFunctionEnv (fun y hy => (L.own y hy).2) (fun y hy => absurd hy (by simp)) (fun h₁ hns hsb => ⟨I1.nolimit.fresh _ hsb, ?_⟩) L.kind)
    have kp : ∀ b o, s1.heap.get? b = some o → h₁.get? b = some o := fun b o e => hsb.extBut b o (Nat.ne_of_lt (Heap.lt_size e)) (Heap.get?_push_of_some _ e)
    have J := lam_start2 (A := X.A.deeper (envOfC qg sg s.heap.objs.size g cdg)) (E := E) (c' := c') (f := f) (tk := s1.toks + ([] : List (Str × Value)).length) I L I1.env0 hr.hd I1.base hns kp
    show codeAny _ _ (.expr body (lamEnv X scope s1.heap.objs.size f c')) _ _
    refine PySem.W.kla_codeExpr (wpAny_mono (ht (X.A.deeper (envOfC qg sg s.heap.objs.size g cdg)) (envOfC qg sg s.heap.objs.size g cdg :: X.stack) s1 hgu (hr.deeper _) [] _ J) (fun v s' hq => ?_) fun e s' hq => hq)
    obtain ⟨w', H', J', rv, q⟩ := hq
    exact ⟨w', H', J'.os, J'.bare, J'.base, J'.hok, rv, q⟩
  · cases r with
    | error e => exact tk e s' (XE.of_call I1 (fun cls d H' h => hE cls d H' h) hq)
    | ok fl =>
      cases fl with
      | ret u => exact I1.after hq
      | next => exact False.elim hq
      | brk => exact False.elim hq
      | cont => exact False.elim hq
end
/-- the def that hears, as the text has it -/
structure Hearer (P : Program) (w : World) (K : PySem.W.Frag) (mg : Str → Option Value) (base : Heap) (x : Str) (told : Str) (cs : List ClT) : Prop where
  ex : ∃ (g : Addr) (pg : Arguments) (bg : List Stmt) (sg : Scope) (dV kV doc pm cdv ct oc : Value) (an od : Option Addr) (osl : Array (Option Value)) (Ng : List Str) (a : Str) (h₀ : ExceptHandler) (hds : List ExceptHandler) (j kk : Nat) (p1 p2 p3 p4 p5 p6 : Pos),
    mg x = some (.ref g) ∧ PySem.W.keepIn K (.ref g) = true ∧ K.lookup g = some ⟨oc, od, .func (PySem.W.fnOf x x pg bg sg dV kV doc pm an cdv ct), osl⟩ ∧ PySem.W.codeIn K cdv x = true ∧ L2.Binds K (PySem.W.fnOf x x pg bg sg dV kV doc pm an cdv ct) [a] [] ∧ FnScope Ng [a] sg ∧ Ng[0]? = some a ∧ Vis sg a ∧
    (a == ("__debug__" : Str)) = false ∧ (a == ("__classdict__" : Str)) = false ∧
    bg = [.Try [.Return (some (.Tuple [.Constant (.str told) j p1, .Call (.Name a p2) [] [] p3] kk p4)) p5] (h₀ :: hds) [] [] p6] ∧
    ∀ (A : Around) (outer : List Env) (s : Shared) (H : Hp), HdsT (cxOf C8.CX0 P w K mg base Ng x sg g cdv A outer s H C8.E0).nox (h₀ :: hds) cs
/-- the maker of the lambda: its code and table -/
structure MakerAt (X : Cx) : Prop where
  ex : ∃ c P, TabB X.base X.mg c P ∧ X.env.code = .ref c ∧ (P, X.env.qual ++ "<lambda>") ∈ Tb.tabs ∧ ∀ p ∈ Tb.tabs, p.1 = P → p.2 = X.env.qual ++ "<lambda>"
def xHeard (told : Str) (ans : Ex → Option T) (fb : XE) (gb : XX) : XE := fun e st => match fb e st with
  | some (t, st') => some (.tup [.str told, t], st')
  | none => (gb e st).bind fun p => (ans p.1).map fun t => (t, p.2)
section
variable {X : Cx} {x : Str} {params : Arguments} {body : Expr} {scope : Scope} {p lpos pos : Pos} {k : Nat} {told : Str} {cs : List ClT} {ans : Ex → Option T} {fb : XE} {gb : XX}
theorem et_heard (G : Hearer X.prog X.w X.K X.mg X.base x told cs) (M : MakerAt X) (hans : ∀ y t, ans y = some t → Leads X.K cs y t) (hr : Room (k + 2) X.A) (hgu : X.A.guards = some []) (L : LamS X.env.scope scope)
    (hfb : ∀ (A : Around) (outer : List Env) (s : Shared) (H : Hp) (E : XK) (f c' : Addr), A.guards = some [] → Room k (A.deeper (lamEnv X scope s.heap.objs.size f c')) → ET (lamCx X A outer s H E scope f c') body fb)
    (hgb : ∀ (A : Around) (outer : List Env) (s : Shared) (H : Hp) (E : XK) (f c' : Addr), A.guards = some [] → Room k (A.deeper (lamEnv X scope s.heap.objs.size f c')) → EX (lamCx X A outer s H E scope f c') body gb)
    (hdef : defaultsOf params X.env = ([], []) := by rfl) (hbind : ∀ (q : Str) (cl : List (Str × Addr)) (pm cv ctv : Value), bindArgs (PySem.W.kla_fn "<lambda>" q params body scope cl pm cv ctv) ⟨[], []⟩ = pure [] := by intros; rfl) (hg : Gl X x := by rfl) (hdb : (x == ("__debug__" : Str)) = false := by decide +kernel) :
    ET X (.Call (.Name x p) [.Lambda params body scope lpos] [] pos) (xHeard told ans fb gb) := by
  intro env st ρ σ H t st' s w e Q q pins s0 I
  obtain ⟨g, pg, bg, sg, dV, kV, doc, pm, cdv, ct, oc, an, od, osl, Ng, a, h₀, hds, j, kk, p1, p2, p3, p4, p5, p6, hm, hk, lk, hcg, hb, Sg, hN0, hva, hd, hcd, rfl, hT⟩ := G.ex
  obtain ⟨c, P, TB, hcode, hmT, hu⟩ := M.ex
  refine wpAny_Call_Name_kw (ld_glob I hg hm (PySem.W.callWith_K (h₀ := X.base) I.ok.mod.kin hk ?_ (by rfl) (by rfl)) hdb)
  show wpAny _ _ (spliced ((false, eval (.Lambda params body scope lpos) X.env) :: backTo pos (starEach [] X.env))) _ _ s0
  refine Calls.spliced_cons (lam_make2 I TB hcode hmT hu w.tb hdef (L.has I.ok) fun f c' pm' ctv H1 s' I1 eN T1 hf hfn hfr hco => Calls.spliced_nil ⟨I1.kIn, ?_⟩)
  obtain ⟨w1, f1⟩ := w.made eN T1
  have s1 := s.up f1
  obtain ⟨wish, hk1, hk2⟩ := hds_ok Sg.nd (hT X.A X.stack s' H1)
  refine wpAny_call (codeAny_mono (R := CR C8.CX0 X.stack X.prog X.w H1 s' Q C8.E0) ?_ fun r s2 hq => ?_)
  · refine run_ofS (N := Ng) (ps := [a]) (us := [.ref f]) (vs := [.ref f]) lk hcg Sg hr I1.env0 (hb s' [.ref f] I1.kIn rfl) (.cons rfl .nil) rfl fun hr' => ⟨Wss _ _, PSs.nox (Wss.pss (X := (cxOf C8.CX0 X.prog X.w X.K X.mg X.base Ng x sg g cdv X.A X.stack s' H1 C8.E0).nox)), ?_⟩
    refine Wss.of (pss_one Ws.ps) ?_
    have hst : (L2.start Ng [V.ref f]).length = Ng.length := by
      have := List.getElem?_eq_some_iff.mp hN0
      obtain ⟨h0, _⟩ := this
      simp [L2.start]; omega
    refine try_all rfl rfl (tb := fun W D σZ HZ => σZ[0]? = some (some (.ref f)) ∧ HZ c' = some (CodeO c' (X.env.qual ++ "<lambda>")) ∧ ∃ E : XK, (∀ cls d H', E cls d H' → W cls d σZ H') ∧ tLamW X k scope f c' body E σ HZ fun v H2 => ∀ p, H2 p = none → D.rt (.ref p) (upd H2 p (.tup [.str told, v])))
      (fun W pn xe tk => ?_) (hk1 _) ?_
    · have hp := act_pe (p1 := p2) (p2 := p3) I1 L hf hfn hfr (hbind _ _ _ _ _) tk hr' hgu hN0 hva hd hcd
      have hq := pss_one (ps_ret (pos := p5) (pe_tup (x1 := kk) (pos := p4) (pa_cons (pe_str (x := told) (j := j) (pos := p1)) (pa_cons hp pa_nil))))
      exact ⟨fun pinsZ sZ σZ HZ D IZ ⟨h1, h2, E, h3, h4⟩ => hq.run pinsZ sZ σZ HZ D IZ ⟨h1, h2, E, h3, fun A outer s hA hR pins s3 I3 => wpAny_mono (h4 A outer s hA hR pins s3 I3) (fun v s4 ⟨v', H4, I4, r4, q4⟩ => ⟨v', H4, I4, r4, (show ([V.str told, v']).length ≤ sizeLine by show 2 ≤ sizeLine; decide), q4⟩) fun _ _ z => z⟩⟩
    · refine ⟨by rw [L2.start]; simp, hco, ?_⟩
      unfold xHeard at e
      cases h : fb env st with
      | some pr =>
        obtain ⟨t0, st0⟩ := pr
        rw [h] at e
        cases e
        refine ⟨fun _ _ _ => False, fun _ _ _ z => z.elim, fun A outer s3 hA hR => ?_⟩
        exact hfb A outer s3 H1 _ f c' hA hR env st ρ σ H1 t0 st' s1 w1 h _ fun v H2 ρ2 f2 w2 r2 p hp => q _ _ ρ2 ((f1.trans f2).trans (fut_grow (grow_new hp))) (w2.grow (grow_new hp)) (rep_pair hp (.str _) r2)
      | none =>
        rw [h] at e
        cases h2 : gb env st with
        | none => simp [h2] at e
        | some pr =>
          obtain ⟨y, st0⟩ := pr
          simp only [h2, Option.bind_some] at e
          cases h3 : ans y with
          | none => simp [h3] at e
          | some ta =>
            simp only [h3, Option.map_some] at e
            cases e
            refine ⟨fun cls d H' => ∃ ρ', Fut H1 H' ρ ρ' ∧ Wd (kx X) ρ' st' H' ∧ ExD (kx X) H' ρ' y d ∧ cls = .ref y.C, fun cls d H' ⟨ρ', f', w', ed, ec⟩ => ?_, fun A outer s3 hA hR => ?_⟩
            · subst ec
              exact hk2 _ y t d _ H' ρ' st' (hans y t h3) ed w' (q.up (f1.trans f')) hst
            · exact fun pinsZ sZ IZ => wpAny_mono (hgb A outer s3 H1 _ f c' hA hR env st ρ σ H1 y st' _ (takes_of rfl rfl rfl rfl) s1 w1 h2 (fun d H' ρ' f' w' ed => ⟨ρ', f', w', ed, rfl⟩) pinsZ sZ IZ) (fun v s4 hq => by obtain ⟨_, _, _, _, z⟩ := hq; exact z.elim) fun _ _ z => z
  · cases r with
    | error e => exact (show False from hq).elim
    | ok fl =>
      cases fl with
      | ret u => exact I1.after hq
      | next => exact False.elim hq
      | brk => exact False.elim hq
      | cont => exact False.elim hq
end
end TL
/-! TL22 -/
set_option Elab.async false
set_option linter.all false
set_option maxRecDepth 100000
set_option maxHeartbeats 4000000
namespace TL
variable [Tb]
open PySem PySem.Spec PyProof.Rows L2 LamX
/-! ### xs[::-1] -/
theorem et_rev {X : Cx} {a : Expr} {fa : XE} {k : Nat} {p1 p2 p3 pos : Pos} (ha : ET X a fa) : ET X (.Subscript a (.Slice none none (some (.UnaryOp .USub (.Constant (.int 1) k p1) p2)) p3) pos) (xUn revT fa) := by
  intro env st ρ σ H t st' s w e Q q
  obtain ⟨x, st1, e1, e2⟩ := one e
  refine We.of (pe_revL We.pe) ?_
  refine ha env st ρ σ H x st1 s w e1 _ fun vx H1 ρ1 f1 w1 r1 => ?_
  unfold revT at e2
  split at e2
  · split at e2
    · rename_i ts hl
      cases e2
      obtain ⟨b, vs, rfl, ha0, h0, r0⟩ := rep_lst w1 r1 hl
      refine ⟨b, vs, rfl, SqL.of h0, fun p hp => ?_⟩
      obtain ⟨w2, f2⟩ := w1.push (o := .lst ts.reverse) (u := .lst vs.reverse) hp ⟨_, upd_same, r0.rev.up ⟨Ext.new hp, [p], rfl⟩⟩
      exact q _ _ _ (f1.trans f2) w2 (.ref (by rw [← w1.len, List.getElem?_append_right (Nat.le_refl _)]; simp))
    · cases e2
  · cases e2
theorem ot_inF {X : Cx} (hu : X.A.units + 65 < cLine) : OpT X (compareOp .In) (inA false) := ot_inA false hu
theorem ot_notinF {X : Cx} (hu : X.A.units + 65 < cLine) : OpT X (compareOp .NotIn) (inA true) := ot_inA true hu
/-! ### how a refusal is told -/
abbrev AnsTab := List (Str × Str × Option Str)
def ansOf (tab : AnsTab) (y : Ex) : Option T := match tab.find? fun e => e.1 == y.n with
  | none => none
  | some (_, w, none) => some (.tup [.str w])
  | some (_, w, some f) => match y.f with
    | some (g, t) => if g = f then some (.tup [.str w, t]) else none
    | none => none
def LeadsN (K : PySem.W.Frag) : List ClT → (Str × Str × Option Str) → Prop
  | [], _ => False
  | cl :: r, e => ∃ b, PySem.W.exmOne K (.ref (Tb.cls e.1)) cl.c = some b ∧ (b = true → cl.word = e.2.1 ∧ cl.f = e.2.2 ∧ ∀ f, e.2.2 = some f → FldOk K (Tb.cls e.1) f) ∧ (b = false → LeadsN K r e)
theorem leads_of {K : PySem.W.Frag} {y : Ex} {t : T} {e : Str × Str × Option Str} (hn : e.1 = y.n) (ht : (match e.2.2 with
    | none => some (T.tup [.str e.2.1])
    | some f => match y.f with
      | some (g, t) => if g = f then some (.tup [.str e.2.1, t]) else none
      | none => none) = some t) : ∀ {cs : List ClT}, LeadsN K cs e → Leads K cs y t
  | [], h => h.elim
  | cl :: r, ⟨b, h1, h2, h3⟩ => by
    have eC : y.C = Tb.cls e.1 := by rw [hn]; rfl
    refine ⟨b, by rw [eC]; exact h1, fun hb => ?_, fun hb => leads_of hn ht (h3 hb)⟩
    obtain ⟨k1, k2, k3⟩ := h2 hb
    rw [k2, k1]
    cases h : e.2.2 with
    | none =>
      rw [h] at ht
      exact (Option.some.inj ht).symm
    | some f =>
      rw [h] at ht
      cases h4 : y.f with
      | none => rw [h4] at ht; cases ht
      | some p =>
        obtain ⟨g, u⟩ := p
        simp only [h4] at ht
        split at ht
        · rename_i hgf
          subst hgf
          exact ⟨by rw [eC]; exact k3 _ h, u, rfl, (Option.some.inj ht).symm⟩
        · cases ht
theorem ans_leads {K : PySem.W.Frag} {cs : List ClT} {tab : AnsTab} (h : ∀ e ∈ tab, LeadsN K cs e) : ∀ y t, ansOf tab y = some t → Leads K cs y t := by
  intro y t e
  unfold ansOf at e
  cases hf : tab.find? fun e => e.1 == y.n with
  | none => rw [hf] at e; cases e
  | some z =>
    obtain ⟨n, w, fo⟩ := z
    have hm := List.mem_of_find?_eq_some hf
    have hn : n = y.n := eq_of_beq (List.find?_some (p := fun e : Str × Str × Option Str => e.1 == y.n) hf)
    refine leads_of (e := (n, w, fo)) hn ?_ (h _ hm)
    rw [hf] at e
    cases fo with
    | none => exact e
    | some f => exact e
/-! ### defs whose code is known -/
/-- where a def stands, its code at c -/
structure PlaceC (K : PySem.W.Frag) (mg : Str → Option Value) (x : Str) (st : Stmt) (ps : List Str) (c : Addr) : Prop where
  ex : ∃ (f : Addr) (oc : Value) (od : Option Addr) (kV doc pm : Value) (an : Option Addr) (ct : Value) (osl : Array (Option Value)), mg x = some (.ref f) ∧ PySem.W.keepIn K (.ref f) = true ∧
    K.lookup f = some ⟨oc, od, .func (PySem.W.fnOf x x (defArgs st) (defBody st) (defScope st) .none kV doc pm an (.ref c) ct), osl⟩ ∧ PySem.W.codeIn K (.ref c) x = true ∧ L2.Binds K (PySem.W.fnOf x x (defArgs st) (defBody st) (defScope st) .none kV doc pm an (.ref c) ct) ps []
theorem placeC_mk {K : PySem.W.Frag} {h : Heap} {mg : Str → Option Value} (X : K.In h) (G : h.Ns mainGlobals mg) {x : Str} {st : Stmt} {ps : List Str} {f c : Addr} {oc : Value} {od an : Option Addr} {sl : Array (Option Value)} {kV dc pm ct : Value}
    (hb : ∀ (kV doc pm : Value) (an : Option Addr) (cdv ct : Value) (us : List Value), us.length = ps.length → bindArgs (PySem.W.fnOf x x (defArgs st) (defBody st) (defScope st) .none kV doc pm an cdv ct) ⟨us, []⟩ = pure (ps.zip us))
    (a : PySem.W.nsIn K mainGlobals x = some (some (.ref f))) (l : K.lookup f = some ⟨oc, od, .func (PySem.W.fnOf x x (defArgs st) (defBody st) (defScope st) .none kV dc pm an (.ref c) ct), sl⟩) (cd : PySem.W.codeIn K (.ref c) x = true) (k : PySem.W.keepIn K (.ref f) = true) : PlaceC K mg x st ps c := by
  have F := fun_mk (st := st) l cd k
  exact ⟨f, oc, od, kV, dc, pm, an, ct, sl, PySem.W.mg_of X G a, k, l, cd, F.binds hb⟩
section
variable {P : Program} {w : World} {K : PySem.W.Frag} {mg : Str → Option Value} {base : Heap} {k : Nat} {x : Str} {ps : List Str} {F : FA}
/-- a def that makes a lambda: its code and table -/
structure MakerOf (mg : Str → Option Value) (base : Heap) (x : Str) (c : Addr) : Prop where
  ex : ∃ P, TabB base mg c P ∧ (P, x ++ ".<locals>." ++ "<lambda>") ∈ Tb.tabs ∧ ∀ p ∈ Tb.tabs, p.1 = P → p.2 = x ++ ".<locals>." ++ "<lambda>"
theorem DefAt.ofC {st : Stmt} {N : List Str} {Fb : XS} {c : Addr} (L : PlaceC K mg x st ps c) (S : FnScope N ps (defScope st))
    (hbody : ∀ (f : Addr) (A : Around) (outer : List Env) (s : Shared) (H : Hp), Room k (A.deeper (envOfC x (defScope st) s.heap.objs.size f (.ref c))) → (A.deeper (envOfC x (defScope st) s.heap.objs.size f (.ref c))).guards = some [] →
      SST (cx0 P w K mg base N x (defScope st) f (.ref c) A outer s H E0) (defBody st) Fb) : DefAt P w K mg base (k + 1) x ps (fnF ps.length N.length Fb) := by
  obtain ⟨f, oc, od, kV, doc, pm, an, ct, osl, h1, h2, h3, h4, h5⟩ := L.ex
  exact ⟨f, _, h1, h2, h5, FnT.ofL h3 h4 S fun A outer s H => hbody f A outer s H⟩
/-- a def that raises, as it stands behind the top -/
structure DefX (P : Program) (w : World) (K : PySem.W.Frag) (mg : Str → Option Value) (base : Heap) (k : Nat) (x : Str) (ps : List Str) (F : FX) : Prop where
  ex : ∃ (f : Addr) (fd : FuncData), mg x = some (.ref f) ∧ PySem.W.keepIn K (.ref f) = true ∧ L2.Binds K fd ps [] ∧ FnX P w K mg base k f fd ps F
theorem DefX.of {st : Stmt} {N : List Str} {Fb : XX} (L : Place K mg x st ps) (S : FnScope N ps (defScope st))
    (hbody : ∀ (f : Addr) (cdv : Value) (A : Around) (outer : List Env) (s : Shared) (H : Hp) (E : XK), Room k (A.deeper (envOfC x (defScope st) s.heap.objs.size f cdv)) → (A.deeper (envOfC x (defScope st) s.heap.objs.size f cdv)).guards = some [] →
      SX (cxX P w K mg base N x (defScope st) f cdv A outer s H E) (defBody st) Fb) : DefX P w K mg base (k + 1) x ps (fnX ps.length N.length Fb) := by
  obtain ⟨f, fd, h1, F, b⟩ := L.ex
  exact ⟨f, fd, h1, F.kp, b, FnX.of F S fun cdv A outer s H E => hbody f cdv A outer s H E⟩
/-- a class of exceptions of the program, with what its __init__ does -/
structure Exc0 (P : Program) (w : World) (K : PySem.W.Frag) (mg : Str → Option Value) (base : Heap) (x : Str) : Prop where
  ex : ∃ fI st fd qual, ExcC K mg x (Tb.cls x) fI st fd qual ∧ FnOk P w K mg base C8.CX0 1 fI fd ["self"] (spI0 (Tb.cls x)) ∧ L2.Binds K fd ["self"] []
structure Exc1 (P : Program) (w : World) (K : PySem.W.Frag) (mg : Str → Option Value) (base : Heap) (x f : Str) : Prop where
  ex : ∃ fI st fd qual y, ExcC K mg x (Tb.cls x) fI st fd qual ∧ FnOk P w K mg base C8.CX0 1 fI fd ["self", y] (spI1 (Tb.cls x) f) ∧ L2.Binds K fd ["self", y] []
theorem hearer_of {st : Stmt} {a told : Str} {cs : List ClT} {Ng : List Str} {h₀ : ExceptHandler} {hds : List ExceptHandler} {j kk : Nat} {p1 p2 p3 p4 p5 p6 : Pos} (L : Place K mg x st [a]) (S : FnScope Ng [a] (defScope st)) (h0 : Ng[0]? = some a) (hv : Vis (defScope st) a) (hd : (a == ("__debug__" : Str)) = false) (hcd : (a == ("__classdict__" : Str)) = false)
    (hb : defBody st = [.Try [.Return (some (.Tuple [.Constant (.str told) j p1, .Call (.Name a p2) [] [] p3] kk p4)) p5] (h₀ :: hds) [] [] p6])
    (hT : ∀ (g : Addr) (cdv : Value) (A : Around) (outer : List Env) (s : Shared) (H : Hp), HdsT (cxOf C8.CX0 P w K mg base Ng x (defScope st) g cdv A outer s H C8.E0).nox (h₀ :: hds) cs) : Hearer P w K mg base x told cs := by
  obtain ⟨f, fd, h1, F, b⟩ := L.ex
  obtain ⟨oc, od, kV, doc, pm, an, cdv, ct, osl, rfl, lk, hcd2⟩ := F.ex
  exact ⟨f, defArgs st, defBody st, defScope st, .none, kV, doc, pm, cdv, ct, oc, an, od, osl, Ng, a, h₀, hds, j, kk, p1, p2, p3, p4, p5, p6, h1, F.kp, lk, hcd2, b, S, h0, hv, hd, hcd, hb, fun A outer s H => hT f cdv A outer s H⟩
end
section
variable {X : Cx} {k j : Nat} {ps : List Str} {F : FX} {x f : Str} {p pos pos2 : Pos} {e : Expr} {es : List Expr} {fr : XA} {fe : XE}
theorem ex_callD (G : DefX X.prog X.w X.K X.mg X.base k x ps F) (hr : Room j X.A) (hgu : X.A.guards = some []) (ha : AT X (e :: es) fr) (hkj : k ≤ j := by decide)
    (hg : Gl X x := by rfl) (hdb : (x == ("__debug__" : Str)) = false := by decide +kernel) (he : starEach (e :: es) X.env = (false, eval e X.env) :: starEach es X.env := by rfl) (hpl : (backTo pos (starEach es X.env)).any (·.1) = false := by rfl) :
    EX X (.Call (.Name x p) (e :: es) [] pos) (xCallX F fr) := by
  obtain ⟨f, fd, h1, h2, h3, h4⟩ := G.ex
  exact ex_call h4 (hr.mono hkj) hgu h1 h2 h3 ha hg hdb he hpl
theorem s1_raise0D (hc : X.calm = true) (B : Exc0 X.prog X.w X.K X.mg X.base x) (hr : Room j X.A) (hj : 2 ≤ j := by decide) (hg : Gl X x := by rfl) (hdb : (x == ("__debug__" : Str)) = false := by decide +kernel) :
    SX1 X (.Raise (some (.Call (.Name x p) [] [] pos)) none pos2) (xRaise0 x) := by
  obtain ⟨fI, st, fd, qual, h1, h2, h3⟩ := B.ex
  exact s1_raise0 hc h1 h2 h3 (hr.mono hj) hg hdb
theorem at_one {e1 : Expr} (h : ET X e1 fe) (hs : starEach [e1] X.env = (false, eval e1 X.env) :: starEach [] X.env := by rfl) : AT X [e1] (fun e st => (fe e st).map fun p => ([p.1], p.2)) := by
  intro env st ρ σ H ts st' s w e Q q
  cases h1 : fe env st with
  | none => simp [h1] at e
  | some pr =>
    obtain ⟨t, s1⟩ := pr
    simp only [h1, Option.map_some] at e
    cases e
    refine Wa.of (pa_cons We.pe pa_nil hs) ?_
    exact h env st ρ σ H t st' s w h1 _ fun v H1 ρ1 f1 w1 r1 => q _ _ _ f1 w1 (.cons r1 .nil)
theorem s1_raise1D {e1 : Expr} (hc : X.calm = true) (B : Exc1 X.prog X.w X.K X.mg X.base x f) (hr : Room j X.A) (ha : ET X e1 fe) (hj : 2 ≤ j := by decide) (hg : Gl X x := by rfl) (hdb : (x == ("__debug__" : Str)) = false := by decide +kernel)
    (he : starEach [e1] X.env = (false, eval e1 X.env) :: starEach [] X.env := by rfl) (hpl : (backTo pos (starEach [] X.env)).any (·.1) = false := by rfl) :
    SX1 X (.Raise (some (.Call (.Name x p) [e1] [] pos)) none pos2) (xRaise1 x f fe) := by
  obtain ⟨fI, st, fd, qual, y, h1, h2, h3⟩ := B.ex
  exact s1_raise1 hc h1 h2 h3 (hr.mono hj) (at_one ha he) hg hdb he hpl
end
end TL
/-! TL23 -/
set_option Elab.async false
set_option linter.all false
set_option maxRecDepth 100000
set_option maxHeartbeats 4000000
namespace TL
variable [Tb]
open PySem PySem.Spec PyProof.Rows L2 LamX
theorem maker_at {X : Cx} {x : Str} {c : Addr} (M : MakerOf X.mg X.base x c) (hc : X.env.code = .ref c := by rfl) (hq : X.env.qual = x ++ ".<locals>." := by rfl) : MakerAt X := by
  obtain ⟨P, h1, h2, h3⟩ := M.ex
  exact ⟨c, P, h1, hc, by rw [hq]; exact h2, by rw [hq]; exact h3⟩
section
variable {X : Cx} {e : Expr} {gx : XX} {pos : Pos}
theorem s1_expr (he : EX X e gx) (hs : swapsWith e none pos.line X.env = pure false := by rfl) : SX1 X (.Expr e pos) gx := by
  intro env st ρ σ H x st' E tk s w e1 q
  have h := he env st ρ σ H x st' E tk s w e1 q
  exact Ws.of (ps_expr We.pe hs) (show We X e σ H _ from fun pins s0 I => wpAny_mono (h pins s0 I) (fun v s1 hq => by obtain ⟨_, _, _, _, z⟩ := hq; exact z.elim) fun _ _ z => z)
theorem s1_set {i : Nat} {x : Str} {pos' : Pos} (hN : X.N.Nodup) (he : EX X e gx) (hi : X.N[i]? = some x := by rfl) (hx : Loc X.env.scope x := by first | exact .inl rfl | exact .inr rfl) (hf : X.fn x = true ∨ X.env.scope.names.lookup x = some .local := by first | exact .inl rfl | exact .inr rfl)
    (hs : swapsWith e (some (.Name x pos')) pos.line X.env = pure false := by rfl) : SX1 X (.Assign [.Name x pos'] e pos) gx := by
  intro env st ρ σ H y st' E tk s w e1 q
  have h := he env st ρ σ H y st' E tk s w e1 q
  exact Ws.of (ps_set hN hi hx We.pe hs hf) (show We X e σ H _ from fun pins s0 I => wpAny_mono (h pins s0 I) (fun v s1 hq => by obtain ⟨_, _, _, _, z⟩ := hq; exact z.elim) fun _ _ z => z)
end
end TL
/-! TL24 -/
set_option Elab.async false
set_option linter.all false
set_option maxRecDepth 100000
set_option maxHeartbeats 4000000
namespace TL
variable [Tb]
open PySem PySem.Spec PyProof.Rows L2 LamX
/-- a class of exceptions by what the written part says -/
theorem exc_mk {K : PySem.W.Frag} {h : Heap} {mg : Str → Option Value} (X : K.In h) (G : h.Ns mainGlobals mg) {x qual : Str} {C fI : Addr} {st : Stmt} {ps : List Str} {nm q : Str} {N : Addr} {bs : List Value} {bm : List Value} {sn : List Str} {sub : List Value} {ab : Bool} {col : Option Bool} {dd : Option Addr} {k0 k1 k2 k3 k5 : Option Value}
    {oc : Value} {od an : Option Addr} {sl : Array (Option Value)} {kV dc pm cd ct : Value}
    (a1 : PySem.W.nsIn K mainGlobals x = some (some (.ref C))) (a2 : K.lookup C = some (excClassObj nm q C N bs bm true sn sub ab col dd k0 k1 k2 k3 k5 "ValueError.__new__")) (a3 : PySem.HandSPX.refsVE bm = true)
    (a4 : PySem.W.findIn K (.ref C) "__setattr__" = some (some (.builtin "object.__setattr__"))) (a5 : PySem.W.subIn K (.ref C) (.type "BaseException") = some true) (a6 : PySem.W.typeIn K (.ref C) = some (.type "type")) (a7 : PySem.W.keepIn K (.ref C) = true)
    (a8 : PySem.W.findIn K (.ref C) "__init__" = some (some (.ref fI))) (a9 : PySem.W.typeIn K (.ref fI) = some (.type "function"))
    (b1 : K.lookup fI = some ⟨oc, od, .func (PySem.W.fnOf "__init__" qual (defArgs st) (defBody st) (defScope st) .none kV dc pm an cd ct), sl⟩) (b2 : PySem.W.codeIn K cd qual = true) (b3 : PySem.W.keepIn K (.ref fI) = true)
    (hb : ∀ (kV doc pm : Value) (an : Option Addr) (cdv ct : Value) (us : List Value), us.length = ps.length → bindArgs (PySem.W.fnOf "__init__" qual (defArgs st) (defBody st) (defScope st) .none kV doc pm an cdv ct) ⟨us, []⟩ = pure (ps.zip us)) :
    ∃ fI fd, ExcC K mg x C fI st fd qual ∧ L2.Binds K fd ps [] := by
  have F := fun_mk (st := st) b1 b2 b3
  exact ⟨fI, _, ⟨PySem.W.mg_of X G a1, ⟨⟨nm, q, N, bs, bm, sn, sub, ab, col, dd, k0, k1, k2, k3, k5, a2, a3⟩, a4, a5, a6, a7⟩, a8, a9, F⟩, F.binds hb⟩
/-- whether an error of the class at A is what a clause of the class at C names -/
theorem exm_by {K : PySem.W.Frag} {A C : Addr} {b : Bool} (h1 : PySem.W.subIn K (.ref C) (.type "BaseException") = some true) (h2 : PySem.W.isClsIn K C = true) (h3 : PySem.W.typeIn K (.ref C) = some (.type "type")) (h4 : PySem.W.subIn K (.ref A) (.ref C) = some b) : PySem.W.exmOne K (.ref A) (.ref C) = some b := by
  have g1 : (PySem.W.subIn K (.ref C) (.type "BaseException") == some true) = true := by rw [h1]; rfl
  have g2 : ((PySem.W.clsIn K C).isSome && PySem.W.typeIn K (.ref C) == some (.type "type")) = true := by rw [show (PySem.W.clsIn K C).isSome = true from h2, h3]; rfl
  show (if (PySem.W.subIn K (.ref C) (.type "BaseException") == some true) = true then (if ((PySem.W.clsIn K C).isSome && PySem.W.typeIn K (.ref C) == some (.type "type")) = true then PySem.W.subIn K (.ref A) (.ref C) else none) else none) = some b
  rw [if_pos g1, if_pos g2, h4]
end TL
/-! TL25 -/
set_option Elab.async false
set_option linter.all false
set_option maxRecDepth 100000
set_option maxHeartbeats 4000000
/-! running a def on trees by simp -/
namespace TL
open PySem L2
variable {e : Env1} {st : Store} {t u v : T} {ts us : List T} {i j : Int} {n m : Nat} {f g h : XE} {r r2 : XA} {c d : XT} {a b : XS} {f2 : F2} {f1 : F1} {fa : FA} {xg : XG} {xgs : XGs} {fi : XI}
@[simp] theorem r_xC : xC t e st = some (t, st) := rfl
@[simp] theorem r_xVar : xVar n e st = (match e[n]? with
  | some (some t) => some (t, st)
  | _ => none) := rfl
@[simp] theorem r_xBin : xBin f2 f g e st = (f e st).bind fun p => (g e p.2).bind fun q => f2 p.1 q.1 q.2 := rfl
@[simp] theorem r_xUn : xUn f1 f e st = (f e st).bind fun p => f1 p.1 p.2 := rfl
@[simp] theorem r_xNil : xNil e st = some ([], st) := rfl
@[simp] theorem r_xCons : xCons f r e st = (f e st).bind fun p => (r e p.2).bind fun q => some (p.1 :: q.1, q.2) := rfl
@[simp] theorem r_xCall : xCall fa r e st = (r e st).bind fun p => fa p.1 p.2 := rfl
@[simp] theorem r_xTru : xTru f e st = (f e st).bind fun p => (truT p.1 p.2).map fun b => (b, p.2) := rfl
@[simp] theorem r_xNotT : xNotT c e st = (c e st).map fun p => (!p.1, p.2) := rfl
@[simp] theorem r_xAndT : xAndT c d e st = (c e st).bind fun p => if p.1 then d e p.2 else some (false, p.2) := rfl
@[simp] theorem r_xOrT : xOrT c d e st = (c e st).bind fun p => if p.1 then some (true, p.2) else d e p.2 := rfl
@[simp] theorem r_xIf : xIf c f g e st = (c e st).bind fun p => if p.1 then f e p.2 else g e p.2 := rfl
@[simp] theorem r_xBl : xBl f e st = (f e st).bind fun p => match p.1 with
  | .bl b => some (b, p.2)
  | _ => none := rfl
@[simp] theorem r_xsNil : xsNil e st = some (.nx e st) := rfl
@[simp] theorem r_xsSeq : xsSeq a b e st = (a e st).bind fun o => match o with
  | .nx e' st' => b e' st'
  | o => some o := rfl
@[simp] theorem r_xsAsg : xsAsg f xg e st = (f e st).bind fun p => (xg p.1 e p.2).map fun q => .nx q.1 q.2 := rfl
@[simp] theorem r_xsSet : xsSet n f e st = (f e st).map fun p => .nx (e.set n (some p.1)) p.2 := rfl
@[simp] theorem r_xsRet : xsRet f e st = (f e st).map fun p => .rt p.1 p.2 := rfl
@[simp] theorem r_xsExpr : xsExpr f e st = (f e st).map fun p => .nx e p.2 := rfl
@[simp] theorem r_xsIf : xsIf c a b e st = (c e st).bind fun p => if p.1 then a e p.2 else b e p.2 := rfl
@[simp] theorem r_name : xgName n t e st = some (e.set n (some t), st) := rfl
@[simp] theorem r_add : addT (.int i) (.int j) st = some (.int (i + j), st) := rfl
@[simp] theorem r_sub : subT (.int i) (.int j) st = some (.int (i - j), st) := rfl
@[simp] theorem r_neg : negT (.int i) st = some (.int (-i), st) := rfl
@[simp] theorem r_mul : mulT (.int i) (.int j) st = if bitsOk i j then some (.int (i * j), st) else none := rfl
@[simp] theorem r_mod : modT (.int i) (.int j) st = if j ≠ 0 then some (.int (i.fmod j), st) else none := rfl
@[simp] theorem r_fdiv : fdivT (.int i) (.int j) st = if j ≠ 0 ∧ j.natAbs.log2 < 9000 then some (.int (i.fdiv j), st) else none := rfl
@[simp] theorem r_lt : ltT (.int i) (.int j) st = some (.bl (decide (i < j)), st) := rfl
@[simp] theorem r_le : leT (.int i) (.int j) st = some (.bl (decide (i ≤ j)), st) := rfl
@[simp] theorem r_gt : gtT (.int i) (.int j) st = some (.bl (decide (i > j)), st) := rfl
@[simp] theorem r_ge : geT (.int i) (.int j) st = some (.bl (decide (i ≥ j)), st) := rfl
@[simp] theorem r_eq : eqT (.int i) (.int j) st = some (.bl (decide (i = j)), st) := rfl
@[simp] theorem r_tup : tupT ts st = if ts.length ≤ sizeLine then some (.tup ts, st) else none := rfl
@[simp] theorem r_lst : lstT ts st = if ts.length ≤ sizeLine then some (.ref st.length, st ++ [.lst ts]) else none := rfl
@[simp] theorem r_abs : absT [.int i] st = some (.int (if i < 0 then -i else i), st) := rfl
@[simp] theorem r_gcd : gcdT [.int i, .int j] st = some (.int ((Nat.gcd i.natAbs j.natAbs : Nat) : Int), st) := rfl
@[simp] theorem r_intT : intT [.int i] st = some (.int i, st) := rfl
@[simp] theorem r_ixTup : ixA (.tup ts) (.int i) st = (atI ts i).map fun t => (t, st) := rfl
theorem r_ixLst (hl : st[n]? = some (.lst ts)) : ixA (.ref n) (.int i) st = (atI ts i).map fun t => (t, st) := by
  unfold ixA dAt ixT
  simp [hl]
@[simp] theorem r_at0 {α : Type} (x : α) (xs : List α) : atI (x :: xs) 0 = some x := atI_nat (j := 0) rfl
@[simp] theorem r_at1 {α : Type} (x y : α) (xs : List α) : atI (x :: y :: xs) 1 = some y := atI_nat (j := 1) rfl
@[simp] theorem r_at2 {α : Type} (x y z : α) (xs : List α) : atI (x :: y :: z :: xs) 2 = some z := atI_nat (j := 2) rfl
@[simp] theorem r_at3 {α : Type} (x y z u : α) (xs : List α) : atI (x :: y :: z :: u :: xs) 3 = some u := atI_nat (j := 3) rfl
theorem size1 (h : n ≤ 1000) : n ≤ sizeLine := Nat.le_of_lt (small1000 h)
@[simp] theorem sz0 : 0 ≤ sizeLine := Nat.zero_le _
@[simp] theorem sz1 : 0 + 1 ≤ sizeLine := by decide
@[simp] theorem sz1' : 1 ≤ sizeLine := by decide
@[simp] theorem sz2 : 0 + 1 + 1 ≤ sizeLine := by decide
@[simp] theorem sz2' : 2 ≤ sizeLine := by decide
end TL
/-! TL26 -/
set_option Elab.async false
set_option linter.all false
set_option maxRecDepth 100000
set_option maxHeartbeats 4000000
/-! loops and comprehensions by an invariant -/
namespace TL
open PySem L2
section
variable {it : Its1} {g : XG} {b : XS} {ts : List T} {fi : XI} {e : Env1} {st s1 : Store}
theorem forL_inv (P : Nat → Env1 → Store → Prop) (hit : ∀ k e s, P k e s → it s = some ts)
    (hs : ∀ k e s x, ts[k]? = some x → P k e s → ∃ e1 s1 o e' s', g x e s = some (e1, s1) ∧ b e1 s1 = some o ∧ (o = .nx e' s' ∨ o = .ct e' s') ∧ P (k + 1) e' s') :
    ∀ (n k : Nat) (e : Env1) (s : Store), P k e s → k ≤ ts.length → ts.length - k < n → ∃ e' s', forL it g b n k e s = some (.nx e' s') ∧ P ts.length e' s'
  | 0, k, e, s, _, _, h => by omega
  | n + 1, k, e, s, hP, hk, hn => by
    unfold forL
    rw [hit k e s hP]
    simp only [Option.bind_some]
    cases hx : ts[k]? with
    | none =>
      have : ts.length ≤ k := List.getElem?_eq_none_iff.mp hx
      have hkk : k = ts.length := by omega
      subst hkk
      exact ⟨e, s, by simp, hP⟩
    | some x =>
      have hlt := (List.getElem?_eq_some_iff.mp hx).1
      obtain ⟨e1, s1, o, e', s', h1, h2, h3, h4⟩ := hs k e s x hx hP
      obtain ⟨e2, s2, h5, h6⟩ := forL_inv P hit hs n (k + 1) e' s' h4 (by omega) (by omega)
      refine ⟨e2, s2, ?_, h6⟩
      simp only [h1, Option.bind_some, h2]
      rcases h3 with rfl | rfl <;> exact h5
theorem for_inv (P : Nat → Env1 → Store → Prop) (hfi : fi e st = some (it, s1)) (hit : ∀ k e s, P k e s → it s = some ts) (h0 : P 0 e s1)
    (hs : ∀ k e s x, ts[k]? = some x → P k e s → ∃ e1 s1 o e' s', g x e s = some (e1, s1) ∧ b e1 s1 = some o ∧ (o = .nx e' s' ∨ o = .ct e' s') ∧ P (k + 1) e' s') :
    ∃ e' s', xsFor fi g b e st = some (.nx e' s') ∧ P ts.length e' s' := by
  obtain ⟨e', s', h1, h2⟩ := forL_inv P hit hs (ts.length + 1) 0 e s1 h0 (Nat.zero_le _) (by omega)
  refine ⟨e', s', ?_, h2⟩
  unfold xsFor
  simp only [hfi, Option.bind_some, hit 0 e s1 h0]
  exact h1
end
section
variable {it : Its1} {g : XG} {tt : XT} {te : XE} {ts : List T} {fi : XI} {e : Env1} {st s1 : Store} {vs : List Nat} {l : Nat}
theorem lcL_inv (P : Nat → List T → Store → Prop) (hl : ∀ k acc s, P k acc s → s[l]? = some (.lst acc) ∧ acc.length ≤ k) (hit : ∀ k acc s, P k acc s → it s = some ts) (hlen : ts.length ≤ 1000)
    (hs : ∀ k acc s x, ts[k]? = some x → P k acc s → ∃ e1 s1 s2 s3 y, g x e s = some (e1, s1) ∧ tt e1 s1 = some (true, s2) ∧ te e1 s2 = some (y, s3) ∧ s3[l]? = some (.lst acc) ∧ P (k + 1) (acc ++ [y]) (s3.set l (.lst (acc ++ [y])))) :
    ∀ (n k : Nat) (acc : List T) (s : Store), P k acc s → k ≤ ts.length → ts.length - k < n → ∃ acc' s', lcL it g tt te l n k e s = some s' ∧ P ts.length acc' s'
  | 0, k, acc, s, _, _, h => by omega
  | n + 1, k, acc, s, hP, hk, hn => by
    unfold lcL
    rw [hit k acc s hP]
    simp only [Option.bind_some]
    cases hx : ts[k]? with
    | none =>
      have : ts.length ≤ k := List.getElem?_eq_none_iff.mp hx
      have hkk : k = ts.length := by omega
      subst hkk
      exact ⟨acc, s, by simp, hP⟩
    | some x =>
      have hlt := (List.getElem?_eq_some_iff.mp hx).1
      obtain ⟨e1, s1, s2, s3, y, h1, h2, h3, h4, h5⟩ := hs k acc s x hx hP
      obtain ⟨acc', s', h6, h7⟩ := lcL_inv P hl hit hlen hs n (k + 1) _ _ h5 (by omega) (by omega)
      have ha := (hl k acc s hP).2
      have hz : acc.length < sizeLine := small1000 (by omega)
      refine ⟨acc', s', ?_, h7⟩
      simp only [h1, Option.bind_some, h2, if_true, h3, h4, hz]
      exact h6
theorem lc_inv (P : Nat → List T → Store → Prop) (hfi : fi e st = some (it, s1)) (hl : ∀ k acc s, P k acc s → s[s1.length]? = some (.lst acc) ∧ acc.length ≤ k) (hit : ∀ k acc s, P k acc s → it s = some ts) (hlen : ts.length ≤ 1000) (h0 : P 0 [] (s1 ++ [.lst []]))
    (hs : ∀ k acc s x, ts[k]? = some x → P k acc s → ∃ e1 s2 s3 s4 y, g x (wipeE e vs) s = some (e1, s2) ∧ tt e1 s2 = some (true, s3) ∧ te e1 s3 = some (y, s4) ∧ s4[s1.length]? = some (.lst acc) ∧ P (k + 1) (acc ++ [y]) (s4.set s1.length (.lst (acc ++ [y])))) :
    ∃ acc s, xLc fi g vs tt te e st = some (.ref s1.length, s) ∧ P ts.length acc s := by
  obtain ⟨acc, s, h1, h2⟩ := lcL_inv P hl hit hlen hs (ts.length + 1) 0 [] _ h0 (Nat.zero_le _) (by omega)
  refine ⟨acc, s, ?_, h2⟩
  unfold xLc
  simp only [hfi, Option.bind_some, hit 0 [] _ h0, h1, Option.map_some]
/-- each item by a function, nothing else changes -/
theorem lc_map {i : Nat} (f : T → T) (hfi : fi e st = some (it, s1)) (hit : ∀ acc, it (s1 ++ [.lst acc]) = some ts) (hlen : ts.length ≤ 1000) (hte : ∀ x ∈ ts, ∀ acc, te ((wipeE e vs).set i (some x)) (s1 ++ [.lst acc]) = some (f x, s1 ++ [.lst acc])) :
    xLc fi (xgName i) vs xYes te e st = some (.ref s1.length, s1 ++ [.lst (ts.map f)]) := by
  have key := lc_inv (g := xgName i) (tt := xYes) (te := te) (vs := vs) (ts := ts) (fun k acc s => acc = (ts.take k).map f ∧ s = s1 ++ [.lst acc] ∧ k ≤ ts.length) hfi (fun k acc s h => by
      obtain ⟨h1, h2, h3⟩ := h
      subst h2
      refine ⟨by rw [List.getElem?_append_right (Nat.le_refl _)]; simp, by rw [h1]; simp; omega⟩)
    (fun k acc s h => by obtain ⟨h1, h2, h3⟩ := h; subst h2; exact hit _) hlen ⟨by simp, rfl, Nat.zero_le _⟩
    (fun k acc s x hx h => by
      obtain ⟨h1, h2, h3⟩ := h
      subst h2
      have hlt := (List.getElem?_eq_some_iff.mp hx).1
      have hm : x ∈ ts := List.mem_of_getElem? hx
      refine ⟨_, _, _, _, _, rfl, rfl, hte x hm acc, by rw [List.getElem?_append_right (Nat.le_refl _)]; simp, ?_, ?_, by omega⟩
      · rw [h1, List.take_add_one, hx]; simp
      · rw [List.set_append_right _ _ (Nat.le_refl _)]; simp)
  obtain ⟨acc, s, h1, h2, h3, h4⟩ := key
  rw [h1, h3, h2, List.take_length]
end
end TL
/-! TL27 -/
set_option Elab.async false
set_option linter.all false
set_option maxRecDepth 100000
set_option maxHeartbeats 4000000
set_option exponentiation.threshold 4000
/-! comprehensions with a condition, dict comprehensions by a fold, data by sizes that add up -/
namespace TL
open PySem L2
section
variable {it : Its1} {tt : XT} {te tk tv : XE} {ts : List T} {fi : XI} {g : XG} {e : Env1} {st s1 : Store} {vs : List Nat} {i : Nat}
theorem last_get {s1 : Store} {o : Ob} : (s1 ++ [o])[s1.length]? = some o := by rw [List.getElem?_append_right (Nat.le_refl _)]; simp
theorem last_set {s1 : Store} {o o2 : Ob} : (s1 ++ [o]).set s1.length o2 = s1 ++ [o2] := by rw [List.set_append_right _ _ (Nat.le_refl _)]; simp
theorem lcL_fm (p : T → Bool) (f : T → T) (hit : ∀ acc, it (s1 ++ [.lst acc]) = some ts) (hlen : ts.length ≤ 1000)
    (ht : ∀ x ∈ ts, ∀ acc, tt (e.set i (some x)) (s1 ++ [.lst acc]) = some (p x, s1 ++ [.lst acc]))
    (hte : ∀ x ∈ ts, p x = true → ∀ acc, te (e.set i (some x)) (s1 ++ [.lst acc]) = some (f x, s1 ++ [.lst acc])) :
    ∀ (n k : Nat) (acc : List T), k ≤ ts.length → ts.length - k < n → acc.length ≤ k → lcL it (xgName i) tt te s1.length n k e (s1 ++ [.lst acc]) = some (s1 ++ [.lst (acc ++ ((ts.drop k).filter p).map f)])
  | 0, k, acc, _, h, _ => by omega
  | n + 1, k, acc, hk, hn, ha => by
    unfold lcL
    rw [hit acc]
    simp only [Option.bind_some]
    cases hx : ts[k]? with
    | none =>
      have : ts.length ≤ k := List.getElem?_eq_none_iff.mp hx
      have hkk : k = ts.length := by omega
      subst hkk
      simp
    | some x =>
      have hlt := (List.getElem?_eq_some_iff.mp hx).1
      have hm : x ∈ ts := List.mem_of_getElem? hx
      have hd : ts.drop k = x :: ts.drop (k + 1) := by
        rw [List.drop_eq_getElem_cons hlt]
        congr 1
        exact (List.getElem?_eq_some_iff.mp hx).2
      have hz : acc.length < sizeLine := small1000 (by omega)
      simp only [xgName, Option.bind_some, ht x hm acc]
      cases hp : p x with
      | true =>
        have h := lcL_fm p f hit hlen ht hte n (k + 1) (acc ++ [f x]) (by omega) (by omega) (by simp; omega)
        simp only [if_true, hte x hm hp acc, Option.bind_some, last_get, hz, last_set]
        rw [h, hd, List.filter_cons_of_pos hp]
        simp
      | false =>
        have h := lcL_fm p f hit hlen ht hte n (k + 1) acc (by omega) (by omega) (by omega)
        simp only [Bool.false_eq_true, if_false]
        rw [h, hd, List.filter_cons_of_neg (by simp [hp])]
theorem lc_fm (p : T → Bool) (f : T → T) (hfi : fi e st = some (it, s1)) (hit : ∀ acc, it (s1 ++ [.lst acc]) = some ts) (hlen : ts.length ≤ 1000)
    (ht : ∀ x ∈ ts, ∀ acc, tt ((wipeE e vs).set i (some x)) (s1 ++ [.lst acc]) = some (p x, s1 ++ [.lst acc]))
    (hte : ∀ x ∈ ts, p x = true → ∀ acc, te ((wipeE e vs).set i (some x)) (s1 ++ [.lst acc]) = some (f x, s1 ++ [.lst acc])) :
    xLc fi (xgName i) vs tt te e st = some (.ref s1.length, s1 ++ [.lst ((ts.filter p).map f)]) := by
  unfold xLc
  simp only [hfi, Option.bind_some, hit [], lcL_fm p f hit hlen ht hte (ts.length + 1) 0 [] (Nat.zero_le _) (by omega) (Nat.le_refl _), Option.map_some, List.nil_append, List.drop_zero]
theorem storeK_len (kvs : List (Key × T)) (k : Key) (u : T) : (storeK kvs k u).length ≤ kvs.length + 1 := by
  unfold storeK
  split <;> simp
theorem dcL_fold (key : T → Key) (val : T → T) (hit : ∀ kvs, it (s1 ++ [.dK kvs]) = some ts) (hlen : ts.length ≤ 1000)
    (hs : ∀ x ∈ ts, ∀ kvs, ∃ e1 tk1, g x e (s1 ++ [.dK kvs]) = some (e1, s1 ++ [.dK kvs]) ∧ tk e1 (s1 ++ [.dK kvs]) = some (tk1, s1 ++ [.dK kvs]) ∧ toKy tk1 = some (key x) ∧ tv e1 (s1 ++ [.dK kvs]) = some (val x, s1 ++ [.dK kvs])) :
    ∀ (n k : Nat) (kvs : List (Key × T)), k ≤ ts.length → ts.length - k < n → kvs.length ≤ k → dcL it g xYes tk tv s1.length n k e (s1 ++ [.dK kvs]) = some (s1 ++ [.dK ((ts.drop k).foldl (fun kvs x => storeK kvs (key x) (val x)) kvs)])
  | 0, k, kvs, _, h, _ => by omega
  | n + 1, k, kvs, hk, hn, ha => by
    unfold dcL
    rw [hit kvs]
    simp only [Option.bind_some]
    cases hx : ts[k]? with
    | none =>
      have : ts.length ≤ k := List.getElem?_eq_none_iff.mp hx
      have hkk : k = ts.length := by omega
      subst hkk
      simp
    | some x =>
      have hlt := (List.getElem?_eq_some_iff.mp hx).1
      have hm : x ∈ ts := List.mem_of_getElem? hx
      have hd : ts.drop k = x :: ts.drop (k + 1) := by
        rw [List.drop_eq_getElem_cons hlt]
        congr 1
        exact (List.getElem?_eq_some_iff.mp hx).2
      have hz : kvs.length < sizeLine := small1000 (by omega)
      obtain ⟨e1, tk1, h1, h2, h3, h4⟩ := hs x hm kvs
      have hl := storeK_len kvs (key x) (val x)
      have h := dcL_fold key val hit hlen hs n (k + 1) (storeK kvs (key x) (val x)) (by omega) (by omega) (by omega)
      simp only [h1, Option.bind_some, xYes, if_true, h2, h4, last_get, h3, hz, last_set]
      rw [hd, List.foldl_cons]
      exact h
theorem dc_fold (key : T → Key) (val : T → T) (hfi : fi e st = some (it, s1)) (hit : ∀ kvs, it (s1 ++ [.dK kvs]) = some ts) (hlen : ts.length ≤ 1000)
    (hs : ∀ x ∈ ts, ∀ kvs, ∃ e1 tk1, g x (wipeE e vs) (s1 ++ [.dK kvs]) = some (e1, s1 ++ [.dK kvs]) ∧ tk e1 (s1 ++ [.dK kvs]) = some (tk1, s1 ++ [.dK kvs]) ∧ toKy tk1 = some (key x) ∧ tv e1 (s1 ++ [.dK kvs]) = some (val x, s1 ++ [.dK kvs])) :
    xDcK fi g vs xYes tk tv e st = some (.ref s1.length, s1 ++ [.dK (ts.foldl (fun kvs x => storeK kvs (key x) (val x)) [])]) := by
  unfold xDcK
  simp only [hfi, Option.bind_some, hit [], dcL_fold key val hit hlen hs (ts.length + 1) 0 [] (Nat.zero_le _) (by omega) (Nat.le_refl _), Option.map_some, List.drop_zero]
end
/-- data that repr shows and == compares, by sizes that add up -/
structure Nic (k W : Nat) (d : PyData) : Prop where
  lay : d.canLay0 = true
  sh : d.showable = true
  dp : d.depth ≤ k
  lv : d.leavesShort 600 = true
  wt : d.weight ≤ W
structure NicAll (k W : Nat) (ds : List PyData) : Prop where
  lay : PyData.canLayAll0 ds = true
  sh : PyData.showableAll ds = true
  dp : PyData.depthAll ds ≤ k
  lv : PyData.leavesShortAll 600 ds = true
  wt : PyData.weightAll ds ≤ W
section
variable {k k' W W' : Nat} {d : PyData} {ds : List PyData}
theorem Nic.up (h : Nic k W d) (hk : k ≤ k') (hw : W ≤ W') : Nic k' W' d := ⟨h.lay, h.sh, Nat.le_trans h.dp hk, h.lv, Nat.le_trans h.wt hw⟩
theorem NicAll.up (h : NicAll k W ds) (hk : k ≤ k') (hw : W ≤ W') : NicAll k' W' ds := ⟨h.lay, h.sh, Nat.le_trans h.dp hk, h.lv, Nat.le_trans h.wt hw⟩
theorem NicAll.nil : NicAll k 0 [] := ⟨rfl, rfl, Nat.zero_le _, rfl, Nat.le_refl _⟩
theorem NicAll.cons (h : Nic k W d) (g : NicAll k W' ds) : NicAll k (W + 1 + W') (d :: ds) := by
  refine ⟨?_, ?_, ?_, ?_, ?_⟩
  · simp only [PyData.canLayAll0, h.lay, g.lay, Bool.and_self]
  · simp only [PyData.showableAll, h.sh, g.sh, Bool.and_self]
  · simp only [PyData.depthAll]; exact Nat.max_le.mpr ⟨h.dp, g.dp⟩
  · simp only [PyData.leavesShortAll, h.lv, g.lv, Bool.and_self]
  · simp only [PyData.weightAll]; have := h.wt; have := g.wt; omega
theorem NicAll.list (h : NicAll k W ds) : Nic (k + 1) W (.list ds) := by
  refine ⟨?_, ?_, ?_, ?_, ?_⟩
  · simp only [PyData.canLay0, h.lay]
  · simp only [PyData.showable, h.sh]
  · simp only [PyData.depth]; have := h.dp; omega
  · simp only [PyData.leavesShort, h.lv]
  · simp only [PyData.weight]; exact h.wt
theorem NicAll.tuple (h : NicAll k W ds) : Nic (k + 1) W (.tuple ds) := by
  refine ⟨?_, ?_, ?_, ?_, ?_⟩
  · simp only [PyData.canLay0, h.lay]
  · simp only [PyData.showable, h.sh]
  · simp only [PyData.depth]; have := h.dp; omega
  · simp only [PyData.leavesShort, h.lv]
  · simp only [PyData.weight]; exact h.wt
theorem NicAll.map {α : Type} (f : α → PyData) : ∀ (qs : List α), (∀ q ∈ qs, Nic k W (f q)) → NicAll k (qs.length * (W + 1)) (qs.map f)
  | [], _ => by simpa using NicAll.nil
  | q :: qs, h => by
    have := (h q List.mem_cons_self).up (Nat.le_refl _) (Nat.le_refl _)
    have g := NicAll.map f qs fun x hx => h x (List.mem_cons_of_mem _ hx)
    exact (NicAll.cons this g).up (Nat.le_refl _) (by rw [List.length_cons, Nat.succ_mul]; omega)
theorem nic_bool (b : Bool) : Nic k 0 (.bool b) := ⟨rfl, rfl, Nat.zero_le _, rfl, Nat.le_refl _⟩
theorem nic_none : Nic k 0 .none := ⟨rfl, rfl, Nat.zero_le _, rfl, Nat.le_refl _⟩
theorem nic_int {i : Int} (h : i.natAbs < 2 ^ 1900) : Nic k 1901 (.int i) := by
  have hl : i.natAbs.log2 ≤ 1900 := by
    by_cases ha : i.natAbs = 0
    · rw [ha]; simp
    · have h1 : 2 ^ i.natAbs.log2 ≤ i.natAbs := Nat.log2_self_le ha
      have h3 : 2 ^ i.natAbs.log2 < 2 ^ 1900 := Nat.lt_of_le_of_lt h1 h
      exact Nat.le_of_lt ((Nat.pow_lt_pow_iff_right (by decide : 1 < 2)).mp h3)
  refine ⟨rfl, ?_, Nat.zero_le _, ?_, ?_⟩
  · simp only [PyData.showable, decide_eq_true_eq]; omega
  · simp only [PyData.leavesShort, decide_eq_true_eq]
    have h10 : i.natAbs < 10 ^ 599 := Nat.lt_of_lt_of_le h (by decide +kernel)
    have e := int_text_length_le10 (k := 599) (by decide) h10
    show (Str.ofString (toString i)).length ≤ 600
    rw [ofString_length]; exact e
  · simp only [PyData.weight]; split <;> omega
theorem nic_int_of {i : Int} {b : Nat} (h : i.natAbs < 2 ^ b) (hb : b ≤ 1900) : Nic k (b + 1) (.int i) := by
  have h0 := nic_int (k := k) (Nat.lt_of_lt_of_le h (Nat.pow_le_pow_right (by decide) hb))
  refine ⟨h0.lay, h0.sh, h0.dp, h0.lv, ?_⟩
  simp only [PyData.weight]
  split
  · omega
  · rename_i hz
    have ha : i.natAbs ≠ 0 := by
      intro e
      apply hz
      have : i = 0 := by omega
      subst this; rfl
    have h1 : 2 ^ i.natAbs.log2 ≤ i.natAbs := Nat.log2_self_le ha
    have h3 : 2 ^ i.natAbs.log2 < 2 ^ b := Nat.lt_of_le_of_lt h1 h
    have := (Nat.pow_lt_pow_iff_right (by decide : 1 < 2)).mp h3
    omega
theorem Nic.fits (h : Nic k W d) (hw : W ≤ 25000) : d.shown.length ≤ sizeLine := by
  have e := PyData.shown_le 600 (by decide) d h.lv
  have h2 : (600 + 2) * d.weight ≤ 602 * 25000 := Nat.mul_le_mul_left _ (Nat.le_trans h.wt hw)
  rw [sizeLine_eq]
  omega
theorem Nic.shaped (h : Nic k W d) (hk : k ≤ 60) : SeqAt.shaped d = true := by
  unfold SeqAt.shaped
  rw [h.lay, Bool.true_and, decide_eq_true_eq]
  have := h.dp; omega
theorem Nic.nd (h : Nic k W d) : d.hasDict = false := PyData.hasDict_of_canLay d h.lay
end
theorem optAll_map {α β : Type} {f : T → Option β} {g : α → T} {h : α → β} : ∀ {qs : List α}, (∀ q ∈ qs, f (g q) = some (h q)) → optAll f (qs.map g) = some (qs.map h)
  | [], _ => rfl
  | q :: qs, e => by
    have h1 := e q List.mem_cons_self
    have h2 := optAll_map (qs := qs) fun x hx => e x (List.mem_cons_of_mem _ hx)
    simp only [List.map_cons, optAll, h1, h2]
end TL
/-! TL28 -/
set_option Elab.async false
set_option linter.all false
/-! one statement after the other -/
namespace TL
open PySem L2
section
variable {a b : XS} {c : XT} {e e' : Env1} {st st' : Store} {r : Option Out} {t : T}
theorem sq (h : a e st = some (.nx e' st')) (h2 : b e' st' = r) : xsSeq a b e st = r := by
  simp only [r_xsSeq, h, Option.bind_some, h2]
theorem sqr (h : a e st = some (.rt t st')) : xsSeq a b e st = some (.rt t st') := by
  simp only [r_xsSeq, h, Option.bind_some]
theorem if_no (h : c e st = some (false, st')) (h2 : b e st' = r) : xsIf c a b e st = r := by
  simp [h, h2]
theorem if_yes (h : c e st = some (true, st')) (h2 : a e st' = r) : xsIf c a b e st = r := by
  simp [h, h2]
theorem fn_ret {k n : Nat} {B : XS} {ts : List T} (hk : ts.length = k) (h : B (ts.map some ++ List.replicate (n - k) none) st = some (.rt t st')) : fnF k n B ts st = some (t, st') := by
  subst hk
  unfold fnF
  rw [if_pos rfl, h]; rfl
theorem fn_nx {k n : Nat} {B : XS} {ts : List T} (hk : ts.length = k) (h : B (ts.map some ++ List.replicate (n - k) none) st = some (.nx e st')) : fnF k n B ts st = some (.non, st') := by
  subst hk
  unfold fnF
  rw [if_pos rfl, h]; rfl
end
end TL
/-! TL29 -/
set_option Elab.async false
set_option linter.all false
set_option maxRecDepth 100000
set_option maxHeartbeats 4000000
/-! methods of dicts; list of a dict; is None; isinstance -/
namespace TL
variable [Tb]
open PySem PySem.Spec PyProof.Rows L2
/-! ### a receiver of either kind -/
def tyX (X : Cx) (Ty : String) (x : V) (H : Hp) : Prop := tyV X.K Ty x H ∨ (Ty = "dict" ∧ ∃ (a : Addr) (xs : List (NestedKey × Addr × V)), x = .ref a ∧ H a = some (dnO (kx X) a xs))
section
variable {X : Cx}
theorem tyX_is {pins : List (Addr × Obj)} {σ : St} {H : Hp} {s : Shared} {Ty : String} {x : V} {v : Value} (I : Inv X pins σ H s) (r : RelV x v) (ty : tyX X Ty x H) :
    s.TypeIs v Ty ∧ ∀ a, v = .ref a → ∃ ob, s.heap.get? a = some ob ∧ ob.dict = none := by
  rcases ty with ty | ⟨rfl, a, xs, rfl, e⟩
  · exact tyV_is I r ty
  · cases r
    obtain ⟨⟨_, _, _, _, ob, _, _, g1, g2, _⟩, _⟩ := I.hok a _ e
    refine ⟨⟨ob, g1, g2.1⟩, fun b eb => ?_⟩
    cases eb
    exact ⟨ob, g1, g2.2.1⟩
def tBX (X : Cx) (Ty : String) (r : V → List V → Hp → VK → Prop) (to : TE) (t : TA) : TE := fun σ H Q => to σ H fun x H1 => tyX X Ty x H1 ∧ t σ H1 fun us H2 => r x us H2 Q
theorem pe_bmX {o e : Expr} {es : List Expr} {to : TE} {t : TA} {name : Str} {ap cp : Pos} {Ty id : String} {r : V → List V → Hp → VK → Prop} (pa : PlainAttrs Ty) (sl : Slot Ty name id) (ht : typeOf (.builtin id) = pure (.type "method_descriptor")) (hm : MtR X id r) (ho : PE X o to) (ha : PA X (e :: es) t)
    (g1 : attributeBase o name X.env (eval o X.env) = eval o X.env)
    (g2 : ((backTo cp (starEach (e :: es) X.env)).all (fun x => !x.1) && (backToKw cp (keywordEach [] X.env)).all (fun x => x.1.isSome) && decide ((e :: es).length + ([] : List Keyword).length + (if ([] : List Keyword).isEmpty then 0 else 1) < 30)) = true)
    (g3 : (ap.endLine == cp.line) = true) (g4 : starEach (e :: es) X.env = (false, eval e X.env) :: starEach es X.env) (g5 : (backTo cp (starEach es X.env)).any (·.1) = false) :
    PE X (.Call (.Attribute o name ap) (e :: es) [] cp) (tBX X Ty r to t) := by
  refine ⟨fun pins s σ H Q I h => ?_⟩
  refine wpAny_Call_method_late g1 g2 g3 rfl (thn (ho.run pins s σ H _ I h) fun v s1 ⟨x, H1, I1, rv, ty, q1⟩ => ?_)
  have hty := tyX_is I1 rv ty
  refine ⟨Ty, id, pa, sl, ht, hty.1, hty.2, ?_⟩
  have run := ha.run cp pins s1 σ H1 _ I1 q1
  rw [g4] at run ⊢
  have np : (false || (backTo cp (starEach es X.env)).any (·.1)) = false := by rw [g5]; rfl
  exact Calls.callWith_builtin np (Calls.evalArgs_plain (thn run fun us s2 ⟨vs, H2, I2, rs, q2⟩ => hm pins s2 σ H2 x vs v us Q I2 rv rs q2))
end
/-- the receiver's type, dicts of either kind among them -/
def isTyX (Ty : String) (t : T) (st : Store) : Bool := match t with
  | .ref l => match st[l]? with
    | some (.dN _) => Ty == "dict"
    | _ => isTy Ty t st
  | _ => isTy Ty t st
def xMethX (Ty : String) (f : FM) (a : XE) (r : XA) : XE := fun e st => (a e st).bind fun p => if isTyX Ty p.1 p.2 then (r e p.2).bind fun q => f p.1 q.1 q.2 else none
def getOrT : FM := fun x ts st => match ts with
  | [k, d] => (dAt x st).bind fun o => (dLook o.2 k).map fun r => (r.getD d, st)
  | _ => none
def setdefT : FM := fun x ts st => match ts with
  | [k, d] => (dAt x st).bind fun o => (dLook o.2 k).bind fun r => match r with
    | some u => some (u, st)
    | none => (dStore o.2 k d).map fun n => (d, st.set o.1 n)
  | _ => none
section
variable {X : Cx} {o e : Expr} {es : List Expr} {fa : XE} {fr : XA} {name : Str} {apos cpos : Pos} {Ty id : String} {f : FM}
theorem isTyX_ok {ρ : List Addr} {st : Store} {H : Hp} {t : T} {v : V} (w : Wd (kx X) ρ st H) (r : Rep (kx X) H ρ t v) (h : isTyX Ty t st = true) : tyX X Ty v H := by
  unfold isTyX at h
  split at h
  · split at h
    · rename_i hl
      obtain ⟨a, xs, rfl, _, d⟩ := dN_at w r hl
      exact .inr ⟨eq_of_beq h, a, xs, rfl, d.h⟩
    · exact .inl (isTy_ok w r h)
  · exact .inl (isTy_ok w r h)
theorem et_methX (pa : PlainAttrs Ty) (slot : Slot Ty name id) (hty : typeOf (.builtin id) = pure (.type "method_descriptor")) (hm : MtT X Ty id f) (ho : ET X o fa) (ha : AT X (e :: es) fr)
    (g1 : attributeBase o name X.env (eval o X.env) = eval o X.env := by rfl)
    (g2 : ((backTo cpos (starEach (e :: es) X.env)).all (fun x => !x.1) && (backToKw cpos (keywordEach [] X.env)).all (fun x => x.1.isSome) && decide ((e :: es).length + ([] : List Keyword).length + (if ([] : List Keyword).isEmpty then 0 else 1) < 30)) = true := by rfl)
    (g3 : (apos.endLine == cpos.line) = true := by rfl) (g4 : starEach (e :: es) X.env = (false, eval e X.env) :: starEach es X.env := by rfl) (g5 : (backTo cpos (starEach es X.env)).any (·.1) = false := by rfl) :
    ET X (.Call (.Attribute o name apos) (e :: es) [] cpos) (xMethX Ty f fa fr) := by
  intro env st ρ σ H t st' s w e1 Q q
  unfold xMethX at e1
  cases h : fa env st with
  | none => simp [h] at e1
  | some p =>
    obtain ⟨x, s1⟩ := p
    simp only [h, Option.bind_some] at e1
    split at e1
    · rename_i hi
      cases h2 : fr env s1 with
      | none => simp [h2] at e1
      | some p =>
        obtain ⟨ts, s2⟩ := p
        simp only [h2, Option.bind_some] at e1
        refine We.of (pe_bmX pa slot hty MtU.ok We.pe Wa.pa g1 g2 g3 g4 g5) ?_
        refine ho env st ρ σ H x s1 s w h _ fun v H1 ρ1 f1 w1 r1 => ⟨isTyX_ok w1 r1 hi, ?_⟩
        refine ha env s1 ρ1 σ H1 ts s2 (s.up f1) w1 h2 _ fun vs H2 ρ2 f2 w2 r2 => ?_
        exact hm ρ2 s2 H2 x ts t st' v vs w2 (r1.up f2) r2 e1 Q (q.up (f1.trans f2))
    · cases e1
/-! ### get -/
theorem mt_getK (hu : X.A.units + 1 < cLine) : MtR X "dict.get" (fun x us H Q => ∃ a y d o, x = .ref a ∧ us = [y, d] ∧ DGet H a y o ∧ Q (o.getD d) H) := by
  intro pins s σ H x us v vs Q I rx rs h
  obtain ⟨a, y, d, o, rfl, rfl, g, q⟩ := h
  cases rx
  obtain ⟨u1, u2, rfl, r1, r2⟩ := vals2 rs
  exact d_get2 hu I g r1 r2 fun w' s' I' rw' => ⟨_, H, I', rw', q⟩
theorem mt_getN (hu : X.A.units + 64 < cLine) : MtR X "dict.get" (fun x us H Q => ∃ a b ρ kvs xs t k u d v, x = .ref a ∧ us = [.ref b, v] ∧ DnAt X H ρ a kvs xs ∧ toNK nkd t = some k ∧ Rep (kx X) H ρ t (.ref b) ∧ Rep (kx X) H ρ d v ∧ (lookD kvs k).getD d = u ∧ ∀ v, Rep (kx X) H ρ u v → Q v H) := by
  intro pins s σ H x us v0 vs Q I rx rs h
  obtain ⟨a, b, ρ, kvs, xs, t, k, u, d, v, rfl, rfl, dn, hk, rb, rd, hl, q⟩ := h
  cases rx
  obtain ⟨u1, u2, rfl, r1, r2⟩ := vals2 rs
  cases r1
  obtain ⟨z, hsm, ys, p, dh⟩ := dn_heap I dn.h dn.r
  refine getOr_keyed (nroom hu _ _) (nk_key I hk rb) hsm ⟨ys, dh, rfl⟩ ?_
  cases hc : lookD kvs k with
  | none =>
    rw [hc] at hl
    rw [look_none dn.r p hc]
    subst hl
    exact ⟨v, H, I.tok _, r2, q v rd⟩
  | some u0 =>
    rw [hc] at hl
    obtain ⟨v1, w1, h1, h2, h3⟩ := look_all dn.r p hc
    rw [h1]
    have hl2 : u0 = u := hl
    subst hl2
    exact ⟨v1, H, I.tok _, h2, q v1 h3⟩
theorem mm_getOr (hu : X.A.units + 65 < cLine) : MtT X "dict" "dict.get" getOrT := by
  intro ρ st H x ts t st' vx vs w rx rs e Q q
  unfold getOrT at e
  split at e
  · rename_i k0 d0
    cases h : dAt x st with
    | none => simp [h] at e
    | some d =>
      obtain ⟨l, ob⟩ := d
      obtain ⟨rfl, hl⟩ := dAt_inv h
      simp only [h, Option.bind_some] at e
      cases rs with
      | cons r1 rs =>
        cases rs with
        | cons r2 rs =>
          cases rs
          cases h2 : dLook ob k0 with
          | none => simp [h2] at e
          | some r =>
            simp only [h2, Option.map_some] at e
            cases e
            cases ob with
            | lkK ts => cases h2
            | lkN ts => cases h2
            | lst ts => cases h2
            | dK kvs =>
              simp only [dLook] at h2
              cases h3 : toKy k0 with
              | none => simp [h3] at h2
              | some k =>
                simp only [h3, Option.map_some, Option.some.injEq] at h2
                obtain ⟨a, kws, rfl, ha, h4, r4⟩ := dK_at w rx hl
                refine ⟨_, mt_getK (by omega), a, _, _, valV kws k, rfl, rfl, by rw [ky_rep h3 r1]; exact .k h4, ?_⟩
                have l4 := r4.look k
                rw [h2] at l4
                cases c2 : valV kws k with
                | none =>
                  rw [c2] at l4
                  cases r with
                  | none => exact q _ _ _ (Fut.refl _ _) w r2
                  | some u => exact l4.elim
                | some v =>
                  rw [c2] at l4
                  cases r with
                  | none => exact l4.elim
                  | some u => exact q _ _ _ (Fut.refl _ _) w l4
            | dN kvs =>
              simp only [dLook] at h2
              split at h2
              · rename_i ht
                cases h3 : toNK nkd k0 with
                | none => simp [h3] at h2
                | some k =>
                  simp only [h3, Option.map_some, Option.some.injEq] at h2
                  obtain ⟨a, xs, rfl, ha, d⟩ := dN_at w rx hl
                  obtain ⟨b, rfl⟩ := tup_ref ht r1
                  exact ⟨_, mt_getN (by omega), a, b, ρ, kvs, xs, k0, k, _, d0, _, rfl, rfl, d, h3, r1, r2, by rw [h2], fun v r => q _ _ _ (Fut.refl _ _) w r⟩
              · cases h2
  · cases e
/-! ### setdefault -/
theorem mt_setdefK : MtR X "dict.setdefault" (fun x us H Q => ∃ a kws k v, x = .ref a ∧ us = [kV k, v] ∧ H a = some (.dK kws) ∧ (valV kws k = none → kws.length < sizeLine) ∧ (∀ u, valV kws k = some u → Q u H) ∧ (valV kws k = none → Q v (upd H a (.dK (putK kws k v))))) := by
  intro pins s σ H x us v0 vs Q I rx rs h
  obtain ⟨a, kws, k, v, rfl, rfl, ha, hz, q1, q2⟩ := h
  cases rx
  obtain ⟨u1, u2, rfl, r1, r2⟩ := vals2 rs
  obtain ⟨z, hd, ws, rel, dd⟩ := dk_of I.hok ha
  have hz2 : ws.length ≤ sizeLine := by rw [← rel.length]; exact z
  have rr := rel.val k
  refine call_meetsIn F.slot_dict_setdefault dd.typeIs F.entry_dict_setdefault (F.args_dict_setdefault_3 _ _ _) (kt_meets_setdefault (mixKind X.prog X.w) a (kV_is r1) hd u2) ⟨ws, dd, hz2, fun u hu => ?_, fun hn h' dd' hs => ?_⟩
  · rw [hu] at rr
    cases hv : valV kws k with
    | none => rw [hv] at rr; exact rr.elim
    | some y =>
      rw [hv] at rr
      exact ⟨y, H, I.tok _, rr, q1 y hv⟩
  · rw [hn] at rr
    cases hv : valV kws k with
    | some y => rw [hv] at rr; exact rr.elim
    | none =>
      have hl2 : (putK kws k v).length ≤ sizeLine := by have := length_putK kws k v; have := hz hv; omega
      have he : ∃ ob, h'.get? a = some ob := by
        obtain ⟨ob, _, _, g, _⟩ := dd'
        exact ⟨ob, g⟩
      exact ⟨v, _, d_write (t' := s.toks + 1) I (by rw [ha]; trivial) hs he (dk_new hl2 hd (rel.put k r2) dd'), r2, q2 hv⟩
theorem mt_setdefN (hu : X.A.units + 64 < cLine) : MtR X "dict.setdefault" (fun x us H Q => ∃ a b ρ kvs xs t k v, x = .ref a ∧ us = [.ref b, v] ∧ DnAt X H ρ a kvs xs ∧ toNK nkd t = some k ∧ Rep (kx X) H ρ t (.ref b) ∧ (lookD kvs k = none → xs.length < sizeLine) ∧ (∀ u, lookD kvs k = some u → ∀ v, Rep (kx X) H ρ u v → Q v H) ∧ (lookD kvs k = none → Q v (upd H a (dnO (kx X) a (storeX xs k b v))))) := by
  intro pins s σ H x us v0 vs Q I rx rs h
  obtain ⟨a, b, ρ, kvs, xs, t, k, v, rfl, rfl, dn, hk, rb, hz, q1, q2⟩ := h
  cases rx
  obtain ⟨u1, u2, rfl, r1, r2⟩ := vals2 rs
  cases r1
  obtain ⟨z, hsm, ys, p, dh⟩ := dn_heap I dn.h dn.r
  have hl : ys.length = xs.length := by
    have := congrArg List.length (erel_keys p)
    simpa using this
  have l1 := repd_look k dn.r
  have l2 := erel_look k p
  refine call_setdefault_heap (hsz := by rw [hl]; omega) (nroom hu _ _) (nk_key I hk rb) hsm dh (fun y hy => ?_) fun hn h' dh' sb => ?_
  · rw [hy] at l2
    cases h2 : (xs.find? fun x => decide (x.1 = k)) with
    | none => rw [h2] at l2; exact l2.elim
    | some x =>
      rw [h2] at l1 l2
      cases h3 : lookD kvs k with
      | none => rw [h3] at l1; exact l1.elim
      | some u =>
        rw [h3] at l1
        exact ⟨x.2.2, H, I.tok _, l2, q1 u h3 _ l1.2⟩
  · rw [hn] at l2
    have h2 : (xs.find? fun x => decide (x.1 = k)) = none := by
      cases h2 : (xs.find? fun x => decide (x.1 = k)) with
      | none => rfl
      | some x => rw [h2] at l2; exact l2.elim
    rw [h2] at l1
    have h3 : lookD kvs k = none := by
      cases h3 : lookD kvs k with
      | none => rfl
      | some u => rw [h3] at l1; exact l1.elim
    have he : ∃ ob, h'.get? a = some ob := by
      obtain ⟨ob, _, _, g, _⟩ := dh'
      exact ⟨ob, g⟩
    refine ⟨v, _, I.write (x := a) (e := a) (o := dnO (kx X) a (storeX xs k b v)) (t' := s.toks + _) (by rw [dn.h]; trivial) (.inl rfl) (fun b' ob hb e => (sb.2 b' hb).trans e) he ?_, r2, q2 h3⟩
    exact dn_obj (Nat.le_trans (storeX_len xs k b v) (hz h3)) hsm (erel_store p r2) dh'
theorem mm_setdef (hu : X.A.units + 65 < cLine) : MtT X "dict" "dict.setdefault" setdefT := by
  intro ρ st H x ts t st' vx vs w rx rs e Q q
  unfold setdefT at e
  split at e
  · rename_i k0 d0
    cases h : dAt x st with
    | none => simp [h] at e
    | some d =>
      obtain ⟨l, ob⟩ := d
      obtain ⟨rfl, hl⟩ := dAt_inv h
      simp only [h, Option.bind_some] at e
      cases rs with
      | @cons _ vk _ _ r1 rs =>
        cases rs with
        | @cons _ vd _ _ r2 rs =>
          cases rs
          cases h2 : dLook ob k0 with
          | none => simp [h2] at e
          | some r =>
            simp only [h2, Option.bind_some] at e
            cases ob with
            | lkK ts => cases h2
            | lkN ts => cases h2
            | lst ts => cases h2
            | dK kvs =>
              simp only [dLook] at h2
              cases h3 : toKy k0 with
              | none => simp [h3] at h2
              | some k =>
                simp only [h3, Option.map_some, Option.some.injEq] at h2
                obtain ⟨a, kws, rfl, ha, h4, r4⟩ := dK_at w rx hl
                have l4 := r4.look k
                rw [h2] at l4
                refine ⟨_, mt_setdefK, a, kws, k, vd, rfl, by rw [ky_rep h3 r1], h4, fun hn => ?_, fun u hu => ?_, fun hn => ?_⟩
                · rw [hn] at l4
                  cases r with
                  | some u1 => exact l4.elim
                  | none =>
                    by_cases hz : kvs.length < sizeLine
                    · rw [← r4.len]; exact hz
                    · simp only [dStore, hz, if_false, Option.map_none] at e
                      cases e
                · rw [hu] at l4
                  cases r with
                  | none => exact l4.elim
                  | some u1 =>
                    cases e
                    exact q _ _ _ (Fut.refl _ _) w l4
                · rw [hn] at l4
                  cases r with
                  | some u1 => exact l4.elim
                  | none =>
                    by_cases hz : kvs.length < sizeLine
                    · simp only [dStore, hz, if_true, h3, Option.map_some, Option.some.injEq, Prod.mk.injEq] at e
                      obtain ⟨rfl, rfl⟩ := e
                      obtain ⟨u0, h0, i0⟩ := w.there hl ha
                      have f0 : Fut H (upd H a (.dK (putK kws k vd))) ρ ρ := ⟨Ext.mut h0 i0, [], by simp⟩
                      have r5 := (r4.put (k := k) r2).up f0
                      obtain ⟨w1, f⟩ := w.put (o := .dK (storeK kvs k d0)) h0 i0 ha ⟨putK kws k vd, upd_same, r5.k, r5.v⟩
                      exact q _ _ _ f w1 (r2.up f0)
                    · simp only [dStore, hz, if_false, Option.map_none] at e
                      cases e
            | dN kvs =>
              simp only [dLook] at h2
              split at h2
              · rename_i ht
                cases h3 : toNK nkd k0 with
                | none => simp [h3] at h2
                | some k =>
                  simp only [h3, Option.map_some, Option.some.injEq] at h2
                  obtain ⟨a, xs, rfl, ha, d⟩ := dN_at w rx hl
                  obtain ⟨b, rfl⟩ := tup_ref ht r1
                  refine ⟨_, mt_setdefN (by omega), a, b, ρ, kvs, xs, k0, k, vd, rfl, rfl, d, h3, r1, fun hn => ?_, fun u hu v rv => ?_, fun hn => ?_⟩
                  · rw [h2] at hn
                    subst hn
                    by_cases hz : kvs.length < sizeLine
                    · rw [← repd_len d.r]; exact hz
                    · simp only [dStore, hz, false_and, if_false, Option.map_none] at e
                      cases e
                  · rw [h2] at hu
                    subst hu
                    cases e
                    exact q _ _ _ (Fut.refl _ _) w rv
                  · rw [h2] at hn
                    subst hn
                    by_cases hz : kvs.length < sizeLine
                    · simp only [dStore, hz, ht, and_self, if_true, h3, Option.map_some, Option.some.injEq, Prod.mk.injEq] at e
                      obtain ⟨rfl, rfl⟩ := e
                      obtain ⟨u0, h0, i0⟩ := w.there hl ha
                      have f0 : Fut H (upd H a (dnO (kx X) a (storeX xs k b vd))) ρ ρ := ⟨Ext.mut h0 i0, [], by simp⟩
                      obtain ⟨w1, f⟩ := w.put (o := .dN (storeD kvs k0 k d0)) h0 i0 ha ⟨_, upd_same, (repd_store d.r h3 r1 r2).up f0⟩
                      exact q _ _ _ f w1 (r2.up f0)
                    · simp only [dStore, hz, false_and, if_false, Option.map_none] at e
                      cases e
              · cases h2
  · cases e
/-! ### the list of a dict's keys -/
theorem erel_refs : ∀ {xs : List (NestedKey × Addr × V)} {ys : List (NestedKey × Addr × Value)}, Paired ERel xs ys → Vals (xs.map fun x => V.ref x.2.1) (ys.map fun y => Value.ref y.2.1)
  | _, _, .nil => .nil
  | _, _, .cons a b => .cons (congrArg Value.ref a.2.1.symm) (erel_refs b)
theorem call_listN (hc : X.calm = true) : CallR X (.type "list") (fun us H Q => ∃ a ρ kvs xs, us = [V.ref a] ∧ DnAt X H ρ a kvs xs ∧ ∀ p, H p = none → Q (.ref p) (upd H p (.lst (xs.map fun x => V.ref x.2.1)))) := by
  intro pins s σ H vs us Q I r h
  obtain ⟨a, ρ, kvs, xs, rfl, dn, q⟩ := h
  obtain ⟨u, rfl, rx⟩ := vals1 r
  cases rx
  obtain ⟨⟨z, hs, ys, p, ob, es, ep, g1, g2, g3, g4, g5⟩, _⟩ := I.hok a _ dn.h
  have hl : ys.length = xs.length := by
    have := congrArg List.length (erel_keys p)
    simpa using this
  have hes : es.size = ys.length := size_of_entries g4
  refine PySem.W.kdl_call (kdl_raw hs g2 g3) (I.ok.hd hc) g1 (by omega) fun h' tk acc c' kp e it => ?_
  have ea : acc.toList = ys.map fun y => Value.ref y.2.1 := by
    have hla : acc.toList.length = ys.length := by rw [Array.length_toList, it.1]; exact hes
    refine List.ext_getElem? fun j => ?_
    rw [List.getElem?_map]
    cases hj : acc.toList[j]? with
    | none =>
      have hge : ys.length ≤ j := by have := List.getElem?_eq_none_iff.mp hj; omega
      rw [List.getElem?_eq_none hge]; rfl
    | some v =>
      obtain ⟨en, hen, hv⟩ := it.2 j v (by rw [← Array.getElem?_toList]; exact hj)
      have qe := entry_at g4 j
      rw [hen] at qe
      cases hb : ys[j]? with
      | none => rw [hb] at qe; cases qe
      | some y =>
        rw [hb] at qe
        have e2 : en = entryOfKey (nestedKind X.prog X.w) y := Option.some.inj qe
        rw [hv, e2]; rfl
  have hv : Vals (xs.map fun x => V.ref x.2.1) acc.toList := by rw [ea]; exact erel_refs p
  refine ⟨.ref s.heap.objs.size, _, I.laid (t' := tk) (o := .lst (xs.map fun x => V.ref x.2.1)) kp (Nat.le_refl _) ⟨by rw [List.length_map]; exact z, acc.toList, c', hv, by rw [Array.toArray_toList]; exact e⟩, rfl, q _ (I.hok.fresh (Nat.le_refl _))⟩
def listDT : FA := fun ts st => match ts with
  | [.ref l] => match st[l]? with
    | some (.dN kvs) => some (.ref st.length, st ++ [.lst (kvs.map (·.1))])
    | some (.dK kvs) => some (.ref st.length, st ++ [.lst (kvs.map fun p => unKy p.1)])
    | _ => listT ts st
  | _ => listT ts st
theorem repd_firsts {K : KX} {H : Hp} {ρ : List Addr} {kvs : List (T × T)} {xs : List (NestedKey × Addr × V)} (r : RepD K H ρ kvs xs) : Reps K H ρ (kvs.map (·.1)) (xs.map fun x => V.ref x.2.1) := by
  induction r with
  | nil => exact .nil
  | cons a b c d ih => exact .cons b ih
theorem un_reps {K : KX} {H : Hp} {ρ : List Addr} : ∀ {kvs : List (Key × T)} {kws : List (Key × V)}, kvs.map (·.1) = kws.map (·.1) → Reps K H ρ (kvs.map fun p => unKy p.1) (kws.map fun p => kV p.1)
  | [], [], _ => .nil
  | [], _ :: _, h => by cases h
  | _ :: _, [], h => by cases h
  | p :: kvs, q :: kws, h => by
    rw [List.map_cons, List.map_cons] at h
    injection h with h1 h2
    rw [List.map_cons, List.map_cons, h1]
    exact .cons (un_rep q.1) (un_reps h2)
theorem ct_listD (hc : X.calm = true) : CallT X (.type "list") listDT := by
  intro ρ st H ts t st' vs w rs e Q q
  unfold listDT at e
  split at e
  · split at e
    · rename_i hl
      cases e
      cases rs with
      | cons r1 r2 =>
        cases r2
        obtain ⟨a, xs, rfl, _, d⟩ := dN_at w r1 hl
        exact ⟨_, call_listN hc, a, ρ, _, xs, rfl, d, fun p hp => new_lst w (repd_firsts d.r) q hp⟩
    · rename_i hl
      cases e
      cases rs with
      | cons r1 r2 =>
        cases r2
        obtain ⟨a, kws, rfl, _, h4, r4⟩ := dK_at w r1 hl
        exact ⟨_, call_list_dK hc, a, kws, rfl, h4, fun p hp => new_lst w (un_reps r4.k) q hp⟩
    · exact ct_list ρ st H _ t st' vs w rs e Q q
  · exact ct_list ρ st H _ t st' vs w rs e Q q
/-! ### is None -/
def isNon : T → Bool
  | .non => true
  | _ => false
def isNT (neg : Bool) : F2 := fun x y st => if isNon y then some (.bl (if neg then !isNon x else isNon x), st) else none
theorem isNon_rep {K : KX} {H : Hp} {ρ : List Addr} {t : T} {v : V} (r : Rep K H ρ t v) : decide (v = V.non) = isNon t := by
  cases r <;> first | rfl | exact decide_eq_false (fun z => by cases z)
theorem ot_is : OpT X (compareOp .Is) (isNT false) := by
  intro ρ st H x y t st' vx vy w rx ry e Q q
  unfold isNT at e
  split at e
  · rename_i hy
    cases e
    have hv : vy = V.non := of_decide_eq_true ((isNon_rep ry).trans hy)
    refine ⟨_, op_isN, hv, ?_⟩
    rw [isNon_rep rx]
    exact q _ _ _ (Fut.refl _ _) w (.bl _)
  · cases e
theorem ot_isnot : OpT X (compareOp .IsNot) (isNT true) := by
  intro ρ st H x y t st' vx vy w rx ry e Q q
  unfold isNT at e
  split at e
  · rename_i hy
    cases e
    have hv : vy = V.non := of_decide_eq_true ((isNon_rep ry).trans hy)
    refine ⟨_, op_notN, hv, ?_⟩
    rw [isNon_rep rx]
    exact q _ _ _ (Fut.refl _ _) w (.bl _)
  · cases e
end
end TL
/-! TL30 -/
set_option Elab.async false
set_option linter.all false
set_option maxRecDepth 100000
set_option maxHeartbeats 4000000
/-! isinstance of one built-in type -/
namespace TL
variable [Tb]
open PySem PySem.Spec PyProof.Rows L2
/-- the type of what a tree is -/
def kindT (t : T) (st : Store) : Option String := match t with
  | .non => some "NoneType"
  | .bl _ => some "bool"
  | .int _ => some "int"
  | .str _ => some "str"
  | .tup _ => some "tuple"
  | .ptp _ => some "tuple"
  | .rdl _ => some "list"
  | .ref l => match st[l]? with
    | some (.lst _) => some "list"
    | some (.dK _) => some "dict"
    | _ => none
def xIsi (n : String) (f : XE) : XE := fun e st => (f e st).bind fun p => (kindT p.1 p.2).bind fun a => (kitB a n).map fun b => (.bl b, p.2)
section
variable {X : Cx}
theorem kindT_ok {ρ : List Addr} {st : Store} {H : Hp} {t : T} {v : V} {n : String} (w : Wd (kx X) ρ st H) (r : Rep (kx X) H ρ t v) (h : kindT t st = some n) : TyX X.K H v (.type n) := by
  cases r with
  | non => cases h; exact .base .non
  | bl b => cases h; exact .base (.bl b)
  | int i => cases h; exact .base (.int i)
  | str x => cases h; exact .base (.str x)
  | @tup a vs ts hs rr =>
    cases h
    rcases hs with hs | ⟨o, its, m, g1, g2, _⟩
    · rcases hs with hs | ⟨o, hs⟩
      · exact .base (.tup hs)
      · exact .fTuple hs
    · exact .kTuple g1 g2
  | @ptp a vs ts hs rr =>
    cases h
    obtain ⟨o, hs, _⟩ := hs
    exact .fTuple hs
  | @rdl ns a hs =>
    cases h
    rcases hs with ⟨o, hs⟩ | hs
    · exact .base (.frz hs)
    · rcases hs (fun _ => none) with hs | hs
      · rcases hs with hs | ⟨o, hs⟩
        · cases hs
        · cases hs
      · obtain ⟨o, its, m, g1, g2, _⟩ := hs
        exact .kList g1 g2
  | @ref l a ha =>
    simp only [kindT] at h
    split at h
    · rename_i hl
      cases h
      obtain ⟨vs, h1, _⟩ := w.addr hl ha
      exact .base (.lst h1)
    · rename_i hl
      cases h
      obtain ⟨kws, h1, _⟩ := w.addr hl ha
      exact .base (.dK h1)
    · cases h
end
@[simp] theorem kb_NoneType_int : kitB "NoneType" "int" = some false := by decide +kernel
@[simp] theorem kb_NoneType_bool : kitB "NoneType" "bool" = some false := by decide +kernel
@[simp] theorem kb_NoneType_tuple : kitB "NoneType" "tuple" = some false := by decide +kernel
@[simp] theorem kb_NoneType_list : kitB "NoneType" "list" = some false := by decide +kernel
@[simp] theorem kb_NoneType_dict : kitB "NoneType" "dict" = some false := by decide +kernel
@[simp] theorem kb_NoneType_str : kitB "NoneType" "str" = some false := by decide +kernel
@[simp] theorem kb_bool_int : kitB "bool" "int" = some true := by decide +kernel
@[simp] theorem kb_bool_bool : kitB "bool" "bool" = some true := by decide +kernel
@[simp] theorem kb_bool_tuple : kitB "bool" "tuple" = some false := by decide +kernel
@[simp] theorem kb_bool_list : kitB "bool" "list" = some false := by decide +kernel
@[simp] theorem kb_bool_dict : kitB "bool" "dict" = some false := by decide +kernel
@[simp] theorem kb_bool_str : kitB "bool" "str" = some false := by decide +kernel
@[simp] theorem kb_int_int : kitB "int" "int" = some true := by decide +kernel
@[simp] theorem kb_int_bool : kitB "int" "bool" = some false := by decide +kernel
@[simp] theorem kb_int_tuple : kitB "int" "tuple" = some false := by decide +kernel
@[simp] theorem kb_int_list : kitB "int" "list" = some false := by decide +kernel
@[simp] theorem kb_int_dict : kitB "int" "dict" = some false := by decide +kernel
@[simp] theorem kb_int_str : kitB "int" "str" = some false := by decide +kernel
@[simp] theorem kb_str_int : kitB "str" "int" = some false := by decide +kernel
@[simp] theorem kb_str_bool : kitB "str" "bool" = some false := by decide +kernel
@[simp] theorem kb_str_tuple : kitB "str" "tuple" = some false := by decide +kernel
@[simp] theorem kb_str_list : kitB "str" "list" = some false := by decide +kernel
@[simp] theorem kb_str_dict : kitB "str" "dict" = some false := by decide +kernel
@[simp] theorem kb_str_str : kitB "str" "str" = some true := by decide +kernel
@[simp] theorem kb_tuple_int : kitB "tuple" "int" = some false := by decide +kernel
@[simp] theorem kb_tuple_bool : kitB "tuple" "bool" = some false := by decide +kernel
@[simp] theorem kb_tuple_tuple : kitB "tuple" "tuple" = some true := by decide +kernel
@[simp] theorem kb_tuple_list : kitB "tuple" "list" = some false := by decide +kernel
@[simp] theorem kb_tuple_dict : kitB "tuple" "dict" = some false := by decide +kernel
@[simp] theorem kb_tuple_str : kitB "tuple" "str" = some false := by decide +kernel
@[simp] theorem kb_list_int : kitB "list" "int" = some false := by decide +kernel
@[simp] theorem kb_list_bool : kitB "list" "bool" = some false := by decide +kernel
@[simp] theorem kb_list_tuple : kitB "list" "tuple" = some false := by decide +kernel
@[simp] theorem kb_list_list : kitB "list" "list" = some true := by decide +kernel
@[simp] theorem kb_list_dict : kitB "list" "dict" = some false := by decide +kernel
@[simp] theorem kb_list_str : kitB "list" "str" = some false := by decide +kernel
@[simp] theorem kb_dict_int : kitB "dict" "int" = some false := by decide +kernel
@[simp] theorem kb_dict_bool : kitB "dict" "bool" = some false := by decide +kernel
@[simp] theorem kb_dict_tuple : kitB "dict" "tuple" = some false := by decide +kernel
@[simp] theorem kb_dict_list : kitB "dict" "list" = some false := by decide +kernel
@[simp] theorem kb_dict_dict : kitB "dict" "dict" = some true := by decide +kernel
@[simp] theorem kb_dict_str : kitB "dict" "str" = some false := by decide +kernel
section
variable {X : Cx} {e : Expr} {fe : XE} {x : Str} {n : String} {p q pos : Pos}
theorem et_isi (ha : ET X e fe) (hm : X.mg "isinstance" = none) (ht : X.mg x = none) (hb : bootBuiltins x = some (.type n)) (hx : x ≠ "__name__" := by decide +kernel) (hd : (x == ("__debug__" : Str)) = false := by decide +kernel)
    (hg : Gl X "isinstance" := by rfl) (hg2 : Gl X x := by rfl) (hv : bootBuiltins "isinstance" = some (.builtin "isinstance") := by decide +kernel)
    (g1 : starEach [e, .Name x q] X.env = (false, eval e X.env) :: starEach [.Name x q] X.env := by rfl) (g2 : starEach [.Name x q] X.env = (false, eval (.Name x q) X.env) :: starEach [] X.env := by rfl)
    (g3 : (backTo pos (starEach [.Name x q] X.env)).any (·.1) = false := by rfl) : ET X (.Call (.Name "isinstance" p) [e, .Name x q] [] pos) (xIsi n fe) := by
  intro env st ρ σ H t st' s w e1 Q qq
  unfold xIsi at e1
  cases h : fe env st with
  | none => simp [h] at e1
  | some pr =>
    obtain ⟨y, s1⟩ := pr
    simp only [h, Option.bind_some] at e1
    cases h2 : kindT y s1 with
    | none => simp [h2] at e1
    | some a =>
      simp only [h2, Option.bind_some] at e1
      cases h3 : kitB a n with
      | none => simp [h3] at e1
      | some b =>
        simp only [h3, Option.map_some, Option.some.injEq, Prod.mk.injEq] at e1
        obtain ⟨rfl, rfl⟩ := e1
        have hn : PE X (.Name x q) (tC (.ty n)) := pe_bltn hg2 ht hb rfl hx hd
        refine We.of (pe_callB call_isi hg hm hv (pa_cons We.pe (pa_cons hn pa_nil g2) g1) (by decide +kernel) (by decide +kernel) g1 g3) ?_
        refine ha env st ρ σ H y s1 s w h _ fun v H1 ρ1 f1 w1 r1 => ?_
        exact ⟨v, .ty n, .type a, .type n, b, rfl, .ty n, kindT_ok w1 r1 h2, kit_ty h3, qq _ _ _ f1 w1 (.bl b)⟩
end
end TL
/-! TL31 -/
set_option Elab.async false
set_option linter.all false
set_option maxRecDepth 100000
set_option maxHeartbeats 4000000
/-! repr of truths, of None and of ints, too -/
namespace TL
variable [Tb]
open PySem PySem.Spec PyProof.Rows L2
def reprU : FA := fun ts st => match ts with
  | [.bl b] => some (.str (if b then "True" else "False"), st)
  | [.non] => some (.str "None", st)
  | [.int i] => if i.natAbs.log2 < 1920 then some (.str (toString i), st) else none
  | _ => reprT ts st
section
variable {X : Cx}
theorem cr_reprB : CallR X (.builtin "repr") (fun us H Q => ∃ b, us = [.bl b] ∧ Q (.str (if b then "True" else "False")) H) := by
  intro pins s σ H vs us Q I r h
  obtain ⟨b, rfl, q⟩ := h
  obtain ⟨u, rfl, ru⟩ := vals1 r
  cases ru
  exact call_repr_gives (T := "bool") (id := "bool.__repr__") (show s.TypeIs (.bool b) "bool" from rfl) F.slot_bool_repr F.entry_bool_repr (F.args_bool_repr_1 _) (gives_bool_repr b) ⟨.str (if b then "True" else "False"), H, I.tok _, ⟨_, rfl⟩, q⟩ rfl (by cases b <;> decide +kernel)
theorem cr_reprN : CallR X (.builtin "repr") (fun us H Q => us = [.non] ∧ Q (.str "None") H) := by
  intro pins s σ H vs us Q I r h
  obtain ⟨rfl, q⟩ := h
  obtain ⟨u, rfl, ru⟩ := vals1 r
  cases ru
  exact call_repr_gives (T := "NoneType") (id := "NoneType.__repr__") (show s.TypeIs .none "NoneType" from rfl) F.slot_NoneType_repr F.entry_NoneType_repr (F.args_NoneType_repr_1 _) gives_none_repr ⟨.str "None", H, I.tok _, ⟨_, rfl⟩, q⟩
theorem ct_reprU (hu : X.A.units + 64 < cLine) (hg : X.A.guards = some []) : CallT X (.builtin "repr") reprU := by
  intro ρ st H ts t st' vs w rs e Q q
  unfold reprU at e
  split at e
  · cases e
    cases rs with
    | cons r1 r2 =>
      cases r2
      cases r1
      exact ⟨_, cr_reprB, _, rfl, q _ _ _ (Fut.refl _ _) w (.str _)⟩
  · cases e
    cases rs with
    | cons r1 r2 =>
      cases r2
      cases r1
      exact ⟨_, cr_reprN, rfl, q _ _ _ (Fut.refl _ _) w (.str _)⟩
  · split at e
    · rename_i hz
      cases e
      cases rs with
      | cons r1 r2 =>
        cases r2
        cases r1
        exact ⟨_, SkE.call_repr_int, _, rfl, hz, q _ _ _ (Fut.refl _ _) w (.str _)⟩
    · cases e
  · exact ct_repr hu hg ρ st H _ t st' vs w rs e Q q
@[simp] theorem reprU_tup {ts : List T} {st : Store} : reprU [.tup ts] st = reprT [.tup ts] st := rfl
@[simp] theorem reprU_ref {l : Nat} {st : Store} : reprU [.ref l] st = reprT [.ref l] st := rfl
end
end TL
/-! TL32 -/
set_option Elab.async false
set_option linter.all false
set_option maxRecDepth 100000
set_option maxHeartbeats 4000000
/-! sorted of data: keys of a dict, items of a list, either way -/
namespace TL
variable [Tb]
open PySem PySem.Spec PyProof.Rows L2
open PySem.W (EachIs dataKind AllAlike Sortable SortsAt dataLe sortVals sortVals_data sortingHeap sortingHeap_old copyHeap copyHeap_at copyHeap_old each_map sortVals_length list_sort_vals list_sort_rev_vals alike alikeAll)
def isTC : PyData → Bool
  | .tuple (_ :: _) => true
  | _ => false
def notTN : PyData → Bool
  | .tuple _ => false
  | .none => false
  | _ => true
def loneE : List PyData → Bool
  | [.tuple []] => true
  | _ => false
def sortOk (ds : List PyData) : Bool := decide (ds.length ≤ sizeLine) && ds.all (fun d => ds.all fun e => alike d e) && ds.all (fun d => decide (d.depth ≤ 30)) && (ds.all isTC || ds.all notTN || loneE ds)
/-- the items in order, each with its datum -/
def srt (rev : Bool) (ds : List PyData) (ts : List T) : List T := ((ds.zip ts).mergeSort (dataLe rev Prod.fst)).map Prod.snd
theorem isTC_inv {d : PyData} (h : isTC d = true) : ∃ x r, d = .tuple (x :: r) := by
  unfold isTC at h
  split at h
  · exact ⟨_, _, rfl⟩
  · cases h
theorem notTN_inv {d : PyData} (h : notTN d = true) : d ≠ .none ∧ ∀ xs, d ≠ .tuple xs := by
  unfold notTN at h
  split at h
  · cases h
  · cases h
  · rename_i h1 h2
    exact ⟨fun e => h2 e, fun xs e => h1 xs e⟩
theorem loneE_inv {ds : List PyData} (h : loneE ds = true) : ds = [.tuple []] := by
  unfold loneE at h
  split at h
  · rfl
  · cases h
section
variable {prog : Program} {w : World} {A : Around} {s : Shared}
theorem sorts_ok {vs : List Value} {ds : List PyData} (hu : A.units + 60 < cLine) (e : EachIs (fun v d => ∃ as, Reads s.heap v d as) vs ds) (h : sortOk ds = true) : SortsAt prog w A s (dataKind s.heap ds) vs := by
  unfold sortOk at h
  simp only [Bool.and_eq_true, Bool.or_eq_true] at h
  obtain ⟨⟨⟨_, h1⟩, h2⟩, h3⟩ := h
  have hal : AllAlike ds := fun d hd d' hd' => (List.all_eq_true.mp ((List.all_eq_true.mp h1) d hd)) d' hd'
  have hu2 : ∀ d, d ∈ ds → A.units + d.depth < cLine := fun d hd => by
    have := of_decide_eq_true ((List.all_eq_true.mp h2) d hd)
    omega
  rcases h3 with (h3 | h3) | h3
  · exact SortsAt.data e hal (.inl fun d hd => isTC_inv ((List.all_eq_true.mp h3) d hd)) hu2
  · exact SortsAt.data e hal (.inr fun d hd => notTN_inv ((List.all_eq_true.mp h3) d hd)) hu2
  · have hd := loneE_inv h3
    subst hd
    have hv := e.length
    refine ⟨fun v hv => ?_, PyProof.Rows.tuples' false, ?_, fun h2 => ?_⟩
    · obtain ⟨d, hd, as, r⟩ := e.left v hv
      exact ⟨_, PySem.W.dataKind_some hal hd r⟩
    · intro E x y a b Q ha hb hq
      obtain ⟨d, as, hd, ra, rfl⟩ := PySem.W.dataKind_inv ha
      obtain ⟨d', as', hd', rb, rfl⟩ := PySem.W.dataKind_inv hb
      have e1 : d = .tuple [] := by simpa using hd
      have e2 : d' = .tuple [] := by simpa using hd'
      subst e1
      subst e2
      have hq' : Q (PySem.W.dataLt (.tuple []) (.tuple [])) s := hq
      rw [PySem.W.dataLt_tuple] at hq'
      cases ra with
      | @tuple l o xs n _ _ h1 h2 h3 h4 =>
        cases rb with
        | @tuple l' o' xs' n' _ _ k1 k2 k3 k4 =>
          have n1 : xs.size = 0 := by simpa using SeqAt.ReadsAll.length _ _ _ h4
          have n2 : xs'.size = 0 := by simpa using SeqAt.ReadsAll.length _ _ _ k4
          exact PySem.W.kat_lt h1 h3 k1 k3 (PySem.W.katLex_alike (A := A) (b := false) [] [] 0 _ _ _ _ h4 k4 (by simp [alikeAll]) (by simp [PyData.depthAll]; omega) (fun hb => by cases hb) (by rw [n1, n2]; rfl) hq')
    · rw [hv] at h2
      exact absurd h2 (by simp)
end
section
variable {X : Cx} {pins : List (Addr × Obj)} {σ : St} {H : Hp} {s1 : Shared} {ρ : List Addr}
theorem sort_rows (I1 : Inv X pins σ H s1) : ∀ {us : List V} {vs : List Value} {ds : List PyData} {ts : List T}, Vals us vs → DpAll X.K H us ds → Reps (kx X) H ρ ts us →
    ∃ bs : List (PyData × T × V), bs.map (·.1) = ds ∧ ds.zip ts = bs.map (fun b => (b.1, b.2.1)) ∧ bs.length = vs.length ∧ EachIs (fun u b => RelV b.2.2 u) vs bs ∧ EachIs (fun u b => ∃ as, Reads s1.heap u b.1 as) vs bs ∧ ∀ b ∈ bs, Rep (kx X) H ρ b.2.1 b.2.2
  | _, _, _, _, .nil, d, r => by
    cases d
    cases r
    exact ⟨[], rfl, rfl, rfl, .nil, .nil, fun b hb => by cases hb⟩
  | _, _, _, _, .cons a c, d, r => by
    cases d with
    | cons d1 d2 =>
      cases r with
      | cons r1 r2 =>
        obtain ⟨bs, h1, h2, h3, h4, h5, h6⟩ := sort_rows I1 c d2 r2
        refine ⟨(_, _, _) :: bs, by rw [List.map_cons, h1], by rw [List.zip_cons_cons, h2]; rfl, by simp [h3], .cons a h4, .cons (Dp.reads I1 _ _ _ d1 a) h5, fun b hb => ?_⟩
        rcases List.mem_cons.mp hb with e | hb
        · subst e; exact r1
        · exact h6 b hb
theorem vals_each : ∀ {vs : List Value} {bs : List (PyData × T × V)}, EachIs (fun u b => RelV b.2.2 u) vs bs → Vals (bs.map fun b => b.2.2) vs
  | _, _, .nil => .nil
  | _, _, .cons a b => .cons a (vals_each b)
theorem reps_rows : ∀ {bs : List (PyData × T × V)}, (∀ b ∈ bs, Rep (kx X) H ρ b.2.1 b.2.2) → Reps (kx X) H ρ (bs.map fun b => b.2.1) (bs.map fun b => b.2.2)
  | [], _ => .nil
  | b :: bs, h => .cons (h b (List.mem_cons_self ..)) (reps_rows fun c hc => h c (List.mem_cons_of_mem _ hc))
theorem sort_body (rev : Bool) {us : List V} {vs : List Value} {ds : List PyData} {ts : List T} (hu : X.A.units + 64 < cLine) (I1 : Inv X pins σ H s1) (rv : Vals us vs) (dp : DpAll X.K H us ds) (rr : Reps (kx X) H ρ ts us) (ok : sortOk ds = true)
    {Q : VK} (q : ∀ us' p, H p = none → Reps (kx X) H ρ (srt rev ds ts) us' → Q (.ref p) (upd H p (.lst us'))) {h2 : Heap} {a : Addr} (keep : ∀ b u, s1.heap.get? b = some u → h2.get? b = some u) (ha : s1.heap.objs.size ≤ a) (hoL : h2.get? a = some (seqObj "list" vs.toArray 0)) :
    vs.length ≤ sizeLine ∧ ∃ κ : PyProof.Rows.KeyKind, SortsAt X.prog X.w X.A.in1.in1 { s1 with heap := sortingHeap h2 a vs } κ vs ∧ EP X pins σ Q (.ref a) { s1 with heap := sortedHeap h2 a vs (sortVals κ rev vs vs).toArray } := by
  obtain ⟨bs, b1, b2, b3, b4, b5, b6⟩ := sort_rows I1 rv dp rr
  have hk : ∀ b u, s1.heap.get? b = some u → (sortingHeap h2 a vs).get? b = some u := fun b u e => sortingHeap_old (Nat.ne_of_lt (Nat.lt_of_lt_of_le (Heap.lt_size e) ha)) (keep b u e)
  have er : EachIs (fun v b => ∃ as, Reads (sortingHeap h2 a vs) v b.1 as) vs bs := b5.mono fun _ _ ⟨as, r⟩ => ⟨as, PyProof.Rows.Reads.keeps hk r⟩
  have hz : vs.length ≤ sizeLine := by
    have := ok
    unfold sortOk at this
    simp only [Bool.and_eq_true] at this
    have := of_decide_eq_true this.1.1.1
    rw [← b3]
    rw [← b1, List.length_map] at this
    exact this
  have hal : AllAlike (bs.map fun b => b.1) := by
    rw [b1]
    unfold sortOk at ok
    simp only [Bool.and_eq_true] at ok
    exact fun d hd d' hd' => (List.all_eq_true.mp ((List.all_eq_true.mp ok.1.1.2) d hd)) d' hd'
  have so := sorts_ok (prog := X.prog) (w := X.w) (A := X.A.in1.in1) (s := { s1 with heap := sortingHeap h2 a vs }) (by show X.A.units + 2 + 60 < cLine; omega) (each_map (R := fun v d => ∃ as, Reads (sortingHeap h2 a vs) v d as) (fun b : PyData × T × V => b.1) er) (by rw [b1]; exact ok)
  refine ⟨hz, _, so, ?_⟩
  have sv := sortVals_data (h' := sortingHeap h2 a vs) (R := fun u b => RelV b.2.2 u) (enc := fun b : PyData × T × V => b.1) rev b4 er hal
  generalize he : sortVals (dataKind (sortingHeap h2 a vs) (bs.map fun b => b.1)) rev vs vs = out at sv
  obtain ⟨e', he'⟩ := PyProof.Rows.sortedHeap_at (vs := vs) (out := out.toArray) hoL
  have hm : (srt rev ds ts) = (bs.mergeSort (dataLe rev fun b => b.1)).map fun b => b.2.1 := by
    unfold srt
    rw [b2, ← PySem.W.sort_maps (r := dataLe rev fun b => b.1) (fun b : PyData × T × V => (b.1, b.2.1)) (fun _ _ _ _ => rfl), List.map_map]
    rfl
  have hr : Reps (kx X) H ρ (srt rev ds ts) ((bs.mergeSort (dataLe rev fun b => b.1)).map fun b => b.2.2) := by
    rw [hm]
    exact reps_rows fun b hb => b6 b (List.mem_mergeSort.mp hb)
  have hl : ((bs.mergeSort (dataLe rev fun b => b.1)).map fun b => b.2.2).length ≤ sizeLine := by
    rw [List.length_map, List.length_mergeSort, b3]; exact hz
  refine ⟨.ref a, _, I1.laid (a := a) (o := .lst ((bs.mergeSort (dataLe rev fun b => b.1)).map fun b => b.2.2)) (fun b u e => ?_) ha ⟨hl, out, e', vals_each sv, he'⟩, rfl, q _ _ (I1.hok.fresh ha) hr⟩
  have hb : b < s1.heap.objs.size := Heap.lt_size e
  rw [PyProof.Rows.sortedHeap_old (Nat.ne_of_lt (Nat.lt_of_lt_of_le hb ha)) (Heap.lt_size (keep b u e))]
  exact keep b u e
end
def kwOf : Option Bool → List (Str × Value)
  | none => []
  | some b => [(Str.ofString "reverse", .bool b)]
def revOf : Option Bool → Bool
  | none => false
  | some b => b
section
variable {X : Cx} {pins : List (Addr × Obj)} {σ : St} {H : Hp} {s : Shared} {ρ : List Addr}
theorem sorted_code (m : Option Bool) {x : Addr} {us : List V} {ds : List PyData} {ts : List T} (hu : X.A.units + 64 < cLine) (I : Inv X pins σ H s) (dp : DpAll X.K H us ds) (rr : Reps (kx X) H ρ ts us) (ok : sortOk ds = true)
    (col : ∀ {R : List Value → Shared → Prop}, (∀ (h' : Heap) (tk : Nat) (acc : List Value), (∀ b u, s.heap.get? b = some u → h'.get? b = some u) → Vals us acc → R acc { s with heap := h', toks := tk }) → wpAny (model X.prog X.w) X.A.in1 (collect (.ref x)) R X.xe s)
    {Q : VK} (q : ∀ us' p, H p = none → Reps (kx X) H ρ (srt (revOf m) ds ts) us' → Q (.ref p) (upd H p (.lst us'))) :
    wpAny (model X.prog X.w) X.A (call (.builtin "sorted") [.ref x] (kwOf m)) (EP X pins σ Q) X.xe s := by
  have a1 : argsOk "sorted" ⟨[.ref x], kwOf m⟩ := by
    cases m with
    | none => exact args_sorted1 _
    | some b => exact args_sorted_rev _ _
  have a2 : ∀ y, argsOk "list.sort" ⟨[.ref y], kwOf m⟩ := by
    cases m with
    | none => exact fun _ => args_list_sort _
    | some b => exact fun _ => args_list_sort_rev _ _
  refine call_function_entry_kw kind_sorted plain_sorted entry_sorted a1 ?_
  unfold Builtin.«sorted»
  refine wpAny_bind (m := checkCount "sorted" 1 1 _) (wpAny_pure ?_)
  refine wpAny_bind (col fun h' tk acc keep rv => ?_)
  have I1 : Inv X pins σ H { s with heap := h', toks := tk } := I.kept keep
  have hoL : (h'.push (seqObj "list" acc.toArray 0)).get? h'.objs.size = some (seqObj "list" acc.toArray 0) := Heap.get?_push_size _ rfl
  obtain ⟨hz, κ, S, fin⟩ := sort_body (revOf m) hu I1 rv dp rr ok q (h2 := h'.push (seqObj "list" acc.toArray 0)) (a := h'.objs.size) (fun b u e => Heap.get?_push_of_some _ e) (Nat.le_refl _) hoL
  refine wpAny_bind (wpAny_newList ?_ hz)
  show wpAny _ _ _ _ _ { s with heap := h'.push (seqObj "list" acc.toArray 0), toks := tk }
  refine wpAny_bind (wpAny_holding (wpAny_call_entry_kw slot_list_sort ⟨_, hoL, rfl⟩ entry_list_sort ?_ (a2 _)))
  cases m with
  | none => exact list_sort_vals (s := { s with heap := h'.push (seqObj "list" acc.toArray 0), toks := tk }) hoL S hz ⟨_, rfl, wpAny_pure ⟨_, rfl, fin⟩⟩
  | some b => exact list_sort_rev_vals (s := { s with heap := h'.push (seqObj "list" acc.toArray 0), toks := tk }) hoL S hz ⟨_, rfl, wpAny_pure ⟨_, rfl, fin⟩⟩
end
theorem vals_of_each : ∀ {xs : List V} {us : List Value}, xs.length = us.length → (∀ (j : Nat) (u : Value), us[j]? = some u → ∃ x, xs[j]? = some x ∧ RelV x u) → Vals xs us
  | [], [], _, _ => .nil
  | x :: xs, u :: us, hl, h => by
    obtain ⟨y, e1, e2⟩ := h 0 u rfl
    have e1' : x = y := Option.some.inj e1
    subst e1'
    exact .cons e2 (vals_of_each (by simpa using hl) fun j v e => by
      obtain ⟨y, a, b⟩ := h (j + 1) v (by simpa using e)
      exact ⟨y, by simpa using a, b⟩)
  | [], _ :: _, hl, _ => by simp at hl
  | _ :: _, [], hl, _ => by simp at hl
section
variable {X : Cx} {pins : List (Addr × Obj)} {σ : St} {H : Hp} {s : Shared} {ρ : List Addr}
/-- what stands to be sorted -/
def sortSrc (t : T) (st : Store) : Option (List T) := match t with
  | .ref l => match st[l]? with
    | some (.lst ts) => some ts
    | some (.dN kvs) => some (kvs.map (·.1))
    | some (.dK kvs) => some (kvs.map fun p => unKy p.1)
    | _ => none
  | _ => none
def sortedG (rev : Bool) (t : T) (st : Store) : Option (T × Store) := (sortSrc t st).bind fun ts => (optAll (toD st dpth) ts).bind fun ds => if sortOk ds then some (.ref st.length, st ++ [.lst (srt rev ds ts)]) else none
theorem sortedG_ok (m : Option Bool) (hc : X.calm = true) (hu : X.A.units + 64 < cLine) (I : Inv X pins σ H s) {st : Store} (w : Wd (kx X) ρ st H) {t t' : T} {st' : Store} {v : V} {u : Value} (r : Rep (kx X) H ρ t v) (rv : RelV v u) (e : sortedG (revOf m) t st = some (t', st'))
    {Q : VK} (q : QE (kx X) H ρ t' st' Q) : wpAny (model X.prog X.w) X.A (call (.builtin "sorted") [u] (kwOf m)) (EP X pins σ Q) X.xe s := by
  unfold sortedG at e
  cases h1 : sortSrc t st with
  | none => rw [h1] at e; cases e
  | some ts =>
    simp only [h1, Option.bind_some] at e
    cases h2 : optAll (toD st dpth) ts with
    | none => rw [h2] at e; cases e
    | some ds =>
      simp only [h2, Option.bind_some] at e
      split at e
      · rename_i hok
        cases e
        have dps : ∀ {us : List V}, Reps (kx X) H ρ ts us → DpAll X.K H us ds := fun r => toDs_dp (fun t d v => toD_dp w dpth t d v) ts ds _ h2 r
        have qq : ∀ us' p, H p = none → Reps (kx X) H ρ (srt (revOf m) ds ts) us' → Q (.ref p) (upd H p (.lst us')) := fun us' p hp rr => new_lst w rr q hp
        unfold sortSrc at h1
        split at h1
        · rename_i l
          split at h1
          · rename_i ts' hl
            cases h1
            obtain ⟨a, us, rfl, _, h3, r3⟩ := rep_lst w r hl
            cases rv
            obtain ⟨its, rv2, pl, hz⟩ := I.list (SqL.of h3)
            refine sorted_code m hu I (dps r3) r3 hok (fun {R} hR => collect_list pl.isList (hR _ s.toks _ (fun b u e => ?_) rv2) (by rw [← rv2.length]; exact hz)) qq
            have hb := Heap.lt_size e
            rw [Heap.get?_update_ne _ _ _ _ (Nat.ne_of_lt hb)]
            exact Heap.get?_push_of_some _ e
          · rename_i kvs hl
            cases h1
            obtain ⟨a, xs, rfl, _, dn⟩ := dN_at w r hl
            cases rv
            obtain ⟨⟨z, hs, ys, p, ob, es, ep, g1, g2, g3, g4, g5⟩, _⟩ := I.hok a _ dn.h
            have hlen : ys.length = xs.length := by
              have := congrArg List.length (erel_keys p)
              simpa using this
            have hes : es.size = ys.length := size_of_entries g4
            have rr := repd_firsts dn.r
            refine sorted_code m hu I (dps rr) rr hok (fun {R} hR => PySem.W.kdu_collect (A := X.A.in1) (kdl_raw hs g2 g3) (I.ok.hd hc) g1 (by omega) fun h' tk acc keep it => hR h' tk _ keep ?_) qq
            have ea : acc.toList = ys.map fun y => Value.ref y.2.1 := by
              have hla : acc.toList.length = ys.length := by rw [Array.length_toList, it.1]; exact hes
              refine List.ext_getElem? fun j => ?_
              rw [List.getElem?_map]
              cases hj : acc.toList[j]? with
              | none =>
                have hge : ys.length ≤ j := by have := List.getElem?_eq_none_iff.mp hj; omega
                rw [List.getElem?_eq_none hge]; rfl
              | some v =>
                obtain ⟨en, hen, hv⟩ := it.2 j v (by rw [← Array.getElem?_toList]; exact hj)
                have qe := entry_at g4 j
                rw [hen] at qe
                cases hb : ys[j]? with
                | none => rw [hb] at qe; cases qe
                | some y =>
                  rw [hb] at qe
                  have e2 : en = entryOfKey (nestedKind X.prog X.w) y := Option.some.inj qe
                  rw [hv, e2]; rfl
            rw [ea]
            exact erel_refs p
          · rename_i kvs hl
            cases h1
            obtain ⟨a, kws, rfl, _, h3, r3⟩ := dK_at w r hl
            cases rv
            obtain ⟨z, lo, vs, rel, dd⟩ := dk_rd I.hok (.inl h3)
            obtain ⟨ep, hat⟩ := dd.dictAt
            have hl2 : kws.length = vs.length := by
              have := congrArg List.length rel.keys
              simpa using this
            have rr : Reps (kx X) H ρ (kvs.map fun p => unKy p.1) (kws.map fun p => kV p.1) := un_reps r3.k
            refine sorted_code m hu I (dps rr) rr hok (fun {R} hR => PySem.W.kdu_collect (A := X.A.in1) (PySem.W.kdl_dict (knd := mixKind X.prog X.w) (kvs := vs) (ep := ep) lo) (I.ok.hd hc) hat (by omega) fun h' tk acc keep it => hR h' tk _ keep ?_) qq
            have hla : acc.toList.length = (kws.map fun p => kV p.1).length := by rw [Array.length_toList, it.1, List.length_map, hl2]
            refine vals_of_each hla.symm fun j v hv => ?_
            obtain ⟨k, x, e1, e2⟩ := it.2 j v (by rw [← Array.getElem?_toList]; exact hv)
            have e3 : (vs.map (·.1))[j]? = some k := by rw [List.getElem?_map, e1]; rfl
            rw [← rel.keys, List.getElem?_map] at e3
            cases e4 : kws[j]? with
            | none => rw [e4] at e3; cases e3
            | some y =>
              rw [e4] at e3
              have e5 : y.1 = k := Option.some.inj e3
              refine ⟨kV k, by rw [List.getElem?_map, e4]; show some (kV y.1) = _; rw [e5], ?_⟩
              rcases keyIs_shape (show keyIs k v = true from e2) with ⟨i, t, ek, ev⟩ | ⟨z, t, ek, ev⟩
              · rw [ek, ev]; exact ⟨_, rfl⟩
              · rw [ek, ev]; exact ⟨_, rfl⟩
          · cases h1
        · cases h1
      · cases e
end
def isIntL (t : T) (st : Store) : Bool := match t with
  | .ref l => match st[l]? with
    | some (.lst ts) => (intsOf ts).isSome
    | some (.dK _) => true
    | _ => false
  | _ => false
/-- sorted(x): ints as they were, other data too -/
def sortedDT : FA := fun ts st => match ts with
  | [t] => if isIntL t st then sortedT [t] st else sortedG false t st
  | _ => none
def xSortRev (b : Bool) (f : XE) : XE := fun e st => (f e st).bind fun p => sortedG b p.1 p.2
section
variable {X : Cx}
theorem ct_sortedD (hc : X.calm = true) (hu : X.A.units + 64 < cLine) : CallT X (.builtin "sorted") sortedDT := by
  intro ρ st H ts t st' vs w rs e Q q
  unfold sortedDT at e
  split at e
  · rename_i t0
    split at e
    · exact ct_sorted hc ρ st H _ t st' vs w rs e Q q
    · cases rs with
      | cons r1 r2 =>
        cases r2
        refine ⟨fun us H Q => ∃ (u : V) (ρ : List Addr) (st : Store) (w : Wd (kx X) ρ st H) (r : Rep (kx X) H ρ t0 u), us = [u] ∧ ∃ t st', sortedG false t0 st = some (t, st') ∧ QE (kx X) H ρ t st' Q, ?_, ⟨_, ρ, st, w, r1, rfl, t, st', e, q⟩⟩
        intro pins s σ H us vs Q I rv h
        obtain ⟨u, ρ, st, w, r, rfl, t, st', e, q⟩ := h
        obtain ⟨v, rfl, rx⟩ := vals1 rv
        exact sortedG_ok none hc hu I w r rx e q
  · cases e
theorem et_sortRev {b : Bool} {a : Expr} {fa : XE} {p pos kpos : Pos} (hc : X.calm = true) (hu : X.A.units + 64 < cLine) (ha : ET X a fa) (hb : ET X cb (xC (.bl b))) (hm : X.mg "sorted" = none) (hg : Gl X "sorted" := by rfl)
    (hs2 : starEach [a] X.env = (false, eval a X.env) :: starEach [] X.env := by rfl)
    (he : backTo pos (starEach [a] X.env) = (false, eval a X.env) :: backTo pos (starEach [] X.env) := by rfl) (hpl : (backTo pos (starEach [a] X.env)).any (·.1) = false := by rfl)
    (hall : (backToKw pos (keywordEach [⟨some (Str.ofString "reverse"), cb, kpos⟩] X.env)).all (·.1.isSome) = true := by rfl) (hnone : (backToKw pos (keywordEach [⟨some (Str.ofString "reverse"), cb, kpos⟩] X.env)).any (·.1.isNone) = false := by rfl) (hks : (backToKw pos (keywordEach [⟨some (Str.ofString "reverse"), cb, kpos⟩] X.env)).filterMap (·.1) = [Str.ofString "reverse"] := by rfl) :
    ET X (.Call (.Name "sorted" p) [a] [⟨some (Str.ofString "reverse"), cb, kpos⟩] pos) (xSortRev b fa) := by
  intro env st ρ σ H t st' s w e Q q
  unfold xSortRev at e
  cases h1 : fa env st with
  | none => simp [h1] at e
  | some pr =>
    obtain ⟨t1, s1⟩ := pr
    simp only [h1, Option.bind_some] at e
    have cr : CallRK X (.builtin "sorted") [Str.ofString "reverse"] (fun us zs H Q => ∃ (u : V) (ρ : List Addr) (st : Store) (w : Wd (kx X) ρ st H) (r : Rep (kx X) H ρ t1 u), us = [u] ∧ zs = [.bl b] ∧ ∃ t st', sortedG b t1 st = some (t, st') ∧ QE (kx X) H ρ t st' Q) := by
      intro pins s σ H us zs vs ws Q I rv rz h
      obtain ⟨u, ρ, st, w, r, rfl, rfl, t, st', e, q⟩ := h
      obtain ⟨v, rfl, rx⟩ := vals1 rv
      obtain ⟨z, rfl, rz2⟩ := vals1 rz
      have hz : z = .bool b := rz2
      subst hz
      exact sortedG_ok (some b) hc hu I w r rx e q
    refine We.of (pe_callBK cr hg hm (by decide +kernel) (pa_cons We.pe pa_nil hs2) (pk_cons We.pe pk_nil) (by decide +kernel) (by decide +kernel) he hpl hall hnone hks) ?_
    refine ha env st ρ σ H _ _ s w h1 _ fun v1 H1 ρ1 f1 w1 r1 => ?_
    refine hb env _ ρ1 σ H1 (.bl b) s1 (s.up f1) w1 rfl _ fun v2 H2 ρ2 f2 w2 r2 => ?_
    cases r2
    exact ⟨v1, ρ2, s1, w2, r1.up f2, rfl, rfl, t, st', e, fun v H3 ρ3 f3 w3 r3 => q v H3 ρ3 ((f1.trans f2).trans f3) w3 r3⟩
end
end TL
/-! TL33 -/
set_option Elab.async false
set_option linter.all false
set_option maxRecDepth 100000
set_option maxHeartbeats 4000000
/-! comprehensions that make a dict of any kind; dicts with tuples as keys among them -/
namespace TL
variable [Tb]
open PySem PySem.Spec PyProof.Rows L2
abbrev StoreS := Addr → Hp → V → V → (Hp → Prop) → Prop
/-- what a comprehension asks, the new dict being O at its place, S what a store does -/
def tDX (O : Addr → HO) (S : StoreS) (wi : TI) (g : TG) (tt : TT) (tk tv : TE) (vs : List Nat) : TE := fun σ H Q => wi σ H fun J Ha => ∀ D, Ha D = none →
  ∃ Lp : Nat → Nat → Hp → Prop, (∃ m, Lp 0 m (upd Ha D (O D))) ∧ ∀ i m Hi, Lp i m Hi → (J.stop i Hi ∧ Q (.ref D) Hi) ∨
    (J.go i Hi ∧ ∃ Nx : Hp → Prop, (∀ Hn, Nx Hn → ∃ m', m' < m ∧ Lp (i + 1) m' Hn) ∧
      ∀ x Hy, J.yld i Hi x Hy → g x (wipe σ vs) Hy fun τ Hg => wipe τ vs = wipe σ vs ∧ tt τ Hg fun b Ht =>
        if b = true then tk τ Ht fun y Hk => tv τ Hk fun z Hv => S D Hv y z Nx else Nx Ht)
section
variable {X : Cx}
/-- the store's rule, in each block of the comprehension -/
def SetOk (X : Cx) (S : StoreS) : Prop := ∀ (s0 : Shared) (H0 : Hp) (sc : Scope) (ce : Env) (fp : List Addr) (pins : List (Addr × Obj)) (τ : St) (H : Hp) (s : Shared) (D : Addr) (y z : V) (u r : Value) (Nx : Hp → Prop) (E : Value → Shared → Prop),
  Inv (X.blk s0 H0 sc ce fp) pins τ H s → RelV y u → RelV z r → S D H y z Nx → wpAny (model X.prog X.w) X.A (dictSet D u r) (fun _ s' => ∃ H', Inv (X.blk s0 H0 sc ce fp) pins τ H' s' ∧ Nx H') E s
/-- the new dict's rule -/
def NewOk (X : Cx) (O : Addr → HO) : Prop := ∀ (s : Shared) (Hd : Hp) (pins : List (Addr × Obj)) (σ : St) (H : Hp), Inv X pins σ H s → ObjOk X.prog X.w Hd (s.heap.push { cls := .type "dict", data := .dict #[] }) s.heap.objs.size (O s.heap.objs.size)
theorem dx_core {O : Addr → HO} {S : StoreS} (no : NewOk X O) (so : SetOk X S) {pins : List (Addr × Obj)} {s : Shared} {σ : St} {H : Hp} {Q : VK} {ke ve tg src : Expr} {cs : List Expr} {sc : Scope} {own : List (Str × Nat)} {p1 p2 : Pos} {wi : TI} {g : TG} {tt : TT} {tk tv : TE} {use : Option (Value → Sem Unit)} {Qf : Value → Shared → Prop}
    (calm : X.calm = true) (nd : X.N.Nodup) (I : Inv X pins σ H s) (walk : PI X tg src wi) (blk : BlkOk X.N X.env.scope sc own)
    (rg : ∀ s0 H0 C cl fp, PG (X.blk s0 H0 sc (compEnvC sc cl C X.env) fp) tg g) (rt : ∀ s0 H0 C cl fp, PTs (X.blk s0 H0 sc (compEnvC sc cl C X.env) fp) cs tt)
    (rk : ∀ s0 H0 C cl fp, PE (X.blk s0 H0 sc (compEnvC sc cl C X.env) fp) ke tk) (rv : ∀ s0 H0 C cl fp, PE (X.blk s0 H0 sc (compEnvC sc cl C X.env) fp) ve tv)
    (nofold : ∀ x, foldedSetIterable src X.env x = pure x) (ask : tDX O S wi g tt tk tv (own.map (·.2)) σ H Q)
    (after : ∀ D C s' m H', Inv X pins σ H' s' → Q (.ref D) H' → s'.heap.Ns C m → FpOk X pins H' C → compPost (model X.prog X.w) X.A X.xe use Qf (.ref D) C (.ok .next) s') :
    wpAny (model X.prog X.w) X.A (comprehension (.DictComp ke ve [⟨tg, src, cs, 0⟩] sc p1) sc X.env p2 newDict false (eval src X.env) use) Qf X.xe s := by
  have cellsThere : ∀ y ∈ sc.names, y.2 = .free → ∃ c, X.env.cells.lookup y.1 = some c := by
    intro y hy e
    exact (blk.free y hy e).elim (fun k => I.ok.has _ (.inl k)) (fun k => I.ok.has _ (.inr k))
  refine wpAny_comprehension_free (use := use) rfl nofold (closure_ok cellsThere) blk.kind (fun y hy e => by rw [blk.uniq y hy, e]) (thn (walk.run pins s σ H _ I ask) fun _ sa ha => thn ha fun _ sb hb => ?_)
  obtain ⟨itA, fp, tn, J, Hb, rfl, Ib, T, atb, fpb, more⟩ := hb
  refine wpAny_newObj_type (newEnv_comp ?_)
  obtain ⟨D, hD⟩ : ∃ D, D = sb.heap.objs.size := ⟨_, rfl⟩
  rw [← hD]
  obtain ⟨Lp, ⟨m0, start⟩, turn⟩ := more D (Ib.hok.fresh (Nat.le_of_eq hD.symm))
  obtain ⟨sc3, hs3⟩ : ∃ sc3 : Shared, sc3 = { sb with heap := sb.heap.push { cls := .type "dict", data := .dict #[] } } := ⟨_, rfl⟩
  have Ic : Inv X pins σ (upd Hb D (O D)) sc3 := by
    rw [hs3, hD]
    exact Ib.laid (t' := sb.toks) (fun b o e => Heap.get?_push_of_some _ e) (Nat.le_refl _) (no sb _ pins σ Hb Ib)
  have heapc : sc3.heap = sb.heap.push { cls := .type "dict", data := .dict #[] } := by rw [hs3]
  have below : ∀ b ∈ fp, b < sb.heap.objs.size := by
    intro b hb
    obtain ⟨o, e, _⟩ := T.obj _ _ atb b hb
    exact Heap.lt_size e
  have fpc : ∀ b ∈ fp, FpOk X pins (upd Hb D (O D)) b ∧ b < sc3.heap.objs.size := by
    intro b hb
    have l := below b hb
    have ne : b ≠ D := by rw [hD]; exact Nat.ne_of_lt l
    exact ⟨⟨by rw [upd_ne ne]; exact (fpb b hb).1, (fpb b hb).2⟩, by rw [heapc, Heap.size_push]; exact Nat.lt_succ_of_lt l⟩
  have atc : tn 0 sc3.heap := T.keep _ _ _ atb fun b _ o e => by rw [heapc]; exact Heap.get?_push_of_some _ e
  have Id := block_start Ic blk nd fpc
  obtain ⟨cl, hcl⟩ : ∃ cl, cl = cellsFrom (sc3.heap.objs.size + 1) sc.names (cloFrom X.env.cells sc.names []) := ⟨_, rfl⟩
  rw [← hcl] at Id
  obtain ⟨Hc, hHc⟩ : ∃ Hc, Hc = upd Hb D (O D) := ⟨_, rfl⟩
  rw [← hHc] at Ic Id fpc start
  rw [← hs3]
  show codeAny _ _ (.compStart (.DictComp ke ve [⟨tg, src, cs, 0⟩] sc p1) 0 (.ref itA) (.ref D) (compEnvC sc (cellsFrom (sc3.heap.objs.size + 1) sc.names (cloFrom X.env.cells sc.names [])) sc3.heap.objs.size X.env)) (compPost (model X.prog X.w) X.A X.xe use Qf (.ref D) sc3.heap.objs.size) { sc3 with heap := pushCells (sc3.heap.push { cls := .type "dict", data := .dict #[] }) sc.names }
  rw [← hcl]
  have pg := rg sc3 Hc sc3.heap.objs.size cl fp
  have pt := rt sc3 Hc sc3.heap.objs.size cl fp
  have pk := rk sc3 Hc sc3.heap.objs.size cl fp
  have pv := rv sc3 Hc sc3.heap.objs.size cl fp
  have so' := so sc3 Hc sc (compEnvC sc cl sc3.heap.objs.size X.env) fp
  generalize hce : compEnvC sc cl sc3.heap.objs.size X.env = ce at Id pg pt pk pv so' ⊢
  have loc : ce.locals = sc3.heap.objs.size := by rw [← hce]; rfl
  generalize hs4 : ({ sc3 with heap := pushCells (sc3.heap.push { cls := .type "dict", data := .dict #[] }) sc.names } : Shared) = sd at Id ⊢
  have atd : tn 0 sd.heap := T.keep _ _ _ atc fun b _ o e => by rw [← hs4]; exact pushCells_keeps _ _ _ _ (Heap.get?_push_of_some _ e)
  have fpIn : ∀ {τ : St} {H' : Hp} {s' : Shared}, Inv (X.blk sc3 Hc sc ce fp) [] τ H' s' → (∀ b ∈ fp, H' b = none) → ∀ b ∈ fp, FpOk (X.blk sc3 Hc sc ce fp) [] H' b := by
    intro τ H' s' I' hn b hb
    exact ⟨hn b hb, (I'.ok.exf b hb).1, I'.ok.exfs b hb, .inl hb, fun x c e => (I'.ok.exf b hb).2 x c e, fun p hp => absurd (show p ∈ ([] : List (Addr × Obj)) ++ [] from hp) (by simp)⟩
  have loop : codeAny (model X.prog X.w) X.A (.compLoop (.DictComp ke ve [⟨tg, src, cs, 0⟩] sc p1) 0 (.ref itA) (.ref D) ce) (compPost (model X.prog X.w) X.A X.xe use Qf (.ref D) sc3.heap.objs.size) sd := by
    refine compLoop_anyD (fun n s' => ∃ i H', Inv (X.blk sc3 Hc sc ce fp) [] (wipe σ (own.map (·.2))) H' s' ∧ tn i s'.heap ∧ (∀ b ∈ fp, H' b = none) ∧ Lp i n H') ?_ m0 ⟨0, Hc, Id, atd, fun b hb => (fpc b hb).1.1, start⟩
    rintro n se ⟨i, He, Ie, ate, nonee, lp⟩
    rcases turn i n He lp with ⟨stop, fin⟩ | ⟨go, Nx, next, step⟩
    · refine thnF (T.done (X.blk sc3 Hc sc ce fp) rfl rfl rfl calm i [] se _ He (fun _ _ => False) Ie (fpIn Ie nonee) ate stop) fun r sf hf => ?_
      obtain ⟨rfl, If⟩ := hf
      have Ig : Inv X pins σ He sf := Ic.call' (ch := fp) If.os If.base If.hok If.bare fun b hb => ⟨(fpc b hb).1.2.2.2.1, (fpc b hb).1.2.1, (fpc b hb).1.2.2.2.2.1, (fpc b hb).1.2.2.2.2.2⟩
      have gone : He ce.locals = none := If.free
      obtain ⟨m, nsm, _⟩ := If.loc
      have nsm' : sf.heap.Ns ce.locals m := nsm
      rw [loc] at gone nsm'
      exact after D sc3.heap.objs.size sf m He Ig fin nsm' (Ic.fpOk (Nat.le_refl _) gone)
    · refine thnF (T.item (X.blk sc3 Hc sc ce fp) rfl rfl rfl calm i [] se _ He (fun _ _ => False) Ie (fpIn Ie nonee) ate go) fun r sf hf => ?_
      obtain ⟨u, rfl, hf⟩ := hf
      refine thnF hf fun _ sg ⟨x, Hg, Ig, relx, yx, atg, noneg⟩ => ?_
      have Ih := Ig.pinned (fpIn Ig noneg) (T.obj _ _ atg)
      refine thnF (pg.run _ sg _ Hg x u _ Ih relx (step x Hg yx)) fun _ sh ⟨τ, Hh, Ihh, wp, q8⟩ => ?_
      refine thnF (pt.run _ sh τ Hh _ Ihh q8) fun b si ⟨Hi, Ii, q9⟩ => ?_
      have close : ∀ {s' : Shared} {H' : Hp}, Inv (X.blk sc3 Hc sc ce fp) ([] ++ pinsAt fp sg.heap) τ H' s' → Nx H' → ∃ m, m < n ∧ ∃ i H', Inv (X.blk sc3 Hc sc ce fp) [] (wipe σ (own.map (·.2))) H' s' ∧ tn i s'.heap ∧ (∀ b ∈ fp, H' b = none) ∧ Lp i m H' := by
        intro s' H' I' nx
        obtain ⟨m', lt, lp'⟩ := next H' nx
        have held : ∀ b ∈ fp, ∀ o, sg.heap.get? b = some o → s'.heap.get? b = some o ∧ H' b = none := by
          intro b hb o e
          have z := I'.pin (b, o) (List.mem_append_right _ (List.mem_append_right _ (mem_pinsAt hb e)))
          exact ⟨z.1, z.2.1⟩
        have len : (wipe σ (own.map (·.2))).length = τ.length := by rw [← wp, wipe_length]
        refine ⟨m', lt, i + 1, H', (I'.unpinned (pins := [])).weak len (fun j v e => ?_), T.keep _ _ _ atg fun b hb o e => (held b hb o e).1, fun b hb => ?_, lp'⟩
        · rw [← wp] at e
          exact (wipe_some e).1
        · obtain ⟨o, e, _⟩ := T.obj _ _ atg b hb
          exact (held b hb o e).2
      cases b with
      | false =>
        rw [if_neg Bool.false_ne_true] at q9 ⊢
        exact close Ii q9
      | true =>
        rw [if_pos rfl] at q9 ⊢
        refine thnF (pk.run _ si τ Hi _ Ii q9) fun _ sj ⟨y, Hj, Ij, rely, q10⟩ => ?_
        refine thnF (pv.run _ sj τ Hj _ Ij q10) fun _ sk ⟨z, Hk, Ik, relz, q11⟩ => ?_
        exact thn (so' _ τ Hk sk D y z _ _ Nx _ Ik rely relz q11) fun _ sl ⟨Hl, Il, nx⟩ => close Il nx
  exact codeAny_compStart_dict loop (T.self X.A 0 _ _ _ atd loop)
end
section
variable {X : Cx}
def newN (X : Cx) : Addr → HO := fun D => dnO (kx X) D []
def putN (X : Cx) : StoreS := fun D H y z Nx => ∃ b ρ kvs xs t k, y = .ref b ∧ DnAt X H ρ D kvs xs ∧ toNK nkd t = some k ∧ Rep (kx X) H ρ t (.ref b) ∧ xs.length < sizeLine ∧ Nx (upd H D (dnO (kx X) D (storeX xs k b z)))
theorem newN_ok : NewOk X (newN X) := by
  intro s Hd pins σ H I
  refine dn_obj (ys := []) (Nat.zero_le _) ?_ .nil (Heap.DictOfH.new _)
  exact (dk_empty (P := X.prog) (w := X.w) (H := H) s.heap I.big).2.1
theorem putN_ok (hu : X.A.units + 64 < cLine) : SetOk X (putN X) := by
  intro s0 H0 sc ce fp pins τ H s D y z u r Nx E I ry rz h
  obtain ⟨b, ρ, kvs, xs, t, k, rfl, d, hk, rb, hz, nx⟩ := h
  cases ry
  obtain ⟨zz, hsm, ys, p, dh⟩ := dn_heap I d.h d.r
  have hl : ys.length = xs.length := by
    have := congrArg List.length (erel_keys p)
    simpa using this
  refine wpAny_dictSet_heap (hsz := by rw [hl]; omega) (show X.A.units + 8 < cLine by omega) (nk_key I hk rb) dh fun h' dh' sb => ?_
  refine ⟨_, I.write (x := D) (e := D) (o := dnO (kx X) D (storeX xs k b z)) (t' := s.toks + _) (by rw [d.h]; trivial) (.inl rfl) (fun b' ob hb e => (sb.2 b' hb).trans e) ?_ ?_, nx⟩
  · obtain ⟨o', _, _, g, _⟩ := dh'
    exact ⟨o', g⟩
  · exact dn_obj (Nat.le_trans (storeX_len xs k b z) hz) hsm (erel_store p rz) dh'
def dcLN (it : Its1) (g : XG) (tt : XT) (tk tv : XE) (l : Nat) : Nat → Nat → Env1 → Store → Option Store
  | 0, _, _, _ => none
  | n + 1, i, e, st => (it st).bind fun ts => match ts[i]? with
    | none => if i = ts.length then some st else none
    | some x => (g x e st).bind fun p => (tt p.1 p.2).bind fun b => if b.1 then (tk p.1 b.2).bind fun k => (tv p.1 k.2).bind fun y => match y.2[l]?, toNK nkd k.1 with
        | some (.dN kvs), some ky => if kvs.length < sizeLine ∧ isTup k.1 = true then dcLN it g tt tk tv l n (i + 1) e (y.2.set l (.dN (storeD kvs k.1 ky y.1))) else none
        | _, _ => none
      else dcLN it g tt tk tv l n (i + 1) e b.2
def xDcN (fi : XI) (g : XG) (vs : List Nat) (tt : XT) (tk tv : XE) : XE := fun e st => (fi e st).bind fun p => (p.1 (p.2 ++ [.dN []])).bind fun ts =>
  (dcLN p.1 g tt tk tv p.2.length (ts.length + 1) 0 (wipeE e vs) (p.2 ++ [.dN []])).map fun s => (.ref p.2.length, s)
theorem dcN_ok {ke ve tg src : Expr} {cs : List Expr} {sc : Scope} {fi : XI} {g : XG} {tt : XT} {tk tv : XE} {vs : List Nat} (hi : IT X tg src fi) (hg : ∀ s H C cl fp, GT (blkX X sc s H C cl fp) tg vs g) (ht : ∀ s H C cl fp, PTT (blkX X sc s H C cl fp) cs tt)
    (hk : ∀ s H C cl fp, ET (blkX X sc s H C cl fp) ke tk) (hv : ∀ s H C cl fp, ET (blkX X sc s H C cl fp) ve tv)
    {env : Env1} {st : Store} {ρ : List Addr} {σ : St} {H : Hp} {t : T} {st' : Store} (s : Slots (TL.kx X) H ρ env σ) (w : Wd (TL.kx X) ρ st H) (e : xDcN fi g vs tt tk tv env st = some (t, st')) {Q : VK} (q : QE (TL.kx X) H ρ t st' Q) :
    tDX (newN X) (putN X) (Wi X tg src) (gU X sc tg) (tU X sc cs) (eU X sc ke) (eU X sc ve) vs σ H Q := by
  unfold xDcN at e
  cases h : fi env st with
  | none => simp [h] at e
  | some p =>
    obtain ⟨it, s1⟩ := p
    simp only [h, Option.bind_some] at e
    cases h1 : it (s1 ++ [.dN []]) with
    | none => simp [h1] at e
    | some ts0 =>
      simp only [h1, Option.bind_some] at e
      cases h2 : dcLN it g tt tk tv s1.length (ts0.length + 1) 0 (wipeE env vs) (s1 ++ [.dN []]) with
      | none => simp [h2] at e
      | some sE =>
        simp only [h2, Option.map_some] at e
        cases e
        refine hi env st ρ σ H it s1 s w h _ fun J H1 ρ1 f1 w1 ok => ?_
        intro D hD
        obtain ⟨w2, f2⟩ := w1.push (o := .dN []) (u := newN X D) hD ⟨[], upd_same, .nil⟩
        have hDl : (ρ1 ++ [D])[s1.length]? = some D := by rw [← w1.len, List.getElem?_append_right (Nat.le_refl _)]; simp
        refine ⟨fun i m H3 => ∃ st3 ρ3, Fut (upd H1 D (newN X D)) H3 (ρ1 ++ [D]) ρ3 ∧ Wd (TL.kx X) ρ3 st3 H3 ∧ dcLN it g tt tk tv s1.length m i (wipeE env vs) st3 = some st' ∧ QE (TL.kx X) H3 ρ3 (.ref s1.length) st' Q,
          ⟨ts0.length + 1, s1 ++ [.dN []], ρ1 ++ [D], Fut.refl _ _, w2, h2, q.up (f1.trans f2)⟩, ?_⟩
        rintro i m H3 ⟨st3, ρ3, f3, w3, e3, q3⟩
        cases m with
        | zero => cases e3
        | succ m =>
          unfold dcLN at e3
          cases h4 : it st3 with
          | none => simp [h4] at e3
          | some ts =>
            simp only [h4, Option.bind_some] at e3
            obtain ⟨k1, k2, k3⟩ := ok H3 ρ3 st3 ts (f2.trans f3) w3 h4 i
            cases h5 : ts[i]? with
            | none =>
              simp only [h5] at e3
              split at e3
              · rename_i hl
                cases e3
                exact .inl ⟨k2 hl, q3 _ H3 ρ3 (Fut.refl _ _) w3 (.ref (f3.get hDl))⟩
              · cases e3
            | some x =>
              simp only [h5] at e3
              have hlt := (List.getElem?_eq_some_iff.mp h5).1
              refine .inr ⟨k1 hlt, fun H4 => ∃ st3 ρ3, Fut (upd H1 D (newN X D)) H4 (ρ1 ++ [D]) ρ3 ∧ Wd (TL.kx X) ρ3 st3 H4 ∧ dcLN it g tt tk tv s1.length m (i + 1) (wipeE env vs) st3 = some st' ∧ QE (TL.kx X) H4 ρ3 (.ref s1.length) st' Q, fun H4 z => ⟨m, Nat.lt_succ_self _, z⟩, fun y H4 hy => ?_⟩
              obtain ⟨gr, ry⟩ := k3 y H4 hy
              have f4 : Fut H3 H4 ρ3 ρ3 := fut_grow gr
              have sl : Slots (TL.kx X) H4 ρ3 (wipeE env vs) (wipe σ vs) := slots_wipe (s.up (((f1.trans f2).trans f3).trans f4)) vs
              cases h6 : g x (wipeE env vs) st3 with
              | none => simp [h6] at e3
              | some p =>
                obtain ⟨e6, s6⟩ := p
                simp only [h6, Option.bind_some] at e3
                intro sB HB CB clB fpB
                refine hg sB HB CB clB fpB (wipeE env vs) st3 ρ3 (wipe σ vs) H4 x y e6 s6 sl (w3.grow gr) (ry x h5) h6 _ fun σ6 H6 ρ6 f6 w6 sl6 a6 => ⟨wipe_away a6, ?_⟩
                cases h7 : tt e6 s6 with
                | none => simp [h7] at e3
                | some p =>
                  obtain ⟨b, s7⟩ := p
                  simp only [h7, Option.bind_some] at e3
                  intro sB HB CB clB fpB
                  refine ht sB HB CB clB fpB e6 s6 ρ6 σ6 H6 b s7 sl6 w6 h7 _ fun H7 ρ7 f7 w7 => ?_
                  have f37 := (f4.trans f6).trans f7
                  cases b with
                  | false =>
                    rw [if_neg Bool.false_ne_true]
                    rw [if_neg Bool.false_ne_true] at e3
                    exact ⟨s7, ρ7, f3.trans f37, w7, e3, q3.up f37⟩
                  | true =>
                    rw [if_pos rfl]
                    rw [if_pos rfl] at e3
                    cases h8 : tk e6 s7 with
                    | none => simp [h8] at e3
                    | some p =>
                      obtain ⟨zk, s8⟩ := p
                      simp only [h8, Option.bind_some] at e3
                      cases h9 : tv e6 s8 with
                      | none => simp [h9] at e3
                      | some p =>
                        obtain ⟨z, s9⟩ := p
                        simp only [h9, Option.bind_some] at e3
                        intro sB HB CB clB fpB
                        refine hk sB HB CB clB fpB e6 s7 ρ7 σ6 H7 zk s8 (sl6.up f7) w7 h8 _ fun vk H8 ρ8 f8 w8 r8 => ?_
                        intro sB HB CB clB fpB
                        refine hv sB HB CB clB fpB e6 s8 ρ8 σ6 H8 z s9 (sl6.up (f7.trans f8)) w8 h9 _ fun vz H9 ρ9 f9 w9 r9 => ?_
                        split at e3
                        · rename_i kvs ky hacc hky
                          split at e3
                          · rename_i hz
                            have f39 := (f37.trans f8).trans f9
                            have hD9 := (f3.trans f39).get hDl
                            obtain ⟨xs, hu, rd⟩ := w9.addr hacc hD9
                            have r9k := r8.up f9
                            obtain ⟨b, rfl⟩ := tup_ref hz.2 r9k
                            obtain ⟨u0, h0, i0⟩ := w9.there hacc hD9
                            have fA : Fut H9 (upd H9 D (dnO (kx X) D (storeX xs ky b vz))) ρ9 ρ9 := ⟨Ext.mut h0 i0, [], by simp⟩
                            obtain ⟨wA, _⟩ := w9.put (o := .dN (storeD kvs zk ky z)) h0 i0 hD9 ⟨_, upd_same, (repd_store rd hky r9k r9).up fA⟩
                            exact ⟨b, ρ9, kvs, xs, zk, ky, rfl, ⟨hu, rd⟩, hky, r9k, by rw [← repd_len rd]; exact hz.1, _, ρ9, (f3.trans f39).trans fA, wA, e3, q3.up (f39.trans fA)⟩
                          · cases e3
                        · cases e3
theorem et_dcN {ke ve tg src : Expr} {cs : List Expr} {sc : Scope} {own : List (Str × Nat)} {pos : Pos} {fi : XI} {g : XG} {tt : XT} {tk tv : XE} (calm : X.calm = true) (nd : X.N.Nodup) (hu : X.A.units + 64 < cLine) (ok : BlkOk X.N X.env.scope sc own) (hi : IT X tg src fi) (hg : ∀ s H C cl fp, GT (blkX X sc s H C cl fp) tg (own.map (·.2)) g)
    (ht : ∀ s H C cl fp, PTT (blkX X sc s H C cl fp) cs tt) (hk : ∀ s H C cl fp, ET (blkX X sc s H C cl fp) ke tk) (hv : ∀ s H C cl fp, ET (blkX X sc s H C cl fp) ve tv) (hs : ∀ x, foldedSetIterable src X.env x = pure x := by intro _; rfl) :
    ET X (.DictComp ke ve [⟨tg, src, cs, 0⟩] sc pos) (xDcN fi g (own.map (·.2)) tt tk tv) := by
  intro env st ρ σ H t st' s w e Q q pins sh I
  rw [arm_eval_DictComp]
  refine dx_core newN_ok (putN_ok hu) calm nd I Wi.pi ok (fun _ _ _ _ _ => gU.pg) (fun _ _ _ _ _ => tU.pt) (fun _ _ _ _ _ => eU.pe) (fun _ _ _ _ _ => eU.pe) hs (dcN_ok hi hg ht hk hv s w e q) fun D C s' m H' I' q hn f => ⟨m, hn, fun h'' sb => ?_⟩
  obtain ⟨f0, f1, f2, f3, f4, f5⟩ := f
  exact ⟨.ref D, H', I'.turned (t' := s'.toks) (fun b o hb e => (sb.2 b hb).trans e) f0 f1 f3 f4 f5, rfl, q⟩
theorem st_setDcN {ke ve tg src : Expr} {cs : List Expr} {sc : Scope} {own : List (Str × Nat)} {pos : Pos} {fi : XI} {g : XG} {tt : XT} {tk tv : XE} {i : Nat} {y : Str} {py spos : Pos} (calm : X.calm = true) (nd : X.N.Nodup) (hu : X.A.units + 64 < cLine) (ok : BlkOk X.N X.env.scope sc own) (hi : IT X tg src fi) (hg : ∀ s H C cl fp, GT (blkX X sc s H C cl fp) tg (own.map (·.2)) g)
    (ht : ∀ s H C cl fp, PTT (blkX X sc s H C cl fp) cs tt) (hk : ∀ s H C cl fp, ET (blkX X sc s H C cl fp) ke tk) (hv : ∀ s H C cl fp, ET (blkX X sc s H C cl fp) ve tv) (hy : X.N[i]? = some y := by rfl) (hyl : X.env.scope.names.lookup y = some .local := by rfl)
    (hsw : swapsWith (.DictComp ke ve [⟨tg, src, cs, 0⟩] sc pos) (some (.Name y py)) spos.line X.env = pure true := by exact swD_true rfl rfl rfl (by decide +kernel)) (hs : ∀ x, foldedSetIterable src X.env x = pure x := by intro _; rfl) :
    ST X (.Assign [.Name y py] (.DictComp ke ve [⟨tg, src, cs, 0⟩] sc pos) spos) (xsSet i (xDcN fi g (own.map (·.2)) tt tk tv)) := by
  intro env st ρ σ H o s w e D q
  unfold xsSet at e
  cases h : xDcN fi g (own.map (·.2)) tt tk tv env st with
  | none => simp [h] at e
  | some p =>
    obtain ⟨t, s1⟩ := p
    rw [h] at e
    cases e
    have h1 := dcN_ok hi hg ht hk hv s w h (Q := fun x H1 => gName i x σ H1 D.nx) fun v H1 ρ1 f1 w1 r1 => q _ H1 ρ1 f1 w1 ((s.up f1).set i r1)
    intro pins sh I
    rw [exec_Assign_Name_used _ _ _ _ hsw]; refine wpAny_bind (wpAny_standAt (wpAny_bind ?_))
    show wpAny _ X.A (do let _ ← comprehension (.DictComp ke ve [⟨tg, src, cs, 0⟩] sc pos) sc X.env (firstIterPos [⟨tg, src, cs, 0⟩] pos) newDict false (eval src X.env) (some (assign (.Name y py) X.env))) _ _ sh
    refine wpAny_bind (thn (dx_core (Qf := fun _ s' => SP X pins D .next s') newN_ok (putN_ok hu) calm nd I Wi.pi ok (fun _ _ _ _ _ => gU.pg) (fun _ _ _ _ _ => tU.pt) (fun _ _ _ _ _ => eU.pe) (fun _ _ _ _ _ => eU.pe) hs h1 fun L C s' m H' I' q hn f => ?_) fun _ s' hq => wpAny_pure (wpAny_pure hq))
    show wpAny _ _ (assign (.Name y py) X.env (.ref L)) _ _ _
    refine wpAny_assign_Name (store_ok2 (v := V.ref L) I' nd hy (.inl hyl) rfl (fun s2 I2 ⟨a, sb, ha⟩ => ?_) (.inr hyl))
    obtain ⟨f0, f1, f2, f3, f4, f5⟩ := f
    have haC : C ≠ a := ha.elim (fun z => by rw [z]; exact f1) fun z e => f4 y a z e.symm
    exact ⟨m, hn.sameBut sb haC, fun h3 sb3 => ⟨_, H', I2.turned (t' := s2.toks) (fun b o hb e => (sb3.2 b hb).trans e) f0 f1 f3 f4 f5, q⟩⟩
end
end TL
/-! TL34 -/
set_option Elab.async false
set_option linter.all false
set_option maxRecDepth 100000
set_option maxHeartbeats 4000000
/-! dicts that a loop walks: locked for its time -/
namespace TL
variable [Tb]
open PySem PySem.Spec PyProof.Rows L2
section
variable {K : KX} {H H' : Hp} {ρ ρ' : List Addr} {st : Store}
theorem RepO.upv {a : Addr} {o : Ob} (r : RepO K H ρ a o) (f : Fuv H H' ρ ρ') (h : H' a = H a) : RepO K H' ρ' a o := by
  cases o with
  | lst ts => obtain ⟨vs, e, q⟩ := r; exact ⟨vs, h.trans e, q.upv f⟩
  | dK kvs => obtain ⟨vs, e, k, q⟩ := r; exact ⟨vs, h.trans e, k, q.upv f⟩
  | dN kvs => obtain ⟨vs, e, q⟩ := r; exact ⟨vs, h.trans e, q.upv f⟩
  | lkK kvs => obtain ⟨o, vs, e, k, q⟩ := r; exact ⟨o, vs, h.trans e, k, q.upv f⟩
  | lkN kvs => obtain ⟨o, vs, e, q⟩ := r; exact ⟨o, vs, h.trans e, q.upv f⟩
theorem fuv_upd {p : Addr} {u u0 : HO} (h0 : H p = some u0) (i0 : immv u0 = false) : Fuv H (upd H p u) ρ ρ := ⟨fun a o e i => by
  have ne : a ≠ p := fun z => by
    subst z
    rw [h0] at e
    cases e
    rw [i0] at i
    cases i
  rw [upd_ne ne]; exact e, [], by simp⟩
/-- an object of the store is told otherwise -/
theorem Wd.putv (w : Wd K ρ st H) {l : Nat} {p : Addr} {u u0 : HO} {o : Ob} (h0 : H p = some u0) (i0 : immv u0 = false) (hp : ρ[l]? = some p) (r : RepO K (upd H p u) ρ p o) : Wd K ρ (st.set l o) (upd H p u) := by
  have f : Fuv H (upd H p u) ρ ρ := fuv_upd h0 i0
  obtain ⟨n1, n2⟩ := w.apart hp
  refine ⟨fun z hz => ?_, by simp [w.len], w.nd, fun m ob a h1 h2 => ?_⟩
  · obtain ⟨ps, h1, h2, h3⟩ := w.tb z hz
    refine ⟨ps, by rw [upd_ne (fun e => n1 ps (by rw [← e]; exact h1))]; exact h1, h2, fun pos cv hc => ?_⟩
    obtain ⟨c, e1, e2⟩ := h3 pos cv hc
    exact ⟨c, e1, by rw [upd_ne (fun e => n2 c _ (by rw [← e]; exact e2))]; exact e2⟩
  · by_cases e : m = l
    · subst e
      rw [hp] at h2; cases h2
      have hl := (List.getElem?_eq_some_iff.mp hp).1
      rw [w.len] at hl
      rw [List.getElem?_set_self hl] at h1
      cases h1; exact r
    · rw [List.getElem?_set_ne (Ne.symm e)] at h1
      have ne : a ≠ p := fun z => by
        subst z
        have h1 := (List.getElem?_eq_some_iff.mp hp).1
        exact e (((List.getElem?_inj h1 w.nd).mp (hp.trans h2.symm)).symm)
      exact (w.ob m ob a h1 h2).upv f (upd_ne ne)
end
def lockO : Ob → Option Ob
  | .dK kvs => some (.lkK kvs)
  | .dN kvs => some (.lkN kvs)
  | _ => none
def freeO : Ob → Option Ob
  | .lkK kvs => some (.dK kvs)
  | .lkN kvs => some (.dN kvs)
  | _ => none
/-- f, while the dict in the variable i is locked -/
def xLock (i : Nat) (f : XE) : XE := fun e st => match e[i]? with
  | some (some (.ref l)) => (st[l]?).bind fun o => (lockO o).bind fun o1 => (f e (st.set l o1)).bind fun p => (p.2[l]?).bind fun o2 => (freeO o2).map fun o3 => (p.1, p.2.set l o3)
  | _ => none
section
variable {X : Cx}
/-- what stands at a place that is locked, or free again -/
def lkU (K : KX) (a : Addr) (u : HO) : Prop := (∃ kws, u = .dK kws) ∨ ∃ xs, u = dnO K a xs
theorem lkU_mut {K : KX} {a : Addr} {u : HO} (h : lkU K a u) : imm u = false ∧ (∀ od, immv (.frz od u) = false) ∧ Mut (some u) := by
  rcases h with ⟨_, rfl⟩ | ⟨_, rfl⟩
  · exact ⟨rfl, fun _ => rfl, trivial⟩
  · exact ⟨rfl, fun _ => rfl, trivial⟩
theorem lock_at {K : KX} {H : Hp} {ρ : List Addr} {st : Store} (w : Wd K ρ st H) {l : Nat} {a : Addr} {o o1 : Ob} (hl : st[l]? = some o) (ha : ρ[l]? = some a) (e : lockO o = some o1) :
    ∃ u, H a = some u ∧ lkU K a u ∧ ∀ od, Wd K ρ (st.set l o1) (upd H a (.frz od u)) ∧ Fut H (upd H a (.frz od u)) ρ ρ := by
  have r := w.ob l o a hl ha
  cases o with
  | dK kvs =>
    cases e
    obtain ⟨kws, h, k, q⟩ := r
    refine ⟨_, h, .inl ⟨kws, rfl⟩, fun od => ?_⟩
    have f : Fut H (upd H a (.frz od (.dK kws))) ρ ρ := ⟨Ext.mut h rfl, [], by simp⟩
    exact w.put h rfl ha ⟨od, kws, upd_same, k, q.up f⟩
  | dN kvs =>
    cases e
    obtain ⟨xs, h, q⟩ := r
    refine ⟨_, h, .inr ⟨xs, rfl⟩, fun od => ?_⟩
    have f : Fut H (upd H a (.frz od (dnO K a xs))) ρ ρ := ⟨Ext.mut h rfl, [], by simp⟩
    exact w.put h rfl ha ⟨od, xs, upd_same, q.up f⟩
  | lst ts => cases e
  | lkK ts => cases e
  | lkN ts => cases e
theorem free_at {K : KX} {H : Hp} {ρ : List Addr} {st : Store} (w : Wd K ρ st H) {l : Nat} {a : Addr} {o o1 : Ob} {od : Obj} {u : HO} (hl : st[l]? = some o) (ha : ρ[l]? = some a) (e : freeO o = some o1) (h : H a = some (.frz od u)) (hu : lkU K a u) :
    Wd K ρ (st.set l o1) (upd H a u) := by
  have r := w.ob l o a hl ha
  obtain ⟨_, iv, _⟩ := lkU_mut hu
  have f : Fuv H (upd H a u) ρ ρ := fuv_upd h (iv od)
  cases o with
  | lkK kvs =>
    cases e
    obtain ⟨o', kws, h1, k, q⟩ := r
    rw [h] at h1
    cases h1
    exact w.putv h (iv od) ha ⟨kws, upd_same, k, q.upv f⟩
  | lkN kvs =>
    cases e
    obtain ⟨o', xs, h1, q⟩ := r
    rw [h] at h1
    have eu := congrArg (fun z : Option HO => match z with | some (.frz _ u) => some u | _ => none) h1
    have eu2 : u = dnO K a xs := Option.some.inj eu
    refine w.putv h (iv od) ha ⟨xs, by rw [upd_same, eu2], q.upv f⟩
  | lst ts => cases e
  | dK ts => cases e
  | dN ts => cases e
theorem et_lock {e : Expr} {i : Nat} {f : XE} (he : ET X e f) : ET X e (xLock i f) := by
  intro env st ρ σ H t st' s w h Q q
  unfold xLock at h
  split at h
  · rename_i l hi
    cases h1 : st[l]? with
    | none => simp [h1] at h
    | some o =>
      simp only [h1, Option.bind_some] at h
      cases h2 : lockO o with
      | none => simp [h2] at h
      | some o1 =>
        simp only [h2, Option.bind_some] at h
        cases h3 : f env (st.set l o1) with
        | none => simp [h3] at h
        | some p =>
          obtain ⟨t2, st2⟩ := p
          simp only [h3, Option.bind_some] at h
          cases h4 : st2[l]? with
          | none => simp [h4] at h
          | some o2 =>
            simp only [h4, Option.bind_some] at h
            cases h5 : freeO o2 with
            | none => simp [h5] at h
            | some o3 =>
              simp only [h5, Option.map_some, Option.some.injEq, Prod.mk.injEq] at h
              obtain ⟨rfl, rfl⟩ := h
              obtain ⟨v, _, rv⟩ := s.2 i _ hi
              cases rv with
              | @ref _ a ha =>
                obtain ⟨u, hu, lu, mk⟩ := lock_at w h1 ha h2
                obtain ⟨im, iv, mu⟩ := lkU_mut lu
                intro pins sh I
                obtain ⟨od, I1⟩ := I.lock hu mu
                obtain ⟨w1, f1⟩ := mk od
                have run := he env _ ρ σ _ t2 st2 (s.up f1) w1 h3 (fun v H2 => H2 a = some (.frz od u) ∧ Q v (upd H2 a u)) (fun v H2 ρ2 f2 w2 r2 => ?_) pins sh I1
                · refine thn run fun v s2 ⟨x, H2, I2, rx, hf, qx⟩ => ?_
                  exact ⟨x, _, I2.unlock hf (I.nofrz hu mu), rx, qx⟩
                · have hf : H2 a = some (.frz od u) := f2.e a _ upd_same rfl
                  have ha2 := f2.get ha
                  refine ⟨hf, q v _ ρ2 ⟨fun b ob hb ib => ?_, f2.p⟩ (free_at w2 h4 ha2 h5 hf lu) (r2.upv (fuv_upd hf (iv od)))⟩
                  have ne : b ≠ a := fun z => by
                    subst z
                    rw [hu] at hb
                    cases hb
                    rw [im] at ib
                    cases ib
                  rw [upd_ne ne]
                  exact f2.e b ob (by rw [upd_ne ne]; exact hb) ib
  · cases h
/-! ### the walk -/
theorem frzN_at {pins : List (Addr × Obj)} {σ : St} {H : Hp} {s : Shared} {d : Addr} {o : Obj} {xs : List (NestedKey × Addr × V)} (I : Inv X pins σ H s) (h : H d = some (.frz o (dnO (kx X) d xs))) :
    (d == sysModules) = false ∧ s.heap.get? d = some o ∧ o.ExactDict ∧ ∃ (es : Array DictEntry) (ep : Nat), o.data = .dict es ep ∧ es.size = xs.length ∧ ∀ (i : Nat) (p : NestedKey × Addr × V), xs[i]? = some p → ∃ en : DictEntry, es[i]? = some en ∧ en.key = .ref p.2.1 := by
  obtain ⟨hg, ⟨z, hs, ys, p, o', es, ep, g1, g2, g3, g4, g5⟩, _⟩ := I.hok d _ h
  rw [hg] at g1
  cases g1
  have hlen : ys.length = xs.length := by
    have := congrArg List.length (erel_keys p)
    simpa using this
  refine ⟨hs, hg, g2, es, ep, g3, by rw [size_of_entries g4, hlen], fun i q hq => ?_⟩
  obtain ⟨y, hy, e1, e2, _⟩ := paired_get p hq
  have qe := entry_at g4 i
  rw [hy] at qe
  refine ⟨_, qe, ?_⟩
  show Value.ref y.2.1 = _
  rw [← e2]
/-- the keys, in their order, of the locked dict at d -/
def Itn (K : KX) (d : Addr) (o : Obj) : It :=
  ⟨fun i H => ∃ xs, H d = some (.frz o (dnO K d xs)) ∧ i < xs.length, fun i H x H' => H' = H ∧ ∀ xs, H d = some (.frz o (dnO K d xs)) → ∀ p : NestedKey × Addr × V, xs[i]? = some p → x = .ref p.2.1, fun i H => ∃ xs, H d = some (.frz o (dnO K d xs)) ∧ xs.length ≤ i⟩
theorem turn_keysN {tg : Expr} {d : Addr} {o : Obj} {es : Array DictEntry} {ep : Nat} (it : Addr) (hod : o.data = .dict es ep) : Turn X.prog X.w X.K tg (Itn (kx X) d o) [it] it (fun i h => h.IsKeyIter it d i es.size ep) where
  mem := by simp
  obj := fun i h st b hb => by
    have e : b = it := by simpa using hb
    subst e
    obtain ⟨oi, e, c, dd⟩ := st
    exact ⟨oi, e, fun v z => by rw [dd] at z; cases z⟩
  keep := fun i h h' st k => st.at fun oi e => k it (by simp) oi e
  item := by
    intro Y hP hw hK hc i pins s σ H E I hf st hg
    obtain ⟨Z1, rfl⟩ : ∃ P, P = X.prog := ⟨_, rfl⟩
    have ek : kx X = kx Y := by
      show (⟨X.K, X.prog, X.w, Tb.tabs⟩ : KX) = ⟨Y.K, Y.prog, Y.w, Tb.tabs⟩
      rw [hP, hw, hK]
    rw [← hP, ← hw]
    obtain ⟨f0, f1, f2, f3, f4, f5⟩ := hf it (by simp)
    obtain ⟨xs, hd, hi⟩ := hg
    rw [ek] at hd
    obtain ⟨hs, hgd, hx, es', ep', hdt, hsz, ent⟩ := frzN_at I hd
    obtain ⟨rfl, rfl⟩ := dict_ep hod hdt
    obtain ⟨p, hp⟩ : ∃ p, xs[i]? = some p := ⟨xs[i], List.getElem?_eq_getElem hi⟩
    obtain ⟨en, hen, hkey⟩ := ent i p hp
    refine next_key_item st hgd hdt rfl hen fun h' st' sb => ?_
    have I1 : Inv Y pins σ H { s with heap := h' } := I.turned (t' := s.toks) (fun b ob hb e => (sb.2 b hb).trans e) f0 f1 f3 f4 f5
    obtain ⟨oi, e, c, dd⟩ := id st'
    refine ⟨en.key, rfl, go_of (s := { s with heap := h' }) e c dd (by decide) ⟨.ref p.2.1, H, I1, hkey, ⟨rfl, fun xs2 hd2 p2 hp2 => ?_⟩, st', fun b hb => (hf b hb).1⟩⟩
    rw [ek] at hd2
    obtain ⟨_, _, _, es2, ep2, hdt2, _, ent2⟩ := frzN_at I hd2
    obtain ⟨rfl, rfl⟩ := dict_ep hdt hdt2
    obtain ⟨en2, hen2, hkey2⟩ := ent2 i p2 hp2
    rw [hen] at hen2
    cases hen2
    rw [hkey] at hkey2
    injection hkey2 with hk2
    rw [hk2]
  done := by
    intro Y hP hw hK hc i pins s σ H E I hf st hg
    have ek : kx X = kx Y := by
      show (⟨X.K, X.prog, X.w, Tb.tabs⟩ : KX) = ⟨Y.K, Y.prog, Y.w, Tb.tabs⟩
      rw [hP, hw, hK]
    rw [← hP, ← hw]
    obtain ⟨f0, f1, f2, f3, f4, f5⟩ := hf it (by simp)
    obtain ⟨xs, hd, hi⟩ := hg
    rw [ek] at hd
    obtain ⟨hs, hgd, hx, es', ep', hdt, hsz, ent⟩ := frzN_at I hd
    obtain ⟨rfl, rfl⟩ := dict_ep hod hdt
    exact next_key_end (I.ok.hd hc) st hgd hdt rfl (by omega) fun h' eb => ⟨rfl, I.turned (t' := s.toks) (fun b ob hb e => eb b ob hb e) f0 f1 f3 f4 f5⟩
  self := fun A i s Q E st h => wpAny_pyIter_keyiter st h
theorem pi_keysN {tg e : Expr} {td : TE} (he : PE X e td) : PI X tg e (fun σ H R => td σ H fun x H1 => ∃ d o xs, x = .ref d ∧ H1 d = some (.frz o (dnO (kx X) d xs)) ∧ R (Itn (kx X) d o) H1) := by
  refine ⟨fun pins s σ H R I h => ?_⟩
  refine thn (he.run pins s σ H _ I h) fun u s1 ⟨x, H1, I1, rx, d, o, xs, ex, hd, q⟩ => ?_
  subst ex
  obtain rfl : u = Value.ref d := rx
  obtain ⟨hs, hgd, hx, es, ep, hdt, hsz, ent⟩ := frzN_at I1 hd
  exact iter_keys hs hgd hx hdt (pi_one (tk := s1.toks) I1 _ (turn_keysN _ hdt) ⟨_, Heap.get?_push_size _ rfl, rfl, rfl⟩ q)
/-- for k in d: d is locked -/
def keysAt (o : Ob) : Option (List T) := match o with
  | .lkK kvs => some (kvs.map fun p => unKy p.1)
  | .lkN kvs => some (kvs.map (·.1))
  | _ => none
def xiDict (f : XE) : XI := fun e st => (f e st).bind fun p => match p.1 with
  | .ref l => (p.2[l]?).bind fun o => (keysAt o).map fun _ => (fun st' => (st'[l]?).bind keysAt, p.2)
  | _ => none
theorem it_dict {tg a : Expr} {fa : XE} (ha : ET X a fa) : IT X tg a (xiDict fa) := by
  intro env st ρ σ H it st' s w e R q
  unfold xiDict at e
  cases h : fa env st with
  | none => simp [h] at e
  | some pr =>
    obtain ⟨t, s1⟩ := pr
    simp only [h, Option.bind_some] at e
    cases t with
    | ref l =>
      cases hl : s1[l]? with
      | none => simp [hl] at e
      | some ob =>
        simp only [hl, Option.bind_some] at e
        cases ob with
        | lst ts => cases e
        | dK ts => cases e
        | dN ts => cases e
        | lkK kvs0 =>
          cases e
          refine Wi.of (pi_keys We.pe) ?_
          refine ha env st ρ σ H _ _ s w h _ fun v H1 ρ1 f1 w1 r1 => ?_
          cases r1 with
          | @ref _ a0 ha0 =>
            obtain ⟨o, kws, h0, k0, q0⟩ := w1.addr hl ha0
            refine ⟨a0, o, rfl, .inl ⟨kws, h0, q _ H1 ρ1 f1 w1 fun H2 ρ2 st2 ts2 f2 w2 e2 i => ?_⟩⟩
            have h2 := f2.e _ _ h0 rfl
            cases h3 : st2[l]? with
            | none => simp [h3] at e2
            | some ob2 =>
              simp only [h3, Option.bind_some] at e2
              have r2 := w2.ob l ob2 a0 h3 (f2.get ha0)
              cases ob2 with
              | lst ts => cases e2
              | dK ts => cases e2
              | dN ts => cases e2
              | lkN ts =>
                obtain ⟨o', xs, h4, _⟩ := r2
                rw [h2] at h4
                injection h4 with h4
                injection h4 with h5 h6
                unfold dnO at h6
                cases h6
              | lkK kvs =>
                cases e2
                obtain ⟨o', kws', h4, k4, q4⟩ := r2
                rw [h2] at h4
                cases h4
                have len : kvs.length = kws.length := by
                  have := congrArg List.length k4
                  simpa using this
                refine ⟨fun hi => ⟨h2, by rw [List.length_map] at hi; omega⟩, fun hi => ⟨h2, by rw [List.length_map] at hi; omega⟩, fun x H3 y => ?_⟩
                obtain ⟨rfl, k, v, hk, rfl⟩ := y
                refine ⟨fun _ _ z => z, fun t ht => ?_⟩
                rw [List.getElem?_map] at ht
                have e5 : (kvs.map (·.1))[i]? = (kws.map (·.1))[i]? := by rw [k4]
                rw [List.getElem?_map, List.getElem?_map, hk] at e5
                cases h6 : kvs[i]? with
                | none => rw [h6] at e5; cases e5
                | some p =>
                  rw [h6] at e5 ht
                  have e7 : p.1 = k := Option.some.inj e5
                  cases ht
                  show Rep (kx X) H3 ρ2 (unKy p.1) (kV k)
                  rw [e7]
                  exact un_rep k
        | lkN kvs0 =>
          cases e
          refine Wi.of (pi_keysN We.pe) ?_
          refine ha env st ρ σ H _ _ s w h _ fun v H1 ρ1 f1 w1 r1 => ?_
          cases r1 with
          | @ref _ a0 ha0 =>
            obtain ⟨o, xs, h0, q0⟩ := w1.addr hl ha0
            refine ⟨a0, o, xs, rfl, h0, q _ H1 ρ1 f1 w1 fun H2 ρ2 st2 ts2 f2 w2 e2 i => ?_⟩
            have h2 := f2.e _ _ h0 rfl
            cases h3 : st2[l]? with
            | none => simp [h3] at e2
            | some ob2 =>
              simp only [h3, Option.bind_some] at e2
              have r2 := w2.ob l ob2 a0 h3 (f2.get ha0)
              cases ob2 with
              | lst ts => cases e2
              | dK ts => cases e2
              | dN ts => cases e2
              | lkK ts =>
                obtain ⟨o', xs, h4, _⟩ := r2
                rw [h2] at h4
                injection h4 with h4
                injection h4 with h5 h6
                unfold dnO at h6
                cases h6
              | lkN kvs =>
                cases e2
                obtain ⟨o', xs', h4, q4⟩ := r2
                have h4' := h4
                rw [h2] at h4'
                injection h4' with h4'
                injection h4' with h5 h6
                subst h5
                have len := repd_len q4
                refine ⟨fun hi => ⟨xs', h4, by rw [List.length_map] at hi; omega⟩, fun hi => ⟨xs', h4, by rw [List.length_map] at hi; omega⟩, fun x H3 y => ?_⟩
                obtain ⟨rfl, hx⟩ := y
                refine ⟨fun _ _ z => z, fun t ht => ?_⟩
                obtain ⟨v, hv, rv⟩ := (repd_firsts q4).get ht
                rw [List.getElem?_map] at hv
                cases h7 : xs'[i]? with
                | none => rw [h7] at hv; cases hv
                | some p =>
                  rw [h7] at hv
                  cases hv
                  rw [hx xs' h4 p h7]
                  exact rv
    | non => cases e
    | bl b => cases e
    | int i => cases e
    | str i => cases e
    | tup i => cases e
    | rdl i => cases e
    | ptp i => cases e
/-! ### d[k], d locked -/
theorem ix_KL (hu : X.A.units + 1 < cLine) : IxR X (fun x y H Q => ∃ a o kws k v, x = .ref a ∧ y = kV k ∧ H a = some (.frz o (.dK kws)) ∧ valV kws k = some v ∧ Q v H) := by
  intro value slice pins s σ H x y v0 u0 Q I rx ry h hs
  obtain ⟨a, o, kws, k, v, rfl, rfl, h1, h2, q⟩ := h
  cases rx
  obtain ⟨z, hd, vs, rel, dd⟩ := dk_rd I.hok (.inr ⟨o, h1⟩)
  obtain ⟨w', hw, rw'⟩ := RelO.some_of (v := v) (o := valueAt vs k) (by rw [← h2]; exact rel.val k)
  exact subscriptTail_builtinR (x := w') dd.typeIs PySem.F.slot_dict_getitem.lookup (wpAny_getItem_of (Q := fun r s' => r = w' ∧ EP X pins σ Q r s') (kV_is ry) dd.mapOf hw ⟨rfl, v, H, I.tok _, rw', q⟩) hs
theorem ix_NL (hu : X.A.units + 64 < cLine) : IxR X (fun x y H Q => ∃ a o b ρ kvs xs t k u, x = .ref a ∧ y = .ref b ∧ H a = some (.frz o (dnO (kx X) a xs)) ∧ RepD (kx X) H ρ kvs xs ∧ toNK nkd t = some k ∧ Rep (kx X) H ρ t (.ref b) ∧ lookD kvs k = some u ∧ ∀ v, Rep (kx X) H ρ u v → Q v H) := by
  intro value slice pins s σ H x y v0 u0 Q I rx ry h hs
  obtain ⟨a, o, b, ρ, kvs, xs, t, k, u, rfl, rfl, h1, rd, hk, rb, hl, q⟩ := h
  cases rx; cases ry
  have I' : Inv X pins σ (upd H a (dnO (kx X) a xs)) s → True := fun _ => trivial
  obtain ⟨hg, ⟨z, hsm, ys, p, o', es, ep, g1, g2, g3, g4, g5⟩, _⟩ := I.hok a _ h1
  have all : ∀ {kvs : List (T × T)} {xs : List (NestedKey × Addr × V)} {ys : List (NestedKey × Addr × Value)}, RepD (kx X) H ρ kvs xs → Paired ERel xs ys → ∀ y ∈ ys, (nestedKind X.prog X.w).is s.heap y.1 y.2.1 := by
    intro kvs xs ys r
    induction r generalizing ys with
    | nil => intro p y hy; cases p; cases hy
    | cons a b c d ih =>
      intro p y hy
      cases p with
      | cons p1 p2 =>
        rcases List.mem_cons.mp hy with e | hy
        · subst e
          rw [← p1.1, ← p1.2.1]
          exact nk_key I a b
        · exact ih p2 y hy
  have dh : s.heap.DictOfH (nestedKind X.prog X.w) a ys := ⟨o', es, ep, g1, g2, g3, g4, all rd p, g5⟩
  obtain ⟨v, w, h1, h2, h3⟩ := look_all rd p hl
  exact subscriptTail_builtinR (x := w) dh.typeIs PySem.F.slot_dict_getitem.lookup
    (getItem_keyed (Q := fun r s' => r = w ∧ EP X pins σ Q r s') (nroom hu _ _) (nk_key I hk rb) ⟨ys, dh, rfl⟩ h1 ⟨rfl, v, H, I.tok _, h2, q v h3⟩) hs
def ixB : F2 := fun x y st => match dAt x st with
  | some (_, .lkK kvs) => ((toKy y).bind (lookK kvs)).map fun u => (u, st)
  | some (_, .lkN kvs) => if isTup y then ((toNK nkd y).bind (lookD kvs)).map fun u => (u, st) else none
  | _ => ixA x y st
theorem xt_ixB (hu : X.A.units + 65 < cLine) : IxT X ixB := by
  intro ρ st H x y t st' vx vy w rx ry e Q q
  unfold ixB at e
  split at e
  · rename_i l kvs hd
    obtain ⟨rfl, hl⟩ := dAt_inv hd
    cases h1 : toKy y with
    | none => simp [h1] at e
    | some k =>
      simp only [h1, Option.bind_some] at e
      cases h2 : lookK kvs k with
      | none => simp [h2] at e
      | some u =>
        simp only [h2, Option.map_some, Option.some.injEq, Prod.mk.injEq] at e
        obtain ⟨rfl, rfl⟩ := e
        cases rx with
        | @ref _ a ha =>
          obtain ⟨o, kws, h3, k3, q3⟩ := w.addr hl ha
          have r4 : RepK (kx X) H ρ kvs kws := ⟨k3, q3⟩
          have l4 := r4.look k
          rw [h2] at l4
          cases c2 : valV kws k with
          | none => rw [c2] at l4; exact l4.elim
          | some v =>
            rw [c2] at l4
            exact ⟨_, ix_KL (by omega), a, o, kws, k, v, rfl, ky_rep h1 ry, h3, c2, q _ _ _ (Fut.refl _ _) w l4⟩
  · rename_i l kvs hd
    obtain ⟨rfl, hl⟩ := dAt_inv hd
    split at e
    · rename_i ht
      cases h1 : toNK nkd y with
      | none => simp [h1] at e
      | some k =>
        simp only [h1, Option.bind_some] at e
        cases h2 : lookD kvs k with
        | none => simp [h2] at e
        | some u =>
          simp only [h2, Option.map_some, Option.some.injEq, Prod.mk.injEq] at e
          obtain ⟨rfl, rfl⟩ := e
          cases rx with
          | @ref _ a ha =>
            obtain ⟨o, xs, h3, q3⟩ := w.addr hl ha
            obtain ⟨b, rfl⟩ := tup_ref ht ry
            exact ⟨_, ix_NL (by omega), a, o, b, ρ, kvs, xs, y, k, u, rfl, rfl, h3, q3, h1, ry, h2, fun v r => q _ _ _ (Fut.refl _ _) w r⟩
    · cases e
  · exact xt_ixA hu ρ st H x y t st' vx vy w rx ry e Q q
end
end TL
/-! TL35 -/
set_option Elab.async false
set_option linter.all false
set_option maxRecDepth 100000
set_option maxHeartbeats 4000000
/-! tuple * int; max of a list; displays of one pair; dict of pairs -/
namespace TL
variable [Tb]
open PySem PySem.Spec PyProof.Rows L2
theorem tuple_mulZ (l : Addr) (items : Array Value) (n : Nat) (dd : Option Addr) (sl : Array (Option Value)) (x : Int) (u : Tok) (c0 : (decide (x < -(2 ^ 63)) || decide (x ≥ 2 ^ 63)) = false) (c1 : (items.isEmpty || x == 1) = false) (c2 : (decide (x ≤ 0) || items.isEmpty) = true) :
    Meets (Builtin.«tuple.__mul__» ⟨[.ref l, .int x u], []⟩) (fun _ R s => s.heap.get? l = some { cls := .type "tuple", dict := dd, data := .seq items n, slots := sl } ∧
      R (.ok (.ret (Value.ref s.heap.objs.size))) { s with heap := s.heap.push { cls := Value.type "tuple", data := Data.seq #[] }, toks := s.toks }) :=
  .of_wp fun prog w A R s h => by
    obtain ⟨hp, g, d, tk, os⟩ := s
    obtain ⟨hl, h⟩ := h
    have f1 := AutoSeq1.idx_int
    wp_walk using wpAny_loadPart' hl
    refine wpAny_ite_false (decide_eq_false (by rw [c0]; exact Bool.false_ne_true)) ?_
    wp_walk using wpAny_loadPart' hl
    exact ⟨_, rfl, h⟩
theorem tuple_mulO (l : Addr) (items : Array Value) (n : Nat) (dd : Option Addr) (sl : Array (Option Value)) (x : Int) (u : Tok) (c0 : (decide (x < -(2 ^ 63)) || decide (x ≥ 2 ^ 63)) = false) (c1 : (items.isEmpty || x == 1) = true) :
    Meets (Builtin.«tuple.__mul__» ⟨[.ref l, .int x u], []⟩) (fun _ R s => s.heap.get? l = some { cls := .type "tuple", dict := dd, data := .seq items n, slots := sl } ∧
      R (.ok (.ret (Value.ref l))) s) :=
  .of_wp fun prog w A R s h => by
    obtain ⟨hp, g, d, tk, os⟩ := s
    obtain ⟨hl, h⟩ := h
    have f1 := AutoSeq1.idx_int
    wp_walk using wpAny_loadPart' hl
    refine wpAny_ite_false (decide_eq_false (by rw [c0]; exact Bool.false_ne_true)) ?_
    wp_walk using wpAny_loadPart' hl
    exact ⟨_, rfl, h⟩
section
variable {X : Cx}
theorem op_repZ : OpR X (binaryOp .Mult) (fun x y H Q => ∃ l k xs, x = .ref l ∧ y = .int k ∧ SqT X.K H l xs ∧ xs ≠ [] ∧ -1000 ≤ k ∧ k ≤ 0 ∧ ∀ p, H p = none → Q (.ref p) (upd H p (.tup []))) := by
  intro pins s σ H x y v u Q I rx ry h
  obtain ⟨l, k, xs, rfl, rfl, hT, hne, h1, h2, q⟩ := h
  cases rx
  obtain ⟨t, rfl⟩ := ry
  obtain ⟨its, r, ⟨⟨cls, dd, data, sl⟩, ho, hc, n, hd⟩, hs⟩ := I.tuple hT
  simp only at hc hd
  subst hc hd
  have hi : its.toArray.isEmpty = false := by
    cases r with
    | nil => exact absurd rfl hne
    | cons a b => rfl
  have c0 : (decide (k < -(2 ^ 63)) || decide (k ≥ 2 ^ 63)) = false := by
    rw [decide_eq_false (by omega), decide_eq_false (by omega)] <;> rfl
  have c1 : (its.toArray.isEmpty || k == 1) = false := by
    rw [hi, Bool.false_or]
    exact beq_eq_false_iff_ne.mpr (by omega)
  have c2 : (decide (k ≤ 0) || its.toArray.isEmpty) = true := by
    rw [decide_eq_true h2]; rfl
  refine wpAny_binaryOp_repeat_ref (T := "tuple") (U := "int") (by decide) ⟨_, ho, rfl⟩ (fun s' => typeIs_int s' k t) noFill_tuple_mul F.fills_int_mul F.slot_int_rmul repeat_tuple F.slot_int_index.lookup
    (call_meets F.slot_int_rmul (typeIs_int s k t) F.entry_int_rmul (F.args_int_rmul_2 _ _) (int_rmul_tuple k t l its.toArray n dd sl)
      ⟨ho, rfl, ⟨_, ho, rfl⟩, call_meets F.slot_tuple_mul ⟨_, ho, rfl⟩ F.entry_tuple_mul (F.args_tuple_mul_2 _ _) (tuple_mulZ l its.toArray n dd sl k t c0 c1 c2) ⟨ho, ?_⟩⟩)
  exact ⟨.ref s.heap.objs.size, _, I.laid (t' := s.toks) (o := .tup []) (fun b ob q => Heap.get?_push_of_some _ q) (Nat.le_refl _) ⟨Nat.zero_le _, [], .nil, IsTup.new _ _⟩, rfl, q _ (I.hok.fresh (Nat.le_refl _))⟩
theorem op_repO : OpR X (binaryOp .Mult) (fun x y H Q => ∃ l xs, x = .ref l ∧ y = .int 1 ∧ SqT X.K H l xs ∧ Q (.ref l) H) := by
  intro pins s σ H x y v u Q I rx ry h
  obtain ⟨l, xs, rfl, rfl, hT, q⟩ := h
  cases rx
  obtain ⟨t, rfl⟩ := ry
  obtain ⟨its, r, ⟨⟨cls, dd, data, sl⟩, ho, hc, n, hd⟩, hs⟩ := I.tuple hT
  simp only at hc hd
  subst hc hd
  have c1 : (its.toArray.isEmpty || (1 : Int) == 1) = true := by simp
  refine wpAny_binaryOp_repeat_ref (T := "tuple") (U := "int") (by decide) ⟨_, ho, rfl⟩ (fun s' => typeIs_int s' 1 t) noFill_tuple_mul F.fills_int_mul F.slot_int_rmul repeat_tuple F.slot_int_index.lookup
    (call_meets F.slot_int_rmul (typeIs_int s 1 t) F.entry_int_rmul (F.args_int_rmul_2 _ _) (int_rmul_tuple 1 t l its.toArray n dd sl)
      ⟨ho, rfl, ⟨_, ho, rfl⟩, call_meets F.slot_tuple_mul ⟨_, ho, rfl⟩ F.entry_tuple_mul (F.args_tuple_mul_2 _ _) (tuple_mulO l its.toArray n dd sl 1 t (by decide) c1) ⟨ho, ?_⟩⟩)
  exact ⟨.ref l, H, I, rfl, q⟩
/-- ints as before, a tuple so many times -/
def mulDT : F2 := fun x y st => match x, y with
  | .tup ts, .int n => if ts ≠ [] ∧ ts.length ≤ 1000 ∧ -1000 ≤ n ∧ n ≤ 1000 then some (.tup (List.replicate n.toNat ts).flatten, st) else none
  | _, _ => mulT x y st
theorem reps_flat {K : KX} {H : Hp} {ρ : List Addr} {ts : List T} {vs : List V} (r : Reps K H ρ ts vs) : ∀ n : Nat, Reps K H ρ (List.replicate n ts).flatten (List.replicate n vs).flatten
  | 0 => .nil
  | n + 1 => by
    rw [List.replicate_succ, List.replicate_succ, List.flatten_cons, List.flatten_cons]
    exact r.app (reps_flat r n)
theorem ot_mulD : OpT X (binaryOp .Mult) mulDT := by
  intro ρ st H x y t st' vx vy w rx ry e Q q
  unfold mulDT at e
  split at e
  · rename_i ts n
    split at e
    · rename_i hz
      cases e
      obtain ⟨h1, h2, h3, h4⟩ := hz
      cases ry
      cases rx with
      | @tup a vs _ hs rs =>
        have hl := rs.length
        have hv : vs ≠ [] := fun z => h1 (List.eq_nil_of_length_eq_zero (by rw [hl, z]; rfl))
        by_cases z0 : n ≤ 0
        · refine ⟨_, op_repZ, a, n, vs, rfl, rfl, hs, hv, h3, z0, fun p hp => ?_⟩
          have f0 : Fut H (upd H p (.tup [])) ρ ρ := ⟨Ext.new hp, [], by simp⟩
          refine q _ _ _ f0 (w.grow (grow_new hp)) ?_
          have : n.toNat = 0 := by omega
          rw [this]
          exact .tup (.inl (.inl upd_same)) .nil
        · by_cases z1 : n = 1
          · subst z1
            refine ⟨_, op_repO, a, vs, rfl, rfl, hs, q _ _ _ (Fut.refl _ _) w ?_⟩
            have : (List.replicate (1 : Int).toNat ts).flatten = ts := by simp
            rw [this]
            exact .tup hs rs
          · refine ⟨_, op_repT, a, n, vs, rfl, rfl, hs, hv, by omega, h4, by omega, fun p hp => ?_⟩
            have f0 : Fut H (upd H p (.tup (List.replicate n.toNat vs).flatten)) ρ ρ := ⟨Ext.new hp, [], by simp⟩
            exact q _ _ _ f0 (w.grow (grow_new hp)) (.tup (.inl (.inl upd_same)) (reps_flat (rs.up f0) _))
    · cases e
  · exact ot_mul ρ st H x y t st' vx vy w rx ry e Q q
/-! ### max of a list of ints -/
theorem cr_max1 (hc : X.calm = true) (hu : X.A.units + 64 < cLine) : CallR X (.builtin "max") (fun vs H Q => ∃ (a : Addr) (n : Int) (ns : List Int), vs = [.ref a] ∧ SqL X.K H a ((n :: ns).map V.int) ∧ Q (.int (maxI n ns)) H) := by
  intro pins s σ H vs us Q I r1 h
  obtain ⟨a, n, ns, rfl, hs, q⟩ := h
  obtain ⟨u, rfl, ra⟩ := vals1 r1
  cases ra
  obtain ⟨its, rv, pl, hz⟩ := I.list hs
  have hi := rv.ints
  have hd1 : PySem.W.Datum.depth Int + 0 ≤ 8 := by decide
  refine PySem.W.max_list_datum (x := n) (xs := ns) (I.ok.hd hc) pl.isList (PySem.W.HoldAll.of_ints (by simpa using hi)) (by omega) fun i v h' tk hv ho k => ?_
  rw [maxI_of] at ho
  have i1 := PySem.W.HoldAll.toInts (vs := [v]) (ns := [maxI n ns]) (PySem.W.HoldAll.cons ho PySem.W.HoldAll.nil)
  cases i1 with
  | cons n t r => exact ⟨.int _, H, I.kept k, ⟨_, rfl⟩, q⟩
def maxT : FA := fun ts st => match ts with
  | [.ref l] => match st[l]? with
    | some (.lst ts) => (intsOf ts).bind fun ns => match ns with
      | [] => none
      | n :: r => some (.int (maxI n r), st)
    | _ => none
  | _ => none
theorem ct_max (hc : X.calm = true) (hu : X.A.units + 64 < cLine) : CallT X (.builtin "max") maxT := by
  intro ρ st H ts t st' vs w rs e Q q
  unfold maxT at e
  split at e
  · split at e
    · rename_i hl
      cases rs with
      | cons r1 r2 =>
        cases r2
        cases h : intsOf _ with
        | none => rw [h] at e; cases e
        | some ns =>
          rw [h] at e
          cases ns with
          | nil => cases e
          | cons n r =>
            cases e
            obtain ⟨a, us, rfl, _, h3, r3⟩ := rep_lst w r1 hl
            exact ⟨_, cr_max1 hc hu, a, n, r, rfl, by rw [← ints_rep h r3]; exact SqL.of h3, q _ _ _ (Fut.refl _ _) w (.int _)⟩
    · cases e
  · cases e
/-! ### {k: v} -/
def xDict1N (fk fv : XE) : XE := fun e st => (fk e (st ++ [.dN []])).bind fun p => (fv e p.2).bind fun r => match r.2[st.length]?, toNK nkd p.1 with
  | some (.dN []), some k => if isTup p.1 then some (.ref st.length, r.2.set st.length (.dN [(p.1, r.1)])) else none
  | _, _ => none
theorem et_dict1N {ke ve : Expr} {fk fv : XE} {pos : Pos} (hu : X.A.units + 64 < cLine) (hk : ET X ke fk) (hv : ET X ve fv) : ET X (.Dict [some ke] [ve] pos) (xDict1N fk fv) := by
  intro env st ρ σ H t st' s w e Q q
  unfold xDict1N at e
  cases h1 : fk env (st ++ [.dN []]) with
  | none => simp [h1] at e
  | some p =>
    obtain ⟨tk, s1⟩ := p
    simp only [h1, Option.bind_some] at e
    cases h2 : fv env s1 with
    | none => simp [h2] at e
    | some p =>
      obtain ⟨tv, s2⟩ := p
      simp only [h2, Option.bind_some] at e
      split at e
      · rename_i k hacc hky
        split at e
        · rename_i ht
          cases e
          intro pins sh I
          have hsh : (evalEachOpt [some ke] X.env).zip ((evalEach [ve] X.env).map fun v => do let x ← v; standAt pos; pure x) = [(eval ke X.env, (do let x ← eval ve X.env; standAt pos; pure x : Sem Value))].map fun p => (some p.1, p.2) := rfl
          rw [arm_eval_Dict, hsh, dictDisplay_pairs _ (by simp) (by simp)]
          obtain ⟨D, hD⟩ : ∃ D, D = sh.heap.objs.size := ⟨_, rfl⟩
          have hDn : H D = none := I.hok.fresh (Nat.le_of_eq hD.symm)
          have I1 : Inv X pins σ (upd H D (dnO (kx X) D [])) { sh with heap := sh.heap.push { cls := .type "dict", data := .dict #[] } } := by
            rw [hD]
            exact I.laid (t' := sh.toks) (fun _ _ q => Heap.get?_push_of_some _ q) (Nat.le_refl _) (newN_ok sh _ pins σ H I)
          obtain ⟨w1, f1⟩ := w.push (o := .dN []) (u := dnO (kx X) D []) hDn ⟨[], upd_same, .nil⟩
          have hDl : (ρ ++ [D])[st.length]? = some D := by rw [← w.len, List.getElem?_append_right (Nat.le_refl _)]; simp
          refine wpAny_bind (wpAny_standAt (wpAny_bind (wpAny_subDictH (knd := nestedKind X.prog X.w) (show X.A.units + 8 < cLine by omega) (by simp) ?_)))
          refine evalPairs_cons ?_
          have run := hk env _ (ρ ++ [D]) σ _ tk s1 (s.up f1) w1 h1 (fun vk H2 => ∃ ρ2, Fut (upd H D (dnO (kx X) D [])) H2 (ρ ++ [D]) ρ2 ∧ Wd (kx X) ρ2 s1 H2 ∧ Rep (kx X) H2 ρ2 tk vk) (fun vk H2 ρ2 f2 w2 r2 => ⟨ρ2, f2, w2, r2⟩) pins _ I1
          refine thn run fun uk sk ⟨vk, H2, I2, rk, ρ2, f2, w2, r2⟩ => ?_
          have run2 := hv env _ ρ2 σ _ tv s2 (s.up (f1.trans f2)) w2 h2 (fun vv H3 => ∃ ρ3, Fut H2 H3 ρ2 ρ3 ∧ Wd (kx X) ρ3 s2 H3 ∧ Rep (kx X) H3 ρ3 tv vv) (fun vv H3 ρ3 f3 w3 r3 => ⟨ρ3, f3, w3, r3⟩) pins _ I2
          refine wpAny_bind (thn run2 fun uv sv ⟨vv, H3, I3, rv, ρ3, f3, w3, r3⟩ => wpAny_bind (wpAny_standAt (wpAny_pure (evalPairs_nil ?_))))
          obtain ⟨b, rfl⟩ := tup_ref ht r2
          cases rk
          have r2' := r2.up f3
          have hD3 := (f2.trans f3).get hDl
          obtain ⟨xs, hx, rd⟩ := w3.addr hacc hD3
          cases rd
          obtain ⟨z, hsm, ys, py, dh⟩ := dn_heap (ρ := ρ3) I3 hx .nil
          cases py
          refine ⟨[(k, b, uv)], ⟨rfl, rfl, nk_key I3 hky r2', trivial⟩, by rw [← hD]; exact dh, fun h' tk' dh' sb => ?_⟩
          rw [← hD] at dh' sb ⊢
          have e1 : storedAllH [] [(k, b, uv)] = [(k, b, uv)] := rfl
          rw [e1] at dh'
          refine wpAny_pure ⟨.ref D, _, I3.write (x := D) (e := D) (o := dnO (kx X) D [(k, b, vv)]) (t' := tk') (by rw [hx]; trivial) (.inl rfl) (fun b' ob hb e => (sb.2 b' hb).trans e) ?_ ?_, rfl, ?_⟩
          · obtain ⟨o', _, _, g, _⟩ := dh'
            exact ⟨o', g⟩
          · exact dn_obj (by rw [sizeLine_eq]; simp) hsm (.cons ⟨rfl, rfl, rv⟩ .nil) dh'
          · obtain ⟨u0, h0, i0⟩ := w3.there hacc hD3
            have fA : Fut H3 (upd H3 D (dnO (kx X) D [(k, b, vv)])) ρ3 ρ3 := ⟨Ext.mut h0 i0, [], by simp⟩
            obtain ⟨wA, _⟩ := w3.put (o := .dN [(tk, tv)]) h0 i0 hD3 ⟨_, upd_same, .cons hky (r2'.up fA) (r3.up fA) .nil⟩
            exact q _ _ ρ3 (((f1.trans f2).trans f3).trans fA) wA (.ref hD3)
        · cases e
      · cases e
end
end TL
/-! TL36 -/
set_option Elab.async false
set_option linter.all false
set_option maxRecDepth 100000
set_option maxHeartbeats 4000000
/-! tuples that are known to have no dict of their own; dict of pairs -/
namespace TL
variable [Tb]
open PySem PySem.Spec PyProof.Rows L2
section
variable {X : Cx}
theorem new_ptp {ρ : List Addr} {st : Store} {H : Hp} {ts : List T} {vs : List V} {Q : VK} {o : Obj} (ho : o.dict = none) (w : Wd (kx X) ρ st H) (r : Reps (kx X) H ρ ts vs) (q : QE (kx X) H ρ (.ptp ts) st Q) {p : Addr} (hp : H p = none) : Q (.ref p) (upd H p (.frz o (.tup vs))) := by
  have g : ∀ a o', H a = some o' → upd H p (.frz o (.tup vs)) a = some o' := grow_new hp
  have f : Fut H (upd H p (.frz o (.tup vs))) ρ ρ := fut_grow g
  exact q _ _ ρ f (w.grow g) (.ptp ⟨o, upd_same, ho⟩ (r.up f))
/-- tuple(l): a new tuple, l a list -/
def tuplePT : FA := fun ts st => match ts with
  | [.ref l] => match st[l]? with
    | some (.lst ts) => some (.ptp ts, st)
    | _ => none
  | _ => none
theorem cr_tupleP : CallR X (.type "tuple") (fun xs H Q => ∃ p ys, xs = [.ref p] ∧ SqL X.K H p ys ∧ ∀ l o, o.dict = none → H l = none → Q (.ref l) (upd H l (.frz o (.tup ys)))) := by
  intro pins s σ H xs us Q I r h
  obtain ⟨p, ys, rfl, hq, q⟩ := h
  obtain ⟨u, rfl, rx⟩ := vals1 r
  cases rx
  obtain ⟨its, rv, pl, hz⟩ := I.list hq
  have hlen := rv.length
  refine call_tuple_list pl.isList (fun h' kp => ?_) (by simp only [List.size_toArray]; omega)
  have Ia : Inv X pins σ H { s with heap := h' } := I.kept (t' := s.toks) kp
  exact ⟨.ref h'.objs.size, _, Ia.laid (t' := s.toks) (o := .frz { cls := .type "tuple", data := .seq its.toArray } (.tup ys)) (fun b o e => Heap.get?_push_of_some _ e) (Nat.le_refl _) ⟨Heap.get?_push_size _ rfl, hz, its, rv, IsTup.new _ _⟩, rfl, q _ _ rfl (Ia.hok.fresh (Nat.le_refl _))⟩
theorem ct_tupleP : CallT X (.type "tuple") tuplePT := by
  intro ρ st H ts t st' vs w rs e Q q
  unfold tuplePT at e
  split at e
  · split at e
    · rename_i hl
      cases e
      cases rs with
      | cons r1 r2 =>
        cases r2
        obtain ⟨a, us, rfl, _, h1, r3⟩ := rep_lst w r1 hl
        exact ⟨_, cr_tupleP, _, _, rfl, SqL.of h1, fun p o ho hp => new_ptp ho w r3 q hp⟩
    · cases e
  · cases e
theorem et_tupP0 {k} {pos : Pos} : ET X (.Tuple [] k pos) (xC (.ptp [])) := by
  intro env st ρ σ H t st' s w e Q q
  cases e
  intro pins sh I
  refine wpAny_Tuple_spliced (thn ((pa_nil (X := X)).run pos pins sh σ H (fun xs H1 => xs = [] ∧ H1 = H) I ⟨rfl, rfl⟩) fun us s1 ⟨xs, H1, I1, r, e1, e2⟩ => ?_)
  subst e1
  subst e2
  cases r
  refine ⟨Nat.zero_le _, ?_⟩
  have hf : H1 s1.heap.objs.size = none := I1.hok.fresh (Nat.le_refl _)
  exact ⟨.ref s1.heap.objs.size, _, I1.laid (t' := s1.toks) (o := .frz { cls := .type "tuple", data := .seq #[] } (.tup [])) (fun b u e => Heap.get?_push_of_some _ e) (Nat.le_refl _) ⟨Heap.get?_push_size _ rfl, Nat.zero_le _, [], .nil, ⟨_, Heap.get?_push_size _ rfl, rfl, _, rfl⟩⟩, rfl, new_ptp rfl w .nil q hf⟩
/-! ### dict(x), x a tuple or a list of pairs -/
def pairT : T → Option (T × T)
  | .tup [k, v] => some (k, v)
  | _ => none
def pairsOf (st : Store) : T → Option (Bool × List T)
  | .ptp ts => some (true, ts)
  | .ref l => match st[l]? with
    | some (.lst ts) => some (false, ts)
    | _ => none
  | _ => none
def goodK (k : T) : Bool := isTup k && (toNK nkd k).isSome
/-- the entries that the pairs leave -/
def mergeD : List (T × T) → List (T × T) → List (T × T)
  | acc, [] => acc
  | acc, (k, v) :: r => mergeD (match toNK nkd k with
    | some n => storeD acc k n v
    | none => acc) r
def dictT : FA := fun ts st => match ts with
  | [x] => (pairsOf st x).bind fun p => (optAll pairT p.2).bind fun ps => if ps.length ≤ sizeLine ∧ ps.all (fun q => goodK q.1) = true then some (.ref st.length, st ++ [.dN (mergeD [] ps)]) else none
  | _ => none
end
section
variable {X : Cx} {pins : List (Addr × Obj)} {σ : St} {H : Hp} {s : Shared} {ρ : List Addr}
/-- a pair at its address: its key, the key's address, its value -/
abbrev PRow := Addr × (NestedKey × Addr × V) × Value
theorem pair_rows (I : Inv X pins σ H s) : ∀ {ts : List T} {ps : List (T × T)} {vs : List V} {its : List Value}, optAll pairT ts = some ps → ps.all (fun q => goodK q.1) = true → Reps (kx X) H ρ ts vs → Vals vs its →
    ∃ rows : List PRow, its = rows.map (fun r => Value.ref r.1) ∧ RepD (kx X) H ρ ps (rows.map fun r => r.2.1) ∧ Paired ERel (rows.map fun r => r.2.1) (rows.map fun r => (r.2.1.1, r.2.1.2.1, r.2.2)) ∧
      ∀ r ∈ rows, s.heap.IsTuple r.1 #[.ref r.2.1.2.1, r.2.2] ∧ (nestedKind X.prog X.w).is s.heap r.2.1.1 r.2.1.2.1
  | [], ps, vs, its, e, g, r, rv => by
    cases e
    cases r
    cases rv
    exact ⟨[], rfl, .nil, .nil, fun r hr => by cases hr⟩
  | t :: ts, ps, vs, its, e, g, r, rv => by
    unfold optAll at e
    split at e
    · rename_i p ps' h1 h2
      cases e
      cases r with
      | cons r1 r2 =>
        cases rv with
        | cons q1 q2 =>
          rw [List.all_cons, Bool.and_eq_true] at g
          obtain ⟨rows, e1, e2, e3, e4⟩ := pair_rows I h2 g.2 r2 q2
          unfold pairT at h1
          split at h1
          · rename_i k v
            cases h1
            cases r1 with
            | @tup b xs _ hb rb =>
              cases rb with
              | cons rk rb =>
                cases rb with
                | cons rvv rb =>
                  cases rb
                  have gk := g.1
                  unfold goodK at gk
                  rw [Bool.and_eq_true] at gk
                  obtain ⟨n, hn⟩ := Option.isSome_iff_exists.mp gk.2
                  obtain ⟨kb, rfl⟩ := tup_ref gk.1 rk
                  cases q1
                  obtain ⟨is, riv, ⟨o, ho, hc, m, hd⟩, _⟩ := I.tuple hb
                  cases riv with
                  | cons z1 z2 =>
                    cases z2 with
                    | @cons _ uv _ _ z2 z3 =>
                      cases z3
                      cases z1
                      refine ⟨(b, (n, kb, _), uv) :: rows, by rw [e1]; rfl, .cons hn rk rvv e2, .cons ⟨rfl, rfl, z2⟩ e3, fun r hr => ?_⟩
                      rcases List.mem_cons.mp hr with e | hr
                      · subst e
                        exact ⟨⟨o, ho, hc, m, hd⟩, nk_key I hn rk⟩
                      · exact e4 r hr
          · cases h1
    · cases e
def mergeX : List (NestedKey × Addr × V) → List (NestedKey × Addr × V) → List (NestedKey × Addr × V)
  | acc, [] => acc
  | acc, p :: r => mergeX (storeX acc p.1 p.2.1 p.2.2) r
theorem merge_rep {K : KX} : ∀ {ps : List (T × T)} {xs : List (NestedKey × Addr × V)} {acc : List (T × T)} {ax : List (NestedKey × Addr × V)}, RepD K H ρ ps xs → RepD K H ρ acc ax → RepD K H ρ (mergeD acc ps) (mergeX ax xs)
  | [], _, acc, ax, r, a => by cases r; exact a
  | (k, v) :: ps, _, acc, ax, r, a => by
    cases r with
    | cons hk rk rv rr =>
      unfold mergeD mergeX
      rw [hk]
      exact merge_rep rr (repd_store a hk rk rv)
theorem merge_erel : ∀ {xs : List (NestedKey × Addr × V)} {ys : List (NestedKey × Addr × Value)} {ax : List (NestedKey × Addr × V)} {ay : List (NestedKey × Addr × Value)}, Paired ERel xs ys → Paired ERel ax ay → Paired ERel (mergeX ax xs) (storedAllH ay ys)
  | _, _, ax, ay, .nil, a => a
  | x :: xs, y :: ys, ax, ay, .cons p q, a => by
    show Paired ERel (mergeX (storeX ax x.1 x.2.1 x.2.2) xs) (storedAllH (storedH ay y.1 y.2.1 y.2.2) ys)
    obtain ⟨p1, p2, p3⟩ := p
    rw [← p1, ← p2]
    exact merge_erel q (erel_store a p3)
theorem mergeX_len : ∀ (xs ax : List (NestedKey × Addr × V)), (mergeX ax xs).length ≤ ax.length + xs.length
  | [], ax => by simp [mergeX]
  | x :: xs, ax => by
    have h1 := mergeX_len xs (storeX ax x.1 x.2.1 x.2.2)
    have h2 := storeX_len ax x.1 x.2.1 x.2.2
    unfold mergeX
    rw [List.length_cons]
    omega
theorem dict_core (hc : X.calm = true) (hu : X.A.units + 64 < cLine) (I : Inv X pins σ H s) {a : Addr} {Ty : String} {fp : List Addr} {rows : List PRow} {ps : List (T × T)} {OK : Heap → Prop}
    (e2 : RepD (kx X) H ρ ps (rows.map fun r => r.2.1)) (e3 : Paired ERel (rows.map fun r => r.2.1) (rows.map fun r => (r.2.1.1, r.2.1.2.1, r.2.2))) (e4 : ∀ r ∈ rows, s.heap.IsTuple r.1 #[.ref r.2.1.2.1, r.2.2] ∧ (nestedKind X.prog X.w).is s.heap r.2.1.1 r.2.1.2.1)
    (P : PairArg X.prog X.w Ty a fp [] (rows.map fun r => (Value.ref r.2.1.2.1, r.2.2)).length (PairRel (rows.map fun r => (Value.ref r.2.1.2.1, r.2.2))) OK) (ok : OK s.heap) (hz : rows.length ≤ sizeLine)
    {Q : VK} (q : ∀ p xs, H p = none → RepD (kx X) H ρ (mergeD [] ps) xs → Q (.ref p) (upd H p (dnO (kx X) p xs))) : wpAny (model X.prog X.w) X.A (call (.type "dict") [.ref a]) (EP X pins σ Q) X.xe s := by
  refine call_dict_pairsH (knd := nestedKind X.prog X.w) (ps := rows.map fun r => (r.2.1.1, r.2.1.2.1, r.2.2)) P (I.ok.hd hc) (show X.A.units + 2 + 8 < cLine by omega) ok ⟨by simp, fun i key v h => ?_⟩ (fun h' keep x hx => ?_) (by simpa using hz) fun h' tk dh keep => ?_
  · have h : (rows.map fun r => (Value.ref r.2.1.2.1, r.2.2))[i]? = some (key, v) := h
    rw [List.getElem?_map] at h
    cases hr : rows[i]? with
    | none => rw [hr] at h; cases h
    | some r =>
      rw [hr] at h
      cases h
      exact ⟨r.2.1.1, r.2.1.2.1, by rw [List.getElem?_map, hr]; rfl, rfl⟩
  · obtain ⟨r, hr, rfl⟩ := List.mem_map.mp hx
    refine nestedKind_stays.stays (fun b o vs n e _ => keep b o (Nat.ne_of_lt (Heap.lt_size e)) (fun z => by cases z) e) (e4 r hr).2
  · have ea := merge_erel e3 (.nil : Paired ERel [] [])
    have hb := (dk_empty (P := X.prog) (w := X.w) (H := H) s.heap I.big).2.1
    have hl := mergeX_len (rows.map fun r => r.2.1) []
    simp only [List.length_nil, Nat.zero_add, List.length_map] at hl
    exact ⟨.ref s.heap.objs.size, _, I.laid (t' := tk) (o := dnO (kx X) s.heap.objs.size (mergeX [] (rows.map fun r => r.2.1))) (fun b u e => keep b u (fun z => by cases z) e) (Nat.le_refl _) (dn_obj (Nat.le_trans hl hz) hb ea dh), rfl, q _ _ (I.hok.fresh (Nat.le_refl _)) (merge_rep e2 .nil)⟩
/-- the pairs, told by their places -/
theorem pair_items {h : Heap} {rows : List PRow} (e4 : ∀ r ∈ rows, h.IsTuple r.1 #[.ref r.2.1.2.1, r.2.2]) : PairItems h ((rows.map fun r => Value.ref r.1).toArray) (fun j => ((rows[j]?).map (·.1)).getD 0) (rows.map fun r => (Value.ref r.2.1.2.1, r.2.2)) := by
  refine ⟨by simp, fun j k v hj => ?_⟩
  rw [List.getElem?_map] at hj
  cases hr : rows[j]? with
  | none => rw [hr] at hj; cases hj
  | some r =>
    rw [hr] at hj
    cases hj
    refine ⟨by simp [hr], ?_⟩
    show PairAt h (((rows[j]?).map (·.1)).getD 0) _ _
    rw [hr]
    exact .inl (e4 r (List.mem_of_getElem? hr))
theorem ct_dict (hc : X.calm = true) (hu : X.A.units + 64 < cLine) : CallT X (.type "dict") dictT := by
  intro ρ st H ts t st' vs w rs e Q q
  unfold dictT at e
  split at e
  · rename_i x
    cases h1 : pairsOf st x with
    | none => simp [h1] at e
    | some p =>
      obtain ⟨tp, its⟩ := p
      simp only [h1, Option.bind_some] at e
      cases h2 : optAll pairT its with
      | none => simp [h2] at e
      | some ps =>
        simp only [h2, Option.bind_some] at e
        split at e
        · rename_i hz
          cases e
          cases rs with
          | @cons _ vx _ _ r1 r2 =>
            cases r2
            refine ⟨fun us H Q => ∃ (ρ : List Addr) (st : Store) (w : Wd (kx X) ρ st H) (r : Rep (kx X) H ρ x vx), us = [vx] ∧ pairsOf st x = some (tp, its) ∧ QE (kx X) H ρ (.ref st.length) (st ++ [.dN (mergeD [] ps)]) Q, ?_, ⟨ρ, st, w, r1, rfl, h1, q⟩⟩
            intro pins s σ H us vs Q I rv h
            obtain ⟨ρ, st, w, r, rfl, h1, q⟩ := h
            obtain ⟨v, rfl, rx⟩ := vals1 rv
            have fin : ∀ p xs, H p = none → RepD (kx X) H ρ (mergeD [] ps) xs → Q (.ref p) (upd H p (dnO (kx X) p xs)) := fun p xs hp rd => by
              have f0 : Fut H (upd H p (dnO (kx X) p xs)) ρ (ρ ++ [p]) := ⟨Ext.new hp, [p], rfl⟩
              obtain ⟨w1, f⟩ := w.push (o := .dN (mergeD [] ps)) (u := dnO (kx X) p xs) hp ⟨xs, upd_same, rd.up f0⟩
              exact q _ _ _ f w1 (.ref (by rw [← w.len, List.getElem?_append_right (Nat.le_refl _)]; simp))
            have hlen : ∀ {rows : List PRow}, RepD (kx X) H ρ ps (rows.map fun r => r.2.1) → rows.length ≤ sizeLine := fun rd => by
              have := repd_len rd
              rw [List.length_map] at this
              rw [← this]
              exact hz.1
            unfold pairsOf at h1
            split at h1
            · cases h1
              cases r with
              | ptp hp rr =>
                obtain ⟨o, ho, hd0⟩ := hp
                cases rx
                obtain ⟨hg, hzs, itv, rvv, o', ho', hc', m, hd'⟩ := I.hok _ _ ho
                rw [hg] at ho'
                cases ho'
                obtain ⟨rows, e1, e2, e3, e4⟩ := pair_rows I h2 hz.2 rr rvv
                subst e1
                exact dict_core hc hu I e2 e3 e4 (PairArg.tuple _ _ _ _) ⟨⟨o, m, hg, hc', hd0, hd'⟩, pair_items fun r hr => (e4 r hr).1⟩ (hlen e2) fin
            · split at h1
              · rename_i hl
                cases h1
                obtain ⟨a, us, rfl, _, h3, r3⟩ := rep_lst w r hl
                cases rx
                obtain ⟨hzs, itv, m, rvv, hg⟩ := I.hok _ _ h3
                obtain ⟨rows, e1, e2, e3, e4⟩ := pair_rows I h2 hz.2 r3 rvv
                subst e1
                exact dict_core hc hu I e2 e3 e4 (PairArg.list _ _ _ _) ⟨⟨_, m, hg, rfl, rfl, rfl⟩, pair_items fun r hr => (e4 r hr).1⟩ (hlen e2) fin
              · cases h1
            · cases h1
        · cases e
  · cases e
end
end TL
/-! TL37 -/
set_option Elab.async false
set_option linter.all false
set_option maxRecDepth 100000
set_option maxHeartbeats 4000000
/-! comprehensions and loops over what is told by a list of another kind -/
namespace TL
open PySem L2
section
variable {α : Type} {it : Its1} {tt : XT} {te tk tv : XE} {fi : XI} {g : XG} {e : Env1} {st s1 : Store} {vs : List Nat}
theorem lcL_enc (enc : α → T) (p : α → Bool) (f : α → T) (ev : α → Env1) {qs : List α} (hit : ∀ acc, it (s1 ++ [.lst acc]) = some (qs.map enc)) (hlen : qs.length ≤ 1000)
    (hg : ∀ q ∈ qs, ∀ acc, g (enc q) e (s1 ++ [.lst acc]) = some (ev q, s1 ++ [.lst acc]))
    (ht : ∀ q ∈ qs, ∀ acc, tt (ev q) (s1 ++ [.lst acc]) = some (p q, s1 ++ [.lst acc]))
    (hte : ∀ q ∈ qs, p q = true → ∀ acc, te (ev q) (s1 ++ [.lst acc]) = some (f q, s1 ++ [.lst acc])) :
    ∀ (n k : Nat) (acc : List T), k ≤ qs.length → qs.length - k < n → acc.length ≤ k → lcL it g tt te s1.length n k e (s1 ++ [.lst acc]) = some (s1 ++ [.lst (acc ++ ((qs.drop k).filter p).map f)])
  | 0, k, acc, _, h, _ => by omega
  | n + 1, k, acc, hk, hn, ha => by
    unfold lcL
    rw [hit acc]
    simp only [Option.bind_some]
    cases hx : qs[k]? with
    | none =>
      have : qs.length ≤ k := List.getElem?_eq_none_iff.mp hx
      have hkk : k = qs.length := by omega
      subst hkk
      simp
    | some q =>
      have hlt := (List.getElem?_eq_some_iff.mp hx).1
      have hm : q ∈ qs := List.mem_of_getElem? hx
      have hx2 : (qs.map enc)[k]? = some (enc q) := by rw [List.getElem?_map, hx]; rfl
      have hd : qs.drop k = q :: qs.drop (k + 1) := by
        rw [List.drop_eq_getElem_cons hlt]
        congr 1
        exact (List.getElem?_eq_some_iff.mp hx).2
      have hz : acc.length < sizeLine := small1000 (by omega)
      simp only [hx2, hg q hm acc, Option.bind_some, ht q hm acc]
      cases hp : p q with
      | true =>
        have h := lcL_enc enc p f ev hit hlen hg ht hte n (k + 1) (acc ++ [f q]) (by omega) (by omega) (by simp; omega)
        simp only [if_true, hte q hm hp acc, Option.bind_some, last_get, hz, last_set]
        rw [h, hd, List.filter_cons_of_pos hp]
        simp
      | false =>
        have h := lcL_enc enc p f ev hit hlen hg ht hte n (k + 1) acc (by omega) (by omega) (by omega)
        simp only [Bool.false_eq_true, if_false]
        rw [h, hd, List.filter_cons_of_neg (by simp [hp])]
theorem lc_enc (enc : α → T) (p : α → Bool) (f : α → T) (ev : α → Env1) {qs : List α} (hfi : fi e st = some (it, s1)) (hit : ∀ acc, it (s1 ++ [.lst acc]) = some (qs.map enc)) (hlen : qs.length ≤ 1000)
    (hg : ∀ q ∈ qs, ∀ acc, g (enc q) (wipeE e vs) (s1 ++ [.lst acc]) = some (ev q, s1 ++ [.lst acc]))
    (ht : ∀ q ∈ qs, ∀ acc, tt (ev q) (s1 ++ [.lst acc]) = some (p q, s1 ++ [.lst acc]))
    (hte : ∀ q ∈ qs, p q = true → ∀ acc, te (ev q) (s1 ++ [.lst acc]) = some (f q, s1 ++ [.lst acc])) :
    xLc fi g vs tt te e st = some (.ref s1.length, s1 ++ [.lst ((qs.filter p).map f)]) := by
  unfold xLc
  simp only [hfi, Option.bind_some, hit [], List.length_map, lcL_enc enc p f ev hit hlen hg ht hte (qs.length + 1) 0 [] (Nat.zero_le _) (by omega) (Nat.le_refl _), Option.map_some, List.nil_append, List.drop_zero]
/-- without a test -/
theorem lc_all (enc : α → T) (f : α → T) (ev : α → Env1) {qs : List α} (hfi : fi e st = some (it, s1)) (hit : ∀ acc, it (s1 ++ [.lst acc]) = some (qs.map enc)) (hlen : qs.length ≤ 1000)
    (hg : ∀ q ∈ qs, ∀ acc, g (enc q) (wipeE e vs) (s1 ++ [.lst acc]) = some (ev q, s1 ++ [.lst acc]))
    (hte : ∀ q ∈ qs, ∀ acc, te (ev q) (s1 ++ [.lst acc]) = some (f q, s1 ++ [.lst acc])) :
    xLc fi g vs xYes te e st = some (.ref s1.length, s1 ++ [.lst (qs.map f)]) := by
  have h := lc_enc (tt := xYes) (te := te) enc (fun _ => true) f ev hfi hit hlen hg (fun q hq acc => rfl) (fun q hq _ acc => hte q hq acc)
  rw [h, List.filter_eq_self.mpr fun _ _ => rfl]
theorem storeD_len (kvs : List (T × T)) (t : T) (k : NestedKey) (u : T) : (storeD kvs t k u).length ≤ kvs.length + 1 := by
  unfold storeD
  split <;> simp
theorem dcLN_enc (enc : α → T) (kt vt : α → T) (kn : α → NestedKey) (ev : α → Env1) {qs : List α} (hit : ∀ kvs, it (s1 ++ [.dN kvs]) = some (qs.map enc)) (hlen : qs.length ≤ 1000)
    (hg : ∀ q ∈ qs, ∀ kvs, g (enc q) e (s1 ++ [.dN kvs]) = some (ev q, s1 ++ [.dN kvs]))
    (hk : ∀ q ∈ qs, ∀ kvs, tk (ev q) (s1 ++ [.dN kvs]) = some (kt q, s1 ++ [.dN kvs])) (hn : ∀ q ∈ qs, toNK nkd (kt q) = some (kn q) ∧ isTup (kt q) = true)
    (hv : ∀ q ∈ qs, ∀ kvs, tv (ev q) (s1 ++ [.dN kvs]) = some (vt q, s1 ++ [.dN kvs])) :
    ∀ (n k : Nat) (kvs : List (T × T)), k ≤ qs.length → qs.length - k < n → kvs.length ≤ k → dcLN it g xYes tk tv s1.length n k e (s1 ++ [.dN kvs]) = some (s1 ++ [.dN ((qs.drop k).foldl (fun kvs q => storeD kvs (kt q) (kn q) (vt q)) kvs)])
  | 0, k, kvs, _, h, _ => by omega
  | n + 1, k, kvs, hk0, hn0, ha => by
    unfold dcLN
    rw [hit kvs]
    simp only [Option.bind_some]
    cases hx : qs[k]? with
    | none =>
      have : qs.length ≤ k := List.getElem?_eq_none_iff.mp hx
      have hkk : k = qs.length := by omega
      subst hkk
      simp
    | some q =>
      have hlt := (List.getElem?_eq_some_iff.mp hx).1
      have hm : q ∈ qs := List.mem_of_getElem? hx
      have hx2 : (qs.map enc)[k]? = some (enc q) := by rw [List.getElem?_map, hx]; rfl
      have hd : qs.drop k = q :: qs.drop (k + 1) := by
        rw [List.drop_eq_getElem_cons hlt]
        congr 1
        exact (List.getElem?_eq_some_iff.mp hx).2
      have hz : kvs.length < sizeLine := small1000 (by omega)
      have hl := storeD_len kvs (kt q) (kn q) (vt q)
      have h := dcLN_enc enc kt vt kn ev hit hlen hg hk hn hv n (k + 1) (storeD kvs (kt q) (kn q) (vt q)) (by omega) (by omega) (by omega)
      have hT := (hn q hm).2
      simp only [hx2, hg q hm kvs, Option.bind_some, xYes, if_true, hk q hm kvs, hv q hm kvs, last_get, (hn q hm).1, hz, hT, and_self, last_set]
      rw [hd, List.foldl_cons]
      exact h
theorem dcN_enc (enc : α → T) (kt vt : α → T) (kn : α → NestedKey) (ev : α → Env1) {qs : List α} (hfi : fi e st = some (it, s1)) (hit : ∀ kvs, it (s1 ++ [.dN kvs]) = some (qs.map enc)) (hlen : qs.length ≤ 1000)
    (hg : ∀ q ∈ qs, ∀ kvs, g (enc q) (wipeE e vs) (s1 ++ [.dN kvs]) = some (ev q, s1 ++ [.dN kvs]))
    (hk : ∀ q ∈ qs, ∀ kvs, tk (ev q) (s1 ++ [.dN kvs]) = some (kt q, s1 ++ [.dN kvs])) (hn : ∀ q ∈ qs, toNK nkd (kt q) = some (kn q) ∧ isTup (kt q) = true)
    (hv : ∀ q ∈ qs, ∀ kvs, tv (ev q) (s1 ++ [.dN kvs]) = some (vt q, s1 ++ [.dN kvs])) :
    xDcN fi g vs xYes tk tv e st = some (.ref s1.length, s1 ++ [.dN (qs.foldl (fun kvs q => storeD kvs (kt q) (kn q) (vt q)) [])]) := by
  unfold xDcN
  simp only [hfi, Option.bind_some, hit [], List.length_map, dcLN_enc enc kt vt kn ev hit hlen hg hk hn hv (qs.length + 1) 0 [] (Nat.zero_le _) (by omega) (Nat.le_refl _), Option.map_some, List.drop_zero]
/-- a loop whose body leads from each state of a list to the next -/
theorem for_enc {b : XS} (enc : α → T) {qs : List α} (P : Nat → Env1 → Store → Prop) (hfi : fi e st = some (it, s1)) (hit : ∀ k e s, P k e s → it s = some (qs.map enc)) (h0 : P 0 e s1)
    (hs : ∀ k e s q, qs[k]? = some q → P k e s → ∃ e1 s1 e' s', g (enc q) e s = some (e1, s1) ∧ b e1 s1 = some (.nx e' s') ∧ P (k + 1) e' s') :
    ∃ e' s', xsFor fi g b e st = some (.nx e' s') ∧ P qs.length e' s' := by
  obtain ⟨e', s', h1, h2⟩ := for_inv (ts := qs.map enc) (b := b) P hfi hit h0 fun k e s x hx hP => by
    rw [List.getElem?_map] at hx
    cases hq : qs[k]? with
    | none => rw [hq] at hx; cases hx
    | some q =>
      rw [hq] at hx
      cases hx
      obtain ⟨e1, s2, e', s', a, b, c⟩ := hs k e s q hq hP
      exact ⟨e1, s2, _, e', s', a, b, .inl rfl, c⟩
  rw [List.length_map] at h2
  exact ⟨e', s', h1, h2⟩
end
end TL
/-! TL38 -/
set_option Elab.async false
set_option linter.all false
set_option maxRecDepth 100000
set_option maxHeartbeats 4000000
/-! repr of a tuple that has no dict of its own -/
namespace TL
variable [Tb]
open PySem PySem.Spec PyProof.Rows L2
def reprV : FA := fun ts st => match ts with
  | [.ptp us] => reprT [.tup us] st
  | _ => reprU ts st
theorem ct_reprV {X : Cx} (hu : X.A.units + 64 < cLine) (hg : X.A.guards = some []) : CallT X (.builtin "repr") reprV := by
  intro ρ st H ts t st' vs w rs e Q q
  unfold reprV at e
  split at e
  · cases rs with
    | cons r1 r2 =>
      cases r2
      cases r1 with
      | ptp a b => exact ct_repr hu hg ρ st H _ t st' _ w (.cons (.tup a.sqT b) .nil) e Q q
  · exact ct_reprU hu hg ρ st H _ t st' vs w rs e Q q
@[simp] theorem reprV_tup {ts : List T} {st : Store} : reprV [.tup ts] st = reprT [.tup ts] st := rfl
@[simp] theorem reprV_ptp {ts : List T} {st : Store} : reprV [.ptp ts] st = reprT [.tup ts] st := rfl
@[simp] theorem reprV_ref {l : Nat} {st : Store} : reprV [.ref l] st = reprT [.ref l] st := rfl
@[simp] theorem reprV_bl {b : Bool} {st : Store} : reprV [.bl b] st = some (.str (if b then "True" else "False"), st) := rfl
@[simp] theorem reprV_non {st : Store} : reprV [.non] st = some (.str "None", st) := rfl
end TL
/-! R1 -/
set_option linter.all false
set_option maxRecDepth 100000
set_option maxHeartbeats 4000000
/-! polynomials as lists of members: what each is as a functional; canonical lists -/
namespace Poly
abbrev PKey := List Nat
abbrev Mb := PKey × Rat
abbrev Pl := List Mb
def Phi (p : Pl) (f : PKey → Rat) : Rat := (p.map fun m => m.2 * f m.1).sum
theorem phi_nil (f : PKey → Rat) : Phi [] f = 0 := rfl
theorem phi_cons (m : Mb) (p : Pl) (f : PKey → Rat) : Phi (m :: p) f = m.2 * f m.1 + Phi p f := by unfold Phi; rw [List.map_cons, List.sum_cons]
theorem phi_app (f : PKey → Rat) : ∀ p q : Pl, Phi (p ++ q) f = Phi p f + Phi q f
  | [], q => by rw [List.nil_append, phi_nil, Rat.zero_add]
  | m :: p, q => by rw [List.cons_append, phi_cons, phi_cons, phi_app f p q, Rat.add_assoc]
theorem phi_congr {f g : PKey → Rat} : ∀ {p : Pl}, (∀ m ∈ p, f m.1 = g m.1) → Phi p f = Phi p g
  | [], _ => rfl
  | m :: p, h => by rw [phi_cons, phi_cons, h m List.mem_cons_self, phi_congr fun x hx => h x (List.mem_cons_of_mem _ hx)]
theorem phi_plus (f g : PKey → Rat) : ∀ p : Pl, Phi p (fun a => f a + g a) = Phi p f + Phi p g
  | [] => by rw [phi_nil, phi_nil, phi_nil]; grind
  | m :: p => by rw [phi_cons, phi_cons, phi_cons, phi_plus f g p]; grind
theorem phi_zero : ∀ p : Pl, Phi p (fun _ => 0) = 0
  | [] => rfl
  | m :: p => by rw [phi_cons, phi_zero p]; grind
theorem phi_times (f : PKey → Rat) (c : Rat) : ∀ p : Pl, Phi p (fun a => f a * c) = Phi p f * c
  | [] => by rw [phi_nil, phi_nil]; grind
  | m :: p => by rw [phi_cons, phi_cons, phi_times f c p]; grind
theorem phi_perm {p q : Pl} (h : p.Perm q) (f : PKey → Rat) : Phi p f = Phi q f := by
  induction h with
  | nil => rfl
  | cons x _ ih => rw [phi_cons, phi_cons, ih]
  | swap x y l => rw [phi_cons, phi_cons, phi_cons, phi_cons]; grind
  | trans _ _ a b => exact a.trans b
/-- the same to each functional -/
def Same (p q : Pl) : Prop := ∀ f, Phi p f = Phi q f
theorem Same.refl (p : Pl) : Same p p := fun _ => rfl
theorem Same.symm {p q : Pl} (h : Same p q) : Same q p := fun f => (h f).symm
theorem Same.trans {p q r : Pl} (h : Same p q) (g : Same q r) : Same p r := fun f => (h f).trans (g f)
/-! ### dicts -/
def keys (d : Pl) : List PKey := d.map (·.1)
def lookP (d : Pl) (k : PKey) : Option Rat := (d.find? fun m => decide (m.1 = k)).map (·.2)
def setP (d : Pl) (k : PKey) (x : Rat) : Pl := if (lookP d k).isSome then d.map fun m => if m.1 = k then (m.1, x) else m else d ++ [(k, x)]
def addP (d : Pl) (k : PKey) (x : Rat) : Pl := setP d k ((lookP d k).getD 0 + x)
theorem look_none {d : Pl} {k : PKey} : lookP d k = none ↔ k ∉ keys d := by
  unfold lookP keys
  rw [Option.map_eq_none_iff, List.find?_eq_none]
  constructor
  · intro h hk
    obtain ⟨m, hm, rfl⟩ := List.mem_map.mp hk
    exact absurd (h m hm) (by simp)
  · intro h m hm hd
    exact h (List.mem_map.mpr ⟨m, hm, of_decide_eq_true hd⟩)
theorem look_mem {d : Pl} {k : PKey} {x : Rat} (h : lookP d k = some x) : (k, x) ∈ d := by
  unfold lookP at h
  cases e : d.find? (fun m => decide (m.1 = k)) with
  | none => rw [e] at h; cases h
  | some m =>
    rw [e] at h
    cases h
    have h1 := List.find?_some e
    have h2 := List.mem_of_find?_eq_some e
    have h3 : m.1 = k := of_decide_eq_true h1
    rw [← h3]; exact h2
theorem keys_set {d : Pl} {k : PKey} {x : Rat} : keys (setP d k x) = if k ∈ keys d then keys d else keys d ++ [k] := by
  unfold setP
  by_cases h : k ∈ keys d
  · have h1 : (lookP d k).isSome = true := by
      rw [Option.isSome_iff_ne_none]; exact fun e => look_none.mp e h
    rw [if_pos h1, if_pos h]
    unfold keys
    rw [List.map_map]
    refine List.map_congr_left fun m _ => ?_
    show (if m.1 = k then (m.1, x) else m).1 = m.1
    split <;> rfl
  · have h1 : ¬ (lookP d k).isSome = true := by
      rw [look_none.mpr h]; simp
    rw [if_neg h1, if_neg h]
    unfold keys
    rw [List.map_append]; rfl
theorem nodup_set {d : Pl} {k : PKey} {x : Rat} (h : (keys d).Nodup) : (keys (setP d k x)).Nodup := by
  rw [keys_set]
  split
  · exact h
  · rename_i hk
    refine List.nodup_append.mpr ⟨h, by simp, fun a ha b hb e => ?_⟩
    rw [List.mem_singleton.mp hb] at e
    exact hk (e ▸ ha)
theorem phi_map_set (f : PKey → Rat) (k : PKey) (x y : Rat) : ∀ {d : Pl}, (keys d).Nodup → (k, y) ∈ d → Phi (d.map fun m => if m.1 = k then (m.1, x) else m) f = Phi d f + (x - y) * f k
  | [], _, h => by cases h
  | m :: d, hn, h => by
    have hn1 : m.1 ∉ keys d ∧ (keys d).Nodup := List.nodup_cons.mp hn
    rw [List.map_cons, phi_cons, phi_cons]
    rcases List.mem_cons.mp h with e | h
    · subst e
      have hid : (d.map fun m => if m.1 = k then (m.1, x) else m) = d := by
        have : ∀ m ∈ d, (if m.1 = k then (m.1, x) else m) = m := fun m hm => by
          have : m.1 ≠ k := fun e => hn1.1 (List.mem_map.mpr ⟨m, hm, e⟩)
          rw [if_neg this]
        rw [List.map_congr_left this, List.map_id']
      rw [hid]
      simp only [if_true]
      grind
    · have hk : k ∈ keys d := List.mem_map.mpr ⟨_, h, rfl⟩
      have hne : m.1 ≠ k := fun e => hn1.1 (e ▸ hk)
      rw [if_neg hne, phi_map_set f k x y hn1.2 h]
      grind
theorem phi_add {d : Pl} {k : PKey} {x : Rat} (h : (keys d).Nodup) (f : PKey → Rat) : Phi (addP d k x) f = Phi d f + x * f k := by
  unfold addP setP
  cases e : lookP d k with
  | none =>
    simp only [Option.isSome_none, Bool.false_eq_true, if_false, Option.getD_none]
    rw [phi_app, phi_cons, phi_nil]
    grind
  | some y =>
    simp only [Option.isSome_some, if_true, Option.getD_some]
    rw [phi_map_set f k (y + x) y h (look_mem e)]
    grind
def addAll (d : Pl) (p : Pl) : Pl := p.foldl (fun d m => addP d m.1 m.2) d
theorem addAll_nodup : ∀ {p d : Pl}, (keys d).Nodup → (keys (addAll d p)).Nodup
  | [], d, h => h
  | m :: p, d, h => addAll_nodup (p := p) (nodup_set h)
theorem phi_addAll (f : PKey → Rat) : ∀ {p d : Pl}, (keys d).Nodup → Phi (addAll d p) f = Phi d f + Phi p f
  | [], d, h => by show Phi d f = _; rw [phi_nil, Rat.add_zero]
  | m :: p, d, h => by
    show Phi (addAll (addP d m.1 m.2) p) f = _
    rw [phi_addAll f (p := p) (d := addP d m.1 m.2) (nodup_set h), phi_add h, phi_cons]
    grind
def setAll (d : Pl) (p : Pl) : Pl := p.foldl (fun d m => setP d m.1 m.2) d
theorem setAll_new : ∀ {p d : Pl}, (keys (d ++ p)).Nodup → setAll d p = d ++ p
  | [], d, h => by show d = _; rw [List.append_nil]
  | m :: p, d, h => by
    have hk : m.1 ∉ keys d := by
      unfold keys at h ⊢
      rw [List.map_append, List.map_cons] at h
      have := (List.nodup_append.mp h).2.2
      exact fun hm => this _ hm _ List.mem_cons_self rfl
    have e : setP d m.1 m.2 = d ++ [m] := by
      unfold setP
      rw [look_none.mpr hk]
      simp
    show setAll (setP d m.1 m.2) p = _
    rw [e, setAll_new (p := p) (by rw [List.append_assoc]; exact h), List.append_assoc]
    rfl
/-! ### in order -/
def kI (k : PKey) : List Int := k.map fun n : Nat => (n : Int)
theorem kI_inj : ∀ {a b : PKey}, kI a = kI b → a = b
  | [], [], _ => rfl
  | [], _ :: _, h => by cases h
  | _ :: _, [], h => by cases h
  | x :: a, y :: b, h => by
    injection h with h1 h2
    have e : x = y := Int.ofNat.inj h1
    rw [e, kI_inj h2]
def kle (a b : PKey) : Bool := decide (kI a ≤ kI b)
def sortK (ks : List PKey) : List PKey := ks.mergeSort kle
theorem kle_trans (a b c : PKey) (h1 : kle a b = true) (h2 : kle b c = true) : kle a c = true :=
  decide_eq_true (List.le_trans (of_decide_eq_true h1) (of_decide_eq_true h2))
theorem kle_total (a b : PKey) : (kle a b || kle b a) = true := by
  unfold kle
  rcases List.le_total (kI a) (kI b) with h | h
  · simp [h]
  · simp [h]
theorem kle_anti {a b : PKey} (h1 : kle a b = true) (h2 : kle b a = true) : a = b := kI_inj (List.le_antisymm (of_decide_eq_true h1) (of_decide_eq_true h2))
theorem sortK_perm (ks : List PKey) : (sortK ks).Perm ks := List.mergeSort_perm _ _
theorem sortK_rise (ks : List PKey) : (sortK ks).Pairwise fun a b => kle a b = true := List.pairwise_mergeSort kle_trans kle_total ks
/-- a member of each key, in order, those of factor 0 left out -/
def canon (d : Pl) : Pl := (((sortK (keys d)).map fun k => (k, (lookP d k).getD 0)).filter fun m => decide (m.2 ≠ 0))
structure Can (p : Pl) : Prop where
  asc : p.Pairwise fun a b => kle a.1 b.1 = true ∧ a.1 ≠ b.1
  nz : ∀ m ∈ p, m.2 ≠ 0
theorem look_of {d : Pl} (h : (keys d).Nodup) : ∀ {m : Mb}, m ∈ d → lookP d m.1 = some m.2 := by
  intro m hm
  cases e : lookP d m.1 with
  | none => exact absurd (List.mem_map.mpr ⟨m, hm, rfl⟩) (look_none.mp e)
  | some x =>
    have hx := look_mem e
    have : ∀ {d : Pl}, (keys d).Nodup → m ∈ d → (m.1, x) ∈ d → m.2 = x := by
      intro d
      induction d with
      | nil => intro _ hm _; cases hm
      | cons n d ih =>
        intro hn hm hx
        have hn1 : n.1 ∉ keys d ∧ (keys d).Nodup := List.nodup_cons.mp hn
        rcases List.mem_cons.mp hm with e1 | h1 <;> rcases List.mem_cons.mp hx with e2 | h2
        · rw [e1, ← e2]
        · exact absurd (List.mem_map.mpr ⟨_, h2, by rw [e1]⟩) hn1.1
        · exact absurd (List.mem_map.mpr ⟨m, h1, by rw [← e2]⟩) hn1.1
        · exact ih hn1.2 h1 h2
    rw [this h hm hx]
theorem canon_can {d : Pl} (h : (keys d).Nodup) : Can (canon d) := by
  constructor
  · unfold canon
    refine List.Pairwise.filter _ (List.pairwise_map.mpr ?_)
    have h1 := sortK_rise (keys d)
    have h2 : (sortK (keys d)).Nodup := (sortK_perm _).nodup_iff.mpr h
    exact h1.and h2
  · intro m hm
    unfold canon at hm
    exact of_decide_eq_true (List.mem_filter.mp hm).2
theorem phi_filter (f : PKey → Rat) : ∀ p : Pl, Phi (p.filter fun m => decide (m.2 ≠ 0)) f = Phi p f
  | [] => rfl
  | m :: p => by
    by_cases h : m.2 = 0
    · rw [List.filter_cons_of_neg (by simp [h]), phi_filter f p, phi_cons, h]; grind
    · rw [List.filter_cons_of_pos (by simp [h]), phi_cons, phi_cons, phi_filter f p]
theorem map_keys {d : Pl} (h : (keys d).Nodup) : (keys d).map (fun k => (k, (lookP d k).getD 0)) = d := by
  unfold keys
  rw [List.map_map]
  have : ∀ m ∈ d, ((fun k => (k, (lookP d k).getD 0)) ∘ fun m : Mb => m.1) m = id m := fun m hm => by
    show (m.1, (lookP d m.1).getD 0) = m
    rw [look_of h hm]; rfl
  rw [List.map_congr_left this, List.map_id]
theorem canon_same {d : Pl} (h : (keys d).Nodup) : Same (canon d) d := fun f => by
  unfold canon
  rw [phi_filter, phi_perm ((sortK_perm (keys d)).map _), map_keys h]
/-- canonical lists that are the same to each functional are one -/
theorem can_one : ∀ {p q : Pl}, Can p → Can q → Same p q → p = q
  | [], [], _, _, _ => rfl
  | [], m :: q, _, hq, h => by
    exfalso
    have hz : Phi (m :: q) (fun k => if k = m.1 then 1 else 0) = m.2 := by
      rw [phi_cons, phi_congr (g := fun _ => 0) (fun x hx => if_neg fun e => ((List.pairwise_cons.mp hq.asc).1 x hx).2 e.symm), phi_zero]
      first | (simp; done) | (simp; grind) | grind
    have := h (fun k => if k = m.1 then 1 else 0)
    rw [hz, phi_nil] at this
    exact hq.nz m List.mem_cons_self this.symm
  | m :: p, [], hp, _, h => by
    exfalso
    have hz : Phi (m :: p) (fun k => if k = m.1 then 1 else 0) = m.2 := by
      rw [phi_cons, phi_congr (g := fun _ => 0) (fun x hx => if_neg fun e => ((List.pairwise_cons.mp hp.asc).1 x hx).2 e.symm), phi_zero]
      first | (simp; done) | (simp; grind) | grind
    have := h (fun k => if k = m.1 then 1 else 0)
    rw [hz, phi_nil] at this
    exact hp.nz m List.mem_cons_self this
  | m :: p, n :: q, hp, hq, h => by
    have hp1 := List.pairwise_cons.mp hp.asc
    have hq1 := List.pairwise_cons.mp hq.asc
    have one : ∀ {m : Mb} {p : Pl}, (∀ x ∈ p, kle m.1 x.1 = true ∧ m.1 ≠ x.1) → Phi (m :: p) (fun k => if k = m.1 then 1 else 0) = m.2 := fun {m p} hh => by
      rw [phi_cons, phi_congr (g := fun _ => 0) (fun x hx => if_neg fun e => (hh x hx).2 e.symm), phi_zero]
      first | (simp; done) | (simp; grind) | grind
    have out : ∀ {k : PKey} {m : Mb} {p : Pl}, (∀ x ∈ p, kle m.1 x.1 = true ∧ m.1 ≠ x.1) → kle k m.1 = true → k ≠ m.1 → Phi (m :: p) (fun j => if j = k then 1 else 0) = 0 := fun {k m p} hh h1 h2 => by
      have far : ∀ x ∈ m :: p, x.1 ≠ k := fun x hx e => by
        rcases List.mem_cons.mp hx with e2 | hx
        · exact h2 (by rw [← e, e2])
        · have := hh x hx
          rw [e] at this
          exact h2 (kle_anti h1 this.1)
      rw [phi_congr (g := fun _ => 0) (fun x hx => if_neg (far x hx)), phi_zero]
    have ek : m.1 = n.1 := by
      by_cases e : m.1 = n.1
      · exact e
      · exfalso
        rcases Bool.or_eq_true_iff.mp (kle_total m.1 n.1) with h1 | h1
        · have := h (fun k => if k = m.1 then 1 else 0)
          rw [one hp1.1, out hq1.1 h1 e] at this
          exact hp.nz m List.mem_cons_self this
        · have := h (fun k => if k = n.1 then 1 else 0)
          rw [one hq1.1, out hp1.1 h1 (fun z => e z.symm)] at this
          exact hq.nz n List.mem_cons_self this.symm
    have ev : m.2 = n.2 := by
      have h1 := h (fun k => if k = m.1 then 1 else 0)
      rw [one hp1.1] at h1
      rw [ek, one hq1.1] at h1
      exact h1
    have emn : m = n := Prod.ext ek ev
    subst emn
    rw [can_one ⟨hp1.2, fun x hx => hp.nz x (List.mem_cons_of_mem _ hx)⟩ ⟨hq1.2, fun x hx => hq.nz x (List.mem_cons_of_mem _ hx)⟩ fun f => ?_]
    have := h f
    rw [phi_cons, phi_cons] at this
    grind
theorem Can.nodup {p : Pl} (h : Can p) : (keys p).Nodup := List.pairwise_map.mpr (h.asc.imp fun e => e.2)
theorem Can.nil : Can [] := ⟨List.Pairwise.nil, fun m hm => by cases hm⟩
theorem canon_id {p : Pl} (h : Can p) : canon p = p := can_one (canon_can h.nodup) h (canon_same h.nodup)
theorem canon_one {p q : Pl} (hp : (keys p).Nodup) (hq : (keys q).Nodup) (h : Same p q) : canon p = canon q :=
  can_one (canon_can hp) (canon_can hq) (((canon_same hp).trans h).trans (canon_same hq).symm)
end Poly
/-! R2 -/
set_option linter.all false
set_option maxRecDepth 100000
set_option maxHeartbeats 4000000
/-! products, powers, worths, parts -/
namespace Poly
def addK (a b : PKey) : PKey := List.zipWith (· + ·) a b
theorem addK_assoc : ∀ a b c : PKey, addK (addK a b) c = addK a (addK b c)
  | [], _, _ => rfl
  | _ :: _, [], _ => rfl
  | _ :: _, _ :: _, [] => rfl
  | x :: a, y :: b, z :: c => by
    show (x + y + z) :: addK (addK a b) c = (x + (y + z)) :: addK a (addK b c)
    rw [addK_assoc a b c, Nat.add_assoc]
theorem addK_len {a b : PKey} {n : Nat} (ha : a.length = n) (hb : b.length = n) : (addK a b).length = n := by
  unfold addK
  rw [List.length_zipWith, ha, hb, Nat.min_self]
theorem addK_zero : ∀ {n : Nat} {b : PKey}, b.length = n → addK (List.replicate n 0) b = b
  | 0, [], _ => rfl
  | n + 1, y :: b, h => by
    show (0 + y) :: addK (List.replicate n 0) b = _
    rw [addK_zero (by simpa using h), Nat.zero_add]
theorem addK_zero' : ∀ {n : Nat} {b : PKey}, b.length = n → addK b (List.replicate n 0) = b
  | 0, [], _ => rfl
  | n + 1, y :: b, h => by
    show (y + 0) :: addK b (List.replicate n 0) = _
    rw [addK_zero' (by simpa using h), Nat.add_zero]
/-- keys of that length -/
def Wide (n : Nat) (p : Pl) : Prop := ∀ m ∈ p, m.1.length = n
def mulL (p q : Pl) : Pl := p.flatMap fun a => q.map fun b => (addK a.1 b.1, a.2 * b.2)
theorem phi_map (f : PKey → Rat) (a : PKey) (x : Rat) : ∀ q : Pl, Phi (q.map fun b => (addK a b.1, x * b.2)) f = x * Phi q (fun b => f (addK a b))
  | [] => by rw [List.map_nil, phi_nil, phi_nil, Rat.mul_zero]
  | m :: q => by rw [List.map_cons, phi_cons, phi_cons, phi_map f a x q]; grind
theorem phi_mul (f : PKey → Rat) : ∀ p q : Pl, Phi (mulL p q) f = Phi p (fun a => Phi q (fun b => f (addK a b)))
  | [], q => rfl
  | m :: p, q => by
    show Phi ((q.map fun b => (addK m.1 b.1, m.2 * b.2)) ++ mulL p q) f = _
    rw [phi_app, phi_map, phi_mul f p q, phi_cons]
theorem mul_same {p p' q q' : Pl} (h : Same p p') (g : Same q q') : Same (mulL p q) (mulL p' q') := fun f => by
  rw [phi_mul, phi_mul, h]
  exact phi_congr fun m _ => g _
theorem mul_assoc (p q r : Pl) : Same (mulL (mulL p q) r) (mulL p (mulL q r)) := fun f => by
  rw [phi_mul, phi_mul, phi_mul]
  refine phi_congr fun m _ => ?_
  rw [phi_mul]
  refine phi_congr fun n _ => ?_
  exact phi_congr fun l _ => by rw [addK_assoc]
theorem mul_app (p q r : Pl) : Same (mulL (p ++ q) r) (mulL p r ++ mulL q r) := fun f => by
  rw [phi_mul, phi_app, phi_app, phi_mul, phi_mul]
theorem app_same {p p' q q' : Pl} (h : Same p p') (g : Same q q') : Same (p ++ q) (p' ++ q') := fun f => by rw [phi_app, phi_app, h, g]
def oneL (n : Nat) : Pl := [(List.replicate n 0, 1)]
theorem one_mul {n : Nat} {p : Pl} (h : Wide n p) : Same (mulL (oneL n) p) p := fun f => by
  rw [phi_mul]
  show Phi [(List.replicate n 0, 1)] _ = _
  rw [phi_cons, phi_nil]
  have : Phi p (fun b => f (addK (List.replicate n 0) b)) = Phi p f := phi_congr fun m hm => by rw [addK_zero (h m hm)]
  rw [this]; grind
theorem mul_one {n : Nat} {p : Pl} (h : Wide n p) : Same (mulL p (oneL n)) p := fun f => by
  rw [phi_mul]
  refine phi_congr fun m hm => ?_
  show Phi [(List.replicate n 0, 1)] _ = _
  rw [phi_cons, phi_nil, addK_zero' (h m hm)]; grind
theorem wide_mul {n : Nat} {p q : Pl} (hp : Wide n p) (hq : Wide n q) : Wide n (mulL p q) := by
  intro m hm
  obtain ⟨a, ha, h⟩ := List.mem_flatMap.mp hm
  obtain ⟨b, hb, rfl⟩ := List.mem_map.mp h
  exact addK_len (hp a ha) (hq b hb)
theorem wide_one (n : Nat) : Wide n (oneL n) := by
  intro m hm
  rw [List.mem_singleton.mp hm]; simp
theorem wide_app {n : Nat} {p q : Pl} (hp : Wide n p) (hq : Wide n q) : Wide n (p ++ q) := fun m hm => (List.mem_append.mp hm).elim (hp m) (hq m)
/-! the keys of what is added up -/
theorem keys_addAll {n : Nat} : ∀ {p d : Pl}, (∀ k ∈ keys d, k.length = n) → (∀ m ∈ p, m.1.length = n) → ∀ k ∈ keys (addAll d p), k.length = n
  | [], d, h, _ => h
  | m :: p, d, h, hp => keys_addAll (p := p) (d := addP d m.1 m.2) (by
      unfold addP
      rw [keys_set]
      split
      · exact h
      · intro k hk
        rcases List.mem_append.mp hk with e | e
        · exact h k e
        · rw [List.mem_singleton.mp e]; exact hp m List.mem_cons_self) fun x hx => hp x (List.mem_cons_of_mem _ hx)
theorem keys_wide {n : Nat} {d : Pl} : (∀ k ∈ keys d, k.length = n) ↔ Wide n d := by
  constructor
  · exact fun h m hm => h m.1 (List.mem_map.mpr ⟨m, hm, rfl⟩)
  · intro h k hk
    obtain ⟨m, hm, rfl⟩ := List.mem_map.mp hk
    exact h m hm
theorem canon_sub {d : Pl} (h : (keys d).Nodup) : ∀ m ∈ canon d, m ∈ d := by
  intro m hm
  unfold canon at hm
  obtain ⟨k, hk, rfl⟩ := List.mem_map.mp (List.mem_filter.mp hm).1
  have h1 : k ∈ keys d := (sortK_perm _).mem_iff.mp hk
  obtain ⟨x, hx, rfl⟩ := List.mem_map.mp h1
  rw [look_of h hx]; exact hx
theorem wide_canon {n : Nat} {d : Pl} (h : (keys d).Nodup) (hw : Wide n d) : Wide n (canon d) := fun m hm => hw m (canon_sub h m hm)
/-- added up from nothing, in order -/
def nrm (p : Pl) : Pl := canon (addAll [] p)
theorem nodup_nil : (keys []).Nodup := List.nodup_nil
theorem nrm_can (p : Pl) : Can (nrm p) := canon_can (addAll_nodup nodup_nil)
theorem nrm_same (p : Pl) : Same (nrm p) p := fun f => by
  unfold nrm
  rw [canon_same (addAll_nodup nodup_nil), phi_addAll f nodup_nil, phi_nil, Rat.zero_add]
theorem nrm_wide {n : Nat} {p : Pl} (h : Wide n p) : Wide n (nrm p) := wide_canon (addAll_nodup nodup_nil) (keys_wide.mp (keys_addAll (by intro k hk; cases hk) h))
theorem nrm_one {p q : Pl} (h : Same p q) : nrm p = nrm q := can_one (nrm_can p) (nrm_can q) (((nrm_same p).trans h).trans (nrm_same q).symm)
theorem can_nrm {p : Pl} (h : Can p) : nrm p = p := can_one (nrm_can p) h (nrm_same p)
/-- what adding p to the dict of q gives -/
theorem plus_nrm {p q : Pl} (h : (keys p).Nodup) : canon (addAll p q) = nrm (p ++ q) :=
  can_one (canon_can (addAll_nodup h)) (nrm_can _) fun f => by rw [canon_same (addAll_nodup h), phi_addAll f h, nrm_same, phi_app]
/-! ### powers -/
def powL (n : Nat) (p : Pl) : Nat → Pl
  | 0 => oneL n
  | c + 1 => mulL (powL n p c) p
theorem pow_wide {n : Nat} {p : Pl} (h : Wide n p) : ∀ c, Wide n (powL n p c)
  | 0 => wide_one n
  | c + 1 => wide_mul (pow_wide h c) h
theorem pow_add {n : Nat} {p : Pl} (h : Wide n p) (a : Nat) : ∀ b, Same (powL n p (a + b)) (mulL (powL n p a) (powL n p b))
  | 0 => (mul_one (pow_wide h a)).symm
  | b + 1 => ((mul_same (pow_add h a b) (Same.refl p))).trans (mul_assoc _ _ _)
theorem pow_same {n : Nat} {p q : Pl} (h : Same p q) : ∀ c, Same (powL n p c) (powL n q c)
  | 0 => Same.refl _
  | c + 1 => mul_same (pow_same h c) h
theorem pow_two {n : Nat} {p : Pl} (h : Wide n p) : Same (powL n p 2) (mulL p p) := mul_same (one_mul h) (Same.refl p)
theorem pow_mul {n : Nat} {p : Pl} (h : Wide n p) : ∀ c, Same (powL n (mulL p p) c) (powL n p (2 * c))
  | 0 => Same.refl _
  | c + 1 => by
    have h1 := pow_mul h c
    have h2 := pow_add h (2 * c) 2
    exact ((mul_same h1 (pow_two h).symm)).trans h2.symm
/-! ### worths -/
def mono : List Rat → PKey → Rat
  | v :: vs, a :: as => v ^ a * mono vs as
  | _, _ => 1
theorem rpow_add (v : Rat) (x : Nat) : ∀ y : Nat, v ^ (x + y) = v ^ x * v ^ y
  | 0 => by rw [Nat.add_zero, Rat.pow_zero, Rat.mul_one]
  | y + 1 => by rw [← Nat.add_assoc, Rat.pow_succ, rpow_add v x y, Rat.pow_succ, Rat.mul_assoc]
theorem mono_add : ∀ {v : List Rat} {a b : PKey}, a.length = b.length → mono v (addK a b) = mono v a * mono v b
  | [], a, b, h => by cases a <;> cases b <;> (simp [mono]; try grind)
  | v :: vs, [], [], h => by simp [mono, addK]
  | v :: vs, x :: a, y :: b, h => by
    show v ^ (x + y) * mono vs (addK a b) = v ^ x * mono vs a * (v ^ y * mono vs b)
    rw [mono_add (v := vs) (by simpa using h), rpow_add]
    grind
def worth (v : List Rat) (p : Pl) : Rat := Phi p (mono v)
theorem worth_mul {n : Nat} {v : List Rat} {p q : Pl} (hp : Wide n p) (hq : Wide n q) : worth v (mulL p q) = worth v p * worth v q := by
  unfold worth
  rw [phi_mul]
  have : Phi p (fun a => Phi q (fun b => mono v (addK a b))) = Phi p (fun a => mono v a * Phi q (mono v)) := phi_congr fun m hm => by
    have e : Phi q (fun b => mono v (addK m.1 b)) = Phi q (fun b => mono v b * mono v m.1) := phi_congr fun l hl => by
      rw [mono_add ((hp m hm).trans (hq l hl).symm)]; grind
    rw [e, phi_times]; grind
  rw [this, phi_times]
end Poly
/-! R3 -/
set_option Elab.async false
set_option linter.all false
set_option maxRecDepth 100000
set_option maxHeartbeats 4000000
/-! polynomials as trees -/
namespace Poly
open PySem PySem.Spec PyProof.Rows L2 TL
noncomputable section
abbrev fqT (q : Rat) : T := .tup [.int q.num, .int q.den]
def kT (k : PKey) : T := .tup (k.map fun n : Nat => T.int (n : Int))
def mT (m : Mb) : T := .tup [kT m.1, fqT m.2]
def kN (k : PKey) : NestedKey := .tup (k.map fun n : Nat => NestedKey.num (n : Int))
theorem opt_ints (n : Nat) : ∀ k : PKey, optNK (toNK n) (k.map fun n : Nat => T.int (n : Int)) = some (k.map fun n : Nat => NestedKey.num (n : Int))
  | [] => rfl
  | x :: k => by
    have h : toNK n (.int (x : Int)) = some (.num (x : Int)) := by cases n <;> rfl
    simp only [List.map_cons, optNK, h, opt_ints n k]
theorem kN_of (k : PKey) : toNK nkd (kT k) = some (kN k) := by
  show (optNK (toNK 5) (k.map fun n : Nat => T.int (n : Int))).map NestedKey.tup = _
  rw [opt_ints]; rfl
theorem nums_inj : ∀ {a b : PKey}, (a.map fun n : Nat => NestedKey.num (n : Int)) = b.map (fun n : Nat => NestedKey.num (n : Int)) → a = b
  | [], [], _ => rfl
  | [], _ :: _, h => by cases h
  | _ :: _, [], h => by cases h
  | x :: a, y :: b, h => by
    rw [List.map_cons, List.map_cons] at h
    injection h with h1 h2
    injection h1 with h3
    rw [Int.ofNat.inj h3, nums_inj h2]
theorem kN_inj {a b : PKey} (h : kN a = kN b) : a = b := by
  unfold kN at h
  injection h with h
  exact nums_inj h
theorem isTup_k (k : PKey) : isTup (kT k) = true := rfl
/-- entries of a dict, the values told by e -/
def eG (e : Rat → T) (m : Mb) : T × T := (kT m.1, e m.2)
theorem isKey_k (k j : PKey) : isKey (kN k) (kT j) = decide (j = k) := by
  unfold isKey
  rw [kN_of]
  by_cases h : j = k
  · subst h; simp
  · have : ¬ (some (kN j) = some (kN k)) := fun e => h (kN_inj (Option.some.inj e))
    simp [h, this]
theorem look_t (e : Rat → T) (k : PKey) : ∀ d : Pl, lookD (d.map (eG e)) (kN k) = (lookP d k).map e
  | [] => rfl
  | m :: d => by
    have ih := look_t e k d
    unfold lookD lookP at ih ⊢
    rw [List.map_cons, List.find?_cons, List.find?_cons]
    show ((match isKey (kN k) (kT m.1) with | true => some (eG e m) | false => _).map _) = _
    rw [isKey_k]
    by_cases h : m.1 = k
    · simp [h, eG]
    · simp only [h, decide_false]
      exact ih
theorem store_t (e : Rat → T) (k : PKey) (x : Rat) (d : Pl) : storeD (d.map (eG e)) (kT k) (kN k) (e x) = (setP d k x).map (eG e) := by
  unfold storeD setP
  rw [look_t, Option.isSome_map]
  split
  · rw [List.map_map, List.map_map]
    refine List.map_congr_left fun m _ => ?_
    show (if isKey (kN k) (kT m.1) = true then (kT m.1, e x) else eG e m) = eG e (if m.1 = k then (m.1, x) else m)
    rw [isKey_k]
    by_cases h : m.1 = k
    · simp [h, eG]
    · simp [h]
  · rw [List.map_append]; rfl
theorem dlook_t (e : Rat → T) (k : PKey) (d : Pl) : dLook (.dN (d.map (eG e))) (kT k) = some ((lookP d k).map e) := by
  show (if isTup (kT k) = true then (toNK nkd (kT k)).map (lookD (d.map (eG e))) else none) = _
  rw [if_pos (isTup_k k), kN_of, Option.map_some, look_t]
theorem dstore_t (e : Rat → T) (k : PKey) (x : Rat) (d : Pl) (h : d.length < sizeLine) : dStore (.dN (d.map (eG e))) (kT k) (e x) = some (.dN ((setP d k x).map (eG e))) := by
  show (if _ then (toNK nkd (kT k)).map _ else none) = _
  rw [if_pos ⟨by rw [List.length_map]; exact h, isTup_k k⟩, kN_of, Option.map_some, store_t]
theorem fold_set (e : Rat → T) : ∀ (p : Pl) (d : Pl), p.foldl (fun kvs m => storeD kvs (kT m.1) (kN m.1) (e m.2)) (d.map (eG e)) = (setAll d p).map (eG e)
  | [], d => rfl
  | m :: p, d => by
    rw [List.foldl_cons, store_t, fold_set e p]
    rfl
section
variable {st : Store} {l : Nat} {d : Pl} {e : Rat → T} {k : PKey} {x : Rat} {u : T}
theorem ix_d (h : st[l]? = some (.dN (d.map (eG e)))) (hk : lookP d k = some x) : ixA (.ref l) (kT k) st = some (e x, st) := by
  simp [ixA, ixD, dAt, h, dlook_t, hk]
theorem get_d (h : st[l]? = some (.dN (d.map (eG e)))) : getOrT (.ref l) [kT k, u] st = some (((lookP d k).map e).getD u, st) := by
  simp [getOrT, dAt, h, dlook_t]
theorem set_d (h : st[l]? = some (.dN (d.map (eG e)))) (hz : d.length < sizeLine) : setA (.ref l) (kT k) (e x) st = some (st.set l (.dN ((setP d k x).map (eG e)))) := by
  simp [setA, setD, dAt, h, dstore_t e k x d hz]
theorem isDict (h : st[l]? = some (.dN (d.map (eG e)))) : isTyX "dict" (.ref l) st = true := by simp [isTyX, h]
end
theorem set_len (d : Pl) (k : PKey) (x : Rat) : (setP d k x).length ≤ d.length + 1 := by
  unfold setP
  split <;> simp
/-! ### sorted -/
def kD (k : PKey) : PyData := .tuple (k.map fun n : Nat => PyData.int (n : Int))
theorem optAll_ints (st : Store) (n : Nat) : ∀ k : PKey, optAll (toD st n) (k.map fun n : Nat => T.int (n : Int)) = some (k.map fun n : Nat => PyData.int (n : Int))
  | [] => rfl
  | x :: k => by
    have h : toD st n (.int (x : Int)) = some (.int (x : Int)) := by cases n <;> rfl
    simp only [List.map_cons, optAll, h, optAll_ints st n k]
theorem toD_k (st : Store) (n : Nat) (k : PKey) : toD st (n + 1) (kT k) = some (kD k) := by
  show (optAll (toD st n) (k.map fun n : Nat => T.int (n : Int))).map PyData.tuple = _
  rw [optAll_ints]; rfl
theorem toD_ks (st : Store) : ∀ ks : List PKey, optAll (toD st dpth) (ks.map kT) = some (ks.map kD)
  | [] => rfl
  | k :: ks => by
    have h : toD st dpth (kT k) = some (kD k) := toD_k st 11 k
    simp only [List.map_cons, optAll, h, toD_ks st ks]
theorem kD_map (k : PKey) : kD k = .tuple ((kI k).map PyData.int) := by
  unfold kD kI
  rw [List.map_map]; rfl
theorem kD_le (a b : PKey) : PySem.W.dataLe false kD a b = kle a b := by
  have h := congrFun (congrFun (PySem.W.dataLe_rows (fun b : PKey => kI b)) a) b
  unfold kle
  rw [← h]
  show (!PySem.W.dataLt (kD b) (kD a)) = (!PySem.W.dataLt (.list ((kI b).map .int)) (.list ((kI a).map .int)))
  rw [kD_map, kD_map, PySem.W.dataLt_tuple, PySem.W.dataLt_list]
theorem srt_k (ks : List PKey) : srt false (ks.map kD) (ks.map kT) = (sortK ks).map kT := by
  unfold srt sortK
  have e1 : (ks.map kD).zip (ks.map kT) = ks.map fun k => (kD k, kT k) := by
    induction ks with
    | nil => rfl
    | cons k ks ih => rw [List.map_cons, List.map_cons, List.zip_cons_cons, ih]; rfl
  have e2 : (ks.map fun k => (kD k, kT k)).mergeSort (PySem.W.dataLe false Prod.fst) = (ks.mergeSort kle).map fun k => (kD k, kT k) := by
    rw [PySem.W.sort_maps (r := kle) (s := PySem.W.dataLe false (Prod.fst : PyData × T → PyData)) (fun k => (kD k, kT k)) fun a _ b _ => (kD_le a b).symm]
  rw [e1, e2, List.map_map]
  rfl
theorem kD_alike (a b : PKey) : PySem.W.alike (kD a) (kD b) = true := by
  rw [kD_map, kD_map]
  simp only [PySem.W.alike]
  exact PySem.W.alike_ints _ _
theorem kD_depth (k : PKey) : (kD k).depth ≤ 30 := by
  rw [kD_map]
  simp only [PyData.depth, PySem.W.depth_ints]
  omega
theorem sort_ok {n : Nat} {ks : List PKey} (hw : ∀ k ∈ ks, k.length = n) (hn : ks.Nodup) (hl : ks.length ≤ 1000) : sortOk (ks.map kD) = true := by
  unfold sortOk
  simp only [Bool.and_eq_true, Bool.or_eq_true]
  refine ⟨⟨⟨decide_eq_true (by rw [List.length_map]; exact Nat.le_of_lt (small1000 hl)), ?_⟩, ?_⟩, ?_⟩
  · rw [List.all_eq_true]
    intro d hd
    rw [List.all_eq_true]
    intro d' hd'
    obtain ⟨a, _, rfl⟩ := List.mem_map.mp hd
    obtain ⟨b, _, rfl⟩ := List.mem_map.mp hd'
    exact kD_alike a b
  · rw [List.all_eq_true]
    intro d hd
    obtain ⟨a, _, rfl⟩ := List.mem_map.mp hd
    exact decide_eq_true (kD_depth a)
  · cases n with
    | succ n =>
      refine .inl (.inl ?_)
      rw [List.all_eq_true]
      intro d hd
      obtain ⟨a, ha, rfl⟩ := List.mem_map.mp hd
      have := hw a ha
      cases a with
      | nil => simp at this
      | cons x a => rfl
    | zero =>
      cases ks with
      | nil => exact .inl (.inl rfl)
      | cons a ks =>
        have ha : a = [] := List.eq_nil_of_length_eq_zero (hw a List.mem_cons_self)
        cases ks with
        | nil => subst ha; exact .inr rfl
        | cons b ks =>
          have hb : b = [] := List.eq_nil_of_length_eq_zero (hw b (List.mem_cons_of_mem _ List.mem_cons_self))
          have := (List.nodup_cons.mp hn).1
          rw [ha, hb] at this
          exact absurd List.mem_cons_self this
theorem sorted_d {st : Store} {l n : Nat} {d : Pl} {e : Rat → T} (h : st[l]? = some (.dN (d.map (eG e)))) (hw : Wide n d) (hn : (keys d).Nodup) (hl : d.length ≤ 1000) :
    sortedDT [.ref l] st = some (.ref st.length, st ++ [.lst ((sortK (keys d)).map kT)]) := by
  have h1 : isIntL (.ref l) st = false := by simp [isIntL, h]
  have ek : (d.map (eG e)).map (·.1) = (keys d).map kT := by
    unfold keys
    rw [List.map_map, List.map_map]; rfl
  show (if isIntL (.ref l) st = true then _ else sortedG false (.ref l) st) = _
  rw [h1]
  simp only [Bool.false_eq_true, if_false]
  unfold sortedG sortSrc
  simp only [h, Option.bind_some, ek, toD_ks, sort_ok (keys_wide.mpr hw) hn (by unfold keys; rw [List.length_map]; exact hl), if_true, srt_k]
end
end Poly
/-! D03 -/
set_option Elab.async false
set_option linter.all false
set_option maxRecDepth 100000
set_option maxHeartbeats 4000000
namespace K03
open PySem PySem.Spec PyProof.Rows L2 TL LamX
noncomputable section
variable [Tb]
def top (i : Nat) : Stmt := PySem.Challenge.pw_chancegrain_k03_whole_polynomials_by_the.main.body.getD i (.Pass ⟨0, 0, 0, 0⟩)
structure Txt (mg : Str → Option Value) : Prop where
  abs : mg "abs" = none
  dict : mg "dict" = none
  gcd : mg "gcd" = some (.builtin "math.gcd")
  int : mg "int" = none
  lcm : mg "lcm" = some (.builtin "math.lcm")
  len : mg "len" = none
  max : mg "max" = none
  range : mg "range" = none
  repr : mg "repr" = none
  sorted : mg "sorted" = none
  sum : mg "sum" = none
  tuple : mg "tuple" = none
  zip : mg "zip" = none
abbrev fr (p : Int × Int) : T := .tup [.int p.1, .int p.2]
/-- the sign of the second one on the greatest common divisor -/
def sg (d g : Int) : Int := if d < 0 then -g else g
def nf (n d : Int) : Int × Int := (n.fdiv (sg d (Nat.gcd n.natAbs d.natAbs : Nat)), d.fdiv (sg d (Nat.gcd n.natAbs d.natAbs : Nat)))
/-- sizes of fractions that occur -/
def small (d : Int) : Bool := decide (d.natAbs.log2 < 8000)
theorem log2_mono {a b : Nat} (h : a ≤ b) : a.log2 ≤ b.log2 := by
  by_cases ha : a = 0
  · subst ha; simp
  · have h1 : 2 ^ a.log2 ≤ a := Nat.log2_self_le ha
    have h2 : b < 2 ^ (b.log2 + 1) := Nat.lt_log2_self
    have h3 : 2 ^ a.log2 < 2 ^ (b.log2 + 1) := by omega
    have := (Nat.pow_lt_pow_iff_right (by decide : 1 < 2)).mp h3
    omega
theorem gcd_log {n d : Int} (hd : d ≠ 0) (hs : d.natAbs.log2 < 9000) : (Nat.gcd n.natAbs d.natAbs).log2 < 9000 := Nat.lt_of_le_of_lt (log2_mono (Nat.gcd_le_right _ (by omega))) hs
theorem abs_nat (i : Int) : (if i < 0 then -i else i) = ((i.natAbs : Nat) : Int) := by
  split <;> omega
abbrev fq (q : Rat) : T := .tup [.int q.num, .int q.den]
theorem nf_rat {n d : Int} (hd : d ≠ 0) : fr (nf n d) = fq (Rat.divInt n d) := by
  have e1 := Rat.num_divInt n d
  have e2 := Rat.den_divInt n d
  rw [if_neg hd] at e2
  have hg : Nat.gcd n.natAbs d.natAbs = d.gcd n := by rw [Int.gcd, Nat.gcd_comm]
  have hdvd : ((d.gcd n : Nat) : Int) ∣ d := Int.gcd_dvd_left _ _
  have hdvn : ((d.gcd n : Nat) : Int) ∣ n := Int.gcd_dvd_right _ _
  have gpos : 0 < d.gcd n := Nat.pos_of_ne_zero fun h => hd (Int.gcd_eq_zero_iff.mp h).1
  obtain ⟨x, hx⟩ := hdvd
  obtain ⟨y, hy⟩ := hdvn
  generalize hgg : d.gcd n = g at *
  have gz : (g : Int) ≠ 0 := by omega
  unfold nf sg
  rw [hg]
  show T.tup [T.int _, T.int _] = T.tup [T.int _, T.int _]
  rw [e1, e2]
  have q1 : n.fdiv (g : Int) = y := by rw [hy, Int.mul_fdiv_cancel_left _ gz]
  have q2 : d.fdiv (g : Int) = x := by rw [hx, Int.mul_fdiv_cancel_left _ gz]
  have q3 : n.fdiv (-(g : Int)) = -y := by rw [hy, show (g : Int) * y = (-(g : Int)) * (-y) by rw [Int.neg_mul_neg], Int.mul_fdiv_cancel_left _ (by omega)]
  have q4 : d.fdiv (-(g : Int)) = -x := by rw [hx, show (g : Int) * x = (-(g : Int)) * (-x) by rw [Int.neg_mul_neg], Int.mul_fdiv_cancel_left _ (by omega)]
  have s1 : ∀ z : Int, ((g : Int) * z) / (g : Int) = z := fun z => Int.mul_ediv_cancel_left _ gz
  have hden : ((d.natAbs / g : Nat) : Int) = if d < 0 then -x else x := by
    rw [Int.natCast_ediv]
    by_cases h : d < 0
    · rw [if_pos h, show ((d.natAbs : Nat) : Int) = (g : Int) * (-x) by rw [Int.mul_neg, ← hx]; omega, s1]
    · rw [if_neg h, show ((d.natAbs : Nat) : Int) = (g : Int) * x by rw [← hx]; omega, s1]
  rw [hden]
  by_cases h : d < 0
  · rw [if_pos h, if_pos h, q3, q4, Int.sign_eq_neg_one_of_neg h, hy, show (-1 : Int) * ((g : Int) * y) = (g : Int) * (-y) by rw [Int.mul_neg]; omega, s1]
  · rw [if_neg h, if_neg h, q1, q2, Int.sign_eq_one_of_pos (by omega), hy, Int.one_mul, s1]
/-- how long a fraction is -/
structure Sz (k : Nat) (q : Rat) : Prop where
  n : q.num.natAbs < 2 ^ k
  d : q.den < 2 ^ k
theorem log2_of {a k : Nat} (h : a < 2 ^ k) : a.log2 ≤ k := by
  by_cases ha : a = 0
  · subst ha; simp
  · have h1 : 2 ^ a.log2 ≤ a := Nat.log2_self_le ha
    have h3 : 2 ^ a.log2 < 2 ^ k := by omega
    exact Nat.le_of_lt ((Nat.pow_lt_pow_iff_right (by decide : 1 < 2)).mp h3)
theorem bits_of {i j : Int} {k : Nat} (hi : i.natAbs < 2 ^ k) (hj : j.natAbs < 2 ^ k) (hk : k ≤ 4000) : bitsOk i j = true := by
  have := log2_of hi
  have := log2_of hj
  exact decide_eq_true (by omega)
theorem mul_log {i j : Int} {k : Nat} (hi : i.natAbs < 2 ^ k) (hj : j.natAbs < 2 ^ k) (hk : k ≤ 4000) : (i * j).natAbs.log2 < 9000 := by
  have h : (i * j).natAbs < 2 ^ (k + k) := by
    rw [Int.natAbs_mul, Nat.pow_add]
    exact Nat.mul_lt_mul'' hi hj
  have := log2_of h
  omega
theorem den_ne (q : Rat) : ((q.den : Nat) : Int) ≠ 0 := by
  have := q.den_nz
  omega
theorem den_mul_ne (p q : Rat) : ((p.den : Nat) : Int) * ((q.den : Nat) : Int) ≠ 0 := Int.mul_ne_zero (den_ne p) (den_ne q)
theorem natAbs_den {q : Rat} {k : Nat} (h : Sz k q) : ((q.den : Nat) : Int).natAbs < 2 ^ k := by rw [Int.natAbs_natCast]; exact h.d
abbrev bagO (a b c : Int) (m : Nat) : Ob := .lst [.int a, .int b, .int c, .ref m]
theorem getA {st g : Store} {l : Nat} {o : Ob} (h : st[l]? = some o) : (st ++ g)[l]? = some o := by
  rw [List.getElem?_append_left (List.getElem?_eq_some_iff.mp h).1]; exact h
theorem set0 {st : Store} {l m : Nat} {a b c x : Int} (h : st[l]? = some (bagO a b c m)) : setA (.ref l) (.int 0) (.int x) st = some (st.set l (bagO x b c m)) := by
  simp [setA, dAt, h, setIxT, ixN, bagO]
theorem set1 {st : Store} {l m : Nat} {a b c x : Int} (h : st[l]? = some (bagO a b c m)) : setA (.ref l) (.int 1) (.int x) st = some (st.set l (bagO a x c m)) := by
  simp [setA, dAt, h, setIxT, ixN, bagO]
theorem lg {st : Store} {l : Nat} {o o2 : Ob} (h : st[l]? = some o) : (st.set l o2)[l]? = some o2 := List.getElem?_set_self (List.getElem?_eq_some_iff.mp h).1
@[simp] theorem r_pow {i j : Int} {st : Store} : powT (.int i) (.int j) st = if 0 ≤ j ∧ j ≤ 1000000 ∧ i.natAbs < 2 ^ 64 then some (.int (i ^ j.toNat), st) else none := rfl
@[simp] theorem r_iadd {i j : Int} {st : Store} : iaddT (.int i) (.int j) st = some (.int (i + j), st) := rfl
theorem aug2 {st : Store} {l m : Nat} {a b c x : Int} (h : st[l]? = some (bagO a b c m)) : setIxT (.ref l) (.int 2) (.int x) st = some (st.set l (bagO a b x m)) := by
  simp [h, setIxT, ixN, bagO]
theorem get2 {st : Store} {l m : Nat} {a b c : Int} (h : st[l]? = some (bagO a b c m)) : getL (.ref l) (.int 2) st = some (.int c) := by
  simp [h, getL, bagO]
theorem cell_of (cs : List Int) (c : Int) : ∃ z, atI (cutG (cs.map T.int) (some c) none ++ [.int 0]) 0 = some (.int z) ∧ (z = 0 ∨ z ∈ cs) := by
  cases h : cutG (cs.map T.int) (some c) none with
  | nil => exact ⟨0, by simp, .inl rfl⟩
  | cons t r =>
    have hm : t ∈ cs.map T.int := by
      have : t ∈ cutG (cs.map T.int) (some c) none := by rw [h]; exact List.mem_cons_self
      unfold cutG at this
      exact List.mem_of_mem_drop (List.mem_of_mem_take this)
    obtain ⟨z, hz, rfl⟩ := List.mem_map.mp hm
    exact ⟨z, by simp, .inr hz⟩
open Classical in
/-- a def whose new objects are forgotten -/
noncomputable def cutF (F : FA) : FA := fun ts st => match F ts st with
  | some (t, st2) => if Cut st t st2 t (st2.take st.length) then some (t, st2.take st.length) else none
  | none => none
theorem cutF_cut {F : FA} : ∀ ts st t st', cutF F ts st = some (t, st') → ∃ t2 st2, F ts st = some (t2, st2) ∧ Cut st t2 st2 t st' := by
  intro ts st t st' e
  unfold cutF at e
  split at e
  · rename_i t2 st2 h
    split at e
    · rename_i hc
      cases e
      exact ⟨_, _, h, hc⟩
    · cases e
  · cases e
theorem cutF_of {F : FA} {ts : List T} {st st2 : Store} {t : T} (h : F ts st = some (t, st2)) (c : Cut st t st2 t (st2.take st.length)) : cutF F ts st = some (t, st2.take st.length) := by
  unfold cutF
  rw [h]
  exact if_pos c
structure BagAt (N : Nat) (st : Store) (l m : Nat) : Prop where
  ex : ∃ (a b c : Int) (cs : List Int), st[l]? = some (bagO a b c m) ∧ st[m]? = some (.lst (cs.map T.int)) ∧ l ≠ m ∧ 0 ≤ a ∧ 0 ≤ b ∧ b < 2147483648 ∧ 0 ≤ c ∧ c ≤ N ∧ (∀ z ∈ cs, 0 ≤ z) ∧ cs.length ≤ 63
/-- only what stands at l has changed -/
structure Only (l : Nat) (st st' : Store) : Prop where
  len : st'.length = st.length
  at_ : ∀ j, j ≠ l → st'[j]? = st[j]?
theorem Only.set {l : Nat} {st : Store} {o : Ob} : Only l st (st.set l o) := ⟨by simp, fun j h => List.getElem?_set_ne (Ne.symm h)⟩
theorem Only.trans {l : Nat} {s1 s2 s3 : Store} (a : Only l s1 s2) (b : Only l s2 s3) : Only l s1 s3 := ⟨b.len.trans a.len, fun j h => (b.at_ j h).trans (a.at_ j h)⟩
theorem Only.refl (l : Nat) (s : Store) : Only l s s := ⟨rfl, fun _ _ => rfl⟩
theorem BagAt.more {N : Nat} {st : Store} {l m : Nat} (h : BagAt N st l m) (g : Store) : BagAt N (st ++ g) l m := by
  obtain ⟨a, b, c, cs, h1, h2, r⟩ := h.ex
  exact ⟨a, b, c, cs, getA h1, getA h2, r⟩
theorem BagAt.up {N M : Nat} {st : Store} {l m : Nat} (h : BagAt N st l m) (hn : N ≤ M) : BagAt M st l m := by
  obtain ⟨a, b, c, cs, h1, h2, h3, h4, h5, h6, h7, h8, h9, h10⟩ := h.ex
  exact ⟨a, b, c, cs, h1, h2, h3, h4, h5, h6, h7, by omega, h9, h10⟩
theorem cut_set {st g : Store} {l m : Nat} {a b c : Int} {v : Int} (hl : l < st.length) (hm : m < st.length) : Cut st (.int v) ((st ++ g).set l (bagO a b c m)) (.int v) (((st ++ g).set l (bagO a b c m)).take st.length) := by
  refine Cut.back (by simp) (fun j o hj h => ?_) rfl
  by_cases e : j = l
  · subst e
    rw [List.getElem?_set_self (by simp; omega)] at h
    cases h
    exact .inr (by simp [obelow, belows, below, hm])
  · rw [List.getElem?_set_ne (Ne.symm e), List.getElem?_append_left hj] at h
    exact .inl h
theorem take_set {st g : Store} {l : Nat} {o : Ob} (hl : l < st.length) : ((st ++ g).set l o).take st.length = st.set l o := by
  rw [List.set_append_left _ _ hl, List.take_left' (by simp)]
/-- what stood stands, but for the bag at l; more may have come -/
structure More (l : Nat) (st st2 : Store) : Prop where
  len : st.length ≤ st2.length
  at_ : ∀ j, j < st.length → j ≠ l → st2[j]? = st[j]?
theorem More.refl (l : Nat) (st : Store) : More l st st := ⟨Nat.le_refl _, fun _ _ _ => rfl⟩
theorem More.trans {l : Nat} {s1 s2 s3 : Store} (a : More l s1 s2) (b : More l s2 s3) : More l s1 s3 := ⟨Nat.le_trans a.len b.len, fun j h n => (b.at_ j (Nat.lt_of_lt_of_le h a.len) n).trans (a.at_ j h n)⟩
theorem More.app (l : Nat) (st g : Store) : More l st (st ++ g) := ⟨by simp, fun j h _ => List.getElem?_append_left h⟩
theorem Only.more {l : Nat} {st st2 : Store} (a : Only l st st2) : More l st st2 := ⟨Nat.le_of_eq a.len.symm, fun j _ n => a.at_ j n⟩
/-- a def that draws, its new objects forgotten -/
theorem cutF_bag {F : FA} {ts : List T} {st st2 : Store} {t : T} {l m N M : Nat} (h : F ts st = some (t, st2)) (b : BagAt N st l m) (b2 : BagAt M st2 l m) (mo : More l st st2) (ht : below st.length t = true) :
    ∃ st', cutF F ts st = some (t, st') ∧ Only l st st' ∧ BagAt M st' l m := by
  obtain ⟨a0, b0, c0, cs0, e1, e2, hlm, _⟩ := b.ex
  obtain ⟨a, b', c, cs, g1, g2, g3⟩ := b2.ex
  have hl := (List.getElem?_eq_some_iff.mp e1).1
  have hm := (List.getElem?_eq_some_iff.mp e2).1
  have c1 : Cut st t st2 t (st2.take st.length) := by
    refine Cut.back mo.len (fun j o hj h => ?_) ht
    by_cases e : j = l
    · subst e
      rw [g1] at h
      cases h
      exact .inr (by simp [obelow, belows, below, hm])
    · rw [mo.at_ j hj e] at h
      exact .inl h
  refine ⟨_, cutF_of h c1, ⟨by rw [List.length_take]; have := mo.len; omega, fun j hn => ?_⟩, ⟨a, b', c, cs, ?_, ?_, g3⟩⟩
  · by_cases hj : j < st.length
    · rw [List.getElem?_take_of_lt hj, mo.at_ j hj hn]
    · rw [List.getElem?_eq_none (by rw [List.length_take]; omega), List.getElem?_eq_none (by omega)]
  · rw [List.getElem?_take_of_lt hl]; exact g1
  · rw [List.getElem?_take_of_lt hm]; exact g2
/-- a quotient of small integers is small -/
theorem sz_div {n d : Int} {k : Nat} (hd : 0 < d) (hn : n.natAbs < 2 ^ k) (hdk : d.natAbs < 2 ^ k) : Sz k (Rat.divInt n d) := by
  have e1 := Rat.num_divInt n d
  have e2 := Rat.den_divInt n d
  rw [if_neg (by omega)] at e2
  rw [Int.sign_eq_one_of_pos hd, Int.one_mul] at e1
  refine ⟨?_, ?_⟩
  · rw [e1]
    refine Nat.lt_of_le_of_lt ?_ hn
    rw [Int.natAbs_ediv_of_dvd (Int.gcd_dvd_right _ _)]
    exact Nat.div_le_self _ _
  · rw [e2]
    exact Nat.lt_of_le_of_lt (Nat.div_le_self _ _) hdk
theorem Sz.up {j k : Nat} {q : Rat} (h : Sz j q) (hjk : j ≤ k) : Sz k q := ⟨Nat.lt_of_lt_of_le h.n (Nat.pow_le_pow_right (by decide) hjk), Nat.lt_of_lt_of_le h.d (Nat.pow_le_pow_right (by decide) hjk)⟩
theorem Sz.add {a b : Nat} {p q : Rat} (hp : Sz a p) (hq : Sz b q) : Sz (a + b + 1) (p + q) := by
  have e : p + q = Rat.divInt (p.num * q.den + q.num * p.den) (p.den * q.den) := by
    rw [← Rat.divInt_add_divInt _ _ (den_ne p) (den_ne q), Rat.num_divInt_den, Rat.num_divInt_den]
  have d0 : 0 < ((p.den : Nat) : Int) * ((q.den : Nat) : Int) := Int.mul_pos (by have := p.den_nz; omega) (by have := q.den_nz; omega)
  have h1 : (p.num * (q.den : Int)).natAbs < 2 ^ (a + b) := by
    rw [Int.natAbs_mul, Int.natAbs_natCast, Nat.pow_add]; exact Nat.mul_lt_mul'' hp.n hq.d
  have h2 : (q.num * (p.den : Int)).natAbs < 2 ^ (a + b) := by
    rw [Int.natAbs_mul, Int.natAbs_natCast, Nat.pow_add, Nat.mul_comm]; exact Nat.mul_lt_mul'' hp.d hq.n
  have h3 : ((p.den : Int) * (q.den : Int)).natAbs < 2 ^ (a + b) := by
    rw [Int.natAbs_mul, Int.natAbs_natCast, Int.natAbs_natCast, Nat.pow_add]; exact Nat.mul_lt_mul'' hp.d hq.d
  have h4 : 2 ^ (a + b + 1) = 2 ^ (a + b) + 2 ^ (a + b) := by rw [Nat.pow_succ]; omega
  rw [e]
  exact sz_div d0 (by omega) (by omega)
theorem Sz.zero : Sz 1 0 := ⟨by decide, by decide⟩
def sumQ (qs : List Rat) : Rat := qs.foldl (· + ·) 0
theorem sumQ_take {qs : List Rat} {i : Nat} {q : Rat} (h : qs[i]? = some q) : sumQ (qs.take (i + 1)) = sumQ (qs.take i) + q := by
  unfold sumQ
  rw [List.take_add_one, h]
  simp [List.foldl_append]
theorem Sz.sum {qs : List Rat} {k : Nat} (h : ∀ q ∈ qs, Sz k q) : ∀ i, i ≤ qs.length → Sz (1 + i * (k + 1)) (sumQ (qs.take i))
  | 0, _ => by simpa [sumQ] using Sz.zero
  | i + 1, hi => by
    have hq := List.getElem?_eq_getElem (show i < qs.length by omega)
    rw [sumQ_take hq]
    have a := (Sz.sum h i (by omega)).add (h _ (List.getElem_mem (show i < qs.length by omega)))
    exact a.up (by rw [Nat.succ_mul]; omega)
abbrev s_reduced : Stmt := top 5
abbrev N_reduced : List Str := ["num", "den", "common"]
abbrev P_reduced : List Str := ["num", "den"]
theorem sc_reduced : FnScope N_reduced P_reduced (defScope s_reduced) := ⟨rfl, rfl, rfl, by decide +kernel, rfl, by decide +kernel, by decide +kernel⟩
def B_reduced : XS := (xsSeq (xsIf (xBl (xBin eqT (xVar 1) (xC (.int 0))))
    xsNever
    xsNil)
    (xsSeq (xsSet 2 (xCall gcdT (xCons (xVar 0) (xCons (xVar 1) xNil))))
    (xsSeq (xsIf (xBl (xBin ltT (xVar 1) (xC (.int 0))))
    (xsSet 2 (xUn negT (xVar 2)))
    xsNil)
    (xsRet (xCall tupT (xCons (xBin fdivT (xVar 0) (xVar 2)) (xCons (xBin fdivT (xVar 1) (xVar 2)) xNil)))))))
def F_reduced : FA := fnF 2 3 B_reduced
def S_reduced : FA := fun ts st => match ts with
  | [.int n, .int d] => if d ≠ 0 ∧ d.natAbs.log2 < 9000 then some (fr (nf n d), st) else none
  | _ => none
theorem run_reduced {n d : Int} {st : Store} (hd : d ≠ 0) (hs : d.natAbs.log2 < 9000) : F_reduced [.int n, .int d] st = some (fr (nf n d), st) := by
  have hg : (Nat.gcd n.natAbs d.natAbs) ≠ 0 := by
    intro h
    have := Nat.eq_zero_of_gcd_eq_zero_right h
    omega
  have hl := gcd_log (n := n) hd hs
  have hneg : ∀ g : Nat, (-(g : Int)).natAbs = g := by intro g; omega
  by_cases h : d < 0
  · simp [F_reduced, B_reduced, fnF, hd, h, nf, sg, hg, hl]
  · simp [F_reduced, B_reduced, fnF, hd, h, nf, sg, hg, hl]
theorem cut_reduced : ∀ ts st t st', S_reduced ts st = some (t, st') → ∃ t2 st2, F_reduced ts st = some (t2, st2) ∧ Cut st t2 st2 t st' := by
  intro ts st t st' e
  unfold S_reduced at e
  split at e
  · split at e
    · rename_i h
      cases e
      exact ⟨_, _, run_reduced h.1 h.2, Cut.refl _ _ _⟩
    · cases e
  · cases e
abbrev s_added : Stmt := top 6
abbrev N_added : List Str := ["one", "other"]
abbrev P_added : List Str := ["one", "other"]
theorem sc_added : FnScope N_added P_added (defScope s_added) := ⟨rfl, rfl, rfl, by decide +kernel, rfl, by decide +kernel, by decide +kernel⟩
def B_added : XS := (xsRet (xCall S_reduced (xCons (xBin addT (xBin mulT (xBin ixA (xVar 0) (xC (.int 0))) (xBin ixA (xVar 1) (xC (.int 1)))) (xBin mulT (xBin ixA (xVar 1) (xC (.int 0))) (xBin ixA (xVar 0) (xC (.int 1))))) (xCons (xBin mulT (xBin ixA (xVar 0) (xC (.int 1))) (xBin ixA (xVar 1) (xC (.int 1)))) xNil))))
def F_added : FA := fnF 2 2 B_added
def S_added : FA := fun ts st => match ts with
  | [.tup [.int a, .int b], .tup [.int c, .int d]] => if bitsOk a d = true ∧ bitsOk c b = true ∧ bitsOk b d = true ∧ b * d ≠ 0 ∧ (b * d).natAbs.log2 < 9000 then some (fr (nf (a * d + c * b) (b * d)), st) else none
  | _ => none
theorem cut_added : ∀ ts st t st', S_added ts st = some (t, st') → ∃ t2 st2, F_added ts st = some (t2, st2) ∧ Cut st t2 st2 t st' := by
  intro ts st t st' e
  unfold S_added at e
  split at e
  · split at e
    · rename_i h
      cases e
      refine ⟨_, _, ?_, Cut.refl _ _ _⟩
      simp [F_added, B_added, fnF, h.1, h.2.1, h.2.2.1, S_reduced, h.2.2.2.1, h.2.2.2.2]
    · cases e
  · cases e
theorem q_added {p q : Rat} {k : Nat} {st : Store} (hp : Sz k p) (hq : Sz k q) (hk : k ≤ 4000) : S_added [fq p, fq q] st = some (fq (p + q), st) := by
  have e : p + q = Rat.divInt (p.num * q.den + q.num * p.den) (p.den * q.den) := by
    rw [← Rat.divInt_add_divInt _ _ (den_ne p) (den_ne q), Rat.num_divInt_den, Rat.num_divInt_den]
  show (if _ then some (fr (nf _ _), st) else none) = _
  rw [if_pos ⟨bits_of hp.n (natAbs_den hq) hk, bits_of hq.n (natAbs_den hp) hk, bits_of (natAbs_den hp) (natAbs_den hq) hk, den_mul_ne p q, mul_log (natAbs_den hp) (natAbs_den hq) hk⟩, nf_rat (den_mul_ne p q), ← e]
abbrev s_times : Stmt := top 7
abbrev N_times : List Str := ["one", "other"]
abbrev P_times : List Str := ["one", "other"]
theorem sc_times : FnScope N_times P_times (defScope s_times) := ⟨rfl, rfl, rfl, by decide +kernel, rfl, by decide +kernel, by decide +kernel⟩
def B_times : XS := (xsRet (xCall S_reduced (xCons (xBin mulT (xBin ixA (xVar 0) (xC (.int 0))) (xBin ixA (xVar 1) (xC (.int 0)))) (xCons (xBin mulT (xBin ixA (xVar 0) (xC (.int 1))) (xBin ixA (xVar 1) (xC (.int 1)))) xNil))))
def F_times : FA := fnF 2 2 B_times
def S_times : FA := fun ts st => match ts with
  | [.tup [.int a, .int b], .tup [.int c, .int d]] => if bitsOk a c = true ∧ bitsOk b d = true ∧ b * d ≠ 0 ∧ (b * d).natAbs.log2 < 9000 then some (fr (nf (a * c) (b * d)), st) else none
  | _ => none
theorem cut_times : ∀ ts st t st', S_times ts st = some (t, st') → ∃ t2 st2, F_times ts st = some (t2, st2) ∧ Cut st t2 st2 t st' := by
  intro ts st t st' e
  unfold S_times at e
  split at e
  · split at e
    · rename_i h
      cases e
      refine ⟨_, _, ?_, Cut.refl _ _ _⟩
      simp [F_times, B_times, fnF, h.1, h.2.1, S_reduced, h.2.2.1, h.2.2.2]
    · cases e
  · cases e
theorem q_times {p q : Rat} {k : Nat} {st : Store} (hp : Sz k p) (hq : Sz k q) (hk : k ≤ 4000) : S_times [fq p, fq q] st = some (fq (p * q), st) := by
  have e : p * q = Rat.divInt (p.num * q.num) (p.den * q.den) := by
    rw [← Rat.divInt_mul_divInt, Rat.num_divInt_den, Rat.num_divInt_den]
  show (if _ then some (fr (nf _ _), st) else none) = _
  rw [if_pos ⟨bits_of hp.n hq.n hk, bits_of (natAbs_den hp) (natAbs_den hq) hk, den_mul_ne p q, mul_log (natAbs_den hp) (natAbs_den hq) hk⟩, nf_rat (den_mul_ne p q), ← e]
abbrev s_total_of : Stmt := top 8
abbrev N_total_of : List Str := ["fractions", "common", "_", "den", "num"]
abbrev P_total_of : List Str := ["fractions"]
theorem sc_total_of : FnScope N_total_of P_total_of (defScope s_total_of) := ⟨rfl, rfl, rfl, by decide +kernel, rfl, by decide +kernel, by decide +kernel⟩
def B_total_of : XS := (xsSeq (xsSet 1 (xC (.int 1)))
    (xsSeq (xsFor (xiSeq (xVar 0)) (xgTup 2 (xgsCons (xgName 2) (xgsCons (xgName 3) xgsNil)))
    (xsSet 1 (xCall lcmT (xCons (xVar 1) (xCons (xVar 3) xNil)))))
    (xsRet (xCall S_reduced (xCons (xCall sumT (xCons (xLc (xiSeq (xVar 0)) (xgTup 2 (xgsCons (xgName 4) (xgsCons (xgName 3) xgsNil))) [4, 3] xYes (xBin mulT (xVar 4) (xBin fdivT (xVar 1) (xVar 3)))) xNil)) (xCons (xVar 1) xNil))))))
def F_total_of : FA := fnF 1 5 B_total_of
def lcmQ (qs : List Rat) : Nat := qs.foldl (fun a q => Nat.lcm a q.den) 1
theorem lcmQ_take {qs : List Rat} {i : Nat} {q : Rat} (h : qs[i]? = some q) : lcmQ (qs.take (i + 1)) = Nat.lcm (lcmQ (qs.take i)) q.den := by
  unfold lcmQ
  rw [List.take_add_one, h]
  simp [List.foldl_append]
theorem lcmQ_pos {qs : List Rat} : ∀ i, i ≤ qs.length → 0 < lcmQ (qs.take i)
  | 0, _ => by simp [lcmQ]
  | i + 1, hi => by
    have hq := List.getElem?_eq_getElem (show i < qs.length by omega)
    rw [lcmQ_take hq]
    exact Nat.lcm_pos (lcmQ_pos i (by omega)) (Nat.pos_of_ne_zero (qs[i]).den_nz)
theorem lcmQ_lt {qs : List Rat} {k : Nat} (h : ∀ q ∈ qs, Sz k q) : ∀ i, i ≤ qs.length → lcmQ (qs.take i) ≤ 2 ^ (i * k)
  | 0, _ => by simp [lcmQ]
  | i + 1, hi => by
    have hq := List.getElem?_eq_getElem (show i < qs.length by omega)
    rw [lcmQ_take hq]
    have hm := Nat.mul_le_mul (lcmQ_lt h i (by omega)) (Nat.le_of_lt (h _ (List.getElem_mem (show i < qs.length by omega))).d)
    rw [← Nat.pow_add] at hm
    have hle : Nat.lcm (lcmQ (qs.take i)) (qs[i]).den ≤ lcmQ (qs.take i) * (qs[i]).den := Nat.le_of_dvd (Nat.mul_pos (lcmQ_pos i (by omega)) (Nat.pos_of_ne_zero (qs[i]).den_nz)) (Nat.lcm_dvd (Nat.dvd_mul_right _ _) (Nat.dvd_mul_left _ _))
    rw [Nat.succ_mul]
    exact Nat.le_trans hle hm
theorem lcmQ_dvd {qs : List Rat} {q : Rat} (h : q ∈ qs) : q.den ∣ lcmQ qs := by
  unfold lcmQ
  have gen : ∀ (qs : List Rat) (a : Nat), (a ∣ qs.foldl (fun a q => Nat.lcm a q.den) a) ∧ ∀ q ∈ qs, q.den ∣ qs.foldl (fun a q => Nat.lcm a q.den) a := by
    intro qs
    induction qs with
    | nil => intro a; exact ⟨Nat.dvd_refl _, fun q hq => by cases hq⟩
    | cons p r ih =>
      intro a
      obtain ⟨h1, h2⟩ := ih (Nat.lcm a p.den)
      refine ⟨Nat.dvd_trans (Nat.dvd_lcm_left _ _) h1, fun q hq => ?_⟩
      rcases List.mem_cons.mp hq with rfl | hq
      · exact Nat.dvd_trans (Nat.dvd_lcm_right _ _) h1
      · exact h2 q hq
  exact (gen qs 1).2 q h
def partsQ (L : Nat) (qs : List Rat) : List Int := qs.map fun q => q.num * ((L / q.den : Nat) : Int)
theorem divInt_add {a b L : Int} (hL : L ≠ 0) : Rat.divInt a L + Rat.divInt b L = Rat.divInt (a + b) L := by
  rw [Rat.divInt_add_divInt _ _ hL hL, Rat.divInt_eq_divInt_iff (Int.mul_ne_zero hL hL) hL, ← Int.add_mul, Int.mul_assoc]
theorem parts_sum {L : Nat} (hL : L ≠ 0) : ∀ (qs : List Rat) (a : Int), (∀ q ∈ qs, q.den ∣ L) → Rat.divInt ((partsQ L qs).foldl (· + ·) a) L = qs.foldl (· + ·) (Rat.divInt a L)
  | [], a, _ => rfl
  | q :: r, a, h => by
    have hz : (L : Int) ≠ 0 := by omega
    have e : Rat.divInt (q.num * ((L / q.den : Nat) : Int)) L = q := by
      obtain ⟨c, hc⟩ := h q List.mem_cons_self
      have hd : L / q.den = c := by rw [hc]; exact Nat.mul_div_cancel_left _ (Nat.pos_of_ne_zero q.den_nz)
      have e2 := Rat.num_divInt_den q
      rw [hd]
      refine Eq.trans ?_ e2
      rw [Rat.divInt_eq_divInt_iff hz (den_ne q), hc, Int.natCast_mul, Int.mul_assoc, Int.mul_comm (c : Int)]
    show Rat.divInt ((partsQ L r).foldl (· + ·) (a + q.num * ((L / q.den : Nat) : Int))) L = r.foldl (· + ·) (Rat.divInt a L + q)
    rw [parts_sum hL r _ (fun p hp => h p (List.mem_cons_of_mem _ hp)), ← divInt_add hz, e]
theorem total_gen {x : T} {st : Store} {it : Its1} {qs : List Rat} {k : Nat} (hfi : ∀ e, xiSeq (xVar 0) (some x :: e) st = some (it, st)) (hit : ∀ g, it (st ++ g) = some (qs.map fun q => fq q)) (hq : ∀ q ∈ qs, Sz k q) (hkk : ∀ q ∈ qs, k ≤ 3000) (Llog : ∀ i, i ≤ qs.length → (lcmQ (qs.take i)).log2 ≤ 3000) (hn : qs.length ≤ 1000) :
    ∃ g, F_total_of [x] st = some (fq (sumQ qs), st ++ g) := by
  have hit0 : it st = some (qs.map fun q => fq q) := by simpa using hit []
  obtain ⟨e', s', h1, h2⟩ := for_inv (g := xgTup 2 (xgsCons (xgName 2) (xgsCons (xgName 3) xgsNil))) (b := xsSet 1 (xCall lcmT (xCons (xVar 1) (xCons (xVar 3) xNil)))) (ts := qs.map fun q => fq q)
    (fun i e s => s = st ∧ i ≤ qs.length ∧ ∃ o2 o3, e = [some x, some (.int ((lcmQ (qs.take i) : Nat) : Int)), o2, o3, none]) (hfi [some (.int 1), none, none, none]) (fun i e s h => by rw [h.1]; exact hit0) ⟨rfl, Nat.zero_le _, none, none, by simp [lcmQ]⟩
    (fun i e s y hy h => by
      obtain ⟨rfl, hi, o2, o3, rfl⟩ := h
      rw [List.getElem?_map] at hy
      cases hqi : qs[i]? with
      | none => rw [hqi] at hy; cases hy
      | some q =>
        rw [hqi] at hy
        cases hy
        have hlt := (List.getElem?_eq_some_iff.mp hqi).1
        have hm := List.mem_of_getElem? hqi
        have zq := hq q hm
        have l1 : (lcmQ (qs.take i)).log2 < 6000 := by have := Llog i (by omega); omega
        have l2 : q.den.log2 < 6000 := by have := log2_of zq.d; have := hkk q hm; omega
        refine ⟨_, _, _, [some x, some (.int ((lcmQ (qs.take (i + 1)) : Nat) : Int)), some (.int q.num), some (.int q.den), none], s, rfl, ?_, .inl rfl, rfl, by omega, _, _, rfl⟩
        simp [lcmT, l1, l2, lcmQ_take hqi])
  obtain ⟨rfl, _, o2, o3, rfl⟩ := h2
  have hl : (qs.map fun q => fq q).length = qs.length := by simp
  rw [hl, List.take_length] at h1
  have Lpos : 0 < lcmQ qs := by simpa using lcmQ_pos qs.length (Nat.le_refl _)
  have LL : (lcmQ qs).log2 ≤ 3000 := by simpa using Llog qs.length (Nat.le_refl _)
  have Llt : lcmQ qs < 2 ^ 3001 := by
    have h3 : lcmQ qs < 2 ^ ((lcmQ qs).log2 + 1) := Nat.lt_log2_self
    exact Nat.lt_of_lt_of_le h3 (Nat.pow_le_pow_right (by decide) (by omega))
  obtain ⟨acc, s2, g1, g2, g3, _⟩ := lc_inv (st := s') (s1 := s') (fi := xiSeq (xVar 0)) (it := it) (e := [some x, some (.int ((lcmQ qs : Nat) : Int)), o2, o3, none]) (vs := [4, 3]) (g := xgTup 2 (xgsCons (xgName 4) (xgsCons (xgName 3) xgsNil))) (tt := xYes) (te := xBin mulT (xVar 4) (xBin fdivT (xVar 1) (xVar 3))) (ts := qs.map fun q => fq q)
    (fun i acc s => acc = ((partsQ (lcmQ qs) qs).take i).map T.int ∧ s = s' ++ [.lst acc] ∧ i ≤ qs.length) (hfi _) (fun i acc s h => by
      obtain ⟨a1, rfl, a3⟩ := h
      refine ⟨by rw [List.getElem?_append_right (Nat.le_refl _)]; simp, by rw [a1]; simp; omega⟩)
    (fun i acc s h => by obtain ⟨a1, rfl, a3⟩ := h; exact hit _) (by rw [hl]; exact hn) ⟨by simp, rfl, Nat.zero_le _⟩
    (fun i acc s y hy h => by
      obtain ⟨a1, rfl, a3⟩ := h
      rw [List.getElem?_map] at hy
      cases hqi : qs[i]? with
      | none => rw [hqi] at hy; cases hy
      | some q =>
        rw [hqi] at hy
        cases hy
        have hlt := (List.getElem?_eq_some_iff.mp hqi).1
        have hm := List.mem_of_getElem? hqi
        have zq := hq q hm
        have hden : ¬ (q.den = 0) := q.den_nz
        have l2 : q.den.log2 < 9000 := by have := log2_of zq.d; have := hkk q hm; omega
        have hf : ((lcmQ qs : Nat) : Int).fdiv (q.den : Int) = ((lcmQ qs / q.den : Nat) : Int) := by
          rw [Int.fdiv_eq_ediv_of_nonneg _ (by omega)]; exact (Int.natCast_ediv _ _).symm
        have hb : bitsOk q.num ((lcmQ qs / q.den : Nat) : Int) = true := bits_of (k := 3001) (Nat.lt_of_lt_of_le zq.n (Nat.pow_le_pow_right (by decide) (by have := hkk q hm; omega))) (by rw [Int.natAbs_natCast]; exact Nat.lt_of_le_of_lt (Nat.div_le_self _ _) Llt) (by decide)
        have hp : (partsQ (lcmQ qs) qs)[i]? = some (q.num * ((lcmQ qs / q.den : Nat) : Int)) := by unfold partsQ; rw [List.getElem?_map, hqi]; rfl
        refine ⟨[some x, some (.int ((lcmQ qs : Nat) : Int)), o2, some (.int q.den), some (.int q.num)], s' ++ [.lst acc], s' ++ [.lst acc], s' ++ [.lst acc], .int (q.num * ((lcmQ qs / q.den : Nat) : Int)), ?_, rfl, ?_, by rw [List.getElem?_append_right (Nat.le_refl _)]; simp, ?_, ?_, by omega⟩
        · simp [wipeE, xgTup, xgsCons, xgsNil]
        · have hb2 := hb
          rw [Int.natCast_ediv] at hb2
          simp [hden, l2, hf, hb, hb2]
        · rw [a1, List.take_add_one, hp]; simp
        · rw [List.set_append_right _ _ (Nat.le_refl _)]; simp)
  have hlp : (partsQ (lcmQ qs) qs).length = qs.length := by simp [partsQ]
  rw [hl, ← hlp, List.take_length] at g2
  subst g2 g3
  have hints : intsOf ((partsQ (lcmQ qs) qs).map T.int) = some (partsQ (lcmQ qs) qs) := by
    generalize partsQ (lcmQ qs) qs = ps
    unfold intsOf
    induction ps with
    | nil => rfl
    | cons p r ih => simp only [List.map_cons, optAll, ih]
  have hne : ((lcmQ qs : Nat) : Int) ≠ 0 := by omega
  have hred : S_reduced [.int (partsQ (lcmQ qs) qs).sum, .int ((lcmQ qs : Nat) : Int)] (s' ++ [.lst ((partsQ (lcmQ qs) qs).map T.int)]) = some (fq (sumQ qs), s' ++ [.lst ((partsQ (lcmQ qs) qs).map T.int)]) := by
    have e := parts_sum (L := lcmQ qs) (by omega) qs 0 (fun q hm => lcmQ_dvd hm)
    have e0 : Rat.divInt 0 ((lcmQ qs : Nat) : Int) = 0 := Rat.zero_divInt _
    rw [e0] at e
    have es : (partsQ (lcmQ qs) qs).foldl (· + ·) 0 = (partsQ (lcmQ qs) qs).sum := List.sum_eq_foldl.symm
    rw [es] at e
    show (if _ then some (fr (nf _ _), _) else none) = _
    rw [if_pos ⟨hne, by rw [Int.natAbs_natCast]; omega⟩, nf_rat hne, e]
    rfl
  refine ⟨[.lst ((partsQ (lcmQ qs) qs).map T.int)], ?_⟩
  simp only [F_total_of, B_total_of, fnF, List.length_cons, List.length_nil, r_xsSeq, r_xsSet, r_xC, Option.map_some, Option.bind_some, List.map_cons, List.map_nil, List.cons_append, List.nil_append, List.set_cons_succ, List.set_cons_zero, List.replicate]
  simp [h1, g1, sumT, hints, hred]
noncomputable def S_total_of : FA := cutF F_total_of
theorem cut_total_of : ∀ ts st t st', S_total_of ts st = some (t, st') → ∃ t2 st2, F_total_of ts st = some (t2, st2) ∧ Cut st t2 st2 t st' := cutF_cut
theorem lcmQ_divides {D : Nat} (hD : 0 < D) : ∀ (qs : List Rat), (∀ q ∈ qs, q.den ∣ D) → lcmQ qs ∣ D := by
  have gen : ∀ (qs : List Rat) (a : Nat), a ∣ D → (∀ q ∈ qs, q.den ∣ D) → qs.foldl (fun a q => Nat.lcm a q.den) a ∣ D := by
    intro qs
    induction qs with
    | nil => intro a ha _; exact ha
    | cons p r ih => intro a ha h; exact ih _ (Nat.lcm_dvd ha (h p List.mem_cons_self)) fun q hq => h q (List.mem_cons_of_mem _ hq)
  exact fun qs h => gen qs 1 (Nat.one_dvd _) h
/-- the dens divide a number that is not long -/
theorem total_okD {x : T} {st : Store} {it : Its1} {qs : List Rat} {k D : Nat} (hfi : ∀ e, xiSeq (xVar 0) (some x :: e) st = some (it, st)) (hit : ∀ g, it (st ++ g) = some (qs.map fun q => fq q)) (hq : ∀ q ∈ qs, Sz k q) (hk : k ≤ 3000) (hD : 0 < D) (hD2 : D < 2 ^ 3000) (hd : ∀ q ∈ qs, q.den ∣ D) (hn : qs.length ≤ 1000) : S_total_of [x] st = some (fq (sumQ qs), st) := by
  obtain ⟨g, e⟩ := total_gen hfi hit hq (fun _ _ => hk) (fun i hi => by
    have h1 := lcmQ_divides hD (qs.take i) fun q hm => hd q (List.mem_of_mem_take hm)
    have h2 := Nat.le_of_dvd hD h1
    exact log2_of (Nat.lt_of_le_of_lt h2 hD2)) hn
  have h := cutF_of e (by rw [List.take_left' rfl]; exact Cut.pure rfl)
  rw [List.take_left' rfl] at h
  exact h
abbrev s_whole_power : Stmt := top 9
abbrev N_whole_power : List Str := ["base", "count", "result"]
abbrev P_whole_power : List Str := ["base", "count"]
theorem sc_whole_power : FnScope N_whole_power P_whole_power (defScope s_whole_power) := ⟨rfl, rfl, rfl, by decide +kernel, rfl, by decide +kernel, by decide +kernel⟩
def fuel_whole_power := fuelAll
def B_whole_power : XS := (xsSeq (xsSet 2 (xC (.int 1)))
    (xsSeq (xsWhile fuel_whole_power (xBl (xBin gtT (xVar 1) (xC (.int 0))))
    (xsSeq (xsIf (xBl (xBin eqT (xBin modT (xVar 1) (xC (.int 2))) (xC (.int 1))))
    (xsSet 2 (xBin mulT (xVar 2) (xVar 0)))
    xsNil)
    (xsSeq (xsSet 1 (xBin fdivT (xVar 1) (xC (.int 2))))
    (xsIf (xBl (xBin gtT (xVar 1) (xC (.int 0))))
    (xsSet 0 (xBin mulT (xVar 0) (xVar 0)))
    xsNil))))
    (xsRet (xVar 2))))
def F_whole_power : FA := fnF 2 3 B_whole_power
abbrev wp_c : XT := xBl (xBin gtT (xVar 1) (xC (.int 0)))
abbrev wp_b : XS := xsSeq (xsIf (xBl (xBin TL.eqT (xBin modT (xVar 1) (xC (.int 2))) (xC (.int 1)))) (xsSet 2 (xBin mulT (xVar 2) (xVar 0))) xsNil)
  (xsSeq (xsSet 1 (xBin fdivT (xVar 1) (xC (.int 2)))) (xsIf (xBl (xBin gtT (xVar 1) (xC (.int 0)))) (xsSet 0 (xBin mulT (xVar 0) (xVar 0))) xsNil))
theorem step_pow (M E : Nat) (hM : 0 < M) (hE : M ^ E < 2 ^ 4000) (st : Store) : ∀ (n c a b : Nat) (x r : Int), c < n → r.natAbs ≤ M ^ a → x.natAbs ≤ M ^ b → a + b * c ≤ E →
    ∃ y, whileF wp_c wp_b n [some (.int x), some (.int (c : Int)), some (.int r)] st = some (.nx [some (.int y), some (.int 0), some (.int (r * x ^ c))] st)
  | 0, c, a, b, x, r, h, _, _, _ => by omega
  | n + 1, c, a, b, x, r, h, h1, h2, h3 => by
    have mono : ∀ {i j : Nat}, i ≤ j → M ^ i ≤ M ^ j := fun hij => Nat.pow_le_pow_right hM hij
    unfold whileF
    by_cases hc : c = 0
    · subst hc
      exact ⟨x, by simp⟩
    · have hpos : 0 < c := by omega
      have hdiv : ((c : Int)).fdiv 2 = ((c / 2 : Nat) : Int) := by
        rw [Int.fdiv_eq_ediv_of_nonneg _ (by decide)]; exact (Int.natCast_ediv c 2).symm
      have hmod : ((c : Int)).fmod 2 = ((c % 2 : Nat) : Int) := by
        rw [Int.fmod_eq_emod_of_nonneg _ (by decide)]; exact (Int.natCast_emod c 2).symm
      have hbE : b ≤ E := by
        have : b * 1 ≤ b * c := Nat.mul_le_mul_left b (by omega)
        omega
      have hrx : bitsOk r x = true := bits_of (k := 4000) (Nat.lt_of_le_of_lt (Nat.le_trans h1 (mono (by omega))) hE) (Nat.lt_of_le_of_lt (Nat.le_trans h2 (mono hbE)) hE) (by decide)
      have hxx : bitsOk x x = true := bits_of (k := 4000) (Nat.lt_of_le_of_lt (Nat.le_trans h2 (mono hbE)) hE) (Nat.lt_of_le_of_lt (Nat.le_trans h2 (mono hbE)) hE) (by decide)
      have l2 : (Nat.log2 2) < 9000 := by decide
      have e1 : c = 2 * (c / 2) + c % 2 := by omega
      generalize hq : c / 2 = q at *
      generalize hm : c % 2 = m at *
      have hm2 : m = 0 ∨ m = 1 := by omega
      by_cases hq0 : q = 0
      · -- c = 1
        have hm1 : m = 1 := by omega
        have hc1 : c = 1 := by omega
        subst hq0 hm1
        obtain ⟨y, hy⟩ := step_pow M E hM hE st n 0 (a + b) b x (r * x) (by omega) (by rw [Int.natAbs_mul, Nat.pow_add]; exact Nat.mul_le_mul h1 h2) h2 (by subst hc1; omega)
        refine ⟨y, ?_⟩
        simp only [Int.natCast_zero, Int.pow_zero, Int.mul_one] at hy
        simp [hpos, hmod, hdiv, hrx, l2]
        subst hc1
        have p1 : x ^ 1 = x := by rw [Int.pow_succ, Int.pow_zero, Int.one_mul]
        rw [p1]
        simpa using hy
      · have hqp : 0 < q := by omega
        have hx2 : (x * x).natAbs ≤ M ^ (b + b) := by rw [Int.natAbs_mul, Nat.pow_add]; exact Nat.mul_le_mul h2 h2
        have hbq : (b + b) * q + b * m = b * c := by rw [e1, Nat.mul_add, Nat.add_mul, ← Nat.mul_assoc, Nat.mul_comm b 2, Nat.two_mul, Nat.add_mul]
        have hpw : (x * x) ^ q = x ^ (2 * q) := by rw [Int.pow_mul, Int.pow_succ, Int.pow_succ, Int.pow_zero, Int.one_mul]
        rcases hm2 with hm0 | hm1
        · subst hm0
          obtain ⟨y, hy⟩ := step_pow M E hM hE st n q a (b + b) (x * x) r (by omega) h1 hx2 (by omega)
          refine ⟨y, ?_⟩
          simp [hpos, hmod, hdiv, hqp, hxx, l2]
          rw [hy, hpw, e1, Nat.add_zero]
        · subst hm1
          obtain ⟨y, hy⟩ := step_pow M E hM hE st n q (a + b) (b + b) (x * x) (r * x) (by omega) (by rw [Int.natAbs_mul, Nat.pow_add]; exact Nat.mul_le_mul h1 h2) hx2 (by omega)
          refine ⟨y, ?_⟩
          simp [hpos, hmod, hdiv, hqp, hrx, hxx, l2]
          rw [hy, hpw, e1, Int.pow_succ, Int.mul_assoc, Int.mul_comm x]
theorem run_pow {x : Int} {c M E : Nat} {st : Store} (hM : 0 < M) (hE : M ^ E < 2 ^ 4000) (hx : x.natAbs ≤ M) (hc : c ≤ E) : F_whole_power [.int x, .int (c : Int)] st = some (.int (x ^ c), st) := by
  have hf : c < fuelAll [some (.int x), some (.int (c : Int)), some (.int 1)] st := by
    unfold fuelAll
    simp
    omega
  obtain ⟨y, h⟩ := step_pow M E hM hE st _ c 0 1 x 1 hf (by simp) (by simpa using hx) (by omega)
  simp [F_whole_power, B_whole_power, fnF, xsWhile, fuel_whole_power, h]
abbrev s_power_of : Stmt := top 10
abbrev N_power_of : List Str := ["one", "count"]
abbrev P_power_of : List Str := ["one", "count"]
theorem sc_power_of : FnScope N_power_of P_power_of (defScope s_power_of) := ⟨rfl, rfl, rfl, by decide +kernel, rfl, by decide +kernel, by decide +kernel⟩
def B_power_of : XS := (xsRet (xCall tupT (xCons (xCall F_whole_power (xCons (xBin ixA (xVar 0) (xC (.int 0))) (xCons (xVar 1) xNil))) (xCons (xCall F_whole_power (xCons (xBin ixA (xVar 0) (xC (.int 1))) (xCons (xVar 1) xNil))) xNil))))
def F_power_of : FA := fnF 2 2 B_power_of
theorem q_power {q : Rat} {c k : Nat} {st : Store} (hq : Sz k q) (hk : 2 ^ k ≠ 0 → k * c < 4000) : F_power_of [fq q, .int (c : Int)] st = some (fq (q ^ c), st) := by
  have hE : (2 ^ k) ^ c < 2 ^ 4000 := by
    rw [← Nat.pow_mul]
    exact Nat.pow_lt_pow_right (by decide) (hk (Nat.pos_iff_ne_zero.mp (Nat.two_pow_pos k)))
  have e1 := run_pow (st := st) (x := q.num) (c := c) (E := c) (Nat.two_pow_pos k) hE (Nat.le_of_lt hq.n) (Nat.le_refl _)
  have e2 := run_pow (st := st) (x := (q.den : Int)) (c := c) (E := c) (Nat.two_pow_pos k) hE (by rw [Int.natAbs_natCast]; exact Nat.le_of_lt hq.d) (Nat.le_refl _)
  have n1 := Rat.num_pow q c
  have n2 : (((q ^ c).den : Nat) : Int) = (q.den : Int) ^ c := by rw [Rat.den_pow]; exact Int.natCast_pow _ _
  simp [F_power_of, B_power_of, fnF, e1, e2, n1, n2]
abbrev s_unit : Stmt := top 12
abbrev N_unit : List Str := ["many", "place", "powers", "at"]
abbrev P_unit : List Str := ["many", "place"]
theorem sc_unit : FnScope N_unit P_unit (defScope s_unit) := ⟨rfl, rfl, rfl, by decide +kernel, rfl, by decide +kernel, by decide +kernel⟩
def B_unit : XS := (xsSeq (xsSet 2 (xCall tupleT (xCons (xLc (xiRange1 (xVar 0)) (xgName 3) [3] xYes (xIf (xBl (xBin eqT (xVar 3) (xVar 1))) (xC (.int 1)) (xC (.int 0)))) xNil)))
    (xsRet (xCall tupT (xCons (xCall tupT (xCons (xVar 2) (xCons (xCall tupT (xCons (xC (.int 1)) (xCons (xC (.int 1)) xNil))) xNil))) xNil))))
def F_unit : FA := fnF 2 4 B_unit
noncomputable def S_unit : FA := cutF F_unit
theorem cut_unit : ∀ ts st t st', S_unit ts st = some (t, st') → ∃ t2 st2, F_unit ts st = some (t2, st2) ∧ Cut st t2 st2 t st' := cutF_cut
abbrev s_constant : Stmt := top 13
abbrev N_constant : List Str := ["many", "fraction"]
abbrev P_constant : List Str := ["many", "fraction"]
theorem sc_constant : FnScope N_constant P_constant (defScope s_constant) := ⟨rfl, rfl, rfl, by decide +kernel, rfl, by decide +kernel, by decide +kernel⟩
def B_constant : XS := (xsSeq (xsIf (xBl (xBin eqT (xBin ixA (xVar 1) (xC (.int 0))) (xC (.int 0))))
    (xsRet (xCall tupT xNil))
    xsNil)
    (xsRet (xCall tupT (xCons (xCall tupT (xCons (xBin mulDT (xCall tupT (xCons (xC (.int 0)) xNil)) (xVar 0)) (xCons (xVar 1) xNil))) xNil))))
def F_constant : FA := fnF 2 2 B_constant
abbrev s_gathered : Stmt := top 14
abbrev N_gathered : List Str := ["factors", "powers"]
abbrev P_gathered : List Str := ["factors"]
theorem sc_gathered : FnScope N_gathered P_gathered (defScope s_gathered) := ⟨rfl, rfl, rfl, by decide +kernel, rfl, by decide +kernel, by decide +kernel⟩
def B_gathered : XS := (xsRet (xCall tupleT (xCons (xLc (xiSeq (xCall sortedDT (xCons (xVar 0) xNil))) (xgName 1) [1] (xBl (xBin neT (xBin ixA (xBin ixA (xVar 0) (xVar 1)) (xC (.int 0))) (xC (.int 0)))) (xCall tupT (xCons (xVar 1) (xCons (xBin ixA (xVar 0) (xVar 1)) xNil)))) xNil)))
def F_gathered : FA := fnF 1 2 B_gathered
noncomputable def S_gathered : FA := cutF F_gathered
theorem cut_gathered : ∀ ts st t st', S_gathered ts st = some (t, st') → ∃ t2 st2, F_gathered ts st = some (t2, st2) ∧ Cut st t2 st2 t st' := cutF_cut
abbrev s_plus : Stmt := top 15
abbrev N_plus : List Str := ["one", "other", "powers", "factor", "factors"]
abbrev P_plus : List Str := ["one", "other"]
theorem sc_plus : FnScope N_plus P_plus (defScope s_plus) := ⟨rfl, rfl, rfl, by decide +kernel, rfl, by decide +kernel, by decide +kernel⟩
def B_plus : XS := (xsSeq (xsSet 4 (xDcN (xiSeq (xVar 0)) (xgTup 2 (xgsCons (xgName 2) (xgsCons (xgName 3) xgsNil))) [2, 3] xYes (xVar 2) (xVar 3)))
    (xsSeq (xsFor (xiSeq (xVar 1)) (xgTup 2 (xgsCons (xgName 2) (xgsCons (xgName 3) xgsNil)))
    (xsAsg (xCall S_added (xCons (xMethX "dict" getOrT (xVar 4) (xCons (xVar 2) (xCons (xCall tupT (xCons (xC (.int 0)) (xCons (xC (.int 1)) xNil))) xNil))) (xCons (xVar 3) xNil))) (xgSubA (xVar 4) (xVar 2))))
    (xsRet (xCall S_gathered (xCons (xVar 4) xNil)))))
def F_plus : FA := fnF 2 5 B_plus
noncomputable def S_plus : FA := cutF F_plus
theorem cut_plus : ∀ ts st t st', S_plus ts st = some (t, st') → ∃ t2 st2, F_plus ts st = some (t2, st2) ∧ Cut st t2 st2 t st' := cutF_cut
abbrev s_scaled : Stmt := top 16
abbrev N_scaled : List Str := ["one", "fraction", "powers", "factor"]
abbrev P_scaled : List Str := ["one", "fraction"]
theorem sc_scaled : FnScope N_scaled P_scaled (defScope s_scaled) := ⟨rfl, rfl, rfl, by decide +kernel, rfl, by decide +kernel, by decide +kernel⟩
def B_scaled : XS := (xsSeq (xsIf (xBl (xBin eqT (xBin ixA (xVar 1) (xC (.int 0))) (xC (.int 0))))
    (xsRet (xCall tupT xNil))
    xsNil)
    (xsRet (xCall tupleT (xCons (xLc (xiSeq (xVar 0)) (xgTup 2 (xgsCons (xgName 2) (xgsCons (xgName 3) xgsNil))) [2, 3] xYes (xCall tupT (xCons (xVar 2) (xCons (xCall S_times (xCons (xVar 3) (xCons (xVar 1) xNil))) xNil)))) xNil))))
def F_scaled : FA := fnF 2 4 B_scaled
noncomputable def S_scaled : FA := cutF F_scaled
theorem cut_scaled : ∀ ts st t st', S_scaled ts st = some (t, st') → ∃ t2 st2, F_scaled ts st = some (t2, st2) ∧ Cut st t2 st2 t st' := cutF_cut
abbrev s_minus : Stmt := top 17
abbrev N_minus : List Str := ["one", "other"]
abbrev P_minus : List Str := ["one", "other"]
theorem sc_minus : FnScope N_minus P_minus (defScope s_minus) := ⟨rfl, rfl, rfl, by decide +kernel, rfl, by decide +kernel, by decide +kernel⟩
def B_minus : XS := (xsRet (xCall S_plus (xCons (xVar 0) (xCons (xCall S_scaled (xCons (xVar 1) (xCons (xCall tupT (xCons (xUn negT (xC (.int 1))) (xCons (xC (.int 1)) xNil))) xNil))) xNil))))
def F_minus : FA := fnF 2 2 B_minus
noncomputable def S_minus : FA := cutF F_minus
theorem cut_minus : ∀ ts st t st', S_minus ts st = some (t, st') → ∃ t2 st2, F_minus ts st = some (t2, st2) ∧ Cut st t2 st2 t st' := cutF_cut
abbrev s_common_den : Stmt := top 18
abbrev N_common_den : List Str := ["one", "common", "_", "factor"]
abbrev P_common_den : List Str := ["one"]
theorem sc_common_den : FnScope N_common_den P_common_den (defScope s_common_den) := ⟨rfl, rfl, rfl, by decide +kernel, rfl, by decide +kernel, by decide +kernel⟩
def B_common_den : XS := (xsSeq (xsSet 1 (xC (.int 1)))
    (xsSeq (xsFor (xiSeq (xVar 0)) (xgTup 2 (xgsCons (xgName 2) (xgsCons (xgName 3) xgsNil)))
    (xsSet 1 (xCall lcmT (xCons (xVar 1) (xCons (xBin ixA (xVar 3) (xC (.int 1))) xNil)))))
    (xsRet (xVar 1))))
def F_common_den : FA := fnF 1 4 B_common_den
abbrev s_whole_members : Stmt := top 19
abbrev N_whole_members : List Str := ["one", "common", "powers", "num", "den"]
abbrev P_whole_members : List Str := ["one", "common"]
theorem sc_whole_members : FnScope N_whole_members P_whole_members (defScope s_whole_members) := ⟨rfl, rfl, rfl, by decide +kernel, rfl, by decide +kernel, by decide +kernel⟩
def B_whole_members : XS := (xsRet (xLc (xiSeq (xVar 0)) (xgTup 2 (xgsCons (xgName 2) (xgsCons (xgTup 2 (xgsCons (xgName 3) (xgsCons (xgName 4) xgsNil))) xgsNil))) [2, 3, 4] xYes (xCall tupT (xCons (xVar 2) (xCons (xBin mulT (xVar 3) (xBin fdivT (xVar 1) (xVar 4))) xNil)))))
def F_whole_members : FA := fnF 2 5 B_whole_members
abbrev s_multiplied : Stmt := top 20
abbrev N_multiplied : List Str := ["one", "other", "first", "second", "others", "nums", "powers", "num", "more", "by", "key", "count", "further"]
abbrev P_multiplied : List Str := ["one", "other"]
theorem sc_multiplied : FnScope N_multiplied P_multiplied (defScope s_multiplied) := ⟨rfl, rfl, rfl, by decide +kernel, rfl, by decide +kernel, by decide +kernel⟩
def B_multiplied : XS := (xsSeq (xsAsg (xCall tupT (xCons (xCall F_common_den (xCons (xVar 0) xNil)) (xCons (xCall F_common_den (xCons (xVar 1) xNil)) xNil))) (xgTup 2 (xgsCons (xgName 2) (xgsCons (xgName 3) xgsNil))))
    (xsSeq (xsSet 4 (xCall F_whole_members (xCons (xVar 1) (xCons (xVar 3) xNil))))
    (xsSeq (xsSet 5 xDictN)
    (xsSeq (xsFor (xiSeq (xCall F_whole_members (xCons (xVar 0) (xCons (xVar 2) xNil)))) (xgTup 2 (xgsCons (xgName 6) (xgsCons (xgName 7) xgsNil)))
    (xsFor (xiSeq (xVar 4)) (xgTup 2 (xgsCons (xgName 8) (xgsCons (xgName 9) xgsNil)))
    (xsSeq (xsSet 10 (xCall tupleT (xCons (xLc (xiZip (xVar 6) (xVar 8)) (xgTup 2 (xgsCons (xgName 11) (xgsCons (xgName 12) xgsNil))) [11, 12] xYes (xBin addT (xVar 11) (xVar 12))) xNil)))
    (xsAsg (xBin addT (xMethX "dict" getOrT (xVar 5) (xCons (xVar 10) (xCons (xC (.int 0)) xNil))) (xBin mulT (xVar 7) (xVar 9))) (xgSubA (xVar 5) (xVar 10))))))
    (xsRet (xCall S_gathered (xCons (xLock 5 (xDcN (xiDict (xVar 5)) (xgName 6) [6] xYes (xVar 6) (xCall S_reduced (xCons (xBin ixB (xVar 5) (xVar 6)) (xCons (xBin mulT (xVar 2) (xVar 3)) xNil))))) xNil)))))))
def F_multiplied : FA := fnF 2 13 B_multiplied
noncomputable def S_multiplied : FA := cutF F_multiplied
theorem cut_multiplied : ∀ ts st t st', S_multiplied ts st = some (t, st') → ∃ t2 st2, F_multiplied ts st = some (t2, st2) ∧ Cut st t2 st2 t st' := cutF_cut
abbrev s_raised : Stmt := top 21
abbrev N_raised : List Str := ["many", "one", "count", "result"]
abbrev P_raised : List Str := ["many", "one", "count"]
theorem sc_raised : FnScope N_raised P_raised (defScope s_raised) := ⟨rfl, rfl, rfl, by decide +kernel, rfl, by decide +kernel, by decide +kernel⟩
def fuel_raised := fuelAll
def B_raised : XS := (xsSeq (xsSet 3 (xCall F_constant (xCons (xVar 0) (xCons (xCall tupT (xCons (xC (.int 1)) (xCons (xC (.int 1)) xNil))) xNil))))
    (xsSeq (xsWhile fuel_raised (xBl (xBin gtT (xVar 2) (xC (.int 0))))
    (xsSeq (xsIf (xBl (xBin eqT (xBin modT (xVar 2) (xC (.int 2))) (xC (.int 1))))
    (xsSet 3 (xCall S_multiplied (xCons (xVar 3) (xCons (xVar 1) xNil))))
    xsNil)
    (xsSeq (xsSet 2 (xBin fdivT (xVar 2) (xC (.int 2))))
    (xsIf (xBl (xBin gtT (xVar 2) (xC (.int 0))))
    (xsSet 1 (xCall S_multiplied (xCons (xVar 1) (xCons (xVar 1) xNil))))
    xsNil))))
    (xsRet (xVar 3))))
def F_raised : FA := fnF 3 4 B_raised
noncomputable def S_raised : FA := cutF F_raised
theorem cut_raised : ∀ ts st t st', S_raised ts st = some (t, st') → ∃ t2 st2, F_raised ts st = some (t2, st2) ∧ Cut st t2 st2 t st' := cutF_cut
abbrev s_parts_by : Stmt := top 22
abbrev N_parts_by : List Str := ["one", "place", "found", "powers", "factor", "rest", "count"]
abbrev P_parts_by : List Str := ["one", "place"]
theorem sc_parts_by : FnScope N_parts_by P_parts_by (defScope s_parts_by) := ⟨rfl, rfl, rfl, by decide +kernel, rfl, by decide +kernel, by decide +kernel⟩
def B_parts_by : XS := (xsSeq (xsSet 2 xDictK)
    (xsSeq (xsFor (xiSeq (xVar 0)) (xgTup 2 (xgsCons (xgName 3) (xgsCons (xgName 4) xgsNil)))
    (xsSeq (xsSet 5 (xBin addT (xBin addT (xSl (xVar 3) none (some (xVar 1))) (xCall tupT (xCons (xC (.int 0)) xNil))) (xSl (xVar 3) (some (xBin addT (xVar 1) (xC (.int 1)))) none)))
    (xsExpr (xMeth "list" appendT (xMethX "dict" setdefT (xVar 2) (xCons (xBin ixA (xVar 3) (xVar 1)) (xCons (xCall lstT xNil) xNil))) (xCons (xCall tupT (xCons (xVar 5) (xCons (xVar 4) xNil))) xNil)))))
    (xsRet (xLock 2 (xDcK (xiDict (xVar 2)) (xgName 6) [6] xYes (xVar 6) (xCall tupleT (xCons (xBin ixB (xVar 2) (xVar 6)) xNil)))))))
def F_parts_by : FA := fnF 2 7 B_parts_by
abbrev s_part_by : Stmt := top 23
abbrev N_part_by : List Str := ["one", "place", "count"]
abbrev P_part_by : List Str := ["one", "place", "count"]
theorem sc_part_by : FnScope N_part_by P_part_by (defScope s_part_by) := ⟨rfl, rfl, rfl, by decide +kernel, rfl, by decide +kernel, by decide +kernel⟩
def B_part_by : XS := (xsRet (xMethX "dict" getOrT (xCall F_parts_by (xCons (xVar 0) (xCons (xVar 1) xNil))) (xCons (xVar 2) (xCons (xCall tupT xNil) xNil))))
def F_part_by : FA := fnF 3 3 B_part_by
noncomputable def S_part_by : FA := cutF F_part_by
theorem cut_part_by : ∀ ts st t st', S_part_by ts st = some (t, st') → ∃ t2 st2, F_part_by ts st = some (t2, st2) ∧ Cut st t2 st2 t st' := cutF_cut
abbrev s_put_in : Stmt := top 24
abbrev N_put_in : List Str := ["one", "place", "other", "many", "parts", "counts", "result", "count", "lower"]
abbrev P_put_in : List Str := ["one", "place", "other"]
theorem sc_put_in : FnScope N_put_in P_put_in (defScope s_put_in) := ⟨rfl, rfl, rfl, by decide +kernel, rfl, by decide +kernel, by decide +kernel⟩
def B_put_in : XS := (xsSeq (xsIf (xBl (xBin eqT (xVar 0) (xCall tupT xNil)))
    (xsRet (xCall tupT xNil))
    xsNil)
    (xsSeq (xsSet 3 (xCall lenT (xCons (xBin ixA (xBin ixA (xVar 0) (xC (.int 0))) (xC (.int 0))) xNil)))
    (xsSeq (xsSet 4 (xCall F_parts_by (xCons (xVar 0) (xCons (xVar 1) xNil))))
    (xsSeq (xsSet 5 (xSortRev true (xVar 4)))
    (xsSeq (xsSet 6 (xCall tupT xNil))
    (xsSeq (xsFor (xiZip (xVar 5) (xBin addT (xSl (xVar 5) (some (xC (.int 1))) none) (xCall lstT (xCons (xC (.int 0)) xNil)))) (xgTup 2 (xgsCons (xgName 7) (xgsCons (xgName 8) xgsNil)))
    (xsSet 6 (xCall S_multiplied (xCons (xCall S_plus (xCons (xVar 6) (xCons (xBin ixA (xVar 4) (xVar 7)) xNil))) (xCons (xCall S_raised (xCons (xVar 3) (xCons (xVar 2) (xCons (xBin subT (xVar 7) (xVar 8)) xNil)))) xNil)))))
    (xsRet (xVar 6))))))))
def F_put_in : FA := fnF 3 9 B_put_in
noncomputable def S_put_in : FA := cutF F_put_in
theorem cut_put_in : ∀ ts st t st', S_put_in ts st = some (t, st') → ∃ t2 st2, F_put_in ts st = some (t2, st2) ∧ Cut st t2 st2 t st' := cutF_cut
abbrev s_member_worth : Stmt := top 25
abbrev N_member_worth : List Str := ["powers", "factor", "values", "worth", "value", "count"]
abbrev P_member_worth : List Str := ["powers", "factor", "values"]
theorem sc_member_worth : FnScope N_member_worth P_member_worth (defScope s_member_worth) := ⟨rfl, rfl, rfl, by decide +kernel, rfl, by decide +kernel, by decide +kernel⟩
def B_member_worth : XS := (xsSeq (xsSet 3 (xVar 1))
    (xsSeq (xsFor (xiZip (xVar 2) (xVar 0)) (xgTup 2 (xgsCons (xgName 4) (xgsCons (xgName 5) xgsNil)))
    (xsIf (xBl (xBin gtT (xVar 5) (xC (.int 0))))
    (xsSet 3 (xCall S_times (xCons (xVar 3) (xCons (xCall F_power_of (xCons (xVar 4) (xCons (xVar 5) xNil))) xNil))))
    xsNil))
    (xsRet (xVar 3))))
def F_member_worth : FA := fnF 3 6 B_member_worth
abbrev s_worth_at : Stmt := top 26
abbrev N_worth_at : List Str := ["one", "values", "powers", "factor"]
abbrev P_worth_at : List Str := ["one", "values"]
theorem sc_worth_at : FnScope N_worth_at P_worth_at (defScope s_worth_at) := ⟨rfl, rfl, rfl, by decide +kernel, rfl, by decide +kernel, by decide +kernel⟩
def B_worth_at : XS := (xsRet (xCall S_total_of (xCons (xLc (xiSeq (xVar 0)) (xgTup 2 (xgsCons (xgName 2) (xgsCons (xgName 3) xgsNil))) [2, 3] xYes (xCall F_member_worth (xCons (xVar 2) (xCons (xVar 3) (xCons (xVar 1) xNil))))) xNil)))
def F_worth_at : FA := fnF 2 4 B_worth_at
noncomputable def S_worth_at : FA := cutF F_worth_at
theorem cut_worth_at : ∀ ts st t st', S_worth_at ts st = some (t, st') → ∃ t2 st2, F_worth_at ts st = some (t2, st2) ∧ Cut st t2 st2 t st' := cutF_cut
abbrev s_degree_in : Stmt := top 27
abbrev N_degree_in : List Str := ["one", "place", "member"]
abbrev P_degree_in : List Str := ["one", "place"]
theorem sc_degree_in : FnScope N_degree_in P_degree_in (defScope s_degree_in) := ⟨rfl, rfl, rfl, by decide +kernel, rfl, by decide +kernel, by decide +kernel⟩
def B_degree_in : XS := (xsRet (xMaxD (xLc (xiSeq (xVar 0)) (xgName 2) [2] xYes (xBin ixA (xBin ixA (xVar 2) (xC (.int 0))) (xVar 1))) (xC (.int 0))))
def F_degree_in : FA := fnF 2 3 B_degree_in
noncomputable def S_degree_in : FA := cutF F_degree_in
theorem cut_degree_in : ∀ ts st t st', S_degree_in ts st = some (t, st') → ∃ t2 st2, F_degree_in ts st = some (t2, st2) ∧ Cut st t2 st2 t st' := cutF_cut
abbrev s__law_bag : Stmt := top 29
abbrev N__law_bag : List Str := ["_law_script", "_law_cell"]
abbrev P__law_bag : List Str := ["_law_script"]
theorem sc__law_bag : FnScope N__law_bag P__law_bag (defScope s__law_bag) := ⟨rfl, rfl, rfl, by decide +kernel, rfl, by decide +kernel, by decide +kernel⟩
def B__law_bag : XS := (xsRet (xCall lstT (xCons (xC (.int 0)) (xCons (xC (.int 1234567891)) (xCons (xC (.int 0)) (xCons (xLc (xiSeq (xSl (xVar 0) none (some (xC (.int 63))))) (xgName 1) [1] xYes (xCall absT (xCons (xVar 1) xNil))) xNil))))))
def F__law_bag : FA := fnF 1 2 B__law_bag
def absI : T → T
  | .int i => .int (if i < 0 then -i else i)
  | t => t
theorem bag_ok (ns : List Int) (st : Store) : ∃ g, F__law_bag [.rdl ns] st = some (.ref (st.length + 2), st ++ g) ∧ BagAt 0 (st ++ g) (st.length + 2) (st.length + 1) := by
  generalize hX : (cutG ns none (some 63)) = X
  have hlen : X.length ≤ 63 := by
    rw [← hX]
    unfold cutG
    have : HT.sIx ns.length ns.length (some 63) ≤ 63 := by
      unfold HT.sIx; simp; omega
    simp only [List.length_take, List.length_drop]
    omega
  have hfi : xiSeq (xSl (xVar 0) none (some (xC (.int 63)))) [some (.rdl ns), none] st = some (fun s => match s[st.length]? with
      | some (.lst ts) => some ts
      | _ => none, st ++ [.lst (X.map T.int)]) := by
    simp [xiSeq, xSl, xPart, slT, hX] <;> rfl
  have hlc := lc_map (vs := [1]) (i := 1) (te := xCall absT (xCons (xVar 1) xNil)) (ts := X.map T.int) absI hfi (fun acc => by simp) (by simp; omega) (fun x hx acc => by
    obtain ⟨z, hz, rfl⟩ := List.mem_map.mp hx
    simp [wipeE, absI])
  refine ⟨[.lst (X.map T.int), .lst ((X.map T.int).map absI), .lst [.int 0, .int 1234567891, .int 0, .ref (st.length + 1)]], ?_, ?_⟩
  · have s4 : (4 : Nat) ≤ sizeLine := by decide
    simp [F__law_bag, B__law_bag, fnF]
    rw [show ([some (T.rdl ns), none] : Env1) = [some (.rdl ns), none] from rfl, hlc]
    simp [s4]
  · refine ⟨0, 1234567891, 0, X.map (fun i => if i < 0 then -i else i), by simp, ?_, by omega, by decide, by decide, by decide, by decide, by decide, fun z hz => ?_, by simp; omega⟩
    · simp [absI, Function.comp_def]
    · obtain ⟨y, _, rfl⟩ := List.mem_map.mp hz
      split <;> omega
abbrev s__law_take : Stmt := top 30
abbrev N__law_take : List Str := ["_law_bag_here", "_law_many", "_law_cell", "_law_stirred", "_law_value", "_law_begin", "_law_second"]
abbrev P__law_take : List Str := ["_law_bag_here", "_law_many"]
theorem sc__law_take : FnScope N__law_take P__law_take (defScope s__law_take) := ⟨rfl, rfl, rfl, by decide +kernel, rfl, by decide +kernel, by decide +kernel⟩
def B__law_take : XS := (xsSeq (xsIf (xBl (xBin eqT (xBin ixA (xVar 0) (xC (.int 0))) (xC (.int 0))))
    (xsSeq (xsSet 2 (xBin ixA (xBin addT (xSl (xBin ixA (xVar 0) (xC (.int 3))) (some (xBin ixA (xVar 0) (xC (.int 2)))) none) (xCall lstT (xCons (xC (.int 0)) xNil))) (xC (.int 0))))
    (xsSeq (xsAugS (xVar 0) (xC (.int 2)) iaddT (xC (.int 1)))
    (xsSeq (xsIf (xBl (xBin geT (xVar 2) (xBin powT (xC (.int 10)) (xC (.int 18)))))
    (xsAsg (xVar 2) (xgSubA (xVar 0) (xC (.int 0))))
    xsNil)
    (xsSeq (xsSet 3 (xBin addT (xBin addT (xBin mulT (xBin ixA (xVar 0) (xC (.int 1))) (xC (.int 48271))) (xBin modT (xCall intT (xCons (xVar 2) xNil)) (xC (.int 2147483647)))) (xBin mulT (xC (.int 7919)) (xBin ixA (xVar 0) (xC (.int 2))))))
    (xsAsg (xBin modT (xCall intT (xCons (xVar 3) xNil)) (xC (.int 2147483647))) (xgSubA (xVar 0) (xC (.int 1))))))))
    xsNil)
    (xsSeq (xsIf (xBl (xBin gtT (xBin ixA (xVar 0) (xC (.int 0))) (xC (.int 0))))
    (xsSeq (xsSet 4 (xBin modT (xCall intT (xCons (xBin ixA (xVar 0) (xC (.int 0))) xNil)) (xVar 1)))
    (xsSeq (xsAsg (xBin fdivT (xCall intT (xCons (xBin ixA (xVar 0) (xC (.int 0))) xNil)) (xVar 1)) (xgSubA (xVar 0) (xC (.int 0))))
    (xsRet (xVar 4))))
    xsNil)
    (xsSeq (xsSet 5 (xBin modT (xCall intT (xCons (xBin mulT (xBin addT (xBin ixA (xVar 0) (xC (.int 1))) (xC (.int 1))) (xC (.int 39373))) xNil)) (xC (.int 1000000007))))
    (xsSeq (xsSet 6 (xBin modT (xCall intT (xCons (xBin mulT (xBin modT (xCall intT (xCons (xBin mulT (xVar 5) (xVar 5)) xNil)) (xC (.int 998244353))) (xC (.int 30011))) xNil)) (xC (.int 998244353))))
    (xsRet (xBin modT (xCall intT (xCons (xBin fdivT (xVar 6) (xC (.int 7))) xNil)) (xVar 1)))))))
def F__law_take : FA := fnF 2 7 B__law_take
theorem take_old {st : Store} {l m : Nat} {a b c many : Int} (h : st[l]? = some (bagO a b c m)) (ha : 0 < a) (hm : 0 < many) (hs : many.natAbs.log2 < 9000) :
    F__law_take [.ref l, .int many] st = some (.int (a.fmod many), st.set l (bagO (a.fdiv many) b c m)) := by
  have h0 : a ≠ 0 := by omega
  have h1 : many ≠ 0 := by omega
  simp [F__law_take, B__law_take, fnF, r_ixLst h, h0, ha, h1, hs, xgSubA, set0 h]
theorem take_new {st : Store} {l m : Nat} {b c many z : Int} {cs : List Int} (h : st[l]? = some (bagO 0 b c m)) (h2 : st[m]? = some (.lst (cs.map T.int))) (hlen : cs.length ≤ 63) (hz : atI (cutG (cs.map T.int) (some c) none ++ [.int 0]) 0 = some (.int z)) (hb1 : bitsOk b 48271 = true) (hb2 : bitsOk 7919 (c + 1) = true) (hbig : 10 ^ 18 ≤ z) (hm : 0 < many) (hs : many.natAbs.log2 < 9000) :
    ∃ g, F__law_take [.ref l, .int many] st = some (.int (z.fmod many), (st ++ g).set l (bagO (z.fdiv many) ((b * 48271 + z.fmod 2147483647 + 7919 * (c + 1)).fmod 2147483647) (c + 1) m)) := by
  have h1 : many ≠ 0 := by omega
  have hz0 : 0 < z := by omega
  have hl := (List.getElem?_eq_some_iff.mp h).1
  have hX : (cutG (cs.map T.int) (some c) none).length ≤ 63 := by
    unfold cutG
    simp only [List.length_take, List.length_drop, List.length_map]
    omega
  generalize hXX : cutG (cs.map T.int) (some c) none = X at hz hX
  have hadd : addT (.ref st.length) (.ref (st.length + 1)) (st ++ [.lst X, .lst [.int 0]]) = some (.ref (st.length + 2), st ++ [.lst X, .lst [.int 0], .lst (X ++ [.int 0])]) := by
    have hsz : X.length + 1 ≤ sizeLine := Nat.le_of_lt (small1000 (by omega))
    simp [addT, hsz]
  have hix : ixA (.ref (st.length + 2)) (.int 0) (st ++ [.lst X, .lst [.int 0], .lst (X ++ [.int 0])]) = some (.int z, st ++ [.lst X, .lst [.int 0], .lst (X ++ [.int 0])]) := by
    rw [r_ixLst (ts := X ++ [.int 0]) (by simp), hz]; rfl
  refine ⟨[.lst X, .lst [.int 0], .lst (X ++ [.int 0])], ?_⟩
  simp [F__law_take, B__law_take, fnF, r_ixLst h, xSl, xPart, slT, h2, hXX, hadd, hix]
  have h3 := getA (g := [.lst X, .lst [.int 0], .lst (X ++ [.int 0])]) h
  generalize st ++ [.lst X, .lst [.int 0], .lst (X ++ [.int 0])] = st3 at h3 ⊢
  have h4 : (st3.set l (bagO 0 b (c + 1) m))[l]? = some (bagO 0 b (c + 1) m) := lg h3
  have h5 : (st3.set l (bagO z b (c + 1) m))[l]? = some (bagO z b (c + 1) m) := lg h3
  have h6 : (st3.set l (bagO z ((b * 48271 + z.fmod 2147483647 + 7919 * (c + 1)).fmod 2147483647) (c + 1) m))[l]? = some (bagO z ((b * 48271 + z.fmod 2147483647 + 7919 * (c + 1)).fmod 2147483647) (c + 1) m) := lg h3
  have hbig2 : 1000000000000000000 ≤ z := by omega
  simp [xsAugS, get2 h3, aug2 h3, xgSubA, set0 h4, r_ixLst h4, r_ixLst h5, set1 h5, r_ixLst h6, set0 h6, hb1, hb2, hz0, h1, hs, hbig2]
/-- the rest of what take does where nothing is left of a great number: some number below many -/
theorem take_small {st : Store} {l m : Nat} {b c many z : Int} {cs : List Int} (h : st[l]? = some (bagO 0 b c m)) (h2 : st[m]? = some (.lst (cs.map T.int))) (hlen : cs.length ≤ 63) (hz : atI (cutG (cs.map T.int) (some c) none ++ [.int 0]) 0 = some (.int z)) (hb1 : bitsOk b 48271 = true) (hb2 : bitsOk 7919 (c + 1) = true) (hbig : z < 10 ^ 18) (hm : 0 < many) (hs : many.natAbs.log2 < 9000) :
    ∃ g v, F__law_take [.ref l, .int many] st = some (.int v, (st ++ g).set l (bagO 0 ((b * 48271 + z.fmod 2147483647 + 7919 * (c + 1)).fmod 2147483647) (c + 1) m)) ∧ 0 ≤ v ∧ v < many := by
  have h1 : many ≠ 0 := by omega
  have hl := (List.getElem?_eq_some_iff.mp h).1
  have hX : (cutG (cs.map T.int) (some c) none).length ≤ 63 := by
    unfold cutG
    simp only [List.length_take, List.length_drop, List.length_map]
    omega
  generalize hXX : cutG (cs.map T.int) (some c) none = X at hz hX
  have hadd : addT (.ref st.length) (.ref (st.length + 1)) (st ++ [.lst X, .lst [.int 0]]) = some (.ref (st.length + 2), st ++ [.lst X, .lst [.int 0], .lst (X ++ [.int 0])]) := by
    have hsz : X.length + 1 ≤ sizeLine := Nat.le_of_lt (small1000 (by omega))
    simp [addT, hsz]
  have hix : ixA (.ref (st.length + 2)) (.int 0) (st ++ [.lst X, .lst [.int 0], .lst (X ++ [.int 0])]) = some (.int z, st ++ [.lst X, .lst [.int 0], .lst (X ++ [.int 0])]) := by
    rw [r_ixLst (ts := X ++ [.int 0]) (by simp), hz]; rfl
  have h3 := getA (g := [.lst X, .lst [.int 0], .lst (X ++ [.int 0])]) h
  generalize hb' : (b * 48271 + z.fmod 2147483647 + 7919 * (c + 1)).fmod 2147483647 = b' at *
  have hbb : 0 ≤ b' ∧ b' < 2147483647 := by
    rw [← hb', Int.fmod_eq_emod_of_nonneg _ (by decide)]
    exact ⟨Int.emod_nonneg _ (by decide), Int.emod_lt_of_pos _ (by decide)⟩
  have k1 : bitsOk (b' + 1) 39373 = true := bits_of (k := 40) (by omega) (by decide) (by decide)
  generalize hy : ((b' + 1) * 39373).fmod 1000000007 = y at *
  have hyb : 0 ≤ y ∧ y < 1000000007 := by
    rw [← hy, Int.fmod_eq_emod_of_nonneg _ (by decide)]
    exact ⟨Int.emod_nonneg _ (by decide), Int.emod_lt_of_pos _ (by decide)⟩
  have k2 : bitsOk y y = true := bits_of (k := 40) (by omega) (by omega) (by decide)
  generalize hw : (y * y).fmod 998244353 = w at *
  have hwb : 0 ≤ w ∧ w < 998244353 := by
    rw [← hw, Int.fmod_eq_emod_of_nonneg _ (by decide)]
    exact ⟨Int.emod_nonneg _ (by decide), Int.emod_lt_of_pos _ (by decide)⟩
  have k3 : bitsOk w 30011 = true := bits_of (k := 40) (by omega) (by decide) (by decide)
  refine ⟨[.lst X, .lst [.int 0], .lst (X ++ [.int 0])], (((w * 30011).fmod 998244353).fdiv 7).fmod many, ?_, ?_, ?_⟩
  · simp [F__law_take, B__law_take, fnF, r_ixLst h, xSl, xPart, slT, h2, hXX, hadd, hix]
    generalize st ++ [.lst X, .lst [.int 0], .lst (X ++ [.int 0])] = st3 at h3 ⊢
    have h4 : (st3.set l (bagO 0 b (c + 1) m))[l]? = some (bagO 0 b (c + 1) m) := lg h3
    have h6 : (st3.set l (bagO 0 b' (c + 1) m))[l]? = some (bagO 0 b' (c + 1) m) := lg h3
    have hbig2 : ¬ (1000000000000000000 ≤ z) := by omega
    have l7 : Nat.log2 7 < 9000 := by decide
    simp [xsAugS, get2 h3, aug2 h3, xgSubA, r_ixLst h4, set1 h4, r_ixLst h6, hb1, hb2, h1, hs, hbig2, hb', k1, hy, k2, hw, k3, l7]
  · rw [Int.fmod_eq_emod_of_nonneg _ (by omega)]; exact Int.emod_nonneg _ h1
  · rw [Int.fmod_eq_emod_of_nonneg _ (by omega)]; exact Int.emod_lt_of_pos _ hm
noncomputable def S__law_take : FA := cutF F__law_take
theorem cut__law_take : ∀ ts st t st', S__law_take ts st = some (t, st') → ∃ t2 st2, F__law_take ts st = some (t2, st2) ∧ Cut st t2 st2 t st' := cutF_cut
theorem take_ok {N : Nat} {st : Store} {l m : Nat} {many : Int} (h : BagAt N st l m) (hN : N ≤ 1000000) (hm : 0 < many) (hs : many.natAbs.log2 < 9000) : ∃ v st', S__law_take [.ref l, .int many] st = some (.int v, st') ∧ 0 ≤ v ∧ v < many ∧ Only l st st' ∧ BagAt (N + 1) st' l m := by
  obtain ⟨a, b, c, cs, h1, h2, hlm, ha, hb1, hb2, hc1, hc2, hcs, hlen⟩ := h.ex
  have hl := (List.getElem?_eq_some_iff.mp h1).1
  have hml := (List.getElem?_eq_some_iff.mp h2).1
  have after : ∀ (a' b' c' : Int), 0 ≤ a' → 0 ≤ b' → b' < 2147483648 → 0 ≤ c' → c' ≤ N + 1 → BagAt (N + 1) (st.set l (bagO a' b' c' m)) l m := fun a' b' c' g1 g2 g3 g4 g5 =>
    ⟨a', b', c', cs, List.getElem?_set_self hl, by rw [List.getElem?_set_ne hlm]; exact h2, hlm, g1, g2, g3, g4, by omega, hcs, hlen⟩
  by_cases ha0 : 0 < a
  · have e := take_old h1 ha0 hm hs
    have ec := cutF_of (st2 := (st ++ []).set l (bagO (a.fdiv many) b c m)) (by rw [List.append_nil]; exact e) (cut_set hl hml)
    rw [take_set hl] at ec
    refine ⟨_, _, ec, ?_, ?_, Only.set, after _ _ _ ?_ hb1 hb2 hc1 (by omega)⟩
    · rw [Int.fmod_eq_emod_of_nonneg _ (by omega)]; exact Int.emod_nonneg _ (by omega)
    · rw [Int.fmod_eq_emod_of_nonneg _ (by omega)]; exact Int.emod_lt_of_pos _ hm
    · rw [Int.fdiv_eq_ediv_of_nonneg _ (by omega)]; exact Int.ediv_nonneg ha (by omega)
  · have ha1 : a = 0 := by omega
    subst ha1
    obtain ⟨z, hz, hzz⟩ := cell_of cs c
    have hz0 : 0 ≤ z := by
      rcases hzz with e | e
      · omega
      · exact hcs z e
    have k1 : bitsOk b 48271 = true := bits_of (k := 40) (by omega) (by decide) (by decide)
    have k2 : bitsOk 7919 (c + 1) = true := bits_of (k := 40) (by decide) (by omega) (by decide)
    have hbb : 0 ≤ (b * 48271 + z.fmod 2147483647 + 7919 * (c + 1)).fmod 2147483647 ∧ (b * 48271 + z.fmod 2147483647 + 7919 * (c + 1)).fmod 2147483647 < 2147483647 := by
      rw [Int.fmod_eq_emod_of_nonneg (b * 48271 + _ + _) (by decide)]
      exact ⟨Int.emod_nonneg _ (by decide), Int.emod_lt_of_pos _ (by decide)⟩
    by_cases hbig : 10 ^ 18 ≤ z
    · obtain ⟨g, e⟩ := take_new h1 h2 hlen hz k1 k2 hbig hm hs
      have ec := cutF_of e (cut_set hl hml)
      rw [take_set hl] at ec
      refine ⟨_, _, ec, ?_, ?_, Only.set, after _ _ _ ?_ hbb.1 (by omega) (by omega) (by omega)⟩
      · rw [Int.fmod_eq_emod_of_nonneg _ (by omega)]; exact Int.emod_nonneg _ (by omega)
      · rw [Int.fmod_eq_emod_of_nonneg _ (by omega)]; exact Int.emod_lt_of_pos _ hm
      · rw [Int.fdiv_eq_ediv_of_nonneg _ (by omega)]; exact Int.ediv_nonneg hz0 (by omega)
    · obtain ⟨g, v, e, hv1, hv2⟩ := take_small h1 h2 hlen hz k1 k2 (by omega) hm hs
      have ec := cutF_of e (cut_set hl hml)
      rw [take_set hl] at ec
      exact ⟨_, _, ec, hv1, hv2, Only.set, after _ _ _ (by omega) hbb.1 (by omega) (by omega) (by omega)⟩
abbrev s__law_some : Stmt := top 31
abbrev N__law_some : List Str := ["_law_bag_here", "_law_things"]
abbrev P__law_some : List Str := ["_law_bag_here", "_law_things"]
theorem sc__law_some : FnScope N__law_some P__law_some (defScope s__law_some) := ⟨rfl, rfl, rfl, by decide +kernel, rfl, by decide +kernel, by decide +kernel⟩
def B__law_some : XS := (xsRet (xBin ixA (xVar 1) (xCall S__law_take (xCons (xVar 0) (xCons (xCall lenT (xCons (xVar 1) xNil)) xNil)))))
def F__law_some : FA := fnF 2 2 B__law_some
theorem some_list {N : Nat} {st : Store} {l m j : Nat} {ts : List T} (h : BagAt N st l m) (hN : N ≤ 1000000) (hj : st[j]? = some (.lst ts)) (hjl : j ≠ l) (h0 : ts ≠ []) (hlen : ts.length ≤ 1000) :
    ∃ x st', F__law_some [.ref l, .ref j] st = some (x, st') ∧ x ∈ ts ∧ Only l st st' ∧ BagAt (N + 1) st' l m := by
  have hpos : 0 < ts.length := List.length_pos_iff.mpr h0
  obtain ⟨v, st', e, hv0, hv1, ho, hb⟩ := take_ok (many := (ts.length : Int)) h hN (by omega) (by rw [Int.natAbs_natCast]; have := log2_of (k := 10) (show ts.length < 2 ^ 10 by omega); omega)
  obtain ⟨k, rfl⟩ := Int.eq_ofNat_of_zero_le hv0
  have hk : k < ts.length := by omega
  have hj' : st'[j]? = some (.lst ts) := (ho.at_ j hjl).trans hj
  refine ⟨ts[k], st', ?_, List.getElem_mem hk, ho, hb⟩
  have hlenT : lenT [.ref j] st = some (.int ts.length, st) := by simp [lenT, hj]
  have hat : atI ts (k : Int) = some ts[k] := atI_nat (List.getElem?_eq_getElem hk)
  simp [F__law_some, B__law_some, fnF, hlenT, e, r_ixLst hj', hat]
abbrev s__law_alike : Stmt := top 32
abbrev N__law_alike : List Str := ["_law_found", "_law_due"]
abbrev P__law_alike : List Str := ["_law_found", "_law_due"]
theorem sc__law_alike : FnScope N__law_alike P__law_alike (defScope s__law_alike) := ⟨rfl, rfl, rfl, by decide +kernel, rfl, by decide +kernel, by decide +kernel⟩
def B__law_alike : XS := (xsRet (xAnd (xBin eqT (xVar 0) (xVar 1)) (xBin eqT (xCall reprV (xCons (xVar 0) xNil)) (xCall reprV (xCons (xVar 1) xNil)))))
def F__law_alike : FA := fnF 2 2 B__law_alike
/-- data that repr shows and == compares -/
def goodD (d : PyData) : Prop := SeqAt.shaped d = true ∧ d.showable = true ∧ d.hasDict = false ∧ d.depth ≤ 60 ∧ d.shown.length ≤ sizeLine
def isBox : T → Bool
  | .tup _ => true
  | .ptp _ => true
  | .ref _ => true
  | _ => false
theorem eqT_box {x y : T} {st : Store} (hx : isBox x = true) (hy : isBox y = true) : TL.eqT x y st = eqdT false x y st := by
  cases x <;> cases y <;> first | rfl | (simp [isBox] at hx) | (simp [isBox] at hy)
theorem reprT_box {x : T} {st : Store} {d : PyData} (hx : isBox x = true) (h : toD st dpth x = some d) (g : goodD d) : reprV [x] st = some (.str d.shown, st) := by
  obtain ⟨_, g2, g3, g4, g5⟩ := g
  cases x with
  | ptp ts =>
    have h : toD st dpth (.tup ts) = some d := h
    simp [reprT, h, g2, g3, g4, g5]
  | _ => first | (simp [isBox] at hx; done) | simp [reprT, h, g2, g3, g4, g5]
theorem alike_ok {x y : T} {st : Store} {d : PyData} (hx : isBox x = true) (hy : isBox y = true) (h1 : toD st dpth x = some d) (h2 : toD st dpth y = some d) (g : goodD d) : F__law_alike [x, y] st = some (.bl true, st) := by
  have e1 : eqdT false x y st = some (.bl true, st) := by
    unfold eqdT
    rw [h1, h2]
    have := SeqAt.eqv_refl d (SeqAt.canLay_of_shaped g.1)
    simp [g.1, this]
  have e2 : TL.eqT (.str d.shown) (.str d.shown) st = some (.bl true, st) := by simp [TL.eqT]
  simp [F__law_alike, B__law_alike, fnF, xAnd, eqT_box hx hy, e1, reprT_box hx h1 g, reprT_box hy h2 g, e2]
theorem alike_b (a : Bool) (st : Store) : F__law_alike [.bl a, .bl a] st = some (.bl true, st) := by
  cases a <;> simp [F__law_alike, B__law_alike, fnF, xAnd, TL.eqT]
theorem alike_n (st : Store) : F__law_alike [.non, .non] st = some (.bl true, st) := by
  have h : TL.eqT .non .non st = some (.bl true, st) := by
    have h1 : SeqAt.shaped .none = true := by decide +kernel
    have h2 : PyData.eqv .none .none = true := by decide +kernel
    show eqdT false .non .non st = _
    unfold eqdT
    have h0 : toD st dpth .non = some .none := by unfold dpth toD; rfl
    simp only [h0, h1, h2, Bool.and_self, if_true]
    rfl
  have h3 : ∀ x : Str, ∀ s : Store, TL.eqT (.str x) (.str x) s = some (.bl true, s) := fun x s => by simp [TL.eqT]
  simp [F__law_alike, B__law_alike, fnF, xAnd, h, h3]
abbrev s__law_divisor : Stmt := top 33
abbrev N__law_divisor : List Str := ["_law_one", "_law_other"]
abbrev P__law_divisor : List Str := ["_law_one", "_law_other"]
theorem sc__law_divisor : FnScope N__law_divisor P__law_divisor (defScope s__law_divisor) := ⟨rfl, rfl, rfl, by decide +kernel, rfl, by decide +kernel, by decide +kernel⟩
def fuel__law_divisor := fuelAll
def B__law_divisor : XS := (xsSeq (xsWhile fuel__law_divisor (xBl (xBin gtT (xVar 1) (xC (.int 0))))
    (xsPar 0 1 (xCons (xVar 1) (xCons (xBin modT (xCall intT (xCons (xVar 0) xNil)) (xCall intT (xCons (xVar 1) xNil))) xNil))))
    (xsRet (xVar 0)))
def F__law_divisor : FA := fnF 2 2 B__law_divisor
theorem step_div (n : Nat) (a b : Nat) (st : Store) : b < n → whileF (xBl (xBin gtT (xVar 1) (xC (.int 0)))) (xsPar 0 1 (xCons (xVar 1) (xCons (xBin modT (xCall intT (xCons (xVar 0) xNil)) (xCall intT (xCons (xVar 1) xNil))) xNil))) n [some (.int a), some (.int b)] st
    = some (.nx [some (.int ((Nat.gcd a b : Nat) : Int)), some (.int 0)] st) := by
  induction n generalizing a b with
  | zero => intro h; omega
  | succ n ih =>
    intro h
    unfold whileF
    by_cases hb : b = 0
    · subst hb
      simp
    · have hpos : (0 : Int) < (b : Int) := by omega
      have hne : ((b : Nat) : Int) ≠ 0 := by omega
      have hlt : a % b < n := by
        have := Nat.mod_lt a (Nat.pos_of_ne_zero hb)
        omega
      have hm : ((a : Int)).fmod (b : Int) = ((a % b : Nat) : Int) := by
        rw [Int.fmod_eq_emod_of_nonneg _ (by omega)]
        exact (Int.natCast_emod a b).symm
      have hi := ih b (a % b) hlt
      have hg : Nat.gcd b (a % b) = Nat.gcd a b := by rw [Nat.gcd_comm b, ← Nat.gcd_rec, Nat.gcd_comm]
      rw [hg] at hi
      simp only [r_xBl, r_xBin, r_xVar, r_xC, List.getElem?_cons_succ, List.getElem?_cons_zero, Option.bind_some, r_gt, gt_iff_lt, hpos, decide_true, if_true, xsPar, r_xCons, r_xCall, r_xNil, r_intT, r_mod, ne_eq, hne, not_false_eq_true, hm, List.set_cons_zero, List.set_cons_succ]
      exact hi
theorem run_div (a b : Nat) (st : Store) : F__law_divisor [.int a, .int b] st = some (.int ((Nat.gcd a b : Nat) : Int), st) := by
  have hf : b < fuelAll [some (.int (a : Int)), some (.int (b : Int))] st := by
    unfold fuelAll
    simp
    omega
  have := step_div _ a b st hf
  simp [F__law_divisor, B__law_divisor, fnF, xsWhile, fuel__law_divisor, this]
abbrev s__law_over : Stmt := top 34
abbrev N__law_over : List Str := ["_law_num", "_law_den", "_law_by"]
abbrev P__law_over : List Str := ["_law_num", "_law_den"]
theorem sc__law_over : FnScope N__law_over P__law_over (defScope s__law_over) := ⟨rfl, rfl, rfl, by decide +kernel, rfl, by decide +kernel, by decide +kernel⟩
def B__law_over : XS := (xsSeq (xsSet 2 (xCall F__law_divisor (xCons (xCall absT (xCons (xVar 0) xNil)) (xCons (xCall absT (xCons (xVar 1) xNil)) xNil))))
    (xsSeq (xsSet 2 (xIf (xBl (xBin gtT (xVar 1) (xC (.int 0)))) (xVar 2) (xUn negT (xVar 2))))
    (xsRet (xCall tupT (xCons (xBin fdivT (xVar 0) (xVar 2)) (xCons (xBin fdivT (xVar 1) (xVar 2)) xNil))))))
def F__law_over : FA := fnF 2 3 B__law_over
def S__law_over : FA := fun ts st => match ts with
  | [.int n, .int d] => if d ≠ 0 ∧ d.natAbs.log2 < 9000 then some (fr (nf n d), st) else none
  | _ => none
theorem run_lover {n d : Int} {st : Store} (hd : d ≠ 0) (hs : d.natAbs.log2 < 9000) : F__law_over [.int n, .int d] st = some (fr (nf n d), st) := by
  have hg : (Nat.gcd n.natAbs d.natAbs) ≠ 0 := by
    intro h
    have := Nat.eq_zero_of_gcd_eq_zero_right h
    omega
  have hl := gcd_log (n := n) hd hs
  by_cases h : d < 0
  · have h2 : ¬ (0 < d) := by omega
    simp only [F__law_over, B__law_over, fnF, List.length_cons, List.length_nil, r_xsSeq, r_xsSet, r_xCall, r_xCons, r_xNil, r_xVar, List.map_cons, List.map_nil, List.cons_append, List.nil_append, List.getElem?_cons_zero, List.getElem?_cons_succ, Option.bind_some, r_abs, abs_nat, run_div, Option.map_some]
    simp [h, h2, nf, sg, hg, hl]
  · have h2 : 0 < d := by omega
    simp only [F__law_over, B__law_over, fnF, List.length_cons, List.length_nil, r_xsSeq, r_xsSet, r_xCall, r_xCons, r_xNil, r_xVar, List.map_cons, List.map_nil, List.cons_append, List.nil_append, List.getElem?_cons_zero, List.getElem?_cons_succ, Option.bind_some, r_abs, abs_nat, run_div, Option.map_some]
    simp [h, h2, nf, sg, hg, hl]
theorem cut__law_over : ∀ ts st t st', S__law_over ts st = some (t, st') → ∃ t2 st2, F__law_over ts st = some (t2, st2) ∧ Cut st t2 st2 t st' := by
  intro ts st t st' e
  unfold S__law_over at e
  split at e
  · split at e
    · rename_i h
      cases e
      exact ⟨_, _, run_lover h.1 h.2, Cut.refl _ _ _⟩
    · cases e
  · cases e
abbrev s__law_added : Stmt := top 35
abbrev N__law_added : List Str := ["_law_one", "_law_other"]
abbrev P__law_added : List Str := ["_law_one", "_law_other"]
theorem sc__law_added : FnScope N__law_added P__law_added (defScope s__law_added) := ⟨rfl, rfl, rfl, by decide +kernel, rfl, by decide +kernel, by decide +kernel⟩
def B__law_added : XS := (xsRet (xCall S__law_over (xCons (xBin addT (xBin mulT (xBin ixA (xVar 0) (xC (.int 0))) (xBin ixA (xVar 1) (xC (.int 1)))) (xBin mulT (xBin ixA (xVar 1) (xC (.int 0))) (xBin ixA (xVar 0) (xC (.int 1))))) (xCons (xBin mulT (xBin ixA (xVar 0) (xC (.int 1))) (xBin ixA (xVar 1) (xC (.int 1)))) xNil))))
def F__law_added : FA := fnF 2 2 B__law_added
def S__law_added : FA := S_added
theorem cut__law_added : ∀ ts st t st', S__law_added ts st = some (t, st') → ∃ t2 st2, F__law_added ts st = some (t2, st2) ∧ Cut st t2 st2 t st' := by
  intro ts st t st' e
  unfold S__law_added S_added at e
  split at e
  · split at e
    · rename_i h
      cases e
      refine ⟨_, _, ?_, Cut.refl _ _ _⟩
      simp [F__law_added, B__law_added, fnF, h.1, h.2.1, h.2.2.1, S__law_over, h.2.2.2.1, h.2.2.2.2]
    · cases e
  · cases e
abbrev s__law_less : Stmt := top 36
abbrev N__law_less : List Str := ["_law_one", "_law_other"]
abbrev P__law_less : List Str := ["_law_one", "_law_other"]
theorem sc__law_less : FnScope N__law_less P__law_less (defScope s__law_less) := ⟨rfl, rfl, rfl, by decide +kernel, rfl, by decide +kernel, by decide +kernel⟩
def B__law_less : XS := (xsRet (xCall S__law_over (xCons (xBin subT (xBin mulT (xBin ixA (xVar 0) (xC (.int 0))) (xBin ixA (xVar 1) (xC (.int 1)))) (xBin mulT (xBin ixA (xVar 1) (xC (.int 0))) (xBin ixA (xVar 0) (xC (.int 1))))) (xCons (xBin mulT (xBin ixA (xVar 0) (xC (.int 1))) (xBin ixA (xVar 1) (xC (.int 1)))) xNil))))
def F__law_less : FA := fnF 2 2 B__law_less
def S_lessened : FA := fun ts st => match ts with
  | [.tup [.int a, .int b], .tup [.int c, .int d]] => if bitsOk a d = true ∧ bitsOk c b = true ∧ bitsOk b d = true ∧ b * d ≠ 0 ∧ (b * d).natAbs.log2 < 9000 then some (fr (nf (a * d - c * b) (b * d)), st) else none
  | _ => none
theorem q_lessened {p q : Rat} {k : Nat} {st : Store} (hp : Sz k p) (hq : Sz k q) (hk : k ≤ 4000) : S_lessened [fq p, fq q] st = some (fq (p - q), st) := by
  have e : p - q = Rat.divInt (p.num * q.den - q.num * p.den) (p.den * q.den) := by
    rw [← Rat.divInt_sub_divInt _ _ (den_ne p) (den_ne q), Rat.num_divInt_den, Rat.num_divInt_den]
  show (if _ then some (fr (nf _ _), st) else none) = _
  rw [if_pos ⟨bits_of hp.n (natAbs_den hq) hk, bits_of hq.n (natAbs_den hp) hk, bits_of (natAbs_den hp) (natAbs_den hq) hk, den_mul_ne p q, mul_log (natAbs_den hp) (natAbs_den hq) hk⟩, nf_rat (den_mul_ne p q), ← e]
def S__law_less : FA := S_lessened
theorem cut__law_less : ∀ ts st t st', S__law_less ts st = some (t, st') → ∃ t2 st2, F__law_less ts st = some (t2, st2) ∧ Cut st t2 st2 t st' := by
  intro ts st t st' e
  unfold S__law_less S_lessened at e
  split at e
  · split at e
    · rename_i h
      cases e
      refine ⟨_, _, ?_, Cut.refl _ _ _⟩
      simp [F__law_less, B__law_less, fnF, h.1, h.2.1, h.2.2.1, S__law_over, h.2.2.2.1, h.2.2.2.2]
    · cases e
  · cases e
abbrev s__law_times : Stmt := top 37
abbrev N__law_times : List Str := ["_law_one", "_law_other"]
abbrev P__law_times : List Str := ["_law_one", "_law_other"]
theorem sc__law_times : FnScope N__law_times P__law_times (defScope s__law_times) := ⟨rfl, rfl, rfl, by decide +kernel, rfl, by decide +kernel, by decide +kernel⟩
def B__law_times : XS := (xsRet (xCall S__law_over (xCons (xBin mulT (xBin ixA (xVar 0) (xC (.int 0))) (xBin ixA (xVar 1) (xC (.int 0)))) (xCons (xBin mulT (xBin ixA (xVar 0) (xC (.int 1))) (xBin ixA (xVar 1) (xC (.int 1)))) xNil))))
def F__law_times : FA := fnF 2 2 B__law_times
def S__law_times : FA := S_times
theorem cut__law_times : ∀ ts st t st', S__law_times ts st = some (t, st') → ∃ t2 st2, F__law_times ts st = some (t2, st2) ∧ Cut st t2 st2 t st' := by
  intro ts st t st' e
  unfold S__law_times S_times at e
  split at e
  · split at e
    · rename_i h
      cases e
      refine ⟨_, _, ?_, Cut.refl _ _ _⟩
      simp [F__law_times, B__law_times, fnF, h.1, h.2.1, S__law_over, h.2.2.1, h.2.2.2]
    · cases e
  · cases e
abbrev s__law_fraction : Stmt := top 38
abbrev N__law_fraction : List Str := ["_law_bag_here"]
abbrev P__law_fraction : List Str := ["_law_bag_here"]
theorem sc__law_fraction : FnScope N__law_fraction P__law_fraction (defScope s__law_fraction) := ⟨rfl, rfl, rfl, by decide +kernel, rfl, by decide +kernel, by decide +kernel⟩
def B__law_fraction : XS := (xsRet (xCall S__law_over (xCons (xCall F__law_some (xCons (xVar 0) (xCons (xCall lstT (xCons (xC (.int 0)) (xCons (xC (.int 1)) (xCons (xUn negT (xC (.int 1))) (xCons (xC (.int 2)) (xCons (xC (.int 3)) (xCons (xUn negT (xC (.int 2))) (xCons (xC (.int 5)) (xCons (xUn negT (xC (.int 7))) (xCons (xC (.int 1)) (xCons (xC (.int 4)) xNil))))))))))) xNil))) (xCons (xCall F__law_some (xCons (xVar 0) (xCons (xCall lstT (xCons (xC (.int 1)) (xCons (xC (.int 1)) (xCons (xC (.int 1)) (xCons (xC (.int 2)) (xCons (xC (.int 3)) (xCons (xC (.int 4)) xNil))))))) xNil))) xNil))))
def F__law_fraction : FA := fnF 1 1 B__law_fraction
noncomputable def S__law_fraction : FA := cutF F__law_fraction
theorem cut__law_fraction : ∀ ts st t st', S__law_fraction ts st = some (t, st') → ∃ t2 st2, F__law_fraction ts st = some (t2, st2) ∧ Cut st t2 st2 t st' := cutF_cut
theorem ints_mem {is : List Int} {x : T} (h : x ∈ is.map T.int) : ∃ i ∈ is, x = .int i := by
  obtain ⟨i, hi, rfl⟩ := List.mem_map.mp h
  exact ⟨i, hi, rfl⟩
theorem fraction_ok {N : Nat} {st : Store} {l m : Nat} (h : BagAt N st l m) (hN : N + 2 ≤ 1000000) : ∃ q st', S__law_fraction [.ref l] st = some (fq q, st') ∧ Sz 4 q ∧ Only l st st' ∧ BagAt (N + 2) st' l m := by
  obtain ⟨a0, b0, c0, cs0, e1, e2, hlm, _⟩ := id h.ex
  have hl := (List.getElem?_eq_some_iff.mp e1).1
  have t1 := some_list (j := st.length) (ts := ([0, 1, -1, 2, 3, -2, 5, -7, 1, 4] : List Int).map T.int) (h.more [.lst (([0, 1, -1, 2, 3, -2, 5, -7, 1, 4] : List Int).map T.int)]) (by omega) (by simp) (by omega) (by simp) (by decide)
  obtain ⟨x, s2, f1, hx, o1, b1⟩ := t1
  have hs2 : s2.length = st.length + 1 := by rw [o1.len]; simp
  have t2 := some_list (j := s2.length) (ts := ([1, 1, 1, 2, 3, 4] : List Int).map T.int) (b1.more [.lst (([1, 1, 1, 2, 3, 4] : List Int).map T.int)]) (by omega) (by simp) (by omega) (by simp) (by decide)
  obtain ⟨y, s3, f2, hy, o2, b2⟩ := t2
  obtain ⟨n, hn, rfl⟩ := ints_mem hx
  obtain ⟨d, hd, rfl⟩ := ints_mem hy
  have hd1 : 0 < d ∧ d.natAbs < 2 ^ 4 := by
    simp at hd
    rcases hd with rfl | rfl | rfl | rfl <;> decide
  have hn1 : n.natAbs < 2 ^ 4 := by
    simp at hn
    rcases hn with rfl | rfl | rfl | rfl | rfl | rfl | rfl | rfl | rfl | rfl <;> decide
  have hdl : d.natAbs.log2 < 9000 := by have := log2_of hd1.2; omega
  have sz10 : (10 : Nat) ≤ sizeLine := by decide
  have sz6 : (6 : Nat) ≤ sizeLine := by decide
  simp only [List.map_cons, List.map_nil] at f1 f2
  have hF : F__law_fraction [.ref l] st = some (fq (Rat.divInt n d), s3) := by
    have hdn : d ≠ 0 := by omega
    rw [← nf_rat hdn]
    simp [F__law_fraction, B__law_fraction, fnF, sz10, sz6, f1, f2, S__law_over, hdn, hdl]
  have mo : More l st s3 := ((More.app l st _).trans o1.more).trans ((More.app l s2 _).trans o2.more)
  obtain ⟨st', g1, g2, g3⟩ := cutF_bag hF h b2 mo rfl
  exact ⟨_, st', g1, sz_div hd1.1 hn1 hd1.2, g2, g3⟩
abbrev s__law_poly : Stmt := top 39
abbrev N__law_poly : List Str := ["_law_found", "_law_powers"]
abbrev P__law_poly : List Str := ["_law_found"]
theorem sc__law_poly : FnScope N__law_poly P__law_poly (defScope s__law_poly) := ⟨rfl, rfl, rfl, by decide +kernel, rfl, by decide +kernel, by decide +kernel⟩
def B__law_poly : XS := (xsRet (xCall tuplePT (xCons (xLc (xiSeq (xCall sortedDT (xCons (xVar 0) xNil))) (xgName 1) [1] (xBl (xBin neT (xBin ixA (xBin ixA (xVar 0) (xVar 1)) (xC (.int 0))) (xC (.int 0)))) (xCall tupT (xCons (xVar 1) (xCons (xBin ixA (xVar 0) (xVar 1)) xNil)))) xNil)))
def F__law_poly : FA := fnF 1 2 B__law_poly
noncomputable def S__law_poly : FA := cutF F__law_poly
theorem cut__law_poly : ∀ ts st t st', S__law_poly ts st = some (t, st') → ∃ t2 st2, F__law_poly ts st = some (t2, st2) ∧ Cut st t2 st2 t st' := cutF_cut
abbrev s__law_constant : Stmt := top 40
abbrev N__law_constant : List Str := ["_law_many", "_law_fraction_here"]
abbrev P__law_constant : List Str := ["_law_many", "_law_fraction_here"]
theorem sc__law_constant : FnScope N__law_constant P__law_constant (defScope s__law_constant) := ⟨rfl, rfl, rfl, by decide +kernel, rfl, by decide +kernel, by decide +kernel⟩
def B__law_constant : XS := (xsRet (xCall S__law_poly (xCons (xDict1N (xBin mulDT (xCall tupT (xCons (xC (.int 0)) xNil)) (xVar 0)) (xVar 1)) xNil)))
def F__law_constant : FA := fnF 2 2 B__law_constant
noncomputable def S__law_constant : FA := cutF F__law_constant
theorem cut__law_constant : ∀ ts st t st', S__law_constant ts st = some (t, st') → ∃ t2 st2, F__law_constant ts st = some (t2, st2) ∧ Cut st t2 st2 t st' := cutF_cut
abbrev s__law_unit : Stmt := top 41
abbrev N__law_unit : List Str := ["_law_many", "_law_place", "_law_at"]
abbrev P__law_unit : List Str := ["_law_many", "_law_place"]
theorem sc__law_unit : FnScope N__law_unit P__law_unit (defScope s__law_unit) := ⟨rfl, rfl, rfl, by decide +kernel, rfl, by decide +kernel, by decide +kernel⟩
def B__law_unit : XS := (xsRet (xCall tupT (xCons (xCall tupT (xCons (xCall tupleT (xCons (xLc (xiRange1 (xVar 0)) (xgName 2) [2] xYes (xCall intT (xCons (xBin eqT (xVar 2) (xVar 1)) xNil))) xNil)) (xCons (xCall tupT (xCons (xC (.int 1)) (xCons (xC (.int 1)) xNil))) xNil))) xNil)))
def F__law_unit : FA := fnF 2 3 B__law_unit
noncomputable def S__law_unit : FA := cutF F__law_unit
theorem cut__law_unit : ∀ ts st t st', S__law_unit ts st = some (t, st') → ∃ t2 st2, F__law_unit ts st = some (t2, st2) ∧ Cut st t2 st2 t st' := cutF_cut
abbrev s__law_plus : Stmt := top 42
abbrev N__law_plus : List Str := ["_law_one", "_law_other", "_law_found", "_law_powers", "_law_factor"]
abbrev P__law_plus : List Str := ["_law_one", "_law_other"]
theorem sc__law_plus : FnScope N__law_plus P__law_plus (defScope s__law_plus) := ⟨rfl, rfl, rfl, by decide +kernel, rfl, by decide +kernel, by decide +kernel⟩
def B__law_plus : XS := (xsSeq (xsSet 2 (xCall dictT (xCons (xVar 0) xNil)))
    (xsSeq (xsFor (xiSeq (xVar 1)) (xgTup 2 (xgsCons (xgName 3) (xgsCons (xgName 4) xgsNil)))
    (xsAsg (xCall S__law_added (xCons (xMethX "dict" getOrT (xVar 2) (xCons (xVar 3) (xCons (xCall tupT (xCons (xC (.int 0)) (xCons (xC (.int 1)) xNil))) xNil))) (xCons (xVar 4) xNil))) (xgSubA (xVar 2) (xVar 3))))
    (xsRet (xCall S__law_poly (xCons (xVar 2) xNil)))))
def F__law_plus : FA := fnF 2 5 B__law_plus
noncomputable def S__law_plus : FA := cutF F__law_plus
theorem cut__law_plus : ∀ ts st t st', S__law_plus ts st = some (t, st') → ∃ t2 st2, F__law_plus ts st = some (t2, st2) ∧ Cut st t2 st2 t st' := cutF_cut
abbrev s__law_scaled : Stmt := top 43
abbrev N__law_scaled : List Str := ["_law_one", "_law_fraction_here", "_law_powers", "_law_factor"]
abbrev P__law_scaled : List Str := ["_law_one", "_law_fraction_here"]
theorem sc__law_scaled : FnScope N__law_scaled P__law_scaled (defScope s__law_scaled) := ⟨rfl, rfl, rfl, by decide +kernel, rfl, by decide +kernel, by decide +kernel⟩
def B__law_scaled : XS := (xsRet (xCall S__law_poly (xCons (xCall dictT (xCons (xLc (xiSeq (xVar 0)) (xgTup 2 (xgsCons (xgName 2) (xgsCons (xgName 3) xgsNil))) [2, 3] xYes (xCall tupT (xCons (xVar 2) (xCons (xCall S__law_times (xCons (xVar 3) (xCons (xVar 1) xNil))) xNil)))) xNil)) xNil)))
def F__law_scaled : FA := fnF 2 4 B__law_scaled
noncomputable def S__law_scaled : FA := cutF F__law_scaled
theorem cut__law_scaled : ∀ ts st t st', S__law_scaled ts st = some (t, st') → ∃ t2 st2, F__law_scaled ts st = some (t2, st2) ∧ Cut st t2 st2 t st' := cutF_cut
abbrev s__law_multiplied : Stmt := top 44
abbrev N__law_multiplied : List Str := ["_law_one", "_law_other", "_law_found", "_law_powers", "_law_factor", "_law_its", "_law_more", "_law_both", "_law_a", "_law_b"]
abbrev P__law_multiplied : List Str := ["_law_one", "_law_other"]
theorem sc__law_multiplied : FnScope N__law_multiplied P__law_multiplied (defScope s__law_multiplied) := ⟨rfl, rfl, rfl, by decide +kernel, rfl, by decide +kernel, by decide +kernel⟩
def B__law_multiplied : XS := (xsSeq (xsSet 2 xDictN)
    (xsSeq (xsFor (xiSeq (xVar 0)) (xgTup 2 (xgsCons (xgName 3) (xgsCons (xgName 4) xgsNil)))
    (xsFor (xiSeq (xVar 1)) (xgTup 2 (xgsCons (xgName 5) (xgsCons (xgName 6) xgsNil)))
    (xsSeq (xsSet 7 (xCall tupleT (xCons (xLc (xiZip (xVar 3) (xVar 5)) (xgTup 2 (xgsCons (xgName 8) (xgsCons (xgName 9) xgsNil))) [8, 9] xYes (xBin addT (xVar 8) (xVar 9))) xNil)))
    (xsAsg (xCall S__law_added (xCons (xMethX "dict" getOrT (xVar 2) (xCons (xVar 7) (xCons (xCall tupT (xCons (xC (.int 0)) (xCons (xC (.int 1)) xNil))) xNil))) (xCons (xCall S__law_times (xCons (xVar 4) (xCons (xVar 6) xNil))) xNil))) (xgSubA (xVar 2) (xVar 7))))))
    (xsRet (xCall S__law_poly (xCons (xVar 2) xNil)))))
def F__law_multiplied : FA := fnF 2 10 B__law_multiplied
noncomputable def S__law_multiplied : FA := cutF F__law_multiplied
theorem cut__law_multiplied : ∀ ts st t st', S__law_multiplied ts st = some (t, st') → ∃ t2 st2, F__law_multiplied ts st = some (t2, st2) ∧ Cut st t2 st2 t st' := cutF_cut
abbrev s__law_degree : Stmt := top 45
abbrev N__law_degree : List Str := ["_law_one", "_law_place", "_law_powers", "_law_factor"]
abbrev P__law_degree : List Str := ["_law_one", "_law_place"]
theorem sc__law_degree : FnScope N__law_degree P__law_degree (defScope s__law_degree) := ⟨rfl, rfl, rfl, by decide +kernel, rfl, by decide +kernel, by decide +kernel⟩
def B__law_degree : XS := (xsRet (xCall maxT (xCons (xBin addT (xCall lstT (xCons (xC (.int 0)) xNil)) (xLc (xiSeq (xVar 0)) (xgTup 2 (xgsCons (xgName 2) (xgsCons (xgName 3) xgsNil))) [2, 3] xYes (xBin ixA (xVar 2) (xVar 1)))) xNil)))
def F__law_degree : FA := fnF 2 4 B__law_degree
noncomputable def S__law_degree : FA := cutF F__law_degree
theorem cut__law_degree : ∀ ts st t st', S__law_degree ts st = some (t, st') → ∃ t2 st2, F__law_degree ts st = some (t2, st2) ∧ Cut st t2 st2 t st' := cutF_cut
abbrev s__law_worth : Stmt := top 46
abbrev N__law_worth : List Str := ["_law_one", "_law_values", "_law_found", "_law_powers", "_law_factor", "_law_value", "_law_power", "_law_turn"]
abbrev P__law_worth : List Str := ["_law_one", "_law_values"]
theorem sc__law_worth : FnScope N__law_worth P__law_worth (defScope s__law_worth) := ⟨rfl, rfl, rfl, by decide +kernel, rfl, by decide +kernel, by decide +kernel⟩
def B__law_worth : XS := (xsSeq (xsSet 2 (xCall tupT (xCons (xC (.int 0)) (xCons (xC (.int 1)) xNil))))
    (xsSeq (xsFor (xiSeq (xVar 0)) (xgTup 2 (xgsCons (xgName 3) (xgsCons (xgName 4) xgsNil)))
    (xsSeq (xsFor (xiZip (xVar 1) (xVar 3)) (xgTup 2 (xgsCons (xgName 5) (xgsCons (xgName 6) xgsNil)))
    (xsFor (xiRange1 (xVar 6)) (xgName 7)
    (xsSet 4 (xCall S__law_times (xCons (xVar 4) (xCons (xVar 5) xNil))))))
    (xsSet 2 (xCall S__law_added (xCons (xVar 2) (xCons (xVar 4) xNil))))))
    (xsRet (xVar 2))))
def F__law_worth : FA := fnF 2 8 B__law_worth
noncomputable def S__law_worth : FA := cutF F__law_worth
theorem cut__law_worth : ∀ ts st t st', S__law_worth ts st = some (t, st') → ∃ t2 st2, F__law_worth ts st = some (t2, st2) ∧ Cut st t2 st2 t st' := cutF_cut
abbrev s__law_drawn_poly : Stmt := top 47
abbrev N__law_drawn_poly : List Str := ["_law_bag_here", "_law_many", "_law_found", "_law_turn", "_law_powers", "_law_at"]
abbrev P__law_drawn_poly : List Str := ["_law_bag_here", "_law_many"]
theorem sc__law_drawn_poly : FnScope N__law_drawn_poly P__law_drawn_poly (defScope s__law_drawn_poly) := ⟨rfl, rfl, rfl, by decide +kernel, rfl, by decide +kernel, by decide +kernel⟩
def B__law_drawn_poly : XS := (xsSeq (xsSet 2 xDictN)
    (xsSeq (xsFor (xiRange1 (xCall S__law_take (xCons (xVar 0) (xCons (xC (.int 6)) xNil)))) (xgName 3)
    (xsSeq (xsSet 4 (xCall tupleT (xCons (xLc (xiRange1 (xVar 1)) (xgName 5) [5] xYes (xCall F__law_some (xCons (xVar 0) (xCons (xCall lstT (xCons (xC (.int 0)) (xCons (xC (.int 0)) (xCons (xC (.int 1)) (xCons (xC (.int 1)) (xCons (xC (.int 2)) (xCons (xC (.int 3)) xNil))))))) xNil)))) xNil)))
    (xsAsg (xCall S__law_fraction (xCons (xVar 0) xNil)) (xgSubA (xVar 2) (xVar 4)))))
    (xsRet (xCall S__law_poly (xCons (xVar 2) xNil)))))
def F__law_drawn_poly : FA := fnF 2 6 B__law_drawn_poly
noncomputable def S__law_drawn_poly : FA := cutF F__law_drawn_poly
theorem cut__law_drawn_poly : ∀ ts st t st', S__law_drawn_poly ts st = some (t, st') → ∃ t2 st2, F__law_drawn_poly ts st = some (t2, st2) ∧ Cut st t2 st2 t st' := cutF_cut
abbrev s__law_put_in : Stmt := top 48
abbrev N__law_put_in : List Str := ["_law_one", "_law_place", "_law_other", "_law_found", "_law_many", "_law_powers", "_law_factor", "_law_member", "_law_turn"]
abbrev P__law_put_in : List Str := ["_law_one", "_law_place", "_law_other"]
theorem sc__law_put_in : FnScope N__law_put_in P__law_put_in (defScope s__law_put_in) := ⟨rfl, rfl, rfl, by decide +kernel, rfl, by decide +kernel, by decide +kernel⟩
def B__law_put_in : XS := (xsSeq (xsPar 3 4 (xCons (xC (.ptp [])) (xCons (xIf (xBl (xBin neT (xVar 2) (xC (.ptp [])))) (xCall lenT (xCons (xBin ixA (xBin ixA (xVar 2) (xC (.int 0))) (xC (.int 0))) xNil)) (xIf (xBl (xBin neT (xVar 0) (xC (.ptp [])))) (xCall lenT (xCons (xBin ixA (xBin ixA (xVar 0) (xC (.int 0))) (xC (.int 0))) xNil)) (xC (.int 0)))) xNil)))
    (xsSeq (xsFor (xiSeq (xVar 0)) (xgTup 2 (xgsCons (xgName 5) (xgsCons (xgName 6) xgsNil)))
    (xsSeq (xsSet 7 (xCall tupT (xCons (xCall tupT (xCons (xBin addT (xBin addT (xSl (xVar 5) none (some (xVar 1))) (xCall tupT (xCons (xC (.int 0)) xNil))) (xSl (xVar 5) (some (xBin addT (xVar 1) (xC (.int 1)))) none)) (xCons (xVar 6) xNil))) xNil)))
    (xsSeq (xsFor (xiRange1 (xBin ixA (xVar 5) (xVar 1))) (xgName 8)
    (xsSet 7 (xCall S__law_multiplied (xCons (xVar 7) (xCons (xVar 2) xNil)))))
    (xsSet 3 (xCall S__law_plus (xCons (xVar 3) (xCons (xVar 7) xNil)))))))
    (xsRet (xVar 3))))
def F__law_put_in : FA := fnF 3 9 B__law_put_in
noncomputable def S__law_put_in : FA := cutF F__law_put_in
theorem cut__law_put_in : ∀ ts st t st', S__law_put_in ts st = some (t, st') → ∃ t2 st2, F__law_put_in ts st = some (t2, st2) ∧ Cut st t2 st2 t st' := cutF_cut
abbrev s__law_part_by : Stmt := top 49
abbrev N__law_part_by : List Str := ["_law_one", "_law_place", "_law_count", "_law_found", "_law_powers", "_law_factor"]
abbrev P__law_part_by : List Str := ["_law_one", "_law_place", "_law_count"]
theorem sc__law_part_by : FnScope N__law_part_by P__law_part_by (defScope s__law_part_by) := ⟨rfl, rfl, rfl, by decide +kernel, rfl, by decide +kernel, by decide +kernel⟩
def B__law_part_by : XS := (xsSeq (xsSet 3 xDictN)
    (xsSeq (xsFor (xiSeq (xVar 0)) (xgTup 2 (xgsCons (xgName 4) (xgsCons (xgName 5) xgsNil)))
    (xsIf (xBl (xBin eqT (xBin ixA (xVar 4) (xVar 1)) (xVar 2)))
    (xsAsg (xVar 5) (xgSubA (xVar 3) (xBin addT (xBin addT (xSl (xVar 4) none (some (xVar 1))) (xCall tupT (xCons (xC (.int 0)) xNil))) (xSl (xVar 4) (some (xBin addT (xVar 1) (xC (.int 1)))) none))))
    xsNil))
    (xsRet (xCall S__law_poly (xCons (xVar 3) xNil)))))
def F__law_part_by : FA := fnF 3 6 B__law_part_by
noncomputable def S__law_part_by : FA := cutF F__law_part_by
theorem cut__law_part_by : ∀ ts st t st', S__law_part_by ts st = some (t, st') → ∃ t2 st2, F__law_part_by ts st = some (t2, st2) ∧ Cut st t2 st2 t st' := cutF_cut
abbrev s__law_are_right : Stmt := top 50
abbrev N__law_are_right : List Str := ["_law_bag_here", "_law_many", "_law_one", "_law_other", "_law_values", "_law_by", "_law_mine", "_law_its", "_law_told", "_law_due", "_law_worths", "_law_at", "_law_some_here"]
abbrev P__law_are_right : List Str := ["_law_bag_here", "_law_many", "_law_one", "_law_other"]
theorem sc__law_are_right : FnScope N__law_are_right P__law_are_right (defScope s__law_are_right) := ⟨rfl, rfl, rfl, by decide +kernel, rfl, by decide +kernel, by decide +kernel⟩
def B__law_are_right : XS := (xsSeq (xsAsg (xCall tupT (xCons (xCall tupleT (xCons (xLc (xiRange1 (xVar 1)) (xgName 11) [11] xYes (xCall S__law_fraction (xCons (xVar 0) xNil))) xNil)) (xCons (xCall S__law_fraction (xCons (xVar 0) xNil)) xNil))) (xgTup 2 (xgsCons (xgName 4) (xgsCons (xgName 5) xgsNil))))
    (xsSeq (xsPar 6 7 (xCons (xCall S__law_worth (xCons (xVar 2) (xCons (xVar 4) xNil))) (xCons (xCall S__law_worth (xCons (xVar 3) (xCons (xVar 4) xNil))) xNil)))
    (xsSeq (xsSet 8 (xCall lstT (xCons (xCall S_plus (xCons (xVar 2) (xCons (xVar 3) xNil))) (xCons (xCall S_minus (xCons (xVar 2) (xCons (xVar 3) xNil))) (xCons (xCall S_multiplied (xCons (xVar 2) (xCons (xVar 3) xNil))) (xCons (xCall S_scaled (xCons (xVar 2) (xCons (xVar 5) xNil))) (xCons (xCall F_constant (xCons (xVar 1) (xCons (xVar 5) xNil))) xNil)))))))
    (xsSeq (xsSet 9 (xCall lstT (xCons (xCall S__law_plus (xCons (xVar 2) (xCons (xVar 3) xNil))) (xCons (xCall S__law_plus (xCons (xVar 2) (xCons (xCall S__law_scaled (xCons (xVar 3) (xCons (xCall tupT (xCons (xUn negT (xC (.int 1))) (xCons (xC (.int 1)) xNil))) xNil))) xNil))) (xCons (xCall S__law_multiplied (xCons (xVar 2) (xCons (xVar 3) xNil))) xNil)))))
    (xsSeq (xsExpr (xMeth "list" extendT (xVar 9) (xCons (xCall lstT (xCons (xCall S__law_scaled (xCons (xVar 2) (xCons (xVar 5) xNil))) (xCons (xCall S__law_constant (xCons (xVar 1) (xCons (xVar 5) xNil))) xNil))) xNil)))
    (xsSeq (xsSet 10 (xCall lstT (xCons (xCall S__law_added (xCons (xVar 6) (xCons (xVar 7) xNil))) (xCons (xCall S__law_less (xCons (xVar 6) (xCons (xVar 7) xNil))) (xCons (xCall S__law_times (xCons (xVar 6) (xCons (xVar 7) xNil))) (xCons (xCall S__law_times (xCons (xVar 6) (xCons (xVar 5) xNil))) (xCons (xVar 5) xNil)))))))
    (xsRet (xAnd (xCall F__law_alike (xCons (xVar 8) (xCons (xVar 9) xNil))) (xCall F__law_alike (xCons (xLc (xiSeq (xVar 8)) (xgName 12) [12] xYes (xCall S_worth_at (xCons (xVar 12) (xCons (xVar 4) xNil)))) (xCons (xVar 10) xNil)))))))))))
def F__law_are_right : FA := fnF 4 13 B__law_are_right
abbrev s__law_is_put_right : Stmt := top 51
abbrev N__law_is_put_right : List Str := ["_law_bag_here", "_law_many", "_law_one", "_law_other", "_law_place", "_law_values", "_law_told", "_law_degree_here", "_law_turned", "_law_whole", "_law_power", "_law_count", "_law_part", "_law_at"]
abbrev P__law_is_put_right : List Str := ["_law_bag_here", "_law_many", "_law_one", "_law_other"]
theorem sc__law_is_put_right : FnScope N__law_is_put_right P__law_is_put_right (defScope s__law_is_put_right) := ⟨rfl, rfl, rfl, by decide +kernel, rfl, by decide +kernel, by decide +kernel⟩
def B__law_is_put_right : XS := (xsSeq (xsPar 4 5 (xCons (xCall S__law_take (xCons (xVar 0) (xCons (xVar 1) xNil))) (xCons (xCall tupleT (xCons (xLc (xiRange1 (xVar 1)) (xgName 13) [13] xYes (xCall S__law_fraction (xCons (xVar 0) xNil))) xNil)) xNil)))
    (xsSeq (xsPar 6 7 (xCons (xCall S_put_in (xCons (xVar 2) (xCons (xVar 4) (xCons (xVar 3) xNil)))) (xCons (xCall S_degree_in (xCons (xVar 2) (xCons (xVar 4) xNil))) xNil)))
    (xsSeq (xsSet 8 (xBin addT (xBin addT (xSl (xVar 5) none (some (xVar 4))) (xCall tupT (xCons (xCall S__law_worth (xCons (xVar 3) (xCons (xVar 5) xNil))) xNil))) (xSl (xVar 5) (some (xBin addT (xVar 4) (xC (.int 1)))) none)))
    (xsSeq (xsIf (xNotT (xTru (xCall F__law_alike (xCons (xCall lstT (xCons (xVar 6) (xCons (xVar 7) xNil))) (xCons (xCall lstT (xCons (xCall S__law_put_in (xCons (xVar 2) (xCons (xVar 4) (xCons (xVar 3) xNil)))) (xCons (xCall S__law_degree (xCons (xVar 2) (xCons (xVar 4) xNil))) xNil))) xNil)))))
    (xsRet (xC (.bl false)))
    xsNil)
    (xsSeq (xsIf (xNotT (xTru (xCall F__law_alike (xCons (xCall S_worth_at (xCons (xVar 6) (xCons (xVar 5) xNil))) (xCons (xCall S__law_worth (xCons (xVar 2) (xCons (xVar 8) xNil))) xNil)))))
    (xsRet (xC (.bl false)))
    xsNil)
    (xsSeq (xsPar 9 10 (xCons (xCall tupT xNil) (xCons (xCall F_constant (xCons (xVar 1) (xCons (xCall tupT (xCons (xC (.int 1)) (xCons (xC (.int 1)) xNil))) xNil))) xNil)))
    (xsSeq (xsFor (xiRange1 (xBin addT (xVar 7) (xC (.int 2)))) (xgName 11)
    (xsSeq (xsSet 12 (xCall S_part_by (xCons (xVar 2) (xCons (xVar 4) (xCons (xVar 11) xNil)))))
    (xsSeq (xsIf (xNotT (xTru (xCall F__law_alike (xCons (xVar 12) (xCons (xCall S__law_part_by (xCons (xVar 2) (xCons (xVar 4) (xCons (xVar 11) xNil)))) xNil)))))
    (xsRet (xC (.bl false)))
    xsNil)
    (xsSeq (xsSet 9 (xCall S_plus (xCons (xVar 9) (xCons (xCall S_multiplied (xCons (xVar 12) (xCons (xVar 10) xNil))) xNil))))
    (xsSet 10 (xCall S_multiplied (xCons (xVar 10) (xCons (xCall S_unit (xCons (xVar 1) (xCons (xVar 4) xNil))) xNil))))))))
    (xsRet (xCall F__law_alike (xCons (xCall lstT (xCons (xVar 9) (xCons (xCall S_unit (xCons (xVar 1) (xCons (xVar 4) xNil))) xNil))) (xCons (xCall lstT (xCons (xVar 2) (xCons (xCall S__law_unit (xCons (xVar 1) (xCons (xVar 4) xNil))) xNil))) xNil)))))))))))
def F__law_is_put_right : FA := fnF 4 14 B__law_is_put_right
abbrev s_law : Stmt := top 52
abbrev N_law : List Str := ["_law_script", "_law_bag_here", "_law_turn", "_law_many", "_law_one", "_law_other", "_law_kept"]
abbrev P_law : List Str := ["_law_script"]
theorem sc_law : FnScope N_law P_law (defScope s_law) := ⟨rfl, rfl, rfl, by decide +kernel, rfl, by decide +kernel, by decide +kernel⟩
def B_law : XS := (xsSeq (xsSet 1 (xCall F__law_bag (xCons (xVar 0) xNil)))
    (xsSeq (xsFor (xiRange1 (xC (.int 6))) (xgName 2)
    (xsSeq (xsSet 3 (xCall F__law_some (xCons (xVar 1) (xCons (xCall lstT (xCons (xC (.int 2)) (xCons (xC (.int 3)) (xCons (xC (.int 1)) (xCons (xC (.int 4)) (xCons (xC (.int 2)) (xCons (xC (.int 0)) (xCons (xC (.int 7)) xNil)))))))) xNil))))
    (xsSeq (xsPar 4 5 (xCons (xCall S__law_drawn_poly (xCons (xVar 1) (xCons (xVar 3) xNil))) (xCons (xCall S__law_drawn_poly (xCons (xVar 1) (xCons (xVar 3) xNil))) xNil)))
    (xsSeq (xsSet 6 (xCall reprV (xCons (xCall lstT (xCons (xVar 4) (xCons (xVar 5) xNil))) xNil)))
    (xsSeq (xsIf (xOrT (xNotT (xTru (xCall F__law_are_right (xCons (xVar 1) (xCons (xVar 3) (xCons (xVar 4) (xCons (xVar 5) xNil))))))) (xNotT (xTru (xCall F__law_are_right (xCons (xVar 1) (xCons (xVar 3) (xCons (xVar 4) (xCons (xVar 4) xNil))))))))
    (xsRet (xC (.bl false)))
    xsNil)
    (xsSeq (xsIf (xAndT (xBl (xBin gtT (xVar 3) (xC (.int 0)))) (xNotT (xTru (xCall F__law_is_put_right (xCons (xVar 1) (xCons (xVar 3) (xCons (xVar 4) (xCons (xSl (xVar 5) none (some (xC (.int 3)))) xNil))))))))
    (xsRet (xC (.bl false)))
    xsNil)
    (xsIf (xBl (xBin neT (xCall reprV (xCons (xCall lstT (xCons (xVar 4) (xCons (xVar 5) xNil))) xNil)) (xVar 6)))
    (xsRet (xC (.bl false)))
    xsNil)))))))
    (xsRet (xC (.bl true)))))
def F_law : FA := fnF 1 7 B_law
end
end K03
/-! R4 -/
set_option Elab.async false
set_option linter.all false
set_option maxRecDepth 100000
set_option maxHeartbeats 4000000
set_option exponentiation.threshold 4000
/-! sizes of polynomials; what they are gathered from -/
namespace K03
open PySem PySem.Spec PyProof.Rows L2 TL LamX Poly
noncomputable section
variable [Tb]
/-- so many parts of the size 1/D -/
def FrB (D B : Nat) (q : Rat) : Prop := ∃ z : Int, q * (D : Rat) = (z : Rat) ∧ z.natAbs ≤ B
theorem FrB.zero (D : Nat) : FrB D 0 0 := ⟨0, by grind, by simp⟩
theorem FrB.add {D B C : Nat} {x y : Rat} (h : FrB D B x) (g : FrB D C y) : FrB D (B + C) (x + y) := by
  obtain ⟨a, h1, h2⟩ := h
  obtain ⟨b, g1, g2⟩ := g
  refine ⟨a + b, by rw [Rat.intCast_add]; grind, ?_⟩
  omega
theorem FrB.neg {D B : Nat} {x : Rat} (h : FrB D B x) : FrB D B (x * (-1)) := by
  obtain ⟨a, h1, h2⟩ := h
  exact ⟨-a, by rw [Rat.intCast_neg]; grind, by rw [Int.natAbs_neg]; exact h2⟩
theorem FrB.mul {D B E C : Nat} {x y : Rat} (h : FrB D B x) (g : FrB E C y) : FrB (D * E) (B * C) (x * y) := by
  obtain ⟨a, h1, h2⟩ := h
  obtain ⟨b, g1, g2⟩ := g
  refine ⟨a * b, ?_, by rw [Int.natAbs_mul]; exact Nat.mul_le_mul h2 g2⟩
  rw [Rat.intCast_mul, ← h1, ← g1, Rat.natCast_mul]
  grind
theorem FrB.up {D B C : Nat} {x : Rat} (h : FrB D B x) (hc : B ≤ C) : FrB D C x := let ⟨z, a, b⟩ := h; ⟨z, a, Nat.le_trans b hc⟩
theorem FrB.wide {D B E : Nat} {x : Rat} (h : FrB D B x) : FrB (D * E) (B * E) x := by
  obtain ⟨z, a, b⟩ := h
  refine ⟨z * E, ?_, by rw [Int.natAbs_mul, Int.natAbs_natCast]; exact Nat.mul_le_mul_right _ b⟩
  rw [Rat.intCast_mul, Rat.intCast_natCast, Rat.natCast_mul]
  grind
theorem FrB.eq {D B : Nat} {x : Rat} (hD : 0 < D) (h : FrB D B x) : ∃ z : Int, x = Rat.divInt z (D : Int) ∧ z.natAbs ≤ B := by
  obtain ⟨z, a, b⟩ := h
  refine ⟨z, ?_, b⟩
  have hn : ((D : Int) : Rat) ≠ 0 := fun e => by
    have := Rat.intCast_eq_zero_iff.mp e
    omega
  have e : (D : Rat) = ((D : Int) : Rat) := (Rat.intCast_natCast D).symm
  rw [Rat.divInt_eq_div, ← a, e]
  grind
theorem FrB.sz {D B k : Nat} {x : Rat} (hD : 0 < D) (h : FrB D B x) (h1 : D < 2 ^ k) (h2 : B < 2 ^ k) : Sz k x := by
  obtain ⟨z, rfl, b⟩ := h.eq hD
  exact sz_div (by omega) (by omega) (by rw [Int.natAbs_natCast]; exact h1)
theorem FrB.den {D B : Nat} {x : Rat} (hD : 0 < D) (h : FrB D B x) : x.den ∣ D := by
  obtain ⟨z, rfl, b⟩ := h.eq hD
  have e2 := Rat.den_divInt z (D : Int)
  rw [if_neg (by omega)] at e2
  rw [e2, Int.natAbs_natCast]
  exact Nat.div_dvd_of_dvd (Int.natCast_dvd_natCast.mp (Int.gcd_dvd_left _ _))
/-- a polynomial of n variables, its factors so many parts of 1/D, so many members -/
structure PB (n D B N : Nat) (p : Pl) : Prop where
  w : Wide n p
  f : ∀ m ∈ p, FrB D B m.2
  l : p.length ≤ N
theorem PB.up {n D B N C M : Nat} {p : Pl} (h : PB n D B N p) (hB : B ≤ C) (hN : N ≤ M) : PB n D C M p := ⟨h.w, fun m hm => (h.f m hm).up hB, Nat.le_trans h.l hN⟩
theorem add_mem {d : Pl} {k : PKey} {x : Rat} : ∀ m ∈ setP d k x, m ∈ d ∨ m = (k, x) := by
  intro m hm
  unfold setP at hm
  split at hm
  · obtain ⟨a, ha, rfl⟩ := List.mem_map.mp hm
    split
    · rename_i e; exact .inr (by rw [e])
    · exact .inl ha
  · rcases List.mem_append.mp hm with h | h
    · exact .inl h
    · exact .inr (List.mem_singleton.mp h)
theorem look_frb {D B : Nat} {d : Pl} (h : ∀ m ∈ d, FrB D B m.2) (k : PKey) : FrB D B ((lookP d k).getD 0) := by
  cases e : lookP d k with
  | none => exact (FrB.zero D).up (Nat.zero_le _)
  | some x => exact h _ (look_mem e)
theorem PB.add {n D B C N : Nat} {d : Pl} {k : PKey} {x : Rat} (h : PB n D B N d) (hk : k.length = n) (hx : FrB D C x) : PB n D (B + C) (N + 1) (addP d k x) := by
  refine ⟨fun m hm => ?_, fun m hm => ?_, Nat.le_trans (set_len _ _ _) (Nat.succ_le_succ h.l)⟩
  · rcases add_mem m hm with e | rfl
    · exact h.w m e
    · exact hk
  · rcases add_mem m hm with e | rfl
    · exact (h.f m e).up (by omega)
    · exact (look_frb h.f k).add hx
theorem PB.addAll {n D C : Nat} : ∀ {q d : Pl} {B N : Nat}, PB n D B N d → Wide n q → (∀ m ∈ q, FrB D C m.2) → PB n D (B + q.length * C) (N + q.length) (addAll d q)
  | [], d, B, N, h, _, _ => h.up (by simp) (by simp)
  | m :: q, d, B, N, h, hw, hf => by
    have h1 := (h.add (hw m List.mem_cons_self) (hf m List.mem_cons_self)).addAll (q := q) (fun x hx => hw x (List.mem_cons_of_mem _ hx)) (fun x hx => hf x (List.mem_cons_of_mem _ hx))
    refine h1.up ?_ ?_
    · rw [List.length_cons, Nat.succ_mul]; omega
    · rw [List.length_cons]; omega
theorem PB.canon {n D B N : Nat} {d : Pl} (h : PB n D B N d) (hn : (keys d).Nodup) : PB n D B N (canon d) := by
  refine ⟨wide_canon hn h.w, fun m hm => h.f m (canon_sub hn m hm), ?_⟩
  unfold Poly.canon
  have h1 := List.length_filter_le (fun m : Mb => decide (m.2 ≠ 0)) ((sortK (keys d)).map fun k => (k, (lookP d k).getD 0))
  rw [List.length_map, (sortK_perm (keys d)).length_eq] at h1
  unfold keys at h1
  rw [List.length_map] at h1
  exact Nat.le_trans h1 h.l
theorem PB.nil (n D : Nat) : PB n D 0 0 [] := ⟨(fun m hm => by cases hm), (fun m hm => by cases hm), Nat.le_refl _⟩
theorem PB.nrm {n D B N : Nat} {p : Pl} (h : PB n D B N p) : PB n D (N * B) N (nrm p) := by
  have h1 := ((PB.nil n D).addAll (q := p) h.w h.f).canon (addAll_nodup nodup_nil)
  refine PB.up h1 ?_ ?_
  · rw [Nat.zero_add]; exact Nat.mul_le_mul_right _ h.l
  · rw [Nat.zero_add]; exact h.l
theorem PB.app {n D B N C M : Nat} {p q : Pl} (h : PB n D B N p) (g : PB n D C M q) : PB n D (B + C) (N + M) (p ++ q) := by
  refine ⟨wide_app h.w g.w, fun m hm => ?_, by rw [List.length_append]; exact Nat.add_le_add h.l g.l⟩
  rcases List.mem_append.mp hm with e | e
  · exact (h.f m e).up (by omega)
  · exact (g.f m e).up (by omega)
theorem PB.mul {n D B N E C M : Nat} {p q : Pl} (h : PB n D B N p) (g : PB n E C M q) : PB n (D * E) (B * C) (N * M) (mulL p q) := by
  refine ⟨wide_mul h.w g.w, fun m hm => ?_, ?_⟩
  · obtain ⟨a, ha, hm⟩ := List.mem_flatMap.mp hm
    obtain ⟨b, hb, rfl⟩ := List.mem_map.mp hm
    exact (h.f a ha).mul (g.f b hb)
  · have e : ∀ p : Pl, (mulL p q).length = p.length * q.length := by
      intro p
      induction p with
      | nil => simp [mulL]
      | cons m p ih =>
        show ((q.map fun b => (addK m.1 b.1, m.2 * b.2)) ++ mulL p q).length = _
        rw [List.length_append, List.length_map, ih, List.length_cons, Nat.succ_mul]; omega
    rw [e]
    exact Nat.mul_le_mul h.l g.l
/-! ### trees -/
abbrev plT (p : Pl) : T := .tup (p.map mT)
abbrev plP (p : Pl) : T := .ptp (p.map mT)
/-- either tuple -/
def IsP (t : T) (p : Pl) : Prop := t = plT p ∨ t = plP p
theorem belows_ints (n : Nat) : ∀ k : PKey, belows n (k.map fun n : Nat => T.int (n : Int)) = true
  | [] => rfl
  | x :: k => by rw [List.map_cons]; show (true && belows n _) = true; rw [belows_ints n k]; rfl
theorem below_m (n : Nat) (m : Mb) : below n (mT m) = true := by
  show (belows n (m.1.map fun n : Nat => T.int (n : Int)) && ((true && (true && true)) && true)) = true
  rw [belows_ints]; rfl
theorem belows_p (n : Nat) : ∀ p : Pl, belows n (p.map mT) = true
  | [] => rfl
  | m :: p => by rw [List.map_cons]; show (below n (mT m) && belows n _) = true; rw [below_m, belows_p n p]; rfl
theorem below_T (n : Nat) (p : Pl) : below n (plT p) = true := belows_p n p
theorem below_P (n : Nat) (p : Pl) : below n (plP p) = true := belows_p n p
theorem cut_pure {F : FA} {ts : List T} {st g : Store} {t : T} (h : F ts st = some (t, st ++ g)) (hb : below st.length t = true) : cutF F ts st = some (t, st) := by
  have h1 := cutF_of h (by rw [List.take_left' rfl]; exact Cut.pure hb)
  rw [List.take_left' rfl] at h1
  exact h1
theorem seq_p {t : T} {p : Pl} (h : IsP t p) {f : XE} {e : Env1} {st : Store} (hf : f e st = some (t, st)) : xiSeq f e st = some (fun _ => some (p.map mT), st) := by
  unfold xiSeq
  rcases h with rfl | rfl <;> simp [hf]
abbrev eF : Rat → T := fun q => fq q
abbrev dT (d : Pl) : Ob := .dN (d.map (eG eF))
/-- the comprehension of gathered -/
theorem gather_lc {st : Store} {l n : Nat} {d : Pl} {o1 : Option T} (h : st[l]? = some (dT d)) (hw : Wide n d) (hn : (keys d).Nodup) (hl : d.length ≤ 1000) :
    ∃ g, xLc (xiSeq (xCall sortedDT (xCons (xVar 0) xNil))) (xgName 1) [1] (xBl (xBin neT (xBin ixA (xBin ixA (xVar 0) (xVar 1)) (xC (.int 0))) (xC (.int 0)))) (xCall tupT (xCons (xVar 1) (xCons (xBin ixA (xVar 0) (xVar 1)) xNil))) [some (.ref l), o1] st = some (.ref (st.length + 1), (st ++ g) ++ [.lst ((canon d).map mT)]) ∧ g.length = 1 := by
  have hs := sorted_d h hw hn hl
  have hll := (List.getElem?_eq_some_iff.mp h).1
  have hkl : (keys d).length ≤ 1000 := by unfold keys; rw [List.length_map]; exact hl
  have hsl : (sortK (keys d)).length ≤ 1000 := by rw [(sortK_perm _).length_eq]; exact hkl
  have hd : ∀ acc : List T, ((st ++ [.lst ((sortK (keys d)).map kT)]) ++ [Ob.lst acc])[l]? = some (dT d) := fun acc => getA (getA h)
  have hlk : ∀ k ∈ sortK (keys d), ∃ x, lookP d k = some x := fun k hk => by
    have h1 : k ∈ keys d := (sortK_perm _).mem_iff.mp hk
    cases e : lookP d k with
    | none => exact absurd h1 (look_none.mp e)
    | some x => exact ⟨x, rfl⟩
  refine ⟨[.lst ((sortK (keys d)).map kT)], ?_, rfl⟩
  have h1 := lc_enc (st := st) (s1 := st ++ [.lst ((sortK (keys d)).map kT)]) (fi := xiSeq (xCall sortedDT (xCons (xVar 0) xNil))) (g := xgName 1) (vs := [1]) (e := [some (.ref l), o1]) (qs := sortK (keys d)) (tt := xBl (xBin neT (xBin ixA (xBin ixA (xVar 0) (xVar 1)) (xC (.int 0))) (xC (.int 0)))) (te := xCall tupT (xCons (xVar 1) (xCons (xBin ixA (xVar 0) (xVar 1)) xNil)))
    (it := fun s => match s[st.length]? with
      | some (.lst ts) => some ts
      | _ => none)
    kT (fun k => decide ((lookP d k).getD 0 ≠ 0)) (fun k => mT (k, (lookP d k).getD 0)) (fun k => [some (.ref l), some (kT k)])
    (by
      simp only [xiSeq, r_xCall, r_xCons, r_xVar, r_xNil, List.getElem?_cons_zero, Option.bind_some, hs, last_get] <;> congr 2)
    (fun acc => by rw [getA last_get])
    hsl (fun k hk acc => by simp [wipeE])
    (fun k hk acc => by
      obtain ⟨x, hx⟩ := hlk k hk
      have hix := ix_d (e := eF) (hd acc) hx
      have : (TL.neT (.int x.num) (.int 0) ((st ++ [.lst ((sortK (keys d)).map kT)]) ++ [Ob.lst acc])) = some (.bl (!decide (x.num = 0)), (st ++ [.lst ((sortK (keys d)).map kT)]) ++ [Ob.lst acc]) := rfl
      simp only [r_xBl, r_xBin, r_xVar, List.getElem?_cons_zero, List.getElem?_cons_succ, Option.bind_some, hix, r_xC, r_ixTup, r_at0, Option.map_some, this, hx, Option.getD_some]
      have e0 : decide (x ≠ 0) = !decide (x.num = 0) := by
        by_cases hz : x = 0
        · subst hz; rfl
        · have : x.num ≠ 0 := fun e => hz (Rat.num_eq_zero.mp e)
          simp [hz, this]
      rw [e0])
    (fun k hk _ acc => by
      obtain ⟨x, hx⟩ := hlk k hk
      have hix := ix_d (e := eF) (hd acc) hx
      simp [hix, hx, mT, -List.append_assoc])
  have e2 : (((sortK (keys d)).filter fun k => decide ((lookP d k).getD 0 ≠ 0)).map fun k => mT (k, (lookP d k).getD 0)) = (canon d).map mT := by
    unfold canon
    rw [List.filter_map, List.map_map]
    rfl
  rw [e2] at h1
  simpa using h1
theorem canon_len (d : Pl) : (canon d).length ≤ d.length := by
  unfold canon
  have h1 := List.length_filter_le (fun m : Mb => decide (m.2 ≠ 0)) ((sortK (keys d)).map fun k => (k, (lookP d k).getD 0))
  rw [List.length_map, (sortK_perm (keys d)).length_eq] at h1
  unfold keys at h1
  rw [List.length_map] at h1
  exact h1
theorem tuple_l {st : Store} {l : Nat} {ts : List T} (h : st[l]? = some (.lst ts)) : tupleT [.ref l] st = some (.tup ts, st) := by
  simp [tupleT, h]
theorem tuple_P {st : Store} {l : Nat} {ts : List T} (h : st[l]? = some (.lst ts)) : tuplePT [.ref l] st = some (.ptp ts, st) := by
  simp [tuplePT, h]
theorem at_len {st g : Store} {o : Ob} (h : g.length = 1) : ((st ++ g) ++ [o])[st.length + 1]? = some o := by
  rw [List.getElem?_append_right (by simp [h]), List.length_append, h]; simp
theorem gathered_ok {st : Store} {l n : Nat} {d : Pl} (h : st[l]? = some (dT d)) (hw : Wide n d) (hn : (keys d).Nodup) (hl : d.length ≤ 1000) : S_gathered [.ref l] st = some (plT (canon d), st) := by
  obtain ⟨g, h1, hg⟩ := gather_lc (o1 := none) h hw hn hl
  refine cut_pure (g := g ++ [.lst ((canon d).map mT)]) (fn_ret rfl ?_) (below_T _ _)
  show B_gathered [some (.ref l), none] st = _
  unfold B_gathered
  rw [r_xsRet, r_xCall, r_xCons, h1]
  simp only [Option.bind_some, r_xNil, tuple_l (at_len hg), Option.map_some]
  rw [List.append_assoc]
theorem law_poly_ok {st : Store} {l n : Nat} {d : Pl} (h : st[l]? = some (dT d)) (hw : Wide n d) (hn : (keys d).Nodup) (hl : d.length ≤ 1000) : S__law_poly [.ref l] st = some (plP (canon d), st) := by
  obtain ⟨g, h1, hg⟩ := gather_lc (o1 := none) h hw hn hl
  refine cut_pure (g := g ++ [.lst ((canon d).map mT)]) (fn_ret rfl ?_) (below_P _ _)
  show B__law_poly [some (.ref l), none] st = _
  unfold B__law_poly
  rw [r_xsRet, r_xCall, r_xCons, h1]
  simp only [Option.bind_some, r_xNil, tuple_P (at_len hg), Option.map_some]
  rw [List.append_assoc]
end
end K03
/-! R5 -/
set_option Elab.async false
set_option linter.all false
set_option maxRecDepth 100000
set_option maxHeartbeats 4000000
set_option exponentiation.threshold 4000
/-! sums, multiples, differences -/
namespace K03
open PySem PySem.Spec PyProof.Rows L2 TL LamX Poly
noncomputable section
variable [Tb]
theorem take_step {α : Type} {q : List α} {i : Nat} {m : α} (h : q[i]? = some m) : q.take (i + 1) = q.take i ++ [m] := by
  rw [List.take_add_one, h]; rfl
theorem addAll_step {d q : Pl} {i : Nat} {m : Mb} (h : q[i]? = some m) : addAll d (q.take (i + 1)) = addP (addAll d (q.take i)) m.1 m.2 := by
  rw [take_step h]
  unfold addAll
  rw [List.foldl_append]; rfl
theorem pb_take {n D B N : Nat} {p : Pl} (h : PB n D B N p) (i : Nat) : Wide n (p.take i) ∧ (∀ m ∈ p.take i, FrB D B m.2) := ⟨fun m hm => h.w m (List.mem_of_mem_take hm), fun m hm => h.f m (List.mem_of_mem_take hm)⟩
theorem pb_part {n D B N C M : Nat} {p q : Pl} (hp : PB n D B N p) (hq : PB n D C M q) (i : Nat) (hi : i ≤ q.length) : PB n D (B + M * C) (N + M) (addAll p (q.take i)) := by
  have h := hp.addAll (q := q.take i) (pb_take hq i).1 (pb_take hq i).2
  have hl := hq.l
  have h2 : (q.take i).length ≤ M := by rw [List.length_take]; omega
  exact h.up (Nat.add_le_add_left (Nat.mul_le_mul_right _ h2) _) (Nat.add_le_add_left h2 _)
/-- the value that stands there, or 0 -/
theorem getD_fq (d : Pl) (k : PKey) : ((lookP d k).map eF).getD (.tup [.int 0, .int 1]) = fq ((lookP d k).getD 0) := by
  cases lookP d k <;> rfl
theorem addP_set (d : Pl) (k : PKey) (x : Rat) : addP d k x = setP d k ((lookP d k).getD 0 + x) := rfl
theorem tup01 {s : Store} {e : Env1} : xCall tupT (xCons (xC (.int 0)) (xCons (xC (.int 1)) xNil)) e s = some (.tup [.int 0, .int 1], s) := by simp
/-- one turn of a sum: d[k] = added(d.get(k, (0, 1)), x) -/
theorem sum_turn {S : FA} {st : Store} {l n D B N C : Nat} {d : Pl} {m : Mb} {e : Env1} {iD iK iF : Nat} (hS : ∀ {p q : Rat} {s : Store}, Sz 1200 p → Sz 1200 q → S [fq p, fq q] s = some (fq (p + q), s))
    (h : st[l]? = some (dT d)) (hd : PB n D B N d) (hm : FrB D C m.2) (hD : 0 < D) (h1 : D < 2 ^ 1200) (h2 : B < 2 ^ 1200) (h3 : C < 2 ^ 1200) (hN : N ≤ 1000)
    (e1 : e[iD]? = some (some (.ref l))) (e2 : e[iK]? = some (some (kT m.1))) (e3 : e[iF]? = some (some (fq m.2))) :
    xsAsg (xCall S (xCons (xMethX "dict" getOrT (xVar iD) (xCons (xVar iK) (xCons (xCall tupT (xCons (xC (.int 0)) (xCons (xC (.int 1)) xNil))) xNil))) (xCons (xVar iF) xNil))) (xgSubA (xVar iD) (xVar iK)) e st = some (.nx e (st.set l (dT (addP d m.1 m.2)))) := by
  have hs := hS (s := st) ((look_frb hd.f m.1).sz hD h1 h2) (hm.sz hD h1 h3)
  have hg : getOrT (.ref l) [kT m.1, .tup [.int 0, .int 1]] st = some (fq ((lookP d m.1).getD 0), st) := by rw [get_d h, getD_fq]
  have hz : d.length < sizeLine := small1000 (Nat.le_trans hd.l hN)
  have hset := set_d (e := eF) (k := m.1) (x := (lookP d m.1).getD 0 + m.2) h hz
  simp only [r_xsAsg, r_xCall, r_xCons, r_xNil, xMethX, r_xVar, e1, e2, e3, Option.bind_some, isDict h, if_true, r_xC, r_tup, List.length_cons, List.length_nil, sz2, hg, hs, xgSubA, hset, Option.map_some, addP_set]
theorem set_last {st : Store} {o o2 : Ob} {n : Nat} (h : n = st.length) : (st ++ [o]).set n o2 = st ++ [o2] := by subst h; exact last_set
theorem mem_dict {t1 : T} {p : Pl} {st : Store} {n D B N : Nat} {t2 : T} (h1 : IsP t1 p) (hp : PB n D B N p) (hn : (keys p).Nodup) (hl : N ≤ 1000) :
    xDcN (xiSeq (xVar 0)) (xgTup 2 (xgsCons (xgName 2) (xgsCons (xgName 3) xgsNil))) [2, 3] xYes (xVar 2) (xVar 3) [some t1, some t2, none, none, none] st = some (.ref st.length, st ++ [dT p]) := by
  have h := dcN_enc (st := st) (s1 := st) (fi := xiSeq (xVar 0)) (g := xgTup 2 (xgsCons (xgName 2) (xgsCons (xgName 3) xgsNil))) (vs := [2, 3]) (tk := xVar 2) (tv := xVar 3) (e := [some t1, some t2, none, none, none]) (qs := p) (it := fun _ => some (p.map mT)) mT (fun m => kT m.1) (fun m => fq m.2) (fun m => kN m.1) (fun m => [some t1, some t2, some (kT m.1), some (fq m.2), none])
    (seq_p h1 rfl) (fun kvs => rfl) (Nat.le_trans hp.l hl)
    (fun m hm kvs => by simp [wipeE, xgTup, xgsCons, xgsNil, mT]) (fun m hm kvs => rfl) (fun m hm => ⟨kN_of m.1, rfl⟩) (fun m hm kvs => rfl)
  have e2 := fold_set eF p []
  rw [List.map_nil] at e2
  rw [setAll_new (d := []) (by simpa using hn), List.nil_append] at e2
  rw [h]
  show some (T.ref st.length, st ++ [Ob.dN _]) = _
  rw [show (p.foldl (fun kvs q => storeD kvs (kT q.1) (kN q.1) (fq q.2)) []) = p.map (eG eF) from e2]
theorem plus_ok {t1 t2 : T} {p q : Pl} {st : Store} {n D B N C M : Nat} (h1 : IsP t1 p) (h2 : IsP t2 q) (hp : PB n D B N p) (hq : PB n D C M q) (hn : (keys p).Nodup) (hD : 0 < D) (k1 : D < 2 ^ 1200) (k2 : B + M * C < 2 ^ 1200) (k3 : C < 2 ^ 1200) (hl : N + M ≤ 1000) :
    S_plus [t1, t2] st = some (plT (canon (addAll p q)), st) := by
  have hd := mem_dict (t2 := t2) (st := st) h1 hp hn (by omega)
  obtain ⟨e', s', g1, rfl, _, o2, o3, rfl⟩ := for_enc (fi := xiSeq (xVar 1)) (g := xgTup 2 (xgsCons (xgName 2) (xgsCons (xgName 3) xgsNil))) (b := xsAsg (xCall S_added (xCons (xMethX "dict" getOrT (xVar 4) (xCons (xVar 2) (xCons (xCall tupT (xCons (xC (.int 0)) (xCons (xC (.int 1)) xNil))) xNil))) (xCons (xVar 3) xNil))) (xgSubA (xVar 4) (xVar 2)))
    (e := [some t1, some t2, none, none, some (.ref st.length)]) (st := st ++ [dT p]) (s1 := st ++ [dT p]) (it := fun _ => some (q.map mT)) (qs := q) mT
    (fun i e s => s = st ++ [dT (addAll p (q.take i))] ∧ i ≤ q.length ∧ ∃ o2 o3, e = [some t1, some t2, o2, o3, some (.ref st.length)])
    (seq_p h2 rfl) (fun k e s h => rfl) ⟨rfl, Nat.zero_le _, none, none, rfl⟩
    (fun i e s m hm hP => by
      obtain ⟨rfl, hi, o2, o3, rfl⟩ := hP
      have hlt := (List.getElem?_eq_some_iff.mp hm).1
      have hpb := pb_part hp hq i (by omega)
      refine ⟨[some t1, some t2, some (kT m.1), some (fq m.2), some (.ref st.length)], st ++ [dT (addAll p (q.take i))], [some t1, some t2, some (kT m.1), some (fq m.2), some (.ref st.length)], st ++ [dT (addAll p (q.take (i + 1)))], by simp [xgTup, xgsCons, xgsNil, mT], ?_, rfl, by omega, _, _, rfl⟩
      rw [sum_turn (S := S_added) (iD := 4) (iK := 2) (iF := 3) (m := m) (fun a b => q_added a b (by decide)) last_get hpb (hq.f m (List.mem_of_getElem? hm)) hD k1 k2 k3 hl rfl rfl rfl, set_last rfl, addAll_step hm])
  rw [List.take_length] at g1
  have hpb := pb_part hp hq q.length (Nat.le_refl _)
  rw [List.take_length] at hpb
  refine cut_pure (g := [dT (addAll p q)]) (fn_ret rfl ?_) (below_T _ _)
  refine sq (e' := [some t1, some t2, none, none, some (.ref st.length)]) (st' := st ++ [dT p]) ?_ (sq g1 ?_)
  · show xsSet 4 _ [some t1, some t2, none, none, none] st = _
    rw [r_xsSet, hd]; rfl
  · have hg := gathered_ok (st := st ++ [dT (addAll p q)]) (l := st.length) last_get hpb.w (addAll_nodup hn) (Nat.le_trans hpb.l hl)
    simp [hg]
/-! ### the same by the law -/
theorem opt_pairs : ∀ p : Pl, optAll pairT (p.map mT) = some (p.map (eG eF))
  | [] => rfl
  | m :: p => by
    have h : pairT (mT m) = some (eG eF m) := rfl
    simp only [List.map_cons, optAll, h, opt_pairs p]
theorem good_pairs : ∀ p : Pl, (p.map (eG eF)).all (fun q => goodK q.1) = true
  | [] => rfl
  | m :: p => by
    rw [List.map_cons, List.all_cons, good_pairs p, Bool.and_true]
    show (isTup (kT m.1) && (toNK nkd (kT m.1)).isSome) = true
    rw [kN_of]; rfl
theorem merge_set : ∀ (p d : Pl), mergeD (d.map (eG eF)) (p.map (eG eF)) = (setAll d p).map (eG eF)
  | [], d => rfl
  | m :: p, d => by
    show mergeD (match toNK nkd (kT m.1) with | some n => storeD (d.map (eG eF)) (kT m.1) n (fq m.2) | none => _) (p.map (eG eF)) = _
    rw [kN_of]
    show mergeD (storeD (d.map (eG eF)) (kT m.1) (kN m.1) (eF m.2)) (p.map (eG eF)) = _
    rw [store_t, merge_set p]
    rfl
theorem dict_of {x : T} {st : Store} {p : Pl} {b : Bool} (hx : pairsOf st x = some (b, p.map mT)) (hn : (keys p).Nodup) (hl : p.length ≤ 1000) : dictT [x] st = some (.ref st.length, st ++ [dT p]) := by
  have e2 := merge_set p []
  rw [List.map_nil, setAll_new (d := []) (by simpa using hn), List.nil_append] at e2
  have hz : (p.map (eG eF)).length ≤ sizeLine := by rw [List.length_map]; exact Nat.le_of_lt (small1000 hl)
  unfold dictT
  simp only [hx, Option.bind_some, opt_pairs, good_pairs, hz, and_self, if_true, e2]
theorem dict_p {st : Store} {p : Pl} (hn : (keys p).Nodup) (hl : p.length ≤ 1000) : dictT [plP p] st = some (.ref st.length, st ++ [dT p]) := dict_of (b := true) rfl hn hl
theorem law_plus_ok {t2 : T} {p q : Pl} {st : Store} {n D B N C M : Nat} (h2 : IsP t2 q) (hp : PB n D B N p) (hq : PB n D C M q) (hn : (keys p).Nodup) (hD : 0 < D) (k1 : D < 2 ^ 1200) (k2 : B + M * C < 2 ^ 1200) (k3 : C < 2 ^ 1200) (hl : N + M ≤ 1000) :
    S__law_plus [plP p, t2] st = some (plP (canon (addAll p q)), st) := by
  have hd := dict_p (st := st) hn (Nat.le_trans hp.l (by omega))
  obtain ⟨e', s', g1, rfl, _, o2, o3, rfl⟩ := for_enc (fi := xiSeq (xVar 1)) (g := xgTup 2 (xgsCons (xgName 3) (xgsCons (xgName 4) xgsNil))) (b := xsAsg (xCall S__law_added (xCons (xMethX "dict" getOrT (xVar 2) (xCons (xVar 3) (xCons (xCall tupT (xCons (xC (.int 0)) (xCons (xC (.int 1)) xNil))) xNil))) (xCons (xVar 4) xNil))) (xgSubA (xVar 2) (xVar 3)))
    (e := [some (plP p), some t2, some (.ref st.length), none, none]) (st := st ++ [dT p]) (s1 := st ++ [dT p]) (it := fun _ => some (q.map mT)) (qs := q) mT
    (fun i e s => s = st ++ [dT (addAll p (q.take i))] ∧ i ≤ q.length ∧ ∃ o2 o3, e = [some (plP p), some t2, some (.ref st.length), o2, o3])
    (seq_p h2 rfl) (fun k e s h => rfl) ⟨rfl, Nat.zero_le _, none, none, rfl⟩
    (fun i e s m hm hP => by
      obtain ⟨rfl, hi, o2, o3, rfl⟩ := hP
      have hlt := (List.getElem?_eq_some_iff.mp hm).1
      have hpb := pb_part hp hq i (by omega)
      refine ⟨[some (plP p), some t2, some (.ref st.length), some (kT m.1), some (fq m.2)], st ++ [dT (addAll p (q.take i))], [some (plP p), some t2, some (.ref st.length), some (kT m.1), some (fq m.2)], st ++ [dT (addAll p (q.take (i + 1)))], by simp [xgTup, xgsCons, xgsNil, mT], ?_, rfl, by omega, _, _, rfl⟩
      rw [sum_turn (S := S__law_added) (iD := 2) (iK := 3) (iF := 4) (m := m) (fun a b => q_added a b (by decide)) last_get hpb (hq.f m (List.mem_of_getElem? hm)) hD k1 k2 k3 hl rfl rfl rfl, set_last rfl, addAll_step hm])
  rw [List.take_length] at g1
  have hpb := pb_part hp hq q.length (Nat.le_refl _)
  rw [List.take_length] at hpb
  refine cut_pure (g := [dT (addAll p q)]) (fn_ret rfl ?_) (below_P _ _)
  refine sq (e' := [some (plP p), some t2, some (.ref st.length), none, none]) (st' := st ++ [dT p]) ?_ (sq g1 ?_)
  · show xsSet 2 _ [some (plP p), some t2, none, none, none] st = _
    simp [hd]
  · have hg := law_poly_ok (st := st ++ [dT (addAll p q)]) (l := st.length) last_get hpb.w (addAll_nodup hn) (Nat.le_trans hpb.l hl)
    simp [hg]
end
end K03
/-! R6 -/
set_option Elab.async false
set_option linter.all false
set_option maxRecDepth 100000
set_option maxHeartbeats 4000000
set_option exponentiation.threshold 4000
/-! multiples, constants, units, degrees -/
namespace K03
open PySem PySem.Spec PyProof.Rows L2 TL LamX Poly
noncomputable section
variable [Tb]
def sclL (p : Pl) (c : Rat) : Pl := p.map fun m => (m.1, m.2 * c)
theorem phi_scl (f : PKey → Rat) (c : Rat) : ∀ p : Pl, Phi (sclL p c) f = Phi p f * c
  | [] => by show Phi [] f = _; rw [phi_nil]; grind
  | m :: p => by
    show Phi ((m.1, m.2 * c) :: sclL p c) f = _
    rw [phi_cons, phi_scl f c p, phi_cons]; grind
theorem keys_scl (p : Pl) (c : Rat) : keys (sclL p c) = keys p := by
  unfold keys sclL
  rw [List.map_map]; rfl
theorem wide_scl {n : Nat} {p : Pl} {c : Rat} (h : Wide n p) : Wide n (sclL p c) := by
  intro m hm
  obtain ⟨a, ha, rfl⟩ := List.mem_map.mp hm
  exact h a ha
theorem PB.scl {n D B N E C : Nat} {p : Pl} {c : Rat} (h : PB n D B N p) (hc : FrB E C c) : PB n (D * E) (B * C) N (sclL p c) := by
  refine ⟨wide_scl h.w, fun m hm => ?_, by unfold sclL; rw [List.length_map]; exact h.l⟩
  obtain ⟨a, ha, rfl⟩ := List.mem_map.mp hm
  exact (h.f a ha).mul hc
theorem PB.neg {n D B N : Nat} {p : Pl} (h : PB n D B N p) : PB n D B N (sclL p (-1)) := by
  refine ⟨wide_scl h.w, fun m hm => ?_, by unfold sclL; rw [List.length_map]; exact h.l⟩
  obtain ⟨a, ha, rfl⟩ := List.mem_map.mp hm
  exact (h.f a ha).neg
theorem scl_can {p : Pl} {c : Rat} (h : Can p) (hc : c ≠ 0) : Can (sclL p c) := by
  refine ⟨List.pairwise_map.mpr h.asc, fun m hm => ?_⟩
  obtain ⟨a, ha, rfl⟩ := List.mem_map.mp hm
  exact fun e => by
    rcases Rat.mul_eq_zero.mp e with e | e
    · exact h.nz a ha e
    · exact hc e
/-- what scaled tells -/
def scP (p : Pl) (c : Rat) : Pl := if c = 0 then [] else sclL p c
theorem scP_canon {p : Pl} {c : Rat} (h : Can p) : scP p c = canon (sclL p c) := by
  have hn : (keys (sclL p c)).Nodup := by rw [keys_scl]; exact h.nodup
  unfold scP
  split
  · rename_i hc
    subst hc
    refine can_one Can.nil (canon_can hn) fun f => ?_
    rw [canon_same hn, phi_scl, phi_nil]; grind
  · rename_i hc
    exact (canon_id (scl_can h hc)).symm
theorem num0 {c : Rat} : decide (c.num = 0) = decide (c = 0) := by
  by_cases h : c = 0
  · subst h; rfl
  · have : c.num ≠ 0 := fun e => h (Rat.num_eq_zero.mp e)
    simp [h, this]
theorem fix1 {c : Rat} {k : Nat} {s : Store} : ixA (fq c) (.int 0) s = some (.int c.num, s) := by simp
theorem scaled_ok {t1 : T} {p : Pl} {c : Rat} {st : Store} (h1 : IsP t1 p) (hs : ∀ m ∈ p, Sz 1200 m.2) (hc : Sz 1200 c) (hl : p.length ≤ 1000) : S_scaled [t1, fq c] st = some (plT (scP p c), st) := by
  by_cases h0 : c = 0
  · have e : scP p c = [] := by unfold scP; rw [if_pos h0]
    rw [e]
    have hn : c.num = 0 := by rw [h0]; rfl
    refine cut_pure (g := []) (fn_ret rfl ?_) (below_T _ _)
    rw [List.append_nil]
    refine sqr (if_yes (st' := st) ?_ ?_)
    · simp [hn]
    · simp
  · have e : scP p c = sclL p c := by unfold scP; rw [if_neg h0]
    rw [e]
    have hn : c.num ≠ 0 := fun e => h0 (Rat.num_eq_zero.mp e)
    have h := lc_all (st := st) (s1 := st) (fi := xiSeq (xVar 0)) (g := xgTup 2 (xgsCons (xgName 2) (xgsCons (xgName 3) xgsNil))) (vs := [2, 3]) (te := xCall tupT (xCons (xVar 2) (xCons (xCall S_times (xCons (xVar 3) (xCons (xVar 1) xNil))) xNil))) (e := [some t1, some (fq c), none, none]) (qs := p) (it := fun _ => some (p.map mT)) mT (fun m => mT (m.1, m.2 * c)) (fun m => [some t1, some (fq c), some (kT m.1), some (fq m.2)])
      (seq_p h1 rfl) (fun acc => rfl) hl (fun m hm acc => by simp [wipeE, xgTup, xgsCons, xgsNil, mT])
      (fun m hm acc => by
        have ht : ∀ s, S_times [fq m.2, fq c] s = some (fq (m.2 * c), s) := fun s => q_times (hs m hm) hc (by decide)
        simp [ht, mT])
    refine cut_pure (g := [.lst ((sclL p c).map mT)]) (fn_ret rfl ?_) (below_T _ _)
    refine sq (e' := [some t1, some (fq c), none, none]) (st' := st) (if_no (st' := st) ?_ ?_) ?_
    · simp [hn]
    · simp
    · have e2 : (p.map fun m => mT (m.1, m.2 * c)) = (sclL p c).map mT := by unfold sclL; rw [List.map_map]; rfl
      rw [e2] at h
      simp [h, tuple_l last_get]
theorem minus_ok {t1 t2 : T} {p q : Pl} {st : Store} {n D B N C M : Nat} (h1 : IsP t1 p) (h2 : IsP t2 q) (hp : PB n D B N p) (hq : PB n D C M q) (hn : (keys p).Nodup) (hD : 0 < D) (k1 : D < 2 ^ 1200) (k2 : B + M * C < 2 ^ 1200) (k3 : C < 2 ^ 1200) (hl : N + M ≤ 1000) :
    S_minus [t1, t2] st = some (plT (canon (addAll p (sclL q (-1)))), st) := by
  have hs : S_scaled [t2, fq (-1)] st = some (plT (scP q (-1)), st) := scaled_ok h2 (fun m hm => (hq.f m hm).sz hD k1 k3) ⟨by decide, by decide⟩ (Nat.le_trans hq.l (by omega))
  have e1 : scP q (-1) = sclL q (-1) := by unfold scP; rw [if_neg (by decide)]
  rw [e1] at hs
  have hpl := plus_ok (st := st) (t2 := plT (sclL q (-1))) h1 (.inl rfl) hp hq.neg hn hD k1 k2 k3 hl
  refine cut_pure (g := []) (fn_ret rfl ?_) (below_T _ _)
  rw [List.append_nil]
  have hs2 : S_scaled [t2, T.tup [T.int (-1), T.int 1]] st = some (plT (sclL q (-1)), st) := hs
  simp [B_minus, hs2, hpl]
theorem law_scaled_ok {t1 : T} {p : Pl} {c : Rat} {st : Store} {n : Nat} (h1 : IsP t1 p) (hw : Wide n p) (hn : (keys p).Nodup) (hs : ∀ m ∈ p, Sz 1200 m.2) (hc : Sz 1200 c) (hl : p.length ≤ 1000) : S__law_scaled [t1, fq c] st = some (plP (canon (sclL p c)), st) := by
  have h := lc_all (st := st) (s1 := st) (fi := xiSeq (xVar 0)) (g := xgTup 2 (xgsCons (xgName 2) (xgsCons (xgName 3) xgsNil))) (vs := [2, 3]) (te := xCall tupT (xCons (xVar 2) (xCons (xCall S__law_times (xCons (xVar 3) (xCons (xVar 1) xNil))) xNil))) (e := [some t1, some (fq c), none, none]) (qs := p) (it := fun _ => some (p.map mT)) mT (fun m => mT (m.1, m.2 * c)) (fun m => [some t1, some (fq c), some (kT m.1), some (fq m.2)])
    (seq_p h1 rfl) (fun acc => rfl) hl (fun m hm acc => by simp [wipeE, xgTup, xgsCons, xgsNil, mT])
    (fun m hm acc => by
      have ht : ∀ s, S__law_times [fq m.2, fq c] s = some (fq (m.2 * c), s) := fun s => q_times (hs m hm) hc (by decide)
      simp [ht, mT])
  have e2 : (p.map fun m => mT (m.1, m.2 * c)) = (sclL p c).map mT := by unfold sclL; rw [List.map_map]; rfl
  rw [e2] at h
  have hk : (keys (sclL p c)).Nodup := by rw [keys_scl]; exact hn
  have hll : (sclL p c).length ≤ 1000 := by unfold sclL; rw [List.length_map]; exact hl
  have hd : dictT [.ref st.length] (st ++ [.lst ((sclL p c).map mT)]) = some (.ref (st.length + 1), (st ++ [.lst ((sclL p c).map mT)]) ++ [dT (sclL p c)]) := by
    have := dict_of (x := .ref st.length) (st := st ++ [.lst ((sclL p c).map mT)]) (b := false) (p := sclL p c) (by simp [TL.pairsOf]) hk hll
    simpa using this
  have hg := law_poly_ok (st := (st ++ [.lst ((sclL p c).map mT)]) ++ [dT (sclL p c)]) (l := st.length + 1) (at_len rfl) (wide_scl hw) hk hll
  refine cut_pure (g := [.lst ((sclL p c).map mT)] ++ [dT (sclL p c)]) (fn_ret rfl ?_) (below_P _ _)
  show B__law_scaled [some t1, some (fq c), none, none] st = _
  unfold B__law_scaled
  rw [r_xsRet, r_xCall, r_xCons, r_xCall, r_xCons, h]
  simp only [Option.bind_some, r_xNil, hd, hg, Option.map_some]
  rw [List.append_assoc]
/-! ### constants -/
theorem zeros_T {n : Nat} {s : Store} (h : n ≤ 1000) : mulDT (.tup [.int 0]) (.int (n : Int)) s = some (kT (List.replicate n 0), s) := by
  have e : (List.replicate n [T.int 0]).flatten = (List.replicate n 0).map fun n : Nat => T.int (n : Int) := by
    induction n with
    | zero => rfl
    | succ n ih => rw [List.replicate_succ, List.flatten_cons, ih (by omega), List.replicate_succ]; rfl
  simp only [mulDT, ne_eq, reduceCtorEq, not_false_eq_true, List.length_cons, List.length_nil, true_and]
  rw [if_pos ⟨by decide, by omega, by omega⟩, Int.toNat_natCast, e]
  rfl
def conL (n : Nat) (c : Rat) : Pl := [(List.replicate n 0, c)]
def conP (n : Nat) (c : Rat) : Pl := if c = 0 then [] else conL n c
theorem con_wide (n : Nat) (c : Rat) : Wide n (conL n c) := by
  intro m hm
  rw [List.mem_singleton.mp hm]; simp
theorem con_nodup (n : Nat) (c : Rat) : (keys (conL n c)).Nodup := by simp [keys, conL]
theorem conP_can (n : Nat) (c : Rat) : Can (conP n c) := by
  unfold conP
  split
  · exact Can.nil
  · rename_i h
    exact ⟨List.pairwise_singleton _ _, fun m hm => by rw [List.mem_singleton.mp hm]; exact h⟩
theorem conP_canon (n : Nat) (c : Rat) : conP n c = canon (conL n c) := by
  refine can_one (conP_can n c) (canon_can (con_nodup n c)) fun f => ?_
  rw [canon_same (con_nodup n c)]
  unfold conP
  split
  · rename_i h
    unfold conL
    rw [phi_cons, phi_nil, h]; grind
  · rfl
theorem constant_ok {n : Nat} {c : Rat} {st : Store} (hn : n ≤ 1000) : F_constant [.int (n : Int), fq c] st = some (plT (conP n c), st) := by
  refine fn_ret rfl ?_
  by_cases h0 : c = 0
  · have e : conP n c = [] := by unfold conP; rw [if_pos h0]
    have hz : c.num = 0 := by rw [h0]; rfl
    rw [e]
    refine sqr (if_yes (st' := st) ?_ ?_)
    · simp [hz]
    · simp
  · have e : conP n c = conL n c := by unfold conP; rw [if_neg h0]
    have hz : c.num ≠ 0 := fun e => h0 (Rat.num_eq_zero.mp e)
    rw [e]
    refine sq (e' := [some (.int (n : Int)), some (fq c)]) (st' := st) (if_no (st' := st) ?_ ?_) ?_
    · simp [hz]
    · simp
    · have hm := zeros_T (n := n) (s := st) hn
      simp [hm, conL, mT]
theorem law_constant_ok {n : Nat} {c : Rat} {st : Store} (hn : n ≤ 1000) : S__law_constant [.int (n : Int), fq c] st = some (plP (conP n c), st) := by
  have hm : ∀ s, mulDT (.tup [.int 0]) (.int (n : Int)) s = some (kT (List.replicate n 0), s) := fun s => zeros_T hn
  have hd : xDict1N (xBin mulDT (xCall tupT (xCons (xC (.int 0)) xNil)) (xVar 0)) (xVar 1) [some (.int (n : Int)), some (fq c)] st = some (.ref st.length, st ++ [dT (conL n c)]) := by
    simp [xDict1N, hm, kN_of, isTup_k, conL, eG]
  have hg := law_poly_ok (st := st ++ [dT (conL n c)]) (l := st.length) last_get (con_wide n c) (con_nodup n c) (by simp [conL])
  rw [conP_canon]
  refine cut_pure (g := [dT (conL n c)]) (fn_ret rfl ?_) (below_P _ _)
  show B__law_constant [some (.int (n : Int)), some (fq c)] st = _
  unfold B__law_constant
  rw [r_xsRet, r_xCall, r_xCons, hd]
  simp only [Option.bind_some, r_xNil, hg, Option.map_some]
end
end K03
/-! R7 -/
set_option Elab.async false
set_option linter.all false
set_option maxRecDepth 100000
set_option maxHeartbeats 4000000
set_option exponentiation.threshold 4000
/-! products -/
namespace K03
open PySem PySem.Spec PyProof.Rows L2 TL LamX Poly
noncomputable section
variable [Tb]
theorem mid_get {s g : Store} {o : Ob} : (s ++ o :: g)[s.length]? = some o := by rw [List.getElem?_append_right (Nat.le_refl _)]; simp
theorem mid_set {s g : Store} {o o2 : Ob} : (s ++ o :: g).set s.length o2 = s ++ o2 :: g := by rw [List.set_append_right _ _ (Nat.le_refl _)]; simp
theorem mid_app {s g : Store} {o o2 : Ob} : (s ++ o :: g) ++ [o2] = s ++ o :: (g ++ [o2]) := by simp
theorem zip_keys (a b : PKey) : zipL (a.map fun n : Nat => T.int (n : Int)) (b.map fun n : Nat => T.int (n : Int)) = (a.zip b).map fun p => T.tup [.int (p.1 : Int), .int (p.2 : Int)] := by
  unfold zipL
  rw [List.zipWith_map, List.zip, List.map_zipWith]
theorem addK_zip (a b : PKey) : ((a.zip b).map fun p => T.int ((p.1 + p.2 : Nat) : Int)) = (addK a b).map fun n : Nat => T.int (n : Int) := by
  unfold addK
  rw [List.zip, List.map_zipWith, List.map_zipWith]
theorem key_sum {e : Env1} {st : Store} {i j c1 c2 : Nat} {a b : PKey} (hi : e[i]? = some (some (kT a))) (hj : e[j]? = some (some (kT b))) (h1 : c1 < e.length) (h2 : c2 < e.length) (hn : c1 ≠ c2) (hl : a.length ≤ 1000) :
    xCall tupleT (xCons (xLc (xiZip (xVar i) (xVar j)) (xgTup 2 (xgsCons (xgName c1) (xgsCons (xgName c2) xgsNil))) [c1, c2] xYes (xBin addT (xVar c1) (xVar c2))) xNil) e st = some (kT (addK a b), st ++ [.lst ((addK a b).map fun n : Nat => T.int (n : Int))]) := by
  have l1 : (wipeE e [c1, c2]).length = e.length := wipeE_length _ _
  have hlc := lc_all (st := st) (s1 := st) (fi := xiZip (xVar i) (xVar j)) (g := xgTup 2 (xgsCons (xgName c1) (xgsCons (xgName c2) xgsNil))) (vs := [c1, c2]) (te := xBin addT (xVar c1) (xVar c2)) (e := e) (qs := a.zip b) (it := fun s => some (zipL (a.map fun n : Nat => T.int (n : Int)) (b.map fun n : Nat => T.int (n : Int)))) (fun p => T.tup [.int (p.1 : Int), .int (p.2 : Int)]) (fun p => .int ((p.1 + p.2 : Nat) : Int)) (fun p => ((wipeE e [c1, c2]).set c1 (some (.int p.1))).set c2 (some (.int p.2)))
    (by simp [xiZip, hi, hj, kT, seqOf]) (fun acc => by rw [zip_keys]) (by rw [List.length_zip]; omega) (fun p hp acc => by simp [xgTup, xgsCons, xgsNil])
    (fun p hp acc => by
      have e1 : (((wipeE e [c1, c2]).set c1 (some (.int (p.1 : Int)))).set c2 (some (T.int (p.2 : Int))))[c1]? = some (some (.int (p.1 : Int))) := by
        rw [List.getElem?_set_ne (Ne.symm hn), List.getElem?_set_self (by rw [l1]; exact h1)]
      have e2 : (((wipeE e [c1, c2]).set c1 (some (.int (p.1 : Int)))).set c2 (some (T.int (p.2 : Int))))[c2]? = some (some (.int (p.2 : Int))) := by
        rw [List.getElem?_set_self (by rw [List.length_set, l1]; exact h2)]
      simp only [r_xBin, r_xVar, e1, e2, Option.bind_some, r_add]
      rfl)
  rw [addK_zip] at hlc
  simp only [r_xCall, r_xCons, hlc, Option.bind_some, r_xNil, tuple_l last_get]
  rfl
/-- the value at a key of a dict of ints, by a told value where none stands -/
abbrev eI : Rat → T := fun q => .int q.num
def wT (m : Mb) : T := .tup [kT m.1, eI m.2]
theorem getD_eI (d : Pl) (k : PKey) : ((lookP d k).map eI).getD (.int 0) = eI ((lookP d k).getD 0) := by
  cases lookP d k <;> rfl
/-- whole -/
def Whole (p : Pl) : Prop := ∀ m ∈ p, ∃ z : Int, m.2 = (z : Rat)
theorem whole_look {d : Pl} (h : Whole d) (k : PKey) : ∃ z : Int, (lookP d k).getD 0 = (z : Rat) := by
  cases e : lookP d k with
  | none => exact ⟨0, rfl⟩
  | some x => exact h _ (look_mem e)
theorem whole_add {d : Pl} {k : PKey} {x : Rat} (h : Whole d) (hx : ∃ z : Int, x = (z : Rat)) : Whole (addP d k x) := by
  intro m hm
  rcases add_mem m hm with e | rfl
  · exact h m e
  · obtain ⟨a, ha⟩ := whole_look h k
    obtain ⟨b, rfl⟩ := hx
    exact ⟨a + b, by show (lookP d k).getD 0 + (b : Rat) = _; rw [ha, Rat.intCast_add]⟩
theorem whole_addAll : ∀ {p d : Pl}, Whole d → Whole p → Whole (addAll d p)
  | [], d, h, _ => h
  | m :: p, d, h, hp => whole_addAll (p := p) (whole_add h (hp m List.mem_cons_self)) fun x hx => hp x (List.mem_cons_of_mem _ hx)
theorem whole_mul {p q : Pl} (hp : Whole p) (hq : Whole q) : Whole (mulL p q) := by
  intro m hm
  obtain ⟨a, ha, h⟩ := List.mem_flatMap.mp hm
  obtain ⟨b, hb, rfl⟩ := List.mem_map.mp h
  obtain ⟨x, hx⟩ := hp a ha
  obtain ⟨y, hy⟩ := hq b hb
  exact ⟨x * y, by show a.2 * b.2 = _; rw [hx, hy, Rat.intCast_mul]⟩
theorem num_sum {x y z : Rat} (hx : ∃ a : Int, x = (a : Rat)) (hy : ∃ a : Int, y = (a : Rat)) (hz : ∃ a : Int, z = (a : Rat)) : x.num + y.num * z.num = (x + y * z).num := by
  obtain ⟨a, rfl⟩ := hx
  obtain ⟨b, rfl⟩ := hy
  obtain ⟨c, rfl⟩ := hz
  have h : (a : Rat) + (b : Rat) * (c : Rat) = ((a + b * c : Int) : Rat) := by rw [Rat.intCast_add, Rat.intCast_mul]
  rw [h, Rat.num_intCast, Rat.num_intCast, Rat.num_intCast, Rat.num_intCast]
theorem addAll_app (d p q : Pl) : addAll d (p ++ q) = addAll (addAll d p) q := by unfold addAll; rw [List.foldl_append]
def rowL (a : Mb) (q : Pl) : Pl := q.map fun b => (addK a.1 b.1, a.2 * b.2)
theorem mul_snoc (p : Pl) (a : Mb) (q : Pl) : mulL (p ++ [a]) q = mulL p q ++ rowL a q := by
  unfold mulL rowL
  rw [List.flatMap_append]; simp
theorem row_snoc (a : Mb) (q : Pl) (b : Mb) : rowL a (q ++ [b]) = rowL a q ++ [(addK a.1 b.1, a.2 * b.2)] := by
  unfold rowL
  rw [List.map_append]; rfl
theorem row_mem {a : Mb} {q p : Pl} (ha : a ∈ p) : ∀ m ∈ rowL a q, m ∈ mulL p q := fun m hm => List.mem_flatMap.mpr ⟨a, ha, hm⟩
theorem mul_sub {p p' q q' : Pl} (h : ∀ a ∈ p, a ∈ p') (g : ∀ a ∈ q, a ∈ q') : ∀ m ∈ mulL p q, m ∈ mulL p' q' := by
  intro m hm
  obtain ⟨a, ha, hm⟩ := List.mem_flatMap.mp hm
  obtain ⟨b, hb, rfl⟩ := List.mem_map.mp hm
  exact List.mem_flatMap.mpr ⟨a, h a ha, List.mem_map.mpr ⟨b, g b hb, rfl⟩⟩
theorem mul_len : ∀ p q : Pl, (mulL p q).length = p.length * q.length
  | [], q => by simp [mulL]
  | m :: p, q => by
    show ((q.map fun b => (addK m.1 b.1, m.2 * b.2)) ++ mulL p q).length = _
    rw [List.length_append, List.length_map, mul_len p q, List.length_cons, Nat.succ_mul]; omega
/-- so far: the rows of the first ones, a part of the next one -/
def farL (p q : Pl) (i j : Nat) : Pl := mulL (p.take i) q ++ match p[i]? with
  | some a => rowL a (q.take j)
  | none => []
theorem far_zero (p q : Pl) (i : Nat) : farL p q i 0 = mulL (p.take i) q := by
  unfold farL
  split <;> simp [rowL]
theorem far_full {p q : Pl} {i : Nat} (h : i < p.length) : farL p q i q.length = mulL (p.take (i + 1)) q := by
  unfold farL
  rw [List.getElem?_eq_getElem h, take_step (List.getElem?_eq_getElem h), mul_snoc, List.take_length]
theorem far_step {p q : Pl} {i j : Nat} {a b : Mb} (ha : p[i]? = some a) (hb : q[j]? = some b) : farL p q i (j + 1) = farL p q i j ++ [(addK a.1 b.1, a.2 * b.2)] := by
  unfold farL
  rw [ha]
  simp only
  rw [take_step hb, row_snoc, List.append_assoc]
theorem far_mem {p q : Pl} {i j : Nat} : ∀ m ∈ farL p q i j, m ∈ mulL p q := by
  intro m hm
  unfold farL at hm
  rcases List.mem_append.mp hm with h | h
  · exact mul_sub (fun a => List.mem_of_mem_take) (fun _ h => h) m h
  · split at h
    · rename_i a ha
      obtain ⟨b, hb, rfl⟩ := List.mem_map.mp h
      exact List.mem_flatMap.mpr ⟨a, List.mem_of_getElem? ha, List.mem_map.mpr ⟨b, List.mem_of_mem_take hb, rfl⟩⟩
    · cases h
theorem far_len {p q : Pl} {i j : Nat} (hi : i < p.length) (hj : j ≤ q.length) : (farL p q i j).length ≤ p.length * q.length := by
  unfold farL
  rw [List.getElem?_eq_getElem hi]
  simp only [List.length_append, mul_len, rowL, List.length_map, List.length_take]
  rw [Nat.min_eq_left (Nat.le_of_lt hi), Nat.min_eq_left hj]
  have : (i + 1) * q.length ≤ p.length * q.length := Nat.mul_le_mul_right _ hi
  rw [Nat.succ_mul] at this
  omega
/-- what has been added up so far is not long -/
theorem far_pb {p q : Pl} {i j n D B : Nat} (hw : Wide n (mulL p q)) (hf : ∀ m ∈ mulL p q, FrB D B m.2) (hi : i < p.length) (hj : j ≤ q.length) : PB n D (p.length * q.length * B) (p.length * q.length) (addAll [] (farL p q i j)) := by
  have h := (PB.nil n D).addAll (q := farL p q i j) (fun m hm => hw m (far_mem m hm)) (fun m hm => hf m (far_mem m hm))
  have hl := far_len (p := p) (q := q) hi hj
  exact h.up (by rw [Nat.zero_add]; exact Nat.mul_le_mul_right _ hl) (by rw [Nat.zero_add]; exact hl)
end
end K03
/-! R8 -/
set_option Elab.async false
set_option linter.all false
set_option maxRecDepth 100000
set_option maxHeartbeats 4000000
set_option exponentiation.threshold 4000
/-! products, led -/
namespace K03
open PySem PySem.Spec PyProof.Rows L2 TL LamX Poly
noncomputable section
variable [Tb]
theorem turn_mul {eV : Rat → T} {vx : XE} {e : Env1} {b0 g : Store} {d : Pl} {a b : PKey} {x : Rat} {iD iK i j c1 c2 : Nat}
    (hi : e[i]? = some (some (kT a))) (hj : e[j]? = some (some (kT b))) (hD : e[iD]? = some (some (.ref b0.length))) (hK : iK < e.length) (hne : iD ≠ iK) (h1 : c1 < e.length) (h2 : c2 < e.length) (hn : c1 ≠ c2) (hl : a.length ≤ 1000) (hz : d.length < 1000)
    (hv : ∀ g, vx (e.set iK (some (kT (addK a b)))) (b0 ++ .dN (d.map (eG eV)) :: g) = some (eV ((lookP d (addK a b)).getD 0 + x), b0 ++ .dN (d.map (eG eV)) :: g)) :
    ∃ g', xsSeq (xsSet iK (xCall tupleT (xCons (xLc (xiZip (xVar i) (xVar j)) (xgTup 2 (xgsCons (xgName c1) (xgsCons (xgName c2) xgsNil))) [c1, c2] xYes (xBin addT (xVar c1) (xVar c2))) xNil))) (xsAsg vx (xgSubA (xVar iD) (xVar iK))) e (b0 ++ .dN (d.map (eG eV)) :: g)
      = some (.nx (e.set iK (some (kT (addK a b)))) (b0 ++ .dN ((addP d (addK a b) x).map (eG eV)) :: (g ++ g'))) := by
  refine ⟨[.lst ((addK a b).map fun n : Nat => T.int (n : Int))], ?_⟩
  have hk := key_sum (st := b0 ++ .dN (d.map (eG eV)) :: g) hi hj h1 h2 hn hl
  rw [mid_app] at hk
  refine sq (e' := e.set iK (some (kT (addK a b)))) (st' := b0 ++ .dN (d.map (eG eV)) :: (g ++ [.lst ((addK a b).map fun n : Nat => T.int (n : Int))])) ?_ ?_
  · rw [r_xsSet, hk]; rfl
  · have e1 : (e.set iK (some (kT (addK a b))))[iD]? = some (some (.ref b0.length)) := by rw [List.getElem?_set_ne (Ne.symm hne)]; exact hD
    have e2 : (e.set iK (some (kT (addK a b))))[iK]? = some (some (kT (addK a b))) := List.getElem?_set_self hK
    have hs := set_d (e := eV) (k := addK a b) (x := (lookP d (addK a b)).getD 0 + x) (l := b0.length) (st := b0 ++ .dN (d.map (eG eV)) :: (g ++ [.lst ((addK a b).map fun n : Nat => T.int (n : Int))])) mid_get (small1000 (by omega))
    rw [mid_set] at hs
    simp only [r_xsAsg, hv, Option.bind_some, xgSubA, r_xVar, e1, e2, hs, Option.map_some, addP_set]
/-! ### the common denominator -/
theorem lcm_log {D : Nat} {qs : List Rat} (hD : 0 < D) (h2 : D < 2 ^ 1200) (hd : ∀ q ∈ qs, q.den ∣ D) : (lcmQ qs).log2 < 6000 := by
  have h := Nat.le_of_dvd hD (lcmQ_divides hD qs hd)
  have := log2_of (Nat.lt_of_le_of_lt h h2)
  omega
theorem den_ok {t : T} {p : Pl} {st : Store} {D : Nat} (h1 : IsP t p) (hD : 0 < D) (h2 : D < 2 ^ 1200) (hd : ∀ m ∈ p, m.2.den ∣ D) : F_common_den [t] st = some (.int ((lcmQ (p.map (·.2)) : Nat) : Int), st) := by
  have hd2 : ∀ q ∈ p.map (·.2), q.den ∣ D := fun q hq => by
    obtain ⟨m, hm, rfl⟩ := List.mem_map.mp hq
    exact hd m hm
  obtain ⟨e', s', g1, rfl, o2, o3, rfl⟩ := for_enc (fi := xiSeq (xVar 0)) (g := xgTup 2 (xgsCons (xgName 2) (xgsCons (xgName 3) xgsNil))) (b := xsSet 1 (xCall lcmT (xCons (xVar 1) (xCons (xBin ixA (xVar 3) (xC (.int 1))) xNil))))
    (e := [some t, some (.int 1), none, none]) (st := st) (s1 := st) (it := fun _ => some (p.map mT)) (qs := p) mT
    (fun i e s => s = st ∧ ∃ o2 o3, e = [some t, some (.int ((lcmQ ((p.map (·.2)).take i) : Nat) : Int)), o2, o3])
    (seq_p h1 rfl) (fun k e s h => rfl) ⟨rfl, none, none, by simp [lcmQ]⟩
    (fun i e s m hm hP => by
      obtain ⟨rfl, o2, o3, rfl⟩ := hP
      have hq : (p.map (·.2))[i]? = some m.2 := by rw [List.getElem?_map, hm]; rfl
      have l1 : (lcmQ ((p.map (·.2)).take i)).log2 < 6000 := lcm_log hD h2 fun q hq => hd2 q (List.mem_of_mem_take hq)
      have l2 : m.2.den.log2 < 6000 := by
        have := log2_of (Nat.lt_of_le_of_lt (Nat.le_of_dvd hD (hd m (List.mem_of_getElem? hm))) h2)
        omega
      refine ⟨[some t, some (.int ((lcmQ ((p.map (·.2)).take i) : Nat) : Int)), some (kT m.1), some (fq m.2)], s, [some t, some (.int ((lcmQ ((p.map (·.2)).take (i + 1)) : Nat) : Int)), some (kT m.1), some (fq m.2)], s, by simp [xgTup, xgsCons, xgsNil, mT], ?_, rfl, _, _, rfl⟩
      simp [lcmT, l1, l2, lcmQ_take hq])
  have e2 : (p.map (·.2)).take p.length = p.map (·.2) := List.take_of_length_le (by rw [List.length_map]; exact Nat.le_refl _)
  rw [e2] at g1
  refine fn_ret rfl ?_
  refine sq (e' := [some t, some (.int 1), none, none]) (st' := s') rfl (sq g1 ?_)
  rfl
theorem whole_at {q : Rat} {L : Nat} (h : q.den ∣ L) : q * (L : Rat) = ((q.num * ((L / q.den : Nat) : Int) : Int) : Rat) := by
  obtain ⟨c, rfl⟩ := h
  rw [Nat.mul_div_cancel_left _ (Nat.pos_of_ne_zero q.den_nz), Rat.intCast_mul, Rat.natCast_mul]
  have h1 : (q.den : Rat) ≠ 0 := fun e => q.den_nz (Rat.natCast_eq_zero_iff.mp e)
  have h2 : q = (q.num : Rat) / (q.den : Rat) := by
    have := Rat.num_divInt_den q
    rw [Rat.divInt_eq_div] at this
    exact this.symm
  have h3 : q * (q.den : Rat) = (q.num : Rat) := by
    have := Rat.div_mul_cancel h1 (a := (q.num : Rat))
    rw [← h2] at this
    exact this
  have h4 : ((c : Int) : Rat) = (c : Rat) := Rat.intCast_natCast c
  rw [h4, ← h3]; grind
theorem members_ok {t : T} {p : Pl} {st : Store} {L D : Nat} (h1 : IsP t p) (hl : p.length ≤ 1000) (hL : L < 2 ^ 1200) (h0 : 0 < L) (hd : ∀ m ∈ p, m.2.den ∣ L ∧ Sz 1200 m.2) :
    F_whole_members [t, .int (L : Int)] st = some (.ref st.length, st ++ [.lst ((sclL p (L : Rat)).map wT)]) := by
  have h := lc_all (st := st) (s1 := st) (fi := xiSeq (xVar 0)) (g := xgTup 2 (xgsCons (xgName 2) (xgsCons (xgTup 2 (xgsCons (xgName 3) (xgsCons (xgName 4) xgsNil))) xgsNil))) (vs := [2, 3, 4]) (te := xCall tupT (xCons (xVar 2) (xCons (xBin mulT (xVar 3) (xBin fdivT (xVar 1) (xVar 4))) xNil))) (e := [some t, some (.int (L : Int)), none, none, none]) (qs := p) (it := fun _ => some (p.map mT)) mT (fun m => wT (m.1, m.2 * (L : Rat))) (fun m => [some t, some (.int (L : Int)), some (kT m.1), some (.int m.2.num), some (.int (m.2.den : Int))])
    (seq_p h1 rfl) (fun acc => rfl) hl (fun m hm acc => by simp [wipeE, xgTup, xgsCons, xgsNil, mT])
    (fun m hm acc => by
      obtain ⟨hdv, hs⟩ := hd m hm
      have hf : ((L : Nat) : Int).fdiv (m.2.den : Int) = ((L / m.2.den : Nat) : Int) := by
        rw [Int.fdiv_eq_ediv_of_nonneg _ (by omega)]; exact (Int.natCast_ediv _ _).symm
      have hne : ¬ ((m.2.den : Nat) : Int) = 0 := den_ne m.2
      have hlg : m.2.den.log2 < 9000 := by have := log2_of hs.d; omega
      have hb : bitsOk m.2.num ((L / m.2.den : Nat) : Int) = true := bits_of (k := 1200) hs.n (by rw [Int.natAbs_natCast]; exact Nat.lt_of_le_of_lt (Nat.div_le_self _ _) hL) (by decide)
      have hw : (m.2 * (L : Rat)).num = m.2.num * ((L / m.2.den : Nat) : Int) := by rw [whole_at hdv, Rat.num_intCast]
      simp only [r_xCall, r_xCons, r_xVar, List.getElem?_cons_zero, List.getElem?_cons_succ, Option.bind_some, r_xBin, r_fdiv, ne_eq, hne, not_false_eq_true, Int.natAbs_natCast, hlg, and_self, if_true, hf, r_mul, hb, r_xNil, r_tup, List.length_cons, List.length_nil, sz2, wT, eI, hw])
  have e2 : (p.map fun m => wT (m.1, m.2 * (L : Rat))) = (sclL p (L : Rat)).map wT := by unfold sclL; rw [List.map_map]; rfl
  rw [e2] at h
  exact fn_ret rfl (by show B_whole_members [some t, some (.int (L : Int)), none, none, none] st = _; unfold B_whole_members; rw [r_xsRet, h]; rfl)
theorem whole_scl {p : Pl} {L : Nat} (h : ∀ m ∈ p, m.2.den ∣ L) : Whole (sclL p (L : Rat)) := by
  intro m hm
  obtain ⟨a, ha, rfl⟩ := List.mem_map.mp hm
  exact ⟨_, whole_at (h a ha)⟩
end
end K03
/-! R9 -/
set_option Elab.async false
set_option linter.all false
set_option maxRecDepth 100000
set_option maxHeartbeats 4000000
set_option exponentiation.threshold 4000
/-! products, by the package -/
namespace K03
open PySem PySem.Spec PyProof.Rows L2 TL LamX Poly
noncomputable section
variable [Tb]
theorem addAll_len : ∀ (p d : Pl), (addAll d p).length ≤ d.length + p.length
  | [], d => Nat.le_refl _
  | m :: p, d => by
    have h := addAll_len p (addP d m.1 m.2)
    have h3 : (addP d m.1 m.2).length ≤ d.length + 1 := set_len d m.1 ((lookP d m.1).getD 0 + m.2)
    show (addAll (addP d m.1 m.2) p).length ≤ d.length + (p.length + 1)
    omega
abbrev dI (d : Pl) : Ob := .dN (d.map (eG eI))
theorem get_mid {b0 g : Store} {d : Pl} {e : Rat → T} {k : PKey} {u : T} : getOrT (.ref b0.length) [kT k, u] (b0 ++ .dN (d.map (eG e)) :: g) = some (((lookP d k).map e).getD u, b0 ++ .dN (d.map (eG e)) :: g) := get_d mid_get
theorem isD_mid {b0 g : Store} {d : Pl} {e : Rat → T} : isTyX "dict" (.ref b0.length) (b0 ++ .dN (d.map (eG e)) :: g) = true := isDict mid_get
def mFi (j : Nat) : Its1 := fun s => match s[j]? with
  | some (.lst ts) => some ts
  | _ => none
theorem mFi_at {j : Nat} {s : Store} {ts : List T} (h : s[j]? = some (.lst ts)) : mFi j s = some ts := by
  unfold mFi
  rw [h]
theorem fi_seq {f : XE} {e : Env1} {st s1 : Store} {l : Nat} {ts : List T} (h : f e st = some (.ref l, s1)) (hl : s1[l]? = some (.lst ts)) : xiSeq f e st = some (mFi l, s1) := by
  unfold xiSeq
  rw [h]
  simp only [Option.bind_some, hl] <;> rfl
abbrev mIn : XS := xsSeq (xsSet 10 (xCall tupleT (xCons (xLc (xiZip (xVar 6) (xVar 8)) (xgTup 2 (xgsCons (xgName 11) (xgsCons (xgName 12) xgsNil))) [11, 12] xYes (xBin addT (xVar 11) (xVar 12))) xNil)))
    (xsAsg (xBin addT (xMethX "dict" getOrT (xVar 5) (xCons (xVar 10) (xCons (xC (.int 0)) xNil))) (xBin mulT (xVar 7) (xVar 9))) (xgSubA (xVar 5) (xVar 10)))
abbrev mEnv (t1 t2 : T) (L1 L2 : Nat) (lq ld : Nat) (o6 o7 o8 o9 o10 : Option T) : Env1 := [some t1, some t2, some (.int (L1 : Int)), some (.int (L2 : Int)), some (.ref lq), some (.ref ld), o6, o7, o8, o9, o10, none, none]
theorem num_lt {D B : Nat} {x : Rat} (h : FrB 1 B x) (hB : B < 2 ^ 1200) : x.num.natAbs < 2 ^ 1200 := (h.sz (k := 1200) (by decide) (by decide) hB).n
/-- one turn inside -/
theorem m_turn {t1 t2 : T} {L1 L2 lq : Nat} {b0 g : Store} {d : Pl} {a b : Mb} {o8 o9 o10 : Option T} {B : Nat} (hl : a.1.length ≤ 1000) (hz : d.length < 1000) (hd : Whole d) (ha : ∃ z : Int, a.2 = (z : Rat)) (hb : ∃ z : Int, b.2 = (z : Rat)) (sa : a.2.num.natAbs < 2 ^ 1200) (sb : b.2.num.natAbs < 2 ^ 1200) :
    ∃ g', mIn (mEnv t1 t2 L1 L2 lq b0.length (some (kT a.1)) (some (eI a.2)) (some (kT b.1)) (some (eI b.2)) o10) (b0 ++ dI d :: g) = some (.nx (mEnv t1 t2 L1 L2 lq b0.length (some (kT a.1)) (some (eI a.2)) (some (kT b.1)) (some (eI b.2)) (some (kT (addK a.1 b.1)))) (b0 ++ dI (addP d (addK a.1 b.1) (a.2 * b.2)) :: (g ++ g'))) :=
  turn_mul (eV := eI) (x := a.2 * b.2) (iD := 5) (iK := 10) (i := 6) (j := 8) (c1 := 11) (c2 := 12) rfl rfl rfl (by simp) (by decide) (by simp) (by simp) (by decide) hl hz fun g => by
    have hbt : bitsOk a.2.num b.2.num = true := bits_of sa sb (by decide)
    have hg := get_mid (b0 := b0) (g := g) (d := d) (e := eI) (k := addK a.1 b.1) (u := .int 0)
    rw [getD_eI] at hg
    have hn := num_sum (whole_look hd (addK a.1 b.1)) ha hb
    simp only [mEnv, List.set_cons_succ, List.set_cons_zero, r_xBin, xMethX, r_xVar, List.getElem?_cons_succ, List.getElem?_cons_zero, Option.bind_some, isD_mid, if_true, r_xCons, r_xC, r_xNil, hg, r_mul, hbt, r_add, hn]
theorem m_inner {t1 t2 : T} {L1 L2 : Nat} {st g : Store} {P Q : Pl} {i n : Nat} {a : Mb} {o8 o9 o10 : Option T} (ha : P[i]? = some a) (hw : Wide n (mulL P Q)) (hwP : Wide n P) (hn : n ≤ 1000) (hP : Whole P) (hQ : Whole Q) (sP : ∀ m ∈ P, m.2.num.natAbs < 2 ^ 1200) (sQ : ∀ m ∈ Q, m.2.num.natAbs < 2 ^ 1200) (hl : P.length * Q.length < 1000) :
    ∃ u8 u9 u10 g', xsFor (xiSeq (xVar 4)) (xgTup 2 (xgsCons (xgName 8) (xgsCons (xgName 9) xgsNil))) mIn (mEnv t1 t2 L1 L2 st.length (st ++ [Ob.lst (Q.map wT)]).length (some (kT a.1)) (some (eI a.2)) o8 o9 o10) ((st ++ [Ob.lst (Q.map wT)]) ++ dI (addAll [] (mulL (P.take i) Q)) :: g)
      = some (.nx (mEnv t1 t2 L1 L2 st.length (st ++ [Ob.lst (Q.map wT)]).length (some (kT a.1)) (some (eI a.2)) u8 u9 u10) ((st ++ [Ob.lst (Q.map wT)]) ++ dI (addAll [] (mulL (P.take (i + 1)) Q)) :: (g ++ g'))) := by
  have hi := (List.getElem?_eq_some_iff.mp ha).1
  have hm := List.mem_of_getElem? ha
  have hq : ∀ d g, ((st ++ [Ob.lst (Q.map wT)]) ++ dI d :: g)[st.length]? = some (Ob.lst (Q.map wT)) := fun d g => getA last_get
  obtain ⟨e', s', h1, o8, o9, o10, g', rfl, rfl, _⟩ := for_enc (fi := xiSeq (xVar 4)) (g := xgTup 2 (xgsCons (xgName 8) (xgsCons (xgName 9) xgsNil))) (b := mIn)
    (e := mEnv t1 t2 L1 L2 st.length (st ++ [Ob.lst (Q.map wT)]).length (some (kT a.1)) (some (eI a.2)) o8 o9 o10) (st := (st ++ [Ob.lst (Q.map wT)]) ++ dI (addAll [] (mulL (P.take i) Q)) :: g) (s1 := (st ++ [Ob.lst (Q.map wT)]) ++ dI (addAll [] (mulL (P.take i) Q)) :: g)
    (it := mFi st.length) (qs := Q) wT
    (fun j e s => ∃ o8 o9 o10 g', e = mEnv t1 t2 L1 L2 st.length (st ++ [Ob.lst (Q.map wT)]).length (some (kT a.1)) (some (eI a.2)) o8 o9 o10 ∧ s = (st ++ [Ob.lst (Q.map wT)]) ++ dI (addAll [] (farL P Q i j)) :: (g ++ g') ∧ j ≤ Q.length)
    (fi_seq (by simp [mEnv]) (hq _ _))
    (fun k e s h => by
      obtain ⟨o8, o9, o10, g', rfl, rfl, _⟩ := h
      exact mFi_at (hq _ _))
    ⟨o8, o9, o10, [], rfl, by rw [far_zero, List.append_nil], Nat.zero_le _⟩
    (fun j e s b hb h => by
      obtain ⟨o8, o9, o10, g', rfl, rfl, hj⟩ := h
      have hjl := (List.getElem?_eq_some_iff.mp hb).1
      have hbm := List.mem_of_getElem? hb
      have hfar : Whole (farL P Q i j) := fun m hm => whole_mul hP hQ m (far_mem m hm)
      have hlen : (addAll [] (farL P Q i j)).length < 1000 := by
        have h2 := addAll_len (farL P Q i j) []
        have h3 := far_len (p := P) (q := Q) hi hj
        simp only [List.length_nil] at h2
        omega
      obtain ⟨g2, h2⟩ := m_turn (t1 := t1) (t2 := t2) (L1 := L1) (L2 := L2) (lq := st.length) (b0 := st ++ [Ob.lst (Q.map wT)]) (g := g ++ g') (d := addAll [] (farL P Q i j)) (a := a) (b := b) (o8 := some (kT b.1)) (o9 := some (eI b.2)) (o10 := o10) (B := 0) (by rw [hwP a hm]; exact hn) hlen (whole_addAll (fun m hm => by cases hm) hfar) (hP a hm) (hQ b hbm) (sP a hm) (sQ b hbm)
      refine ⟨mEnv t1 t2 L1 L2 st.length (st ++ [Ob.lst (Q.map wT)]).length (some (kT a.1)) (some (eI a.2)) (some (kT b.1)) (some (eI b.2)) o10, _, _, _, by simp [xgTup, xgsCons, xgsNil, wT, mEnv], h2, _, _, _, g' ++ g2, rfl, ?_, by omega⟩
      rw [far_step ha hb, addAll_app, List.append_assoc g g' g2]
      rfl)
  rw [far_full hi] at h1
  exact ⟨_, _, _, _, h1⟩
theorem next_get {b0 g : Store} {o o2 : Ob} : (b0 ++ o :: o2 :: g)[b0.length + 1]? = some o2 := by
  rw [List.getElem?_append_right (by omega)]
  have : b0.length + 1 - b0.length = 1 := by omega
  rw [this]; rfl
theorem m_outer {t1 t2 : T} {L1 L2 : Nat} {st : Store} {P Q : Pl} {n : Nat} {e : Env1} {s0 : Store} {fi : XI} (he : e = mEnv t1 t2 L1 L2 st.length (st ++ [Ob.lst (Q.map wT)]).length none none none none none)
    (hfi : fi e s0 = some (mFi ((st ++ [Ob.lst (Q.map wT)]).length + 1), (st ++ [Ob.lst (Q.map wT)]) ++ dI [] :: [Ob.lst (P.map wT)]))
    (hw : Wide n (mulL P Q)) (hwP : Wide n P) (hn : n ≤ 1000) (hP : Whole P) (hQ : Whole Q) (sP : ∀ m ∈ P, m.2.num.natAbs < 2 ^ 1200) (sQ : ∀ m ∈ Q, m.2.num.natAbs < 2 ^ 1200) (hl : P.length * Q.length < 1000) :
    ∃ o6 o7 o8 o9 o10 g', xsFor fi (xgTup 2 (xgsCons (xgName 6) (xgsCons (xgName 7) xgsNil))) (xsFor (xiSeq (xVar 4)) (xgTup 2 (xgsCons (xgName 8) (xgsCons (xgName 9) xgsNil))) mIn) e s0
      = some (.nx (mEnv t1 t2 L1 L2 st.length (st ++ [Ob.lst (Q.map wT)]).length o6 o7 o8 o9 o10) ((st ++ [Ob.lst (Q.map wT)]) ++ dI (addAll [] (mulL P Q)) :: g')) := by
  obtain ⟨e', s', h1, o6, o7, o8, o9, o10, g', rfl, rfl, _⟩ := for_enc (fi := fi) (g := xgTup 2 (xgsCons (xgName 6) (xgsCons (xgName 7) xgsNil))) (b := xsFor (xiSeq (xVar 4)) (xgTup 2 (xgsCons (xgName 8) (xgsCons (xgName 9) xgsNil))) mIn)
    (e := e) (st := s0) (s1 := (st ++ [Ob.lst (Q.map wT)]) ++ dI [] :: [Ob.lst (P.map wT)])
    (it := mFi ((st ++ [Ob.lst (Q.map wT)]).length + 1)) (qs := P) wT
    (fun i e s => ∃ o6 o7 o8 o9 o10 g', e = mEnv t1 t2 L1 L2 st.length (st ++ [Ob.lst (Q.map wT)]).length o6 o7 o8 o9 o10 ∧ s = (st ++ [Ob.lst (Q.map wT)]) ++ dI (addAll [] (mulL (P.take i) Q)) :: Ob.lst (P.map wT) :: g' ∧ i ≤ P.length)
    hfi
    (fun k e s h => by
      obtain ⟨o6, o7, o8, o9, o10, g', rfl, rfl, _⟩ := h
      exact mFi_at next_get)
    ⟨none, none, none, none, none, [], he, rfl, Nat.zero_le _⟩
    (fun i e s a ha h => by
      obtain ⟨o6, o7, o8, o9, o10, g', rfl, rfl, hi⟩ := h
      have hil := (List.getElem?_eq_some_iff.mp ha).1
      obtain ⟨u8, u9, u10, g2, h2⟩ := m_inner (t1 := t1) (t2 := t2) (L1 := L1) (L2 := L2) (st := st) (g := Ob.lst (P.map wT) :: g') (o8 := o8) (o9 := o9) (o10 := o10) ha hw hwP hn hP hQ sP sQ hl
      refine ⟨mEnv t1 t2 L1 L2 st.length (st ++ [Ob.lst (Q.map wT)]).length (some (kT a.1)) (some (eI a.2)) o8 o9 o10, _, _, _, by simp [xgTup, xgsCons, xgsNil, wT, mEnv], h2, _, _, _, _, _, g' ++ g2, rfl, rfl, by omega⟩)
  rw [List.take_length] at h1
  exact ⟨_, _, _, _, _, _, h1⟩
/-! ### what the ints come to -/
theorem keysAt_d (e : Rat → T) (d : Pl) : keysAt (.lkN (d.map (eG e))) = some (d.map fun m => kT m.1) := by
  show some ((d.map (eG e)).map (·.1)) = _
  rw [List.map_map]; rfl
theorem reduced_w {x : Rat} {L : Nat} {s : Store} (hx : ∃ z : Int, x = (z : Rat)) (h0 : L ≠ 0) (hL : L < 2 ^ 1200) : S_reduced [.int x.num, .int (L : Int)] s = some (fq (x * (1 / (L : Rat))), s) := by
  obtain ⟨z, rfl⟩ := hx
  have hne : (L : Int) ≠ 0 := by omega
  have hlog : (L : Int).natAbs.log2 < 9000 := by rw [Int.natAbs_natCast]; have := log2_of hL; omega
  show (if _ then some (fr (nf _ _), _) else none) = _
  rw [if_pos ⟨hne, hlog⟩, nf_rat hne, Rat.num_intCast, Rat.divInt_eq_div, Rat.intCast_natCast, Rat.div_def, Rat.div_def, Rat.one_mul]
theorem nums_dict {t1 t2 : T} {L1 L2 lq : Nat} {b0 g : Store} {d : Pl} {o6 o7 o8 o9 o10 : Option T} (hd : Whole d) (hn : (keys d).Nodup) (hl : d.length ≤ 1000) (h0 : L1 * L2 ≠ 0) (hL : L1 * L2 < 2 ^ 1200) (hL1 : L1 < 2 ^ 1200) (hL2 : L2 < 2 ^ 1200) :
    xLock 5 (xDcN (xiDict (xVar 5)) (xgName 6) [6] xYes (xVar 6) (xCall S_reduced (xCons (xBin ixB (xVar 5) (xVar 6)) (xCons (xBin mulT (xVar 2) (xVar 3)) xNil)))) (mEnv t1 t2 L1 L2 lq b0.length o6 o7 o8 o9 o10) (b0 ++ dI d :: g)
      = some (.ref (b0 ++ dI d :: g).length, b0 ++ dI d :: (g ++ [dT (sclL d (1 / ((L1 * L2 : Nat) : Rat)))])) := by
  have hlk : ∀ x, ((b0 ++ Ob.lkN (d.map (eG eI)) :: g) ++ [x])[b0.length]? = some (Ob.lkN (d.map (eG eI))) := fun x => by rw [mid_app]; exact mid_get
  have hbt : bitsOk (L1 : Int) (L2 : Int) = true := bits_of (k := 1200) (by rw [Int.natAbs_natCast]; exact hL1) (by rw [Int.natAbs_natCast]; exact hL2) (by decide)
  have h := dcN_enc (st := b0 ++ Ob.lkN (d.map (eG eI)) :: g) (s1 := b0 ++ Ob.lkN (d.map (eG eI)) :: g) (fi := xiDict (xVar 5)) (g := xgName 6) (vs := [6]) (tk := xVar 6) (tv := xCall S_reduced (xCons (xBin ixB (xVar 5) (xVar 6)) (xCons (xBin mulT (xVar 2) (xVar 3)) xNil))) (e := mEnv t1 t2 L1 L2 lq b0.length o6 o7 o8 o9 o10) (qs := d) (it := fun s => (s[b0.length]?).bind keysAt) (fun m => kT m.1) (fun m => kT m.1) (fun m => fq (m.2 * (1 / ((L1 * L2 : Nat) : Rat)))) (fun m => kN m.1) (fun m => mEnv t1 t2 L1 L2 lq b0.length (some (kT m.1)) o7 o8 o9 o10)
    (by simp only [xiDict, r_xVar, mEnv, List.getElem?_cons_succ, List.getElem?_cons_zero, Option.bind_some, mid_get, keysAt_d, Option.map_some])
    (fun kvs => by simp only [hlk, Option.bind_some, keysAt_d]) hl
    (fun m hm kvs => rfl) (fun m hm kvs => rfl) (fun m hm => ⟨kN_of m.1, rfl⟩)
    (fun m hm kvs => by
      have hix : ∀ s : Store, s[b0.length]? = some (Ob.lkN (d.map (eG eI))) → ixB (.ref b0.length) (kT m.1) s = some (eI m.2, s) := fun s hs => by
        simp only [ixB, dAt, hs, Option.map_some, isTup_k, if_true, kN_of, Option.bind_some, look_t, look_of hn hm]
      have hr := reduced_w (x := m.2) (L := L1 * L2) (s := (b0 ++ Ob.lkN (d.map (eG eI)) :: g) ++ [.dN kvs]) (hd m hm) h0 hL
      rw [Int.natCast_mul] at hr
      simp only [mEnv, r_xCall, r_xCons, r_xBin, r_xVar, List.getElem?_cons_succ, List.getElem?_cons_zero, Option.bind_some, hix _ (hlk _), r_mul, hbt, if_true, r_xNil, hr])
  have e2 := fold_set eF (sclL d (1 / ((L1 * L2 : Nat) : Rat))) []
  rw [List.map_nil, setAll_new (d := []) (by show (keys (sclL d _)).Nodup; rw [keys_scl]; exact hn), List.nil_append] at e2
  unfold sclL at e2
  rw [List.foldl_map] at e2
  unfold xLock
  have hsz : (b0 ++ Ob.lkN (d.map (eG eI)) :: g).length = (b0 ++ dI d :: g).length := by simp
  show (match (some (some (T.ref b0.length))) with | some (some (.ref l)) => _ | _ => none) = _
  simp only [mid_get, Option.bind_some, lockO, mid_set, h, mid_app, freeO, Option.map_some, hsz]
  unfold sclL
  rw [show (d.foldl (fun kvs q => storeD kvs (kT q.1) (kN q.1) (fq (q.2 * (1 / ((L1 * L2 : Nat) : Rat))))) []) = _ from e2]
theorem FrB.less {L c B : Nat} {x : Rat} (h : FrB (L * c) B x) (hx : x.den ∣ L) (hc : 0 < c) : FrB L B x := by
  obtain ⟨z, a, b⟩ := h
  have hw := whole_at hx
  refine ⟨_, hw, ?_⟩
  have e : (z : Rat) = ((x.num * ((L / x.den : Nat) : Int) * (c : Int) : Int) : Rat) := by
    rw [← a, Rat.intCast_mul, ← hw, Rat.natCast_mul, Rat.intCast_natCast]; grind
  have e2 : z = x.num * ((L / x.den : Nat) : Int) * (c : Int) := Rat.intCast_inj.mp e
  rw [e2, Int.natAbs_mul, Int.natAbs_natCast] at b
  exact Nat.le_trans (Nat.le_mul_of_pos_right _ hc) b
theorem FrB.one {L B : Nat} {x : Rat} (h : FrB L B x) : FrB 1 B (x * (L : Rat)) := by
  obtain ⟨z, a, b⟩ := h
  exact ⟨z, by rw [a]; grind, b⟩
theorem scl_one {n D B N : Nat} {p : Pl} (h : PB n D B N p) (hD : 0 < D) : PB n 1 B N (sclL p ((lcmQ (p.map (·.2)) : Nat) : Rat)) := by
  refine ⟨wide_scl h.w, fun m hm => ?_, by unfold sclL; rw [List.length_map]; exact h.l⟩
  obtain ⟨a, ha, rfl⟩ := List.mem_map.mp hm
  have hd : lcmQ (p.map (·.2)) ∣ D := lcmQ_divides hD _ fun q hq => by
    obtain ⟨b, hb, rfl⟩ := List.mem_map.mp hq
    exact (h.f b hb).den hD
  obtain ⟨c, rfl⟩ := hd
  exact ((h.f a ha).less (lcmQ_dvd (List.mem_map.mpr ⟨a, ha, rfl⟩)) (Nat.pos_of_ne_zero fun e => by rw [e, Nat.mul_zero] at hD; omega)).one
end
end K03
/-! R10 -/
set_option Elab.async false
set_option linter.all false
set_option maxRecDepth 100000
set_option maxHeartbeats 4000000
set_option exponentiation.threshold 4000
/-! products, by the package and by the law -/
namespace K03
open PySem PySem.Spec PyProof.Rows L2 TL LamX Poly
noncomputable section
variable [Tb]
theorem phi_mul_scl (f : PKey → Rat) (p q : Pl) (x y : Rat) : Phi (mulL (sclL p x) (sclL q y)) f = Phi (mulL p q) f * (x * y) := by
  rw [phi_mul, phi_mul, phi_scl]
  have : Phi p (fun a => Phi (sclL q y) (fun b => f (addK a b))) = Phi p (fun a => Phi q (fun b => f (addK a b)) * y) := phi_congr fun m _ => phi_scl _ _ _
  rw [this, phi_times]; grind
theorem nums_canon (p q : Pl) {L1 L2 : Nat} (h1 : L1 ≠ 0) (h2 : L2 ≠ 0) : canon (sclL (addAll [] (mulL (sclL p (L1 : Rat)) (sclL q (L2 : Rat)))) (1 / ((L1 * L2 : Nat) : Rat))) = nrm (mulL p q) := by
  have hn : (keys (sclL (addAll [] (mulL (sclL p (L1 : Rat)) (sclL q (L2 : Rat)))) (1 / ((L1 * L2 : Nat) : Rat)))).Nodup := by rw [keys_scl]; exact addAll_nodup nodup_nil
  refine can_one (canon_can hn) (nrm_can _) fun f => ?_
  rw [canon_same hn, phi_scl, phi_addAll f nodup_nil, phi_nil, nrm_same, phi_mul_scl, Rat.natCast_mul]
  have e1 : (L1 : Rat) ≠ 0 := fun e => h1 (Rat.natCast_eq_zero_iff.mp e)
  have e2 : (L2 : Rat) ≠ 0 := fun e => h2 (Rat.natCast_eq_zero_iff.mp e)
  generalize Phi (mulL p q) f = x
  generalize (L1 : Rat) = a at *
  generalize (L2 : Rat) = b at *
  grind
theorem multiplied_ok {t1 t2 : T} {p q : Pl} {st : Store} {n D B N E C M : Nat} (h1 : IsP t1 p) (h2 : IsP t2 q) (hp : PB n D B N p) (hq : PB n E C M q) (hD : 0 < D) (hE : 0 < E) (kD : D < 2 ^ 1200) (kE : E < 2 ^ 1200) (kDE : D * E < 2 ^ 1200) (kB : B < 2 ^ 1200) (kC : C < 2 ^ 1200) (hn : n ≤ 1000) (hN : N ≤ 1000) (hM : M ≤ 1000) (hl : N * M < 1000) :
    S_multiplied [t1, t2] st = some (plT (nrm (mulL p q)), st) := by
  have dp : ∀ m ∈ p, m.2.den ∣ D := fun m hm => (hp.f m hm).den hD
  have dq : ∀ m ∈ q, m.2.den ∣ E := fun m hm => (hq.f m hm).den hE
  have c1 := den_ok (st := st) h1 hD kD dp
  have c2 := den_ok (st := st) h2 hE kE dq
  have dvp : lcmQ (p.map (·.2)) ∣ D := lcmQ_divides hD _ fun r hr => by obtain ⟨b, hb, rfl⟩ := List.mem_map.mp hr; exact dp b hb
  have dvq : lcmQ (q.map (·.2)) ∣ E := lcmQ_divides hE _ fun r hr => by obtain ⟨b, hb, rfl⟩ := List.mem_map.mp hr; exact dq b hb
  have dip : ∀ m ∈ p, m.2.den ∣ lcmQ (p.map (·.2)) := fun m hm => lcmQ_dvd (List.mem_map.mpr ⟨m, hm, rfl⟩)
  have diq : ∀ m ∈ q, m.2.den ∣ lcmQ (q.map (·.2)) := fun m hm => lcmQ_dvd (List.mem_map.mpr ⟨m, hm, rfl⟩)
  have op : 0 < lcmQ (p.map (·.2)) := Nat.pos_of_dvd_of_pos dvp hD
  have oq : 0 < lcmQ (q.map (·.2)) := Nat.pos_of_dvd_of_pos dvq hE
  have lp := Nat.le_of_dvd hD dvp
  have lq := Nat.le_of_dvd hE dvq
  have bP := scl_one hp hD
  have bQ := scl_one hq hE
  have wP : Whole (sclL p ((lcmQ (p.map (·.2)) : Nat) : Rat)) := whole_scl dip
  have wQ : Whole (sclL q ((lcmQ (q.map (·.2)) : Nat) : Rat)) := whole_scl diq
  have sz1 : ∀ m ∈ p, Sz 1200 m.2 := fun m hm => (hp.f m hm).sz hD kD kB
  have sz2 : ∀ m ∈ q, Sz 1200 m.2 := fun m hm => (hq.f m hm).sz hE kE kC
  have mP : ∀ s, F_whole_members [t1, .int ((lcmQ (p.map (·.2)) : Nat) : Int)] s = _ := fun s => members_ok (st := s) (D := D) h1 (Nat.le_trans hp.l hN) (Nat.lt_of_le_of_lt lp kD) op fun m hm => ⟨dip m hm, sz1 m hm⟩
  have mQ : ∀ s, F_whole_members [t2, .int ((lcmQ (q.map (·.2)) : Nat) : Int)] s = _ := fun s => members_ok (st := s) (D := D) h2 (Nat.le_trans hq.l hM) (Nat.lt_of_le_of_lt lq kE) oq fun m hm => ⟨diq m hm, sz2 m hm⟩
  have hc := nums_canon p q (Nat.pos_iff_ne_zero.mp op) (Nat.pos_iff_ne_zero.mp oq)
  have lP : (sclL p ((lcmQ (p.map (·.2)) : Nat) : Rat)).length ≤ N := bP.l
  have lQ : (sclL q ((lcmQ (q.map (·.2)) : Nat) : Rat)).length ≤ M := bQ.l
  have hL12 : lcmQ (p.map (·.2)) * lcmQ (q.map (·.2)) < 2 ^ 1200 := Nat.lt_of_le_of_lt (Nat.mul_le_mul lp lq) kDE
  have hL0 : lcmQ (p.map (·.2)) * lcmQ (q.map (·.2)) ≠ 0 := Nat.pos_iff_ne_zero.mp (Nat.mul_pos op oq)
  generalize lcmQ (p.map (·.2)) = L1 at *
  generalize lcmQ (q.map (·.2)) = L2 at *
  have wPQ := wide_mul bP.w bQ.w
  have lPQ : (sclL p (L1 : Rat)).length * (sclL q (L2 : Rat)).length ≤ N * M := Nat.mul_le_mul lP lQ
  have hlen : ((st ++ [Ob.lst ((sclL q (L2 : Rat)).map wT)]) ++ [Ob.dN []]).length = (st ++ [Ob.lst ((sclL q (L2 : Rat)).map wT)]).length + 1 := by simp
  obtain ⟨o6, o7, o8, o9, o10, g', hf⟩ := m_outer (t1 := t1) (t2 := t2) (L1 := L1) (L2 := L2) (st := st) (P := sclL p (L1 : Rat)) (Q := sclL q (L2 : Rat)) (fi := xiSeq (xCall F_whole_members (xCons (xVar 0) (xCons (xVar 2) xNil)))) (s0 := (st ++ [Ob.lst ((sclL q (L2 : Rat)).map wT)]) ++ [Ob.dN []]) rfl
    (by
      have := mP ((st ++ [Ob.lst ((sclL q (L2 : Rat)).map wT)]) ++ [Ob.dN []])
      rw [hlen] at this
      have hg : (((st ++ [Ob.lst ((sclL q (L2 : Rat)).map wT)]) ++ [Ob.dN []]) ++ [Ob.lst ((sclL p (L1 : Rat)).map wT)])[(st ++ [Ob.lst ((sclL q (L2 : Rat)).map wT)]).length + 1]? = some (Ob.lst ((sclL p (L1 : Rat)).map wT)) := by
        rw [← hlen]; exact last_get
      refine (fi_seq (by simp only [mEnv, r_xCall, r_xCons, r_xVar, List.getElem?_cons_succ, List.getElem?_cons_zero, Option.bind_some, r_xNil]; exact this) hg).trans ?_
      rw [mid_app]
      rfl)
    wPQ bP.w hn wP wQ (fun m hm => num_lt (D := D) (bP.f m hm) kB) (fun m hm => num_lt (D := D) (bQ.f m hm) kC) (Nat.lt_of_le_of_lt lPQ hl)
  have hwd : Whole (addAll [] (mulL (sclL p (L1 : Rat)) (sclL q (L2 : Rat)))) := whole_addAll (fun m hm => by cases hm) (whole_mul wP wQ)
  have hnd : (keys (addAll [] (mulL (sclL p (L1 : Rat)) (sclL q (L2 : Rat))))).Nodup := addAll_nodup nodup_nil
  have hdl : (addAll [] (mulL (sclL p (L1 : Rat)) (sclL q (L2 : Rat)))).length ≤ 1000 := by
    have := addAll_len (mulL (sclL p (L1 : Rat)) (sclL q (L2 : Rat))) []
    rw [mul_len] at this
    simp only [List.length_nil] at this
    omega
  have hww : Wide n (addAll [] (mulL (sclL p (L1 : Rat)) (sclL q (L2 : Rat)))) := keys_wide.mp (keys_addAll (by intro k hk; cases hk) wPQ)
  generalize addAll [] (mulL (sclL p (L1 : Rat)) (sclL q (L2 : Rat))) = d at *
  have hnu := nums_dict (t1 := t1) (t2 := t2) (lq := st.length) (b0 := st ++ [Ob.lst ((sclL q (L2 : Rat)).map wT)]) (g := g') (o6 := o6) (o7 := o7) (o8 := o8) (o9 := o9) (o10 := o10) hwd hnd hdl hL0 hL12 (Nat.lt_of_le_of_lt lp kD) (Nat.lt_of_le_of_lt lq kE)
  have hga := gathered_ok (st := (st ++ [Ob.lst ((sclL q (L2 : Rat)).map wT)]) ++ dI d :: (g' ++ [dT (sclL d (1 / ((L1 * L2 : Nat) : Rat)))])) (l := ((st ++ [Ob.lst ((sclL q (L2 : Rat)).map wT)]) ++ dI d :: g').length) (n := n) (d := sclL d (1 / ((L1 * L2 : Nat) : Rat))) (by rw [← mid_app]; exact last_get) (wide_scl hww) (by rw [keys_scl]; exact hnd) (by unfold sclL; rw [List.length_map]; exact hdl)
  rw [hc] at hga
  refine cut_pure (g := [Ob.lst ((sclL q (L2 : Rat)).map wT)] ++ dI d :: (g' ++ [dT (sclL d (1 / ((L1 * L2 : Nat) : Rat)))])) (fn_ret rfl ?_) (below_T _ _)
  refine sq (e' := [some t1, some t2, some (.int (L1 : Int)), some (.int (L2 : Int)), none, none, none, none, none, none, none, none, none]) (st' := st) ?_ ?_
  · simp [c1, c2, xgTup, xgsCons, xgsNil]
  refine sq (e' := [some t1, some t2, some (.int (L1 : Int)), some (.int (L2 : Int)), some (.ref st.length), none, none, none, none, none, none, none, none]) (st' := st ++ [Ob.lst ((sclL q (L2 : Rat)).map wT)]) ?_ ?_
  · simp [mQ]
  refine sq (e' := mEnv t1 t2 L1 L2 st.length (st ++ [Ob.lst ((sclL q (L2 : Rat)).map wT)]).length none none none none none) (st' := (st ++ [Ob.lst ((sclL q (L2 : Rat)).map wT)]) ++ [Ob.dN []]) rfl ?_
  refine sq hf ?_
  rw [r_xsRet, r_xCall, r_xCons, hnu]
  simp only [Option.bind_some, r_xNil, hga, Option.map_some]
  rw [List.append_assoc]
end
end K03
/-! R11 -/
set_option Elab.async false
set_option linter.all false
set_option maxRecDepth 100000
set_option maxHeartbeats 4000000
set_option exponentiation.threshold 4000
/-! products by the law; units; powers -/
namespace K03
open PySem PySem.Spec PyProof.Rows L2 TL LamX Poly
noncomputable section
variable [Tb]
abbrev lIn : XS := xsSeq (xsSet 7 (xCall tupleT (xCons (xLc (xiZip (xVar 3) (xVar 5)) (xgTup 2 (xgsCons (xgName 8) (xgsCons (xgName 9) xgsNil))) [8, 9] xYes (xBin addT (xVar 8) (xVar 9))) xNil)))
    (xsAsg (xCall S__law_added (xCons (xMethX "dict" getOrT (xVar 2) (xCons (xVar 7) (xCons (xCall tupT (xCons (xC (.int 0)) (xCons (xC (.int 1)) xNil))) xNil))) (xCons (xCall S__law_times (xCons (xVar 4) (xCons (xVar 6) xNil))) xNil))) (xgSubA (xVar 2) (xVar 7)))
abbrev lEnv (t1 t2 : T) (ld : Nat) (o3 o4 o5 o6 o7 : Option T) : Env1 := [some t1, some t2, some (.ref ld), o3, o4, o5, o6, o7, none, none]
theorem l_turn {t1 t2 : T} {b0 g : Store} {d : Pl} {a b : Mb} {o7 : Option T} (hl : a.1.length ≤ 1000) (hz : d.length < 1000) (hs : ∀ k, Sz 1200 ((lookP d k).getD 0)) (ha : Sz 1200 a.2) (hb : Sz 1200 b.2) (hab : Sz 1200 (a.2 * b.2)) :
    ∃ g', lIn (lEnv t1 t2 b0.length (some (kT a.1)) (some (fq a.2)) (some (kT b.1)) (some (fq b.2)) o7) (b0 ++ dT d :: g) = some (.nx (lEnv t1 t2 b0.length (some (kT a.1)) (some (fq a.2)) (some (kT b.1)) (some (fq b.2)) (some (kT (addK a.1 b.1)))) (b0 ++ dT (addP d (addK a.1 b.1) (a.2 * b.2)) :: (g ++ g'))) :=
  turn_mul (eV := eF) (x := a.2 * b.2) (iD := 2) (iK := 7) (i := 3) (j := 5) (c1 := 8) (c2 := 9) rfl rfl rfl (by simp) (by decide) (by simp) (by simp) (by decide) hl hz fun g => by
    have hg := get_mid (b0 := b0) (g := g) (d := d) (e := eF) (k := addK a.1 b.1) (u := .tup [.int 0, .int 1])
    rw [getD_fq] at hg
    have ht : ∀ s, S__law_times [fq a.2, fq b.2] s = some (fq (a.2 * b.2), s) := fun s => q_times ha hb (by decide)
    have hd : ∀ s, S__law_added [fq ((lookP d (addK a.1 b.1)).getD 0), fq (a.2 * b.2)] s = some (fq ((lookP d (addK a.1 b.1)).getD 0 + a.2 * b.2), s) := fun s => q_added (hs _) hab (by decide)
    simp only [lEnv, List.set_cons_succ, List.set_cons_zero, r_xCall, xMethX, r_xVar, List.getElem?_cons_succ, List.getElem?_cons_zero, Option.bind_some, isD_mid, if_true, r_xCons, r_xC, r_xNil, r_tup, List.length_cons, List.length_nil, sz2, hg, ht, hd]
theorem l_inner {t1 t2 : T} {st g : Store} {P Q : Pl} {i n D B : Nat} {a : Mb} {o5 o6 o7 : Option T} (h2 : IsP t2 Q) (ha : P[i]? = some a) (hw : Wide n (mulL P Q)) (hwP : Wide n P) (hn : n ≤ 1000) (hf : ∀ m ∈ mulL P Q, FrB D B m.2) (sP : ∀ m ∈ P, Sz 1200 m.2) (sQ : ∀ m ∈ Q, Sz 1200 m.2) (hD : 0 < D) (kD : D < 2 ^ 1200) (kB : P.length * Q.length * B < 2 ^ 1200) (hl : P.length * Q.length < 1000) :
    ∃ u5 u6 u7 g', xsFor (xiSeq (xVar 1)) (xgTup 2 (xgsCons (xgName 5) (xgsCons (xgName 6) xgsNil))) lIn (lEnv t1 t2 st.length (some (kT a.1)) (some (fq a.2)) o5 o6 o7) (st ++ dT (addAll [] (mulL (P.take i) Q)) :: g)
      = some (.nx (lEnv t1 t2 st.length (some (kT a.1)) (some (fq a.2)) u5 u6 u7) (st ++ dT (addAll [] (mulL (P.take (i + 1)) Q)) :: (g ++ g'))) := by
  have hi := (List.getElem?_eq_some_iff.mp ha).1
  have hm := List.mem_of_getElem? ha
  obtain ⟨e', s', h1, o5, o6, o7, g', rfl, rfl, _⟩ := for_enc (fi := xiSeq (xVar 1)) (g := xgTup 2 (xgsCons (xgName 5) (xgsCons (xgName 6) xgsNil))) (b := lIn)
    (e := lEnv t1 t2 st.length (some (kT a.1)) (some (fq a.2)) o5 o6 o7) (st := st ++ dT (addAll [] (mulL (P.take i) Q)) :: g) (s1 := st ++ dT (addAll [] (mulL (P.take i) Q)) :: g)
    (it := fun _ => some (Q.map mT)) (qs := Q) mT
    (fun j e s => ∃ o5 o6 o7 g', e = lEnv t1 t2 st.length (some (kT a.1)) (some (fq a.2)) o5 o6 o7 ∧ s = st ++ dT (addAll [] (farL P Q i j)) :: (g ++ g') ∧ j ≤ Q.length)
    (seq_p h2 rfl) (fun k e s h => rfl)
    ⟨o5, o6, o7, [], rfl, by rw [far_zero, List.append_nil], Nat.zero_le _⟩
    (fun j e s b hb h => by
      obtain ⟨o5, o6, o7, g', rfl, rfl, hj⟩ := h
      have hjl := (List.getElem?_eq_some_iff.mp hb).1
      have hbm := List.mem_of_getElem? hb
      have hpb := far_pb (i := i) (j := j) hw hf hi hj
      obtain ⟨g2, h2⟩ := l_turn (t1 := t1) (t2 := t2) (b0 := st) (g := g ++ g') (d := addAll [] (farL P Q i j)) (a := a) (b := b) (o7 := o7) (by rw [hwP a hm]; exact hn) (Nat.lt_of_le_of_lt hpb.l hl) (fun k => (look_frb hpb.f k).sz hD kD kB) (sP a hm) (sQ b hbm) (by
        have hmm : (addK a.1 b.1, a.2 * b.2) ∈ mulL P Q := List.mem_flatMap.mpr ⟨a, hm, List.mem_map.mpr ⟨b, hbm, rfl⟩⟩
        have hpos : 0 < P.length * Q.length := Nat.mul_pos (by omega) (by omega)
        exact (hf _ hmm).sz hD kD (Nat.lt_of_le_of_lt (Nat.le_mul_of_pos_left _ hpos) kB))
      refine ⟨lEnv t1 t2 st.length (some (kT a.1)) (some (fq a.2)) (some (kT b.1)) (some (fq b.2)) o7, _, _, _, by simp [xgTup, xgsCons, xgsNil, mT, lEnv], h2, _, _, _, g' ++ g2, rfl, ?_, by omega⟩
      rw [far_step ha hb, addAll_app, List.append_assoc g g' g2]
      rfl)
  rw [far_full hi] at h1
  exact ⟨_, _, _, _, h1⟩
theorem law_multiplied_ok {t1 t2 : T} {p q : Pl} {st : Store} {n D B N E C M : Nat} (h1 : IsP t1 p) (h2 : IsP t2 q) (hp : PB n D B N p) (hq : PB n E C M q) (hD : 0 < D) (hE : 0 < E) (kD : D < 2 ^ 1200) (kE : E < 2 ^ 1200) (kDE : D * E < 2 ^ 1200) (kB : B < 2 ^ 1200) (kC : C < 2 ^ 1200) (kBC : N * M * (B * C) < 2 ^ 1200) (hn : n ≤ 1000) (hl : N * M < 1000) :
    S__law_multiplied [t1, t2] st = some (plP (nrm (mulL p q)), st) := by
  have hpq := hp.mul hq
  have hlen : p.length * q.length ≤ N * M := Nat.mul_le_mul hp.l hq.l
  have hD2 : 0 < D * E := Nat.mul_pos hD hE
  obtain ⟨e', s', hf, o3, o4, o5, o6, o7, g', rfl, rfl, _⟩ := for_enc (fi := xiSeq (xVar 0)) (g := xgTup 2 (xgsCons (xgName 3) (xgsCons (xgName 4) xgsNil))) (b := xsFor (xiSeq (xVar 1)) (xgTup 2 (xgsCons (xgName 5) (xgsCons (xgName 6) xgsNil))) lIn)
    (e := lEnv t1 t2 st.length none none none none none) (st := st ++ [Ob.dN []]) (s1 := st ++ [Ob.dN []])
    (it := fun _ => some (p.map mT)) (qs := p) mT
    (fun i e s => ∃ o3 o4 o5 o6 o7 g', e = lEnv t1 t2 st.length o3 o4 o5 o6 o7 ∧ s = st ++ dT (addAll [] (mulL (p.take i) q)) :: g' ∧ i ≤ p.length)
    (seq_p h1 rfl) (fun k e s h => rfl)
    ⟨none, none, none, none, none, [], rfl, rfl, Nat.zero_le _⟩
    (fun i e s a ha h => by
      obtain ⟨o3, o4, o5, o6, o7, g', rfl, rfl, hi⟩ := h
      have hil := (List.getElem?_eq_some_iff.mp ha).1
      obtain ⟨u5, u6, u7, g2, h2⟩ := l_inner (t1 := t1) (t2 := t2) (st := st) (g := g') (o5 := o5) (o6 := o6) (o7 := o7) h2 ha hpq.w hp.w hn hpq.f (fun m hm => (hp.f m hm).sz hD kD kB) (fun m hm => (hq.f m hm).sz hE kE kC) hD2 kDE (Nat.lt_of_le_of_lt (Nat.mul_le_mul_right _ hlen) kBC) (Nat.lt_of_le_of_lt hlen hl)
      refine ⟨lEnv t1 t2 st.length (some (kT a.1)) (some (fq a.2)) o5 o6 o7, _, _, _, by simp [xgTup, xgsCons, xgsNil, mT, lEnv], h2, _, _, _, _, _, g' ++ g2, rfl, rfl, by omega⟩)
  rw [List.take_length] at hf
  have hnd : (keys (addAll [] (mulL p q))).Nodup := addAll_nodup nodup_nil
  have hdl : (addAll [] (mulL p q)).length ≤ 1000 := by
    have := addAll_len (mulL p q) []
    rw [mul_len] at this
    simp only [List.length_nil] at this
    omega
  have hww : Wide n (addAll [] (mulL p q)) := keys_wide.mp (keys_addAll (by intro k hk; cases hk) hpq.w)
  have hga := law_poly_ok (st := st ++ dT (addAll [] (mulL p q)) :: g') (l := st.length) mid_get hww hnd hdl
  refine cut_pure (g := dT (addAll [] (mulL p q)) :: g') (fn_ret rfl ?_) (below_P _ _)
  refine sq (e' := lEnv t1 t2 st.length none none none none none) (st' := st ++ [Ob.dN []]) rfl ?_
  refine sq hf ?_
  simp only [r_xsRet, r_xCall, r_xCons, lEnv, r_xVar, List.getElem?_cons_succ, List.getElem?_cons_zero, Option.bind_some, r_xNil, hga, Option.map_some]
  rfl
/-! ### ranges -/
theorem p62 : (2 : Int) ^ 62 = 4611686018427387904 := by decide
theorem range_j {f : XE} {e : Env1} {st s1 : Store} {j : Int} {c : Nat} (hf : f e st = some (.int j, s1)) (h : -(2 ^ 62) ≤ j ∧ j < 2 ^ 62) (hj : j.toNat = c) : xiRange1 f e st = some (fun _ => some (rngs 0 c), s1) := by
  subst hj
  unfold xiRange1
  rw [hf]
  exact if_pos h
theorem range_ok (j : Int) (h : 0 ≤ j ∧ j < 1000000) : -(2 ^ 62) ≤ j ∧ j < 2 ^ 62 := by
  rw [p62]
  omega
theorem range_it {f : XE} {e : Env1} {st s1 : Store} {c : Nat} (hf : f e st = some (.int c, s1)) (hc : c < 1000000) : xiRange1 f e st = some (fun _ => some (rngs 0 c), s1) := range_j hf (range_ok _ ⟨by omega, by omega⟩) (Int.toNat_natCast c)
abbrev rE (j : Nat) : T := .int ((0 : Int) + (j : Int))
theorem rE_eq (j : Nat) : rE j = .int (j : Int) := by unfold rE; rw [Int.zero_add]
/-! ### units -/
def unitK (n i : Nat) : PKey := (List.range n).map fun j => if j = i then 1 else 0
def unitL (n i : Nat) : Pl := [(unitK n i, 1)]
theorem unit_tree (n i : Nat) : T.tup ((List.range n).map fun j => T.int (if j = i then 1 else 0)) = kT (unitK n i) := by
  unfold kT unitK
  rw [List.map_map]
  congr 1
  refine List.map_congr_left fun j _ => ?_
  show T.int _ = T.int (((if j = i then 1 else 0 : Nat)) : Int)
  split <;> rfl
theorem unit_ok {n i : Nat} {st : Store} (hn : n ≤ 1000) : S_unit [.int (n : Int), .int (i : Int)] st = some (plT (unitL n i), st) := by
  have h := lc_all (st := st) (s1 := st) (fi := xiRange1 (xVar 0)) (g := xgName 3) (vs := [3]) (te := xIf (xBl (xBin eqT (xVar 3) (xVar 1))) (xC (.int 1)) (xC (.int 0))) (e := [some (.int (n : Int)), some (.int (i : Int)), none, none]) (qs := List.range n) (it := fun _ => some (rngs 0 n)) rE (fun j => T.int (if j = i then 1 else 0)) (fun j => [some (.int (n : Int)), some (.int (i : Int)), none, some (rE j)])
    (range_it (c := n) rfl (by omega)) (fun acc => rfl) (by simpa using hn) (fun j hj acc => rfl)
    (fun j hj acc => by
      simp only [r_xIf, r_xBl, r_xBin, r_xVar, List.getElem?_cons_zero, List.getElem?_cons_succ, Option.bind_some, r_eq, r_xC]
      by_cases e : j = i
      · subst e; simp
      · have : ¬ ((j : Int) = (i : Int)) := by omega
        simp [e, this])
  refine cut_pure (g := [.lst ((List.range n).map fun j => T.int (if j = i then 1 else 0))]) (fn_ret rfl ?_) (below_T _ _)
  refine sq (e' := [some (.int (n : Int)), some (.int (i : Int)), some (kT (unitK n i)), none]) (st' := st ++ [.lst ((List.range n).map fun j => T.int (if j = i then 1 else 0))]) ?_ ?_
  · show xsSet 2 _ [some (.int (n : Int)), some (.int (i : Int)), none, none] st = _
    rw [r_xsSet, r_xCall, r_xCons, h]
    simp only [Option.bind_some, r_xNil, tuple_l last_get, Option.map_some, unit_tree]
    rfl
  · simp [unitL, mT]
theorem law_unit_ok {n i : Nat} {st : Store} (hn : n ≤ 1000) : S__law_unit [.int (n : Int), .int (i : Int)] st = some (plT (unitL n i), st) := by
  have h := lc_all (st := st) (s1 := st) (fi := xiRange1 (xVar 0)) (g := xgName 2) (vs := [2]) (te := xCall intT (xCons (xBin eqT (xVar 2) (xVar 1)) xNil)) (e := [some (.int (n : Int)), some (.int (i : Int)), none]) (qs := List.range n) (it := fun _ => some (rngs 0 n)) rE (fun j => T.int (if j = i then 1 else 0)) (fun j => [some (.int (n : Int)), some (.int (i : Int)), some (rE j)])
    (range_it (c := n) rfl (by omega)) (fun acc => rfl) (by simpa using hn) (fun j hj acc => rfl)
    (fun j hj acc => by
      simp only [r_xCall, r_xCons, r_xBin, r_xVar, List.getElem?_cons_zero, List.getElem?_cons_succ, Option.bind_some, r_eq, r_xNil, intT]
      by_cases e : j = i
      · subst e; simp
      · have : ¬ ((j : Int) = (i : Int)) := by omega
        simp [e, this])
  refine cut_pure (g := [.lst ((List.range n).map fun j => T.int (if j = i then 1 else 0))]) (fn_ret rfl ?_) (below_T _ _)
  show B__law_unit [some (.int (n : Int)), some (.int (i : Int)), none] st = _
  unfold B__law_unit
  rw [r_xsRet, r_xCall, r_xCons, r_xCall, r_xCons, r_xCall, r_xCons, h]
  simp only [Option.bind_some, r_xNil, tuple_l last_get, Option.map_some, unit_tree, r_xCons, r_xCall, r_xC, r_tup, List.length_cons, List.length_nil, sz2, sz1, if_true]
  rfl
theorem unitK_len (n i : Nat) : (unitK n i).length = n := by simp [unitK]
theorem unit_wide (n i : Nat) : Wide n (unitL n i) := by
  intro m hm
  rw [List.mem_singleton.mp hm]; exact unitK_len n i
theorem one_ne : (1 : Rat) ≠ 0 := by decide
theorem unit_can (n i : Nat) : Can (unitL n i) := ⟨List.pairwise_singleton _ _, fun m hm => by rw [List.mem_singleton.mp hm]; exact one_ne⟩
/-! ### powers -/
abbrev ra_c : XT := xBl (xBin gtT (xVar 2) (xC (.int 0)))
abbrev ra_b : XS := xsSeq (xsIf (xBl (xBin eqT (xBin modT (xVar 2) (xC (.int 2))) (xC (.int 1)))) (xsSet 3 (xCall S_multiplied (xCons (xVar 3) (xCons (xVar 1) xNil)))) xsNil)
    (xsSeq (xsSet 2 (xBin fdivT (xVar 2) (xC (.int 2)))) (xsIf (xBl (xBin gtT (xVar 2) (xC (.int 0)))) (xsSet 1 (xCall S_multiplied (xCons (xVar 1) (xCons (xVar 1) xNil)))) xsNil))
/-- a power times a power -/
theorem pow_nrm {n : Nat} {q : Pl} (hq : Wide n q) (a b : Nat) : nrm (mulL (nrm (powL n q a)) (nrm (powL n q b))) = nrm (powL n q (a + b)) :=
  nrm_one ((mul_same (nrm_same _) (nrm_same _)).trans (pow_add hq a b).symm)
theorem step_raise {n C D B N : Nat} {q : Pl} {st : Store} (hq : Wide n q) (hb : ∀ k, k ≤ C → PB n D B N (nrm (powL n q k))) (hD : 0 < D) (kD : D < 2 ^ 1200) (kDD : D * D < 2 ^ 1200) (kB : B < 2 ^ 1200) (hn : n ≤ 1000) (hN : N * N < 1000) (hN1 : N ≤ 1000) :
    ∀ (f c a r : Nat) (t1 : T), c < f → IsP t1 (nrm (powL n q a)) → r + a * c ≤ C → a ≤ C →
    ∃ t2, whileF ra_c ra_b f [some (.int (n : Int)), some t1, some (.int (c : Int)), some (plT (nrm (powL n q r)))] st = some (.nx [some (.int (n : Int)), some t2, some (.int 0), some (plT (nrm (powL n q (r + a * c))))] st)
  | 0, c, a, r, t1, h, _, _, _ => by omega
  | f + 1, c, a, r, t1, h, h1, h3, h4 => by
    have mul : ∀ {t t' : T} {x y : Nat}, IsP t (nrm (powL n q x)) → IsP t' (nrm (powL n q y)) → x ≤ C → y ≤ C → S_multiplied [t, t'] st = some (plT (nrm (powL n q (x + y))), st) := fun ha hc lx ly => by
      rw [multiplied_ok ha hc (hb _ lx) (hb _ ly) hD hD kD kD kDD kB kB hn hN1 hN1 hN, pow_nrm hq]
    unfold whileF
    by_cases hc : c = 0
    · subst hc
      exact ⟨t1, by simp⟩
    · have hpos : 0 < c := by omega
      have hdiv : ((c : Int)).fdiv 2 = ((c / 2 : Nat) : Int) := by
        rw [Int.fdiv_eq_ediv_of_nonneg _ (by decide)]; exact (Int.natCast_ediv c 2).symm
      have hmod : ((c : Int)).fmod 2 = ((c % 2 : Nat) : Int) := by
        rw [Int.fmod_eq_emod_of_nonneg _ (by decide)]; exact (Int.natCast_emod c 2).symm
      have l2 : (Nat.log2 2) < 9000 := by decide
      have e1 : c = 2 * (c / 2) + c % 2 := by omega
      have hac : a * 1 ≤ a * c := Nat.mul_le_mul_left a (by omega)
      have hra : r ≤ C := by omega
      generalize hqq : c / 2 = k at *
      generalize hm : c % 2 = m at *
      have hm2 : m = 0 ∨ m = 1 := by omega
      by_cases hk0 : k = 0
      · have hm1 : m = 1 := by omega
        have hc1 : c = 1 := by omega
        subst hk0 hm1
        have g1 := mul (.inl rfl) h1 hra h4
        obtain ⟨t2, hy⟩ := step_raise hq hb hD kD kDD kB hn hN hN1 f 0 a (r + a) t1 (by omega) h1 (by omega) h4
        refine ⟨t2, ?_⟩
        simp [hpos, hmod, hdiv, l2, g1]
        rw [show r + a * c = r + a + a * 0 by rw [hc1]; omega]
        simpa using hy
      · have hkp : 0 < k := by omega
        have ha2 : a + a ≤ C := by
          have : a * 2 ≤ a * c := Nat.mul_le_mul_left a (by omega)
          omega
        have g2 := mul h1 h1 h4 h4
        have hak : (a + a) * k + a * m = a * c := by rw [e1, Nat.mul_add, Nat.add_mul, ← Nat.mul_assoc, Nat.mul_comm a 2, Nat.two_mul, Nat.add_mul]
        rcases hm2 with hm0 | hm1
        · subst hm0
          obtain ⟨t2, hy⟩ := step_raise hq hb hD kD kDD kB hn hN hN1 f k (a + a) r (plT (nrm (powL n q (a + a)))) (by omega) (.inl rfl) (by omega) ha2
          refine ⟨t2, ?_⟩
          simp [hpos, hmod, hdiv, hkp, l2, g2]
          rw [show r + a * c = r + (a + a) * k by omega]
          simpa using hy
        · subst hm1
          have g1 := mul (.inl rfl) h1 hra h4
          obtain ⟨t2, hy⟩ := step_raise hq hb hD kD kDD kB hn hN hN1 f k (a + a) (r + a) (plT (nrm (powL n q (a + a)))) (by omega) (.inl rfl) (by omega) ha2
          refine ⟨t2, ?_⟩
          simp [hpos, hmod, hdiv, hkp, l2, g1, g2]
          rw [show r + a * c = r + a + (a + a) * k by omega]
          simpa using hy
theorem pow_one_nrm {n : Nat} {q : Pl} (h : Wide n q) (hc : Can q) : nrm (powL n q 1) = q := by
  have : Same (powL n q 1) q := one_mul h
  rw [nrm_one this, can_nrm hc]
theorem one_can (n : Nat) : Can (oneL n) := ⟨List.pairwise_singleton _ _, fun m hm => by rw [List.mem_singleton.mp hm]; exact one_ne⟩
theorem raised_ok {n C D B N c : Nat} {q : Pl} {t : T} {st : Store} (h1 : IsP t q) (hq : Wide n q) (hcq : Can q) (hb : ∀ k, k ≤ C → PB n D B N (nrm (powL n q k))) (hD : 0 < D) (kD : D < 2 ^ 1200) (kDD : D * D < 2 ^ 1200) (kB : B < 2 ^ 1200) (hn : n ≤ 1000) (hN : N * N < 1000) (hN1 : N ≤ 1000) (hc : c ≤ C) (h1C : 1 ≤ C) :
    S_raised [.int (n : Int), t, .int (c : Int)] st = some (plT (nrm (powL n q c)), st) := by
  have e0 : conP n 1 = nrm (powL n q 0) := by
    show (if (1 : Rat) = 0 then [] else conL n 1) = nrm (oneL n)
    rw [if_neg (by decide), can_nrm (one_can n)]; rfl
  have hf : c < fuelAll [some (.int (n : Int)), some t, some (.int (c : Int)), some (plT (nrm (powL n q 0)))] st := by
    unfold fuelAll
    rcases h1 with rfl | rfl <;> simp <;> omega
  obtain ⟨t2, hw⟩ := step_raise (st := st) hq hb hD kD kDD kB hn hN hN1 _ c 1 0 t hf (by rw [pow_one_nrm hq hcq]; exact h1) (by omega) h1C
  rw [Nat.one_mul, Nat.zero_add] at hw
  have hcon := constant_ok (n := n) (c := 1) (st := st) hn
  rw [e0] at hcon
  refine cut_pure (g := []) (fn_ret rfl ?_) (below_T _ _)
  rw [List.append_nil]
  refine sq (e' := [some (.int (n : Int)), some t, some (.int (c : Int)), some (plT (nrm (powL n q 0)))]) (st' := st) ?_ (sq (e' := _) (st' := st) hw ?_)
  · have hcon2 : F_constant [.int (n : Int), .tup [.int 1, .int 1]] st = some (plT (nrm (powL n q 0)), st) := hcon
    simp [hcon2]
  · rfl
end
end K03
/-! R12 -/
set_option Elab.async false
set_option linter.all false
set_option maxRecDepth 100000
set_option maxHeartbeats 4000000
/-! parts by the powers of a variable; what is put in; worths -/
namespace Poly
def deg (i : Nat) (k : PKey) : Nat := k[i]?.getD 0
def zr (i : Nat) (k : PKey) : PKey := k.set i 0
theorem zr_len (i : Nat) (k : PKey) : (zr i k).length = k.length := List.length_set
def partL (i c : Nat) (p : Pl) : Pl := (p.filter fun m => decide (deg i m.1 = c)).map fun m => (zr i m.1, m.2)
theorem part_wide {n i c : Nat} {p : Pl} (h : Wide n p) : Wide n (partL i c p) := by
  intro m hm
  obtain ⟨a, ha, rfl⟩ := List.mem_map.mp hm
  exact (zr_len i a.1).trans (h a (List.mem_filter.mp ha).1)
theorem phi_part (i c : Nat) (f : PKey → Rat) : ∀ p : Pl, Phi (partL i c p) f = Phi p (fun k => if deg i k = c then f (zr i k) else 0)
  | [] => rfl
  | m :: p => by
    have ih := phi_part i c f p
    unfold partL at ih ⊢
    by_cases h : deg i m.1 = c
    · rw [List.filter_cons_of_pos (by simp [h]), List.map_cons, phi_cons, phi_cons, ih, if_pos h]
    · rw [List.filter_cons_of_neg (by simp [h]), phi_cons, ih, if_neg h]; grind
theorem kle_zr : ∀ {a b : PKey} {i : Nat}, a.length = b.length → deg i a = deg i b → kI a ≤ kI b → kI (zr i a) ≤ kI (zr i b)
  | [], [], _, _, _, h => h
  | [], _ :: _, _, h, _, _ => by simp at h
  | _ :: _, [], _, h, _, _ => by simp at h
  | x :: a, y :: b, 0, _, hd, h => by
    have e : x = y := hd
    subst e
    have h1 := List.cons_le_cons_iff.mp h
    refine List.cons_le_cons_iff.mpr (.inr ⟨rfl, ?_⟩)
    rcases h1 with h1 | h1
    · exact absurd h1 (Int.lt_irrefl _)
    · exact h1.2
  | x :: a, y :: b, i + 1, hl, hd, h => by
    have h1 := List.cons_le_cons_iff.mp h
    refine List.cons_le_cons_iff.mpr ?_
    rcases h1 with h1 | h1
    · exact .inl h1
    · exact .inr ⟨h1.1, kle_zr (by simpa using hl) (by simpa [deg] using hd) h1.2⟩
theorem zr_inj : ∀ {a b : PKey} {i : Nat}, a.length = b.length → deg i a = deg i b → zr i a = zr i b → a = b
  | [], [], _, _, _, _ => rfl
  | [], _ :: _, _, h, _, _ => by simp at h
  | _ :: _, [], _, h, _, _ => by simp at h
  | x :: a, y :: b, 0, _, hd, h => by
    have e : x = y := hd
    have h2 : (0 :: a) = 0 :: b := h
    injection h2 with _ h3
    rw [e, h3]
  | x :: a, y :: b, i + 1, hl, hd, h => by
    have h2 : (x :: zr i a) = y :: zr i b := h
    injection h2 with h3 h4
    rw [h3, zr_inj (by simpa using hl) (by simpa [deg] using hd) h4]
theorem part_can {n i c : Nat} {p : Pl} (hw : Wide n p) (h : Can p) : Can (partL i c p) := by
  unfold partL
  refine ⟨List.pairwise_map.mpr ?_, fun m hm => ?_⟩
  · have h1 := h.asc.filter fun m => decide (deg i m.1 = c)
    refine List.Pairwise.imp_of_mem ?_ h1
    intro a b ha hb hab
    have da : deg i a.1 = c := of_decide_eq_true (List.mem_filter.mp ha).2
    have db : deg i b.1 = c := of_decide_eq_true (List.mem_filter.mp hb).2
    have la := hw a (List.mem_filter.mp ha).1
    have lb := hw b (List.mem_filter.mp hb).1
    exact ⟨decide_eq_true (kle_zr (la.trans lb.symm) (da.trans db.symm) (of_decide_eq_true hab.1)), fun e => hab.2 (zr_inj (la.trans lb.symm) (da.trans db.symm) e)⟩
  · obtain ⟨a, ha, rfl⟩ := List.mem_map.mp hm
    exact h.nz a (List.mem_filter.mp ha).1
/-! ### sums by powers -/
def G (n i : Nat) (q : Pl) (f : PKey → Rat) (k : PKey) : Rat := Phi (powL n q (deg i k)) (fun b => f (addK (zr i k) b))
def sumL (n i : Nat) (p q : Pl) (cs : List Nat) : Pl := cs.flatMap fun c => mulL (partL i c p) (powL n q c)
theorem sumL_cons (n i : Nat) (p q : Pl) (c : Nat) (cs : List Nat) : sumL n i p q (c :: cs) = mulL (partL i c p) (powL n q c) ++ sumL n i p q cs := rfl
theorem phi_sumL (n i : Nat) (p q : Pl) (f : PKey → Rat) : ∀ {cs : List Nat}, cs.Nodup → Phi (sumL n i p q cs) f = Phi p (fun k => if deg i k ∈ cs then G n i q f k else 0)
  | [], _ => by
    have e : Phi p (fun k => if deg i k ∈ ([] : List Nat) then G n i q f k else 0) = Phi p (fun _ => 0) := phi_congr fun m _ => if_neg List.not_mem_nil
    rw [e, phi_zero]; rfl
  | c :: cs, h => by
    obtain ⟨h1, h2⟩ := List.nodup_cons.mp h
    rw [sumL_cons, phi_app, phi_mul, phi_part, phi_sumL n i p q f h2, ← phi_plus]
    refine phi_congr fun m _ => ?_
    by_cases e : deg i m.1 = c
    · subst e
      rw [if_pos rfl, if_neg h1, if_pos List.mem_cons_self]
      unfold G; grind
    · by_cases e2 : deg i m.1 ∈ cs
      · rw [if_neg e, if_pos e2, if_pos (List.mem_cons_of_mem _ e2)]; grind
      · rw [if_neg e, if_neg e2, if_neg (fun h => (List.mem_cons.mp h).elim e e2)]; grind
/-- each member with q put in -/
def putL (n i : Nat) (p q : Pl) : Pl := p.flatMap fun m => mulL [(zr i m.1, m.2)] (powL n q (deg i m.1))
theorem putL_cons (n i : Nat) (m : Mb) (p q : Pl) : putL n i (m :: p) q = mulL [(zr i m.1, m.2)] (powL n q (deg i m.1)) ++ putL n i p q := rfl
theorem phi_one (m : Mb) (f : PKey → Rat) : Phi [m] f = m.2 * f m.1 := by rw [phi_cons, phi_nil, Rat.add_zero]
theorem phi_put (n i : Nat) (q : Pl) (f : PKey → Rat) : ∀ p : Pl, Phi (putL n i p q) f = Phi p (G n i q f)
  | [] => rfl
  | m :: p => by rw [putL_cons, phi_app, phi_mul, phi_one, phi_cons, phi_put n i q f p]; rfl
theorem sum_put {n i : Nat} {p q : Pl} {cs : List Nat} (h : cs.Nodup) (hc : ∀ m ∈ p, deg i m.1 ∈ cs) : Same (sumL n i p q cs) (putL n i p q) := fun f => by
  rw [phi_sumL n i p q f h, phi_put]
  exact phi_congr fun m hm => by rw [if_pos (hc m hm)]
/-- from the highest power to the lowest -/
def hornL (n i : Nat) (p q : Pl) : List Nat → Pl → Pl
  | [], X => X
  | c :: cs, X => hornL n i p q cs (mulL (X ++ partL i c p) (powL n q (c - cs.headD 0)))
theorem horn_same {n i : Nat} {p q : Pl} (hp : Wide n p) (hq : Wide n q) : ∀ {cs : List Nat} {X : Pl}, cs.Pairwise (· > ·) → Wide n X → Same (hornL n i p q cs X) (mulL X (powL n q (cs.headD 0)) ++ sumL n i p q cs)
  | [], X, _, hX => by
    show Same X (mulL X (oneL n) ++ [])
    rw [List.append_nil]
    exact (mul_one hX).symm
  | c :: cs, X, h, hX => by
    have h1 := List.pairwise_cons.mp h
    have hle : cs.headD 0 ≤ c := by
      cases cs with
      | nil => exact Nat.zero_le _
      | cons a r => exact Nat.le_of_lt (h1.1 a List.mem_cons_self)
    have hXp := wide_app hX (part_wide (i := i) (c := c) hp)
    have ih := horn_same (i := i) (p := p) hp hq (cs := cs) (X := mulL (X ++ partL i c p) (powL n q (c - cs.headD 0))) h1.2 (wide_mul hXp (pow_wide hq _))
    refine Same.trans ih ?_
    rw [sumL_cons, ← List.append_assoc]
    refine app_same ?_ (Same.refl _)
    refine (mul_assoc _ _ _).trans ?_
    have hpw : Same (mulL (powL n q (c - cs.headD 0)) (powL n q (cs.headD 0))) (powL n q c) := by
      have := (pow_add hq (c - cs.headD 0) (cs.headD 0)).symm
      rw [Nat.sub_add_cancel hle] at this
      exact this
    exact (mul_same (Same.refl _) hpw).trans (mul_app _ _ _)
theorem horn_put {n i : Nat} {p q : Pl} {cs : List Nat} (hp : Wide n p) (hq : Wide n q) (h : cs.Pairwise (· > ·)) (hc : ∀ m ∈ p, deg i m.1 ∈ cs) : Same (hornL n i p q cs []) (putL n i p q) :=
  (horn_same hp hq h (fun m hm => by cases hm)).trans (sum_put (h.imp fun h => Nat.ne_of_gt h) hc)
/-! ### the variable itself -/
theorem addK_unit : ∀ (n i d e : Nat) (k : PKey), k = (List.range n).map (fun j => if j = i then d else 0) → addK k (K03.unitK n i) = (List.range n).map (fun j => if j = i then d + 1 else 0) := by
  intro n i d e k hk
  subst hk
  unfold addK K03.unitK
  rw [List.zipWith_map, List.zipWith_self]
  refine List.map_congr_left fun j _ => ?_
  split <;> rfl
theorem phi_unit_pow {n i : Nat} (f : PKey → Rat) : ∀ d : Nat, Phi (powL n (K03.unitL n i) d) f = f ((List.range n).map fun j => if j = i then d else 0)
  | 0 => by
    show Phi (oneL n) f = _
    unfold oneL
    rw [phi_one, Rat.one_mul]
    congr 1
    refine List.ext_getElem (by simp) fun j h1 h2 => ?_
    simp
  | d + 1 => by
    show Phi (mulL (powL n (K03.unitL n i) d) [(K03.unitK n i, 1)]) f = _
    rw [phi_mul]
    have : Phi (powL n (K03.unitL n i) d) (fun a => Phi [(K03.unitK n i, 1)] fun b => f (addK a b)) = Phi (powL n (K03.unitL n i) d) (fun a => f (addK a (K03.unitK n i))) := phi_congr fun m _ => by rw [phi_one, Rat.one_mul]
    rw [this, phi_unit_pow _ d, addK_unit n i d 0 _ rfl]
theorem add_back {n i : Nat} {k : PKey} (hk : k.length = n) : addK (zr i k) ((List.range n).map fun j => if j = i then deg i k else 0) = k := by
  subst hk
  unfold addK zr deg
  refine List.ext_getElem (by simp) fun j h1 h2 => ?_
  rw [List.getElem_zipWith, List.getElem_map, List.getElem_range, List.getElem_set]
  by_cases e : i = j
  · subst e
    rw [if_pos rfl, if_pos rfl, List.getElem?_eq_getElem h2]; simp
  · rw [if_neg e, if_neg (Ne.symm e)]; rfl
theorem put_unit {n i : Nat} {p : Pl} (hp : Wide n p) : Same (putL n i p (K03.unitL n i)) p := fun f => by
  rw [phi_put]
  refine phi_congr fun m hm => ?_
  unfold G
  rw [phi_unit_pow, add_back (hp m hm)]
/-! ### worths -/
theorem mono_zero : ∀ (v : List Rat) (n : Nat), mono v (List.replicate n 0) = 1
  | [], n => by cases n <;> rfl
  | x :: v, 0 => rfl
  | x :: v, n + 1 => by
    show x ^ 0 * mono v (List.replicate n 0) = 1
    rw [mono_zero v n, Rat.pow_zero, Rat.mul_one]
theorem worth_one (v : List Rat) (n : Nat) : worth v (oneL n) = 1 := by
  unfold worth oneL
  rw [phi_one, mono_zero, Rat.mul_one]
theorem worth_pow {n : Nat} {v : List Rat} {q : Pl} (hq : Wide n q) : ∀ c, worth v (powL n q c) = worth v q ^ c
  | 0 => by rw [Rat.pow_zero]; exact worth_one v n
  | c + 1 => by
    show worth v (mulL (powL n q c) q) = _
    rw [worth_mul (pow_wide hq c) hq, worth_pow hq c, Rat.pow_succ]
theorem worth_same {v : List Rat} {p q : Pl} (h : Same p q) : worth v p = worth v q := h _
theorem mono_set : ∀ {v : List Rat} {k : PKey} {i : Nat} (w : Rat), v.length = k.length → i < v.length → mono (v.set i w) k = mono v (zr i k) * w ^ deg i k
  | [], _, i, _, _, h => by simp at h
  | x :: v, [], _, _, h, _ => by simp at h
  | x :: v, y :: k, 0, w, _, _ => by
    show w ^ y * mono v k = x ^ 0 * mono v k * w ^ y
    rw [Rat.pow_zero]; grind
  | x :: v, y :: k, i + 1, w, hl, hi => by
    show x ^ y * mono (v.set i w) k = x ^ y * mono v (zr i k) * w ^ deg i k
    rw [mono_set w (by simpa using hl) (by simpa using hi)]; grind
theorem worth_put {n i : Nat} {v : List Rat} {p q : Pl} (hp : Wide n p) (hq : Wide n q) (hv : v.length = n) (hi : i < n) : worth v (putL n i p q) = worth (v.set i (worth v q)) p := by
  unfold worth
  rw [phi_put]
  refine phi_congr fun m hm => ?_
  unfold G
  have hk := hp m hm
  have e : Phi (powL n q (deg i m.1)) (fun b => mono v (addK (zr i m.1) b)) = Phi (powL n q (deg i m.1)) (fun b => mono v b * mono v (zr i m.1)) := phi_congr fun l hl => by
    rw [mono_add ((zr_len i m.1).trans (hk.trans (pow_wide hq _ l hl).symm))]; grind
  have hw := worth_pow (v := v) hq (deg i m.1)
  unfold worth at hw
  rw [e, phi_times, hw, mono_set _ (hv.trans hk.symm) (by omega)]; grind
end Poly
/-! R13 -/
set_option Elab.async false
set_option linter.all false
set_option maxRecDepth 100000
set_option maxHeartbeats 4000000
set_option exponentiation.threshold 4000
/-! parts, led -/
namespace K03
open PySem PySem.Spec PyProof.Rows L2 TL LamX Poly
noncomputable section
variable [Tb]
abbrev kL (k : PKey) : List T := k.map fun n : Nat => T.int (n : Int)
theorem at_key {k : PKey} {i : Nat} (h : i < k.length) : atI (kL k) (i : Int) = some (.int ((deg i k : Nat) : Int)) := by
  refine atI_nat ?_
  rw [List.getElem?_map, deg, List.getElem?_eq_getElem h]; rfl
theorem sIx_at {n i : Nat} {d : Nat} (h : i ≤ n) : HT.sIx n d (some (i : Int)) = i := by
  rw [HT.sIx_nat, Nat.min_eq_left h]
theorem cut_to {α : Type} {xs : List α} {i : Nat} (h : i ≤ xs.length) : cutG xs none (some (i : Int)) = xs.take i := by
  unfold cutG
  rw [sIx_at h]
  have : HT.sIx xs.length 0 none = 0 := rfl
  rw [this, List.drop_zero, Nat.sub_zero]
theorem cut_from {α : Type} {xs : List α} {i : Nat} (h : i ≤ xs.length) : cutG xs (some (i : Int)) none = xs.drop i := by
  unfold cutG
  rw [sIx_at h]
  have : HT.sIx xs.length xs.length none = xs.length := rfl
  rw [this, List.take_of_length_le (by rw [List.length_drop]; exact Nat.le_refl _)]
theorem rest_eq {k : PKey} {i : Nat} (h : i < k.length) : (kL k).take i ++ [T.int 0] ++ (kL k).drop (i + 1) = kL (zr i k) := by
  unfold zr
  rw [List.set_eq_take_append_cons_drop, if_pos h]
  unfold kL
  rw [List.map_append, List.map_cons, List.map_take, List.map_drop, List.append_assoc]; rfl
/-- the rest of a key -/
theorem rest_ok {e : Env1} {s : Store} {iK iP i n : Nat} {k : PKey} (hK : e[iK]? = some (some (kT k))) (hP : e[iP]? = some (some (.int (i : Int)))) (hk : k.length = n) (hi : i < n) (hn : n ≤ 1000) :
    xBin addT (xBin addT (xSl (xVar iK) none (some (xVar iP))) (xCall tupT (xCons (xC (.int 0)) xNil))) (xSl (xVar iK) (some (xBin addT (xVar iP) (xC (.int 1)))) none) e s = some (kT (zr i k), s) := by
  have l1 : (kL k).length = n := by rw [List.length_map]; exact hk
  have c1 : cutG (kL k) none (some (i : Int)) = (kL k).take i := cut_to (by omega)
  have c2 : cutG (kL k) (some ((i + 1 : Nat) : Int)) none = (kL k).drop (i + 1) := cut_from (by omega)
  rw [Int.natCast_add] at c2
  have z1 : ((kL k).take i).length + [T.int 0].length ≤ sizeLine := Nat.le_of_lt (small1000 (by rw [List.length_take, List.length_singleton]; omega))
  have z2 : ((kL k).take i ++ [T.int 0]).length + ((kL k).drop (i + 1)).length ≤ sizeLine := Nat.le_of_lt (small1000 (by rw [List.length_append, List.length_take, List.length_singleton, List.length_drop]; omega))
  have a1 : addT (.tup ((kL k).take i)) (.tup [.int 0]) s = some (.tup ((kL k).take i ++ [T.int 0]), s) := by
    show (if _ then _ else none) = _
    rw [if_pos z1]
  have a2 : addT (.tup ((kL k).take i ++ [T.int 0])) (.tup ((kL k).drop (i + 1))) s = some (kT (zr i k), s) := by
    show (if _ then _ else none) = _
    rw [if_pos z2, rest_eq (by omega)]; rfl
  have s1 : xSl (xVar iK) none (some (xVar iP)) e s = some (.tup ((kL k).take i), s) := by
    simp only [xSl, xPart, r_xVar, hK, hP, Option.bind_some, slT, kT, c1]
  have s2 : xSl (xVar iK) (some (xBin addT (xVar iP) (xC (.int 1)))) none e s = some (.tup ((kL k).drop (i + 1)), s) := by
    simp only [xSl, xPart, r_xVar, hK, hP, Option.bind_some, r_xBin, r_xC, r_add, slT, kT]
    rw [show ((i : Int) + 1) = (i : Int) + ((1 : Nat) : Int) from rfl, c2]
  simp only [r_xBin, s1, s2, Option.bind_some, r_xCall, r_xCons, r_xC, r_xNil, r_tup, List.length_cons, List.length_nil, sz1, if_true, a1, a2]
/-! ### by the law -/
theorem ix_key {e : Env1} {s : Store} {iK iP i n : Nat} {k : PKey} (hK : e[iK]? = some (some (kT k))) (hP : e[iP]? = some (some (.int (i : Int)))) (hk : k.length = n) (hi : i < n) :
    xBin ixA (xVar iK) (xVar iP) e s = some (.int ((deg i k : Nat) : Int), s) := by
  simp only [r_xBin, r_xVar, hK, hP, Option.bind_some, kT, r_ixTup, at_key (show i < k.length by omega), Option.map_some]
theorem part_snoc (i c : Nat) (p : Pl) (m : Mb) : partL i c (p ++ [m]) = if deg i m.1 = c then partL i c p ++ [(zr i m.1, m.2)] else partL i c p := by
  unfold partL
  rw [List.filter_append]
  by_cases h : deg i m.1 = c
  · rw [if_pos h, List.filter_cons_of_pos (by simp [h])]; simp
  · rw [if_neg h, List.filter_cons_of_neg (by simp [h])]; simp
theorem part_take_step {i c j : Nat} {p : Pl} {m : Mb} (h : p[j]? = some m) : partL i c (p.take (j + 1)) = if deg i m.1 = c then partL i c (p.take j) ++ [(zr i m.1, m.2)] else partL i c (p.take j) := by
  rw [take_step h, part_snoc]
theorem can_take {p : Pl} (h : Can p) (j : Nat) : Can (p.take j) := ⟨h.asc.sublist (List.take_sublist _ _), fun m hm => h.nz m (List.mem_of_mem_take hm)⟩
theorem part_len (i c : Nat) (p : Pl) : (partL i c p).length ≤ p.length := by
  unfold partL
  rw [List.length_map]
  exact List.length_filter_le _ _
theorem part_pb {n D B N i c : Nat} {p : Pl} (h : PB n D B N p) : PB n D B N (partL i c p) := by
  refine ⟨part_wide h.w, fun m hm => ?_, Nat.le_trans (part_len i c p) h.l⟩
  obtain ⟨a, ha, rfl⟩ := List.mem_map.mp hm
  exact h.f a (List.mem_filter.mp ha).1
theorem wide_take {n j : Nat} {p : Pl} (h : Wide n p) : Wide n (p.take j) := fun m hm => h m (List.mem_of_mem_take hm)
theorem law_part_ok {t : T} {p : Pl} {st : Store} {n i c : Nat} (h1 : IsP t p) (hw : Wide n p) (hc : Can p) (hi : i < n) (hn : n ≤ 1000) (hl : p.length ≤ 1000) :
    S__law_part_by [t, .int (i : Int), .int (c : Int)] st = some (plP (partL i c p), st) := by
  obtain ⟨e', s', hf, o4, o5, rfl, rfl, _⟩ := for_enc (fi := xiSeq (xVar 0)) (g := xgTup 2 (xgsCons (xgName 4) (xgsCons (xgName 5) xgsNil))) (b := xsIf (xBl (xBin eqT (xBin ixA (xVar 4) (xVar 1)) (xVar 2))) (xsAsg (xVar 5) (xgSubA (xVar 3) (xBin addT (xBin addT (xSl (xVar 4) none (some (xVar 1))) (xCall tupT (xCons (xC (.int 0)) xNil))) (xSl (xVar 4) (some (xBin addT (xVar 1) (xC (.int 1)))) none)))) xsNil)
    (e := [some t, some (.int (i : Int)), some (.int (c : Int)), some (.ref st.length), none, none]) (st := st ++ [Ob.dN []]) (s1 := st ++ [Ob.dN []])
    (it := fun _ => some (p.map mT)) (qs := p) mT
    (fun j e s => ∃ o4 o5, e = [some t, some (.int (i : Int)), some (.int (c : Int)), some (.ref st.length), o4, o5] ∧ s = st ++ [dT (partL i c (p.take j))] ∧ j ≤ p.length)
    (seq_p h1 rfl) (fun k e s h => rfl) ⟨none, none, rfl, rfl, Nat.zero_le _⟩
    (fun j e s m hm h => by
      obtain ⟨o4, o5, rfl, rfl, hj⟩ := h
      have hjl := (List.getElem?_eq_some_iff.mp hm).1
      have hk := hw m (List.mem_of_getElem? hm)
      have hix := ix_key (e := [some t, some (.int (i : Int)), some (.int (c : Int)), some (.ref st.length), some (kT m.1), some (fq m.2)]) (s := st ++ [dT (partL i c (p.take j))]) (iK := 4) (iP := 1) (k := m.1) rfl rfl hk hi
      have hre := rest_ok (e := [some t, some (.int (i : Int)), some (.int (c : Int)), some (.ref st.length), some (kT m.1), some (fq m.2)]) (s := st ++ [dT (partL i c (p.take j))]) (iK := 4) (iP := 1) (k := m.1) rfl rfl hk hi hn
      refine ⟨[some t, some (.int (i : Int)), some (.int (c : Int)), some (.ref st.length), some (kT m.1), some (fq m.2)], st ++ [dT (partL i c (p.take j))], [some t, some (.int (i : Int)), some (.int (c : Int)), some (.ref st.length), some (kT m.1), some (fq m.2)], st ++ [dT (partL i c (p.take (j + 1)))], by simp [xgTup, xgsCons, xgsNil, mT], ?_, _, _, rfl, rfl, by omega⟩
      rw [part_take_step hm]
      by_cases hd : deg i m.1 = c
      · have hnew : setP (partL i c (p.take j)) (zr i m.1) m.2 = partL i c (p.take j) ++ [(zr i m.1, m.2)] := by
          unfold setP
          have : zr i m.1 ∉ keys (partL i c (p.take j)) := fun hmem => by
            have hcan := part_can (i := i) (c := c) (wide_take (j := j + 1) hw) (can_take hc (j + 1))
            rw [part_take_step hm, if_pos hd] at hcan
            have hnd := hcan.nodup
            unfold keys at hnd hmem
            rw [List.map_append] at hnd
            exact (List.nodup_append.mp hnd).2.2 _ hmem _ (List.mem_singleton.mpr rfl) rfl
          rw [look_none.mpr this]; simp
        have hset := set_d (e := eF) (k := zr i m.1) (x := m.2) (l := st.length) (st := st ++ [dT (partL i c (p.take j))]) last_get (small1000 (by have := part_len i c (p.take j); rw [List.length_take] at this; omega))
        rw [hnew, last_set] at hset
        refine if_yes (st' := st ++ [dT (partL i c (p.take j))]) ?_ ?_
        · simp only [r_xBl, r_xBin, Option.bind_some] at hix ⊢
          rw [hix]
          simp [hd]
        · rw [if_pos hd]
          simp only [r_xsAsg, r_xVar, List.getElem?_cons_succ, List.getElem?_cons_zero, Option.bind_some, xgSubA, hre, hset, Option.map_some]
      · refine if_no (st' := st ++ [dT (partL i c (p.take j))]) ?_ ?_
        · simp only [r_xBl, r_xBin, Option.bind_some] at hix ⊢
          rw [hix]
          have : ¬ ((deg i m.1 : Int) = (c : Int)) := by omega
          simp [this]
        · rw [if_neg hd]; rfl)
  rw [List.take_length] at hf
  have hpc := part_can (i := i) (c := c) hw hc
  have hga := law_poly_ok (st := st ++ [dT (partL i c p)]) (l := st.length) last_get (part_wide hw) hpc.nodup (Nat.le_trans (part_len i c p) hl)
  rw [canon_id hpc] at hga
  refine cut_pure (g := [dT (partL i c p)]) (fn_ret rfl ?_) (below_P _ _)
  refine sq (e' := [some t, some (.int (i : Int)), some (.int (c : Int)), some (.ref st.length), none, none]) (st' := st ++ [Ob.dN []]) rfl ?_
  refine sq hf ?_
  simp only [r_xsRet, r_xCall, r_xCons, r_xVar, List.getElem?_cons_succ, List.getElem?_cons_zero, Option.bind_some, r_xNil, hga, Option.map_some]
end
end K03
/-! R14 -/
set_option Elab.async false
set_option linter.all false
set_option maxRecDepth 100000
set_option maxHeartbeats 4000000
set_option exponentiation.threshold 4000
/-! the dict of all parts -/
namespace K03
open PySem PySem.Spec PyProof.Rows L2 TL LamX Poly
noncomputable section
variable [Tb]
abbrev kyN (c : Nat) : Key := .inl (c : Int)
theorem kyN_inj {a b : Nat} (h : kyN a = kyN b) : a = b := by
  have := Sum.inl.inj h
  omega
/-- a dict whose keys are numbers -/
def dkL {α : Type} (v : Nat × α → T) (es : List (Nat × α)) : List (Key × T) := es.map fun x => (kyN x.1, v x)
theorem dkL_none {α : Type} {v : Nat × α → T} {es : List (Nat × α)} {c : Nat} (h : c ∉ es.map (·.1)) : lookK (dkL v es) (kyN c) = none := by
  unfold lookK dkL
  rw [Option.map_eq_none_iff, List.find?_eq_none]
  intro y hy hd
  obtain ⟨x, hx, rfl⟩ := List.mem_map.mp hy
  exact h (List.mem_map.mpr ⟨x, hx, kyN_inj (of_decide_eq_true hd)⟩)
theorem dkL_some {α : Type} {v : Nat × α → T} : ∀ {es : List (Nat × α)} {x : Nat × α}, (es.map (·.1)).Nodup → x ∈ es → lookK (dkL v es) (kyN x.1) = some (v x)
  | [], _, _, h => by cases h
  | y :: es, x, hn, h => by
    have hn1 := List.nodup_cons.mp hn
    unfold lookK dkL
    rw [List.map_cons, List.find?_cons]
    rcases List.mem_cons.mp h with rfl | h
    · simp
    · have hne : ¬ (kyN y.1 = kyN x.1) := fun e => hn1.1 (by
        show y.1 ∈ es.map (·.1)
        rw [kyN_inj e]; exact List.mem_map.mpr ⟨x, h, rfl⟩)
      have := dkL_some (v := v) hn1.2 h
      unfold lookK dkL at this
      show Option.map _ (match decide (kyN y.1 = kyN x.1) with | true => _ | false => _) = _
      rw [decide_eq_false hne]
      exact this
theorem dkL_new {α : Type} {v : Nat × α → T} {es : List (Nat × α)} {x : Nat × α} (h : x.1 ∉ es.map (·.1)) : storeK (dkL v es) (kyN x.1) (v x) = dkL v (es ++ [x]) := by
  have : (dkL v es).any (fun p => decide (p.1 = kyN x.1)) = false := by
    rw [List.any_eq_false]
    intro y hy hd
    obtain ⟨z, hz, rfl⟩ := List.mem_map.mp hy
    exact h (List.mem_map.mpr ⟨z, hz, kyN_inj (of_decide_eq_true hd)⟩)
  unfold storeK
  rw [this]
  simp [dkL]
theorem dkL_fold {α : Type} {v : Nat × α → T} : ∀ (es ds : List (Nat × α)), ((ds ++ es).map (·.1)).Nodup → es.foldl (fun kvs x => storeK kvs (kyN x.1) (v x)) (dkL v ds) = dkL v (ds ++ es)
  | [], ds, _ => by rw [List.append_nil]; rfl
  | x :: es, ds, h => by
    have hx : x.1 ∉ ds.map (·.1) := fun hm => by
      rw [List.map_append, List.map_cons] at h
      exact (List.nodup_append.mp h).2.2 _ hm _ List.mem_cons_self rfl
    rw [List.foldl_cons, dkL_new hx, dkL_fold es (ds ++ [x]) (by rw [List.append_assoc]; exact h), List.append_assoc]
    rfl
theorem set_past {st g : Store} {o y : Ob} {j : Nat} (h : st.length < j) : (st ++ o :: g).set j y = st ++ o :: g.set (j - st.length - 1) y := by
  rw [List.set_append_right _ _ (by omega)]
  have : j - st.length = (j - st.length - 1) + 1 := by omega
  rw [this]; rfl
abbrev pkv (es : List (Nat × Nat)) : List (Key × T) := dkL (fun x => T.ref x.2) es
/-- how far the dict of parts is -/
structure Far (st : Store) (i : Nat) (p : Pl) (es : List (Nat × Nat)) (s : Store) : Prop where
  sh : ∃ g, s = st ++ .dK (pkv es) :: g
  n1 : (es.map (·.1)).Nodup
  n2 : (es.map (·.2)).Nodup
  at_ : ∀ x ∈ es, st.length < x.2 ∧ s[x.2]? = some (.lst ((partL i x.1 p).map mT))
  all : ∀ m ∈ p, deg i m.1 ∈ es.map (·.1)
  no : ∀ x ∈ es, ∃ m ∈ p, deg i m.1 = x.1
theorem one_key {es : List (Nat × Nat)} {x y : Nat × Nat} (h : (es.map (·.1)).Nodup) (hx : x ∈ es) (hy : y ∈ es) (e : x.1 = y.1) : x = y := by
  induction es with
  | nil => cases hx
  | cons z es ih =>
    have h1 : z.1 ∉ es.map (·.1) ∧ (es.map (·.1)).Nodup := List.nodup_cons.mp h
    rcases List.mem_cons.mp hx with a | a <;> rcases List.mem_cons.mp hy with b | b
    · rw [a, b]
    · exact (h1.1 (List.mem_map.mpr ⟨y, b, by rw [← e, a]⟩)).elim
    · exact (h1.1 (List.mem_map.mpr ⟨x, a, by rw [e, b]⟩)).elim
    · exact ih h1.2 a b
theorem one_loc {es : List (Nat × Nat)} {x y : Nat × Nat} (h : (es.map (·.2)).Nodup) (hx : x ∈ es) (hy : y ∈ es) (e : x.2 = y.2) : x = y := by
  induction es with
  | nil => cases hx
  | cons z es ih =>
    have h1 : z.2 ∉ es.map (·.2) ∧ (es.map (·.2)).Nodup := List.nodup_cons.mp h
    rcases List.mem_cons.mp hx with a | a <;> rcases List.mem_cons.mp hy with b | b
    · rw [a, b]
    · exact (h1.1 (List.mem_map.mpr ⟨y, b, by rw [← e, a]⟩)).elim
    · exact (h1.1 (List.mem_map.mpr ⟨x, a, by rw [e, b]⟩)).elim
    · exact ih h1.2 a b
theorem Far.len {st s : Store} {i : Nat} {p : Pl} {es : List (Nat × Nat)} (h : Far st i p es s) : st.length < s.length := by
  obtain ⟨g, rfl⟩ := h.sh
  simp
/-- one member more: the entry of its power is there -/
theorem Far.old {st s : Store} {i : Nat} {p : Pl} {es : List (Nat × Nat)} {m : Mb} {x : Nat × Nat} (h : Far st i p es s) (hx : x ∈ es) (hd : deg i m.1 = x.1) :
    Far st i (p ++ [m]) es ((s ++ [Ob.lst []]).set x.2 (.lst ((partL i x.1 p).map mT ++ [mT (zr i m.1, m.2)]))) := by
  have hl := h.len
  have hat := h.at_
  obtain ⟨g, hg⟩ := h.sh
  refine ⟨?_, h.n1, h.n2, fun y hy => ⟨(hat y hy).1, ?_⟩, fun n hn => ?_, fun y hy => ?_⟩
  · rw [hg, mid_app, set_past (hat x hx).1]
    exact ⟨_, rfl⟩
  · have hyl := (List.getElem?_eq_some_iff.mp (hat y hy).2).1
    rw [part_snoc]
    by_cases e : y = x
    · subst e
      rw [if_pos hd, List.map_append, List.getElem?_set_self (by rw [List.length_append]; omega)]; rfl
    · rw [if_neg (fun z => e (one_key h.n1 hy hx (z.symm.trans hd))), List.getElem?_set_ne (fun z => e (one_loc h.n2 hy hx z.symm)), List.getElem?_append_left hyl, (hat y hy).2]
  · rcases List.mem_append.mp hn with a | a
    · exact h.all n a
    · rw [List.mem_singleton.mp a, hd]; exact List.mem_map.mpr ⟨x, hx, rfl⟩
  · obtain ⟨n, a, b⟩ := h.no y hy
    exact ⟨n, List.mem_append_left _ a, b⟩
/-- one member more, with a new power -/
theorem Far.new {st s : Store} {i : Nat} {p : Pl} {es : List (Nat × Nat)} {m : Mb} (h : Far st i p es s) (hd : deg i m.1 ∉ es.map (·.1)) :
    Far st i (p ++ [m]) (es ++ [(deg i m.1, s.length)]) (((s ++ [Ob.lst []]).set st.length (.dK (pkv (es ++ [(deg i m.1, s.length)])))).set s.length (.lst [mT (zr i m.1, m.2)])) := by
  have hl := h.len
  have hat := h.at_
  obtain ⟨g, hg⟩ := h.sh
  have hold : ∀ y ∈ es, y.2 < s.length := fun y hy => (List.getElem?_eq_some_iff.mp (hat y hy).2).1
  refine ⟨?_, ?_, ?_, fun y hy => ?_, fun n hn => ?_, fun y hy => ?_⟩
  · have e : (s ++ [Ob.lst []]).set st.length (.dK (pkv (es ++ [(deg i m.1, s.length)]))) = st ++ .dK (pkv (es ++ [(deg i m.1, s.length)])) :: (g ++ [.lst []]) := by
      conv => lhs; arg 1; rw [hg]
      rw [mid_app, mid_set]
    rw [e, set_past hl]
    exact ⟨_, rfl⟩
  · rw [List.map_append]
    refine List.nodup_append.mpr ⟨h.n1, by simp, fun a ha b hb e => ?_⟩
    have e2 : b = deg i m.1 := List.mem_singleton.mp hb
    rw [e, e2] at ha
    exact hd ha
  · rw [List.map_append]
    refine List.nodup_append.mpr ⟨h.n2, by simp, fun a ha b hb e => ?_⟩
    have e2 : b = s.length := List.mem_singleton.mp hb
    obtain ⟨y, hy, rfl⟩ := List.mem_map.mp ha
    have := hold y hy
    omega
  · rcases List.mem_append.mp hy with hy | hy
    · refine ⟨(hat y hy).1, ?_⟩
      have h1 := hold y hy
      have h2 := (hat y hy).1
      rw [List.getElem?_set_ne (by omega), List.getElem?_set_ne (by omega), List.getElem?_append_left h1, (hat y hy).2, part_snoc, if_neg (fun e : deg i m.1 = y.1 => hd (by rw [e]; exact List.mem_map.mpr ⟨y, hy, rfl⟩))]
    · rw [List.mem_singleton.mp hy]
      refine ⟨hl, ?_⟩
      have hp : partL i (deg i m.1) p = [] := by
        unfold partL
        rw [List.map_eq_nil_iff, List.filter_eq_nil_iff]
        intro n hn e
        have := h.all n hn
        rw [of_decide_eq_true e] at this
        exact hd this
      show (((s ++ [Ob.lst []]).set st.length _).set s.length _)[s.length]? = _
      rw [List.getElem?_set_self (by rw [List.length_set, List.length_append]; simp), part_snoc, if_pos rfl, hp]; rfl
  · rw [List.map_append]
    rcases List.mem_append.mp hn with a | a
    · exact List.mem_append_left _ (h.all n a)
    · rw [List.mem_singleton.mp a]; exact List.mem_append_right _ (List.mem_singleton.mpr rfl)
  · rcases List.mem_append.mp hy with hy | hy
    · obtain ⟨n, a, b⟩ := h.no y hy
      exact ⟨n, List.mem_append_left _ a, b⟩
    · rw [List.mem_singleton.mp hy]
      exact ⟨m, List.mem_append_right _ (List.mem_singleton.mpr rfl), rfl⟩
theorem Far.few {st s : Store} {i : Nat} {p : Pl} {es : List (Nat × Nat)} (h : Far st i p es s) : es.length ≤ p.length := by
  have h1 : (es.map (·.1)).length ≤ (p.map fun m => deg i m.1).length := by
    refine List.Nodup.length_le_of_subset h.n1 fun c hc => ?_
    obtain ⟨x, hx, rfl⟩ := List.mem_map.mp hc
    obtain ⟨m, hm, e⟩ := h.no x hx
    exact List.mem_map.mpr ⟨m, hm, e⟩
  simpa using h1
/-! ### a turn of parts_by -/
abbrev paB : XS := xsSeq (xsSet 5 (xBin addT (xBin addT (xSl (xVar 3) none (some (xVar 1))) (xCall tupT (xCons (xC (.int 0)) xNil))) (xSl (xVar 3) (some (xBin addT (xVar 1) (xC (.int 1)))) none)))
    (xsExpr (xMeth "list" appendT (xMethX "dict" setdefT (xVar 2) (xCons (xBin ixA (xVar 3) (xVar 1)) (xCons (xCall lstT xNil) xNil))) (xCons (xCall tupT (xCons (xVar 5) (xCons (xVar 4) xNil))) xNil)))
theorem isDictK {st : Store} {l : Nat} {kvs : List (Key × T)} (h : st[l]? = some (.dK kvs)) : isTyX "dict" (.ref l) st = true := by simp [isTyX, isTy, h]
theorem pa_turn {t : T} {st s : Store} {i n : Nat} {p : Pl} {es : List (Nat × Nat)} {m : Mb} {o5 o6 : Option T} (h : Far st i p es s) (hk : m.1.length = n) (hi : i < n) (hn : n ≤ 1000) (hl : p.length < 1000) :
    ∃ es' s', paB [some t, some (.int (i : Int)), some (.ref st.length), some (kT m.1), some (fq m.2), o5, o6] s = some (.nx [some t, some (.int (i : Int)), some (.ref st.length), some (kT m.1), some (fq m.2), some (kT (zr i m.1)), o6] s') ∧ Far st i (p ++ [m]) es' s' := by
  have hre := rest_ok (e := [some t, some (.int (i : Int)), some (.ref st.length), some (kT m.1), some (fq m.2), o5, o6]) (s := s) (iK := 3) (iP := 1) (k := m.1) rfl rfl hk hi hn
  have hd1 : s[st.length]? = some (.dK (pkv es)) := by obtain ⟨g, hg⟩ := h.sh; rw [hg]; exact mid_get
  have hd2 : (s ++ [Ob.lst []])[st.length]? = some (.dK (pkv es)) := getA hd1
  have hat := at_key (k := m.1) (i := i) (by omega)
  have hlen := h.len
  have hfew := h.few
  have args : ∀ u s', setdefT (.ref st.length) [.int ((deg i m.1 : Nat) : Int), .ref s.length] (s ++ [Ob.lst []]) = some (u, s') → xMethX "dict" setdefT (xVar 2) (xCons (xBin ixA (xVar 3) (xVar 1)) (xCons (xCall lstT xNil) xNil)) [some t, some (.int (i : Int)), some (.ref st.length), some (kT m.1), some (fq m.2), some (kT (zr i m.1)), o6] s = some (u, s') := by
    intro u s' hu
    simp only [xMethX, r_xVar, List.getElem?_cons_succ, List.getElem?_cons_zero, Option.bind_some, isDictK hd1, if_true, r_xCons, r_xBin, kT, r_ixTup, hat, Option.map_some, r_xCall, r_xNil, r_lst, List.length_nil, sz0, hu]
  have z2 : [kT (zr i m.1), fq m.2].length ≤ sizeLine := by simp
  by_cases hin : deg i m.1 ∈ es.map (·.1)
  · obtain ⟨x, hx, hxd⟩ := List.mem_map.mp hin
    have hlk := dkL_some (v := fun x : Nat × Nat => T.ref x.2) h.n1 hx
    have hsd : setdefT (.ref st.length) [.int ((deg i m.1 : Nat) : Int), .ref s.length] (s ++ [Ob.lst []]) = some (.ref x.2, s ++ [Ob.lst []]) := by
      have hlk2 : lookK (pkv es) (Sum.inl ((x.1 : Nat) : Int)) = some (T.ref x.2) := hlk
      rw [← hxd]
      simp only [setdefT, dAt, hd2, Option.map_some, Option.bind_some, dLook, toKy, hlk2]
    have hxa := (h.at_ x hx).2
    have hxa2 : (s ++ [Ob.lst []])[x.2]? = some (.lst ((partL i x.1 p).map mT)) := getA hxa
    have hz : ((partL i x.1 p).map mT).length < sizeLine := small1000 (by rw [List.length_map]; have := part_len i x.1 p; omega)
    refine ⟨es, _, ?_, h.old hx hxd.symm⟩
    refine sq (e' := [some t, some (.int (i : Int)), some (.ref st.length), some (kT m.1), some (fq m.2), some (kT (zr i m.1)), o6]) (st' := s) ?_ ?_
    · rw [r_xsSet, hre]; rfl
    · rw [r_xsExpr]
      unfold xMeth
      rw [args _ _ hsd]
      simp only [Option.bind_some, isTy, hxa2, beq_self_eq_true, if_true, r_xCons, r_xCall, r_xVar, List.getElem?_cons_succ, List.getElem?_cons_zero, r_xNil, r_tup, z2, appendT, hz, Option.map_some]
      rfl
  · have hlk := dkL_none (v := fun x : Nat × Nat => T.ref x.2) hin
    have hnew := dkL_new (v := fun x : Nat × Nat => T.ref x.2) (x := (deg i m.1, s.length)) hin
    have hz0 : (pkv es).length < sizeLine := small1000 (by unfold pkv dkL; rw [List.length_map]; omega)
    have hsd : setdefT (.ref st.length) [.int ((deg i m.1 : Nat) : Int), .ref s.length] (s ++ [Ob.lst []]) = some (.ref s.length, (s ++ [Ob.lst []]).set st.length (.dK (pkv (es ++ [(deg i m.1, s.length)])))) := by
      have hlk2 : lookK (pkv es) (Sum.inl ((deg i m.1 : Nat) : Int)) = none := hlk
      simp only [setdefT, dAt, hd2, Option.map_some, Option.bind_some, dLook, toKy, hlk2, dStore, hz0, if_true]
      rw [show storeK (pkv es) (Sum.inl ((deg i m.1 : Nat) : Int)) (T.ref s.length) = pkv (es ++ [(deg i m.1, s.length)]) from hnew]
    have hg : ((s ++ [Ob.lst []]).set st.length (.dK (pkv (es ++ [(deg i m.1, s.length)]))))[s.length]? = some (.lst []) := by
      rw [List.getElem?_set_ne (by omega)]; exact last_get
    have hzz : ([] : List T).length < sizeLine := by decide
    refine ⟨_, _, ?_, h.new hin⟩
    refine sq (e' := [some t, some (.int (i : Int)), some (.ref st.length), some (kT m.1), some (fq m.2), some (kT (zr i m.1)), o6]) (st' := s) ?_ ?_
    · rw [r_xsSet, hre]; rfl
    · rw [r_xsExpr]
      unfold xMeth
      rw [args _ _ hsd]
      simp only [Option.bind_some, isTy, hg, beq_self_eq_true, if_true, r_xCons, r_xCall, r_xVar, List.getElem?_cons_succ, List.getElem?_cons_zero, r_xNil, r_tup, z2, appendT, hzz, Option.map_some]
      rfl
end
end K03
/-! R15 -/
set_option Elab.async false
set_option linter.all false
set_option maxRecDepth 100000
set_option maxHeartbeats 4000000
set_option exponentiation.threshold 4000
/-! sizes by one number; what stands for a list of members; parts by the package -/
namespace K03
open PySem PySem.Spec PyProof.Rows L2 TL LamX Poly
noncomputable section
variable [Tb]
/-- so many factors of drawn size -/
abbrev Fr (k : Nat) (x : Rat) : Prop := FrB (12 ^ k) (84 ^ k) x
theorem Fr.mul {a b : Nat} {x y : Rat} (h : Fr a x) (g : Fr b y) : Fr (a + b) (x * y) := by
  have := FrB.mul h g
  rw [← Nat.pow_add, ← Nat.pow_add] at this
  exact this
theorem Fr.up {a b : Nat} {x : Rat} (h : Fr a x) (hab : a ≤ b) : Fr b x := by
  have h1 := FrB.wide (E := 12 ^ (b - a)) h
  rw [← Nat.pow_add, Nat.add_sub_cancel' hab] at h1
  refine FrB.up h1 ?_
  have : 84 ^ b = 84 ^ a * 84 ^ (b - a) := by rw [← Nat.pow_add, Nat.add_sub_cancel' hab]
  rw [this]
  exact Nat.mul_le_mul_left _ (Nat.pow_le_pow_left (by decide) _)
theorem Fr.one : Fr 0 1 := ⟨1, by decide +kernel, by decide⟩
theorem Fr.pow {a : Nat} {x : Rat} (h : Fr a x) : ∀ c : Nat, Fr (a * c) (x ^ c)
  | 0 => by rw [Rat.pow_zero]; exact Fr.one
  | c + 1 => by rw [Rat.pow_succ]; exact (Fr.pow h c).mul h
structure PF (n k N : Nat) (p : Pl) : Prop where
  w : Wide n p
  f : ∀ m ∈ p, Fr k m.2
  l : p.length ≤ N
theorem PF.pb {n k N : Nat} {p : Pl} (h : PF n k N p) : PB n (12 ^ k) (84 ^ k) N p := ⟨h.w, h.f, h.l⟩
theorem PF.up {n k N l M : Nat} {p : Pl} (h : PF n k N p) (hk : k ≤ l) (hN : N ≤ M) : PF n l M p := ⟨h.w, fun m hm => (h.f m hm).up hk, Nat.le_trans h.l hN⟩
theorem PF.app {n k N M : Nat} {p q : Pl} (h : PF n k N p) (g : PF n k M q) : PF n k (N + M) (p ++ q) :=
  ⟨wide_app h.w g.w, fun m hm => (List.mem_append.mp hm).elim (h.f m) (g.f m), by rw [List.length_append]; exact Nat.add_le_add h.l g.l⟩
theorem PF.mul {n k N l M : Nat} {p q : Pl} (h : PF n k N p) (g : PF n l M q) : PF n (k + l) (N * M) (mulL p q) := by
  refine ⟨wide_mul h.w g.w, fun m hm => ?_, by rw [mul_len]; exact Nat.mul_le_mul h.l g.l⟩
  obtain ⟨a, ha, hm⟩ := List.mem_flatMap.mp hm
  obtain ⟨b, hb, rfl⟩ := List.mem_map.mp hm
  exact (h.f a ha).mul (g.f b hb)
theorem PF.one (n : Nat) : PF n 0 1 (oneL n) := ⟨wide_one n, fun m hm => by rw [List.mem_singleton.mp hm]; exact Fr.one, Nat.le_refl _⟩
theorem PF.pow {n k N : Nat} {p : Pl} (h : PF n k N p) : ∀ c : Nat, PF n (k * c) (N ^ c) (powL n p c)
  | 0 => PF.one n
  | c + 1 => (PF.pow h c).mul h
theorem PF.part {n k N i c : Nat} {p : Pl} (h : PF n k N p) : PF n k N (partL i c p) := ⟨(part_pb h.pb).w, (part_pb h.pb).f, (part_pb h.pb).l⟩
theorem PF.scl {n k N l : Nat} {p : Pl} {c : Rat} (h : PF n k N p) (hc : Fr l c) : PF n (k + l) N (sclL p c) := by
  refine ⟨wide_scl h.w, fun m hm => ?_, by unfold sclL; rw [List.length_map]; exact h.l⟩
  obtain ⟨a, ha, rfl⟩ := List.mem_map.mp hm
  exact (h.f a ha).mul hc
theorem p84 {k : Nat} (h : k ≤ 180) : 84 ^ k < 2 ^ 1200 := Nat.lt_of_le_of_lt (Nat.pow_le_pow_right (by decide) h) (by decide)
theorem p12 {k : Nat} (h : k ≤ 300) : 12 ^ k < 2 ^ 1200 := Nat.lt_of_le_of_lt (Nat.pow_le_pow_right (by decide) h) (by decide)
theorem p84n {k N : Nat} (h : k ≤ 150) (hN : N ≤ 1000000) : N * 84 ^ k < 2 ^ 1200 :=
  Nat.lt_of_le_of_lt (Nat.mul_le_mul hN (Nat.pow_le_pow_right (by decide) h)) (by decide)
theorem pos12 (k : Nat) : 0 < 12 ^ k := Nat.pow_pos (by decide)
theorem Fr.sz {k : Nat} {x : Rat} (h : Fr k x) (hk : k ≤ 180) : Sz 1200 x := FrB.sz (pos12 k) h (p12 (by omega)) (p84 hk)
theorem PF.nrm {n k N : Nat} {p : Pl} (h : PF n k N p) : PB n (12 ^ k) (N * 84 ^ k) N (nrm p) := PB.nrm h.pb
/-! ### the package, the law: what stands for X goes to what stands for what is done with X -/
section
variable {t1 t2 : T} {X Y : Pl} {st : Store} {n k N l M : Nat}
theorem mulN (h1 : IsP t1 (nrm X)) (h2 : IsP t2 (nrm Y)) (hX : PF n k N X) (hY : PF n l M Y) (hk : k ≤ 150) (hl : l ≤ 150) (hn : n ≤ 1000) (hN : N ≤ 1000) (hM : M ≤ 1000) (hNM : N * M < 1000) : S_multiplied [t1, t2] st = some (plT (nrm (mulL X Y)), st) := by
  rw [multiplied_ok h1 h2 hX.nrm hY.nrm (pos12 k) (pos12 l) (p12 (by omega)) (p12 (by omega)) (by rw [← Nat.pow_add]; exact p12 (by omega)) (p84n hk (by omega)) (p84n hl (by omega)) hn hN hM hNM, nrm_one (mul_same (nrm_same X) (nrm_same Y))]
theorem lmulN (h1 : IsP t1 (nrm X)) (h2 : IsP t2 (nrm Y)) (hX : PF n k N X) (hY : PF n l M Y) (hkl : k + l ≤ 150) (hn : n ≤ 1000) (hN : N ≤ 1000) (hM : M ≤ 1000) (hNM : N * M < 1000) : S__law_multiplied [t1, t2] st = some (plP (nrm (mulL X Y)), st) := by
  have hb : N * M * (N * 84 ^ k * (M * 84 ^ l)) < 2 ^ 1200 := by
    have e : N * M * (N * 84 ^ k * (M * 84 ^ l)) = (N * M) * (N * M) * 84 ^ (k + l) := by
      rw [Nat.pow_add]
      simp only [Nat.mul_assoc, Nat.mul_comm, Nat.mul_left_comm]
    rw [e]
    exact p84n hkl (Nat.le_trans (Nat.mul_le_mul (Nat.le_of_lt hNM) (Nat.le_of_lt hNM)) (by decide))
  rw [law_multiplied_ok h1 h2 hX.nrm hY.nrm (pos12 k) (pos12 l) (p12 (by omega)) (p12 (by omega)) (by rw [← Nat.pow_add]; exact p12 (by omega)) (p84n (by omega) (by omega)) (p84n (by omega) (by omega)) hb hn hNM, nrm_one (mul_same (nrm_same X) (nrm_same Y))]
theorem plus_size (hk : k ≤ 150) (hN : N ≤ 500) (hM : M ≤ 500) : N * 84 ^ k + M * (M * 84 ^ k) < 2 ^ 1200 := by
  have e : N * 84 ^ k + M * (M * 84 ^ k) = (N + M * M) * 84 ^ k := by rw [Nat.add_mul, Nat.mul_assoc]
  have : M * M ≤ 500 * 500 := Nat.mul_le_mul hM hM
  rw [e]
  exact p84n hk (by omega)
theorem app_nrm : nrm (nrm X ++ nrm Y) = nrm (X ++ Y) := nrm_one (app_same (nrm_same X) (nrm_same Y))
theorem plusN (h1 : IsP t1 (nrm X)) (h2 : IsP t2 (nrm Y)) (hX : PF n k N X) (hY : PF n k M Y) (hk : k ≤ 150) (hN : N ≤ 500) (hM : M ≤ 500) : S_plus [t1, t2] st = some (plT (nrm (X ++ Y)), st) := by
  rw [plus_ok h1 h2 hX.nrm hY.nrm (nrm_can X).nodup (pos12 k) (p12 (by omega)) (plus_size hk hN hM) (p84n hk (by omega)) (by omega), plus_nrm (nrm_can X).nodup, app_nrm]
theorem lplusN (h2 : IsP t2 (nrm Y)) (hX : PF n k N X) (hY : PF n k M Y) (hk : k ≤ 150) (hN : N ≤ 500) (hM : M ≤ 500) : S__law_plus [plP (nrm X), t2] st = some (plP (nrm (X ++ Y)), st) := by
  rw [law_plus_ok h2 hX.nrm hY.nrm (nrm_can X).nodup (pos12 k) (p12 (by omega)) (plus_size hk hN hM) (p84n hk (by omega)) (by omega), plus_nrm (nrm_can X).nodup, app_nrm]
theorem raiseN {q : Pl} {c : Nat} (h1 : IsP t1 (nrm q)) (hq : PF n k M q) (hM : 1 ≤ M) (hk : k * (c + 1) ≤ 150) (hn : n ≤ 1000) (hM2 : M ^ c * M ^ c < 1000) (hM3 : M * M < 1000) : S_raised [.int (n : Int), t1, .int (c : Int)] st = some (plT (nrm (powL n q c)), st) := by
  have hw := nrm_wide hq.w
  have e : ∀ j, nrm (powL n (nrm q) j) = nrm (powL n q j) := fun j => nrm_one (pow_same (nrm_same q) j)
  by_cases h0 : c = 0
  · have hr := raised_ok (C := 1) (D := 12 ^ k) (B := M * 84 ^ k) (N := M) (c := c) (st := st) h1 hw (nrm_can q) (fun j hj => by
      rw [e]
      have hj2 : j = 0 ∨ j = 1 := by omega
      rcases hj2 with rfl | rfl
      · exact ((PF.pow hq 0).up (Nat.zero_le k) (show M ^ 0 ≤ M by simpa using hM)).nrm
      · have := (PF.pow hq 1).nrm
        rw [Nat.mul_one, Nat.pow_one] at this
        exact this) (pos12 k) (p12 (by rw [h0] at hk; omega)) (by rw [← Nat.pow_add]; exact p12 (by rw [h0] at hk; omega)) (p84n (by rw [h0] at hk; omega) (by
        have : M * 1 ≤ M * M := Nat.mul_le_mul_left M hM
        omega)) hn hM3 (by
        have : M * 1 ≤ M * M := Nat.mul_le_mul_left M hM
        omega) (by omega) (Nat.le_refl _)
    rw [hr, e]
  · have hMc : M ^ c ≤ 1000 := by
      have : M ^ c * 1 ≤ M ^ c * M ^ c := Nat.mul_le_mul_left _ (Nat.pow_pos hM)
      omega
    have hkc : k * c ≤ 150 := Nat.le_trans (Nat.mul_le_mul_left k (Nat.le_succ c)) hk
    have hr := raised_ok (C := c) (D := 12 ^ (k * c)) (B := M ^ c * 84 ^ (k * c)) (N := M ^ c) (c := c) (st := st) h1 hw (nrm_can q) (fun j hj => by
      rw [e]
      exact ((PF.pow hq j).up (Nat.mul_le_mul_left k hj) (Nat.pow_le_pow_right hM hj)).nrm) (pos12 _) (p12 (by omega)) (by rw [← Nat.pow_add]; exact p12 (by omega)) (p84n hkc (by omega)) hn hM2 hMc (Nat.le_refl _) (by omega)
    rw [hr, e]
end
end
end K03
/-! R16 -/
set_option Elab.async false
set_option linter.all false
set_option maxRecDepth 100000
set_option maxHeartbeats 4000000
set_option exponentiation.threshold 4000
/-! parts by the package; powers in order -/
namespace K03
open PySem PySem.Spec PyProof.Rows L2 TL LamX Poly
noncomputable section
variable [Tb]
theorem Far.start {st : Store} {i : Nat} : Far st i [] [] (st ++ [Ob.dK []]) :=
  ⟨⟨[], rfl⟩, List.nodup_nil, List.nodup_nil, (fun x hx => by cases hx), (fun m hm => by cases hm), (fun x hx => by cases hx)⟩
def paV (i : Nat) (p : Pl) (x : Nat × Nat) : T := plT (partL i x.1 p)
theorem dkL_len {α : Type} {v : Nat × α → T} {es : List (Nat × α)} : (dkL v es).length = es.length := List.length_map _
theorem parts_ok {t : T} {p : Pl} {st : Store} {n i : Nat} (h1 : IsP t p) (hw : Wide n p) (hi : i < n) (hn : n ≤ 1000) (hl : p.length < 1000) :
    ∃ g l es, F_parts_by [t, .int (i : Int)] st = some (.ref l, st ++ g) ∧ (st ++ g)[l]? = some (.dK (dkL (paV i p) es)) ∧ (es.map (·.1)).Nodup ∧ (∀ m ∈ p, deg i m.1 ∈ es.map (·.1)) ∧ (∀ x ∈ es, ∃ m ∈ p, deg i m.1 = x.1) ∧ es.length ≤ p.length := by
  obtain ⟨e', s', hf, es, o3, o4, o5, rfl, F⟩ := for_enc (fi := xiSeq (xVar 0)) (g := xgTup 2 (xgsCons (xgName 3) (xgsCons (xgName 4) xgsNil))) (b := paB)
    (e := [some t, some (.int (i : Int)), some (.ref st.length), none, none, none, none]) (st := st ++ [Ob.dK []]) (s1 := st ++ [Ob.dK []])
    (it := fun _ => some (p.map mT)) (qs := p) mT
    (fun j e s => ∃ es o3 o4 o5, e = [some t, some (.int (i : Int)), some (.ref st.length), o3, o4, o5, none] ∧ Far st i (p.take j) es s)
    (seq_p h1 rfl) (fun k e s h => rfl) ⟨[], none, none, none, rfl, Far.start⟩
    (fun j e s m hm h => by
      obtain ⟨es, o3, o4, o5, rfl, F⟩ := h
      have hk := hw m (List.mem_of_getElem? hm)
      obtain ⟨es', s', h2, F'⟩ := pa_turn (t := t) (o5 := o5) (o6 := none) F hk hi hn (by rw [List.length_take]; omega)
      refine ⟨[some t, some (.int (i : Int)), some (.ref st.length), some (kT m.1), some (fq m.2), o5, none], s, _, s', by simp [xgTup, xgsCons, xgsNil, mT], h2, es', _, _, _, rfl, ?_⟩
      rw [take_step hm]; exact F')
  rw [List.take_length] at F
  have hfew := F.few
  obtain ⟨g0, hs⟩ := F.sh
  have hdl : s'[st.length]? = some (.dK (pkv es)) := by rw [hs]; exact mid_get
  have hlk : (s'.set st.length (.lkK (pkv es)))[st.length]? = some (.lkK (pkv es)) := lg hdl
  have hka : keysAt (.lkK (pkv es)) = some (es.map fun x => T.int (x.1 : Int)) := by
    show some ((pkv es).map fun p => unKy p.1) = _
    unfold pkv dkL
    rw [List.map_map]; rfl
  have hdc := dc_fold (st := s'.set st.length (.lkK (pkv es))) (s1 := s'.set st.length (.lkK (pkv es))) (fi := xiDict (xVar 2)) (g := xgName 6) (vs := [6]) (tk := xVar 6) (tv := xCall tupleT (xCons (xBin ixB (xVar 2) (xVar 6)) xNil)) (e := [some t, some (.int (i : Int)), some (.ref st.length), o3, o4, o5, none]) (it := fun s => (s[st.length]?).bind keysAt) (ts := es.map fun x => T.int (x.1 : Int))
    (fun t => (toKy t).getD (.inl 0)) (fun t => match t with
      | .int c => plT (partL i c.toNat p)
      | _ => .non)
    (by simp only [xiDict, r_xVar, List.getElem?_cons_succ, List.getElem?_cons_zero, Option.bind_some, hlk, hka, Option.map_some])
    (fun kvs => by
      have : ((s'.set st.length (.lkK (pkv es))) ++ [Ob.dK kvs])[st.length]? = some (.lkK (pkv es)) := getA hlk
      simp only [this, Option.bind_some, hka])
    (by rw [List.length_map]; omega)
    (fun x hx kvs => by
      obtain ⟨y, hy, rfl⟩ := List.mem_map.mp hx
      have hg1 : ((s'.set st.length (.lkK (pkv es))) ++ [Ob.dK kvs])[st.length]? = some (.lkK (pkv es)) := getA hlk
      have hya := F.at_ y hy
      have hg2 : ((s'.set st.length (.lkK (pkv es))) ++ [Ob.dK kvs])[y.2]? = some (.lst ((partL i y.1 p).map mT)) := getA (by rw [List.getElem?_set_ne (by omega)]; exact hya.2)
      have hl2 : lookK (pkv es) (Sum.inl ((y.1 : Nat) : Int)) = some (T.ref y.2) := dkL_some (v := fun x : Nat × Nat => T.ref x.2) F.n1 hy
      refine ⟨[some t, some (.int (i : Int)), some (.ref st.length), o3, o4, o5, some (.int (y.1 : Int))], .int (y.1 : Int), rfl, rfl, rfl, ?_⟩
      simp only [r_xCall, r_xCons, r_xBin, r_xVar, List.getElem?_cons_succ, List.getElem?_cons_zero, Option.bind_some, ixB, dAt, hg1, Option.map_some, toKy, hl2, r_xNil, tuple_l hg2, Int.toNat_natCast])
  have hfold := dkL_fold (v := paV i p) es [] (by simpa using F.n1)
  rw [List.foldl_map] at hdc
  have hfe : es.foldl (fun kvs x => storeK kvs ((toKy (T.int (x.1 : Int))).getD (.inl 0)) (match T.int (x.1 : Int) with
      | .int c => plT (partL i c.toNat p)
      | _ => .non)) [] = dkL (paV i p) es := by
    refine Eq.trans ?_ hfold
    show _ = es.foldl (fun kvs x => storeK kvs (kyN x.1) (paV i p x)) []
    congr 1
  rw [hfe] at hdc
  refine ⟨(.dK (pkv es) :: g0) ++ [.dK (dkL (paV i p) es)], s'.length, es, ?_, ?_, F.n1, F.all, F.no, hfew⟩
  · refine fn_ret rfl ?_
    refine sq (e' := [some t, some (.int (i : Int)), some (.ref st.length), none, none, none, none]) (st' := st ++ [Ob.dK []]) rfl ?_
    refine sq hf ?_
    rw [r_xsRet]
    unfold xLock
    show Option.map _ (match (some (some (T.ref st.length))) with | some (some (.ref l)) => _ | _ => none) = _
    have hb : ((s'.set st.length (.lkK (pkv es))) ++ [Ob.dK (dkL (paV i p) es)])[st.length]? = some (.lkK (pkv es)) := getA hlk
    have hss : ((s'.set st.length (.lkK (pkv es))) ++ [Ob.dK (dkL (paV i p) es)]).set st.length (.dK (pkv es)) = st ++ ((.dK (pkv es) :: g0) ++ [.dK (dkL (paV i p) es)]) := by
      rw [hs, mid_set, mid_app, mid_set]; rfl
    simp only [hdl, Option.bind_some, lockO, hdc, hb, freeO, Option.map_some, hss, List.length_set]
  · rw [← List.append_assoc, ← hs]; exact last_get
theorem part_ok {t : T} {p : Pl} {st : Store} {n i c : Nat} (h1 : IsP t p) (hw : Wide n p) (hi : i < n) (hn : n ≤ 1000) (hl : p.length < 1000) : S_part_by [t, .int (i : Int), .int (c : Int)] st = some (plT (partL i c p), st) := by
  obtain ⟨g, l, es, hF, hat, n1, hall, hno, _⟩ := parts_ok (st := st) h1 hw hi hn hl
  have key : ((lookK (dkL (paV i p) es) (Sum.inl (c : Int))).getD (.tup [])) = plT (partL i c p) := by
    by_cases h : c ∈ es.map (·.1)
    · obtain ⟨x, hx, rfl⟩ := List.mem_map.mp h
      have : lookK (dkL (paV i p) es) (Sum.inl ((x.1 : Nat) : Int)) = some (paV i p x) := dkL_some n1 hx
      rw [this]; rfl
    · have : lookK (dkL (paV i p) es) (Sum.inl (c : Int)) = none := dkL_none h
      have hp : partL i c p = [] := by
        unfold partL
        rw [List.map_eq_nil_iff, List.filter_eq_nil_iff]
        intro m hm e
        exact h (of_decide_eq_true e ▸ hall m hm)
      rw [this, hp]; rfl
  refine cut_pure (g := g) (fn_ret rfl ?_) (below_T _ _)
  show B_part_by [some t, some (.int (i : Int)), some (.int (c : Int))] st = _
  unfold B_part_by
  simp only [r_xsRet, xMethX, r_xCall, r_xCons, r_xVar, List.getElem?_cons_succ, List.getElem?_cons_zero, Option.bind_some, r_xNil, hF, isDictK hat, if_true, r_tup, List.length_nil, sz0, getOrT, dAt, hat, Option.map_some, dLook, toKy, key]
/-! ### powers from the highest to the lowest -/
def geN (a b : Nat) : Bool := decide (b ≤ a)
def downL (cs : List Nat) : List Nat := cs.mergeSort geN
theorem down_perm (cs : List Nat) : (downL cs).Perm cs := List.mergeSort_perm _ _
theorem down_fall {cs : List Nat} (h : cs.Nodup) : (downL cs).Pairwise (· > ·) := by
  have ht : ∀ a b c : Nat, geN a b = true → geN b c = true → geN a c = true := fun a b c h1 h2 => decide_eq_true (Nat.le_trans (of_decide_eq_true h2) (of_decide_eq_true h1))
  have hto : ∀ a b : Nat, (geN a b || geN b a) = true := fun a b => by
    unfold geN
    rcases Nat.le_total a b with h | h
    · simp [h]
    · simp [h]
  have h1 : (downL cs).Pairwise fun a b => geN a b = true := List.pairwise_mergeSort ht hto cs
  have h2 : (downL cs).Nodup := (down_perm cs).nodup_iff.mpr h
  refine (h1.and h2).imp fun {a b} hab => ?_
  have := of_decide_eq_true hab.1
  have := hab.2
  omega
theorem down_srt (cs : List Nat) : srt true (cs.map fun c : Nat => PyData.int (c : Int)) (cs.map fun c : Nat => T.int (c : Int)) = (downL cs).map fun c : Nat => T.int (c : Int) := by
  unfold srt downL
  have e1 : (cs.map fun c : Nat => PyData.int (c : Int)).zip (cs.map fun c : Nat => T.int (c : Int)) = cs.map fun c : Nat => (PyData.int (c : Int), T.int (c : Int)) := by
    induction cs with
    | nil => rfl
    | cons k ks ih => rw [List.map_cons, List.map_cons, List.zip_cons_cons, ih]; rfl
  have hge : ∀ a b : Nat, geN a b = PySem.W.dataLe true (Prod.fst : PyData × T → PyData) (PyData.int (a : Int), T.int (a : Int)) (PyData.int (b : Int), T.int (b : Int)) := fun a b => by
    have h := congrFun (congrFun (PySem.W.dataGe_int (fun b : Int => b)) (a : Int)) (b : Int)
    have h2 : decide ((b : Int) ≤ (a : Int)) = geN a b := by
      unfold geN
      by_cases h : b ≤ a
      · rw [decide_eq_true h, decide_eq_true (by omega)]
      · rw [decide_eq_false h, decide_eq_false (by omega)]
    rw [← h2, ← h]; rfl
  rw [e1, ← PySem.W.sort_maps (r := geN) (s := PySem.W.dataLe true (Prod.fst : PyData × T → PyData)) (fun c : Nat => (PyData.int (c : Int), T.int (c : Int))) fun a _ b _ => hge a b, List.map_map]
  rfl
theorem toD_nats (st : Store) : ∀ cs : List Nat, optAll (toD st dpth) (cs.map fun c : Nat => T.int (c : Int)) = some (cs.map fun c : Nat => PyData.int (c : Int))
  | [] => rfl
  | c :: cs => by
    have h : toD st dpth (.int (c : Int)) = some (.int (c : Int)) := rfl
    simp only [List.map_cons, optAll, h, toD_nats st cs]
theorem sortOk_nats {cs : List Nat} (h : cs.length ≤ 1000) : sortOk (cs.map fun c : Nat => PyData.int (c : Int)) = true := by
  unfold sortOk
  simp only [Bool.and_eq_true, Bool.or_eq_true]
  refine ⟨⟨⟨decide_eq_true (by rw [List.length_map]; exact Nat.le_of_lt (small1000 h)), ?_⟩, ?_⟩, .inl (.inr ?_)⟩
  · rw [List.all_eq_true]
    intro d hd
    rw [List.all_eq_true]
    intro d' hd'
    obtain ⟨a, _, rfl⟩ := List.mem_map.mp hd
    obtain ⟨b, _, rfl⟩ := List.mem_map.mp hd'
    rfl
  · rw [List.all_eq_true]
    intro d hd
    obtain ⟨a, _, rfl⟩ := List.mem_map.mp hd
    exact decide_eq_true (by simp [PyData.depth])
  · rw [List.all_eq_true]
    intro d hd
    obtain ⟨a, _, rfl⟩ := List.mem_map.mp hd
    rfl
theorem sorted_down {st : Store} {l : Nat} {v : Nat × Nat → T} {es : List (Nat × Nat)} (h : st[l]? = some (.dK (dkL v es))) (hl : es.length ≤ 1000) : sortedG true (.ref l) st = some (.ref st.length, st ++ [.lst ((downL (es.map (·.1))).map fun c : Nat => T.int (c : Int))]) := by
  have ek : ((dkL v es).map fun p => unKy p.1) = (es.map (·.1)).map fun c : Nat => T.int (c : Int) := by
    unfold dkL
    rw [List.map_map, List.map_map]; rfl
  unfold sortedG sortSrc
  simp only [h, Option.bind_some, ek, toD_nats, sortOk_nats (show (es.map (·.1)).length ≤ 1000 by rw [List.length_map]; exact hl), if_true, down_srt]
end
end K03
/-! R17 -/
set_option Elab.async false
set_option linter.all false
set_option maxRecDepth 100000
set_option maxHeartbeats 4000000
set_option exponentiation.threshold 4000
/-! data of polynomials; putting in -/
namespace K03
open PySem PySem.Spec PyProof.Rows L2 TL LamX Poly
noncomputable section
variable [Tb]
def fD (q : Rat) : PyData := .tuple [.int q.num, .int (q.den : Int)]
def mD (m : Mb) : PyData := .tuple [kD m.1, fD m.2]
def pD (p : Pl) : PyData := .tuple (p.map mD)
theorem toD_f (st : Store) (n : Nat) (q : Rat) : toD st (n + 1) (fq q) = some (fD q) := by
  cases n <;> rfl
theorem toD_m (st : Store) (n : Nat) (m : Mb) : toD st (n + 2) (mT m) = some (mD m) := by
  have h1 := toD_k st n m.1
  have h2 := toD_f st n m.2
  show (optAll (toD st (n + 1)) [kT m.1, fq m.2]).map PyData.tuple = _
  simp only [optAll, h1, h2]; rfl
theorem toD_ms (st : Store) (n : Nat) : ∀ p : Pl, optAll (toD st (n + 2)) (p.map mT) = some (p.map mD)
  | [] => rfl
  | m :: p => by simp only [List.map_cons, optAll, toD_m, toD_ms st n p]
theorem toD_T (st : Store) (n : Nat) (p : Pl) : toD st (n + 3) (plT p) = some (pD p) := by
  show (optAll (toD st (n + 2)) (p.map mT)).map PyData.tuple = _
  rw [toD_ms]; rfl
theorem toD_P (st : Store) (n : Nat) (p : Pl) : toD st (n + 3) (plP p) = some (pD p) := by
  show (optAll (toD st (n + 2)) (p.map mT)).map PyData.tuple = _
  rw [toD_ms]; rfl
theorem toD_p {t : T} {p : Pl} (h : IsP t p) (st : Store) (n : Nat) : toD st (n + 3) t = some (pD p) := by
  rcases h with rfl | rfl
  · exact toD_T st n p
  · exact toD_P st n p
theorem isBox_p {t : T} {p : Pl} (h : IsP t p) : isBox t = true := by
  rcases h with rfl | rfl <;> rfl
/-- not wide, not long, of short numbers -/
structure Shy (b : Nat) (p : Pl) : Prop where
  w : ∀ m ∈ p, m.1.length ≤ 7
  e : ∀ m ∈ p, ∀ a ∈ m.1, a < 2 ^ 7
  n : ∀ m ∈ p, m.2.num.natAbs < 2 ^ b ∧ m.2.den < 2 ^ b
theorem nic_k {k : PKey} {j : Nat} (h1 : k.length ≤ 7) (h2 : ∀ a ∈ k, a < 2 ^ 7) : Nic (j + 1) 63 (kD k) := by
  have h := NicAll.map (k := j) (W := 8) (fun n : Nat => PyData.int (n : Int)) k fun a ha => nic_int_of (by rw [Int.natAbs_natCast]; exact h2 a ha) (by decide)
  refine (h.tuple).up (Nat.le_refl _) ?_
  omega
theorem nic_f {q : Rat} {b j : Nat} (h : q.num.natAbs < 2 ^ b ∧ q.den < 2 ^ b) (hb : b ≤ 1900) : Nic (j + 1) (2 * b + 4) (fD q) := by
  have h1 : Nic j (b + 1) (.int q.num) := nic_int_of h.1 hb
  have h2 : Nic j (b + 1) (.int (q.den : Int)) := nic_int_of (by rw [Int.natAbs_natCast]; exact h.2) hb
  have h3 := (NicAll.cons h1 (NicAll.cons h2 NicAll.nil)).tuple
  exact h3.up (Nat.le_refl _) (by omega)
theorem nic_m {m : Mb} {b j : Nat} (h1 : m.1.length ≤ 7) (h2 : ∀ a ∈ m.1, a < 2 ^ 7) (h3 : m.2.num.natAbs < 2 ^ b ∧ m.2.den < 2 ^ b) (hb : b ≤ 1900) : Nic (j + 2) (2 * b + 69) (mD m) := by
  have a1 : Nic (j + 1) 63 (kD m.1) := nic_k h1 h2
  have a2 : Nic (j + 1) (2 * b + 4) (fD m.2) := nic_f h3 hb
  have a3 := (NicAll.cons a1 (NicAll.cons a2 NicAll.nil)).tuple
  exact a3.up (Nat.le_refl _) (by omega)
theorem nic_p {p : Pl} {b j N : Nat} (h : Shy b p) (hb : b ≤ 1900) (hN : p.length ≤ N) : Nic (j + 3) (N * (2 * b + 70)) (pD p) := by
  have a := NicAll.map (k := j + 2) (W := 2 * b + 69) mD p fun m hm => nic_m (h.w m hm) (h.e m hm) (h.n m hm) hb
  exact a.tuple.up (Nat.le_refl _) (Nat.mul_le_mul_right _ hN)
theorem Nic.good {d : PyData} {k W : Nat} (h : Nic k W d) (hk : k ≤ 60) (hW : W ≤ 25000) : goodD d := ⟨h.shaped hk, h.sh, h.nd, Nat.le_trans h.dp hk, h.fits hW⟩
theorem Shy.sub {b : Nat} {p q : Pl} (h : Shy b p) (hq : ∀ m ∈ q, m ∈ p) : Shy b q := ⟨fun m hm => h.w m (hq m hm), fun m hm => h.e m (hq m hm), fun m hm => h.n m (hq m hm)⟩
theorem eq_nil {t : T} {p : Pl} {b : Nat} {st : Store} (h1 : IsP t p) (h : Shy b p) (hb : b ≤ 1900) : TL.eqT t (.tup []) st = some (.bl (decide (p = [])), st) := by
  have hs : SeqAt.shaped (pD p) = true := (nic_p (j := 0) h hb (Nat.le_refl _)).shaped (by decide)
  have hs2 : SeqAt.shaped (.tuple []) = true := by decide +kernel
  have hd : toD st dpth t = some (pD p) := toD_p h1 st 9
  have hd2 : toD st dpth (.tup []) = some (.tuple []) := rfl
  rw [eqT_box (isBox_p h1) rfl]
  unfold eqdT
  rw [hd, hd2]
  simp only [hs, hs2, Bool.and_self, if_true]
  cases p with
  | nil =>
    have : PyData.eqv (pD []) (.tuple []) = true := by
      show PyData.eqv (.tuple []) (.tuple []) = true
      decide +kernel
    simp [this]
  | cons m p =>
    have : PyData.eqv (pD (m :: p)) (.tuple []) = false := by
      show PyData.eqv (.tuple (mD m :: p.map mD)) (.tuple []) = false
      simp [PyData.eqv, PyData.eqvAll]
    simp [this]
/-! ### the way down -/
def allL (i : Nat) (p : Pl) (cs : List Nat) : Pl := cs.flatMap fun c => partL i c p
theorem all_len {i : Nat} {p : Pl} : ∀ {cs : List Nat}, cs.Nodup → (allL i p cs).length ≤ (p.filter fun m => decide (deg i m.1 ∈ cs)).length
  | [], _ => Nat.zero_le _
  | c :: cs, h => by
    obtain ⟨h1, h2⟩ := List.nodup_cons.mp h
    have ih := all_len (i := i) (p := p) h2
    show (partL i c p ++ allL i p cs).length ≤ _
    rw [List.length_append]
    have e : (partL i c p).length + (p.filter fun m => decide (deg i m.1 ∈ cs)).length ≤ (p.filter fun m => decide (deg i m.1 ∈ c :: cs)).length := by
      unfold partL
      rw [List.length_map]
      clear ih
      induction p with
      | nil => exact Nat.le_refl _
      | cons m p ih =>
        by_cases a : deg i m.1 = c
        · have b : deg i m.1 ∉ cs := a ▸ h1
          rw [List.filter_cons_of_pos (by simp [a]), List.filter_cons_of_neg (by simp [b]), List.filter_cons_of_pos (by simp [a])]
          simp only [List.length_cons]
          omega
        · by_cases b : deg i m.1 ∈ cs
          · rw [List.filter_cons_of_neg (by simp [a]), List.filter_cons_of_pos (by simp [b]), List.filter_cons_of_pos (by simp [b])]
            simp only [List.length_cons]
            omega
          · rw [List.filter_cons_of_neg (by simp [a]), List.filter_cons_of_neg (by simp [b]), List.filter_cons_of_neg (by simp [a, b])]
            exact ih
    omega
theorem all_le {i : Nat} {p : Pl} {cs : List Nat} (h : cs.Nodup) : (allL i p cs).length ≤ p.length := Nat.le_trans (all_len h) (List.length_filter_le _ _)
theorem all_step {i j c : Nat} {p : Pl} {cs : List Nat} (h : cs[j]? = some c) : (allL i p (cs.take (j + 1))).length = (allL i p (cs.take j)).length + (partL i c p).length := by
  unfold allL
  rw [take_step h, List.flatMap_append, List.length_append]
  simp
theorem zip_next : ∀ {cs : List Nat} {j : Nat} {x : Nat × Nat}, (cs.zip (cs.drop 1 ++ [0]))[j]? = some x → cs[j]? = some x.1 ∧ (cs.drop (j + 1)).headD 0 = x.2 := by
  intro cs j x h
  rw [List.getElem?_zip_eq_some] at h
  refine ⟨h.1, ?_⟩
  have h2 := h.2
  have hj := (List.getElem?_eq_some_iff.mp h.1).1
  by_cases e : j + 1 < cs.length
  · rw [List.getElem?_append_left (by rw [List.length_drop]; omega), List.getElem?_drop, Nat.add_comm 1 j] at h2
    have : cs.drop (j + 1) = cs[j + 1] :: cs.drop (j + 1 + 1) := List.drop_eq_getElem_cons e
    rw [this, List.headD_cons]
    rw [List.getElem?_eq_getElem e] at h2
    exact Option.some.inj h2
  · have hd : cs.drop (j + 1) = [] := List.drop_eq_nil_of_le (by omega)
    rw [hd]
    rw [List.getElem?_append_right (by rw [List.length_drop]; omega)] at h2
    have : j - (cs.drop 1).length = 0 := by rw [List.length_drop]; omega
    rw [this] at h2
    exact Option.some.inj h2
theorem drop_at {cs : List Nat} {j c : Nat} (h : cs[j]? = some c) : cs.drop j = c :: cs.drop (j + 1) := by
  obtain ⟨hj, e⟩ := List.getElem?_eq_some_iff.mp h
  rw [List.drop_eq_getElem_cons hj, e]
/-- how far it has come -/
structure Way (n i : Nat) (p q : Pl) (cs : List Nat) (j : Nat) (X : Pl) : Prop where
  e : hornL n i p q cs [] = hornL n i p q (cs.drop j) X
  b : PF n (4 - (cs.drop j).headD 0) ((allL i p (cs.take j)).length * 3 ^ (3 - (cs.drop j).headD 0)) X
theorem Way.step {n i : Nat} {p q X : Pl} {cs : List Nat} {j c d : Nat} (h : Way n i p q cs j X) (hp : PF n 1 5 p) (hq : PF n 1 3 q) (hf : cs.Pairwise (· > ·)) (h3 : ∀ c ∈ cs, c ≤ 3) (hc : cs[j]? = some c) (hd : (cs.drop (j + 1)).headD 0 = d) :
    d ≤ c ∧ c ≤ 3 ∧ PF n (4 - c) ((allL i p (cs.take j)).length * 3 ^ (3 - c)) X ∧ PF n (4 - c) ((allL i p (cs.take (j + 1))).length * 3 ^ (3 - c)) (X ++ partL i c p) ∧ (allL i p (cs.take (j + 1))).length ≤ 5 ∧ Way n i p q cs (j + 1) (mulL (X ++ partL i c p) (powL n q (c - d))) := by
  have hdr := drop_at hc
  have hc3 : c ≤ 3 := h3 c (List.mem_of_getElem? hc)
  have hpw : (c :: cs.drop (j + 1)).Pairwise (· > ·) := by rw [← hdr]; exact hf.sublist (List.drop_sublist _ _)
  have hdc : d ≤ c := by
    rw [← hd]
    cases e : cs.drop (j + 1) with
    | nil => exact Nat.zero_le _
    | cons a r =>
      rw [e] at hpw
      exact Nat.le_of_lt ((List.pairwise_cons.mp hpw).1 a List.mem_cons_self)
  have hb := h.b
  have he := h.e
  rw [hdr] at hb he
  rw [List.headD_cons] at hb
  have hst := all_step (i := i) (p := p) hc
  have hnd : cs.Nodup := hf.imp fun h => Nat.ne_of_gt h
  have hal : (allL i p (cs.take (j + 1))).length ≤ 5 := Nat.le_trans (all_le (hnd.sublist (List.take_sublist _ _))) hp.l
  have hpart : PF n (4 - c) (partL i c p).length (partL i c p) := ⟨(hp.part).w, fun m hm => ((hp.part (i := i) (c := c)).f m hm).up (by omega), Nat.le_refl _⟩
  have happ := (hb.app hpart).up (Nat.le_refl _) (show (allL i p (cs.take j)).length * 3 ^ (3 - c) + (partL i c p).length ≤ (allL i p (cs.take (j + 1))).length * 3 ^ (3 - c) by
    rw [hst, Nat.add_mul]
    exact Nat.add_le_add_left (Nat.le_mul_of_pos_right _ (Nat.pow_pos (by decide))) _)
  refine ⟨hdc, hc3, hb, happ, hal, ⟨?_, ?_⟩⟩
  · rw [he]
    show hornL n i p q (cs.drop (j + 1)) (mulL (X ++ partL i c p) (powL n q (c - (cs.drop (j + 1)).headD 0))) = _
    rw [hd]
  · rw [hd]
    have hm := happ.mul (hq.pow (c - d))
    refine hm.up (by omega) ?_
    rw [Nat.mul_assoc, ← Nat.pow_add]
    exact Nat.le_of_eq (by rw [show 3 - c + (c - d) = 3 - d by omega])
end
end K03
/-! R18 -/
set_option Elab.async false
set_option linter.all false
set_option maxRecDepth 100000
set_option maxHeartbeats 4000000
set_option exponentiation.threshold 4000
/-! putting in, by the package and by the law -/
namespace K03
open PySem PySem.Spec PyProof.Rows L2 TL LamX Poly
noncomputable section
variable [Tb]
abbrev nT (cs : List Nat) : List T := cs.map fun c : Nat => T.int (c : Int)
theorem zip_nats (a b : List Nat) : zipL (nT a) (nT b) = (a.zip b).map fun p : Nat × Nat => T.tup [.int (p.1 : Int), .int (p.2 : Int)] := zip_keys a b
def putIt (j k : Nat) : Its1 := fun st => (match st[j]? with
  | some (.lst ts) => some ts
  | _ => none).bind fun xs => (match st[k]? with
  | some (.lst ts) => some ts
  | _ => none).map fun ys => zipL xs ys
theorem putIt_at {j k : Nat} {s : Store} {xs ys : List T} (h1 : s[j]? = some (.lst xs)) (h2 : s[k]? = some (.lst ys)) : putIt j k s = some (zipL xs ys) := by
  unfold putIt
  rw [h1, h2]; rfl
theorem zip_fi {f1 f2 : XE} {e : Env1} {s s1 s2 : Store} {j k : Nat} {xs ys : List T} (h1 : f1 e s = some (.ref j, s1)) (h2 : f2 e s1 = some (.ref k, s2)) (g1 : s2[j]? = some (.lst xs)) (g2 : s2[k]? = some (.lst ys)) : xiZip f1 f2 e s = some (putIt j k, s2) := by
  unfold xiZip
  simp only [h1, h2, Option.bind_some, seqOf, g1, g2, if_true]
  rfl
abbrev puB : XS := xsSet 6 (xCall S_multiplied (xCons (xCall S_plus (xCons (xVar 6) (xCons (xBin ixA (xVar 4) (xVar 7)) xNil))) (xCons (xCall S_raised (xCons (xVar 3) (xCons (xVar 2) (xCons (xBin subT (xVar 7) (xVar 8)) xNil)))) xNil)))
theorem head_len {t : T} {p : Pl} {m : Mb} {n : Nat} (h1 : IsP t (m :: p)) (hm : m.1.length = n) {e : Env1} {s : Store} {v : Nat} (he : e[v]? = some (some t)) : xCall lenT (xCons (xBin ixA (xBin ixA (xVar v) (xC (.int 0))) (xC (.int 0))) xNil) e s = some (.int (n : Int), s) := by
  have hl : (kL m.1).length = n := by rw [List.length_map]; exact hm
  rcases h1 with rfl | rfl
  · simp only [r_xCall, r_xCons, r_xBin, r_xVar, he, Option.bind_some, r_xC, r_ixTup, List.map_cons, r_at0, Option.map_some, mT, r_xNil, kT, lenT, hl]
  · have e1 : ∀ s, ixA (plP (m :: p)) (.int 0) s = some (mT m, s) := fun s => by
      show (atI (mT m :: p.map mT) 0).map _ = _
      rw [r_at0]; rfl
    simp only [r_xCall, r_xCons, r_xBin, r_xVar, he, Option.bind_some, r_xC, e1, r_ixTup, r_at0, Option.map_some, mT, r_xNil, kT, lenT, hl]
theorem put_ok {t1 t3 : T} {p q : Pl} {st : Store} {n i b : Nat} (h1 : IsP t1 p) (h3 : IsP t3 (nrm q)) (hp : PF n 1 5 p) (hcp : Can p) (hs : Shy b p) (hb : b ≤ 1900) (hq : PF n 1 3 q) (hi : i < n) (hn : n ≤ 1000) (hd : ∀ m ∈ p, deg i m.1 ≤ 3) :
    S_put_in [t1, .int (i : Int), t3] st = some (plT (nrm (putL n i p q)), st) := by
  have hnil := eq_nil (st := st) h1 hs hb
  cases hpe : p with
  | nil =>
    rw [hpe] at hnil
    have e0 : nrm (putL n i [] q) = [] := can_nrm Can.nil
    rw [e0]
    refine cut_pure (g := []) (fn_ret rfl ?_) (below_T _ _)
    rw [List.append_nil]
    refine sqr (if_yes (st' := st) ?_ ?_)
    · simp only [r_xBl, r_xBin, r_xVar, List.map_cons, List.map_nil, List.cons_append, List.nil_append, List.getElem?_cons_zero, Option.bind_some, r_xCall, r_xNil, r_tup, List.length_nil, sz0, if_true, hnil, decide_true]
    · simp
  | cons m0 p0 =>
    have hne : ¬ (p = []) := by rw [hpe]; exact List.cons_ne_nil _ _
    rw [← hpe]
    have hm0 : m0.1.length = n := hp.w m0 (by rw [hpe]; exact List.mem_cons_self)
    have hlen5 := hp.l
    obtain ⟨g, l, es, hF, hat, n1, hall, hno, hfew⟩ := parts_ok (st := st) h1 hp.w hi hn (by omega)
    have hsd := sorted_down hat (by omega)
    have hfall := down_fall n1
    have hperm := down_perm (es.map (·.1))
    have hmem : ∀ m ∈ p, deg i m.1 ∈ downL (es.map (·.1)) := fun m hm => hperm.mem_iff.mpr (hall m hm)
    have hc3 : ∀ c ∈ downL (es.map (·.1)), c ≤ 3 := fun c hc => by
      obtain ⟨x, hx, rfl⟩ := List.mem_map.mp (hperm.mem_iff.mp hc)
      obtain ⟨m, hm, e⟩ := hno x hx
      rw [← e]; exact hd m hm
    have hin : ∀ c ∈ downL (es.map (·.1)), ∃ x ∈ es, x.1 = c := fun c hc => List.mem_map.mp (hperm.mem_iff.mp hc)
    have hclen : (downL (es.map (·.1))).length ≤ 5 := by rw [hperm.length_eq, List.length_map]; omega
    have hcpos : 1 ≤ (downL (es.map (·.1))).length := by
      have : deg i m0.1 ∈ downL (es.map (·.1)) := hmem m0 (by rw [hpe]; exact List.mem_cons_self)
      exact List.length_pos_of_mem this
    generalize downL (es.map (·.1)) = cs at *
    have hcut : cutG (nT cs) (some ((1 : Nat) : Int)) none = nT (cs.drop 1) := by
      rw [cut_from (by rw [List.length_map]; exact hcpos)]
      exact List.map_drop.symm
    have hlk : ∀ {s : Store} {c : Nat}, c ∈ cs → s[l]? = some (.dK (dkL (paV i p) es)) → ixA (.ref l) (.int (c : Int)) s = some (plT (partL i c p), s) := fun {s c} hc hs => by
      obtain ⟨x, hx, rfl⟩ := hin c hc
      have : lookK (dkL (paV i p) es) (Sum.inl ((x.1 : Nat) : Int)) = some (paV i p x) := dkL_some n1 hx
      simp only [ixA, ixD, dAt, hs, Option.map_some, Option.bind_some, dLook, toKy, this]
      rfl
    -- the stores
    let s1 : Store := (st ++ g) ++ [.lst (nT cs)]
    let s2 : Store := s1 ++ [.lst (nT (cs.drop 1))]
    let s3 : Store := s2 ++ [.lst [.int 0]]
    let s4 : Store := s3 ++ [.lst (nT (cs.drop 1 ++ [0]))]
    have gl1 : s1[l]? = some (.dK (dkL (paV i p) es)) := getA hat
    have gl4 : s4[l]? = some (.dK (dkL (paV i p) es)) := getA (getA (getA gl1))
    have gc1 : s1[(st ++ g).length]? = some (.lst (nT cs)) := last_get
    have gc4 : s4[(st ++ g).length]? = some (.lst (nT cs)) := getA (getA (getA gc1))
    have gd4 : s4[s3.length]? = some (.lst (nT (cs.drop 1 ++ [0]))) := last_get
    let E : T → Option T → Option T → Env1 := fun r o7 o8 => [some t1, some (.int (i : Int)), some t3, some (.int (n : Int)), some (.ref l), some (.ref (st ++ g).length), some r, o7, o8]
    have hfi : xiZip (xVar 5) (xBin addT (xSl (xVar 5) (some (xC (.int 1))) none) (xCall lstT (xCons (xC (.int 0)) xNil))) (E (.tup []) none none) s1 = some (putIt (st ++ g).length s3.length, s4) := by
      refine zip_fi (s1 := s1) (xs := nT cs) (ys := nT (cs.drop 1 ++ [0])) rfl ?_ gc4 gd4
      have a1 : slT (.ref (st ++ g).length) (some 1) none s1 = some (.ref s1.length, s2) := by
        show (match s1[(st ++ g).length]? with
          | some (.lst ts) => some (T.ref s1.length, s1 ++ [Ob.lst (cutG ts (some 1) none)])
          | _ => none) = _
        rw [gc1]
        show some (T.ref s1.length, s1 ++ [Ob.lst (cutG (nT cs) (some ((1 : Nat) : Int)) none)]) = _
        rw [hcut]
      have a2 : addT (.ref s1.length) (.ref s2.length) s3 = some (.ref s3.length, s4) := by
        have b1 : s3[s1.length]? = some (.lst (nT (cs.drop 1))) := getA last_get
        have b2 : s3[s2.length]? = some (.lst [.int 0]) := last_get
        have b3 : (nT (cs.drop 1)).length + [T.int 0].length ≤ sizeLine := Nat.le_of_lt (small1000 (by rw [List.length_map, List.length_drop, List.length_singleton]; omega))
        show (match s3[s1.length]?, s3[s2.length]? with
          | some (.lst xs), some (.lst ys) => if xs.length + ys.length ≤ sizeLine then some (T.ref s3.length, s3 ++ [Ob.lst (xs ++ ys)]) else none
          | _, _ => none) = _
        rw [b1, b2]
        show (if (nT (cs.drop 1)).length + [T.int 0].length ≤ sizeLine then some (T.ref s3.length, s3 ++ [Ob.lst (nT (cs.drop 1) ++ [.int 0])]) else none) = _
        rw [if_pos b3]
        show _ = some (T.ref s3.length, s3 ++ [Ob.lst (nT (cs.drop 1 ++ [0]))])
        rw [show nT (cs.drop 1 ++ [0]) = nT (cs.drop 1) ++ [T.int 0] from List.map_append]
      simp only [r_xBin, xSl, xPart, E, r_xVar, List.getElem?_cons_succ, List.getElem?_cons_zero, Option.bind_some, r_xC, a1, r_xCall, r_xCons, r_xNil, r_lst, List.length_cons, List.length_nil, sz1, if_true]
      exact a2
    obtain ⟨e', s', hloop, X, o7, o8, rfl, rfl, W⟩ := for_enc (fi := xiZip (xVar 5) (xBin addT (xSl (xVar 5) (some (xC (.int 1))) none) (xCall lstT (xCons (xC (.int 0)) xNil)))) (g := xgTup 2 (xgsCons (xgName 7) (xgsCons (xgName 8) xgsNil))) (b := puB)
      (e := E (.tup []) none none) (st := s1) (s1 := s4) (it := putIt (st ++ g).length s3.length) (qs := cs.zip (cs.drop 1 ++ [0])) (fun p : Nat × Nat => T.tup [.int (p.1 : Int), .int (p.2 : Int)])
      (fun j e s => ∃ X o7 o8, e = E (plT (nrm X)) o7 o8 ∧ s = s4 ∧ Way n i p q cs j X) hfi
      (fun k e s h => by
        obtain ⟨X, o7, o8, rfl, rfl, _⟩ := h
        rw [putIt_at gc4 gd4, zip_nats])
      ⟨[], none, none, by show E (.tup []) none none = E (plT (nrm [])) none none; rw [show nrm [] = [] from can_nrm Can.nil]; rfl, rfl, ⟨rfl, ⟨(fun m hm => by cases hm), (fun m hm => by cases hm), Nat.zero_le _⟩⟩⟩
      (fun j e s x hx h => by
        obtain ⟨X, o7, o8, rfl, rfl, W⟩ := h
        obtain ⟨hc, hnx⟩ := zip_next hx
        obtain ⟨c, d⟩ := x
        have hc : cs[j]? = some c := hc
        have hnx : (cs.drop (j + 1)).headD 0 = d := hnx
        have hcm := List.mem_of_getElem? hc
        obtain ⟨hdc, hcc, b1, b2, b5, W2⟩ := W.step hp hq hfall hc3 hc hnx
        refine ⟨E (plT (nrm X)) (some (.int (c : Int))) (some (.int (d : Int))), s4, E (plT (nrm (mulL (X ++ partL i c p) (powL n q (c - d))))) (some (.int (c : Int))) (some (.int (d : Int))), s4, by simp [xgTup, xgsCons, xgsNil, E], ?_, _, _, _, rfl, rfl, W2⟩
        have hpow3 : (3 : Nat) ^ (3 - c) ≤ 27 := Nat.le_trans (Nat.pow_le_pow_right (by decide) (show 3 - c ≤ 3 by omega)) (by decide)
        have hpow4 : (3 : Nat) ^ (c - d) ≤ 27 := Nat.le_trans (Nat.pow_le_pow_right (by decide) (show c - d ≤ 3 by omega)) (by decide)
        have hN : (allL i p (cs.take (j + 1))).length * 3 ^ (3 - c) ≤ 135 := Nat.le_trans (Nat.mul_le_mul b5 hpow3) (by decide)
        have hN0 : (allL i p (cs.take j)).length * 3 ^ (3 - c) ≤ 135 := Nat.le_trans (Nat.mul_le_mul_right _ (by rw [all_step hc]; omega)) hN
        have hpart : PF n (4 - c) 5 (partL i c p) := (hp.part).up (by omega) (Nat.le_refl _)
        have hcanp : nrm (partL i c p) = partL i c p := can_nrm (part_can hp.w hcp)
        have r1 : S_plus [plT (nrm X), plT (partL i c p)] s4 = some (plT (nrm (X ++ partL i c p)), s4) := plusN (.inl rfl) (.inl (by rw [hcanp])) b1 hpart (by omega) (by omega) (by omega)
        have r2 : S_raised [.int (n : Int), t3, .int ((c - d : Nat) : Int)] s4 = some (plT (nrm (powL n q (c - d))), s4) := raiseN h3 hq (by decide) (by omega) hn (Nat.lt_of_le_of_lt (Nat.mul_le_mul hpow4 hpow4) (by decide)) (by decide)
        have r3 : S_multiplied [plT (nrm (X ++ partL i c p)), plT (nrm (powL n q (c - d)))] s4 = some (plT (nrm (mulL (X ++ partL i c p) (powL n q (c - d)))), s4) := by
          refine mulN (.inl rfl) (.inl rfl) b2 (hq.pow (c - d)) (by omega) (by omega) hn (by omega) (by omega) ?_
          have e : 3 ^ (3 - c) * 3 ^ (c - d) = 3 ^ (3 - d) := by rw [← Nat.pow_add, show 3 - c + (c - d) = 3 - d by omega]
          rw [Nat.mul_assoc, e]
          exact Nat.lt_of_le_of_lt (Nat.mul_le_mul b5 (Nat.pow_le_pow_right (by decide) (show 3 - d ≤ 3 by omega))) (by decide)
        have hsub : subT (.int (c : Int)) (.int (d : Int)) s4 = some (.int ((c - d : Nat) : Int), s4) := by
          rw [r_sub, Int.natCast_sub hdc]
        simp only [puB, r_xsSet, r_xCall, r_xCons, r_xVar, E, List.getElem?_cons_succ, List.getElem?_cons_zero, Option.bind_some, r_xBin, hlk hcm gl4, r_xNil, r1, hsub, r2, r3, Option.map_some, List.set_cons_succ, List.set_cons_zero])
    have hzl : (cs.zip (cs.drop 1 ++ [0])).length = cs.length := by
      rw [List.length_zip, List.length_append, List.length_drop, List.length_singleton]; omega
    rw [hzl] at W
    have hfin := W.e
    rw [List.drop_length] at hfin
    have hnX : nrm X = nrm (putL n i p q) := by
      have : X = hornL n i p q cs [] := hfin.symm
      rw [this]
      exact nrm_one (horn_put hp.w hq.w hfall hmem)
    rw [hnX] at hloop
    refine cut_pure (g := g ++ ([.lst (nT cs)] ++ ([.lst (nT (cs.drop 1))] ++ ([.lst [.int 0]] ++ [.lst (nT (cs.drop 1 ++ [0]))])))) (fn_ret rfl ?_) (below_T _ _)
    have hs4 : st ++ (g ++ ([Ob.lst (nT cs)] ++ ([.lst (nT (cs.drop 1))] ++ ([.lst [.int 0]] ++ [.lst (nT (cs.drop 1 ++ [0]))])))) = s4 := by
      simp only [s4, s3, s2, s1, List.append_assoc]
    rw [hs4]
    refine sq (e' := [some t1, some (.int (i : Int)), some t3, none, none, none, none, none, none]) (st' := st) (if_no (st' := st) ?_ rfl) ?_
    · simp only [r_xBl, r_xBin, r_xVar, List.map_cons, List.map_nil, List.cons_append, List.nil_append, List.getElem?_cons_zero, Option.bind_some, r_xCall, r_xNil, r_tup, List.length_nil, sz0, if_true, hnil, decide_eq_false hne]
    refine sq (e' := [some t1, some (.int (i : Int)), some t3, some (.int (n : Int)), none, none, none, none, none]) (st' := st) ?_ ?_
    · have hh := head_len (e := [some t1, some (.int (i : Int)), some t3, none, none, none, none, none, none]) (s := st) (v := 0) (hpe ▸ h1) hm0 rfl
      rw [r_xsSet, hh]; rfl
    refine sq (e' := [some t1, some (.int (i : Int)), some t3, some (.int (n : Int)), some (.ref l), none, none, none, none]) (st' := st ++ g) ?_ ?_
    · simp only [r_xsSet, r_xCall, r_xCons, r_xVar, List.getElem?_cons_succ, List.getElem?_cons_zero, Option.bind_some, r_xNil, hF, Option.map_some, List.set_cons_succ, List.set_cons_zero]
    refine sq (e' := [some t1, some (.int (i : Int)), some t3, some (.int (n : Int)), some (.ref l), some (.ref (st ++ g).length), none, none, none]) (st' := s1) ?_ ?_
    · simp only [r_xsSet, xSortRev, r_xVar, List.getElem?_cons_succ, List.getElem?_cons_zero, Option.bind_some, hsd, Option.map_some, List.set_cons_succ, List.set_cons_zero]
      rfl
    refine sq (e' := E (.tup []) none none) (st' := s1) (by simp [E]) ?_
    refine sq hloop ?_
    rfl
end
end K03
/-! R19 -/
set_option Elab.async false
set_option linter.all false
set_option maxRecDepth 100000
set_option maxHeartbeats 4000000
set_option exponentiation.threshold 4000
/-! putting in by the law; degrees -/
namespace K03
open PySem PySem.Spec PyProof.Rows L2 TL LamX Poly
noncomputable section
variable [Tb]
theorem neT_box {x y : T} {st : Store} (hx : isBox x = true) (hy : isBox y = true) : TL.neT x y st = eqdT true x y st := by
  cases x <;> cases y <;> first | rfl | (simp [isBox] at hx) | (simp [isBox] at hy)
theorem ne_nil {t : T} {p : Pl} {b : Nat} {st : Store} (h1 : IsP t p) (h : Shy b p) (hb : b ≤ 1900) : TL.neT t (.ptp []) st = some (.bl (!decide (p = [])), st) := by
  have hs : SeqAt.shaped (pD p) = true := (nic_p (j := 0) h hb (Nat.le_refl _)).shaped (by decide)
  have hs2 : SeqAt.shaped (.tuple []) = true := by decide +kernel
  have hd : toD st dpth t = some (pD p) := toD_p h1 st 9
  have hd2 : toD st dpth (.ptp []) = some (.tuple []) := rfl
  rw [neT_box (isBox_p h1) rfl]
  unfold eqdT
  rw [hd, hd2]
  simp only [hs, hs2, Bool.and_self, if_true]
  cases p with
  | nil =>
    have : PyData.eqv (pD []) (.tuple []) = true := by
      show PyData.eqv (.tuple []) (.tuple []) = true
      decide +kernel
    simp [this]
  | cons m p =>
    have : PyData.eqv (pD (m :: p)) (.tuple []) = false := by
      show PyData.eqv (.tuple (mD m :: p.map mD)) (.tuple []) = false
      simp [PyData.eqv, PyData.eqvAll]
    simp [this]
theorem many_ok {t1 t3 : T} {p q : Pl} {st : Store} {n b : Nat} {e : Env1} (h1 : IsP t1 p) (h3 : IsP t3 q) (hp : Wide n p) (hq : Wide n q) (sp : Shy b p) (sq : Shy b q) (hb : b ≤ 1900) (e0 : e[0]? = some (some t1)) (e2 : e[2]? = some (some t3)) :
    ∃ z : Int, xIf (xBl (xBin neT (xVar 2) (xC (.ptp [])))) (xCall lenT (xCons (xBin ixA (xBin ixA (xVar 2) (xC (.int 0))) (xC (.int 0))) xNil)) (xIf (xBl (xBin neT (xVar 0) (xC (.ptp [])))) (xCall lenT (xCons (xBin ixA (xBin ixA (xVar 0) (xC (.int 0))) (xC (.int 0))) xNil)) (xC (.int 0))) e st = some (.int z, st) := by
  have n1 := ne_nil (st := st) h1 sp hb
  have n3 := ne_nil (st := st) h3 sq hb
  have c3 : ∀ f g, xIf (xBl (xBin neT (xVar 2) (xC (.ptp [])))) f g e st = if (!decide (q = [])) = true then f e st else g e st := fun f g => by
    simp only [r_xIf, r_xBl, r_xBin, r_xVar, e2, Option.bind_some, r_xC, n3]
  have c1 : ∀ f g, xIf (xBl (xBin neT (xVar 0) (xC (.ptp [])))) f g e st = if (!decide (p = [])) = true then f e st else g e st := fun f g => by
    simp only [r_xIf, r_xBl, r_xBin, r_xVar, e0, Option.bind_some, r_xC, n1]
  rw [c3, c1]
  cases hqe : q with
  | cons m r =>
    have hh := head_len (s := st) (hqe ▸ h3) (hq m (by rw [hqe]; exact List.mem_cons_self)) e2
    exact ⟨_, by simpa using hh⟩
  | nil =>
    cases hpe : p with
    | cons m r =>
      have hh := head_len (s := st) (hpe ▸ h1) (hp m (by rw [hpe]; exact List.mem_cons_self)) e0
      exact ⟨_, by simpa using hh⟩
    | nil => exact ⟨0, by simp⟩
theorem mul_pow_step {n : Nat} {a q : Pl} (ha : Wide n a) (hq : Wide n q) (r : Nat) : nrm (mulL (mulL a (powL n q r)) q) = nrm (mulL a (powL n q (r + 1))) := nrm_one (mul_assoc _ _ _)
theorem put_snoc (n i : Nat) (p q : Pl) (m : Mb) : putL n i (p ++ [m]) q = putL n i p q ++ mulL [(zr i m.1, m.2)] (powL n q (deg i m.1)) := by
  unfold putL
  rw [List.flatMap_append]; simp
theorem one_can_m {k : PKey} {x : Rat} (h : x ≠ 0) : Can [(k, x)] := ⟨List.pairwise_singleton _ _, fun m hm => by rw [List.mem_singleton.mp hm]; exact h⟩
theorem put_pf {n i : Nat} {q : Pl} (hq : PF n 1 3 q) : ∀ {p : Pl}, Wide n p → (∀ m ∈ p, Fr 1 m.2) → (∀ m ∈ p, deg i m.1 ≤ 3) → PF n 4 (p.length * 27) (putL n i p q)
  | [], _, _, _ => ⟨(fun m hm => by cases hm), (fun m hm => by cases hm), Nat.zero_le _⟩
  | m :: p, hw, hf, hd => by
    have ih := put_pf hq (p := p) (fun x hx => hw x (List.mem_cons_of_mem _ hx)) (fun x hx => hf x (List.mem_cons_of_mem _ hx)) (fun x hx => hd x (List.mem_cons_of_mem _ hx))
    have hd0 := hd m List.mem_cons_self
    have h1 : PF n 1 1 [(zr i m.1, m.2)] := ⟨fun x hx => by rw [List.mem_singleton.mp hx]; exact (zr_len i m.1).trans (hw m List.mem_cons_self), fun x hx => by rw [List.mem_singleton.mp hx]; exact hf m List.mem_cons_self, Nat.le_refl _⟩
    have h2 := (h1.mul (hq.pow (deg i m.1))).up (l := 4) (M := 27) (by omega) (by rw [Nat.one_mul]; exact Nat.le_trans (Nat.pow_le_pow_right (by decide) hd0) (by decide))
    rw [putL_cons]
    exact (h2.app ih).up (Nat.le_refl _) (by rw [List.length_cons, Nat.succ_mul]; omega)
abbrev lpB : XS := xsSeq (xsSet 7 (xCall tupT (xCons (xCall tupT (xCons (xBin addT (xBin addT (xSl (xVar 5) none (some (xVar 1))) (xCall tupT (xCons (xC (.int 0)) xNil))) (xSl (xVar 5) (some (xBin addT (xVar 1) (xC (.int 1)))) none)) (xCons (xVar 6) xNil))) xNil)))
    (xsSeq (xsFor (xiRange1 (xBin ixA (xVar 5) (xVar 1))) (xgName 8) (xsSet 7 (xCall S__law_multiplied (xCons (xVar 7) (xCons (xVar 2) xNil)))))
    (xsSet 3 (xCall S__law_plus (xCons (xVar 3) (xCons (xVar 7) xNil)))))
abbrev lpE (t1 : T) (i : Nat) (t3 : T) (X : Pl) (z : Int) (o5 o6 o7 o8 : Option T) : Env1 := [some t1, some (.int (i : Int)), some t3, some (plP (nrm X)), some (.int z), o5, o6, o7, o8]
theorem lp_turn {t1 t3 : T} {q X : Pl} {st : Store} {n i : Nat} {z : Int} {m : Mb} {o7 o8 : Option T} (h3 : IsP t3 (nrm q)) (hq : PF n 1 3 q) (hm : m.1.length = n) (hf : Fr 1 m.2) (h0 : m.2 ≠ 0) (hd : deg i m.1 ≤ 3) (hi : i < n) (hn : n ≤ 1000) (hX : PF n 4 135 X) :
    ∃ o7' o8', lpB (lpE t1 i t3 X z (some (kT m.1)) (some (fq m.2)) o7 o8) st = some (.nx (lpE t1 i t3 (X ++ mulL [(zr i m.1, m.2)] (powL n q (deg i m.1))) z (some (kT m.1)) (some (fq m.2)) o7' o8') st) := by
  have hre := rest_ok (e := lpE t1 i t3 X z (some (kT m.1)) (some (fq m.2)) o7 o8) (s := st) (iK := 5) (iP := 1) (k := m.1) rfl rfl hm hi hn
  have hA : PF n 1 1 [(zr i m.1, m.2)] := ⟨fun x hx => by rw [List.mem_singleton.mp hx]; exact (zr_len i m.1).trans hm, fun x hx => by rw [List.mem_singleton.mp hx]; exact hf, Nat.le_refl _⟩
  have hpw : ∀ r, r ≤ deg i m.1 → 3 ^ r ≤ 27 := fun r hr => Nat.le_trans (Nat.pow_le_pow_right (by decide) (show r ≤ 3 by omega)) (by decide)
  have hix := ix_key (e := lpE t1 i t3 X z (some (kT m.1)) (some (fq m.2)) (some (plT [(zr i m.1, m.2)])) o8) (s := st) (iK := 5) (iP := 1) (k := m.1) rfl rfl hm hi
  obtain ⟨e', s', hl, t7, o8', rfl, rfl, h7⟩ := for_enc (fi := xiRange1 (xBin ixA (xVar 5) (xVar 1))) (g := xgName 8) (b := xsSet 7 (xCall S__law_multiplied (xCons (xVar 7) (xCons (xVar 2) xNil))))
    (e := lpE t1 i t3 X z (some (kT m.1)) (some (fq m.2)) (some (plT [(zr i m.1, m.2)])) o8) (st := st) (s1 := st) (it := fun _ => some (rngs 0 (deg i m.1))) (qs := List.range (deg i m.1)) rE
    (fun r e s => ∃ t7 o8', e = lpE t1 i t3 X z (some (kT m.1)) (some (fq m.2)) (some t7) o8' ∧ s = st ∧ IsP t7 (nrm (mulL [(zr i m.1, m.2)] (powL n q r))))
    (range_it hix (by omega)) (fun k e s h => rfl)
    ⟨_, _, rfl, rfl, .inl (by
      have : nrm (mulL [(zr i m.1, m.2)] (powL n q 0)) = [(zr i m.1, m.2)] := (nrm_one (mul_one hA.w)).trans (can_nrm (one_can_m h0))
      rw [this])⟩
    (fun r e s x hx h => by
      obtain ⟨t7, o8', rfl, rfl, h7⟩ := h
      have hr : r < deg i m.1 := by
        have := (List.getElem?_eq_some_iff.mp hx).1
        simpa using this
      have h27 := hpw r (by omega)
      have hmul := lmulN (st := s) h7 h3 (hA.mul (hq.pow r)) hq (by omega) hn (by omega) (by decide) (by omega)
      rw [mul_pow_step hA.w hq.w] at hmul
      refine ⟨_, _, lpE t1 i t3 X z (some (kT m.1)) (some (fq m.2)) (some (plP (nrm (mulL [(zr i m.1, m.2)] (powL n q (r + 1)))))) (some (rE x)), s, rfl, ?_, _, _, rfl, rfl, .inr rfl⟩
      simp only [lpE, r_xsSet, r_xCall, r_xCons, r_xVar, List.set_cons_succ, List.set_cons_zero, List.getElem?_cons_succ, List.getElem?_cons_zero, Option.bind_some, r_xNil, hmul, Option.map_some])
  rw [List.length_range] at h7
  have h27 := hpw _ (Nat.le_refl _)
  have hplus := lplusN (st := s') (t2 := t7) h7 hX ((hA.mul (hq.pow (deg i m.1))).up (l := 4) (M := 27) (by omega) (by omega)) (by decide) (by decide) (by decide)
  refine ⟨some t7, o8', ?_⟩
  refine sq (e' := lpE t1 i t3 X z (some (kT m.1)) (some (fq m.2)) (some (plT [(zr i m.1, m.2)])) o8) (st' := s') ?_ (sq hl ?_)
  · have z2 : [kT (zr i m.1), fq m.2].length ≤ sizeLine := by simp
    have z1 : [T.tup [kT (zr i m.1), fq m.2]].length ≤ sizeLine := by simp
    rw [r_xsSet, r_xCall, r_xCons, r_xCall, r_xCons, hre]
    simp only [Option.bind_some, lpE, r_xCons, r_xVar, List.getElem?_cons_succ, List.getElem?_cons_zero, r_xNil, r_tup, z2, if_true, z1, Option.map_some]
    rfl
  · simp only [lpE, r_xsSet, r_xCall, r_xCons, r_xVar, List.getElem?_cons_succ, List.getElem?_cons_zero, Option.bind_some, r_xNil, hplus, Option.map_some, List.set_cons_succ, List.set_cons_zero]
theorem law_put_ok {t1 t3 : T} {p q : Pl} {st : Store} {n i b : Nat} (h1 : IsP t1 p) (h3 : IsP t3 (nrm q)) (hp : PF n 1 5 p) (hcp : Can p) (hs : Shy b p) (hsq : Shy b (nrm q)) (hb : b ≤ 1900) (hq : PF n 1 3 q) (hi : i < n) (hn : n ≤ 1000) (hd : ∀ m ∈ p, deg i m.1 ≤ 3) :
    S__law_put_in [t1, .int (i : Int), t3] st = some (plP (nrm (putL n i p q)), st) := by
  obtain ⟨z, hz⟩ := many_ok (e := [some t1, some (.int (i : Int)), some t3, none, none, none, none, none, none]) (st := st) h1 h3 hp.w (nrm_wide hq.w) hs hsq hb rfl rfl
  have hl5 := hp.l
  obtain ⟨e', s', hl, o5, o6, o7, o8, rfl, rfl, _⟩ := for_enc (fi := xiSeq (xVar 0)) (g := xgTup 2 (xgsCons (xgName 5) (xgsCons (xgName 6) xgsNil))) (b := lpB)
    (e := lpE t1 i t3 [] z none none none none) (st := st) (s1 := st) (it := fun _ => some (p.map mT)) (qs := p) mT
    (fun j e s => ∃ o5 o6 o7 o8, e = lpE t1 i t3 (putL n i (p.take j) q) z o5 o6 o7 o8 ∧ s = st ∧ j ≤ p.length)
    (seq_p h1 rfl) (fun k e s h => rfl) ⟨none, none, none, none, rfl, rfl, Nat.zero_le _⟩
    (fun j e s m hm h => by
      obtain ⟨o5, o6, o7, o8, rfl, rfl, hj⟩ := h
      have hmm := List.mem_of_getElem? hm
      have hjl := (List.getElem?_eq_some_iff.mp hm).1
      have hpf := (put_pf (i := i) hq (p := p.take j) (wide_take hp.w) (fun x hx => hp.f x (List.mem_of_mem_take hx)) (fun x hx => hd x (List.mem_of_mem_take hx))).up (l := 4) (M := 135) (Nat.le_refl _) (by rw [List.length_take]; omega)
      obtain ⟨u7, u8, ht⟩ := lp_turn (t1 := t1) (st := s) (z := z) (o7 := o7) (o8 := o8) h3 hq (hp.w m hmm) (hp.f m hmm) (hcp.nz m hmm) (hd m hmm) hi hn hpf
      refine ⟨lpE t1 i t3 (putL n i (p.take j) q) z (some (kT m.1)) (some (fq m.2)) o7 o8, s, _, s, by simp [xgTup, xgsCons, xgsNil, mT, lpE], ht, some (kT m.1), some (fq m.2), u7, u8, by rw [take_step hm, put_snoc], rfl, by omega⟩)
  rw [List.take_length] at hl
  refine cut_pure (g := []) (fn_ret rfl ?_) (below_P _ _)
  rw [List.append_nil]
  refine sq (e' := lpE t1 i t3 [] z none none none none) (st' := s') ?_ (sq hl ?_)
  · have e0 : nrm [] = [] := can_nrm Can.nil
    show xsPar 3 4 (xCons (xC (.ptp [])) (xCons _ xNil)) [some t1, some (.int (i : Int)), some t3, none, none, none, none, none, none] s' = _
    unfold xsPar
    rw [r_xCons, r_xC]
    simp only [Option.bind_some]
    rw [r_xCons, hz]
    simp only [Option.bind_some, r_xNil, lpE, e0]
    rfl
  · rfl
end
end K03
/-! R20 -/
set_option Elab.async false
set_option linter.all false
set_option maxRecDepth 100000
set_option maxHeartbeats 4000000
set_option exponentiation.threshold 4000
/-! degrees, worths -/
namespace K03
open PySem PySem.Spec PyProof.Rows L2 TL LamX Poly
noncomputable section
variable [Tb]
def degs (i : Nat) (p : Pl) : List Nat := p.map fun m => deg i m.1
def degM (i : Nat) (p : Pl) : Nat := (degs i p).foldl max 0
theorem maxI_nat : ∀ (cs : List Nat) (a : Nat), maxI (a : Int) (cs.map fun c : Nat => (c : Int)) = ((cs.foldl max a : Nat) : Int)
  | [], a => rfl
  | c :: cs, a => by
    show maxI (if (a : Int) < (c : Int) then (c : Int) else (a : Int)) (cs.map fun c : Nat => (c : Int)) = _
    have : (if (a : Int) < (c : Int) then (c : Int) else (a : Int)) = ((max a c : Nat) : Int) := by
      split <;> omega
    rw [this, maxI_nat cs]; rfl
theorem ints_nats (cs : List Nat) : intsOf (nT cs) = some (cs.map fun c : Nat => (c : Int)) := by
  unfold intsOf nT
  induction cs with
  | nil => rfl
  | cons c cs ih => simp only [List.map_cons, optAll, ih]
theorem fold_ge : ∀ (cs : List Nat) (a : Nat), a ≤ cs.foldl max a ∧ ∀ c ∈ cs, c ≤ cs.foldl max a
  | [], a => ⟨Nat.le_refl _, fun c hc => by cases hc⟩
  | c :: cs, a => by
    obtain ⟨h1, h2⟩ := fold_ge cs (max a c)
    refine ⟨Nat.le_trans (Nat.le_max_left a c) h1, fun x hx => ?_⟩
    rcases List.mem_cons.mp hx with rfl | hx
    · exact Nat.le_trans (Nat.le_max_right a x) h1
    · exact h2 x hx
theorem deg_le {i : Nat} {p : Pl} : ∀ m ∈ p, deg i m.1 ≤ degM i p := fun m hm => (fold_ge (degs i p) 0).2 _ (List.mem_map.mpr ⟨m, hm, rfl⟩)
theorem fold_le {b : Nat} : ∀ (cs : List Nat) (a : Nat), a ≤ b → (∀ c ∈ cs, c ≤ b) → cs.foldl max a ≤ b
  | [], a, h, _ => h
  | c :: cs, a, h, g => fold_le cs (max a c) (Nat.max_le.mpr ⟨h, g c List.mem_cons_self⟩) fun x hx => g x (List.mem_cons_of_mem _ hx)
theorem degM_le {i b : Nat} {p : Pl} (h : ∀ m ∈ p, deg i m.1 ≤ b) : degM i p ≤ b := fold_le _ _ (Nat.zero_le _) fun c hc => by
  obtain ⟨m, hm, rfl⟩ := List.mem_map.mp hc
  exact h m hm
theorem degree_ok {t : T} {p : Pl} {st : Store} {n i : Nat} (h1 : IsP t p) (hw : Wide n p) (hi : i < n) (hl : p.length ≤ 1000) : S_degree_in [t, .int (i : Int)] st = some (.int ((degM i p : Nat) : Int), st) := by
  have h := lc_all (st := st) (s1 := st) (fi := xiSeq (xVar 0)) (g := xgName 2) (vs := [2]) (te := xBin ixA (xBin ixA (xVar 2) (xC (.int 0))) (xVar 1)) (e := [some t, some (.int (i : Int)), none]) (qs := p) (it := fun _ => some (p.map mT)) mT (fun m => T.int ((deg i m.1 : Nat) : Int)) (fun m => [some t, some (.int (i : Int)), some (mT m)])
    (seq_p h1 rfl) (fun acc => rfl) hl (fun m hm acc => rfl)
    (fun m hm acc => by
      have := at_key (k := m.1) (i := i) (by rw [hw m hm]; exact hi)
      simp only [r_xBin, r_xVar, List.getElem?_cons_succ, List.getElem?_cons_zero, Option.bind_some, r_xC, mT, r_ixTup, r_at0, Option.map_some, kT, this])
  have e2 : (p.map fun m => T.int ((deg i m.1 : Nat) : Int)) = nT (degs i p) := by unfold degs nT; rw [List.map_map]; rfl
  rw [e2] at h
  refine cut_pure (g := [.lst (nT (degs i p))]) (fn_ret rfl ?_) rfl
  show B_degree_in [some t, some (.int (i : Int)), none] st = _
  unfold B_degree_in xMaxD
  rw [r_xsRet, h]
  have hmx : maxDT (.ref st.length) (.int 0) (st ++ [.lst (nT (degs i p))]) = some (.int ((degM i p : Nat) : Int), st ++ [.lst (nT (degs i p))]) := by
    unfold maxDT
    simp only [last_get, ints_nats, Option.map_some]
    unfold degM
    cases degs i p with
    | nil => rfl
    | cons c cs =>
      show some (T.int (maxI (c : Int) (cs.map fun c : Nat => (c : Int))), _) = _
      rw [maxI_nat]
      show _ = some (T.int ((cs.foldl max (max 0 c) : Nat) : Int), _)
      rw [Nat.zero_max]
  simp only [Option.bind_some, r_xC, hmx, Option.map_some]
theorem law_degree_ok {t : T} {p : Pl} {st : Store} {n i : Nat} (h1 : IsP t p) (hw : Wide n p) (hi : i < n) (hl : p.length < 1000) : S__law_degree [t, .int (i : Int)] st = some (.int ((degM i p : Nat) : Int), st) := by
  have h := lc_all (st := st ++ [.lst [.int 0]]) (s1 := st ++ [.lst [.int 0]]) (fi := xiSeq (xVar 0)) (g := xgTup 2 (xgsCons (xgName 2) (xgsCons (xgName 3) xgsNil))) (vs := [2, 3]) (te := xBin ixA (xVar 2) (xVar 1)) (e := [some t, some (.int (i : Int)), none, none]) (qs := p) (it := fun _ => some (p.map mT)) mT (fun m => T.int ((deg i m.1 : Nat) : Int)) (fun m => [some t, some (.int (i : Int)), some (kT m.1), some (fq m.2)])
    (seq_p h1 rfl) (fun acc => rfl) (Nat.le_of_lt hl) (fun m hm acc => by simp [wipeE, xgTup, xgsCons, xgsNil, mT])
    (fun m hm acc => by
      have := at_key (k := m.1) (i := i) (by rw [hw m hm]; exact hi)
      simp only [r_xBin, r_xVar, List.getElem?_cons_succ, List.getElem?_cons_zero, Option.bind_some, kT, r_ixTup, this, Option.map_some])
  have e2 : (p.map fun m => T.int ((deg i m.1 : Nat) : Int)) = nT (degs i p) := by unfold degs nT; rw [List.map_map]; rfl
  rw [e2] at h
  have hdl : (nT (degs i p)).length = p.length := by unfold degs nT; rw [List.length_map, List.length_map]
  have ha : addT (.ref st.length) (.ref (st ++ [Ob.lst [.int 0]]).length) ((st ++ [Ob.lst [.int 0]]) ++ [Ob.lst (nT (degs i p))]) = some (.ref ((st ++ [Ob.lst [.int 0]]) ++ [Ob.lst (nT (degs i p))]).length, ((st ++ [Ob.lst [.int 0]]) ++ [Ob.lst (nT (degs i p))]) ++ [Ob.lst (nT (0 :: degs i p))]) := by
    have b1 : ((st ++ [Ob.lst [.int 0]]) ++ [Ob.lst (nT (degs i p))])[st.length]? = some (.lst [.int 0]) := getA last_get
    have b2 : ((st ++ [Ob.lst [.int 0]]) ++ [Ob.lst (nT (degs i p))])[(st ++ [Ob.lst [.int 0]]).length]? = some (.lst (nT (degs i p))) := last_get
    have b3 : [T.int 0].length + (nT (degs i p)).length ≤ sizeLine := Nat.le_of_lt (small1000 (by rw [hdl, List.length_singleton]; omega))
    generalize hS : ((st ++ [Ob.lst [.int 0]]) ++ [Ob.lst (nT (degs i p))]) = S at *
    show (match S[st.length]?, S[(st ++ [Ob.lst [.int 0]]).length]? with
      | some (.lst xs), some (.lst ys) => if xs.length + ys.length ≤ sizeLine then some (T.ref S.length, S ++ [Ob.lst (xs ++ ys)]) else none
      | _, _ => none) = _
    rw [b1, b2]
    show (if [T.int 0].length + (nT (degs i p)).length ≤ sizeLine then _ else none) = _
    rw [if_pos b3]; rfl
  have hmx : maxT [.ref ((st ++ [Ob.lst [.int 0]]) ++ [Ob.lst (nT (degs i p))]).length] (((st ++ [Ob.lst [.int 0]]) ++ [Ob.lst (nT (degs i p))]) ++ [Ob.lst (nT (0 :: degs i p))]) = some (.int ((degM i p : Nat) : Int), ((st ++ [Ob.lst [.int 0]]) ++ [Ob.lst (nT (degs i p))]) ++ [Ob.lst (nT (0 :: degs i p))]) := by
    unfold maxT
    simp only [last_get, ints_nats, Option.bind_some]
    show some (T.int (maxI ((0 : Nat) : Int) ((degs i p).map fun c : Nat => (c : Int))), _) = _
    rw [maxI_nat]; rfl
  refine cut_pure (g := [.lst [.int 0]] ++ ([.lst (nT (degs i p))] ++ [.lst (nT (0 :: degs i p))])) (fn_ret rfl ?_) rfl
  show B__law_degree [some t, some (.int (i : Int)), none, none] st = _
  unfold B__law_degree
  have hl0 : xCall lstT (xCons (xC (.int 0)) xNil) [some t, some (.int (i : Int)), none, none] st = some (.ref st.length, st ++ [.lst [.int 0]]) := by simp
  rw [r_xsRet, r_xCall, r_xCons, r_xBin, hl0]
  simp only [Option.bind_some]
  rw [h]
  simp only [Option.bind_some, ha, r_xNil, hmx, Option.map_some]
  rw [List.append_assoc, List.append_assoc]
/-! ### values -/
abbrev vT (vs : List Rat) : T := .tup (vs.map fun q => fq q)
def FrV : List Rat → List Nat → Prop
  | [], [] => True
  | v :: vs, k :: ks => Fr k v ∧ FrV vs ks
  | _, _ => False
def wsum : List Nat → List Nat → Nat
  | k :: ks, c :: cs => k * c + wsum ks cs
  | _, _ => 0
theorem FrV.mono : ∀ {vs : List Rat} {ks a : List Nat}, FrV vs ks → Fr (wsum ks a) (mono vs a)
  | [], [], a, _ => by cases a <;> exact Fr.one
  | v :: vs, k :: ks, [], _ => Fr.one
  | v :: vs, k :: ks, c :: a, h => (h.1.pow c).mul (FrV.mono h.2)
  | [], _ :: _, _, h => h.elim
  | _ :: _, [], _, h => h.elim
theorem FrV.take : ∀ {vs : List Rat} {ks : List Nat} (j : Nat), FrV vs ks → FrV (vs.take j) (ks.take j)
  | _, _, 0, _ => trivial
  | [], [], j + 1, _ => trivial
  | v :: vs, k :: ks, j + 1, h => ⟨h.1, FrV.take j h.2⟩
  | [], _ :: _, _, h => h.elim
  | _ :: _, [], _, h => h.elim
theorem wsum_take : ∀ (ks a : List Nat) (j : Nat), wsum (ks.take j) (a.take j) ≤ wsum ks a
  | [], _, j => by simp [wsum]
  | _ :: _, [], j => by simp [wsum]
  | _ :: _, _ :: _, 0 => Nat.zero_le _
  | k :: ks, c :: a, j + 1 => Nat.add_le_add_left (wsum_take ks a j) _
theorem mono_take_nil (vs : List Rat) (a : PKey) : mono (vs.take 0) (a.take 0) = 1 := rfl
theorem mono_take_step : ∀ {vs : List Rat} {a : PKey} {j : Nat} {v : Rat} {c : Nat}, vs[j]? = some v → a[j]? = some c → mono (vs.take (j + 1)) (a.take (j + 1)) = mono (vs.take j) (a.take j) * v ^ c
  | [], _, _, _, _, h, _ => by simp at h
  | _ :: _, [], _, _, _, _, h => by simp at h
  | x :: vs, y :: a, 0, v, c, h, g => by
    have h : x = v := by simpa using h
    have g : y = c := by simpa using g
    subst h g
    show x ^ y * mono (vs.take 0) (a.take 0) = mono [] [] * x ^ y
    rw [mono_take_nil]
    show x ^ y * 1 = 1 * x ^ y
    rw [Rat.mul_one, Rat.one_mul]
  | x :: vs, y :: a, j + 1, v, c, h, g => by
    show x ^ y * mono (vs.take (j + 1)) (a.take (j + 1)) = x ^ y * mono (vs.take j) (a.take j) * v ^ c
    rw [mono_take_step (by simpa using h) (by simpa using g)]
    grind
theorem zip_vals (vs : List Rat) (a : PKey) : zipL (vs.map fun q => fq q) (kL a) = (vs.zip a).map fun z : Rat × Nat => T.tup [fq z.1, .int (z.2 : Int)] := by
  unfold zipL kL
  rw [List.zipWith_map, List.zip, List.map_zipWith]
theorem zip_at {vs : List Rat} {a : PKey} {j : Nat} {z : Rat × Nat} (h : (vs.zip a)[j]? = some z) : vs[j]? = some z.1 ∧ a[j]? = some z.2 := by
  rw [List.getElem?_zip_eq_some] at h
  exact h
theorem zip_vfi {e : Env1} {s : Store} {i j : Nat} {vs : List Rat} {a : PKey} (hi : e[i]? = some (some (vT vs))) (hj : e[j]? = some (some (kT a))) : xiZip (xVar i) (xVar j) e s = some (fun _ => some (zipL (vs.map fun q => fq q) (kL a)), s) := by
  simp [xiZip, hi, hj, kT, seqOf]
theorem FrV.at_ : ∀ {vs : List Rat} {ks : List Nat} {j : Nat} {v : Rat}, FrV vs ks → vs[j]? = some v → ∃ k, ks[j]? = some k ∧ Fr k v
  | [], [], _, _, _, h => by simp at h
  | x :: vs, k :: ks, 0, v, h, g => by
    have : x = v := by simpa using g
    subst this
    exact ⟨k, rfl, h.1⟩
  | x :: vs, k :: ks, j + 1, v, h, g => by
    obtain ⟨k', a, b⟩ := FrV.at_ (j := j) h.2 (by simpa using g)
    exact ⟨k', by simpa using a, b⟩
  | [], _ :: _, _, _, h, _ => h.elim
  | _ :: _, [], _, _, h, _ => h.elim
end
end K03
/-! R21 -/
set_option Elab.async false
set_option linter.all false
set_option maxRecDepth 100000
set_option maxHeartbeats 4000000
set_option exponentiation.threshold 4000
/-! worths, led -/
namespace K03
open PySem PySem.Spec PyProof.Rows L2 TL LamX Poly
noncomputable section
variable [Tb]
abbrev mwB : XS := xsIf (xBl (xBin gtT (xVar 5) (xC (.int 0)))) (xsSet 3 (xCall S_times (xCons (xVar 3) (xCons (xCall F_power_of (xCons (xVar 4) (xCons (xVar 5) xNil))) xNil)))) xsNil
theorem wsum_ones : ∀ (n : Nat) (a : List Nat), wsum (List.replicate n 1) a ≤ a.sum
  | 0, a => Nat.zero_le _
  | n + 1, [] => Nat.zero_le _
  | n + 1, c :: a => by
    show 1 * c + wsum (List.replicate n 1) a ≤ (c :: a).sum
    rw [List.sum_cons, Nat.one_mul]
    exact Nat.add_le_add_left (wsum_ones n a) _
theorem wsum_step : ∀ {ks a : List Nat} {j k c : Nat}, ks[j]? = some k → a[j]? = some c → wsum (ks.take (j + 1)) (a.take (j + 1)) = wsum (ks.take j) (a.take j) + k * c
  | [], _, _, _, _, h, _ => by simp at h
  | _ :: _, [], _, _, _, _, h => by simp at h
  | x :: ks, y :: a, 0, k, c, h, g => by
    have h : x = k := by simpa using h
    have g : y = c := by simpa using g
    subst h g
    show x * y + wsum (ks.take 0) (a.take 0) = 0 + x * y
    have : wsum (ks.take 0) (a.take 0) = 0 := rfl
    omega
  | x :: ks, y :: a, j + 1, k, c, h, g => by
    show x * y + wsum (ks.take (j + 1)) (a.take (j + 1)) = x * y + wsum (ks.take j) (a.take j) + k * c
    rw [wsum_step (by simpa using h) (by simpa using g)]; omega
theorem part_fr {vs : List Rat} {ks : List Nat} {a : PKey} {x : Rat} {k : Nat} (hv : FrV vs ks) (hx : Fr k x) (j : Nat) : Fr (k + wsum ks a) (x * mono (vs.take j) (a.take j)) :=
  (hx.mul ((hv.take j).mono)).up (Nat.add_le_add_left (wsum_take ks a j) _)
theorem member_ok {vs : List Rat} {n k : Nat} {a : PKey} {x : Rat} {st : Store} (hv : FrV vs (List.replicate n 1)) (hl : vs.length = n) (ha : a.length = n) (hx : Fr k x) (hK : k + wsum (List.replicate n 1) a ≤ 150) (hc : ∀ c ∈ a, c ≤ 127) :
    F_member_worth [kT a, fq x, vT vs] st = some (fq (x * mono vs a), st) := by
  obtain ⟨e', s', hf, o4, o5, rfl, rfl, hj⟩ := for_enc (fi := xiZip (xVar 2) (xVar 0)) (g := xgTup 2 (xgsCons (xgName 4) (xgsCons (xgName 5) xgsNil))) (b := mwB)
    (e := [some (kT a), some (fq x), some (vT vs), some (fq x), none, none]) (st := st) (s1 := st) (it := fun _ => some (zipL (vs.map fun q => fq q) (kL a))) (qs := vs.zip a) (fun z : Rat × Nat => T.tup [fq z.1, .int (z.2 : Int)])
    (fun j e s => ∃ o4 o5, e = [some (kT a), some (fq x), some (vT vs), some (fq (x * mono (vs.take j) (a.take j))), o4, o5] ∧ s = st ∧ j ≤ n)
    (zip_vfi rfl rfl) (fun k e s h => by rw [zip_vals]) ⟨none, none, by rw [mono_take_nil, Rat.mul_one], rfl, Nat.zero_le _⟩
    (fun j e s z hz h => by
      obtain ⟨o4, o5, rfl, rfl, hj⟩ := h
      obtain ⟨v, c⟩ := z
      obtain ⟨h1, h2⟩ := zip_at hz
      have h1 : vs[j]? = some v := h1
      have h2 : a[j]? = some c := h2
      have hjn : j < n := by have := (List.getElem?_eq_some_iff.mp h1).1; omega
      have hst := mono_take_step h1 h2
      refine ⟨[some (kT a), some (fq x), some (vT vs), some (fq (x * mono (vs.take j) (a.take j))), some (fq v), some (.int (c : Int))], s, [some (kT a), some (fq x), some (vT vs), some (fq (x * mono (vs.take (j + 1)) (a.take (j + 1)))), some (fq v), some (.int (c : Int))], s, by simp [xgTup, xgsCons, xgsNil], ?_, _, _, rfl, rfl, by omega⟩
      by_cases h0 : c = 0
      · subst h0
        refine if_no (st' := s) (by simp) ?_
        rw [hst, Rat.pow_zero, Rat.mul_one]; rfl
      · have hcm := hc c (List.mem_of_getElem? h2)
        obtain ⟨kv, hkv, hfv⟩ := hv.at_ h1
        have hkv1 : kv = 1 := by
          have hm := List.mem_of_getElem? hkv
          exact (List.mem_replicate.mp hm).2
        subst hkv1
        have hszv : Sz 7 v := FrB.sz (pos12 1) hfv (by decide) (by decide)
        have hp : ∀ s, F_power_of [fq v, .int (c : Int)] s = some (fq (v ^ c), s) := fun s => q_power hszv (fun _ => by omega)
        have hs1 : Sz 1200 (x * mono (vs.take j) (a.take j)) := (part_fr hv hx j).sz (by omega)
        have hs2 : Sz 1200 (v ^ c) := (hfv.pow c).sz (by omega)
        have ht : ∀ s, S_times [fq (x * mono (vs.take j) (a.take j)), fq (v ^ c)] s = some (fq (x * mono (vs.take j) (a.take j) * v ^ c), s) := fun s => q_times hs1 hs2 (by decide)
        refine if_yes (st' := s) (by
          have h9 : 0 < c := by omega
          simp [h9]) ?_
        rw [hst, ← Rat.mul_assoc]
        simp only [r_xsSet, r_xCall, r_xCons, r_xVar, List.getElem?_cons_succ, List.getElem?_cons_zero, Option.bind_some, r_xNil, hp, ht, Option.map_some, List.set_cons_succ, List.set_cons_zero])
  have hzl : (vs.zip a).length = n := by rw [List.length_zip]; omega
  rw [hzl, List.take_of_length_le (by omega), List.take_of_length_le (by omega)] at hf
  refine fn_ret rfl ?_
  refine sq (e' := [some (kT a), some (fq x), some (vT vs), some (fq x), none, none]) (st' := s') rfl (sq hf ?_)
  rfl
theorem foldl_sum : ∀ (qs : List Rat) (a : Rat), qs.foldl (· + ·) a = a + qs.sum
  | [], a => by rw [List.foldl_nil, List.sum_nil, Rat.add_zero]
  | q :: qs, a => by rw [List.foldl_cons, foldl_sum qs, List.sum_cons, Rat.add_assoc]
theorem sumQ_worth (vs : List Rat) (p : Pl) : sumQ (p.map fun m => m.2 * mono vs m.1) = worth vs p := by
  unfold sumQ
  rw [foldl_sum, Rat.zero_add]; rfl
/-- no power above c -/
def KB (c : Nat) (p : Pl) : Prop := ∀ m ∈ p, ∀ x ∈ m.1, x ≤ c
theorem sum_le : ∀ {c : Nat} {a : List Nat}, (∀ x ∈ a, x ≤ c) → a.sum ≤ a.length * c
  | _, [], _ => by simp
  | c, x :: a, h => by
    rw [List.sum_cons, List.length_cons, Nat.succ_mul, Nat.add_comm]
    exact Nat.add_le_add (sum_le fun y hy => h y (List.mem_cons_of_mem _ hy)) (h x List.mem_cons_self)
theorem worth_ok {t : T} {p : Pl} {vs : List Rat} {st : Store} {n k c : Nat} (h1 : IsP t p) (hw : Wide n p) (hf : ∀ m ∈ p, Fr k m.2) (hv : FrV vs (List.replicate n 1)) (hl : vs.length = n) (hc : KB c p) (hcc : c ≤ 127) (hk : k + n * c ≤ 150) (hp : p.length ≤ 1000) :
    S_worth_at [t, vT vs] st = some (fq (worth vs p), st) := by
  have hws : ∀ m ∈ p, wsum (List.replicate n 1) m.1 ≤ n * c := fun m hm => Nat.le_trans (wsum_ones n m.1) (by
    have := sum_le (hc m hm)
    rw [hw m hm] at this
    exact this)
  have h := lc_all (st := st) (s1 := st) (fi := xiSeq (xVar 0)) (g := xgTup 2 (xgsCons (xgName 2) (xgsCons (xgName 3) xgsNil))) (vs := [2, 3]) (te := xCall F_member_worth (xCons (xVar 2) (xCons (xVar 3) (xCons (xVar 1) xNil)))) (e := [some t, some (vT vs), none, none]) (qs := p) (it := fun _ => some (p.map mT)) mT (fun m => fq (m.2 * mono vs m.1)) (fun m => [some t, some (vT vs), some (kT m.1), some (fq m.2)])
    (seq_p h1 rfl) (fun acc => rfl) hp (fun m hm acc => by simp [wipeE, xgTup, xgsCons, xgsNil, mT])
    (fun m hm acc => by
      have hws := hws m hm
      have := member_ok (st := st ++ [Ob.lst acc]) hv hl (hw m hm) (hf m hm) (by omega) (fun x hx => Nat.le_trans (hc m hm x hx) hcc)
      simp only [r_xCall, r_xCons, r_xVar, List.getElem?_cons_succ, List.getElem?_cons_zero, Option.bind_some, r_xNil, this])
  have e2 : (p.map fun m => fq (m.2 * mono vs m.1)) = (p.map fun m => m.2 * mono vs m.1).map fun q => fq q := by rw [List.map_map]; rfl
  rw [e2] at h
  have hfr : ∀ q ∈ (p.map fun m => m.2 * mono vs m.1), Fr (k + n * c) q := fun q hq => by
    obtain ⟨m, hm, rfl⟩ := List.mem_map.mp hq
    exact ((hf m hm).mul (hv.mono (a := m.1))).up (Nat.add_le_add_left (hws m hm) _)
  have htot := total_okD (x := .ref st.length) (st := st ++ [.lst ((p.map fun m => m.2 * mono vs m.1).map fun q => fq q)]) (it := mFi st.length) (qs := p.map fun m => m.2 * mono vs m.1) (k := 1200) (D := 12 ^ (k + n * c))
    (fun e => fi_seq rfl last_get) (fun g => mFi_at (getA last_get)) (fun q hq => (hfr q hq).sz (by omega)) (by decide) (pos12 _) (Nat.lt_of_lt_of_le (p12 (by omega)) (Nat.pow_le_pow_right (by decide) (by decide))) (fun q hq => FrB.den (pos12 _) (hfr q hq)) (by rw [List.length_map]; exact hp)
  rw [sumQ_worth] at htot
  refine cut_pure (g := [.lst ((p.map fun m => m.2 * mono vs m.1).map fun q => fq q)]) (fn_ret rfl ?_) rfl
  show B_worth_at [some t, some (vT vs), none, none] st = _
  unfold B_worth_at
  rw [r_xsRet, r_xCall, r_xCons, h]
  simp only [Option.bind_some, r_xNil, htot, Option.map_some]
/-! ### by the law -/
theorem worth_snoc (vs : List Rat) (p : Pl) (m : Mb) : worth vs (p ++ [m]) = worth vs p + m.2 * mono vs m.1 := by
  unfold worth
  rw [phi_app, phi_one]
abbrev lwE (t : T) (vs : List Rat) (w : Rat) (o3 o4 o5 o6 o7 : Option T) : Env1 := [some t, some (vT vs), some (fq w), o3, o4, o5, o6, o7]
abbrev lwI : XS := xsFor (xiRange1 (xVar 6)) (xgName 7) (xsSet 4 (xCall S__law_times (xCons (xVar 4) (xCons (xVar 5) xNil))))
theorem lw_pow {t : T} {vs : List Rat} {w x v : Rat} {o3 o7 : Option T} {c kx kv : Nat} {st : Store} (hx : Fr kx x) (hv : Fr kv v) (hk : kx + kv * c ≤ 150) (hkv : kv ≤ 150) (hc : c < 1000) :
    ∃ o7', lwI (lwE t vs w o3 (some (fq x)) (some (fq v)) (some (.int (c : Int))) o7) st = some (.nx (lwE t vs w o3 (some (fq (x * v ^ c))) (some (fq v)) (some (.int (c : Int))) o7') st) := by
  obtain ⟨e', s', hl, o7', rfl, rfl, _⟩ := for_enc (fi := xiRange1 (xVar 6)) (g := xgName 7) (b := xsSet 4 (xCall S__law_times (xCons (xVar 4) (xCons (xVar 5) xNil))))
    (e := lwE t vs w o3 (some (fq x)) (some (fq v)) (some (.int (c : Int))) o7) (st := st) (s1 := st) (it := fun _ => some (rngs 0 c)) (qs := List.range c) rE
    (fun r e s => ∃ o7', e = lwE t vs w o3 (some (fq (x * v ^ r))) (some (fq v)) (some (.int (c : Int))) o7' ∧ s = st ∧ r ≤ c)
    (range_it rfl (by omega)) (fun k e s h => rfl) ⟨o7, by rw [Rat.pow_zero, Rat.mul_one], rfl, Nat.zero_le _⟩
    (fun r e s y hy h => by
      obtain ⟨o7', rfl, rfl, hr⟩ := h
      have hrc : r < c := by
        have := (List.getElem?_eq_some_iff.mp hy).1
        simpa using this
      have hm : kv * r ≤ kv * c := Nat.mul_le_mul_left _ hr
      have h1 : Sz 1200 (x * v ^ r) := (hx.mul (hv.pow r)).sz (by omega)
      have ht : S__law_times [fq (x * v ^ r), fq v] s = some (fq (x * v ^ r * v), s) := q_times h1 (hv.sz (by omega)) (by decide)
      refine ⟨lwE t vs w o3 (some (fq (x * v ^ r))) (some (fq v)) (some (.int (c : Int))) (some (rE y)), s, _, s, rfl, ?_, some (rE y), rfl, rfl, by omega⟩
      rw [Rat.pow_succ, ← Rat.mul_assoc]
      simp only [lwE, r_xsSet, r_xCall, r_xCons, r_xVar, List.getElem?_cons_succ, List.getElem?_cons_zero, Option.bind_some, r_xNil, ht, Option.map_some, List.set_cons_succ, List.set_cons_zero])
  rw [List.length_range] at hl
  exact ⟨o7', hl⟩
theorem lw_member {t : T} {vs : List Rat} {ks : List Nat} {w : Rat} {m : Mb} {o5 o6 o7 : Option T} {n k : Nat} {st : Store} (hv : FrV vs ks) (hl : vs.length = n) (hm : m.1.length = n) (hx : Fr k m.2) (hK : k + wsum ks m.1 ≤ 150) (hks : ∀ j ∈ ks, j ≤ 150) (hc : ∀ c ∈ m.1, c < 1000) :
    ∃ u5 u6 u7, xsFor (xiZip (xVar 1) (xVar 3)) (xgTup 2 (xgsCons (xgName 5) (xgsCons (xgName 6) xgsNil))) lwI (lwE t vs w (some (kT m.1)) (some (fq m.2)) o5 o6 o7) st = some (.nx (lwE t vs w (some (kT m.1)) (some (fq (m.2 * mono vs m.1))) u5 u6 u7) st) := by
  obtain ⟨e', s', hf, o5, o6, o7, rfl, rfl, _⟩ := for_enc (fi := xiZip (xVar 1) (xVar 3)) (g := xgTup 2 (xgsCons (xgName 5) (xgsCons (xgName 6) xgsNil))) (b := lwI)
    (e := lwE t vs w (some (kT m.1)) (some (fq m.2)) o5 o6 o7) (st := st) (s1 := st) (it := fun _ => some (zipL (vs.map fun q => fq q) (kL m.1))) (qs := vs.zip m.1) (fun z : Rat × Nat => T.tup [fq z.1, .int (z.2 : Int)])
    (fun j e s => ∃ o5 o6 o7, e = lwE t vs w (some (kT m.1)) (some (fq (m.2 * mono (vs.take j) (m.1.take j)))) o5 o6 o7 ∧ s = st ∧ j ≤ n)
    (zip_vfi rfl rfl) (fun k e s h => by rw [zip_vals]) ⟨o5, o6, o7, by rw [mono_take_nil, Rat.mul_one], rfl, Nat.zero_le _⟩
    (fun j e s z hz h => by
      obtain ⟨o5, o6, o7, rfl, rfl, hj⟩ := h
      obtain ⟨v, c⟩ := z
      obtain ⟨h1, h2⟩ := zip_at hz
      have h1 : vs[j]? = some v := h1
      have h2 : m.1[j]? = some c := h2
      have hjn : j < n := by have := (List.getElem?_eq_some_iff.mp h1).1; omega
      have hst := mono_take_step h1 h2
      obtain ⟨kv, hkv, hfv⟩ := hv.at_ h1
      have hkm := List.mem_of_getElem? hkv
      have hw1 : wsum (ks.take j) (m.1.take j) + kv * c = wsum (ks.take (j + 1)) (m.1.take (j + 1)) := (wsum_step hkv h2).symm
      have hw2 := wsum_take ks m.1 (j + 1)
      have hfx : Fr (k + wsum (ks.take j) (m.1.take j)) (m.2 * mono (vs.take j) (m.1.take j)) := hx.mul ((hv.take j).mono)
      obtain ⟨u7, hp⟩ := lw_pow (t := t) (vs := vs) (w := w) (o3 := some (kT m.1)) (o7 := o7) (c := c) (st := s) hfx hfv (by omega) (hks kv hkm) (hc c (List.mem_of_getElem? h2))
      refine ⟨lwE t vs w (some (kT m.1)) (some (fq (m.2 * mono (vs.take j) (m.1.take j)))) (some (fq v)) (some (.int (c : Int))) o7, s, _, s, by simp [xgTup, xgsCons, xgsNil, lwE], hp, some (fq v), some (.int (c : Int)), u7, by rw [hst, ← Rat.mul_assoc], rfl, by omega⟩)
  have hzl : (vs.zip m.1).length = n := by rw [List.length_zip]; omega
  rw [hzl, List.take_of_length_le (by omega), List.take_of_length_le (by omega)] at hf
  exact ⟨_, _, _, hf⟩
theorem law_worth_ok {t : T} {p : Pl} {vs : List Rat} {ks : List Nat} {st : Store} {n K N : Nat} (h1 : IsP t p) (hw : Wide n p) (hv : FrV vs ks) (hl : vs.length = n) (hf : ∀ m ∈ p, ∃ k, Fr k m.2 ∧ k + wsum ks m.1 ≤ K) (hK : K ≤ 150) (hks : ∀ j ∈ ks, j ≤ 150) (hc : ∀ m ∈ p, ∀ c ∈ m.1, c < 1000) (hp : p.length ≤ 1000) :
    S__law_worth [t, vT vs] st = some (fq (worth vs p), st) ∧ FrB (12 ^ K) (p.length * 84 ^ K) (worth vs p) := by
  obtain ⟨e', s', hlp, o3, o4, o5, o6, o7, rfl, rfl, hB⟩ := for_enc (fi := xiSeq (xVar 0)) (g := xgTup 2 (xgsCons (xgName 3) (xgsCons (xgName 4) xgsNil)))
    (b := xsSeq (xsFor (xiZip (xVar 1) (xVar 3)) (xgTup 2 (xgsCons (xgName 5) (xgsCons (xgName 6) xgsNil))) lwI) (xsSet 2 (xCall S__law_added (xCons (xVar 2) (xCons (xVar 4) xNil)))))
    (e := lwE t vs 0 none none none none none) (st := st) (s1 := st) (it := fun _ => some (p.map mT)) (qs := p) mT
    (fun j e s => ∃ o3 o4 o5 o6 o7, e = lwE t vs (worth vs (p.take j)) o3 o4 o5 o6 o7 ∧ s = st ∧ (j ≤ p.length ∧ FrB (12 ^ K) (j * 84 ^ K) (worth vs (p.take j))))
    (seq_p h1 rfl) (fun k e s h => rfl) ⟨none, none, none, none, none, rfl, rfl, Nat.zero_le _, by rw [Nat.zero_mul]; exact FrB.zero _⟩
    (fun j e s m hm h => by
      obtain ⟨o3, o4, o5, o6, o7, rfl, rfl, hj, hB⟩ := h
      have hmm := List.mem_of_getElem? hm
      have hjl := (List.getElem?_eq_some_iff.mp hm).1
      obtain ⟨k, hfk, hkK⟩ := hf m hmm
      obtain ⟨u5, u6, u7, hmem⟩ := lw_member (t := t) (w := worth vs (p.take j)) (o5 := o5) (o6 := o6) (o7 := o7) (st := s) hv hl (hw m hmm) hfk (by omega) hks (hc m hmm)
      have hfm : Fr K (m.2 * mono vs m.1) := (hfk.mul hv.mono).up hkK
      have hsum := hB.add hfm
      have e1 : j * 84 ^ K + 84 ^ K = (j + 1) * 84 ^ K := by rw [Nat.succ_mul]
      rw [e1] at hsum
      have ha : S__law_added [fq (worth vs (p.take j)), fq (m.2 * mono vs m.1)] s = some (fq (worth vs (p.take j) + m.2 * mono vs m.1), s) := q_added (hB.sz (pos12 _) (p12 (by omega)) (p84n hK (by omega))) (hfm.sz (by omega)) (by decide)
      refine ⟨lwE t vs (worth vs (p.take j)) (some (kT m.1)) (some (fq m.2)) o5 o6 o7, s, lwE t vs (worth vs (p.take (j + 1))) (some (kT m.1)) (some (fq (m.2 * mono vs m.1))) u5 u6 u7, s, by simp [xgTup, xgsCons, xgsNil, lwE, mT], ?_, _, _, _, _, _, rfl, rfl, by omega, ?_⟩
      · refine sq hmem ?_
        rw [take_step hm, worth_snoc]
        simp only [lwE, r_xsSet, r_xCall, r_xCons, r_xVar, List.getElem?_cons_succ, List.getElem?_cons_zero, Option.bind_some, r_xNil, ha, Option.map_some, List.set_cons_succ, List.set_cons_zero]
      · rw [take_step hm, worth_snoc]; exact hsum)
  rw [List.take_length] at hlp hB
  refine ⟨?_, hB.2⟩
  refine cut_pure (g := []) (fn_ret rfl ?_) rfl
  rw [List.append_nil]
  refine sq (e' := lwE t vs 0 none none none none none) (st' := s') ?_ (sq hlp rfl)
  simp [lwE]
end
end K03
/-! R22 -/
set_option Elab.async false
set_option linter.all false
set_option maxRecDepth 100000
set_option maxHeartbeats 4000000
set_option exponentiation.threshold 4000
/-! what is drawn -/
namespace K03
open PySem PySem.Spec PyProof.Rows L2 TL LamX Poly
noncomputable section
variable [Tb]
theorem BagAt.lt {N : Nat} {st : Store} {l m : Nat} (h : BagAt N st l m) : l < st.length := by
  obtain ⟨a, b, c, cs, e, _⟩ := h.ex
  exact (List.getElem?_eq_some_iff.mp e).1
theorem BagAt.ltm {N : Nat} {st : Store} {l m : Nat} (h : BagAt N st l m) : m < st.length := by
  obtain ⟨a, b, c, cs, _, e, _⟩ := h.ex
  exact (List.getElem?_eq_some_iff.mp e).1
theorem BagAt.set {N : Nat} {st : Store} {l m j : Nat} {o : Ob} (h : BagAt N st l m) (h1 : j ≠ l) (h2 : j ≠ m) : BagAt N (st.set j o) l m := by
  obtain ⟨a, b, c, cs, e1, e2, r⟩ := h.ex
  exact ⟨a, b, c, cs, by rw [List.getElem?_set_ne h1]; exact e1, by rw [List.getElem?_set_ne h2]; exact e2, r⟩
theorem More.get {l j : Nat} {st st2 : Store} {o : Ob} (mo : More l st st2) (h : st[j]? = some o) (hj : j ≠ l) : st2[j]? = some o := (mo.at_ j (List.getElem?_eq_some_iff.mp h).1 hj).trans h
theorem More.set {l j : Nat} {st st2 : Store} {o : Ob} (mo : More l st st2) (h : st.length ≤ j) : More l st (st2.set j o) := ⟨by rw [List.length_set]; exact mo.len, fun i hi hn => by rw [List.getElem?_set_ne (by omega)]; exact mo.at_ i hi hn⟩
/-- a comprehension that draws -/
theorem draw_lc {α : Type} (enc : α → T) (Q : α → Prop) (w : Nat) {n N l m : Nat} {st : Store} {e : Env1} {fi : XI} {g : XG} {vs : List Nat} {te : XE} (hb : BagAt N st l m)
    (hfi : fi e st = some (fun _ => some (rngs 0 n), st)) (hn : n ≤ 1000)
    (hg : ∀ x, ∃ e1, (∀ s, g x (wipeE e vs) s = some (e1, s)) ∧ ∀ s N', BagAt N' s l m → N' ≤ N + n * w → ∃ y s', te e1 s = some (enc y, s') ∧ Q y ∧ More l s s' ∧ BagAt (N' + w) s' l m) :
    ∃ (ys : List α) (s' : Store), xLc fi g vs xYes te e st = some (.ref st.length, s') ∧ ys.length = n ∧ (∀ y ∈ ys, Q y) ∧ s'[st.length]? = some (.lst (ys.map enc)) ∧ More l st s' ∧ BagAt (N + n * w) s' l m := by
  have hl0 := hb.lt
  have hm0 := hb.ltm
  have hrl : (rngs 0 n).length = n := by simp [rngs]
  obtain ⟨acc, s', h1, h2⟩ := lc_inv (g := g) (vs := vs) (tt := xYes) (te := te) (ts := rngs 0 n)
    (fun k acc s => ∃ ys : List α, acc = ys.map enc ∧ ys.length = k ∧ k ≤ n ∧ (∀ y ∈ ys, Q y) ∧ s[st.length]? = some (.lst acc) ∧ More l st s ∧ BagAt (N + k * w) s l m)
    hfi (fun k acc s h => by
      obtain ⟨ys, rfl, h2, _, _, h5, _⟩ := h
      exact ⟨h5, by rw [List.length_map]; omega⟩)
    (fun k acc s h => rfl) (by omega)
    ⟨[], rfl, rfl, Nat.zero_le _, (fun y hy => by cases hy), last_get, More.app _ _ _, by rw [Nat.zero_mul]; exact hb.more _⟩
    (fun k acc s x hx h => by
      obtain ⟨ys, rfl, h2, h3, h4, h5, h6, h7⟩ := h
      have hk := (List.getElem?_eq_some_iff.mp hx).1
      rw [hrl] at hk
      obtain ⟨e1, ge, he⟩ := hg x
      have hkw : (k + 1) * w ≤ n * w := Nat.mul_le_mul_right _ hk
      rw [Nat.succ_mul] at hkw
      obtain ⟨y, s2, f1, f2, f3, f4⟩ := he s (N + k * w) h7 (by omega)
      have hl1 := h6.len
      have g2 : s2[st.length]? = some (.lst (ys.map enc)) := f3.get h5 (by omega)
      refine ⟨e1, s, s, s2, enc y, ge s, rfl, f1, g2, ys ++ [y], by rw [List.map_append]; rfl, by rw [List.length_append, h2]; rfl, by omega, fun z hz => ?_, ?_, (h6.trans f3).set (Nat.le_refl _), ?_⟩
      · rcases List.mem_append.mp hz with a | a
        · exact h4 z a
        · rw [List.mem_singleton.mp a]; exact f2
      · exact lg g2
      · rw [Nat.succ_mul, ← Nat.add_assoc]
        exact f4.set (by omega) (by omega))
  obtain ⟨ys, rfl, h3, h4, h5, h6, h7, h8⟩ := h2
  rw [hrl] at h3 h8
  exact ⟨ys, s', h1, h3, h5, h6, h7, h8⟩
theorem fr_div {n d : Int} (hn : n.natAbs ≤ 7) (hd : d = 1 ∨ d = 2 ∨ d = 3 ∨ d = 4) : Fr 1 (Rat.divInt n d) := by
  have key : ∀ (c : Int), c ≠ 0 → c.natAbs ≤ 12 → d * c = 12 → Fr 1 (Rat.divInt n d) := fun c h0 hc he => by
    refine ⟨n * c, ?_, ?_⟩
    · have hd0 : d ≠ 0 := by omega
      have e : Rat.divInt n d = Rat.divInt (n * c) 12 := by
        rw [Rat.divInt_eq_divInt_iff hd0 (by decide), ← he, Int.mul_comm d c, Int.mul_assoc]
      have z : ((12 : Int) : Rat) ≠ 0 := by decide +kernel
      have e2 : ((12 ^ 1 : Nat) : Rat) = ((12 : Int) : Rat) := by decide +kernel
      rw [e, Rat.divInt_eq_div, e2, Rat.div_mul_cancel z]
    · rw [Int.natAbs_mul]
      exact Nat.le_trans (Nat.mul_le_mul hn hc) (by decide)
  rcases hd with h | h | h | h
  · exact key 12 (by decide) (by decide) (by omega)
  · exact key 6 (by decide) (by decide) (by omega)
  · exact key 4 (by decide) (by decide) (by omega)
  · exact key 3 (by decide) (by decide) (by omega)
theorem fraction_fr {N : Nat} {st : Store} {l m : Nat} (h : BagAt N st l m) (hN : N + 2 ≤ 1000000) : ∃ q st', S__law_fraction [.ref l] st = some (fq q, st') ∧ Fr 1 q ∧ Only l st st' ∧ BagAt (N + 2) st' l m := by
  obtain ⟨a0, b0, c0, cs0, e1, e2, hlm, _⟩ := id h.ex
  have hl := (List.getElem?_eq_some_iff.mp e1).1
  have t1 := some_list (j := st.length) (ts := ([0, 1, -1, 2, 3, -2, 5, -7, 1, 4] : List Int).map T.int) (h.more [.lst (([0, 1, -1, 2, 3, -2, 5, -7, 1, 4] : List Int).map T.int)]) (by omega) (by simp) (by omega) (by simp) (by decide)
  obtain ⟨x, s2, f1, hx, o1, b1⟩ := t1
  have hs2 : s2.length = st.length + 1 := by rw [o1.len]; simp
  have t2 := some_list (j := s2.length) (ts := ([1, 1, 1, 2, 3, 4] : List Int).map T.int) (b1.more [.lst (([1, 1, 1, 2, 3, 4] : List Int).map T.int)]) (by omega) (by simp) (by omega) (by simp) (by decide)
  obtain ⟨y, s3, f2, hy, o2, b2⟩ := t2
  obtain ⟨n, hn, rfl⟩ := ints_mem hx
  obtain ⟨d, hd, rfl⟩ := ints_mem hy
  have hd1 : d = 1 ∨ d = 2 ∨ d = 3 ∨ d = 4 := by simpa using hd
  have hn1 : n.natAbs ≤ 7 := by
    simp at hn
    rcases hn with rfl | rfl | rfl | rfl | rfl | rfl | rfl | rfl | rfl | rfl <;> decide
  have hd2 : d.natAbs < 2 ^ 4 := by rcases hd1 with rfl | rfl | rfl | rfl <;> decide
  have hdl : d.natAbs.log2 < 9000 := by have := log2_of hd2; omega
  have sz10 : (10 : Nat) ≤ sizeLine := by decide
  have sz6 : (6 : Nat) ≤ sizeLine := by decide
  simp only [List.map_cons, List.map_nil] at f1 f2
  have hF : F__law_fraction [.ref l] st = some (fq (Rat.divInt n d), s3) := by
    have hdn : d ≠ 0 := by omega
    rw [← nf_rat hdn]
    simp [F__law_fraction, B__law_fraction, fnF, sz10, sz6, f1, f2, S__law_over, hdn, hdl]
  have mo : More l st s3 := ((More.app l st _).trans o1.more).trans ((More.app l s2 _).trans o2.more)
  obtain ⟨st', g1, g2, g3⟩ := cutF_bag hF h b2 mo rfl
  exact ⟨_, st', g1, fr_div hn1 hd1, g2, g3⟩
/-- a tuple of drawn fractions -/
theorem values_ok {N l m n i v : Nat} {st : Store} {e : Env1} (hb : BagAt N st l m) (hN : N + n * 2 + 2 ≤ 1000000) (hn : n ≤ 1000) (h0 : e[0]? = some (some (.ref l))) (hi : e[i]? = some (some (.int (n : Int)))) (hv : v ≠ 0) (hlen : 0 < e.length) :
    ∃ vs s', xCall tupleT (xCons (xLc (xiRange1 (xVar i)) (xgName v) [v] xYes (xCall S__law_fraction (xCons (xVar 0) xNil))) xNil) e st = some (vT vs, s') ∧ vs.length = n ∧ (∀ q ∈ vs, Fr 1 q) ∧ More l st s' ∧ BagAt (N + n * 2) s' l m := by
  obtain ⟨ys, s', h1, h2, h3, h4, h5, h6⟩ := draw_lc (fun q => fq q) (fun q => Fr 1 q) 2 (n := n) (e := e) (fi := xiRange1 (xVar i)) (g := xgName v) (vs := [v]) (te := xCall S__law_fraction (xCons (xVar 0) xNil)) hb (range_it (by rw [r_xVar, hi]) (by omega)) hn
    (fun x => by
      refine ⟨(wipeE e [v]).set v (some x), fun s => rfl, fun s N' hb' hN' => ?_⟩
      obtain ⟨q, s', f1, f2, f3, f4⟩ := fraction_fr hb' (by omega)
      have hget : ((wipeE e [v]).set v (some x))[0]? = some (some (.ref l)) := by
        rw [List.getElem?_set_ne hv]
        show ((wipeE e []).set v none)[0]? = _
        rw [List.getElem?_set_ne hv]; exact h0
      refine ⟨q, s', ?_, f2, f3.more, f4⟩
      simp only [r_xCall, r_xCons, r_xVar, hget, Option.bind_some, r_xNil, f1])
  refine ⟨ys, s', ?_, h2, h3, h5, h6⟩
  rw [r_xCall, r_xCons, h1]
  simp only [Option.bind_some, r_xNil, tuple_l h4]
/-! ### polynomials -/
abbrev pwC : XE := xCall F__law_some (xCons (xVar 0) (xCons (xCall lstT (xCons (xC (.int 0)) (xCons (xC (.int 0)) (xCons (xC (.int 1)) (xCons (xC (.int 1)) (xCons (xC (.int 2)) (xCons (xC (.int 3)) xNil))))))) xNil))
theorem power_draw {N l m : Nat} {s : Store} {e : Env1} (hb : BagAt N s l m) (hN : N ≤ 1000000) (h0 : e[0]? = some (some (.ref l))) : ∃ (y : Nat) (s' : Store), pwC e s = some (.int (y : Int), s') ∧ y ≤ 3 ∧ More l s s' ∧ BagAt (N + 1) s' l m := by
  have hl := hb.lt
  obtain ⟨x, s2, f1, hx, o1, b1⟩ := some_list (j := s.length) (ts := ([0, 0, 1, 1, 2, 3] : List Int).map T.int) (hb.more [.lst (([0, 0, 1, 1, 2, 3] : List Int).map T.int)]) hN (by simp) (by omega) (by simp) (by decide)
  obtain ⟨z, hz, rfl⟩ := ints_mem hx
  have hz1 : z = 0 ∨ z = 1 ∨ z = 2 ∨ z = 3 := by simpa using hz
  have sz6 : (6 : Nat) ≤ sizeLine := by decide
  simp only [List.map_cons, List.map_nil] at f1
  refine ⟨z.toNat, s2, ?_, by omega, (More.app l s _).trans o1.more, b1⟩
  have ez : ((z.toNat : Nat) : Int) = z := Int.toNat_of_nonneg (by omega)
  rw [ez]
  simp [pwC, h0, sz6, f1]
abbrev dpB : XS := xsSeq (xsSet 4 (xCall tupleT (xCons (xLc (xiRange1 (xVar 1)) (xgName 5) [5] xYes pwC) xNil)))
    (xsAsg (xCall S__law_fraction (xCons (xVar 0) xNil)) (xgSubA (xVar 2) (xVar 4)))
theorem poly_turn {N l m n k : Nat} {st s : Store} {D : Pl} {o3 o4 : Option T} (hb : BagAt N s l m) (hN : N + n + 2 ≤ 1000000) (hn : n ≤ 1000) (mo : More l st s) (hlt : l < st.length) (hmt : m < st.length) (hD : s[st.length]? = some (dT D)) (hp : PF n 1 k D) (hk : k < 1000) (hc : KB 3 D) (hnd : (keys D).Nodup) :
    ∃ D' s' o4', dpB [some (.ref l), some (.int (n : Int)), some (.ref st.length), o3, o4, none] s = some (.nx [some (.ref l), some (.int (n : Int)), some (.ref st.length), o3, o4', none] s') ∧ BagAt (N + (n + 2)) s' l m ∧ More l st s' ∧ s'[st.length]? = some (dT D') ∧ PF n 1 (k + 1) D' ∧ KB 3 D' ∧ (keys D').Nodup := by
  obtain ⟨a, s1, h1, h2, h3, h4, h5, h6⟩ := draw_lc (fun y : Nat => T.int (y : Int)) (fun y => y ≤ 3) 1 (n := n) (e := [some (.ref l), some (.int (n : Int)), some (.ref st.length), o3, o4, none]) (fi := xiRange1 (xVar 1)) (g := xgName 5) (vs := [5]) (te := pwC) hb (range_it rfl (by omega)) hn
    (fun x => ⟨[some (.ref l), some (.int (n : Int)), some (.ref st.length), o3, o4, some x], fun s => rfl, fun s N' hb' hN' => power_draw hb' (by omega) rfl⟩)
  rw [Nat.mul_one] at h6
  obtain ⟨q, s2, f1, f2, f3, f4⟩ := fraction_fr h6 (by omega)
  have hd2 : s2[st.length]? = some (dT D) := (f3.at_ _ (by omega)).trans (h5.get hD (by omega))
  have hset := set_d (e := eF) (k := a) (x := q) hd2 (small1000 (Nat.le_of_lt (Nat.lt_of_le_of_lt hp.l hk)))
  refine ⟨setP D a q, s2.set st.length (dT (setP D a q)), some (kT a), ?_, ?_, ((mo.trans h5).trans f3.more).set (Nat.le_refl _), lg hd2, ⟨fun z hz => ?_, fun z hz => ?_, Nat.le_trans (set_len _ _ _) (Nat.succ_le_succ hp.l)⟩, fun z hz => ?_, nodup_set hnd⟩
  · refine sq (e' := [some (.ref l), some (.int (n : Int)), some (.ref st.length), o3, some (kT a), none]) (st' := s1) ?_ ?_
    · rw [r_xsSet, r_xCall, r_xCons, h1]
      simp only [Option.bind_some, r_xNil, tuple_l h4, Option.map_some]
      rfl
    · simp only [r_xsAsg, r_xCall, r_xCons, r_xVar, List.getElem?_cons_succ, List.getElem?_cons_zero, Option.bind_some, r_xNil, f1, xgSubA, hset, Option.map_some]
  · rw [← Nat.add_assoc]
    exact f4.set (by omega) (by omega)
  · rcases add_mem z hz with e | rfl
    · exact hp.w z e
    · exact h2
  · rcases add_mem z hz with e | rfl
    · exact hp.f z e
    · exact f2
  · rcases add_mem z hz with e | rfl
    · exact hc z e
    · exact h3
theorem poly_ok {N l m n : Nat} {st : Store} (hb : BagAt N st l m) (hn : n ≤ 7) (hN : N + 50 ≤ 1000000) :
    ∃ p st', S__law_drawn_poly [.ref l, .int (n : Int)] st = some (plP p, st') ∧ Can p ∧ PF n 1 5 p ∧ KB 3 p ∧ Only l st st' ∧ BagAt (N + 50) st' l m := by
  have hl := hb.lt
  have hm := hb.ltm
  obtain ⟨v, s1, t1, t2, t3, t4, t5⟩ := take_ok (many := 6) (hb.more [Ob.dN []]) (by omega) (by decide) (by decide)
  obtain ⟨c, rfl⟩ := Int.eq_ofNat_of_zero_le t2
  have hc : c ≤ 5 := by omega
  have hd1 : s1[st.length]? = some (dT []) := (t4.at_ _ (by omega)).trans last_get
  have hmo : More l st s1 := (More.app l st _).trans t4.more
  have hrl : (rngs 0 c).length = c := by simp [rngs]
  obtain ⟨e', s', hf, D, o3, o4, rfl, b1, b2, b3, b4, b5, b6, _⟩ := for_enc (fi := xiRange1 (xCall S__law_take (xCons (xVar 0) (xCons (xC (.int 6)) xNil)))) (g := xgName 3) (b := dpB)
    (e := [some (.ref l), some (.int (n : Int)), some (.ref st.length), none, none, none]) (st := st ++ [Ob.dN []]) (s1 := s1) (it := fun _ => some (rngs 0 c)) (qs := List.range c) rE
    (fun j e s => ∃ D o3 o4, e = [some (.ref l), some (.int (n : Int)), some (.ref st.length), o3, o4, none] ∧ BagAt (N + 1 + j * (n + 2)) s l m ∧ More l st s ∧ s[st.length]? = some (dT D) ∧ PF n 1 j D ∧ KB 3 D ∧ (keys D).Nodup ∧ j ≤ c)
    (range_it (by simp only [r_xCall, r_xCons, r_xVar, List.getElem?_cons_zero, Option.bind_some, r_xC, r_xNil, t1]) (by omega)) (fun k e s h => rfl)
    ⟨[], none, none, rfl, by rw [Nat.zero_mul]; exact t5, hmo, hd1, ⟨(fun z hz => by cases hz), (fun z hz => by cases hz), Nat.le_refl _⟩, (fun z hz => by cases hz), nodup_nil, Nat.zero_le _⟩
    (fun j e s x hx h => by
      obtain ⟨D, o3, o4, rfl, b1, b2, b3, b4, b5, b6, hj⟩ := h
      have hjc : j < c := by
        have := (List.getElem?_eq_some_iff.mp hx).1
        simpa using this
      have hjn : j * (n + 2) ≤ 4 * 9 := Nat.mul_le_mul (by omega) (by omega)
      obtain ⟨D', s', o4', g1, g2, g3, g4, g5, g6, g7⟩ := poly_turn (o3 := some (rE x)) (o4 := o4) b1 (by omega) (by omega) b2 hl hm b3 b4 (by omega) b5 b6
      exact ⟨_, s, _, s', rfl, g1, D', _, _, rfl, by rw [Nat.succ_mul, ← Nat.add_assoc]; exact g2, g3, g4, g5, g6, g7, by omega⟩)
  rw [List.length_range] at b1 b4
  have hcn : c * (n + 2) ≤ 5 * 9 := Nat.mul_le_mul (by omega) (by omega)
  have hDl := b4.l
  have hlp := law_poly_ok (st := s') (l := st.length) b3 b4.w b6 (by omega)
  have hF : F__law_drawn_poly [.ref l, .int (n : Int)] st = some (plP (canon D), s') := by
    refine fn_ret rfl ?_
    refine sq (e' := [some (.ref l), some (.int (n : Int)), some (.ref st.length), none, none, none]) (st' := st ++ [Ob.dN []]) rfl ?_
    refine sq hf ?_
    simp only [r_xsRet, r_xCall, r_xCons, r_xVar, List.getElem?_cons_succ, List.getElem?_cons_zero, Option.bind_some, r_xNil, hlp, Option.map_some]
  obtain ⟨st', g1, g2, g3⟩ := cutF_bag hF hb b1 b2 (below_P _ _)
  exact ⟨canon D, st', g1, canon_can b6, ⟨wide_canon b6 b4.w, fun z hz => b4.f z (canon_sub b6 z hz), Nat.le_trans (canon_len D) (by omega)⟩, fun z hz => b5 z (canon_sub b6 z hz), g2, g3.up (by omega)⟩
end
end K03
/-! R23 -/
set_option Elab.async false
set_option linter.all false
set_option maxRecDepth 100000
set_option maxHeartbeats 4000000
set_option exponentiation.threshold 4000
/-! sums, products, multiples as the law has them -/
namespace K03
open PySem PySem.Spec PyProof.Rows L2 TL LamX Poly
noncomputable section
variable [Tb]
theorem frN {k N : Nat} {x : Rat} (h : FrB (12 ^ k) (N * 84 ^ k) x) (hN : N ≤ 343) : Fr (k + 3) x := by
  have h1 := FrB.wide (E := 12 ^ 3) h
  rw [← Nat.pow_add] at h1
  refine FrB.up h1 ?_
  rw [Nat.pow_add 84]
  have : N * 12 ^ 3 ≤ 84 ^ 3 := Nat.le_trans (Nat.mul_le_mul_right _ hN) (by decide)
  calc N * 84 ^ k * 12 ^ 3 = 84 ^ k * (N * 12 ^ 3) := by rw [Nat.mul_assoc, Nat.mul_comm N, Nat.mul_assoc, Nat.mul_comm (12 ^ 3)]
    _ ≤ 84 ^ k * 84 ^ 3 := Nat.mul_le_mul_left _ this
theorem nrm_fr {n k N : Nat} {X : Pl} (h : PF n k N X) (hN : N ≤ 343) : ∀ m ∈ nrm X, Fr (k + 3) m.2 := fun m hm => frN (h.nrm.f m hm) hN
theorem keys_of_add {p : Pl} : ∀ {d : Pl} (Q : PKey → Prop), (∀ k ∈ keys d, Q k) → (∀ m ∈ p, Q m.1) → ∀ k ∈ keys (addAll d p), Q k := by
  induction p with
  | nil => exact fun Q h _ => h
  | cons m p ih =>
    intro d Q h hp
    refine ih (d := addP d m.1 m.2) Q ?_ fun x hx => hp x (List.mem_cons_of_mem _ hx)
    unfold addP
    rw [keys_set]
    split
    · exact h
    · intro k hk
      rcases List.mem_append.mp hk with e | e
      · exact h k e
      · rw [List.mem_singleton.mp e]; exact hp m List.mem_cons_self
theorem nrm_keys {X : Pl} (Q : PKey → Prop) (h : ∀ m ∈ X, Q m.1) : ∀ m ∈ nrm X, Q m.1 := fun m hm => by
  have h1 := canon_sub (addAll_nodup nodup_nil) m hm
  exact keys_of_add (d := []) Q (by intro k hk; cases hk) h m.1 (List.mem_map.mpr ⟨m, h1, rfl⟩)
theorem KB.nrm {c : Nat} {X : Pl} (h : KB c X) : KB c (nrm X) := nrm_keys (fun k => ∀ x ∈ k, x ≤ c) h
theorem KB.up {c d : Nat} {X : Pl} (h : KB c X) (hcd : c ≤ d) : KB d X := fun m hm x hx => Nat.le_trans (h m hm x hx) hcd
theorem KB.app {c : Nat} {X Y : Pl} (h : KB c X) (g : KB c Y) : KB c (X ++ Y) := fun m hm => (List.mem_append.mp hm).elim (h m) (g m)
theorem addK_le : ∀ {a b : PKey} {c d : Nat}, (∀ x ∈ a, x ≤ c) → (∀ x ∈ b, x ≤ d) → ∀ x ∈ addK a b, x ≤ c + d
  | [], _, _, _, _, _ => fun x hx => by cases hx
  | _ :: _, [], _, _, _, _ => fun x hx => by cases hx
  | y :: a, z :: b, c, d, h, g => fun x hx => by
    rcases List.mem_cons.mp hx with rfl | hx
    · exact Nat.add_le_add (h y List.mem_cons_self) (g z List.mem_cons_self)
    · exact addK_le (fun w hw => h w (List.mem_cons_of_mem _ hw)) (fun w hw => g w (List.mem_cons_of_mem _ hw)) x hx
theorem KB.mul {c d : Nat} {X Y : Pl} (h : KB c X) (g : KB d Y) : KB (c + d) (mulL X Y) := fun m hm => by
  obtain ⟨a, ha, hm⟩ := List.mem_flatMap.mp hm
  obtain ⟨b, hb, rfl⟩ := List.mem_map.mp hm
  exact addK_le (h a ha) (g b hb)
theorem KB.scl {c : Nat} {X : Pl} {x : Rat} (h : KB c X) : KB c (sclL X x) := fun m hm => by
  obtain ⟨a, ha, rfl⟩ := List.mem_map.mp hm
  exact h a ha
theorem KB.con (n : Nat) (c : Rat) : KB 0 (conL n c) := fun m hm x hx => by
  rw [List.mem_singleton.mp hm] at hx
  rw [(List.mem_replicate.mp hx).2]; exact Nat.le_refl _
theorem frb_bits {k N b : Nat} {x : Rat} (h : FrB (12 ^ k) (N * 84 ^ k) x) (hN : N * 84 ^ k < 2 ^ b) (hD : 12 ^ k < 2 ^ b) : x.num.natAbs < 2 ^ b ∧ x.den < 2 ^ b := by
  have := FrB.sz (pos12 k) h hD hN
  exact ⟨this.n, this.d⟩
theorem shy_nrm {n k N c : Nat} {X : Pl} (h : PF n k N X) (hk : k ≤ 4) (hN : N ≤ 135) (hn : n ≤ 7) (hc : KB c X) (hcc : c < 2 ^ 7) : Shy 40 (nrm X) :=
  ⟨fun m hm => by rw [h.nrm.w m hm]; exact hn, fun m hm a ha => Nat.lt_of_le_of_lt (hc.nrm m hm a ha) hcc, fun m hm => frb_bits (h.nrm.f m hm) (Nat.lt_of_le_of_lt (Nat.mul_le_mul hN (Nat.pow_le_pow_right (by decide) hk)) (by decide)) (Nat.lt_of_le_of_lt (Nat.pow_le_pow_right (by decide) hk) (by decide))⟩
theorem canon_nrm {X : Pl} (h : (keys X).Nodup) : canon X = nrm X := can_one (canon_can h) (nrm_can X) ((canon_same h).trans (nrm_same X).symm)
theorem Fr.neg1 : Fr 0 (-1) := ⟨-1, by decide +kernel, by decide⟩
theorem frV_ones : ∀ {vs : List Rat} {n : Nat}, vs.length = n → (∀ q ∈ vs, Fr 1 q) → FrV vs (List.replicate n 1)
  | [], 0, _, _ => trivial
  | [], n + 1, h, _ => by simp at h
  | _ :: _, 0, h, _ => by simp at h
  | v :: vs, n + 1, h, g => ⟨g v List.mem_cons_self, frV_ones (by simpa using h) fun q hq => g q (List.mem_cons_of_mem _ hq)⟩
theorem KB.ws {n c : Nat} {p : Pl} (hw : Wide n p) (h : KB c p) : ∀ m ∈ p, wsum (List.replicate n 1) m.1 ≤ n * c := fun m hm => Nat.le_trans (wsum_ones n m.1) (by
    have := sum_le (h m hm)
    rw [hw m hm] at this
    exact this)
/-- a drawn polynomial -/
structure Dr (n : Nat) (p : Pl) : Prop where
  c : Can p
  f : PF n 1 5 p
  k : KB 3 p
theorem Dr.nrm {n : Nat} {p : Pl} (h : Dr n p) : Poly.nrm p = p := can_nrm h.c
theorem Dr.worth {n : Nat} {p : Pl} {vs : List Rat} {t : T} {st : Store} (h : Dr n p) (ht : IsP t p) (hn : n ≤ 7) (hl : vs.length = n) (hv : ∀ q ∈ vs, Fr 1 q) : S__law_worth [t, vT vs] st = some (fq (Poly.worth vs p), st) ∧ Fr 25 (Poly.worth vs p) := by
  have hlen := h.f.l
  obtain ⟨h1, h2⟩ := law_worth_ok (K := 22) (N := 5) (st := st) ht h.f.w (frV_ones hl hv) hl (fun m hm => ⟨1, h.f.f m hm, by
    have := h.k.ws h.f.w m hm
    have : n * 3 ≤ 7 * 3 := Nat.mul_le_mul_right _ hn
    omega⟩) (by decide) (fun j hj => by rw [(List.mem_replicate.mp hj).2]; decide) (fun m hm c hc => by have := h.k m hm c hc; omega) (by omega)
  exact ⟨h1, frN h2 (by omega)⟩
/-- what the law's results are made of -/
structure Mid (n : Nat) (X : Pl) : Prop where
  f : PF n 2 25 X
  k : KB 6 X
theorem Mid.worth {n : Nat} {X : Pl} {vs : List Rat} {t : T} {st : Store} (h : Mid n X) (ht : IsP t (Poly.nrm X)) (hn : n ≤ 7) (hl : vs.length = n) (hv : ∀ q ∈ vs, Fr 1 q) : S_worth_at [t, vT vs] st = some (fq (Poly.worth vs X), st) := by
  have hb := h.f.nrm
  have hlen := hb.l
  have hw := worth_ok (st := st) (k := 5) (c := 6) ht hb.w (nrm_fr h.f (by decide)) (frV_ones hl hv) hl h.k.nrm (by decide) (by
    have : n * 6 ≤ 7 * 6 := Nat.mul_le_mul_right _ hn
    omega) (by omega)
  rw [worth_same (nrm_same X)] at hw
  exact hw
theorem Mid.nic {n : Nat} {X : Pl} (h : Mid n X) (hn : n ≤ 7) (j : Nat) : Nic (j + 3) 3750 (pD (Poly.nrm X)) :=
  nic_p (shy_nrm h.f (by decide) (by decide) hn h.k (by decide)) (by decide) h.f.nrm.l
/-! ### the five -/
def five (n : Nat) (p q : Pl) (c : Rat) : List Pl := [p ++ q, p ++ sclL q (-1), mulL p q, sclL p c, conL n c]
theorem five_mid {n : Nat} {p q : Pl} {c : Rat} (hp : Dr n p) (hq : Dr n q) (hc : Fr 1 c) : ∀ X ∈ five n p q c, Mid n X := by
  have hs : PF n 1 5 (sclL q (-1)) := hq.f.scl Fr.neg1
  intro X hX
  simp only [five, List.mem_cons, List.not_mem_nil, or_false] at hX
  rcases hX with rfl | rfl | rfl | rfl | rfl
  · exact ⟨(hp.f.app hq.f).up (by decide) (by decide), (hp.k.app hq.k).up (by decide)⟩
  · exact ⟨(hp.f.app hs).up (by decide) (by decide), (hp.k.app hq.k.scl).up (by decide)⟩
  · exact ⟨hp.f.mul hq.f, hp.k.mul hq.k⟩
  · exact ⟨(hp.f.scl hc).up (Nat.le_refl _) (by decide), hp.k.scl.up (by decide)⟩
  · exact ⟨⟨con_wide n c, fun m hm => by rw [List.mem_singleton.mp hm]; exact hc.up (by decide), by simp [conL]⟩, (KB.con n c).up (by decide)⟩
theorem five_worths {n : Nat} {p q : Pl} {c : Rat} {vs : List Rat} (hp : Dr n p) (hq : Dr n q) : (five n p q c).map (Poly.worth vs) = [Poly.worth vs p + Poly.worth vs q, Poly.worth vs p - Poly.worth vs q, Poly.worth vs p * Poly.worth vs q, Poly.worth vs p * c, c] := by
  have e1 : Poly.worth vs (p ++ q) = Poly.worth vs p + Poly.worth vs q := phi_app _ _ _
  have e2 : Poly.worth vs (sclL q (-1)) = Poly.worth vs q * (-1) := phi_scl _ _ _
  have e3 : Poly.worth vs (p ++ sclL q (-1)) = Poly.worth vs p - Poly.worth vs q := by
    have : Poly.worth vs (p ++ sclL q (-1)) = Poly.worth vs p + Poly.worth vs (sclL q (-1)) := phi_app _ _ _
    rw [this, e2]; grind
  have e4 : Poly.worth vs (sclL p c) = Poly.worth vs p * c := phi_scl _ _ _
  have e5 : Poly.worth vs (conL n c) = c := by
    show Phi [(List.replicate n 0, c)] (mono vs) = c
    rw [phi_one, mono_zero, Rat.mul_one]
  simp only [five, List.map_cons, List.map_nil, e1, e3, e4, e5, worth_mul hp.f.w hq.f.w]
section
variable {n : Nat} {p q : Pl} {c : Rat} {st : Store}
theorem d_plus (hp : Dr n p) (hq : Dr n q) : S_plus [plP p, plP q] st = some (plT (nrm (p ++ q)), st) :=
  plusN (.inr (by rw [hp.nrm])) (.inr (by rw [hq.nrm])) hp.f hq.f (by decide) (by decide) (by decide)
theorem d_minus (hp : Dr n p) (hq : Dr n q) : S_minus [plP p, plP q] st = some (plT (nrm (p ++ sclL q (-1))), st) := by
  have h := minus_ok (st := st) (t1 := plP p) (t2 := plP q) (.inr rfl) (.inr rfl) hp.f.pb hq.f.pb hp.c.nodup (pos12 1) (by decide) (by decide) (by decide) (by decide)
  rw [h, plus_nrm hp.c.nodup]
theorem d_mul (hp : Dr n p) (hq : Dr n q) (hn : n ≤ 7) : S_multiplied [plP p, plP q] st = some (plT (nrm (mulL p q)), st) :=
  mulN (.inr (by rw [hp.nrm])) (.inr (by rw [hq.nrm])) hp.f hq.f (by decide) (by decide) (by omega) (by decide) (by decide) (by decide)
theorem d_scaled (hp : Dr n p) (hc : Fr 1 c) : S_scaled [plP p, fq c] st = some (plT (nrm (sclL p c)), st) := by
  have hl := hp.f.l
  rw [scaled_ok (.inr rfl) (fun m hm => (hp.f.f m hm).sz (by decide)) (hc.sz (by decide)) (by omega), scP_canon hp.c, canon_nrm (by rw [keys_scl]; exact hp.c.nodup)]
theorem d_con (hn : n ≤ 7) : F_constant [.int (n : Int), fq c] st = some (plT (nrm (conL n c)), st) := by
  rw [constant_ok (by omega), conP_canon, canon_nrm (con_nodup n c)]
theorem l_plus (hp : Dr n p) (hq : Dr n q) : S__law_plus [plP p, plP q] st = some (plP (nrm (p ++ q)), st) := by
  have := lplusN (st := st) (X := p) (Y := q) (t2 := plP q) (.inr (by rw [hq.nrm])) hp.f hq.f (by decide) (by decide) (by decide)
  rw [hp.nrm] at this
  exact this
theorem l_scaled {k : Nat} (hp : Dr n p) (hc : Fr k c) (hk : k ≤ 10) : S__law_scaled [plP p, fq c] st = some (plP (nrm (sclL p c)), st) := by
  have hl := hp.f.l
  rw [law_scaled_ok (.inr rfl) hp.f.w hp.c.nodup (fun m hm => (hp.f.f m hm).sz (by decide)) (hc.sz (by omega)) (by omega), canon_nrm (by rw [keys_scl]; exact hp.c.nodup)]
theorem l_minus (hp : Dr n p) (hq : Dr n q) : S__law_plus [plP p, plP (nrm (sclL q (-1)))] st = some (plP (nrm (p ++ sclL q (-1))), st) := by
  have := lplusN (st := st) (X := p) (Y := sclL q (-1)) (t2 := plP (nrm (sclL q (-1)))) (.inr rfl) hp.f (hq.f.scl Fr.neg1) (by decide) (by decide) (by decide)
  rw [hp.nrm] at this
  exact this
theorem l_mul (hp : Dr n p) (hq : Dr n q) (hn : n ≤ 7) : S__law_multiplied [plP p, plP q] st = some (plP (nrm (mulL p q)), st) :=
  lmulN (.inr (by rw [hp.nrm])) (.inr (by rw [hq.nrm])) hp.f hq.f (by decide) (by omega) (by decide) (by decide) (by decide)
theorem l_con (hn : n ≤ 7) : S__law_constant [.int (n : Int), fq c] st = some (plP (nrm (conL n c)), st) := by
  rw [law_constant_ok (by omega), conP_canon, canon_nrm (con_nodup n c)]
end
/-! ### lists of data -/
theorem toD_lst {st : Store} {l : Nat} {ts : List T} {ds : List PyData} (h : st[l]? = some (.lst ts)) (hd : optAll (toD st 11) ts = some ds) : toD st dpth (.ref l) = some (.list ds) := by
  show (match st[l]? with
    | some (.lst ts) => (optAll (toD st 11) ts).map PyData.list
    | _ => none) = _
  rw [h]
  show (optAll (toD st 11) ts).map PyData.list = _
  rw [hd]; rfl
theorem toD_pls {st : Store} {f : Pl → T} (hf : ∀ X, IsP (f X) (nrm X)) : ∀ Xs : List Pl, optAll (toD st 11) (Xs.map f) = some (Xs.map fun X => pD (nrm X))
  | [] => rfl
  | X :: Xs => by
    have h1 := toD_p (hf X) st 8
    simp only [List.map_cons, optAll, h1, toD_pls hf Xs]
theorem toD_fqs {st : Store} : ∀ qs : List Rat, optAll (toD st 11) (qs.map fun q => fq q) = some (qs.map fD)
  | [] => rfl
  | q :: qs => by
    have h1 := toD_f st 10 q
    simp only [List.map_cons, optAll, h1, toD_fqs qs]
theorem five_good {n : Nat} {p q : Pl} {c : Rat} (hp : Dr n p) (hq : Dr n q) (hc : Fr 1 c) (hn : n ≤ 7) : goodD (.list ((five n p q c).map fun X => pD (nrm X))) := by
  have h := NicAll.map (k := 3) (W := 3750) (fun X => pD (nrm X)) (five n p q c) fun X hX => (five_mid hp hq hc X hX).nic hn 0
  exact Nic.good h.list (by decide) (show 5 * (3750 + 1) ≤ 25000 by decide)
theorem fracs_good {qs : List Rat} (hl : qs.length ≤ 8) (h : ∀ q ∈ qs, Sz 1200 q) : goodD (.list (qs.map fD)) := by
  have h := NicAll.map (k := 1) (W := 2 * 1200 + 4) fD qs fun q hq => nic_f ⟨(h q hq).n, (h q hq).d⟩ (by decide)
  have hh := h.list.up (Nat.le_refl _) (show qs.length * (2 * 1200 + 4 + 1) ≤ 8 * (2 * 1200 + 4 + 1) from Nat.mul_le_mul_right _ hl)
  exact Nic.good hh (by decide) (by decide)
end
end K03
/-! R24 -/
set_option Elab.async false
set_option linter.all false
set_option maxRecDepth 100000
set_option maxHeartbeats 600000
set_option exponentiation.threshold 4000
/-! the first look of the law -/
namespace K03
open PySem PySem.Spec PyProof.Rows L2 TL LamX Poly
noncomputable section
variable [Tb]
abbrev arE (l n : Nat) (p q : Pl) (o4 o5 o6 o7 o8 o9 o10 o11 o12 : Option T) : Env1 := [some (.ref l), some (.int (n : Int)), some (plP p), some (plP q), o4, o5, o6, o7, o8, o9, o10, o11, o12]
theorem sz5 : 0 + 1 + 1 + 1 + 1 + 1 ≤ sizeLine := by decide
theorem sz3 : 0 + 1 + 1 + 1 ≤ sizeLine := by decide
theorem are_ok {N l m n : Nat} {st : Store} {p q : Pl} (hb : BagAt N st l m) (hN : N + 30 ≤ 1000000) (hn : n ≤ 7) (hp : Dr n p) (hq : Dr n q) :
    ∃ s', F__law_are_right [.ref l, .int (n : Int), plP p, plP q] st = some (.bl true, s') ∧ More l st s' ∧ BagAt (N + 16) s' l m := by
  obtain ⟨vs, s1, hv1, hvl, hvf, hm1, hb1⟩ := values_ok (n := n) (i := 1) (v := 11) (e := arE l n p q none none none none none none none none none) hb (by omega) (by omega) rfl rfl (by decide) (by simp)
  obtain ⟨c, s2, hc1, hcf, ho2, hb2⟩ := fraction_fr hb1 (by omega)
  obtain ⟨wp, fp⟩ := hp.worth (t := plP p) (st := s2) (.inr rfl) hn hvl hvf
  obtain ⟨wq, fq_⟩ := hq.worth (t := plP q) (st := s2) (.inr rfl) hn hvl hvf
  generalize hP : Poly.worth vs p = P at *
  generalize hQ : Poly.worth vs q = Q at *
  have hws := five_worths (c := c) (vs := vs) hp hq
  rw [hP, hQ] at hws
  -- the lists
  let tl : List T := (five n p q c).map fun X => plT (nrm X)
  let dl : List T := (five n p q c).map fun X => plP (nrm X)
  let wl : List T := [P + Q, P - Q, P * Q, P * c, c].map fun q => fq q
  let s3 : Store := s2 ++ [.lst tl]
  let s4 : Store := s3 ++ [.lst (dl.take 3)]
  let s5' : Store := s4 ++ [.lst (dl.drop 3)]
  let s6 : Store := s5'.set s3.length (.lst dl)
  let s7 : Store := s6 ++ [.lst wl]
  let s8 : Store := s7 ++ [.lst wl]
  have g6d : s6[s3.length]? = some (.lst dl) := lg (o := .lst (dl.take 3)) (getA last_get)
  have l3 : s3.length = s2.length + 1 := by simp [s3]
  have l6 : s6.length = s5'.length := by simp [s6]
  have g6t : s6[s2.length]? = some (.lst tl) := by
    show (s5'.set s3.length (.lst dl))[s2.length]? = _
    rw [List.getElem?_set_ne (by omega)]
    exact getA (getA last_get)
  have g7t : s7[s2.length]? = some (.lst tl) := getA g6t
  have g7d : s7[s3.length]? = some (.lst dl) := getA g6d
  have g7w : s7[s6.length]? = some (.lst wl) := last_get
  have g8w : s8[s6.length]? = some (.lst wl) := getA g7w
  have g8v : s8[s7.length]? = some (.lst wl) := last_get
  have hgood := five_good hp hq hcf hn
  have ha1 : F__law_alike [.ref s2.length, .ref s3.length] s7 = some (.bl true, s7) :=
    alike_ok rfl rfl (toD_lst g7t (toD_pls (fun X => .inl rfl) _)) (toD_lst g7d (toD_pls (fun X => .inr rfl) _)) hgood
  have hsz : ∀ r ∈ [P + Q, P - Q, P * Q, P * c, c], Sz 1200 r := by
    have f1 : Fr 28 (P + Q) := frN (N := 2) ((FrB.add fp fq_).up (by omega)) (by decide)
    have f2 : Fr 28 (P - Q) := by
      have e : P - Q = P + Q * (-1) := by grind
      rw [e]
      exact frN (N := 2) ((FrB.add fp fq_.neg).up (by omega)) (by decide)
    intro r hr
    simp only [List.mem_cons, List.not_mem_nil, or_false] at hr
    rcases hr with rfl | rfl | rfl | rfl | rfl
    · exact f1.sz (by decide)
    · exact f2.sz (by decide)
    · exact (fp.mul fq_).sz (by decide)
    · exact (fp.mul hcf).sz (by decide)
    · exact hcf.sz (by decide)
  have hgood2 : goodD (.list ([P + Q, P - Q, P * Q, P * c, c].map fD)) := fracs_good (show 5 ≤ 8 by decide) hsz
  have ha2 : F__law_alike [.ref s7.length, .ref s6.length] s8 = some (.bl true, s8) :=
    alike_ok rfl rfl (toD_lst g8v (toD_fqs _)) (toD_lst g8w (toD_fqs _)) hgood2
  let E8 : Env1 := arE l n p q (some (vT vs)) (some (fq c)) (some (fq P)) (some (fq Q)) (some (.ref s2.length)) (some (.ref s3.length)) (some (.ref s6.length)) none none
  have hlc : xLc (xiSeq (xVar 8)) (xgName 12) [12] xYes (xCall S_worth_at (xCons (xVar 12) (xCons (xVar 4) xNil))) E8 s7 = some (.ref s7.length, s8) := by
    have h := lc_all (st := s7) (s1 := s7) (fi := xiSeq (xVar 8)) (g := xgName 12) (vs := [12]) (te := xCall S_worth_at (xCons (xVar 12) (xCons (xVar 4) xNil))) (e := E8) (qs := five n p q c) (it := mFi s2.length) (fun X => plT (nrm X)) (fun X => fq (Poly.worth vs X)) (fun X => arE l n p q (some (vT vs)) (some (fq c)) (some (fq P)) (some (fq Q)) (some (.ref s2.length)) (some (.ref s3.length)) (some (.ref s6.length)) none (some (plT (nrm X))))
      (fi_seq rfl g7t) (fun acc => mFi_at (getA g7t)) (show 5 ≤ 1000 by decide) (fun X hX acc => rfl)
      (fun X hX acc => by
        have := (five_mid hp hq hcf X hX).worth (st := s7 ++ [.lst acc]) (t := plT (nrm X)) (.inl rfl) hn hvl hvf
        simp only [arE, r_xCall, r_xCons, r_xVar, List.getElem?_cons_succ, List.getElem?_cons_zero, Option.bind_some, r_xNil, this])
    have e2 : ((five n p q c).map fun X => fq (Poly.worth vs X)) = wl := by
      show _ = [P + Q, P - Q, P * Q, P * c, c].map fun q => fq q
      rw [← hws, List.map_map]; rfl
    rw [e2] at h
    exact h
  have mo2 : More l st s2 := hm1.trans ho2.more
  have hl2 := hb2.lt
  have hm2 := hb2.ltm
  refine ⟨s8, fn_ret rfl ?_, ?_, ?_⟩
  · -- the body
    refine sq (e' := arE l n p q (some (vT vs)) (some (fq c)) none none none none none none none) (st' := s2) ?_ ?_
    · show xsAsg (xCall tupT (xCons _ (xCons _ xNil))) _ (arE l n p q none none none none none none none none none) st = _
      rw [r_xsAsg, r_xCall, r_xCons, hv1]
      simp only [Option.bind_some, r_xCons, r_xCall, arE, r_xVar, List.getElem?_cons_zero, r_xNil, hc1, r_tup, List.length_cons, List.length_nil, sz2, if_true, xgTup, xgsCons, xgsNil, r_name, Option.map_some]
      rfl
    refine sq (e' := arE l n p q (some (vT vs)) (some (fq c)) (some (fq P)) (some (fq Q)) none none none none none) (st' := s2) ?_ ?_
    · simp only [xsPar, arE, r_xCons, r_xCall, r_xVar, List.getElem?_cons_succ, List.getElem?_cons_zero, Option.bind_some, r_xNil, wp, wq, List.set_cons_succ, List.set_cons_zero]
    refine sq (e' := arE l n p q (some (vT vs)) (some (fq c)) (some (fq P)) (some (fq Q)) (some (.ref s2.length)) none none none none) (st' := s3) ?_ ?_
    · simp only [r_xsSet, arE, r_xCons, r_xCall, r_xVar, List.getElem?_cons_succ, List.getElem?_cons_zero, Option.bind_some, r_xNil, d_plus hp hq, d_minus hp hq, d_mul hp hq hn, d_scaled hp hcf, d_con hn, r_lst, List.length_cons, List.length_nil, sz5, if_true, Option.map_some]
      rfl
    refine sq (e' := arE l n p q (some (vT vs)) (some (fq c)) (some (fq P)) (some (fq Q)) (some (.ref s2.length)) (some (.ref s3.length)) none none none) (st' := s4) ?_ ?_
    · have hneg0 : ∀ s, S__law_scaled [plP q, fq (-1)] s = some (plP (nrm (sclL q (-1))), s) := fun s => l_scaled (c := -1) hq Fr.neg1 (by decide)
      have hneg : ∀ s, S__law_scaled [plP q, .tup [.int (-1), .int 1]] s = some (plP (nrm (sclL q (-1))), s) := hneg0
      simp only [r_xsSet, arE, r_xCons, r_xCall, r_xVar, List.getElem?_cons_succ, List.getElem?_cons_zero, Option.bind_some, r_xNil, r_xUn, r_xC, r_neg, r_tup, List.length_cons, List.length_nil, sz2, if_true, l_plus hp hq, hneg, l_minus hp hq, l_mul hp hq hn, r_lst, sz3, Option.map_some]
      rfl
    refine sq (e' := arE l n p q (some (vT vs)) (some (fq c)) (some (fq P)) (some (fq Q)) (some (.ref s2.length)) (some (.ref s3.length)) none none none) (st' := s6) ?_ ?_
    · have g4 : s4[s3.length]? = some (.lst (dl.take 3)) := last_get
      have g5 : s5'[s3.length]? = some (.lst (dl.take 3)) := getA g4
      have g5b : s5'[s4.length]? = some (.lst (dl.drop 3)) := last_get
      have hz : (dl.take 3).length + (dl.drop 3).length ≤ sizeLine := Nat.le_of_lt (small1000 (by simp [dl, five]))
      have hex : extendT (.ref s3.length) [.ref s4.length] s5' = some (.non, s6) := by
        show (match s5'[s3.length]?, s5'[s4.length]? with
          | some (.lst ts), some (.lst us) => if ts.length + us.length ≤ sizeLine then some (T.non, s5'.set s3.length (.lst (ts ++ us))) else none
          | _, _ => none) = _
        rw [g5, g5b]
        show (if (dl.take 3).length + (dl.drop 3).length ≤ sizeLine then some (T.non, s5'.set s3.length (.lst (dl.take 3 ++ dl.drop 3))) else none) = _
        rw [if_pos hz, List.take_append_drop]
      have hls : xCall lstT (xCons (xCall S__law_scaled (xCons (xVar 2) (xCons (xVar 5) xNil))) (xCons (xCall S__law_constant (xCons (xVar 1) (xCons (xVar 5) xNil))) xNil)) (arE l n p q (some (vT vs)) (some (fq c)) (some (fq P)) (some (fq Q)) (some (.ref s2.length)) (some (.ref s3.length)) none none none) s4 = some (.ref s4.length, s5') := by
        simp only [arE, r_xCons, r_xCall, r_xVar, List.getElem?_cons_succ, List.getElem?_cons_zero, Option.bind_some, r_xNil, l_scaled hp hcf (by decide), l_con hn, r_lst, List.length_cons, List.length_nil, sz2, if_true]
        rfl
      rw [r_xsExpr]
      unfold xMeth
      rw [r_xVar]
      show Option.map _ ((some ((T.ref s3.length), s4)).bind _) = _
      simp only [Option.bind_some, isTy, g4, beq_self_eq_true, if_true]
      rw [r_xCons, hls]
      simp only [Option.bind_some, r_xNil, hex, Option.map_some]
    refine sq (e' := E8) (st' := s7) ?_ ?_
    · have b1 : S__law_added [fq P, fq Q] s6 = some (fq (P + Q), s6) := q_added (fp.sz (by decide)) (fq_.sz (by decide)) (by decide)
      have b2 : S__law_less [fq P, fq Q] s6 = some (fq (P - Q), s6) := q_lessened (fp.sz (by decide)) (fq_.sz (by decide)) (by decide)
      have b3 : S__law_times [fq P, fq Q] s6 = some (fq (P * Q), s6) := q_times (fp.sz (by decide)) (fq_.sz (by decide)) (by decide)
      have b4 : S__law_times [fq P, fq c] s6 = some (fq (P * c), s6) := q_times (fp.sz (by decide)) (hcf.sz (by decide)) (by decide)
      simp only [r_xsSet, arE, r_xCons, r_xCall, r_xVar, List.getElem?_cons_succ, List.getElem?_cons_zero, Option.bind_some, r_xNil, b1, b2, b3, b4, r_lst, List.length_cons, List.length_nil, sz5, if_true, Option.map_some]
      rfl
    rw [r_xsRet]
    unfold xAnd
    have c1 : xCall F__law_alike (xCons (xVar 8) (xCons (xVar 9) xNil)) E8 s7 = some (.bl true, s7) := by
      simp only [E8, arE, r_xCons, r_xCall, r_xVar, List.getElem?_cons_succ, List.getElem?_cons_zero, Option.bind_some, r_xNil, ha1]
    have c2 : xCall F__law_alike (xCons (xLc (xiSeq (xVar 8)) (xgName 12) [12] xYes (xCall S_worth_at (xCons (xVar 12) (xCons (xVar 4) xNil)))) (xCons (xVar 10) xNil)) E8 s7 = some (.bl true, s8) := by
      rw [r_xCall, r_xCons, hlc]
      simp only [Option.bind_some, E8, arE, r_xCons, r_xVar, List.getElem?_cons_succ, List.getElem?_cons_zero, r_xNil, ha2]
    rw [r_xBl, c1]
    simp only [Option.bind_some, if_true]
    rw [c2]
    rfl
  · refine mo2.trans ?_
    have a1 : More l s2 s5' := ((More.app l s2 _).trans (More.app l s3 _)).trans (More.app l s4 _)
    have a2 : More l s2 s6 := a1.set (by omega)
    exact (a2.trans (More.app l s6 _)).trans (More.app l s7 _)
  · have a1 : BagAt (N + n * 2 + 2) s5' l m := ((hb2.more _).more _).more _
    have a2 : BagAt (N + n * 2 + 2) s6 l m := a1.set (by omega) (by omega)
    exact ((a2.more _).more _).up (by omega)
end
end K03
/-! R25 -/
set_option Elab.async false
set_option linter.all false
set_option maxRecDepth 100000
set_option maxHeartbeats 1000000
set_option exponentiation.threshold 4000
/-! the second look of the law: what it needs -/
namespace K03
open PySem PySem.Spec PyProof.Rows L2 TL LamX Poly
noncomputable section
variable [Tb]
theorem KB.zr {c i : Nat} {k : PKey} (h : ∀ x ∈ k, x ≤ c) : ∀ x ∈ zr i k, x ≤ c := fun x hx => by
  unfold Poly.zr at hx
  rcases List.mem_or_eq_of_mem_set hx with a | a
  · exact h x a
  · rw [a]; exact Nat.zero_le _
theorem KB.one (n : Nat) : KB 0 (oneL n) := fun m hm x hx => by
  rw [List.mem_singleton.mp hm] at hx
  rw [(List.mem_replicate.mp hx).2]; exact Nat.le_refl _
theorem KB.pow {n c : Nat} {q : Pl} (h : KB c q) : ∀ d : Nat, KB (c * d) (powL n q d)
  | 0 => KB.one n
  | d + 1 => by
    rw [Nat.mul_succ]
    exact (KB.pow h d).mul h
theorem put_kb {n i : Nat} {p q : Pl} (hp : KB 3 p) (hq : KB 3 q) (hd : ∀ m ∈ p, deg i m.1 ≤ 3) : KB 12 (putL n i p q) := fun m hm => by
  obtain ⟨a, ha, hm⟩ := List.mem_flatMap.mp hm
  have h1 : KB 3 [(zr i a.1, a.2)] := fun z hz => by
    rw [List.mem_singleton.mp hz]
    exact KB.zr (hp a ha)
  have h2 := h1.mul (KB.pow (n := n) hq (deg i a.1))
  exact (h2.up (by have := hd a ha; omega)) m hm
theorem deg_kb {c i : Nat} {p : Pl} (h : KB c p) : ∀ m ∈ p, deg i m.1 ≤ c := fun m hm => by
  unfold deg
  cases e : m.1[i]? with
  | none => exact Nat.zero_le _
  | some x => exact h m hm x (List.mem_of_getElem? e)
theorem FrV.set : ∀ {vs : List Rat} {ks : List Nat} {i k : Nat} {w : Rat}, FrV vs ks → Fr k w → FrV (vs.set i w) (ks.set i k)
  | [], [], _, _, _, _, _ => trivial
  | _ :: _, _ :: _, 0, _, _, h, g => ⟨g, h.2⟩
  | v :: vs, k :: ks, i + 1, _, _, h, g => ⟨h.1, FrV.set h.2 g⟩
  | [], _ :: _, _, _, _, h, _ => h.elim
  | _ :: _, [], _, _, _, h, _ => h.elim
theorem wsum_set : ∀ (ks a : List Nat) (i k : Nat), wsum (ks.set i k) a ≤ wsum ks a + k * deg i a
  | [], a, i, k => by simp [wsum]
  | _ :: _, [], i, k => by cases i <;> simp [wsum]
  | x :: ks, y :: a, 0, k => by
    show k * y + wsum ks a ≤ x * y + wsum ks a + k * y
    omega
  | x :: ks, y :: a, i + 1, k => by
    have := wsum_set ks a i k
    show x * y + wsum (ks.set i k) a ≤ x * y + wsum ks a + k * deg (i + 1) (y :: a)
    have e : deg (i + 1) (y :: a) = deg i a := rfl
    rw [e]; omega
theorem call_of {F : FA} {r : XA} {e : Env1} {st s1 : Store} {ts : List T} {o : Option (T × Store)} (h : r e st = some (ts, s1)) (g : F ts s1 = o) : xCall F r e st = o := by
  rw [r_xCall, h]; exact g
theorem args_cons {f : XE} {r : XA} {e : Env1} {st s1 s2 : Store} {t : T} {ts : List T} (h : f e st = some (t, s1)) (g : r e s1 = some (ts, s2)) : xCons f r e st = some (t :: ts, s2) := by
  rw [r_xCons, h]
  show (r e s1).bind _ = _
  rw [g]; rfl
theorem no_if {A B : XS} {c : XE} {e : Env1} {st st' : Store} {r : Option Out} (h : c e st = some (.bl true, st')) (hB : B e st' = r) : xsIf (xNotT (xTru c)) A B e st = r := by
  simp [h, truT, hB]
/-- a value in the place of another one -/
theorem turned_ok {e : Env1} {s : Store} {iV iP i n : Nat} {vs : List Rat} {w : Rat} {f : XE} (hV : e[iV]? = some (some (vT vs))) (hP : e[iP]? = some (some (.int (i : Int)))) (hv : vs.length = n) (hi : i < n) (hn : n ≤ 1000) (hf : f e s = some (fq w, s)) :
    xBin addT (xBin addT (xSl (xVar iV) none (some (xVar iP))) (xCall tupT (xCons f xNil))) (xSl (xVar iV) (some (xBin addT (xVar iP) (xC (.int 1)))) none) e s = some (vT (vs.set i w), s) := by
  have l1 : (vs.map fun q => fq q).length = n := by rw [List.length_map]; exact hv
  have c1 : cutG (vs.map fun q => fq q) none (some (i : Int)) = (vs.map fun q => fq q).take i := cut_to (by omega)
  have c2 : cutG (vs.map fun q => fq q) (some ((i + 1 : Nat) : Int)) none = (vs.map fun q => fq q).drop (i + 1) := cut_from (by omega)
  have z1 : ((vs.map fun q => fq q).take i).length + [fq w].length ≤ sizeLine := Nat.le_of_lt (small1000 (by rw [List.length_take, List.length_singleton]; omega))
  have z2 : ((vs.map fun q => fq q).take i ++ [fq w]).length + ((vs.map fun q => fq q).drop (i + 1)).length ≤ sizeLine := Nat.le_of_lt (small1000 (by rw [List.length_append, List.length_take, List.length_singleton, List.length_drop]; omega))
  have a1 : addT (.tup ((vs.map fun q => fq q).take i)) (.tup [fq w]) s = some (.tup ((vs.map fun q => fq q).take i ++ [fq w]), s) := by
    show (if _ then _ else none) = _
    rw [if_pos z1]
  have a2 : addT (.tup ((vs.map fun q => fq q).take i ++ [fq w])) (.tup ((vs.map fun q => fq q).drop (i + 1))) s = some (vT (vs.set i w), s) := by
    show (if _ then _ else none) = _
    rw [if_pos z2]
    have : (vs.map fun q => fq q).take i ++ [fq w] ++ (vs.map fun q => fq q).drop (i + 1) = (vs.set i w).map fun q => fq q := by
      rw [List.set_eq_take_append_cons_drop, if_pos (by omega), List.map_append, List.map_cons, List.map_take, List.map_drop, List.append_assoc]; rfl
    rw [this]
  have s1 : xSl (xVar iV) none (some (xVar iP)) e s = some (.tup ((vs.map fun q => fq q).take i), s) := by
    simp only [xSl, xPart, r_xVar, hV, hP, Option.bind_some, slT, c1]
  have s2 : xSl (xVar iV) (some (xBin addT (xVar iP) (xC (.int 1)))) none e s = some (.tup ((vs.map fun q => fq q).drop (i + 1)), s) := by
    simp only [xSl, xPart, r_xVar, hV, hP, Option.bind_some, r_xBin, r_xC, r_add, slT]
    rw [show ((i : Int) + 1) = (i : Int) + ((1 : Nat) : Int) from rfl, ← Int.natCast_add, c2]
  have z0 : [fq w].length ≤ sizeLine := by simp
  simp only [r_xBin, s1, s2, Option.bind_some, r_xCall, r_xCons, hf, r_xNil, r_tup, z0, if_true, a1, a2]
/-! ### the sum of the parts -/
theorem sum_next (n i : Nat) (p q : Pl) (j : Nat) : sumL n i p q (List.range (j + 1)) = sumL n i p q (List.range j) ++ mulL (partL i j p) (powL n q j) := by
  unfold sumL
  rw [List.range_succ, List.flatMap_append]
  simp
theorem unit_pf (n i : Nat) : PF n 0 1 (unitL n i) := ⟨unit_wide n i, fun m hm => by rw [List.mem_singleton.mp hm]; exact Fr.one, Nat.le_refl _⟩
theorem unit_pow_pf (n i j : Nat) : PF n 0 1 (powL n (unitL n i) j) := by
  have := (unit_pf n i).pow j
  rw [Nat.zero_mul, Nat.one_pow] at this
  exact this
theorem unit_nrm (n i : Nat) : nrm (unitL n i) = unitL n i := can_nrm (unit_can n i)
theorem KB.unit (n i : Nat) : KB 1 (unitL n i) := fun m hm x hx => by
  rw [List.mem_singleton.mp hm] at hx
  obtain ⟨j, _, rfl⟩ := List.mem_map.mp hx
  split <;> omega
theorem pow0_con (n : Nat) (q : Pl) : conP n 1 = nrm (powL n q 0) := by
  show (if (1 : Rat) = 0 then [] else conL n 1) = nrm (oneL n)
  rw [if_neg (by decide), can_nrm (one_can n)]; rfl
abbrev ipE (l n : Nat) (p q : Pl) (i : Nat) (o5 o6 o7 o8 o9 o10 o11 o12 : Option T) : Env1 := [some (.ref l), some (.int (n : Int)), some (plP p), some (plT q), some (.int (i : Int)), o5, o6, o7, o8, o9, o10, o11, o12, none]
abbrev ipB : XS := xsSeq (xsSet 12 (xCall S_part_by (xCons (xVar 2) (xCons (xVar 4) (xCons (xVar 11) xNil)))))
    (xsSeq (xsIf (xNotT (xTru (xCall F__law_alike (xCons (xVar 12) (xCons (xCall S__law_part_by (xCons (xVar 2) (xCons (xVar 4) (xCons (xVar 11) xNil)))) xNil)))))
    (xsRet (xC (.bl false)))
    xsNil)
    (xsSeq (xsSet 9 (xCall S_plus (xCons (xVar 9) (xCons (xCall S_multiplied (xCons (xVar 12) (xCons (xVar 10) xNil))) xNil))))
    (xsSet 10 (xCall S_multiplied (xCons (xVar 10) (xCons (xCall S_unit (xCons (xVar 1) (xCons (xVar 4) xNil))) xNil))))))
theorem Dr.shy {n : Nat} {p : Pl} (h : Dr n p) (hn : n ≤ 7) : Shy 40 p := by
  have := shy_nrm h.f (by decide) (by decide) hn h.k (by decide)
  rw [h.nrm] at this
  exact this
theorem shy_part {b i c : Nat} {p : Pl} (h : Shy b p) (hc : KB 3 p) : Shy b (partL i c p) := by
  refine ⟨fun m hm => ?_, fun m hm a ha => ?_, fun m hm => ?_⟩
  · obtain ⟨x, hx, rfl⟩ := List.mem_map.mp hm
    exact Nat.le_trans (Nat.le_of_eq (zr_len i x.1)) (h.w x (List.mem_filter.mp hx).1)
  · obtain ⟨x, hx, rfl⟩ := List.mem_map.mp hm
    have := KB.zr (i := i) (hc x (List.mem_filter.mp hx).1) a ha
    omega
  · obtain ⟨x, hx, rfl⟩ := List.mem_map.mp hm
    exact h.n x (List.mem_filter.mp hx).1
theorem ip_body {l n i : Nat} {p q : Pl} {st : Store} {o5 o6 o7 o8 o12 : Option T} {c W V P L M W' U V' : T}
    (e1 : S_part_by [plP p, .int (i : Int), c] st = some (P, st)) (e2 : S__law_part_by [plP p, .int (i : Int), c] st = some (L, st)) (e7 : F__law_alike [P, L] st = some (.bl true, st))
    (e3 : S_multiplied [P, V] st = some (M, st)) (e4 : S_plus [W, M] st = some (W', st)) (e5 : S_unit [.int (n : Int), .int (i : Int)] st = some (U, st)) (e6 : S_multiplied [V, U] st = some (V', st)) :
    ipB (ipE l n p q i o5 o6 o7 o8 (some W) (some V) (some c) o12) st = some (.nx (ipE l n p q i o5 o6 o7 o8 (some W') (some V') (some c) (some P)) st) := by
  refine sq (e' := ipE l n p q i o5 o6 o7 o8 (some W) (some V) (some c) (some P)) (st' := st) ?_ ?_
  · simp only [r_xsSet, ipE, r_xCall, r_xCons, r_xVar, List.getElem?_cons_succ, List.getElem?_cons_zero, Option.bind_some, r_xNil, e1, Option.map_some, List.set_cons_succ, List.set_cons_zero]
  refine sq (e' := ipE l n p q i o5 o6 o7 o8 (some W) (some V) (some c) (some P)) (st' := st) (no_if (st' := st) ?_ rfl) ?_
  · simp only [ipE, r_xCall, r_xCons, r_xVar, List.getElem?_cons_succ, List.getElem?_cons_zero, Option.bind_some, r_xNil, e2, e7]
  refine sq (e' := ipE l n p q i o5 o6 o7 o8 (some W') (some V) (some c) (some P)) (st' := st) ?_ ?_
  · simp only [r_xsSet, ipE, r_xCall, r_xCons, r_xVar, List.getElem?_cons_succ, List.getElem?_cons_zero, Option.bind_some, r_xNil, e3, e4, Option.map_some, List.set_cons_succ, List.set_cons_zero]
  · have hU : xCall S_unit (xCons (xVar 1) (xCons (xVar 4) xNil)) (ipE l n p q i o5 o6 o7 o8 (some W') (some V) (some c) (some P)) st = some (U, st) := call_of (ts := [.int (n : Int), .int (i : Int)]) rfl e5
    have h : xCall S_multiplied (xCons (xVar 10) (xCons (xCall S_unit (xCons (xVar 1) (xCons (xVar 4) xNil))) xNil)) (ipE l n p q i o5 o6 o7 o8 (some W') (some V) (some c) (some P)) st = some (V', st) := call_of (args_cons (t := V) rfl (args_cons hU rfl)) e6
    rw [r_xsSet, h]
    rfl
theorem part_alike {n i j : Nat} {p : Pl} {st : Store} (hp : Dr n p) (hn : n ≤ 7) : F__law_alike [plT (partL i j p), plP (partL i j p)] st = some (.bl true, st) := by
  have hl := hp.f.l
  have hnic := nic_p (j := 0) (b := 40) (N := 5) (shy_part (i := i) (c := j) (hp.shy hn) hp.k) (by decide) (Nat.le_trans (part_len i j p) hl)
  exact alike_ok rfl rfl (toD_T st 9 _) (toD_P st 9 _) (Nic.good hnic (by decide) (by decide))
theorem part_mul {n i j : Nat} {p : Pl} {st : Store} (hp : Dr n p) (hn : n ≤ 7) : S_multiplied [plT (partL i j p), plT (nrm (powL n (unitL n i) j))] st = some (plT (nrm (mulL (partL i j p) (powL n (unitL n i) j))), st) := by
  have hcanp := part_can (i := i) (c := j) hp.f.w hp.c
  exact mulN (k := 1) (l := 0) (N := 5) (M := 1) (.inl (by rw [can_nrm hcanp])) (.inl rfl) (hp.f.part) (unit_pow_pf n i j) (by decide) (by decide) (by omega) (by decide) (by decide) (by decide)
theorem part_pf2 {n i j : Nat} {p : Pl} (hp : Dr n p) : PF n 1 5 (mulL (partL i j p) (powL n (unitL n i) j)) := (hp.f.part (i := i) (c := j)).mul (unit_pow_pf n i j)
theorem part_sum {n i j : Nat} {p : Pl} {st : Store} (hp : Dr n p) (hS : PF n 1 (5 * j) (sumL n i p (unitL n i) (List.range j))) (hj : j ≤ 5) : S_plus [plT (nrm (sumL n i p (unitL n i) (List.range j))), plT (nrm (mulL (partL i j p) (powL n (unitL n i) j)))] st = some (plT (nrm (sumL n i p (unitL n i) (List.range (j + 1)))), st) := by
  have h := plusN (st := st) (n := n) (k := 1) (N := 5 * j) (M := 5) (X := sumL n i p (unitL n i) (List.range j)) (Y := mulL (partL i j p) (powL n (unitL n i) j)) (.inl rfl) (.inl rfl) hS (part_pf2 hp) (by decide) (by omega) (by decide)
  rw [← sum_next] at h
  exact h
theorem pow_next (n : Nat) (u : Pl) (j : Nat) : powL n u (j + 1) = mulL (powL n u j) u := rfl
theorem unit_next {n i j : Nat} {st : Store} (hn : n ≤ 7) : S_multiplied [plT (nrm (powL n (unitL n i) j)), plT (unitL n i)] st = some (plT (nrm (powL n (unitL n i) (j + 1))), st) := by
  have h := mulN (st := st) (n := n) (k := 0) (l := 0) (N := 1) (M := 1) (X := powL n (unitL n i) j) (Y := unitL n i) (t2 := plT (unitL n i)) (.inl rfl) (.inl (by rw [unit_nrm])) (unit_pow_pf n i j) (unit_pf n i) (by decide) (by decide) (by omega) (by decide) (by decide) (by decide)
  rw [← pow_next] at h
  exact h
theorem ip_turn {l n i j : Nat} {p q : Pl} {st : Store} {o5 o6 o7 o8 o12 : Option T} (hp : Dr n p) (hn : n ≤ 7) (hi : i < n) (hS : PF n 1 (5 * j) (sumL n i p (unitL n i) (List.range j))) (hj : j ≤ 5) :
    ipB (ipE l n p q i o5 o6 o7 o8 (some (plT (nrm (sumL n i p (unitL n i) (List.range j))))) (some (plT (nrm (powL n (unitL n i) j)))) (some (.int (j : Int))) o12) st
      = some (.nx (ipE l n p q i o5 o6 o7 o8 (some (plT (nrm (sumL n i p (unitL n i) (List.range (j + 1)))))) (some (plT (nrm (powL n (unitL n i) (j + 1))))) (some (.int (j : Int))) (some (plT (partL i j p)))) st) := by
  have hl := hp.f.l
  exact ip_body (part_ok (.inr rfl) hp.f.w hi (by omega) (by omega)) (law_part_ok (.inr rfl) hp.f.w hp.c hi (by omega) (by omega)) (part_alike hp hn) (part_mul hp hn) (part_sum hp hS hj) (unit_ok (by omega)) (unit_next hn)
theorem sum_pf {n i j : Nat} {p : Pl} (hp : Dr n p) (hS : PF n 1 (5 * j) (sumL n i p (unitL n i) (List.range j))) : PF n 1 (5 * (j + 1)) (sumL n i p (unitL n i) (List.range (j + 1))) := by
  rw [sum_next, Nat.mul_succ]
  exact hS.app (part_pf2 hp)
end
end K03
/-! R26 -/
set_option Elab.async false
set_option linter.all false
set_option maxRecDepth 100000
set_option maxHeartbeats 1000000
set_option exponentiation.threshold 4000
/-! the second look of the law -/
namespace K03
open PySem PySem.Spec PyProof.Rows L2 TL LamX Poly
noncomputable section
variable [Tb]
theorem ret_of {f : XE} {e : Env1} {st s1 : Store} {t : T} (h : f e st = some (t, s1)) : xsRet f e st = some (.rt t s1) := by
  rw [r_xsRet, h]; rfl
theorem set_of {f : XE} {e : Env1} {st s1 : Store} {t : T} {i : Nat} (h : f e st = some (t, s1)) : xsSet i f e st = some (.nx (e.set i (some t)) s1) := by
  rw [r_xsSet, h]; rfl
theorem par_of {f : XA} {e : Env1} {st s1 : Store} {a b : T} {i j : Nat} (h : f e st = some ([a, b], s1)) : xsPar i j f e st = some (.nx ((e.set i (some a)).set j (some b)) s1) := by
  unfold xsPar
  rw [h]; rfl
theorem lst2 {a b : T} {s : Store} : lstT [a, b] s = some (.ref s.length, s ++ [.lst [a, b]]) := by
  have h : [a, b].length ≤ sizeLine := show 2 ≤ sizeLine by decide
  rw [r_lst, if_pos h]
theorem nic_pair {d : PyData} {p : Pl} {b j N W : Nat} (h : Shy b p) (hb : b ≤ 1900) (hN : p.length ≤ N) (hd : Nic (j + 3) W d) : Nic (j + 4) (N * (2 * b + 70) + W + 2) (.list [pD p, d]) :=
  ((NicAll.cons (nic_p (j := j) h hb hN) (NicAll.cons hd NicAll.nil)).list).up (Nat.le_refl _) (by omega)
theorem unit_shy {n i : Nat} (hn : n ≤ 7) : Shy 1 (unitL n i) := ⟨fun m hm => by rw [unit_wide n i m hm]; exact hn, fun m hm a ha => Nat.lt_of_le_of_lt (KB.unit n i m hm a ha) (by decide), fun m hm => by rw [List.mem_singleton.mp hm]; exact ⟨show (1 : Rat).num.natAbs < 2 ^ 1 by decide, show (1 : Rat).den < 2 ^ 1 by decide⟩⟩
section
variable {n i : Nat} {p q : Pl} {vs : List Rat} {s : Store}
theorem i_put (hp : Dr n p) (hq : Dr n q) (hq3 : PF n 1 3 q) (hn : n ≤ 7) (hi : i < n) : S_put_in [plP p, .int (i : Int), plT q] s = some (plT (nrm (putL n i p q)), s) :=
  put_ok (b := 40) (.inr rfl) (.inl (by rw [hq.nrm])) hp.f hp.c (hp.shy hn) (by decide) hq3 hi (by omega) (deg_kb hp.k)
theorem i_lput (hp : Dr n p) (hq : Dr n q) (hq3 : PF n 1 3 q) (hn : n ≤ 7) (hi : i < n) : S__law_put_in [plP p, .int (i : Int), plT q] s = some (plP (nrm (putL n i p q)), s) :=
  law_put_ok (b := 40) (.inr rfl) (.inl (by rw [hq.nrm])) hp.f hp.c (hp.shy hn) (by rw [hq.nrm]; exact hq.shy hn) (by decide) hq3 hi (by omega) (deg_kb hp.k)
theorem i_pf (hp : Dr n p) (hq3 : PF n 1 3 q) : PF n 4 135 (putL n i p q) := (put_pf hq3 hp.f.w hp.f.f (deg_kb hp.k)).up (Nat.le_refl _) (Nat.mul_le_mul_right _ hp.f.l)
theorem i_kb (hp : Dr n p) (hq : Dr n q) : KB 12 (putL n i p q) := put_kb hp.k hq.k (deg_kb hp.k)
theorem i_worth (hp : Dr n p) (hq : Dr n q) (hq3 : PF n 1 3 q) (hn : n ≤ 7) (hi : i < n) (hl : vs.length = n) (hv : ∀ q ∈ vs, Fr 1 q) : S_worth_at [plT (nrm (putL n i p q)), vT vs] s = some (fq (worth (vs.set i (worth vs q)) p), s) := by
  have hX := i_pf (i := i) hp hq3
  have hb := hX.nrm
  have hlen := hb.l
  have h := worth_ok (st := s) (t := plT (nrm (putL n i p q))) (k := 7) (c := 12) (.inl rfl) hb.w (nrm_fr hX (by decide)) (frV_ones hl hv) hl (i_kb hp hq).nrm (by decide) (by
    have : n * 12 ≤ 7 * 12 := Nat.mul_le_mul_right _ hn
    omega) (by omega)
  rw [worth_same (nrm_same _), worth_put hp.f.w hq.f.w hl hi] at h
  exact h
theorem i_turned (hp : Dr n p) (hn : n ≤ 7) (hl : vs.length = n) (hv : ∀ q ∈ vs, Fr 1 q) {w : Rat} (hw : Fr 25 w) : S__law_worth [plP p, vT (vs.set i w)] s = some (fq (worth (vs.set i w) p), s) ∧ Sz 1200 (worth (vs.set i w) p) := by
  have hlen := hp.f.l
  have hh := law_worth_ok (n := n) (vs := vs.set i w) (ks := (List.replicate n 1).set i 25) (K := 97) (N := 5) (st := s) (t := plP p) (.inr rfl) hp.f.w ((frV_ones hl hv).set hw) (by rw [List.length_set]; exact hl) (fun m hm => ⟨1, hp.f.f m hm, by
    have h1 := wsum_set (List.replicate n 1) m.1 i 25
    have h2 := hp.k.ws hp.f.w m hm
    have h3 := deg_kb (i := i) hp.k m hm
    have : n * 3 ≤ 7 * 3 := Nat.mul_le_mul_right _ hn
    have : 25 * deg i m.1 ≤ 25 * 3 := Nat.mul_le_mul_left _ h3
    omega⟩) (by decide) (fun j hj => by
      rcases List.mem_or_eq_of_mem_set hj with a | a
      · rw [(List.mem_replicate.mp a).2]; decide
      · rw [a]; decide) (fun m hm c hc => by have := hp.k m hm c hc; omega) (by omega)
  exact ⟨hh.1, hh.2.sz (pos12 97) (p12 (k := 97) (by decide)) (p84n (k := 97) (N := p.length) (by decide) (by omega))⟩
theorem i_alike1 (hp : Dr n p) (hq : Dr n q) (hq3 : PF n 1 3 q) (hn : n ≤ 7) {j k : Nat} {s : Store} (hj : s[j]? = some (.lst [plT (nrm (putL n i p q)), .int ((degM i p : Nat) : Int)])) (hk : s[k]? = some (.lst [plP (nrm (putL n i p q)), .int ((degM i p : Nat) : Int)])) : F__law_alike [.ref j, .ref k] s = some (.bl true, s) := by
  have hX := i_pf (i := i) hp hq3
  have hsh := shy_nrm hX (by decide) (by decide) hn (i_kb hp hq) (by decide)
  have hdeg : degM i p ≤ 3 := degM_le (deg_kb hp.k)
  have hd : Nic 3 4 (.int ((degM i p : Nat) : Int)) := nic_int_of (b := 3) (by rw [Int.natAbs_natCast]; omega) (by decide)
  have hg := nic_pair (j := 0) hsh (by decide) hX.nrm.l hd
  have hi : toD s 11 (.int ((degM i p : Nat) : Int)) = some (.int ((degM i p : Nat) : Int)) := rfl
  refine alike_ok rfl rfl (toD_lst hj ?_) (toD_lst hk ?_) (Nic.good hg (by decide) (by decide))
  · have h1 := toD_T s 8 (nrm (putL n i p q))
    simp only [optAll, h1, hi]
  · have h1 := toD_P s 8 (nrm (putL n i p q))
    simp only [optAll, h1, hi]
theorem i_alike2 {w : Rat} (h : Sz 1200 w) : F__law_alike [fq w, fq w] s = some (.bl true, s) :=
  alike_ok rfl rfl (toD_f s 11 w) (toD_f s 11 w) (Nic.good (nic_f (j := 0) ⟨h.n, h.d⟩ (by decide)) (by decide) (by decide))
theorem i_alike3 (hp : Dr n p) (hn : n ≤ 7) {j k : Nat} {s : Store} (hj : s[j]? = some (.lst [plT p, plT (unitL n i)])) (hk : s[k]? = some (.lst [plP p, plT (unitL n i)])) : F__law_alike [.ref j, .ref k] s = some (.bl true, s) := by
  have hd : Nic 3 (1 * (2 * 1 + 70)) (pD (unitL n i)) := nic_p (j := 0) (unit_shy hn) (by decide) (Nat.le_refl _)
  have hg := nic_pair (j := 0) (hp.shy hn) (by decide) hp.f.l hd
  have h0 := toD_T s 8 (unitL n i)
  refine alike_ok rfl rfl (toD_lst hj ?_) (toD_lst hk ?_) (Nic.good hg (by decide) (by decide))
  · have h1 := toD_T s 8 p
    simp only [optAll, h1, h0]
  · have h1 := toD_P s 8 p
    simp only [optAll, h1, h0]
theorem i_whole (hp : Dr n p) : nrm (sumL n i p (unitL n i) (List.range (degM i p + 2))) = p := by
  have h1 : Same (sumL n i p (unitL n i) (List.range (degM i p + 2))) (putL n i p (unitL n i)) := sum_put List.nodup_range fun m hm => List.mem_range.mpr (by have := deg_le (i := i) m hm; omega)
  rw [nrm_one (h1.trans (put_unit hp.f.w)), hp.nrm]
end
theorem i_loop {l n i : Nat} {p q : Pl} {st : Store} {o5 o6 o8 o11 o12 : Option T} {f : XE} (hp : Dr n p) (hn : n ≤ 7) (hi : i < n) (e : Env1) (he : e = ipE l n p q i o5 o6 (some (.int ((degM i p : Nat) : Int))) o8 (some (plT (nrm []))) (some (plT (nrm (powL n (unitL n i) 0)))) o11 o12) :
    ∃ o10 o11' o12', xsFor (xiRange1 (xBin addT (xVar 7) (xC (.int 2)))) (xgName 11) ipB e st = some (.nx (ipE l n p q i o5 o6 (some (.int ((degM i p : Nat) : Int))) o8 (some (plT p)) o10 o11' o12') st) := by
  have hdeg : degM i p ≤ 3 := degM_le (deg_kb hp.k)
  have hfi : xiRange1 (xBin addT (xVar 7) (xC (.int 2))) e st = some (fun _ => some (rngs 0 (degM i p + 2)), st) := by
    refine range_it (c := degM i p + 2) ?_ (by omega)
    rw [he]; rfl
  obtain ⟨e', s', hf, o12', o11', rfl, rfl, _⟩ := for_enc (fi := xiRange1 (xBin addT (xVar 7) (xC (.int 2)))) (g := xgName 11) (b := ipB) (e := e) (st := st) (s1 := st) (it := fun _ => some (rngs 0 (degM i p + 2))) (qs := List.range (degM i p + 2)) rE
    (fun j e s => ∃ o12' o11', e = ipE l n p q i o5 o6 (some (.int ((degM i p : Nat) : Int))) o8 (some (plT (nrm (sumL n i p (unitL n i) (List.range j))))) (some (plT (nrm (powL n (unitL n i) j)))) o11' o12' ∧ s = st ∧ PF n 1 (5 * j) (sumL n i p (unitL n i) (List.range j)))
    hfi (fun k e s h => rfl) ⟨o12, o11, he, rfl, ⟨(fun m hm => by cases hm), (fun m hm => by cases hm), Nat.le_refl _⟩⟩
    (fun j e s x hx h => by
      obtain ⟨o12', o11', rfl, rfl, hS⟩ := h
      have hjx : x = j := by
        have := (List.getElem?_eq_some_iff.mp hx)
        obtain ⟨h1, h2⟩ := this
        rw [List.getElem_range] at h2
        exact h2.symm
      have hjl : j < degM i p + 2 := by
        have := (List.getElem?_eq_some_iff.mp hx).1
        simpa using this
      subst hjx
      have ht := ip_turn (l := l) (q := q) (st := s) (o5 := o5) (o6 := o6) (o7 := some (.int ((degM i p : Nat) : Int))) (o8 := o8) (o12 := o12') hp hn hi hS (by omega)
      refine ⟨_, s, _, s, ?_, ht, _, _, rfl, rfl, sum_pf hp hS⟩
      rw [rE_eq]; rfl)
  rw [List.length_range, i_whole hp] at hf
  exact ⟨_, _, _, hf⟩
end
end K03
/-! R27 -/
set_option Elab.async false
set_option linter.all false
set_option maxRecDepth 100000
set_option maxHeartbeats 1000000
set_option exponentiation.threshold 4000
/-! the second look of the law, led -/
namespace K03
open PySem PySem.Spec PyProof.Rows L2 TL LamX Poly
noncomputable section
variable [Tb]
theorem tup0 {e : Env1} {s : Store} : xCall tupT xNil e s = some (.tup [], s) := by simp
theorem one_T {n : Nat} {s : Store} (hn : n ≤ 7) (q : Pl) : F_constant [.int (n : Int), .tup [.int 1, .int 1]] s = some (plT (nrm (powL n q 0)), s) := by
  have h := constant_ok (n := n) (c := 1) (st := s) (by omega)
  rw [pow0_con n q] at h
  exact h
theorem tup11 {e : Env1} {s : Store} : xCall tupT (xCons (xC (.int 1)) (xCons (xC (.int 1)) xNil)) e s = some (.tup [.int 1, .int 1], s) := by simp
/-- the body, the trees left open -/
theorem is_put_body {l n i : Nat} {p q : Pl} {st s1 s2 : Store} {vs : List Rat} {P LP W Wn V0 U UL : T} {D : Int} {r : Rat}
    (t1 : S__law_take [.ref l, .int (n : Int)] st = some (.int (i : Int), s1))
    (t2 : xCall tupleT (xCons (xLc (xiRange1 (xVar 1)) (xgName 13) [13] xYes (xCall S__law_fraction (xCons (xVar 0) xNil))) xNil) [some (.ref l), some (.int (n : Int)), some (plP p), some (plT q), none, none, none, none, none, none, none, none, none, none] s1 = some (vT vs, s2))
    (p1 : S_put_in [plP p, .int (i : Int), plT q] s2 = some (P, s2)) (p2 : S_degree_in [plP p, .int (i : Int)] s2 = some (.int D, s2))
    (hw : xBin addT (xBin addT (xSl (xVar 5) none (some (xVar 4))) (xCall tupT (xCons (xCall S__law_worth (xCons (xVar 3) (xCons (xVar 5) xNil))) xNil))) (xSl (xVar 5) (some (xBin addT (xVar 4) (xC (.int 1)))) none) (ipE l n p q i (some (vT vs)) (some P) (some (.int D)) none none none none none) s2 = some (W, s2))
    (p3 : ∀ s, S__law_put_in [plP p, .int (i : Int), plT q] s = some (LP, s)) (p4 : ∀ s, S__law_degree [plP p, .int (i : Int)] s = some (.int D, s))
    (a1 : ∀ (j k : Nat) (s : Store), s[j]? = some (.lst [P, .int D]) → s[k]? = some (.lst [LP, .int D]) → F__law_alike [.ref j, .ref k] s = some (.bl true, s))
    (p5 : ∀ s, S_worth_at [P, vT vs] s = some (fq r, s)) (p6 : ∀ s, S__law_worth [plP p, W] s = some (fq r, s)) (a2 : ∀ s, F__law_alike [fq r, fq r] s = some (.bl true, s))
    (p7 : ∀ s, F_constant [.int (n : Int), .tup [.int 1, .int 1]] s = some (V0, s))
    (lp : ∀ s, ∃ o10 o11 o12, xsFor (xiRange1 (xBin addT (xVar 7) (xC (.int 2)))) (xgName 11) ipB (ipE l n p q i (some (vT vs)) (some P) (some (.int D)) (some W) (some (.tup [])) (some V0) none none) s = some (.nx (ipE l n p q i (some (vT vs)) (some P) (some (.int D)) (some W) (some Wn) o10 o11 o12) s))
    (p8 : ∀ s, S_unit [.int (n : Int), .int (i : Int)] s = some (U, s)) (p9 : ∀ s, S__law_unit [.int (n : Int), .int (i : Int)] s = some (UL, s))
    (a3 : ∀ (j k : Nat) (s : Store), s[j]? = some (.lst [Wn, U]) → s[k]? = some (.lst [plP p, UL]) → F__law_alike [.ref j, .ref k] s = some (.bl true, s)) :
    ∃ g, F__law_is_put_right [.ref l, .int (n : Int), plP p, plT q] st = some (.bl true, s2 ++ g) := by
  -- the stores
  have e1 : ∀ (a b : T) (s : Store), (s ++ [Ob.lst [a, b]])[s.length]? = some (.lst [a, b]) := fun a b s => last_get
  obtain ⟨o10, o11, o12, hl⟩ := lp ((s2 ++ [Ob.lst [P, .int D]]) ++ [Ob.lst [LP, .int D]])
  refine ⟨[Ob.lst [P, .int D]] ++ ([Ob.lst [LP, .int D]] ++ ([Ob.lst [Wn, U]] ++ [Ob.lst [plP p, UL]])), fn_ret rfl ?_⟩
  have hS : s2 ++ ([Ob.lst [P, .int D]] ++ ([Ob.lst [LP, .int D]] ++ ([Ob.lst [Wn, U]] ++ [Ob.lst [plP p, UL]]))) = (((s2 ++ [Ob.lst [P, .int D]]) ++ [Ob.lst [LP, .int D]]) ++ [Ob.lst [Wn, U]]) ++ [Ob.lst [plP p, UL]] := by
    simp only [List.append_assoc]
  rw [hS]
  have c1 := a1 s2.length (s2 ++ [Ob.lst [P, .int D]]).length ((s2 ++ [Ob.lst [P, .int D]]) ++ [Ob.lst [LP, .int D]]) (getA last_get) last_get
  generalize hS4 : (s2 ++ [Ob.lst [P, .int D]]) ++ [Ob.lst [LP, .int D]] = s4 at *
  have c3 := a3 s4.length (s4 ++ [Ob.lst [Wn, U]]).length ((s4 ++ [Ob.lst [Wn, U]]) ++ [Ob.lst [plP p, UL]]) (getA last_get) last_get
  refine sq (e' := ipE l n p q i (some (vT vs)) none none none none none none none) (st' := s2) ?_ ?_
  · exact par_of (args_cons (call_of (ts := [.ref l, .int (n : Int)]) rfl t1) (args_cons t2 rfl))
  refine sq (e' := ipE l n p q i (some (vT vs)) (some P) (some (.int D)) none none none none none) (st' := s2) ?_ ?_
  · exact par_of (args_cons (call_of (ts := [plP p, .int (i : Int), plT q]) rfl p1) (args_cons (call_of (ts := [plP p, .int (i : Int)]) rfl p2) rfl))
  refine sq (e' := ipE l n p q i (some (vT vs)) (some P) (some (.int D)) (some W) none none none none) (st' := s2) (set_of hw) ?_
  refine sq (e' := ipE l n p q i (some (vT vs)) (some P) (some (.int D)) (some W) none none none none) (st' := s4) (no_if (st' := s4) ?_ rfl) ?_
  · refine call_of (ts := [.ref s2.length, .ref (s2 ++ [Ob.lst [P, .int D]]).length]) (s1 := s4) ?_ c1
    refine args_cons (s1 := s2 ++ [Ob.lst [P, .int D]]) (call_of (ts := [P, .int D]) rfl lst2) (args_cons (s1 := s4) (call_of (ts := [LP, .int D]) (s1 := s2 ++ [Ob.lst [P, .int D]]) ?_ ?_) rfl)
    · exact args_cons (call_of (ts := [plP p, .int (i : Int), plT q]) rfl (p3 _)) (args_cons (call_of (ts := [plP p, .int (i : Int)]) rfl (p4 _)) rfl)
    · rw [lst2, hS4]
  refine sq (e' := ipE l n p q i (some (vT vs)) (some P) (some (.int D)) (some W) none none none none) (st' := s4) (no_if (st' := s4) ?_ rfl) ?_
  · exact call_of (ts := [fq r, fq r]) (s1 := s4) (args_cons (call_of (ts := [P, vT vs]) rfl (p5 _)) (args_cons (call_of (ts := [plP p, W]) rfl (p6 _)) rfl)) (a2 _)
  refine sq (e' := ipE l n p q i (some (vT vs)) (some P) (some (.int D)) (some W) (some (.tup [])) (some V0) none none) (st' := s4) ?_ ?_
  · exact par_of (args_cons tup0 (args_cons (call_of (ts := [.int (n : Int), .tup [.int 1, .int 1]]) (args_cons rfl (args_cons tup11 rfl)) (p7 _)) rfl))
  refine sq hl ?_
  refine ret_of (call_of (ts := [.ref s4.length, .ref (s4 ++ [Ob.lst [Wn, U]]).length]) (s1 := (s4 ++ [Ob.lst [Wn, U]]) ++ [Ob.lst [plP p, UL]]) ?_ c3)
  refine args_cons (s1 := s4 ++ [Ob.lst [Wn, U]]) (call_of (ts := [Wn, U]) (args_cons rfl (args_cons (call_of (ts := [.int (n : Int), .int (i : Int)]) rfl (p8 _)) rfl)) lst2) (args_cons (s1 := (s4 ++ [Ob.lst [Wn, U]]) ++ [Ob.lst [plP p, UL]]) (call_of (ts := [plP p, UL]) (s1 := s4 ++ [Ob.lst [Wn, U]]) (args_cons rfl (args_cons (call_of (ts := [.int (n : Int), .int (i : Int)]) rfl (p9 _)) rfl)) lst2) rfl)
theorem is_put_ok {N l m n : Nat} {st : Store} {p q : Pl} (hb : BagAt N st l m) (hN : N + 40 ≤ 1000000) (h0 : 0 < n) (hn : n ≤ 7) (hp : Dr n p) (hq : Dr n q) (hq3 : PF n 1 3 q) :
    ∃ s', F__law_is_put_right [.ref l, .int (n : Int), plP p, plT q] st = some (.bl true, s') ∧ More l st s' ∧ BagAt (N + 16) s' l m := by
  obtain ⟨v, s1, t1, t2, t3, t4, t5⟩ := take_ok (many := (n : Int)) hb (by omega) (by omega) (by rw [Int.natAbs_natCast]; have := log2_of (k := 3) (show n < 2 ^ 3 by omega); omega)
  obtain ⟨i, rfl⟩ := Int.eq_ofNat_of_zero_le t2
  have hi : i < n := by omega
  obtain ⟨vs, s2, hv1, hvl, hvf, hm1, hb1⟩ := values_ok (n := n) (i := 1) (v := 13) (e := [some (.ref l), some (.int (n : Int)), some (plP p), some (plT q), none, none, none, none, none, none, none, none, none, none]) t5 (by omega) (by omega) rfl rfl (by decide) (by simp)
  obtain ⟨wq, fq25⟩ := hq.worth (t := plT q) (st := s2) (.inl rfl) hn hvl hvf
  have hlen := hp.f.l
  have htw : ∀ s, S__law_worth [plP p, vT (vs.set i (worth vs q))] s = some (fq (worth (vs.set i (worth vs q)) p), s) := fun s => (i_turned (s := s) hp hn hvl hvf fq25).1
  have hsz := (i_turned (s := s2) (i := i) hp hn hvl hvf fq25).2
  obtain ⟨g, hF⟩ := is_put_body (l := l) (n := n) (i := i) (p := p) (q := q) (st := st) (s1 := s1) (s2 := s2) (vs := vs) (P := plT (nrm (putL n i p q))) (LP := plP (nrm (putL n i p q))) (W := vT (vs.set i (worth vs q))) (Wn := plT p) (V0 := plT (nrm (powL n (unitL n i) 0))) (U := plT (unitL n i)) (UL := plT (unitL n i)) (D := ((degM i p : Nat) : Int)) (r := worth (vs.set i (worth vs q)) p)
    t1 hv1 (i_put hp hq hq3 hn hi) (degree_ok (.inr rfl) hp.f.w hi (by omega))
    (turned_ok (n := n) rfl rfl hvl hi (by omega) (call_of (ts := [plT q, vT vs]) rfl wq))
    (fun s => i_lput hp hq hq3 hn hi) (fun s => law_degree_ok (.inr rfl) hp.f.w hi (by omega))
    (fun j k s hj hk => i_alike1 hp hq hq3 hn hj hk)
    (fun s => i_worth hp hq hq3 hn hi hvl hvf) htw (fun s => i_alike2 hsz)
    (fun s => one_T hn _)
    (fun s => i_loop (f := xVar 0) hp hn hi _ (by rw [show nrm [] = [] from can_nrm Can.nil]; rfl))
    (fun s => unit_ok (by omega)) (fun s => law_unit_ok (by omega))
    (fun j k s hj hk => i_alike3 hp hn hj hk)
  exact ⟨_, hF, (t4.more.trans hm1).trans (More.app l s2 g), (hb1.more g).up (by omega)⟩
end
end K03
/-! R28 -/
set_option Elab.async false
set_option linter.all false
set_option maxRecDepth 100000
set_option maxHeartbeats 1000000
set_option exponentiation.threshold 4000
/-! the law -/
namespace K03
open PySem PySem.Spec PyProof.Rows L2 TL LamX Poly
noncomputable section
variable [Tb]
theorem many_draw {N l m : Nat} {s : Store} {e : Env1} (hb : BagAt N s l m) (hN : N ≤ 1000000) (h0 : e[1]? = some (some (.ref l))) :
    ∃ (n : Nat) (s' : Store), xCall F__law_some (xCons (xVar 1) (xCons (xCall lstT (xCons (xC (.int 2)) (xCons (xC (.int 3)) (xCons (xC (.int 1)) (xCons (xC (.int 4)) (xCons (xC (.int 2)) (xCons (xC (.int 0)) (xCons (xC (.int 7)) xNil)))))))) xNil)) e s = some (.int (n : Int), s') ∧ n ≤ 7 ∧ More l s s' ∧ BagAt (N + 1) s' l m := by
  have hl := BagAt.lt hb
  obtain ⟨x, s2, f1, hx, o1, b1⟩ := some_list (j := s.length) (ts := ([2, 3, 1, 4, 2, 0, 7] : List Int).map T.int) (hb.more [.lst (([2, 3, 1, 4, 2, 0, 7] : List Int).map T.int)]) hN (by simp) (by omega) (by simp) (by decide)
  obtain ⟨z, hz, rfl⟩ := ints_mem hx
  have hz1 : z = 2 ∨ z = 3 ∨ z = 1 ∨ z = 4 ∨ z = 0 ∨ z = 7 := by
    simp at hz
    omega
  have sz7 : (7 : Nat) ≤ sizeLine := by decide
  simp only [List.map_cons, List.map_nil] at f1
  refine ⟨z.toNat, s2, ?_, by omega, (More.app l s _).trans o1.more, b1⟩
  have ez : ((z.toNat : Nat) : Int) = z := Int.toNat_of_nonneg (by omega)
  rw [ez]
  simp [h0, sz7, f1]
def twoD (p q : Pl) : PyData := .list [pD p, pD q]
theorem two_good {n : Nat} {p q : Pl} (hp : Dr n p) (hq : Dr n q) (hn : n ≤ 7) : goodD (twoD p q) := by
  have hd : Nic 3 (5 * (2 * 40 + 70)) (pD q) := nic_p (j := 0) (hq.shy hn) (by decide) hq.f.l
  have hg := nic_pair (j := 0) (hp.shy hn) (by decide) hp.f.l hd
  exact Nic.good hg (by decide) (by decide)
theorem repr_two {n : Nat} {p q : Pl} {s : Store} {e : Env1} (hp : Dr n p) (hq : Dr n q) (hn : n ≤ 7) (h4 : e[4]? = some (some (plP p))) (h5 : e[5]? = some (some (plP q))) :
    xCall reprV (xCons (xCall lstT (xCons (xVar 4) (xCons (xVar 5) xNil))) xNil) e s = some (.str (twoD p q).shown, s ++ [.lst [plP p, plP q]]) := by
  have v4 : xVar 4 e s = some (plP p, s) := by rw [r_xVar, h4]
  have v5 : xVar 5 e s = some (plP q, s) := by rw [r_xVar, h5]
  have h1 := toD_P (s ++ [Ob.lst [plP p, plP q]]) 8 p
  have h2 := toD_P (s ++ [Ob.lst [plP p, plP q]]) 8 q
  have hd : toD (s ++ [Ob.lst [plP p, plP q]]) dpth (.ref s.length) = some (twoD p q) := toD_lst last_get (by simp only [optAll, h1, h2])
  exact call_of (args_cons (call_of (args_cons v4 (args_cons v5 rfl)) lst2) rfl) (reprT_box rfl hd (two_good hp hq hn))
theorem Dr.take {n : Nat} {q : Pl} (h : Dr n q) (j : Nat) : Dr n (q.take j) := ⟨can_take h.c j, ⟨wide_take h.f.w, fun m hm => h.f.f m (List.mem_of_mem_take hm), Nat.le_trans (by rw [List.length_take]; omega) h.f.l⟩, fun m hm => h.k m (List.mem_of_mem_take hm)⟩
theorem slice3 {q : Pl} {e : Env1} {s : Store} (h : e[5]? = some (some (plP q))) : xSl (xVar 5) none (some (xC (.int 3))) e s = some (plT (q.take 3), s) := by
  have hc : cutG (q.map mT) none (some ((3 : Nat) : Int)) = (q.take 3).map mT := by
    unfold cutG
    rw [HT.sIx_nat, HT.sIx_none, List.drop_zero, Nat.sub_zero, ← List.map_take]
    congr 1
    rw [List.length_map]
    rcases Nat.le_total 3 q.length with h | h
    · rw [Nat.min_eq_left h]
    · rw [Nat.min_eq_right h, List.take_length, List.take_of_length_le h]
  have v : xVar 5 e s = some (plP q, s) := by rw [r_xVar, h]
  unfold xSl
  rw [v]
  show some (T.tup (cutG (q.map mT) none (some ((3 : Nat) : Int))), s) = _
  rw [hc]
theorem or_no {c d : XE} {A B : XS} {e : Env1} {st s1 s2 : Store} {r : Option Out} (h1 : c e st = some (.bl true, s1)) (h2 : d e s1 = some (.bl true, s2)) (hB : B e s2 = r) : xsIf (xOrT (xNotT (xTru c)) (xNotT (xTru d))) A B e st = r := by
  simp [h1, h2, truT, hB]
theorem and_no {c : XT} {d : XE} {A B : XS} {e : Env1} {st s1 s2 : Store} {r : Option Out} {b : Bool} (h1 : c e st = some (b, s1)) (h2 : b = true → d e s1 = some (.bl true, s2)) (h3 : b = false → s2 = s1) (hB : B e s2 = r) : xsIf (xAndT c (xNotT (xTru d))) A B e st = r := by
  cases b with
  | true => simp [h1, h2 rfl, truT, hB]
  | false =>
    have := h3 rfl
    subst this
    simp [h1, hB]
abbrev lawB : XS := (xsSeq (xsSet 3 (xCall F__law_some (xCons (xVar 1) (xCons (xCall lstT (xCons (xC (.int 2)) (xCons (xC (.int 3)) (xCons (xC (.int 1)) (xCons (xC (.int 4)) (xCons (xC (.int 2)) (xCons (xC (.int 0)) (xCons (xC (.int 7)) xNil)))))))) xNil))))
    (xsSeq (xsPar 4 5 (xCons (xCall S__law_drawn_poly (xCons (xVar 1) (xCons (xVar 3) xNil))) (xCons (xCall S__law_drawn_poly (xCons (xVar 1) (xCons (xVar 3) xNil))) xNil)))
    (xsSeq (xsSet 6 (xCall reprV (xCons (xCall lstT (xCons (xVar 4) (xCons (xVar 5) xNil))) xNil)))
    (xsSeq (xsIf (xOrT (xNotT (xTru (xCall F__law_are_right (xCons (xVar 1) (xCons (xVar 3) (xCons (xVar 4) (xCons (xVar 5) xNil))))))) (xNotT (xTru (xCall F__law_are_right (xCons (xVar 1) (xCons (xVar 3) (xCons (xVar 4) (xCons (xVar 4) xNil))))))))
    (xsRet (xC (.bl false)))
    xsNil)
    (xsSeq (xsIf (xAndT (xBl (xBin gtT (xVar 3) (xC (.int 0)))) (xNotT (xTru (xCall F__law_is_put_right (xCons (xVar 1) (xCons (xVar 3) (xCons (xVar 4) (xCons (xSl (xVar 5) none (some (xC (.int 3)))) xNil))))))))
    (xsRet (xC (.bl false)))
    xsNil)
    (xsIf (xBl (xBin neT (xCall reprV (xCons (xCall lstT (xCons (xVar 4) (xCons (xVar 5) xNil))) xNil)) (xVar 6)))
    (xsRet (xC (.bl false)))
    xsNil))))))
abbrev laE (r : T) (l : Nat) (o2 o3 o4 o5 o6 : Option T) : Env1 := [some r, some (.ref l), o2, o3, o4, o5, o6]
theorem turn_ok {N l m : Nat} {s : Store} {r : T} {o2 o3 o4 o5 o6 : Option T} (hb : BagAt N s l m) (hN : N + 1000 ≤ 1000000) :
    ∃ o3' o4' o5' o6' s', lawB (laE r l o2 o3 o4 o5 o6) s = some (.nx (laE r l o2 o3' o4' o5' o6') s') ∧ BagAt (N + 200) s' l m := by
  obtain ⟨n, s1, f1, hn, _, b1⟩ := many_draw (e := laE r l o2 o3 o4 o5 o6) hb (by omega) rfl
  obtain ⟨p, s2, f2, cp, pp, kp, _, b2⟩ := poly_ok (n := n) b1 hn (by omega)
  obtain ⟨q, s3, f3, cq, pq, kq, _, b3⟩ := poly_ok (n := n) b2 hn (by omega)
  have hp : Dr n p := ⟨cp, pp, kp⟩
  have hq : Dr n q := ⟨cq, pq, kq⟩
  have b4 := b3.more [Ob.lst [plP p, plP q]]
  obtain ⟨s5, f5, _, b5⟩ := are_ok b4 (by omega) hn hp hq
  obtain ⟨s6, f6, _, b6⟩ := are_ok b5 (by omega) hn hp hp
  have hput : ∃ s7, (decide ((n : Int) > 0) = true → F__law_is_put_right [.ref l, .int (n : Int), plP p, plT (q.take 3)] s6 = some (.bl true, s7)) ∧ (decide ((n : Int) > 0) = false → s7 = s6) ∧ BagAt (N + 1 + 50 + 50 + 16 + 16 + 16) s7 l m := by
    by_cases h : 0 < n
    · have hq3 : PF n 1 3 (q.take 3) := ⟨(hq.take 3).f.w, (hq.take 3).f.f, by rw [List.length_take]; omega⟩
      obtain ⟨s7, f7, _, b7⟩ := is_put_ok b6 (by omega) h hn hp (hq.take 3) hq3
      refine ⟨s7, fun _ => f7, fun hf => ?_, b7⟩
      have : ¬ ((n : Int) > 0) := of_decide_eq_false hf
      omega
    · refine ⟨s6, fun ht => ?_, fun _ => rfl, b6.up (by omega)⟩
      have : (n : Int) > 0 := of_decide_eq_true ht
      omega
  obtain ⟨s7, f7, f7b, b7⟩ := hput
  refine ⟨some (.int (n : Int)), some (plP p), some (plP q), some (.str (twoD p q).shown), s7 ++ [Ob.lst [plP p, plP q]], ?_, (b7.more _).up (by omega)⟩
  refine sq (e' := laE r l o2 (some (.int (n : Int))) o4 o5 o6) (st' := s1) (set_of f1) ?_
  refine sq (e' := laE r l o2 (some (.int (n : Int))) (some (plP p)) (some (plP q)) o6) (st' := s3) (par_of (args_cons (call_of (ts := [.ref l, .int (n : Int)]) rfl f2) (args_cons (call_of (ts := [.ref l, .int (n : Int)]) rfl f3) rfl))) ?_
  refine sq (e' := laE r l o2 (some (.int (n : Int))) (some (plP p)) (some (plP q)) (some (.str (twoD p q).shown))) (st' := s3 ++ [Ob.lst [plP p, plP q]]) (set_of (repr_two hp hq hn rfl rfl)) ?_
  refine sq (e' := laE r l o2 (some (.int (n : Int))) (some (plP p)) (some (plP q)) (some (.str (twoD p q).shown))) (st' := s6) (or_no (call_of (ts := [.ref l, .int (n : Int), plP p, plP q]) rfl f5) (call_of (ts := [.ref l, .int (n : Int), plP p, plP p]) rfl f6) rfl) ?_
  refine sq (e' := laE r l o2 (some (.int (n : Int))) (some (plP p)) (some (plP q)) (some (.str (twoD p q).shown))) (st' := s7) (and_no (b := decide ((n : Int) > 0)) (s1 := s6) rfl (fun hb => call_of (ts := [.ref l, .int (n : Int), plP p, plT (q.take 3)]) (args_cons rfl (args_cons rfl (args_cons rfl (args_cons (slice3 rfl) rfl)))) (f7 hb)) f7b rfl) ?_
  refine if_no (st' := s7 ++ [Ob.lst [plP p, plP q]]) ?_ rfl
  rw [r_xBl, r_xBin, repr_two hp hq hn rfl rfl]
  simp [TL.neT]
theorem math (ns : List Int) (h : ns.length ≤ 63) (hb : ∀ z ∈ ns, Builtin.Int.intBits z ≤ 1048576) : ∃ st, F_law [.rdl ns] [] = some (.bl true, st) := by
  obtain ⟨g, f1, b1⟩ := bag_ok ns []
  obtain ⟨e', s', g1, g2⟩ := for_inv (g := xgName 2) (b := lawB) (ts := rngs 0 6)
    (fun i e s => i ≤ 6 ∧ BagAt (200 * i) s (0 + 2) (0 + 1) ∧ ∃ o2 o3 o4 o5 o6, e = laE (.rdl ns) (0 + 2) o2 o3 o4 o5 o6)
    (range_it (f := xC (.int ((6 : Nat) : Int))) (e := laE (.rdl ns) (0 + 2) none none none none none) (st := [] ++ g) rfl (by omega)) (fun i e s h => rfl) ⟨Nat.zero_le _, b1, _, _, _, _, _, rfl⟩
    (fun i e s y hy hh => by
      obtain ⟨hi, hbg, o2, o3, o4, o5, o6, rfl⟩ := hh
      have hlt : i < 6 := by
        have := (List.getElem?_eq_some_iff.mp hy).1
        simpa [rngs] using this
      obtain ⟨o3', o4', o5', o6', s', t1, t2⟩ := turn_ok (r := .rdl ns) (o2 := some y) (o3 := o3) (o4 := o4) (o5 := o5) (o6 := o6) hbg (by omega)
      exact ⟨_, s, _, _, s', rfl, t1, .inl rfl, by omega, t2.up (by omega), _, _, _, _, _, rfl⟩)
  obtain ⟨_, _, o2, o3, o4, o5, o6, rfl⟩ := g2
  refine ⟨s', fn_ret rfl ?_⟩
  refine sq (e' := laE (.rdl ns) (0 + 2) none none none none none) (st' := [] ++ g) ?_ ?_
  · have f1' : F__law_bag [.rdl ns] [] = some (.ref (0 + 2), [] ++ g) := f1
    exact set_of (call_of (ts := [.rdl ns]) rfl f1')
  exact sq g1 rfl
end
end K03
/-! O03 -/
set_option Elab.async false
set_option linter.all false
set_option maxRecDepth 100000
set_option maxHeartbeats 4000000
namespace K03
open PySem PySem.Spec PyProof.Rows L2 TL LamX
noncomputable section
variable [Tb]
section
variable {P : Program} {w : World} {K : PySem.W.Frag} {mg : Str → Option Value} {base : Heap}
theorem ok_reduced (T : Txt mg) (L : Place K mg "reduced" s_reduced P_reduced) : DefAt P w K mg base 1 "reduced" P_reduced F_reduced :=
  DefAt.of L sc_reduced fun f cdv A outer s H hr hg => by
  have nd := sc_reduced.nd
  exact (ss_cons (st_if (tt_cmp (ot_eq hr.units) (et_var 1) et_int (nomark _))
    (ss_one st_never)
    ss_nil)
    (ss_cons (st_set (i := 2) nd (et_callF ct_gcd (at_cons (et_var 0) (at_cons (et_var 1) at_nil)) T.gcd))
    (ss_cons (st_if (tt_cmp ot_lt (et_var 1) et_int (nomark _))
    (ss_one (st_set (i := 2) nd (et_un ut_neg (et_var 2))))
    ss_nil)
    (ss_one (st_ret (et_tup (at_cons (et_bin ot_fdiv (et_var 0) (et_var 2)) (at_cons (et_bin ot_fdiv (et_var 1) (et_var 2)) at_nil))))))))
theorem ok_added (T : Txt mg) (L : Place K mg "added" s_added P_added) (d_reduced : DefAt P w K mg base 1 "reduced" P_reduced S_reduced) : DefAt P w K mg base 2 "added" P_added F_added :=
  DefAt.of L sc_added fun f cdv A outer s H hr hg => by
  have nd := sc_added.nd
  exact (ss_one (st_ret (et_callD d_reduced hr hg (at_cons (et_bin ot_add (et_bin ot_mul (et_ix (xt_ixA (room65 hr)) (et_var 0) et_int) (et_ix (xt_ixA (room65 hr)) (et_var 1) et_int)) (et_bin ot_mul (et_ix (xt_ixA (room65 hr)) (et_var 1) et_int) (et_ix (xt_ixA (room65 hr)) (et_var 0) et_int))) (at_cons (et_bin ot_mul (et_ix (xt_ixA (room65 hr)) (et_var 0) et_int) (et_ix (xt_ixA (room65 hr)) (et_var 1) et_int)) at_nil)))))
theorem ok_times (T : Txt mg) (L : Place K mg "times" s_times P_times) (d_reduced : DefAt P w K mg base 1 "reduced" P_reduced S_reduced) : DefAt P w K mg base 2 "times" P_times F_times :=
  DefAt.of L sc_times fun f cdv A outer s H hr hg => by
  have nd := sc_times.nd
  exact (ss_one (st_ret (et_callD d_reduced hr hg (at_cons (et_bin ot_mul (et_ix (xt_ixA (room65 hr)) (et_var 0) et_int) (et_ix (xt_ixA (room65 hr)) (et_var 1) et_int)) (at_cons (et_bin ot_mul (et_ix (xt_ixA (room65 hr)) (et_var 0) et_int) (et_ix (xt_ixA (room65 hr)) (et_var 1) et_int)) at_nil)))))
theorem ok_total_of (T : Txt mg) (L : Place K mg "total_of" s_total_of P_total_of) (d_reduced : DefAt P w K mg base 1 "reduced" P_reduced S_reduced) : DefAt P w K mg base 2 "total_of" P_total_of F_total_of :=
  DefAt.of L sc_total_of fun f cdv A outer s H hr hg => by
  have nd := sc_total_of.nd
  exact (ss_cons (st_set (i := 1) nd et_int)
    (ss_cons (st_for PassesOwn.never rfl (it_seq (et_var 0)) (gt_tup rfl (gs_cons (gt_name (i := 2) nd) (gs_cons (gt_name (i := 3) nd) gs_nil)))
    (ss_one (st_set (i := 1) nd (et_callF ct_lcm (at_cons (et_var 1) (at_cons (et_var 3) at_nil)) T.lcm))))
    (ss_one (st_ret (et_callD d_reduced hr hg (at_cons (et_callB (ct_sum rfl) (at_cons (et_lc (own := [("num", 4), ("den", 3)]) rfl nd (blkOk_by (own := [("num", 4), ("den", 3)]) (N := N_total_of) (sc := defScope s_total_of) (by decide +kernel)) (it_seq (et_var 0)) (fun _ _ _ _ _ => (gt_tup rfl (gs_cons (gt_name (i := 4) nd) (gs_cons (gt_name (i := 3) nd) gs_nil)))) (fun _ _ _ _ _ => pt_nil) (fun _ _ _ _ _ => (et_bin ot_mul (et_var 4) (et_bin ot_fdiv (et_var 1) (et_var 3))))) at_nil) T.sum) (at_cons (et_var 1) at_nil)))))))
theorem ok_whole_power (T : Txt mg) (L : Place K mg "whole_power" s_whole_power P_whole_power) : DefAt P w K mg base 1 "whole_power" P_whole_power F_whole_power :=
  DefAt.of L sc_whole_power fun f cdv A outer s H hr hg => by
  have nd := sc_whole_power.nd
  exact (ss_cons (st_set (i := 2) nd et_int)
    (ss_cons (st_while PassesOwn.never (tt_cmp ot_gt (et_var 1) et_int (nomark _))
    (ss_cons (st_if (tt_cmp (ot_eq hr.units) (et_bin ot_mod (et_var 1) et_int) et_int (nomark _))
    (ss_one (st_set (i := 2) nd (et_bin ot_mul (et_var 2) (et_var 0))))
    ss_nil)
    (ss_cons (st_set (i := 1) nd (et_bin ot_fdiv (et_var 1) et_int))
    (ss_one (st_if (tt_cmp ot_gt (et_var 1) et_int (nomark _))
    (ss_one (st_set (i := 0) nd (et_bin ot_mul (et_var 0) (et_var 0))))
    ss_nil)))))
    (ss_one (st_ret (et_var 2)))))
theorem ok_power_of (T : Txt mg) (L : Place K mg "power_of" s_power_of P_power_of) (d_whole_power : DefAt P w K mg base 1 "whole_power" P_whole_power F_whole_power) : DefAt P w K mg base 2 "power_of" P_power_of F_power_of :=
  DefAt.of L sc_power_of fun f cdv A outer s H hr hg => by
  have nd := sc_power_of.nd
  exact (ss_one (st_ret (et_tup (at_cons (et_callD d_whole_power hr hg (at_cons (et_ix (xt_ixA (room65 hr)) (et_var 0) et_int) (at_cons (et_var 1) at_nil))) (at_cons (et_callD d_whole_power hr hg (at_cons (et_ix (xt_ixA (room65 hr)) (et_var 0) et_int) (at_cons (et_var 1) at_nil))) at_nil)))))
theorem ok_unit (T : Txt mg) (L : Place K mg "unit" s_unit P_unit) : DefAt P w K mg base 1 "unit" P_unit F_unit :=
  DefAt.of L sc_unit fun f cdv A outer s H hr hg => by
  have nd := sc_unit.nd
  exact (ss_cons (st_set (i := 2) nd (et_callTy ct_tuple (at_cons (et_lc (own := [("at", 3)]) rfl nd (blkOk_by (own := [("at", 3)]) (N := N_unit) (sc := defScope s_unit) (by decide +kernel)) (it_range1 (et_var 0) T.range) (fun _ _ _ _ _ => (gt_name (i := 3) nd)) (fun _ _ _ _ _ => pt_nil) (fun _ _ _ _ _ => (et_if (tt_cmp (ot_eq hr.units) (et_var 3) (et_var 1) (nomark _)) et_int et_int))) at_nil) T.tuple))
    (ss_one (st_ret (et_tup (at_cons (et_tup (at_cons (et_var 2) (at_cons (et_tup (at_cons et_int (at_cons et_int at_nil))) at_nil))) at_nil)))))
theorem ok_constant (T : Txt mg) (L : Place K mg "constant" s_constant P_constant) : DefAt P w K mg base 1 "constant" P_constant F_constant :=
  DefAt.of L sc_constant fun f cdv A outer s H hr hg => by
  have nd := sc_constant.nd
  exact (ss_cons (st_if (tt_cmp (ot_eq hr.units) (et_ix (xt_ixA (room65 hr)) (et_var 1) et_int) et_int (nomark _))
    (ss_one (st_ret (et_tup at_nil)))
    ss_nil)
    (ss_one (st_ret (et_tup (at_cons (et_tup (at_cons (et_bin ot_mulD (et_tup (at_cons et_int at_nil)) (et_var 0)) (at_cons (et_var 1) at_nil))) at_nil)))))
theorem ok_gathered (T : Txt mg) (L : Place K mg "gathered" s_gathered P_gathered) : DefAt P w K mg base 1 "gathered" P_gathered F_gathered :=
  DefAt.of L sc_gathered fun f cdv A outer s H hr hg => by
  have nd := sc_gathered.nd
  exact (ss_one (st_ret (et_callTy ct_tuple (at_cons (et_lc (own := [("powers", 1)]) rfl nd (blkOk_by (own := [("powers", 1)]) (N := N_gathered) (sc := defScope s_gathered) (by decide +kernel)) (it_seq (et_callB (ct_sortedD rfl hr.units) (at_cons (et_var 0) at_nil) T.sorted)) (fun _ _ _ _ _ => (gt_name (i := 1) nd)) (fun _ _ _ _ _ => (pt_one (tt_cmp (ot_ne hr.units) (et_ix (xt_ixA (room65 hr)) (et_ix (xt_ixA (room65 hr)) (et_var 0) (et_var 1)) et_int) et_int (nomark _)))) (fun _ _ _ _ _ => (et_tup (at_cons (et_var 1) (at_cons (et_ix (xt_ixA (room65 hr)) (et_var 0) (et_var 1)) at_nil))))) at_nil) T.tuple)))
theorem ok_plus (T : Txt mg) (L : Place K mg "plus" s_plus P_plus) (d_added : DefAt P w K mg base 2 "added" P_added S_added) (d_gathered : DefAt P w K mg base 1 "gathered" P_gathered S_gathered) : DefAt P w K mg base 3 "plus" P_plus F_plus :=
  DefAt.of L sc_plus fun f cdv A outer s H hr hg => by
  have nd := sc_plus.nd
  exact (ss_cons (st_setDcN (i := 4) (own := [("powers", 2), ("factor", 3)]) rfl nd hr.units (blkOk_by (own := [("powers", 2), ("factor", 3)]) (N := N_plus) (sc := defScope s_plus) (by decide +kernel)) (it_seq (et_var 0)) (fun _ _ _ _ _ => (gt_tup rfl (gs_cons (gt_name (i := 2) nd) (gs_cons (gt_name (i := 3) nd) gs_nil)))) (fun _ _ _ _ _ => pt_nil) (fun _ _ _ _ _ => (et_var 2)) (fun _ _ _ _ _ => (et_var 3)))
    (ss_cons (st_for PassesOwn.never rfl (it_seq (et_var 1)) (gt_tup rfl (gs_cons (gt_name (i := 2) nd) (gs_cons (gt_name (i := 3) nd) gs_nil)))
    (ss_one (st_asg (et_callD d_added hr hg (at_cons (et_methX PySem.F.plainAttrs_dict PySem.F.slot_dict_get PySem.F.type_dict_get (mm_getOr (room65 hr)) (et_var 4) (at_cons (et_var 2) (at_cons (et_tup (at_cons et_int (at_cons et_int at_nil))) at_nil))) (at_cons (et_var 3) at_nil))) (gt_subA (room65 hr) (et_var 4) (et_var 2)))))
    (ss_one (st_ret (et_callD d_gathered hr hg (at_cons (et_var 4) at_nil))))))
theorem ok_scaled (T : Txt mg) (L : Place K mg "scaled" s_scaled P_scaled) (d_times : DefAt P w K mg base 2 "times" P_times S_times) : DefAt P w K mg base 3 "scaled" P_scaled F_scaled :=
  DefAt.of L sc_scaled fun f cdv A outer s H hr hg => by
  have nd := sc_scaled.nd
  exact (ss_cons (st_if (tt_cmp (ot_eq hr.units) (et_ix (xt_ixA (room65 hr)) (et_var 1) et_int) et_int (nomark _))
    (ss_one (st_ret (et_tup at_nil)))
    ss_nil)
    (ss_one (st_ret (et_callTy ct_tuple (at_cons (et_lc (own := [("powers", 2), ("factor", 3)]) rfl nd (blkOk_by (own := [("powers", 2), ("factor", 3)]) (N := N_scaled) (sc := defScope s_scaled) (by decide +kernel)) (it_seq (et_var 0)) (fun _ _ _ _ _ => (gt_tup rfl (gs_cons (gt_name (i := 2) nd) (gs_cons (gt_name (i := 3) nd) gs_nil)))) (fun _ _ _ _ _ => pt_nil) (fun _ _ _ _ _ => (et_tup (at_cons (et_var 2) (at_cons (et_callD d_times hr hg (at_cons (et_var 3) (at_cons (et_var 1) at_nil))) at_nil))))) at_nil) T.tuple))))
theorem ok_minus (T : Txt mg) (L : Place K mg "minus" s_minus P_minus) (d_scaled : DefAt P w K mg base 3 "scaled" P_scaled S_scaled) (d_plus : DefAt P w K mg base 3 "plus" P_plus S_plus) : DefAt P w K mg base 4 "minus" P_minus F_minus :=
  DefAt.of L sc_minus fun f cdv A outer s H hr hg => by
  have nd := sc_minus.nd
  exact (ss_one (st_ret (et_callD d_plus hr hg (at_cons (et_var 0) (at_cons (et_callD d_scaled hr hg (at_cons (et_var 1) (at_cons (et_tup (at_cons (et_un ut_neg et_int) (at_cons et_int at_nil))) at_nil))) at_nil)))))
theorem ok_common_den (T : Txt mg) (L : Place K mg "common_den" s_common_den P_common_den) : DefAt P w K mg base 1 "common_den" P_common_den F_common_den :=
  DefAt.of L sc_common_den fun f cdv A outer s H hr hg => by
  have nd := sc_common_den.nd
  exact (ss_cons (st_set (i := 1) nd et_int)
    (ss_cons (st_for PassesOwn.never rfl (it_seq (et_var 0)) (gt_tup rfl (gs_cons (gt_name (i := 2) nd) (gs_cons (gt_name (i := 3) nd) gs_nil)))
    (ss_one (st_set (i := 1) nd (et_callF ct_lcm (at_cons (et_var 1) (at_cons (et_ix (xt_ixA (room65 hr)) (et_var 3) et_int) at_nil)) T.lcm))))
    (ss_one (st_ret (et_var 1)))))
theorem ok_whole_members (T : Txt mg) (L : Place K mg "whole_members" s_whole_members P_whole_members) : DefAt P w K mg base 1 "whole_members" P_whole_members F_whole_members :=
  DefAt.of L sc_whole_members fun f cdv A outer s H hr hg => by
  have nd := sc_whole_members.nd
  exact (ss_one (st_ret (et_lc (own := [("powers", 2), ("num", 3), ("den", 4)]) rfl nd (blkOk_by (own := [("powers", 2), ("num", 3), ("den", 4)]) (N := N_whole_members) (sc := defScope s_whole_members) (by decide +kernel)) (it_seq (et_var 0)) (fun _ _ _ _ _ => (gt_tup rfl (gs_cons (gt_name (i := 2) nd) (gs_cons (gt_tup rfl (gs_cons (gt_name (i := 3) nd) (gs_cons (gt_name (i := 4) nd) gs_nil))) gs_nil)))) (fun _ _ _ _ _ => pt_nil) (fun _ _ _ _ _ => (et_tup (at_cons (et_var 2) (at_cons (et_bin ot_mul (et_var 3) (et_bin ot_fdiv (et_var 1) (et_var 4))) at_nil)))))))
theorem ok_multiplied (T : Txt mg) (L : Place K mg "multiplied" s_multiplied P_multiplied) (d_common_den : DefAt P w K mg base 1 "common_den" P_common_den F_common_den) (d_whole_members : DefAt P w K mg base 1 "whole_members" P_whole_members F_whole_members) (d_reduced : DefAt P w K mg base 1 "reduced" P_reduced S_reduced) (d_gathered : DefAt P w K mg base 1 "gathered" P_gathered S_gathered) : DefAt P w K mg base 2 "multiplied" P_multiplied F_multiplied :=
  DefAt.of L sc_multiplied fun f cdv A outer s H hr hg => by
  have nd := sc_multiplied.nd
  exact (ss_cons (st_asg (et_tup (at_cons (et_callD d_common_den hr hg (at_cons (et_var 0) at_nil)) (at_cons (et_callD d_common_den hr hg (at_cons (et_var 1) at_nil)) at_nil))) (gt_tup rfl (gs_cons (gt_name (i := 2) nd) (gs_cons (gt_name (i := 3) nd) gs_nil))))
    (ss_cons (st_set (i := 4) nd (et_callD d_whole_members hr hg (at_cons (et_var 1) (at_cons (et_var 3) at_nil))))
    (ss_cons (st_set (i := 5) nd et_dictN)
    (ss_cons (st_for PassesOwn.never rfl (it_seq (et_callD d_whole_members hr hg (at_cons (et_var 0) (at_cons (et_var 2) at_nil)))) (gt_tup rfl (gs_cons (gt_name (i := 6) nd) (gs_cons (gt_name (i := 7) nd) gs_nil)))
    (ss_one (st_for PassesOwn.never rfl (it_seq (et_var 4)) (gt_tup rfl (gs_cons (gt_name (i := 8) nd) (gs_cons (gt_name (i := 9) nd) gs_nil)))
    (ss_cons (st_set (i := 10) nd (et_callTy ct_tuple (at_cons (et_lc (own := [("count", 11), ("further", 12)]) rfl nd (blkOk_by (own := [("count", 11), ("further", 12)]) (N := N_multiplied) (sc := defScope s_multiplied) (by decide +kernel)) (it_zip (et_var 6) (et_var 8) T.zip) (fun _ _ _ _ _ => (gt_tup rfl (gs_cons (gt_name (i := 11) nd) (gs_cons (gt_name (i := 12) nd) gs_nil)))) (fun _ _ _ _ _ => pt_nil) (fun _ _ _ _ _ => (et_bin ot_add (et_var 11) (et_var 12)))) at_nil) T.tuple))
    (ss_one (st_asg (et_bin ot_add (et_methX PySem.F.plainAttrs_dict PySem.F.slot_dict_get PySem.F.type_dict_get (mm_getOr (room65 hr)) (et_var 5) (at_cons (et_var 10) (at_cons et_int at_nil))) (et_bin ot_mul (et_var 7) (et_var 9))) (gt_subA (room65 hr) (et_var 5) (et_var 10))))))))
    (ss_one (st_ret (et_callD d_gathered hr hg (at_cons (et_lock (et_dcN (own := [("powers", 6)]) rfl nd hr.units (blkOk_by (own := [("powers", 6)]) (N := N_multiplied) (sc := defScope s_multiplied) (by decide +kernel)) (it_dict (et_var 5)) (fun _ _ _ _ _ => (gt_name (i := 6) nd)) (fun _ _ _ _ _ => pt_nil) (fun _ _ _ _ _ => (et_var 6)) (fun _ _ _ _ _ => (et_callD d_reduced hr hg (at_cons (et_ix (xt_ixB (room65 hr)) (et_var 5) (et_var 6)) (at_cons (et_bin ot_mul (et_var 2) (et_var 3)) at_nil)))))) at_nil))))))))
theorem ok_raised (T : Txt mg) (L : Place K mg "raised" s_raised P_raised) (d_constant : DefAt P w K mg base 1 "constant" P_constant F_constant) (d_multiplied : DefAt P w K mg base 2 "multiplied" P_multiplied S_multiplied) : DefAt P w K mg base 3 "raised" P_raised F_raised :=
  DefAt.of L sc_raised fun f cdv A outer s H hr hg => by
  have nd := sc_raised.nd
  exact (ss_cons (st_set (i := 3) nd (et_callD d_constant hr hg (at_cons (et_var 0) (at_cons (et_tup (at_cons et_int (at_cons et_int at_nil))) at_nil))))
    (ss_cons (st_while PassesOwn.never (tt_cmp ot_gt (et_var 2) et_int (nomark _))
    (ss_cons (st_if (tt_cmp (ot_eq hr.units) (et_bin ot_mod (et_var 2) et_int) et_int (nomark _))
    (ss_one (st_set (i := 3) nd (et_callD d_multiplied hr hg (at_cons (et_var 3) (at_cons (et_var 1) at_nil)))))
    ss_nil)
    (ss_cons (st_set (i := 2) nd (et_bin ot_fdiv (et_var 2) et_int))
    (ss_one (st_if (tt_cmp ot_gt (et_var 2) et_int (nomark _))
    (ss_one (st_set (i := 1) nd (et_callD d_multiplied hr hg (at_cons (et_var 1) (at_cons (et_var 1) at_nil)))))
    ss_nil)))))
    (ss_one (st_ret (et_var 3)))))
theorem ok_parts_by (T : Txt mg) (L : Place K mg "parts_by" s_parts_by P_parts_by) : DefAt P w K mg base 1 "parts_by" P_parts_by F_parts_by :=
  DefAt.of L sc_parts_by fun f cdv A outer s H hr hg => by
  have nd := sc_parts_by.nd
  exact (ss_cons (st_set (i := 2) nd et_dictK)
    (ss_cons (st_for PassesOwn.never rfl (it_seq (et_var 0)) (gt_tup rfl (gs_cons (gt_name (i := 3) nd) (gs_cons (gt_name (i := 4) nd) gs_nil)))
    (ss_cons (st_set (i := 5) nd (et_bin ot_add (et_bin ot_add (et_sl (et_var 3) ot_none (ot_some (et_var 1))) (et_tup (at_cons et_int at_nil))) (et_sl (et_var 3) (ot_some (et_bin ot_add (et_var 1) et_int)) ot_none)))
    (ss_one (st_expr (et_meth PySem.F.plainAttrs_list PySem.F.slot_list_append PySem.F.type_list_append mm_append (et_methX PySem.F.plainAttrs_dict PySem.F.slot_dict_setdefault PySem.F.type_dict_setdefault (mm_setdef (room65 hr)) (et_var 2) (at_cons (et_ix (xt_ixA (room65 hr)) (et_var 3) (et_var 1)) (at_cons (et_lst at_nil) at_nil))) (at_cons (et_tup (at_cons (et_var 5) (at_cons (et_var 4) at_nil))) at_nil))))))
    (ss_one (st_ret (et_lock (et_dcK (own := [("count", 6)]) rfl nd (blkOk_by (own := [("count", 6)]) (N := N_parts_by) (sc := defScope s_parts_by) (by decide +kernel)) (it_dict (et_var 2)) (fun _ _ _ _ _ => (gt_name (i := 6) nd)) (fun _ _ _ _ _ => pt_nil) (fun _ _ _ _ _ => (et_var 6)) (fun _ _ _ _ _ => (et_callTy ct_tuple (at_cons (et_ix (xt_ixB (room65 hr)) (et_var 2) (et_var 6)) at_nil) T.tuple))))))))
theorem ok_part_by (T : Txt mg) (L : Place K mg "part_by" s_part_by P_part_by) (d_parts_by : DefAt P w K mg base 1 "parts_by" P_parts_by F_parts_by) : DefAt P w K mg base 2 "part_by" P_part_by F_part_by :=
  DefAt.of L sc_part_by fun f cdv A outer s H hr hg => by
  have nd := sc_part_by.nd
  exact (ss_one (st_ret (et_methX PySem.F.plainAttrs_dict PySem.F.slot_dict_get PySem.F.type_dict_get (mm_getOr (room65 hr)) (et_callD d_parts_by hr hg (at_cons (et_var 0) (at_cons (et_var 1) at_nil))) (at_cons (et_var 2) (at_cons (et_tup at_nil) at_nil)))))
theorem ok_put_in (T : Txt mg) (L : Place K mg "put_in" s_put_in P_put_in) (d_parts_by : DefAt P w K mg base 1 "parts_by" P_parts_by F_parts_by) (d_raised : DefAt P w K mg base 3 "raised" P_raised S_raised) (d_plus : DefAt P w K mg base 3 "plus" P_plus S_plus) (d_multiplied : DefAt P w K mg base 2 "multiplied" P_multiplied S_multiplied) : DefAt P w K mg base 4 "put_in" P_put_in F_put_in :=
  DefAt.of L sc_put_in fun f cdv A outer s H hr hg => by
  have nd := sc_put_in.nd
  exact (ss_cons (st_if (tt_cmp (ot_eq hr.units) (et_var 0) (et_tup at_nil) (nomark _))
    (ss_one (st_ret (et_tup at_nil)))
    ss_nil)
    (ss_cons (st_set (i := 3) nd (et_callB ct_len (at_cons (et_ix (xt_ixA (room65 hr)) (et_ix (xt_ixA (room65 hr)) (et_var 0) et_int) et_int) at_nil) T.len))
    (ss_cons (st_set (i := 4) nd (et_callD d_parts_by hr hg (at_cons (et_var 0) (at_cons (et_var 1) at_nil))))
    (ss_cons (st_set (i := 5) nd (et_sortRev rfl hr.units (et_var 4) et_bl T.sorted))
    (ss_cons (st_set (i := 6) nd (et_tup at_nil))
    (ss_cons (st_for PassesOwn.never rfl (it_zip (et_var 5) (et_bin ot_add (et_sl (et_var 5) (ot_some et_int) ot_none) (et_lst (at_cons et_int at_nil))) T.zip) (gt_tup rfl (gs_cons (gt_name (i := 7) nd) (gs_cons (gt_name (i := 8) nd) gs_nil)))
    (ss_one (st_set (i := 6) nd (et_callD d_multiplied hr hg (at_cons (et_callD d_plus hr hg (at_cons (et_var 6) (at_cons (et_ix (xt_ixA (room65 hr)) (et_var 4) (et_var 7)) at_nil))) (at_cons (et_callD d_raised hr hg (at_cons (et_var 3) (at_cons (et_var 2) (at_cons (et_bin ot_sub (et_var 7) (et_var 8)) at_nil)))) at_nil))))))
    (ss_one (st_ret (et_var 6)))))))))
theorem ok_member_worth (T : Txt mg) (L : Place K mg "member_worth" s_member_worth P_member_worth) (d_power_of : DefAt P w K mg base 2 "power_of" P_power_of F_power_of) (d_times : DefAt P w K mg base 2 "times" P_times S_times) : DefAt P w K mg base 3 "member_worth" P_member_worth F_member_worth :=
  DefAt.of L sc_member_worth fun f cdv A outer s H hr hg => by
  have nd := sc_member_worth.nd
  exact (ss_cons (st_set (i := 3) nd (et_var 1))
    (ss_cons (st_for PassesOwn.never rfl (it_zip (et_var 2) (et_var 0) T.zip) (gt_tup rfl (gs_cons (gt_name (i := 4) nd) (gs_cons (gt_name (i := 5) nd) gs_nil)))
    (ss_one (st_if (tt_cmp ot_gt (et_var 5) et_int (nomark _))
    (ss_one (st_set (i := 3) nd (et_callD d_times hr hg (at_cons (et_var 3) (at_cons (et_callD d_power_of hr hg (at_cons (et_var 4) (at_cons (et_var 5) at_nil))) at_nil)))))
    ss_nil)))
    (ss_one (st_ret (et_var 3)))))
theorem ok_worth_at (T : Txt mg) (L : Place K mg "worth_at" s_worth_at P_worth_at) (d_member_worth : DefAt P w K mg base 3 "member_worth" P_member_worth F_member_worth) (d_total_of : DefAt P w K mg base 2 "total_of" P_total_of S_total_of) : DefAt P w K mg base 4 "worth_at" P_worth_at F_worth_at :=
  DefAt.of L sc_worth_at fun f cdv A outer s H hr hg => by
  have nd := sc_worth_at.nd
  exact (ss_one (st_ret (et_callD d_total_of hr hg (at_cons (et_lc (own := [("powers", 2), ("factor", 3)]) rfl nd (blkOk_by (own := [("powers", 2), ("factor", 3)]) (N := N_worth_at) (sc := defScope s_worth_at) (by decide +kernel)) (it_seq (et_var 0)) (fun _ _ _ _ _ => (gt_tup rfl (gs_cons (gt_name (i := 2) nd) (gs_cons (gt_name (i := 3) nd) gs_nil)))) (fun _ _ _ _ _ => pt_nil) (fun _ _ _ _ _ => (et_callD d_member_worth hr hg (at_cons (et_var 2) (at_cons (et_var 3) (at_cons (et_var 1) at_nil)))))) at_nil))))
theorem ok_degree_in (T : Txt mg) (L : Place K mg "degree_in" s_degree_in P_degree_in) : DefAt P w K mg base 1 "degree_in" P_degree_in F_degree_in :=
  DefAt.of L sc_degree_in fun f cdv A outer s H hr hg => by
  have nd := sc_degree_in.nd
  exact (ss_one (st_ret (et_maxD rfl hr.units (et_lc (own := [("member", 2)]) rfl nd (blkOk_by (own := [("member", 2)]) (N := N_degree_in) (sc := defScope s_degree_in) (by decide +kernel)) (it_seq (et_var 0)) (fun _ _ _ _ _ => (gt_name (i := 2) nd)) (fun _ _ _ _ _ => pt_nil) (fun _ _ _ _ _ => (et_ix (xt_ixA (room65 hr)) (et_ix (xt_ixA (room65 hr)) (et_var 2) et_int) (et_var 1)))) et_int T.max)))
theorem ok__law_bag (T : Txt mg) (L : Place K mg "_law_bag" s__law_bag P__law_bag) : DefAt P w K mg base 1 "_law_bag" P__law_bag F__law_bag :=
  DefAt.of L sc__law_bag fun f cdv A outer s H hr hg => by
  have nd := sc__law_bag.nd
  exact (ss_one (st_ret (et_lst (by (refine at_cons ?_ ?_); (exact et_int); (refine at_cons ?_ ?_); (exact et_int); (refine at_cons ?_ ?_); (exact et_int); (refine at_cons ?_ ?_); (exact (et_lc (own := [("_law_cell", 1)]) rfl nd (blkOk_by (own := [("_law_cell", 1)]) (N := N__law_bag) (sc := defScope s__law_bag) (by decide +kernel)) (it_seq (et_sl (et_var 0) ot_none (ot_some et_int))) (fun _ _ _ _ _ => (gt_name (i := 1) nd)) (fun _ _ _ _ _ => pt_nil) (fun _ _ _ _ _ => (et_callB ct_abs (at_cons (et_var 1) at_nil) T.abs)))); (exact at_nil)))))
theorem ok__law_take (T : Txt mg) (L : Place K mg "_law_take" s__law_take P__law_take) : DefAt P w K mg base 1 "_law_take" P__law_take F__law_take :=
  DefAt.of L sc__law_take fun f cdv A outer s H hr hg => by
  have nd := sc__law_take.nd
  exact (ss_cons (st_if (tt_cmp (ot_eq hr.units) (et_ix (xt_ixA (room65 hr)) (et_var 0) et_int) et_int (nomark _))
    (ss_cons (st_set (i := 2) nd (et_ix (xt_ixA (room65 hr)) (et_bin ot_add (et_sl (et_ix (xt_ixA (room65 hr)) (et_var 0) et_int) (ot_some (et_ix (xt_ixA (room65 hr)) (et_var 0) et_int)) ot_none) (et_lst (at_cons et_int at_nil))) et_int))
    (ss_cons (st_augS (et_var 0) et_int et_int ot_iadd)
    (ss_cons (st_if (tt_cmp ot_ge (et_var 2) (et_bin ot_pow et_int et_int) (nomark _))
    (ss_one (st_asg (et_var 2) (gt_subA (room65 hr) (et_var 0) et_int)))
    ss_nil)
    (ss_cons (st_set (i := 3) nd (et_bin ot_add (et_bin ot_add (et_bin ot_mul (et_ix (xt_ixA (room65 hr)) (et_var 0) et_int) et_int) (et_bin ot_mod (et_callTy ct_int (at_cons (et_var 2) at_nil) T.int) et_int)) (et_bin ot_mul et_int (et_ix (xt_ixA (room65 hr)) (et_var 0) et_int))))
    (ss_one (st_asg (et_bin ot_mod (et_callTy ct_int (at_cons (et_var 3) at_nil) T.int) et_int) (gt_subA (room65 hr) (et_var 0) et_int)))))))
    ss_nil)
    (ss_cons (st_if (tt_cmp ot_gt (et_ix (xt_ixA (room65 hr)) (et_var 0) et_int) et_int (nomark _))
    (ss_cons (st_set (i := 4) nd (et_bin ot_mod (et_callTy ct_int (at_cons (et_ix (xt_ixA (room65 hr)) (et_var 0) et_int) at_nil) T.int) (et_var 1)))
    (ss_cons (st_asg (et_bin ot_fdiv (et_callTy ct_int (at_cons (et_ix (xt_ixA (room65 hr)) (et_var 0) et_int) at_nil) T.int) (et_var 1)) (gt_subA (room65 hr) (et_var 0) et_int))
    (ss_one (st_ret (et_var 4)))))
    ss_nil)
    (ss_cons (st_set (i := 5) nd (et_bin ot_mod (et_callTy ct_int (at_cons (et_bin ot_mul (et_bin ot_add (et_ix (xt_ixA (room65 hr)) (et_var 0) et_int) et_int) et_int) at_nil) T.int) et_int))
    (ss_cons (st_set (i := 6) nd (et_bin ot_mod (et_callTy ct_int (at_cons (et_bin ot_mul (et_bin ot_mod (et_callTy ct_int (at_cons (et_bin ot_mul (et_var 5) (et_var 5)) at_nil) T.int) et_int) et_int) at_nil) T.int) et_int))
    (ss_one (st_ret (et_bin ot_mod (et_callTy ct_int (at_cons (et_bin ot_fdiv (et_var 6) et_int) at_nil) T.int) (et_var 1))))))))
theorem ok__law_some (T : Txt mg) (L : Place K mg "_law_some" s__law_some P__law_some) (d__law_take : DefAt P w K mg base 1 "_law_take" P__law_take S__law_take) : DefAt P w K mg base 2 "_law_some" P__law_some F__law_some :=
  DefAt.of L sc__law_some fun f cdv A outer s H hr hg => by
  have nd := sc__law_some.nd
  exact (ss_one (st_ret (et_ix (xt_ixA (room65 hr)) (et_var 1) (et_callD d__law_take hr hg (at_cons (et_var 0) (at_cons (et_callB ct_len (at_cons (et_var 1) at_nil) T.len) at_nil))))))
theorem ok__law_alike (T : Txt mg) (L : Place K mg "_law_alike" s__law_alike P__law_alike) : DefAt P w K mg base 1 "_law_alike" P__law_alike F__law_alike :=
  DefAt.of L sc__law_alike fun f cdv A outer s H hr hg => by
  have nd := sc__law_alike.nd
  exact (ss_one (st_ret (et_and (et_cmp (ot_eq hr.units) (et_var 0) (et_var 1) (nomark _)) (et_one (et_cmp (ot_eq hr.units) (et_callB (ct_reprV hr.units hg) (at_cons (et_var 0) at_nil) T.repr) (et_callB (ct_reprV hr.units hg) (at_cons (et_var 1) at_nil) T.repr) (nomark _))))))
theorem ok__law_divisor (T : Txt mg) (L : Place K mg "_law_divisor" s__law_divisor P__law_divisor) : DefAt P w K mg base 1 "_law_divisor" P__law_divisor F__law_divisor :=
  DefAt.of L sc__law_divisor fun f cdv A outer s H hr hg => by
  have nd := sc__law_divisor.nd
  exact (ss_cons (st_while PassesOwn.never (tt_cmp ot_gt (et_var 1) et_int (nomark _))
    (ss_one (st_par (i := 0) (j := 1) rfl nd (at_cons (et_var 1) (at_cons (et_bin ot_mod (et_callTy ct_int (at_cons (et_var 0) at_nil) T.int) (et_callTy ct_int (at_cons (et_var 1) at_nil) T.int)) at_nil)))))
    (ss_one (st_ret (et_var 0))))
theorem ok__law_over (T : Txt mg) (L : Place K mg "_law_over" s__law_over P__law_over) (d__law_divisor : DefAt P w K mg base 1 "_law_divisor" P__law_divisor F__law_divisor) : DefAt P w K mg base 2 "_law_over" P__law_over F__law_over :=
  DefAt.of L sc__law_over fun f cdv A outer s H hr hg => by
  have nd := sc__law_over.nd
  exact (ss_cons (st_set (i := 2) nd (et_callD d__law_divisor hr hg (at_cons (et_callB ct_abs (at_cons (et_var 0) at_nil) T.abs) (at_cons (et_callB ct_abs (at_cons (et_var 1) at_nil) T.abs) at_nil))))
    (ss_cons (st_set (i := 2) nd (et_if (tt_cmp ot_gt (et_var 1) et_int (nomark _)) (et_var 2) (et_un ut_neg (et_var 2))))
    (ss_one (st_ret (et_tup (at_cons (et_bin ot_fdiv (et_var 0) (et_var 2)) (at_cons (et_bin ot_fdiv (et_var 1) (et_var 2)) at_nil)))))))
theorem ok__law_added (T : Txt mg) (L : Place K mg "_law_added" s__law_added P__law_added) (d__law_over : DefAt P w K mg base 2 "_law_over" P__law_over S__law_over) : DefAt P w K mg base 3 "_law_added" P__law_added F__law_added :=
  DefAt.of L sc__law_added fun f cdv A outer s H hr hg => by
  have nd := sc__law_added.nd
  exact (ss_one (st_ret (et_callD d__law_over hr hg (at_cons (et_bin ot_add (et_bin ot_mul (et_ix (xt_ixA (room65 hr)) (et_var 0) et_int) (et_ix (xt_ixA (room65 hr)) (et_var 1) et_int)) (et_bin ot_mul (et_ix (xt_ixA (room65 hr)) (et_var 1) et_int) (et_ix (xt_ixA (room65 hr)) (et_var 0) et_int))) (at_cons (et_bin ot_mul (et_ix (xt_ixA (room65 hr)) (et_var 0) et_int) (et_ix (xt_ixA (room65 hr)) (et_var 1) et_int)) at_nil)))))
theorem ok__law_less (T : Txt mg) (L : Place K mg "_law_less" s__law_less P__law_less) (d__law_over : DefAt P w K mg base 2 "_law_over" P__law_over S__law_over) : DefAt P w K mg base 3 "_law_less" P__law_less F__law_less :=
  DefAt.of L sc__law_less fun f cdv A outer s H hr hg => by
  have nd := sc__law_less.nd
  exact (ss_one (st_ret (et_callD d__law_over hr hg (at_cons (et_bin ot_sub (et_bin ot_mul (et_ix (xt_ixA (room65 hr)) (et_var 0) et_int) (et_ix (xt_ixA (room65 hr)) (et_var 1) et_int)) (et_bin ot_mul (et_ix (xt_ixA (room65 hr)) (et_var 1) et_int) (et_ix (xt_ixA (room65 hr)) (et_var 0) et_int))) (at_cons (et_bin ot_mul (et_ix (xt_ixA (room65 hr)) (et_var 0) et_int) (et_ix (xt_ixA (room65 hr)) (et_var 1) et_int)) at_nil)))))
theorem ok__law_times (T : Txt mg) (L : Place K mg "_law_times" s__law_times P__law_times) (d__law_over : DefAt P w K mg base 2 "_law_over" P__law_over S__law_over) : DefAt P w K mg base 3 "_law_times" P__law_times F__law_times :=
  DefAt.of L sc__law_times fun f cdv A outer s H hr hg => by
  have nd := sc__law_times.nd
  exact (ss_one (st_ret (et_callD d__law_over hr hg (at_cons (et_bin ot_mul (et_ix (xt_ixA (room65 hr)) (et_var 0) et_int) (et_ix (xt_ixA (room65 hr)) (et_var 1) et_int)) (at_cons (et_bin ot_mul (et_ix (xt_ixA (room65 hr)) (et_var 0) et_int) (et_ix (xt_ixA (room65 hr)) (et_var 1) et_int)) at_nil)))))
theorem ok__law_fraction (T : Txt mg) (L : Place K mg "_law_fraction" s__law_fraction P__law_fraction) (d__law_some : DefAt P w K mg base 2 "_law_some" P__law_some F__law_some) (d__law_over : DefAt P w K mg base 2 "_law_over" P__law_over S__law_over) : DefAt P w K mg base 3 "_law_fraction" P__law_fraction F__law_fraction :=
  DefAt.of L sc__law_fraction fun f cdv A outer s H hr hg => by
  have nd := sc__law_fraction.nd
  exact (ss_one (st_ret (et_callD d__law_over hr hg (at_cons (et_callD d__law_some hr hg (at_cons (et_var 0) (at_cons (et_lst (at_cons et_int (at_cons et_int (at_cons (et_un ut_neg et_int) (at_cons et_int (at_cons et_int (at_cons (et_un ut_neg et_int) (at_cons et_int (at_cons (et_un ut_neg et_int) (at_cons et_int (at_cons et_int at_nil))))))))))) at_nil))) (at_cons (et_callD d__law_some hr hg (at_cons (et_var 0) (at_cons (et_lst (at_cons et_int (at_cons et_int (at_cons et_int (at_cons et_int (at_cons et_int (at_cons et_int at_nil))))))) at_nil))) at_nil)))))
theorem ok__law_poly (T : Txt mg) (L : Place K mg "_law_poly" s__law_poly P__law_poly) : DefAt P w K mg base 1 "_law_poly" P__law_poly F__law_poly :=
  DefAt.of L sc__law_poly fun f cdv A outer s H hr hg => by
  have nd := sc__law_poly.nd
  exact (ss_one (st_ret (et_callTy ct_tupleP (at_cons (et_lc (own := [("_law_powers", 1)]) rfl nd (blkOk_by (own := [("_law_powers", 1)]) (N := N__law_poly) (sc := defScope s__law_poly) (by decide +kernel)) (it_seq (et_callB (ct_sortedD rfl hr.units) (at_cons (et_var 0) at_nil) T.sorted)) (fun _ _ _ _ _ => (gt_name (i := 1) nd)) (fun _ _ _ _ _ => (pt_one (tt_cmp (ot_ne hr.units) (et_ix (xt_ixA (room65 hr)) (et_ix (xt_ixA (room65 hr)) (et_var 0) (et_var 1)) et_int) et_int (nomark _)))) (fun _ _ _ _ _ => (et_tup (at_cons (et_var 1) (at_cons (et_ix (xt_ixA (room65 hr)) (et_var 0) (et_var 1)) at_nil))))) at_nil) T.tuple)))
theorem ok__law_constant (T : Txt mg) (L : Place K mg "_law_constant" s__law_constant P__law_constant) (d__law_poly : DefAt P w K mg base 1 "_law_poly" P__law_poly S__law_poly) : DefAt P w K mg base 2 "_law_constant" P__law_constant F__law_constant :=
  DefAt.of L sc__law_constant fun f cdv A outer s H hr hg => by
  have nd := sc__law_constant.nd
  exact (ss_one (st_ret (et_callD d__law_poly hr hg (at_cons (et_dict1N hr.units (et_bin ot_mulD (et_tup (at_cons et_int at_nil)) (et_var 0)) (et_var 1)) at_nil))))
theorem ok__law_unit (T : Txt mg) (L : Place K mg "_law_unit" s__law_unit P__law_unit) : DefAt P w K mg base 1 "_law_unit" P__law_unit F__law_unit :=
  DefAt.of L sc__law_unit fun f cdv A outer s H hr hg => by
  have nd := sc__law_unit.nd
  exact (ss_one (st_ret (et_tup (at_cons (et_tup (at_cons (et_callTy ct_tuple (at_cons (et_lc (own := [("_law_at", 2)]) rfl nd (blkOk_by (own := [("_law_at", 2)]) (N := N__law_unit) (sc := defScope s__law_unit) (by decide +kernel)) (it_range1 (et_var 0) T.range) (fun _ _ _ _ _ => (gt_name (i := 2) nd)) (fun _ _ _ _ _ => pt_nil) (fun _ _ _ _ _ => (et_callTy ct_int (at_cons (et_cmp (ot_eq hr.units) (et_var 2) (et_var 1) (nomark _)) at_nil) T.int))) at_nil) T.tuple) (at_cons (et_tup (at_cons et_int (at_cons et_int at_nil))) at_nil))) at_nil))))
theorem ok__law_plus (T : Txt mg) (L : Place K mg "_law_plus" s__law_plus P__law_plus) (d__law_added : DefAt P w K mg base 3 "_law_added" P__law_added S__law_added) (d__law_poly : DefAt P w K mg base 1 "_law_poly" P__law_poly S__law_poly) : DefAt P w K mg base 4 "_law_plus" P__law_plus F__law_plus :=
  DefAt.of L sc__law_plus fun f cdv A outer s H hr hg => by
  have nd := sc__law_plus.nd
  exact (ss_cons (st_set (i := 2) nd (et_callTy (ct_dict rfl hr.units) (at_cons (et_var 0) at_nil) T.dict))
    (ss_cons (st_for PassesOwn.never rfl (it_seq (et_var 1)) (gt_tup rfl (gs_cons (gt_name (i := 3) nd) (gs_cons (gt_name (i := 4) nd) gs_nil)))
    (ss_one (st_asg (et_callD d__law_added hr hg (at_cons (et_methX PySem.F.plainAttrs_dict PySem.F.slot_dict_get PySem.F.type_dict_get (mm_getOr (room65 hr)) (et_var 2) (at_cons (et_var 3) (at_cons (et_tup (at_cons et_int (at_cons et_int at_nil))) at_nil))) (at_cons (et_var 4) at_nil))) (gt_subA (room65 hr) (et_var 2) (et_var 3)))))
    (ss_one (st_ret (et_callD d__law_poly hr hg (at_cons (et_var 2) at_nil))))))
theorem ok__law_scaled (T : Txt mg) (L : Place K mg "_law_scaled" s__law_scaled P__law_scaled) (d__law_times : DefAt P w K mg base 3 "_law_times" P__law_times S__law_times) (d__law_poly : DefAt P w K mg base 1 "_law_poly" P__law_poly S__law_poly) : DefAt P w K mg base 4 "_law_scaled" P__law_scaled F__law_scaled :=
  DefAt.of L sc__law_scaled fun f cdv A outer s H hr hg => by
  have nd := sc__law_scaled.nd
  exact (ss_one (st_ret (et_callD d__law_poly hr hg (at_cons (et_callTy (ct_dict rfl hr.units) (at_cons (et_lc (own := [("_law_powers", 2), ("_law_factor", 3)]) rfl nd (blkOk_by (own := [("_law_powers", 2), ("_law_factor", 3)]) (N := N__law_scaled) (sc := defScope s__law_scaled) (by decide +kernel)) (it_seq (et_var 0)) (fun _ _ _ _ _ => (gt_tup rfl (gs_cons (gt_name (i := 2) nd) (gs_cons (gt_name (i := 3) nd) gs_nil)))) (fun _ _ _ _ _ => pt_nil) (fun _ _ _ _ _ => (et_tup (at_cons (et_var 2) (at_cons (et_callD d__law_times hr hg (at_cons (et_var 3) (at_cons (et_var 1) at_nil))) at_nil))))) at_nil) T.dict) at_nil))))
theorem ok__law_multiplied (T : Txt mg) (L : Place K mg "_law_multiplied" s__law_multiplied P__law_multiplied) (d__law_times : DefAt P w K mg base 3 "_law_times" P__law_times S__law_times) (d__law_added : DefAt P w K mg base 3 "_law_added" P__law_added S__law_added) (d__law_poly : DefAt P w K mg base 1 "_law_poly" P__law_poly S__law_poly) : DefAt P w K mg base 4 "_law_multiplied" P__law_multiplied F__law_multiplied :=
  DefAt.of L sc__law_multiplied fun f cdv A outer s H hr hg => by
  have nd := sc__law_multiplied.nd
  exact (ss_cons (st_set (i := 2) nd et_dictN)
    (ss_cons (st_for PassesOwn.never rfl (it_seq (et_var 0)) (gt_tup rfl (gs_cons (gt_name (i := 3) nd) (gs_cons (gt_name (i := 4) nd) gs_nil)))
    (ss_one (st_for PassesOwn.never rfl (it_seq (et_var 1)) (gt_tup rfl (gs_cons (gt_name (i := 5) nd) (gs_cons (gt_name (i := 6) nd) gs_nil)))
    (ss_cons (st_set (i := 7) nd (et_callTy ct_tuple (at_cons (et_lc (own := [("_law_a", 8), ("_law_b", 9)]) rfl nd (blkOk_by (own := [("_law_a", 8), ("_law_b", 9)]) (N := N__law_multiplied) (sc := defScope s__law_multiplied) (by decide +kernel)) (it_zip (et_var 3) (et_var 5) T.zip) (fun _ _ _ _ _ => (gt_tup rfl (gs_cons (gt_name (i := 8) nd) (gs_cons (gt_name (i := 9) nd) gs_nil)))) (fun _ _ _ _ _ => pt_nil) (fun _ _ _ _ _ => (et_bin ot_add (et_var 8) (et_var 9)))) at_nil) T.tuple))
    (ss_one (st_asg (et_callD d__law_added hr hg (at_cons (et_methX PySem.F.plainAttrs_dict PySem.F.slot_dict_get PySem.F.type_dict_get (mm_getOr (room65 hr)) (et_var 2) (at_cons (et_var 7) (at_cons (et_tup (at_cons et_int (at_cons et_int at_nil))) at_nil))) (at_cons (et_callD d__law_times hr hg (at_cons (et_var 4) (at_cons (et_var 6) at_nil))) at_nil))) (gt_subA (room65 hr) (et_var 2) (et_var 7))))))))
    (ss_one (st_ret (et_callD d__law_poly hr hg (at_cons (et_var 2) at_nil))))))
theorem ok__law_degree (T : Txt mg) (L : Place K mg "_law_degree" s__law_degree P__law_degree) : DefAt P w K mg base 1 "_law_degree" P__law_degree F__law_degree :=
  DefAt.of L sc__law_degree fun f cdv A outer s H hr hg => by
  have nd := sc__law_degree.nd
  exact (ss_one (st_ret (et_callB (ct_max rfl hr.units) (at_cons (et_bin ot_add (et_lst (at_cons et_int at_nil)) (et_lc (own := [("_law_powers", 2), ("_law_factor", 3)]) rfl nd (blkOk_by (own := [("_law_powers", 2), ("_law_factor", 3)]) (N := N__law_degree) (sc := defScope s__law_degree) (by decide +kernel)) (it_seq (et_var 0)) (fun _ _ _ _ _ => (gt_tup rfl (gs_cons (gt_name (i := 2) nd) (gs_cons (gt_name (i := 3) nd) gs_nil)))) (fun _ _ _ _ _ => pt_nil) (fun _ _ _ _ _ => (et_ix (xt_ixA (room65 hr)) (et_var 2) (et_var 1))))) at_nil) T.max)))
theorem ok__law_worth (T : Txt mg) (L : Place K mg "_law_worth" s__law_worth P__law_worth) (d__law_times : DefAt P w K mg base 3 "_law_times" P__law_times S__law_times) (d__law_added : DefAt P w K mg base 3 "_law_added" P__law_added S__law_added) : DefAt P w K mg base 4 "_law_worth" P__law_worth F__law_worth :=
  DefAt.of L sc__law_worth fun f cdv A outer s H hr hg => by
  have nd := sc__law_worth.nd
  exact (ss_cons (st_set (i := 2) nd (et_tup (at_cons et_int (at_cons et_int at_nil))))
    (ss_cons (st_for PassesOwn.never rfl (it_seq (et_var 0)) (gt_tup rfl (gs_cons (gt_name (i := 3) nd) (gs_cons (gt_name (i := 4) nd) gs_nil)))
    (ss_cons (st_for PassesOwn.never rfl (it_zip (et_var 1) (et_var 3) T.zip) (gt_tup rfl (gs_cons (gt_name (i := 5) nd) (gs_cons (gt_name (i := 6) nd) gs_nil)))
    (ss_one (st_for PassesOwn.never rfl (it_range1 (et_var 6) T.range) (gt_name (i := 7) nd)
    (ss_one (st_set (i := 4) nd (et_callD d__law_times hr hg (at_cons (et_var 4) (at_cons (et_var 5) at_nil))))))))
    (ss_one (st_set (i := 2) nd (et_callD d__law_added hr hg (at_cons (et_var 2) (at_cons (et_var 4) at_nil)))))))
    (ss_one (st_ret (et_var 2)))))
theorem ok__law_drawn_poly (T : Txt mg) (L : Place K mg "_law_drawn_poly" s__law_drawn_poly P__law_drawn_poly) (d__law_take : DefAt P w K mg base 1 "_law_take" P__law_take S__law_take) (d__law_some : DefAt P w K mg base 2 "_law_some" P__law_some F__law_some) (d__law_fraction : DefAt P w K mg base 3 "_law_fraction" P__law_fraction S__law_fraction) (d__law_poly : DefAt P w K mg base 1 "_law_poly" P__law_poly S__law_poly) : DefAt P w K mg base 4 "_law_drawn_poly" P__law_drawn_poly F__law_drawn_poly :=
  DefAt.of L sc__law_drawn_poly fun f cdv A outer s H hr hg => by
  have nd := sc__law_drawn_poly.nd
  exact (ss_cons (st_set (i := 2) nd et_dictN)
    (ss_cons (st_for PassesOwn.never rfl (it_range1 (et_callD d__law_take hr hg (at_cons (et_var 0) (at_cons et_int at_nil))) T.range) (gt_name (i := 3) nd)
    (ss_cons (st_set (i := 4) nd (et_callTy ct_tuple (at_cons (et_lc (own := [("_law_at", 5)]) rfl nd (blkOk_by (own := [("_law_at", 5)]) (N := N__law_drawn_poly) (sc := defScope s__law_drawn_poly) (by decide +kernel)) (it_range1 (et_var 1) T.range) (fun _ _ _ _ _ => (gt_name (i := 5) nd)) (fun _ _ _ _ _ => pt_nil) (fun _ _ _ _ _ => (et_callD d__law_some hr hg (at_cons (et_var 0) (at_cons (et_lst (at_cons et_int (at_cons et_int (at_cons et_int (at_cons et_int (at_cons et_int (at_cons et_int at_nil))))))) at_nil))))) at_nil) T.tuple))
    (ss_one (st_asg (et_callD d__law_fraction hr hg (at_cons (et_var 0) at_nil)) (gt_subA (room65 hr) (et_var 2) (et_var 4))))))
    (ss_one (st_ret (et_callD d__law_poly hr hg (at_cons (et_var 2) at_nil))))))
theorem ok__law_put_in (T : Txt mg) (L : Place K mg "_law_put_in" s__law_put_in P__law_put_in) (d__law_multiplied : DefAt P w K mg base 4 "_law_multiplied" P__law_multiplied S__law_multiplied) (d__law_plus : DefAt P w K mg base 4 "_law_plus" P__law_plus S__law_plus) : DefAt P w K mg base 5 "_law_put_in" P__law_put_in F__law_put_in :=
  DefAt.of L sc__law_put_in fun f cdv A outer s H hr hg => by
  have nd := sc__law_put_in.nd
  exact (ss_cons (st_par (i := 3) (j := 4) rfl nd (at_cons et_tupP0 (at_cons (et_if (tt_cmp (ot_ne hr.units) (et_var 2) et_tupP0 (nomark _)) (et_callB ct_len (at_cons (et_ix (xt_ixA (room65 hr)) (et_ix (xt_ixA (room65 hr)) (et_var 2) et_int) et_int) at_nil) T.len) (et_if (tt_cmp (ot_ne hr.units) (et_var 0) et_tupP0 (nomark _)) (et_callB ct_len (at_cons (et_ix (xt_ixA (room65 hr)) (et_ix (xt_ixA (room65 hr)) (et_var 0) et_int) et_int) at_nil) T.len) et_int)) at_nil)))
    (ss_cons (st_for PassesOwn.never rfl (it_seq (et_var 0)) (gt_tup rfl (gs_cons (gt_name (i := 5) nd) (gs_cons (gt_name (i := 6) nd) gs_nil)))
    (ss_cons (st_set (i := 7) nd (et_tup (at_cons (et_tup (at_cons (et_bin ot_add (et_bin ot_add (et_sl (et_var 5) ot_none (ot_some (et_var 1))) (et_tup (at_cons et_int at_nil))) (et_sl (et_var 5) (ot_some (et_bin ot_add (et_var 1) et_int)) ot_none)) (at_cons (et_var 6) at_nil))) at_nil)))
    (ss_cons (st_for PassesOwn.never rfl (it_range1 (et_ix (xt_ixA (room65 hr)) (et_var 5) (et_var 1)) T.range) (gt_name (i := 8) nd)
    (ss_one (st_set (i := 7) nd (et_callD d__law_multiplied hr hg (at_cons (et_var 7) (at_cons (et_var 2) at_nil))))))
    (ss_one (st_set (i := 3) nd (et_callD d__law_plus hr hg (at_cons (et_var 3) (at_cons (et_var 7) at_nil))))))))
    (ss_one (st_ret (et_var 3)))))
theorem ok__law_part_by (T : Txt mg) (L : Place K mg "_law_part_by" s__law_part_by P__law_part_by) (d__law_poly : DefAt P w K mg base 1 "_law_poly" P__law_poly S__law_poly) : DefAt P w K mg base 2 "_law_part_by" P__law_part_by F__law_part_by :=
  DefAt.of L sc__law_part_by fun f cdv A outer s H hr hg => by
  have nd := sc__law_part_by.nd
  exact (ss_cons (st_set (i := 3) nd et_dictN)
    (ss_cons (st_for PassesOwn.never rfl (it_seq (et_var 0)) (gt_tup rfl (gs_cons (gt_name (i := 4) nd) (gs_cons (gt_name (i := 5) nd) gs_nil)))
    (ss_one (st_if (tt_cmp (ot_eq hr.units) (et_ix (xt_ixA (room65 hr)) (et_var 4) (et_var 1)) (et_var 2) (nomark _))
    (ss_one (st_asg (et_var 5) (gt_subA (room65 hr) (et_var 3) (et_bin ot_add (et_bin ot_add (et_sl (et_var 4) ot_none (ot_some (et_var 1))) (et_tup (at_cons et_int at_nil))) (et_sl (et_var 4) (ot_some (et_bin ot_add (et_var 1) et_int)) ot_none)))))
    ss_nil)))
    (ss_one (st_ret (et_callD d__law_poly hr hg (at_cons (et_var 3) at_nil))))))
theorem ok__law_are_right (T : Txt mg) (L : Place K mg "_law_are_right" s__law_are_right P__law_are_right) (d__law_fraction : DefAt P w K mg base 3 "_law_fraction" P__law_fraction S__law_fraction) (d__law_worth : DefAt P w K mg base 4 "_law_worth" P__law_worth S__law_worth) (d_constant : DefAt P w K mg base 1 "constant" P_constant F_constant) (d_scaled : DefAt P w K mg base 3 "scaled" P_scaled S_scaled) (d_multiplied : DefAt P w K mg base 2 "multiplied" P_multiplied S_multiplied) (d_minus : DefAt P w K mg base 4 "minus" P_minus S_minus) (d_plus : DefAt P w K mg base 3 "plus" P_plus S_plus) (d__law_multiplied : DefAt P w K mg base 4 "_law_multiplied" P__law_multiplied S__law_multiplied) (d__law_scaled : DefAt P w K mg base 4 "_law_scaled" P__law_scaled S__law_scaled) (d__law_plus : DefAt P w K mg base 4 "_law_plus" P__law_plus S__law_plus) (d__law_constant : DefAt P w K mg base 2 "_law_constant" P__law_constant S__law_constant) (d__law_times : DefAt P w K mg base 3 "_law_times" P__law_times S__law_times) (d__law_less : DefAt P w K mg base 3 "_law_less" P__law_less S__law_less) (d__law_added : DefAt P w K mg base 3 "_law_added" P__law_added S__law_added) (d__law_alike : DefAt P w K mg base 1 "_law_alike" P__law_alike F__law_alike) (d_worth_at : DefAt P w K mg base 4 "worth_at" P_worth_at S_worth_at) : DefAt P w K mg base 5 "_law_are_right" P__law_are_right F__law_are_right :=
  DefAt.of L sc__law_are_right fun f cdv A outer s H hr hg => by
  have nd := sc__law_are_right.nd
  exact (ss_cons (st_asg (et_tup (at_cons (et_callTy ct_tuple (at_cons (et_lc (own := [("_law_at", 11)]) rfl nd (blkOk_by (own := [("_law_at", 11)]) (N := N__law_are_right) (sc := defScope s__law_are_right) (by decide +kernel)) (it_range1 (et_var 1) T.range) (fun _ _ _ _ _ => (gt_name (i := 11) nd)) (fun _ _ _ _ _ => pt_nil) (fun _ _ _ _ _ => (et_callD d__law_fraction hr hg (at_cons (et_var 0) at_nil)))) at_nil) T.tuple) (at_cons (et_callD d__law_fraction hr hg (at_cons (et_var 0) at_nil)) at_nil))) (gt_tup rfl (gs_cons (gt_name (i := 4) nd) (gs_cons (gt_name (i := 5) nd) gs_nil))))
    (ss_cons (st_par (i := 6) (j := 7) rfl nd (at_cons (et_callD d__law_worth hr hg (at_cons (et_var 2) (at_cons (et_var 4) at_nil))) (at_cons (et_callD d__law_worth hr hg (at_cons (et_var 3) (at_cons (et_var 4) at_nil))) at_nil)))
    (ss_cons (st_set (i := 8) nd (et_lst (by (refine at_cons ?_ ?_); (exact (et_callD d_plus hr hg (at_cons (et_var 2) (at_cons (et_var 3) at_nil)))); (refine at_cons ?_ ?_); (exact (et_callD d_minus hr hg (at_cons (et_var 2) (at_cons (et_var 3) at_nil)))); (refine at_cons ?_ ?_); (exact (et_callD d_multiplied hr hg (at_cons (et_var 2) (at_cons (et_var 3) at_nil)))); (refine at_cons ?_ ?_); (exact (et_callD d_scaled hr hg (at_cons (et_var 2) (at_cons (et_var 5) at_nil)))); (refine at_cons ?_ ?_); (exact (et_callD d_constant hr hg (at_cons (et_var 1) (at_cons (et_var 5) at_nil)))); (exact at_nil))))
    (ss_cons (st_set (i := 9) nd (et_lst (at_cons (et_callD d__law_plus hr hg (at_cons (et_var 2) (at_cons (et_var 3) at_nil))) (at_cons (et_callD d__law_plus hr hg (at_cons (et_var 2) (at_cons (et_callD d__law_scaled hr hg (at_cons (et_var 3) (at_cons (et_tup (at_cons (et_un ut_neg et_int) (at_cons et_int at_nil))) at_nil))) at_nil))) (at_cons (et_callD d__law_multiplied hr hg (at_cons (et_var 2) (at_cons (et_var 3) at_nil))) at_nil)))))
    (ss_cons (st_expr (et_meth PySem.F.plainAttrs_list PySem.F.slot_list_extend PySem.F.type_list_extend mm_extend (et_var 9) (at_cons (et_lst (at_cons (et_callD d__law_scaled hr hg (at_cons (et_var 2) (at_cons (et_var 5) at_nil))) (at_cons (et_callD d__law_constant hr hg (at_cons (et_var 1) (at_cons (et_var 5) at_nil))) at_nil))) at_nil)))
    (ss_cons (st_set (i := 10) nd (et_lst (by (refine at_cons ?_ ?_); (exact (et_callD d__law_added hr hg (at_cons (et_var 6) (at_cons (et_var 7) at_nil)))); (refine at_cons ?_ ?_); (exact (et_callD d__law_less hr hg (at_cons (et_var 6) (at_cons (et_var 7) at_nil)))); (refine at_cons ?_ ?_); (exact (et_callD d__law_times hr hg (at_cons (et_var 6) (at_cons (et_var 7) at_nil)))); (refine at_cons ?_ ?_); (exact (et_callD d__law_times hr hg (at_cons (et_var 6) (at_cons (et_var 5) at_nil)))); (refine at_cons ?_ ?_); (exact (et_var 5)); (exact at_nil))))
    (ss_one (st_ret (et_and (et_callD d__law_alike hr hg (at_cons (et_var 8) (at_cons (et_var 9) at_nil))) (et_one (et_callD d__law_alike hr hg (at_cons (et_lc (own := [("_law_some_here", 12)]) rfl nd (blkOk_by (own := [("_law_some_here", 12)]) (N := N__law_are_right) (sc := defScope s__law_are_right) (by decide +kernel)) (it_seq (et_var 8)) (fun _ _ _ _ _ => (gt_name (i := 12) nd)) (fun _ _ _ _ _ => pt_nil) (fun _ _ _ _ _ => (et_callD d_worth_at hr hg (at_cons (et_var 12) (at_cons (et_var 4) at_nil))))) (at_cons (et_var 10) at_nil)))))))))))))
theorem ok__law_is_put_right (T : Txt mg) (L : Place K mg "_law_is_put_right" s__law_is_put_right P__law_is_put_right) (d__law_fraction : DefAt P w K mg base 3 "_law_fraction" P__law_fraction S__law_fraction) (d__law_take : DefAt P w K mg base 1 "_law_take" P__law_take S__law_take) (d_degree_in : DefAt P w K mg base 1 "degree_in" P_degree_in S_degree_in) (d_put_in : DefAt P w K mg base 4 "put_in" P_put_in S_put_in) (d__law_worth : DefAt P w K mg base 4 "_law_worth" P__law_worth S__law_worth) (d__law_degree : DefAt P w K mg base 1 "_law_degree" P__law_degree S__law_degree) (d__law_put_in : DefAt P w K mg base 5 "_law_put_in" P__law_put_in S__law_put_in) (d__law_alike : DefAt P w K mg base 1 "_law_alike" P__law_alike F__law_alike) (d_worth_at : DefAt P w K mg base 4 "worth_at" P_worth_at S_worth_at) (d_constant : DefAt P w K mg base 1 "constant" P_constant F_constant) (d_part_by : DefAt P w K mg base 2 "part_by" P_part_by S_part_by) (d__law_part_by : DefAt P w K mg base 2 "_law_part_by" P__law_part_by S__law_part_by) (d_multiplied : DefAt P w K mg base 2 "multiplied" P_multiplied S_multiplied) (d_plus : DefAt P w K mg base 3 "plus" P_plus S_plus) (d_unit : DefAt P w K mg base 1 "unit" P_unit S_unit) (d__law_unit : DefAt P w K mg base 1 "_law_unit" P__law_unit S__law_unit) : DefAt P w K mg base 6 "_law_is_put_right" P__law_is_put_right F__law_is_put_right :=
  DefAt.of L sc__law_is_put_right fun f cdv A outer s H hr hg => by
  have nd := sc__law_is_put_right.nd
  exact (ss_cons (st_par (i := 4) (j := 5) rfl nd (at_cons (et_callD d__law_take hr hg (at_cons (et_var 0) (at_cons (et_var 1) at_nil))) (at_cons (et_callTy ct_tuple (at_cons (et_lc (own := [("_law_at", 13)]) rfl nd (blkOk_by (own := [("_law_at", 13)]) (N := N__law_is_put_right) (sc := defScope s__law_is_put_right) (by decide +kernel)) (it_range1 (et_var 1) T.range) (fun _ _ _ _ _ => (gt_name (i := 13) nd)) (fun _ _ _ _ _ => pt_nil) (fun _ _ _ _ _ => (et_callD d__law_fraction hr hg (at_cons (et_var 0) at_nil)))) at_nil) T.tuple) at_nil)))
    (ss_cons (st_par (i := 6) (j := 7) rfl nd (at_cons (et_callD d_put_in hr hg (at_cons (et_var 2) (at_cons (et_var 4) (at_cons (et_var 3) at_nil)))) (at_cons (et_callD d_degree_in hr hg (at_cons (et_var 2) (at_cons (et_var 4) at_nil))) at_nil)))
    (ss_cons (st_set (i := 8) nd (et_bin ot_add (et_bin ot_add (et_sl (et_var 5) ot_none (ot_some (et_var 4))) (et_tup (at_cons (et_callD d__law_worth hr hg (at_cons (et_var 3) (at_cons (et_var 5) at_nil))) at_nil))) (et_sl (et_var 5) (ot_some (et_bin ot_add (et_var 4) et_int)) ot_none)))
    (ss_cons (st_if (tt_not (tt_val (et_callD d__law_alike hr hg (at_cons (et_lst (at_cons (et_var 6) (at_cons (et_var 7) at_nil))) (at_cons (et_lst (at_cons (et_callD d__law_put_in hr hg (at_cons (et_var 2) (at_cons (et_var 4) (at_cons (et_var 3) at_nil)))) (at_cons (et_callD d__law_degree hr hg (at_cons (et_var 2) (at_cons (et_var 4) at_nil))) at_nil))) at_nil)))))
    (ss_one (st_ret et_bl))
    ss_nil)
    (ss_cons (st_if (tt_not (tt_val (et_callD d__law_alike hr hg (at_cons (et_callD d_worth_at hr hg (at_cons (et_var 6) (at_cons (et_var 5) at_nil))) (at_cons (et_callD d__law_worth hr hg (at_cons (et_var 2) (at_cons (et_var 8) at_nil))) at_nil)))))
    (ss_one (st_ret et_bl))
    ss_nil)
    (ss_cons (st_par (i := 9) (j := 10) rfl nd (at_cons (et_tup at_nil) (at_cons (et_callD d_constant hr hg (at_cons (et_var 1) (at_cons (et_tup (at_cons et_int (at_cons et_int at_nil))) at_nil))) at_nil)))
    (ss_cons (st_for PassesOwn.never rfl (it_range1 (et_bin ot_add (et_var 7) et_int) T.range) (gt_name (i := 11) nd)
    (ss_cons (st_set (i := 12) nd (et_callD d_part_by hr hg (at_cons (et_var 2) (at_cons (et_var 4) (at_cons (et_var 11) at_nil)))))
    (ss_cons (st_if (tt_not (tt_val (et_callD d__law_alike hr hg (at_cons (et_var 12) (at_cons (et_callD d__law_part_by hr hg (at_cons (et_var 2) (at_cons (et_var 4) (at_cons (et_var 11) at_nil)))) at_nil)))))
    (ss_one (st_ret et_bl))
    ss_nil)
    (ss_cons (st_set (i := 9) nd (et_callD d_plus hr hg (at_cons (et_var 9) (at_cons (et_callD d_multiplied hr hg (at_cons (et_var 12) (at_cons (et_var 10) at_nil))) at_nil))))
    (ss_one (st_set (i := 10) nd (et_callD d_multiplied hr hg (at_cons (et_var 10) (at_cons (et_callD d_unit hr hg (at_cons (et_var 1) (at_cons (et_var 4) at_nil))) at_nil)))))))))
    (ss_one (st_ret (et_callD d__law_alike hr hg (at_cons (et_lst (at_cons (et_var 9) (at_cons (et_callD d_unit hr hg (at_cons (et_var 1) (at_cons (et_var 4) at_nil))) at_nil))) (at_cons (et_lst (at_cons (et_var 2) (at_cons (et_callD d__law_unit hr hg (at_cons (et_var 1) (at_cons (et_var 4) at_nil))) at_nil))) at_nil))))))))))))
theorem ok_law (T : Txt mg) (L : Place K mg "law" s_law P_law) (d__law_bag : DefAt P w K mg base 1 "_law_bag" P__law_bag F__law_bag) (d__law_some : DefAt P w K mg base 2 "_law_some" P__law_some F__law_some) (d__law_drawn_poly : DefAt P w K mg base 4 "_law_drawn_poly" P__law_drawn_poly S__law_drawn_poly) (d__law_are_right : DefAt P w K mg base 5 "_law_are_right" P__law_are_right F__law_are_right) (d__law_is_put_right : DefAt P w K mg base 6 "_law_is_put_right" P__law_is_put_right F__law_is_put_right) : DefAt P w K mg base 7 "law" P_law F_law :=
  DefAt.of L sc_law fun f cdv A outer s H hr hg => by
  have nd := sc_law.nd
  exact (ss_cons (st_set (i := 1) nd (et_callD d__law_bag hr hg (at_cons (et_var 0) at_nil)))
    (ss_cons (st_for PassesOwn.never rfl (it_range1 et_int T.range) (gt_name (i := 2) nd)
    (ss_cons (st_set (i := 3) nd (et_callD d__law_some hr hg (at_cons (et_var 1) (at_cons (et_lst (at_cons et_int (at_cons et_int (at_cons et_int (at_cons et_int (at_cons et_int (at_cons et_int (at_cons et_int at_nil)))))))) at_nil))))
    (ss_cons (st_par (i := 4) (j := 5) rfl nd (at_cons (et_callD d__law_drawn_poly hr hg (at_cons (et_var 1) (at_cons (et_var 3) at_nil))) (at_cons (et_callD d__law_drawn_poly hr hg (at_cons (et_var 1) (at_cons (et_var 3) at_nil))) at_nil)))
    (ss_cons (st_set (i := 6) nd (et_callB (ct_reprV hr.units hg) (at_cons (et_lst (at_cons (et_var 4) (at_cons (et_var 5) at_nil))) at_nil) T.repr))
    (ss_cons (st_if (tt_w (tw_or (tt_not (tt_val (et_callD d__law_are_right hr hg (at_cons (et_var 1) (at_cons (et_var 3) (at_cons (et_var 4) (at_cons (et_var 5) at_nil))))))) (tw_or1 (tt_not (tt_val (et_callD d__law_are_right hr hg (at_cons (et_var 1) (at_cons (et_var 3) (at_cons (et_var 4) (at_cons (et_var 4) at_nil))))))))))
    (ss_one (st_ret et_bl))
    ss_nil)
    (ss_cons (st_if (tt_w (tw_and (tt_cmp ot_gt (et_var 3) et_int (nomark _)) (tw_and1 (tt_not (tt_val (et_callD d__law_is_put_right hr hg (at_cons (et_var 1) (at_cons (et_var 3) (at_cons (et_var 4) (at_cons (et_sl (et_var 5) ot_none (ot_some et_int)) at_nil))))))))))
    (ss_one (st_ret et_bl))
    ss_nil)
    (ss_one (st_if (tt_cmp (ot_ne hr.units) (et_callB (ct_reprV hr.units hg) (at_cons (et_lst (at_cons (et_var 4) (at_cons (et_var 5) at_nil))) at_nil) T.repr) (et_var 6) (nomark _))
    (ss_one (st_ret et_bl))
    ss_nil))))))))
    (ss_one (st_ret et_bl))))
end
end
end K03
/-! E03 -/
set_option Elab.async false
set_option linter.all false
set_option maxRecDepth 100000
set_option maxHeartbeats 4000000
namespace K03
open PySem PySem.Spec PyProof.Rows L2 TL LamX
def makers : List TL.Maker := []
instance tb : Tb := ⟨[], fun x => (([] : List (Str × Addr)).lookup x).getD 0⟩
def clsInit : Stmt → Stmt
  | .ClassDef (body := b :: _) .. => b
  | s => s
structure All (K : PySem.W.Frag) (mg : Str → Option Value) : Prop where
  T : Txt mg
  p_reduced : Place K mg "reduced" s_reduced P_reduced
  p_added : Place K mg "added" s_added P_added
  p_times : Place K mg "times" s_times P_times
  p_total_of : Place K mg "total_of" s_total_of P_total_of
  p_whole_power : Place K mg "whole_power" s_whole_power P_whole_power
  p_power_of : Place K mg "power_of" s_power_of P_power_of
  p_unit : Place K mg "unit" s_unit P_unit
  p_constant : Place K mg "constant" s_constant P_constant
  p_gathered : Place K mg "gathered" s_gathered P_gathered
  p_plus : Place K mg "plus" s_plus P_plus
  p_scaled : Place K mg "scaled" s_scaled P_scaled
  p_minus : Place K mg "minus" s_minus P_minus
  p_common_den : Place K mg "common_den" s_common_den P_common_den
  p_whole_members : Place K mg "whole_members" s_whole_members P_whole_members
  p_multiplied : Place K mg "multiplied" s_multiplied P_multiplied
  p_raised : Place K mg "raised" s_raised P_raised
  p_parts_by : Place K mg "parts_by" s_parts_by P_parts_by
  p_part_by : Place K mg "part_by" s_part_by P_part_by
  p_put_in : Place K mg "put_in" s_put_in P_put_in
  p_member_worth : Place K mg "member_worth" s_member_worth P_member_worth
  p_worth_at : Place K mg "worth_at" s_worth_at P_worth_at
  p_degree_in : Place K mg "degree_in" s_degree_in P_degree_in
  p__law_bag : Place K mg "_law_bag" s__law_bag P__law_bag
  p__law_take : Place K mg "_law_take" s__law_take P__law_take
  p__law_some : Place K mg "_law_some" s__law_some P__law_some
  p__law_alike : Place K mg "_law_alike" s__law_alike P__law_alike
  p__law_divisor : Place K mg "_law_divisor" s__law_divisor P__law_divisor
  p__law_over : Place K mg "_law_over" s__law_over P__law_over
  p__law_added : Place K mg "_law_added" s__law_added P__law_added
  p__law_less : Place K mg "_law_less" s__law_less P__law_less
  p__law_times : Place K mg "_law_times" s__law_times P__law_times
  p__law_fraction : Place K mg "_law_fraction" s__law_fraction P__law_fraction
  p__law_poly : Place K mg "_law_poly" s__law_poly P__law_poly
  p__law_constant : Place K mg "_law_constant" s__law_constant P__law_constant
  p__law_unit : Place K mg "_law_unit" s__law_unit P__law_unit
  p__law_plus : Place K mg "_law_plus" s__law_plus P__law_plus
  p__law_scaled : Place K mg "_law_scaled" s__law_scaled P__law_scaled
  p__law_multiplied : Place K mg "_law_multiplied" s__law_multiplied P__law_multiplied
  p__law_degree : Place K mg "_law_degree" s__law_degree P__law_degree
  p__law_worth : Place K mg "_law_worth" s__law_worth P__law_worth
  p__law_drawn_poly : Place K mg "_law_drawn_poly" s__law_drawn_poly P__law_drawn_poly
  p__law_put_in : Place K mg "_law_put_in" s__law_put_in P__law_put_in
  p__law_part_by : Place K mg "_law_part_by" s__law_part_by P__law_part_by
  p__law_are_right : Place K mg "_law_are_right" s__law_are_right P__law_are_right
  p__law_is_put_right : Place K mg "_law_is_put_right" s__law_is_put_right P__law_is_put_right
  p_law : Place K mg "law" s_law P_law
section
variable {P : Program} {w : World} {K : PySem.W.Frag} {mg : Str → Option Value} {base : Heap}
theorem law_at (A : All K mg) (hm : ∀ m ∈ makers, TabB base mg m.c m.P) : DefAt P w K mg base 7 "law" P_law F_law := by
  have d_reduced := (ok_reduced (P := P) (w := w) (K := K) (mg := mg) (base := base) A.T A.p_reduced).as cut_reduced
  have d_added := (ok_added (P := P) (w := w) (K := K) (mg := mg) (base := base) A.T A.p_added d_reduced).as cut_added
  have d_times := (ok_times (P := P) (w := w) (K := K) (mg := mg) (base := base) A.T A.p_times d_reduced).as cut_times
  have d_total_of := (ok_total_of (P := P) (w := w) (K := K) (mg := mg) (base := base) A.T A.p_total_of d_reduced).as cut_total_of
  have d_whole_power := ok_whole_power (P := P) (w := w) (K := K) (mg := mg) (base := base) A.T A.p_whole_power
  have d_power_of := ok_power_of (P := P) (w := w) (K := K) (mg := mg) (base := base) A.T A.p_power_of d_whole_power
  have d_unit := (ok_unit (P := P) (w := w) (K := K) (mg := mg) (base := base) A.T A.p_unit).as cut_unit
  have d_constant := ok_constant (P := P) (w := w) (K := K) (mg := mg) (base := base) A.T A.p_constant
  have d_gathered := (ok_gathered (P := P) (w := w) (K := K) (mg := mg) (base := base) A.T A.p_gathered).as cut_gathered
  have d_plus := (ok_plus (P := P) (w := w) (K := K) (mg := mg) (base := base) A.T A.p_plus d_added d_gathered).as cut_plus
  have d_scaled := (ok_scaled (P := P) (w := w) (K := K) (mg := mg) (base := base) A.T A.p_scaled d_times).as cut_scaled
  have d_minus := (ok_minus (P := P) (w := w) (K := K) (mg := mg) (base := base) A.T A.p_minus d_scaled d_plus).as cut_minus
  have d_common_den := ok_common_den (P := P) (w := w) (K := K) (mg := mg) (base := base) A.T A.p_common_den
  have d_whole_members := ok_whole_members (P := P) (w := w) (K := K) (mg := mg) (base := base) A.T A.p_whole_members
  have d_multiplied := (ok_multiplied (P := P) (w := w) (K := K) (mg := mg) (base := base) A.T A.p_multiplied d_common_den d_whole_members d_reduced d_gathered).as cut_multiplied
  have d_raised := (ok_raised (P := P) (w := w) (K := K) (mg := mg) (base := base) A.T A.p_raised d_constant d_multiplied).as cut_raised
  have d_parts_by := ok_parts_by (P := P) (w := w) (K := K) (mg := mg) (base := base) A.T A.p_parts_by
  have d_part_by := (ok_part_by (P := P) (w := w) (K := K) (mg := mg) (base := base) A.T A.p_part_by d_parts_by).as cut_part_by
  have d_put_in := (ok_put_in (P := P) (w := w) (K := K) (mg := mg) (base := base) A.T A.p_put_in d_parts_by d_raised d_plus d_multiplied).as cut_put_in
  have d_member_worth := ok_member_worth (P := P) (w := w) (K := K) (mg := mg) (base := base) A.T A.p_member_worth d_power_of d_times
  have d_worth_at := (ok_worth_at (P := P) (w := w) (K := K) (mg := mg) (base := base) A.T A.p_worth_at d_member_worth d_total_of).as cut_worth_at
  have d_degree_in := (ok_degree_in (P := P) (w := w) (K := K) (mg := mg) (base := base) A.T A.p_degree_in).as cut_degree_in
  have d__law_bag := ok__law_bag (P := P) (w := w) (K := K) (mg := mg) (base := base) A.T A.p__law_bag
  have d__law_take := (ok__law_take (P := P) (w := w) (K := K) (mg := mg) (base := base) A.T A.p__law_take).as cut__law_take
  have d__law_some := ok__law_some (P := P) (w := w) (K := K) (mg := mg) (base := base) A.T A.p__law_some d__law_take
  have d__law_alike := ok__law_alike (P := P) (w := w) (K := K) (mg := mg) (base := base) A.T A.p__law_alike
  have d__law_divisor := ok__law_divisor (P := P) (w := w) (K := K) (mg := mg) (base := base) A.T A.p__law_divisor
  have d__law_over := (ok__law_over (P := P) (w := w) (K := K) (mg := mg) (base := base) A.T A.p__law_over d__law_divisor).as cut__law_over
  have d__law_added := (ok__law_added (P := P) (w := w) (K := K) (mg := mg) (base := base) A.T A.p__law_added d__law_over).as cut__law_added
  have d__law_less := (ok__law_less (P := P) (w := w) (K := K) (mg := mg) (base := base) A.T A.p__law_less d__law_over).as cut__law_less
  have d__law_times := (ok__law_times (P := P) (w := w) (K := K) (mg := mg) (base := base) A.T A.p__law_times d__law_over).as cut__law_times
  have d__law_fraction := (ok__law_fraction (P := P) (w := w) (K := K) (mg := mg) (base := base) A.T A.p__law_fraction d__law_some d__law_over).as cut__law_fraction
  have d__law_poly := (ok__law_poly (P := P) (w := w) (K := K) (mg := mg) (base := base) A.T A.p__law_poly).as cut__law_poly
  have d__law_constant := (ok__law_constant (P := P) (w := w) (K := K) (mg := mg) (base := base) A.T A.p__law_constant d__law_poly).as cut__law_constant
  have d__law_unit := (ok__law_unit (P := P) (w := w) (K := K) (mg := mg) (base := base) A.T A.p__law_unit).as cut__law_unit
  have d__law_plus := (ok__law_plus (P := P) (w := w) (K := K) (mg := mg) (base := base) A.T A.p__law_plus d__law_added d__law_poly).as cut__law_plus
  have d__law_scaled := (ok__law_scaled (P := P) (w := w) (K := K) (mg := mg) (base := base) A.T A.p__law_scaled d__law_times d__law_poly).as cut__law_scaled
  have d__law_multiplied := (ok__law_multiplied (P := P) (w := w) (K := K) (mg := mg) (base := base) A.T A.p__law_multiplied d__law_times d__law_added d__law_poly).as cut__law_multiplied
  have d__law_degree := (ok__law_degree (P := P) (w := w) (K := K) (mg := mg) (base := base) A.T A.p__law_degree).as cut__law_degree
  have d__law_worth := (ok__law_worth (P := P) (w := w) (K := K) (mg := mg) (base := base) A.T A.p__law_worth d__law_times d__law_added).as cut__law_worth
  have d__law_drawn_poly := (ok__law_drawn_poly (P := P) (w := w) (K := K) (mg := mg) (base := base) A.T A.p__law_drawn_poly d__law_take d__law_some d__law_fraction d__law_poly).as cut__law_drawn_poly
  have d__law_put_in := (ok__law_put_in (P := P) (w := w) (K := K) (mg := mg) (base := base) A.T A.p__law_put_in d__law_multiplied d__law_plus).as cut__law_put_in
  have d__law_part_by := (ok__law_part_by (P := P) (w := w) (K := K) (mg := mg) (base := base) A.T A.p__law_part_by d__law_poly).as cut__law_part_by
  have d__law_are_right := ok__law_are_right (P := P) (w := w) (K := K) (mg := mg) (base := base) A.T A.p__law_are_right d__law_fraction d__law_worth d_constant d_scaled d_multiplied d_minus d_plus d__law_multiplied d__law_scaled d__law_plus d__law_constant d__law_times d__law_less d__law_added d__law_alike d_worth_at
  have d__law_is_put_right := ok__law_is_put_right (P := P) (w := w) (K := K) (mg := mg) (base := base) A.T A.p__law_is_put_right d__law_fraction d__law_take d_degree_in d_put_in d__law_worth d__law_degree d__law_put_in d__law_alike d_worth_at d_constant d_part_by d__law_part_by d_multiplied d_plus d_unit d__law_unit
  have d_law := ok_law (P := P) (w := w) (K := K) (mg := mg) (base := base) A.T A.p_law d__law_bag d__law_some d__law_drawn_poly d__law_are_right d__law_is_put_right
  exact d_law
theorem ends {l : PySem.W.OpenLaw} {w : World} {K : PySem.W.Frag} {mg : Str → Option Value} {fa : Addr} (hfa : mg "law" = some (.ref fa)) (A : All K mg) (base : Heap) (hm : ∀ m ∈ makers, TabB base mg m.c m.P) : ∃ fd, L2.Binds K fd ["_law_script"] [] ∧ FnT l.prog w K mg base 7 fa fd ["_law_script"] F_law := (law_at A hm).fn hfa
theorem fin {l : PySem.W.OpenLaw} {w : World} {K : PySem.W.Frag} {mg : Str → Option Value} {fa : Addr} (hfa : mg "law" = some (.ref fa)) (A : All K mg) : ∀ base : Heap, K.In base → base.Ns mainGlobals mg → (∀ m ∈ makers, TabB base mg m.c m.P) → ∃ fd, L2.Binds K fd ["_law_script"] [] ∧ FnT l.prog w K mg base 7 fa fd ["_law_script"] F_law := fun base _ _ hm => ends hfa A base hm
end
end K03
/-! END03 -/
set_option Elab.async false
set_option linter.all false
set_option maxRecDepth 100000
open PySem PySem.W PyProof.Rows
set_option maxHeartbeats 0 in
theorem PySem.Challenge.cw_chancegrain_k03_whole_polynomials_by_the_holds : PySem.Challenge.rw_chancegrain_k03_whole_polynomials_by_the.Holds := by
  w_on; o_law; k_head; (case hw => w_witness2)
  k_fill
  refine TL.walkT (l := PySem.Challenge.rw_chancegrain_k03_whole_polynomials_by_the) (n := 63) (k := 7) (x := "_law_script") (Fl := K03.F_law) (ms := K03.makers) rfl (by decide) rfl ⟨rfl, by decide, by decide⟩ (fun w h Y => by first | exact PySem.W.km_in_of Y | exact PySem.W.kIn_of Y) ?M1 ?B1 ?F1 K03.math
  case M1 =>
    intro w h Y
    exact ⟨fun m hm => absurd hm List.not_mem_nil, fun m hm => absurd hm List.not_mem_nil, fun m hm => absurd hm List.not_mem_nil⟩
  case B1 => decide +kernel
  case F1 =>
    intro w mg fa h KX G hmg
    refine K03.fin hmg ?A2
    case A2 =>
      constructor
      · constructor
        · exact PySem.W.mg_none_of KX G (by k_is)
        · exact PySem.W.mg_none_of KX G (by k_is)
        · exact PySem.W.mg_of KX G (by k_is)
        · exact PySem.W.mg_none_of KX G (by k_is)
        · exact PySem.W.mg_of KX G (by k_is)
        · exact PySem.W.mg_none_of KX G (by k_is)
        · exact PySem.W.mg_none_of KX G (by k_is)
        · exact PySem.W.mg_none_of KX G (by k_is)
        · exact PySem.W.mg_none_of KX G (by k_is)
        · exact PySem.W.mg_none_of KX G (by k_is)
        · exact PySem.W.mg_none_of KX G (by k_is)
        · exact PySem.W.mg_none_of KX G (by k_is)
        · exact PySem.W.mg_none_of KX G (by k_is)
      · refine' TL.place_mk KX G (fun _ _ _ _ _ _ us hl => match us, hl with | [_, _], _ => rfl) ?a_reduced ?l_reduced ?c_reduced ?k_reduced
        (case' a_reduced => k_is); (case' l_reduced => k_is); (case' c_reduced => k_is); (case' k_reduced => k_is)
      · refine' TL.place_mk KX G (fun _ _ _ _ _ _ us hl => match us, hl with | [_, _], _ => rfl) ?a_added ?l_added ?c_added ?k_added
        (case' a_added => k_is); (case' l_added => k_is); (case' c_added => k_is); (case' k_added => k_is)
      · refine' TL.place_mk KX G (fun _ _ _ _ _ _ us hl => match us, hl with | [_, _], _ => rfl) ?a_times ?l_times ?c_times ?k_times
        (case' a_times => k_is); (case' l_times => k_is); (case' c_times => k_is); (case' k_times => k_is)
      · refine' TL.place_mk KX G (fun _ _ _ _ _ _ us hl => match us, hl with | [_], _ => rfl) ?a_total_of ?l_total_of ?c_total_of ?k_total_of
        (case' a_total_of => k_is); (case' l_total_of => k_is); (case' c_total_of => k_is); (case' k_total_of => k_is)
      · refine' TL.place_mk KX G (fun _ _ _ _ _ _ us hl => match us, hl with | [_, _], _ => rfl) ?a_whole_power ?l_whole_power ?c_whole_power ?k_whole_power
        (case' a_whole_power => k_is); (case' l_whole_power => k_is); (case' c_whole_power => k_is); (case' k_whole_power => k_is)
      · refine' TL.place_mk KX G (fun _ _ _ _ _ _ us hl => match us, hl with | [_, _], _ => rfl) ?a_power_of ?l_power_of ?c_power_of ?k_power_of
        (case' a_power_of => k_is); (case' l_power_of => k_is); (case' c_power_of => k_is); (case' k_power_of => k_is)
      · refine' TL.place_mk KX G (fun _ _ _ _ _ _ us hl => match us, hl with | [_, _], _ => rfl) ?a_unit ?l_unit ?c_unit ?k_unit
        (case' a_unit => k_is); (case' l_unit => k_is); (case' c_unit => k_is); (case' k_unit => k_is)
      · refine' TL.place_mk KX G (fun _ _ _ _ _ _ us hl => match us, hl with | [_, _], _ => rfl) ?a_constant ?l_constant ?c_constant ?k_constant
        (case' a_constant => k_is); (case' l_constant => k_is); (case' c_constant => k_is); (case' k_constant => k_is)
      · refine' TL.place_mk KX G (fun _ _ _ _ _ _ us hl => match us, hl with | [_], _ => rfl) ?a_gathered ?l_gathered ?c_gathered ?k_gathered
        (case' a_gathered => k_is); (case' l_gathered => k_is); (case' c_gathered => k_is); (case' k_gathered => k_is)
      · refine' TL.place_mk KX G (fun _ _ _ _ _ _ us hl => match us, hl with | [_, _], _ => rfl) ?a_plus ?l_plus ?c_plus ?k_plus
        (case' a_plus => k_is); (case' l_plus => k_is); (case' c_plus => k_is); (case' k_plus => k_is)
      · refine' TL.place_mk KX G (fun _ _ _ _ _ _ us hl => match us, hl with | [_, _], _ => rfl) ?a_scaled ?l_scaled ?c_scaled ?k_scaled
        (case' a_scaled => k_is); (case' l_scaled => k_is); (case' c_scaled => k_is); (case' k_scaled => k_is)
      · refine' TL.place_mk KX G (fun _ _ _ _ _ _ us hl => match us, hl with | [_, _], _ => rfl) ?a_minus ?l_minus ?c_minus ?k_minus
        (case' a_minus => k_is); (case' l_minus => k_is); (case' c_minus => k_is); (case' k_minus => k_is)
      · refine' TL.place_mk KX G (fun _ _ _ _ _ _ us hl => match us, hl with | [_], _ => rfl) ?a_common_den ?l_common_den ?c_common_den ?k_common_den
        (case' a_common_den => k_is); (case' l_common_den => k_is); (case' c_common_den => k_is); (case' k_common_den => k_is)
      · refine' TL.place_mk KX G (fun _ _ _ _ _ _ us hl => match us, hl with | [_, _], _ => rfl) ?a_whole_members ?l_whole_members ?c_whole_members ?k_whole_members
        (case' a_whole_members => k_is); (case' l_whole_members => k_is); (case' c_whole_members => k_is); (case' k_whole_members => k_is)
      · refine' TL.place_mk KX G (fun _ _ _ _ _ _ us hl => match us, hl with | [_, _], _ => rfl) ?a_multiplied ?l_multiplied ?c_multiplied ?k_multiplied
        (case' a_multiplied => k_is); (case' l_multiplied => k_is); (case' c_multiplied => k_is); (case' k_multiplied => k_is)
      · refine' TL.place_mk KX G (fun _ _ _ _ _ _ us hl => match us, hl with | [_, _, _], _ => rfl) ?a_raised ?l_raised ?c_raised ?k_raised
        (case' a_raised => k_is); (case' l_raised => k_is); (case' c_raised => k_is); (case' k_raised => k_is)
      · refine' TL.place_mk KX G (fun _ _ _ _ _ _ us hl => match us, hl with | [_, _], _ => rfl) ?a_parts_by ?l_parts_by ?c_parts_by ?k_parts_by
        (case' a_parts_by => k_is); (case' l_parts_by => k_is); (case' c_parts_by => k_is); (case' k_parts_by => k_is)
      · refine' TL.place_mk KX G (fun _ _ _ _ _ _ us hl => match us, hl with | [_, _, _], _ => rfl) ?a_part_by ?l_part_by ?c_part_by ?k_part_by
        (case' a_part_by => k_is); (case' l_part_by => k_is); (case' c_part_by => k_is); (case' k_part_by => k_is)
      · refine' TL.place_mk KX G (fun _ _ _ _ _ _ us hl => match us, hl with | [_, _, _], _ => rfl) ?a_put_in ?l_put_in ?c_put_in ?k_put_in
        (case' a_put_in => k_is); (case' l_put_in => k_is); (case' c_put_in => k_is); (case' k_put_in => k_is)
      · refine' TL.place_mk KX G (fun _ _ _ _ _ _ us hl => match us, hl with | [_, _, _], _ => rfl) ?a_member_worth ?l_member_worth ?c_member_worth ?k_member_worth
        (case' a_member_worth => k_is); (case' l_member_worth => k_is); (case' c_member_worth => k_is); (case' k_member_worth => k_is)
      · refine' TL.place_mk KX G (fun _ _ _ _ _ _ us hl => match us, hl with | [_, _], _ => rfl) ?a_worth_at ?l_worth_at ?c_worth_at ?k_worth_at
        (case' a_worth_at => k_is); (case' l_worth_at => k_is); (case' c_worth_at => k_is); (case' k_worth_at => k_is)
      · refine' TL.place_mk KX G (fun _ _ _ _ _ _ us hl => match us, hl with | [_, _], _ => rfl) ?a_degree_in ?l_degree_in ?c_degree_in ?k_degree_in
        (case' a_degree_in => k_is); (case' l_degree_in => k_is); (case' c_degree_in => k_is); (case' k_degree_in => k_is)
      · refine' TL.place_mk KX G (fun _ _ _ _ _ _ us hl => match us, hl with | [_], _ => rfl) ?a__law_bag ?l__law_bag ?c__law_bag ?k__law_bag
        (case' a__law_bag => k_is); (case' l__law_bag => k_is); (case' c__law_bag => k_is); (case' k__law_bag => k_is)
      · refine' TL.place_mk KX G (fun _ _ _ _ _ _ us hl => match us, hl with | [_, _], _ => rfl) ?a__law_take ?l__law_take ?c__law_take ?k__law_take
        (case' a__law_take => k_is); (case' l__law_take => k_is); (case' c__law_take => k_is); (case' k__law_take => k_is)
      · refine' TL.place_mk KX G (fun _ _ _ _ _ _ us hl => match us, hl with | [_, _], _ => rfl) ?a__law_some ?l__law_some ?c__law_some ?k__law_some
        (case' a__law_some => k_is); (case' l__law_some => k_is); (case' c__law_some => k_is); (case' k__law_some => k_is)
      · refine' TL.place_mk KX G (fun _ _ _ _ _ _ us hl => match us, hl with | [_, _], _ => rfl) ?a__law_alike ?l__law_alike ?c__law_alike ?k__law_alike
        (case' a__law_alike => k_is); (case' l__law_alike => k_is); (case' c__law_alike => k_is); (case' k__law_alike => k_is)
      · refine' TL.place_mk KX G (fun _ _ _ _ _ _ us hl => match us, hl with | [_, _], _ => rfl) ?a__law_divisor ?l__law_divisor ?c__law_divisor ?k__law_divisor
        (case' a__law_divisor => k_is); (case' l__law_divisor => k_is); (case' c__law_divisor => k_is); (case' k__law_divisor => k_is)
      · refine' TL.place_mk KX G (fun _ _ _ _ _ _ us hl => match us, hl with | [_, _], _ => rfl) ?a__law_over ?l__law_over ?c__law_over ?k__law_over
        (case' a__law_over => k_is); (case' l__law_over => k_is); (case' c__law_over => k_is); (case' k__law_over => k_is)
      · refine' TL.place_mk KX G (fun _ _ _ _ _ _ us hl => match us, hl with | [_, _], _ => rfl) ?a__law_added ?l__law_added ?c__law_added ?k__law_added
        (case' a__law_added => k_is); (case' l__law_added => k_is); (case' c__law_added => k_is); (case' k__law_added => k_is)
      · refine' TL.place_mk KX G (fun _ _ _ _ _ _ us hl => match us, hl with | [_, _], _ => rfl) ?a__law_less ?l__law_less ?c__law_less ?k__law_less
        (case' a__law_less => k_is); (case' l__law_less => k_is); (case' c__law_less => k_is); (case' k__law_less => k_is)
      · refine' TL.place_mk KX G (fun _ _ _ _ _ _ us hl => match us, hl with | [_, _], _ => rfl) ?a__law_times ?l__law_times ?c__law_times ?k__law_times
        (case' a__law_times => k_is); (case' l__law_times => k_is); (case' c__law_times => k_is); (case' k__law_times => k_is)
      · refine' TL.place_mk KX G (fun _ _ _ _ _ _ us hl => match us, hl with | [_], _ => rfl) ?a__law_fraction ?l__law_fraction ?c__law_fraction ?k__law_fraction
        (case' a__law_fraction => k_is); (case' l__law_fraction => k_is); (case' c__law_fraction => k_is); (case' k__law_fraction => k_is)
      · refine' TL.place_mk KX G (fun _ _ _ _ _ _ us hl => match us, hl with | [_], _ => rfl) ?a__law_poly ?l__law_poly ?c__law_poly ?k__law_poly
        (case' a__law_poly => k_is); (case' l__law_poly => k_is); (case' c__law_poly => k_is); (case' k__law_poly => k_is)
      · refine' TL.place_mk KX G (fun _ _ _ _ _ _ us hl => match us, hl with | [_, _], _ => rfl) ?a__law_constant ?l__law_constant ?c__law_constant ?k__law_constant
        (case' a__law_constant => k_is); (case' l__law_constant => k_is); (case' c__law_constant => k_is); (case' k__law_constant => k_is)
      · refine' TL.place_mk KX G (fun _ _ _ _ _ _ us hl => match us, hl with | [_, _], _ => rfl) ?a__law_unit ?l__law_unit ?c__law_unit ?k__law_unit
        (case' a__law_unit => k_is); (case' l__law_unit => k_is); (case' c__law_unit => k_is); (case' k__law_unit => k_is)
      · refine' TL.place_mk KX G (fun _ _ _ _ _ _ us hl => match us, hl with | [_, _], _ => rfl) ?a__law_plus ?l__law_plus ?c__law_plus ?k__law_plus
        (case' a__law_plus => k_is); (case' l__law_plus => k_is); (case' c__law_plus => k_is); (case' k__law_plus => k_is)
      · refine' TL.place_mk KX G (fun _ _ _ _ _ _ us hl => match us, hl with | [_, _], _ => rfl) ?a__law_scaled ?l__law_scaled ?c__law_scaled ?k__law_scaled
        (case' a__law_scaled => k_is); (case' l__law_scaled => k_is); (case' c__law_scaled => k_is); (case' k__law_scaled => k_is)
      · refine' TL.place_mk KX G (fun _ _ _ _ _ _ us hl => match us, hl with | [_, _], _ => rfl) ?a__law_multiplied ?l__law_multiplied ?c__law_multiplied ?k__law_multiplied
        (case' a__law_multiplied => k_is); (case' l__law_multiplied => k_is); (case' c__law_multiplied => k_is); (case' k__law_multiplied => k_is)
      · refine' TL.place_mk KX G (fun _ _ _ _ _ _ us hl => match us, hl with | [_, _], _ => rfl) ?a__law_degree ?l__law_degree ?c__law_degree ?k__law_degree
        (case' a__law_degree => k_is); (case' l__law_degree => k_is); (case' c__law_degree => k_is); (case' k__law_degree => k_is)
      · refine' TL.place_mk KX G (fun _ _ _ _ _ _ us hl => match us, hl with | [_, _], _ => rfl) ?a__law_worth ?l__law_worth ?c__law_worth ?k__law_worth
        (case' a__law_worth => k_is); (case' l__law_worth => k_is); (case' c__law_worth => k_is); (case' k__law_worth => k_is)
      · refine' TL.place_mk KX G (fun _ _ _ _ _ _ us hl => match us, hl with | [_, _], _ => rfl) ?a__law_drawn_poly ?l__law_drawn_poly ?c__law_drawn_poly ?k__law_drawn_poly
        (case' a__law_drawn_poly => k_is); (case' l__law_drawn_poly => k_is); (case' c__law_drawn_poly => k_is); (case' k__law_drawn_poly => k_is)
      · refine' TL.place_mk KX G (fun _ _ _ _ _ _ us hl => match us, hl with | [_, _, _], _ => rfl) ?a__law_put_in ?l__law_put_in ?c__law_put_in ?k__law_put_in
        (case' a__law_put_in => k_is); (case' l__law_put_in => k_is); (case' c__law_put_in => k_is); (case' k__law_put_in => k_is)
      · refine' TL.place_mk KX G (fun _ _ _ _ _ _ us hl => match us, hl with | [_, _, _], _ => rfl) ?a__law_part_by ?l__law_part_by ?c__law_part_by ?k__law_part_by
        (case' a__law_part_by => k_is); (case' l__law_part_by => k_is); (case' c__law_part_by => k_is); (case' k__law_part_by => k_is)
      · refine' TL.place_mk KX G (fun _ _ _ _ _ _ us hl => match us, hl with | [_, _, _, _], _ => rfl) ?a__law_are_right ?l__law_are_right ?c__law_are_right ?k__law_are_right
        (case' a__law_are_right => k_is); (case' l__law_are_right => k_is); (case' c__law_are_right => k_is); (case' k__law_are_right => k_is)
      · refine' TL.place_mk KX G (fun _ _ _ _ _ _ us hl => match us, hl with | [_, _, _, _], _ => rfl) ?a__law_is_put_right ?l__law_is_put_right ?c__law_is_put_right ?k__law_is_put_right
        (case' a__law_is_put_right => k_is); (case' l__law_is_put_right => k_is); (case' c__law_is_put_right => k_is); (case' k__law_is_put_right => k_is)
      · refine' TL.place_mk KX G (fun _ _ _ _ _ _ us hl => match us, hl with | [_], _ => rfl) ?a_law ?l_law ?c_law ?k_law
        (case' a_law => k_is); (case' l_law => k_is); (case' c_law => k_is); (case' k_law => k_is)
