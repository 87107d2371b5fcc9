import PyProof.Rows.All
import Wide.All
import OpenK.AllK
import Wide.FinOn
import PySem.Challenge.RW_chancegrain_k29_neighbours_of_numbers
import HandS.ForMost
import HandS.Wide
import HandS.Gcd
import HandS.TupAny
import HandS.TupMul
import HandS.Deep
import KE.KDictKeyed
import KE.KDictLaw
import HandS.Lambda
import HandS.Style
import HandS.More
import HandS.Ends
import HandS.EndBits
import KE.KDictDisplayH
import HandS.Zip
import KE.GoesMore
import PyProof.EnumMake
import HandS.DictComp
import HandS.SortInts
import HandS.Small
import KE.DatumOrd
import HandS.SortKw
import HandS.ExcInit
import HandS.ExcOwn
import HandS.TryMany
import HandS.BoundDict
import HandS.Conv
import HandS.IsInst
import PyProof.FString2
import PyProof.CallFns
import HandS.RaiseMore
/-! TL1 -/
set_option Elab.async false
set_option linter.all false
set_option maxRecDepth 100000
set_option maxHeartbeats 4000000
/-! Trees over the layer: values without addresses, a store for what may change. -/
namespace TL
open PySem PySem.Spec PyProof.Rows L2
/-- a value as a tree; what may change is named by its place in the store -/
inductive T where
  | non
  | bl (b : Bool)
  | int (i : Int)
  | str (x : Str)
  | tup (ts : List T)
  | ref (l : Nat)
  | rdl (ns : List Int)
/-- what stands at a place of the store -/
inductive Ob where
  | lst (ts : List T)
  | dK (kvs : List (Key × T))
  | dN (kvs : List (T × T))
abbrev Store := List Ob
abbrev St := L2.St
/-- what the trees hang on: the written part, the program, the world -/
structure KX where
  K : PySem.W.Frag
  P : Program
  w : World
  tabs : List (Addr × Str)
/-- the tables that the makers of lambdas have -/
class Tb where
  tabs : List (Addr × Str)
  cls : Str → Addr
variable [Tb]
abbrev kX (K : PySem.W.Frag) (P : Program) (w : World) : KX := ⟨K, P, w, Tb.tabs⟩
abbrev kx (X : Cx) : KX := kX X.K X.prog X.w
abbrev Env1 := List (Option T)
/-- what never changes once it stands -/
def imm : HO → Bool
  | .tup _ => true
  | .frz _ _ => true
  | _ => false
def Ext (H H' : Hp) : Prop := ∀ a o, H a = some o → imm o = true → H' a = some o
theorem Ext.refl (H : Hp) : Ext H H := fun _ _ h _ => h
theorem Ext.trans {H H1 H2 : Hp} (a : Ext H H1) (b : Ext H1 H2) : Ext H H2 := fun x o h i => b x o (a x o h i) i
theorem Ext.new {H : Hp} {p : Addr} {o : HO} (h : H p = none) : Ext H (upd H p o) := fun a u e _ => by
  have ne : a ≠ p := ne_of_none e h
  rw [upd_ne ne]; exact e
theorem Ext.mut {H : Hp} {p : Addr} {o u : HO} (h : H p = some u) (hu : imm u = false) : Ext H (upd H p o) := fun a w e i => by
  have ne : a ≠ p := fun z => by
    subst z; rw [h] at e; cases e; rw [hu] at i; cases i
  rw [upd_ne ne]; exact e
theorem Ext.rdT {H H' : Hp} {a : Addr} {xs : List V} (e : Ext H H') (h : Rd H a (.tup xs)) : Rd H' a (.tup xs) := by
  rcases h with h | ⟨o, h⟩
  · exact .inl (e a _ h rfl)
  · exact .inr ⟨o, e a _ h rfl⟩
theorem Ext.sqT {K : PySem.W.Frag} {H H' : Hp} {a : Addr} {xs : List V} (e : Ext H H') (h : SqT K H a xs) : SqT K H' a xs := by
  rcases h with h | h
  · exact .inl (e.rdT h)
  · exact .inr h
/-- a list that is only read -/
def RdL (K : PySem.W.Frag) (H : Hp) (a : Addr) (xs : List V) : Prop :=
  (∃ o, H a = some (.frz o (.lst xs))) ∨ ∀ H' : Hp, SqL K H' a xs
theorem RdL.sq {K : PySem.W.Frag} {H : Hp} {a : Addr} {xs : List V} (h : RdL K H a xs) : SqL K H a xs := by
  rcases h with ⟨o, h⟩ | h
  · exact .inl (.inr ⟨o, h⟩)
  · exact h H
theorem RdL.of {K : PySem.W.Frag} {H : Hp} {a : Addr} {xs : List V} (h : SqL K H a xs) (n : ∀ ys, H a ≠ some (.lst ys)) : RdL K H a xs := by
  rcases h with (h | h) | h
  · exact absurd h (n _)
  · exact .inl h
  · exact .inr fun H' => .inr h
theorem Ext.rdl {K : PySem.W.Frag} {H H' : Hp} {a : Addr} {xs : List V} (e : Ext H H') (h : RdL K H a xs) : RdL K H' a xs := by
  rcases h with ⟨o, h⟩ | h
  · exact .inl ⟨o, e a _ h rfl⟩
  · exact .inr h
mutual
inductive Rep (K : KX) (H : Hp) (ρ : List Addr) : T → V → Prop
  | non : Rep K H ρ .non .non
  | bl (b : Bool) : Rep K H ρ (.bl b) (.bl b)
  | int (i : Int) : Rep K H ρ (.int i) (.int i)
  | str (x : Str) : Rep K H ρ (.str x) (.str x)
  | tup {a : Addr} {vs : List V} {ts : List T} : SqT K.K H a vs → Reps K H ρ ts vs → Rep K H ρ (.tup ts) (.ref a)
  | ref {l : Nat} {a : Addr} : ρ[l]? = some a → Rep K H ρ (.ref l) (.ref a)
  | rdl {ns : List Int} {a : Addr} : RdL K.K H a (ns.map V.int) → Rep K H ρ (.rdl ns) (.ref a)
inductive Reps (K : KX) (H : Hp) (ρ : List Addr) : List T → List V → Prop
  | nil : Reps K H ρ [] []
  | cons {t : T} {v : V} {ts : List T} {vs : List V} : Rep K H ρ t v → Reps K H ρ ts vs → Reps K H ρ (t :: ts) (v :: vs)
end
/-- what follows: the heap of what never changes has grown, the places too -/
structure Fut (H H' : Hp) (ρ ρ' : List Addr) : Prop where
  e : Ext H H'
  p : ∃ more, ρ' = ρ ++ more
theorem Fut.refl (H : Hp) (ρ : List Addr) : Fut H H ρ ρ := ⟨Ext.refl H, [], by simp⟩
theorem Fut.trans {H H1 H2 : Hp} {ρ ρ1 ρ2 : List Addr} (a : Fut H H1 ρ ρ1) (b : Fut H1 H2 ρ1 ρ2) : Fut H H2 ρ ρ2 := by
  obtain ⟨m1, e1⟩ := a.p
  obtain ⟨m2, e2⟩ := b.p
  exact ⟨a.e.trans b.e, m1 ++ m2, by rw [e2, e1, List.append_assoc]⟩
theorem Fut.get {H H' : Hp} {ρ ρ' : List Addr} (f : Fut H H' ρ ρ') {l : Nat} {a : Addr} (h : ρ[l]? = some a) : ρ'[l]? = some a := by
  obtain ⟨m, rfl⟩ := f.p
  have hl := (List.getElem?_eq_some_iff.mp h).1
  rw [List.getElem?_append_left hl]; exact h
mutual
theorem Rep.mono {K : KX} {H H' : Hp} {ρ ρ' : List Addr} (f : Fut H H' ρ ρ') : ∀ (t : T) (v : V), Rep K H ρ t v → Rep K H' ρ' t v
  | .non, _, h => by cases h; exact .non
  | .bl b, _, h => by cases h; exact .bl b
  | .int i, _, h => by cases h; exact .int i
  | .str x, _, h => by cases h; exact .str x
  | .tup ts, _, h => by
    cases h with
    | tup a b => exact .tup (f.e.sqT a) (Reps.mono f ts _ b)
  | .ref l, _, h => by
    cases h with
    | ref a => exact .ref (f.get a)
  | .rdl ns, _, h => by
    cases h with
    | rdl a => exact .rdl (f.e.rdl a)
theorem Reps.mono {K : KX} {H H' : Hp} {ρ ρ' : List Addr} (f : Fut H H' ρ ρ') : ∀ (ts : List T) (vs : List V), Reps K H ρ ts vs → Reps K H' ρ' ts vs
  | [], _, h => by cases h; exact .nil
  | t :: ts, _, h => by
    cases h with
    | cons a b => exact .cons (Rep.mono f t _ a) (Reps.mono f ts _ b)
end
section
variable {K : KX} {H H' : Hp} {ρ ρ' : List Addr}
theorem Rep.up {t : T} {v : V} (h : Rep K H ρ t v) (f : Fut H H' ρ ρ') : Rep K H' ρ' t v := Rep.mono f t v h
theorem Reps.up {t : List T} {v : List V} (h : Reps K H ρ t v) (f : Fut H H' ρ ρ') : Reps K H' ρ' t v := Reps.mono f t v h
theorem Reps.length : ∀ {ts : List T} {vs : List V}, Reps K H ρ ts vs → ts.length = vs.length
  | [], _, h => by cases h; rfl
  | t :: ts, _, h => by
    cases h with
    | cons a b => simp [Reps.length b]
theorem Reps.get : ∀ {ts : List T} {vs : List V} {i : Nat} {t : T}, Reps K H ρ ts vs → ts[i]? = some t → ∃ v, vs[i]? = some v ∧ Rep K H ρ t v
  | [], _, _, _, h, e => by simp at e
  | t :: ts, _, i, x, h, e => by
    cases h with
    | cons a b =>
      cases i with
      | zero => simp at e; subst e; exact ⟨_, rfl, a⟩
      | succ i =>
        obtain ⟨v, h1, h2⟩ := Reps.get (i := i) b (by simpa using e)
        exact ⟨v, by simpa using h1, h2⟩
theorem Reps.app : ∀ {ts us : List T} {vs ws : List V}, Reps K H ρ ts vs → Reps K H ρ us ws → Reps K H ρ (ts ++ us) (vs ++ ws)
  | [], _, _, _, h, g => by cases h; exact g
  | t :: ts, _, _, _, h, g => by
    cases h with
    | cons a b => exact .cons a (Reps.app b g)
theorem Reps.take : ∀ {ts : List T} {vs : List V} (n : Nat), Reps K H ρ ts vs → Reps K H ρ (ts.take n) (vs.take n)
  | _, _, 0, _ => by simp; exact .nil
  | [], _, n + 1, h => by cases h; exact .nil
  | t :: ts, _, n + 1, h => by
    cases h with
    | cons a b => exact .cons a (Reps.take n b)
theorem Reps.drop : ∀ {ts : List T} {vs : List V} (n : Nat), Reps K H ρ ts vs → Reps K H ρ (ts.drop n) (vs.drop n)
  | _, _, 0, h => h
  | [], _, n + 1, h => by cases h; exact .nil
  | t :: ts, _, n + 1, h => by
    cases h with
    | cons a b => exact Reps.drop n b
theorem Reps.set : ∀ {ts : List T} {vs : List V} {t : T} {v : V} (i : Nat), Reps K H ρ ts vs → Rep K H ρ t v → Reps K H ρ (ts.set i t) (vs.set i v)
  | [], _, _, _, _, h, _ => by cases h; exact .nil
  | t :: ts, _, _, _, 0, h, g => by
    cases h with
    | cons a b => exact .cons g b
  | t :: ts, _, _, _, i + 1, h, g => by
    cases h with
    | cons a b => exact .cons a (Reps.set i b g)
theorem Reps.rev {ts : List T} {vs : List V} (h : Reps K H ρ ts vs) : Reps K H ρ ts.reverse vs.reverse := by
  induction ts generalizing vs with
  | nil => cases h; exact .nil
  | cons t ts ih =>
    cases h with
    | cons a b => rw [List.reverse_cons, List.reverse_cons]; exact (ih b).app (.cons a .nil)
end
/-- a tree as a key of a dict -/
def optNK (f : T → Option NestedKey) : List T → Option (List NestedKey)
  | [] => some []
  | t :: ts => match f t, optNK f ts with
    | some k, some ks => some (k :: ks)
    | _, _ => none
def toNK : Nat → T → Option NestedKey
  | _, .non => some .none
  | _, .int i => some (.num i)
  | _, .str x => some (.text x)
  | n + 1, .tup ts => (optNK (toNK n) ts).map .tup
  | _, _ => none
def nkd : Nat := 6
/-- a dict whose keys are tuples, by its raw entries -/
def dnO (K : KX) (a : Addr) (xs : List (NestedKey × Addr × V)) : HO := .ext fun h => xs.length ≤ sizeLine ∧ (a == sysModules) = false ∧ ∃ ys : List (NestedKey × Addr × Value),
  Paired (fun (x : NestedKey × Addr × V) (y : NestedKey × Addr × Value) => x.1 = y.1 ∧ x.2.1 = y.2.1 ∧ RelV x.2.2 y.2.2) xs ys ∧
  ∃ o es ep, h.get? a = some o ∧ o.ExactDict ∧ o.data = .dict es ep ∧ es.toList = ys.map (entryOfKey (nestedKind K.P K.w)) ∧ (ys.map (·.1)).Nodup
theorem dnO_ne {K : KX} {a c : Addr} {xs : List (NestedKey × Addr × V)} {q : Str} : dnO K a xs ≠ LamX.CodeO c q := by
  intro z
  unfold dnO LamX.CodeO at z
  injection z with z
  let oc : Obj := { cls := .none, data := .fields #[.none, .str q 0] }
  let h0 : Heap := { objs := Array.replicate (max a c + 1) oc }
  have hg : ∀ b, b ≤ max a c → h0.get? b = some oc := fun b hb => by
    unfold Heap.get?
    have : (Array.replicate (max a c + 1) oc)[b]? = some oc := by
      rw [Array.getElem?_replicate]; rw [if_pos (Nat.lt_succ_of_le hb)]
    show (match (Array.replicate (max a c + 1) oc)[b]? with | some ⟨_, _, .freed, _⟩ => none | r => r) = some oc
    rw [this]
  have h1 := (congrFun z h0).symm.mp ⟨oc, #[.none, .str q 0], 0, hg c (Nat.le_max_right _ _), rfl, rfl⟩
  obtain ⟨_, _, ys, _, o, es, ep, e1, _, e2, _⟩ := h1
  rw [hg a (Nat.le_max_left _ _)] at e1
  cases e1
  cases e2
inductive RepD (K : KX) (H : Hp) (ρ : List Addr) : List (T × T) → List (NestedKey × Addr × V) → Prop
  | nil : RepD K H ρ [] []
  | cons {t u : T} {k : NestedKey} {b : Addr} {v : V} {r : List (T × T)} {xs : List (NestedKey × Addr × V)} : toNK nkd t = some k → Rep K H ρ t (.ref b) → Rep K H ρ u v → RepD K H ρ r xs → RepD K H ρ ((t, u) :: r) ((k, b, v) :: xs)
theorem RepD.up {K : KX} {H H' : Hp} {ρ ρ' : List Addr} {kvs : List (T × T)} {xs : List (NestedKey × Addr × V)} (h : RepD K H ρ kvs xs) (f : Fut H H' ρ ρ') : RepD K H' ρ' kvs xs := by
  induction h with
  | nil => exact .nil
  | cons a b c d ih => exact .cons a (b.up f) (c.up f) ih
/-- an object of the store stands at an address -/
def RepO (K : KX) (H : Hp) (ρ : List Addr) (a : Addr) : Ob → Prop
  | .lst ts => ∃ vs, H a = some (.lst vs) ∧ Reps K H ρ ts vs
  | .dK kvs => ∃ kws : List (Key × V), H a = some (.dK kws) ∧ kvs.map (·.1) = kws.map (·.1) ∧ Reps K H ρ (kvs.map (·.2)) (kws.map (·.2))
  | .dN kvs => ∃ xs : List (NestedKey × Addr × V), H a = some (dnO K a xs) ∧ RepD K H ρ kvs xs
structure Wd (K : KX) (ρ : List Addr) (st : Store) (H : Hp) : Prop where
  tb : LamX.Tabs K.tabs H
  len : ρ.length = st.length
  nd : ρ.Nodup
  ob : ∀ (l : Nat) (o : Ob) (a : Addr), st[l]? = some o → ρ[l]? = some a → RepO K H ρ a o
section
variable {K : KX} {H H' : Hp} {ρ ρ' : List Addr} {st : Store}
theorem Wd.at (w : Wd K ρ st H) {l : Nat} {o : Ob} (h : st[l]? = some o) : ∃ a, ρ[l]? = some a ∧ RepO K H ρ a o := by
  have hl := (List.getElem?_eq_some_iff.mp h).1
  rw [← w.len] at hl
  exact ⟨ρ[l], List.getElem?_eq_getElem hl, w.ob l o _ h (List.getElem?_eq_getElem hl)⟩
theorem Wd.addr (w : Wd K ρ st H) {l : Nat} {o : Ob} {a : Addr} (h : st[l]? = some o) (e : ρ[l]? = some a) : RepO K H ρ a o := w.ob l o a h e
/-- the heap grows, nothing that may change is touched -/
theorem Wd.grow (w : Wd K ρ st H) (e : ∀ a o, H a = some o → H' a = some o) : Wd K ρ st H' := by
  have f : Fut H H' ρ ρ := ⟨fun a o h _ => e a o h, [], by simp⟩
  refine ⟨w.tb.ext e, w.len, w.nd, fun l o a h1 h2 => ?_⟩
  have r := w.ob l o a h1 h2
  cases o with
  | lst ts => obtain ⟨vs, h, q⟩ := r; exact ⟨vs, e _ _ h, q.up f⟩
  | dK kvs => obtain ⟨vs, h, k, q⟩ := r; exact ⟨vs, e _ _ h, k, q.up f⟩
  | dN kvs => obtain ⟨vs, h, q⟩ := r; exact ⟨vs, e _ _ h, q.up f⟩
theorem grow_new {p : Addr} {o : HO} (h : H p = none) : ∀ a u, H a = some u → upd H p o a = some u := fun a u e => by
  rw [upd_ne (ne_of_none e h)]; exact e
theorem fut_grow (e : ∀ a o, H a = some o → H' a = some o) : Fut H H' ρ ρ := ⟨fun a o h _ => e a o h, [], by simp⟩
/-- what the store has is in the heap -/
theorem Wd.there (w : Wd K ρ st H) {l : Nat} {a : Addr} (e : ρ[l]? = some a) : ∃ u, H a = some u ∧ imm u = false := by
  have hl := (List.getElem?_eq_some_iff.mp e).1
  rw [w.len] at hl
  have r := w.ob l st[l] a (List.getElem?_eq_getElem hl) e
  cases h : st[l] with
  | lst ts => rw [h] at r; obtain ⟨vs, h, q⟩ := r; exact ⟨_, h, rfl⟩
  | dK kvs => rw [h] at r; obtain ⟨vs, h, k, q⟩ := r; exact ⟨_, h, rfl⟩
  | dN kvs => rw [h] at r; obtain ⟨vs, h, q⟩ := r; exact ⟨_, h, rfl⟩
/-- what the store has is no table and no code -/
theorem Wd.apart (w : Wd K ρ st H) {l : Nat} {a : Addr} (e : ρ[l]? = some a) : (∀ ps, H a ≠ some (.tbl ps)) ∧ (∀ (c : Addr) (q : Str), H a ≠ some (LamX.CodeO c q)) := by
  have hl := (List.getElem?_eq_some_iff.mp e).1
  rw [w.len] at hl
  have r := w.ob l st[l] a (List.getElem?_eq_getElem hl) e
  cases h : st[l] with
  | lst ts => rw [h] at r; obtain ⟨vs, h, q⟩ := r; exact ⟨(fun ps z => by rw [h] at z; cases z), (fun c q z => by rw [h] at z; unfold LamX.CodeO at z; cases z)⟩
  | dK kvs => rw [h] at r; obtain ⟨vs, h, k, q⟩ := r; exact ⟨(fun ps z => by rw [h] at z; cases z), (fun c q z => by rw [h] at z; unfold LamX.CodeO at z; cases z)⟩
  | dN kvs =>
    rw [h] at r
    obtain ⟨vs, h, q⟩ := r
    refine ⟨(fun ps z => by rw [h] at z; unfold dnO at z; cases z), fun c q z => ?_⟩
    rw [h] at z
    exact dnO_ne (Option.some.inj z)
theorem Wd.new_not (w : Wd K ρ st H) {p : Addr} (hp : H p = none) : p ∉ ρ := fun hm => by
  obtain ⟨l, hl⟩ := List.getElem?_of_mem hm
  obtain ⟨u, h, _⟩ := w.there hl
  rw [hp] at h; cases h
theorem RepO.up {a : Addr} {o : Ob} (r : RepO K H ρ a o) (f : Fut H H' ρ ρ') (h : H' a = H a) : RepO K H' ρ' a o := by
  cases o with
  | lst ts => obtain ⟨vs, e, q⟩ := r; exact ⟨vs, h.trans e, q.up f⟩
  | dK kvs => obtain ⟨vs, e, k, q⟩ := r; exact ⟨vs, h.trans e, k, q.up f⟩
  | dN kvs => obtain ⟨vs, e, q⟩ := r; exact ⟨vs, h.trans e, q.up f⟩
/-- a new object is taken into the store -/
theorem Wd.push (w : Wd K ρ st H) {p : Addr} {u : HO} {o : Ob} (hp : H p = none) (r : RepO K (upd H p u) (ρ ++ [p]) p o) : Wd K (ρ ++ [p]) (st ++ [o]) (upd H p u) ∧ Fut H (upd H p u) ρ (ρ ++ [p]) := by
  have f : Fut H (upd H p u) ρ (ρ ++ [p]) := ⟨Ext.new hp, [p], rfl⟩
  refine ⟨⟨w.tb.ext (grow_new hp), by simp [w.len], ?_, fun l ob a h1 h2 => ?_⟩, f⟩
  · refine List.nodup_append.mpr ⟨w.nd, by simp, ?_⟩
    intro a ha b hb e
    have hb' : b = p := by simpa using hb
    subst hb'; subst e
    exact w.new_not hp ha
  · by_cases hl : l < st.length
    · rw [List.getElem?_append_left hl] at h1
      rw [List.getElem?_append_left (by rw [w.len]; exact hl)] at h2
      have ne : a ≠ p := fun z => w.new_not hp (z ▸ List.mem_of_getElem? h2)
      exact (w.ob l ob a h1 h2).up f (upd_ne ne)
    · have e : l = st.length := by
        have := (List.getElem?_eq_some_iff.mp h1).1
        simp at this; omega
      subst e
      rw [List.getElem?_append_right (Nat.le_refl _)] at h1
      rw [← w.len, List.getElem?_append_right (Nat.le_refl _)] at h2
      simp at h1 h2
      subst h1; subst h2
      exact r
/-- an object of the store is written -/
theorem Wd.put (w : Wd K ρ st H) {l : Nat} {p : Addr} {u : HO} {o : Ob} (hp : ρ[l]? = some p) (r : RepO K (upd H p u) ρ p o) : Wd K ρ (st.set l o) (upd H p u) ∧ Fut H (upd H p u) ρ ρ := by
  obtain ⟨u0, h0, i0⟩ := w.there hp
  have f : Fut H (upd H p u) ρ ρ := ⟨Ext.mut h0 i0, [], by simp⟩
  obtain ⟨n1, n2⟩ := w.apart hp
  have tb' : LamX.Tabs K.tabs (upd H p u) := fun z hz => by
    obtain ⟨ps, h1, h2, h3⟩ := w.tb z hz
    refine ⟨ps, by rw [upd_ne (fun e => n1 ps (by rw [← e]; exact h1))]; exact h1, h2, fun pos cv hc => ?_⟩
    obtain ⟨c, e1, e2⟩ := h3 pos cv hc
    exact ⟨c, e1, by rw [upd_ne (fun e => n2 c _ (by rw [← e]; exact e2))]; exact e2⟩
  refine ⟨⟨tb', by simp [w.len], w.nd, fun m ob a h1 h2 => ?_⟩, f⟩
  by_cases e : m = l
  · subst e
    rw [hp] at h2; cases h2
    have hl := (List.getElem?_eq_some_iff.mp hp).1
    rw [w.len] at hl
    rw [List.getElem?_set_self hl] at h1
    cases h1; exact r
  · rw [List.getElem?_set_ne (Ne.symm e)] at h1
    have ne : a ≠ p := fun z => by
      subst z
      have h1 := (List.getElem?_eq_some_iff.mp hp).1
      exact e (((List.getElem?_inj h1 w.nd).mp (hp.trans h2.symm)).symm)
    exact (w.ob m ob a h1 h2).up f (upd_ne ne)
end
/-! ### the slots -/
def Slots (K : KX) (H : Hp) (ρ : List Addr) (e : Env1) (σ : St) : Prop := σ.length = e.length ∧ ∀ (i : Nat) (t : T), e[i]? = some (some t) → ∃ v, σ[i]? = some (some v) ∧ Rep K H ρ t v
section
variable {K : KX} {H H' : Hp} {ρ ρ' : List Addr} {e : Env1} {σ : St}
theorem Slots.up (s : Slots K H ρ e σ) (f : Fut H H' ρ ρ') : Slots K H' ρ' e σ := ⟨s.1, fun i t h => let ⟨v, h1, h2⟩ := s.2 i t h; ⟨v, h1, h2.up f⟩⟩
theorem Slots.set (s : Slots K H ρ e σ) (i : Nat) {t : T} {v : V} (r : Rep K H ρ t v) : Slots K H ρ (e.set i (some t)) (σ.set i (some v)) := by
  refine ⟨by simp [s.1], fun j u h => ?_⟩
  by_cases z : j = i
  · subst z
    have hj := (List.getElem?_eq_some_iff.mp h).1
    rw [List.length_set] at hj
    rw [List.getElem?_set_self hj] at h
    cases h
    exact ⟨v, by rw [List.getElem?_set_self (by rw [s.1]; exact hj)], r⟩
  · rw [List.getElem?_set_ne (Ne.symm z)] at h
    rw [List.getElem?_set_ne (Ne.symm z)]
    exact s.2 j u h
theorem slots_start {N : List Str} {ts : List T} {vs : List V} (r : Reps K H ρ ts vs) (hl : ts.length ≤ N.length) : Slots K H ρ (ts.map some ++ List.replicate (N.length - ts.length) none) (L2.start N vs) := by
  unfold L2.start
  have e := r.length
  refine ⟨by simp [e], fun i t h => ?_⟩
  by_cases hi : i < ts.length
  · rw [List.getElem?_append_left (by simpa using hi), List.getElem?_map] at h
    cases h1 : ts[i]? with
    | none => rw [h1] at h; cases h
    | some u =>
      rw [h1] at h; cases h
      obtain ⟨v, h2, h3⟩ := r.get h1
      refine ⟨v, ?_, h3⟩
      rw [List.getElem?_append_left (by simp [← e, hi]), List.getElem?_map, h2]; rfl
  · rw [List.getElem?_append_right (by simpa using hi), List.getElem?_replicate] at h
    split at h <;> cases h
end
/-! ### what is true behind a step -/
/-- the value t, with the store st', at a later heap -/
def QE (K : KX) (H : Hp) (ρ : List Addr) (t : T) (st' : Store) (Q : VK) : Prop := ∀ v H' ρ', Fut H H' ρ ρ' → Wd K ρ' st' H' → Rep K H' ρ' t v → Q v H'
def QA (K : KX) (H : Hp) (ρ : List Addr) (ts : List T) (st' : Store) (Q : List V → Hp → Prop) : Prop := ∀ vs H' ρ', Fut H H' ρ ρ' → Wd K ρ' st' H' → Reps K H' ρ' ts vs → Q vs H'
def QB (K : KX) (H : Hp) (ρ : List Addr) (b : Bool) (st' : Store) (Q : Bool → Hp → Prop) : Prop := ∀ H' ρ', Fut H H' ρ ρ' → Wd K ρ' st' H' → Q b H'
abbrev XE := Env1 → Store → Option (T × Store)
abbrev XA := Env1 → Store → Option (List T × Store)
abbrev XT := Env1 → Store → Option (Bool × Store)
inductive Out where
  | nx (e : Env1) (st : Store)
  | rt (t : T) (st : Store)
  | bk (e : Env1) (st : Store)
  | ct (e : Env1) (st : Store)
abbrev XS := Env1 → Store → Option Out
def QN (K : KX) (H : Hp) (ρ : List Addr) (e' : Env1) (st' : Store) (Q : St → Hp → Prop) : Prop := ∀ σ' H' ρ', Fut H H' ρ ρ' → Wd K ρ' st' H' → Slots K H' ρ' e' σ' → Q σ' H'
def QO (K : KX) (H : Hp) (ρ : List Addr) (D : Ends) : Out → Prop
  | .nx e st => QN K H ρ e st D.nx
  | .rt t st => QE K H ρ t st D.rt
  | .bk e st => QN K H ρ e st D.bk
  | .ct e st => QN K H ρ e st D.ct
/-! ### weakest readings -/
def We (X : Cx) (e : Expr) : TE := fun σ H Q => ∀ pins s, Inv X pins σ H s → wpAny (model X.prog X.w) X.A (eval e X.env) (EP X pins σ Q) X.xe s
def Wt (X : Cx) (e : Expr) : TT := fun σ H Q => ∀ pins s, Inv X pins σ H s → wpAny (model X.prog X.w) X.A (isTrue e X.env (eval e X.env)) (TP X pins σ Q) X.xe s
def Ww (X : Cx) (e : Expr) : TT := fun σ H Q => ∀ whole pins s, Inv X pins σ H s → wpAny (model X.prog X.w) X.A (isTrue e X.env whole) (TP X pins σ Q) X.xe s
def Wa (X : Cx) (es : List Expr) : TA := fun σ H Q => ∀ pos pins s, Inv X pins σ H s → wpAny (model X.prog X.w) X.A (spliced (backTo pos (starEach es X.env))) (AP X pins σ Q) X.xe s
def Ws (X : Cx) (st : Stmt) : TS := fun D σ H => ∀ pins s, Inv X pins σ H s → wpAny (model X.prog X.w) X.A (exec st X.env) (SP X pins D) X.xe s
def Wss (X : Cx) (st : List Stmt) : TS := fun D σ H => ∀ pins s, Inv X pins σ H s → wpAny (model X.prog X.w) X.A (execs st X.env) (SP X pins D) X.xe s
section
variable {X : Cx}
theorem We.pe {e : Expr} : PE X e (We X e) := ⟨fun pins s _ _ _ I h => h pins s I⟩
theorem Wt.pt {e : Expr} : PT X e (Wt X e) := ⟨fun pins s _ _ _ I h => h pins s I⟩
theorem Ww.pw {e : Expr} : PW X e (Ww X e) := ⟨fun whole pins s _ _ _ I h => h whole pins s I⟩
theorem Wa.pa {e : List Expr} : PA X e (Wa X e) := ⟨fun pos pins s _ _ _ I h => h pos pins s I⟩
theorem Ws.ps {e : Stmt} : PS X e (Ws X e) := ⟨fun pins s _ _ _ I h => h pins s I⟩
theorem Wss.pss {e : List Stmt} : PSs X e (Wss X e) := ⟨fun pins s _ _ _ I h => h pins s I⟩
theorem We.of {e : Expr} {t : TE} (h : PE X e t) {σ : St} {H : Hp} {Q : VK} (q : t σ H Q) : We X e σ H Q := fun pins s I => h.run pins s σ H Q I q
theorem Wt.of {e : Expr} {t : TT} (h : PT X e t) {σ : St} {H : Hp} {Q : Bool → Hp → Prop} (q : t σ H Q) : Wt X e σ H Q := fun pins s I => h.run pins s σ H Q I q
theorem Ww.of {e : Expr} {t : TT} (h : PW X e t) {σ : St} {H : Hp} {Q : Bool → Hp → Prop} (q : t σ H Q) : Ww X e σ H Q := fun whole pins s I => h.run whole pins s σ H Q I q
theorem Wa.of {e : List Expr} {t : TA} (h : PA X e t) {σ : St} {H : Hp} {Q : List V → Hp → Prop} (q : t σ H Q) : Wa X e σ H Q := fun pos pins s I => h.run pos pins s σ H Q I q
theorem Ws.of {e : Stmt} {t : TS} (h : PS X e t) {σ : St} {H : Hp} {D : Ends} (q : t D σ H) : Ws X e D σ H := fun pins s I => h.run pins s σ H D I q
theorem Wss.of {e : List Stmt} {t : TS} (h : PSs X e t) {σ : St} {H : Hp} {D : Ends} (q : t D σ H) : Wss X e D σ H := fun pins s I => h.run pins s σ H D I q
end
def ET (X : Cx) (e : Expr) (f : XE) : Prop := ∀ env st ρ σ H t st', Slots (kx X) H ρ env σ → Wd (kx X) ρ st H → f env st = some (t, st') → ∀ Q, QE (kx X) H ρ t st' Q → We X e σ H Q
def AT (X : Cx) (es : List Expr) (f : XA) : Prop := ∀ env st ρ σ H ts st', Slots (kx X) H ρ env σ → Wd (kx X) ρ st H → f env st = some (ts, st') → ∀ Q, QA (kx X) H ρ ts st' Q → Wa X es σ H Q
def TT1 (X : Cx) (e : Expr) (f : XT) : Prop := ∀ env st ρ σ H b st', Slots (kx X) H ρ env σ → Wd (kx X) ρ st H → f env st = some (b, st') → ∀ Q, QB (kx X) H ρ b st' Q → Wt X e σ H Q
def TW (X : Cx) (e : Expr) (f : XT) : Prop := ∀ env st ρ σ H b st', Slots (kx X) H ρ env σ → Wd (kx X) ρ st H → f env st = some (b, st') → ∀ Q, QB (kx X) H ρ b st' Q → Ww X e σ H Q
def ST (X : Cx) (s : Stmt) (f : XS) : Prop := ∀ env st ρ σ H o, Slots (kx X) H ρ env σ → Wd (kx X) ρ st H → f env st = some o → ∀ D, QO (kx X) H ρ D o → Ws X s D σ H
def SST (X : Cx) (s : List Stmt) (f : XS) : Prop := ∀ env st ρ σ H o, Slots (kx X) H ρ env σ → Wd (kx X) ρ st H → f env st = some o → ∀ D, QO (kx X) H ρ D o → Wss X s D σ H
section
variable {K : KX} {H H' : Hp} {ρ ρ' : List Addr}
theorem QE.up {t : T} {st : Store} {Q : VK} (q : QE K H ρ t st Q) (f : Fut H H' ρ ρ') : QE K H' ρ' t st Q := fun v H2 ρ2 g w r => q v H2 ρ2 (f.trans g) w r
theorem QA.up {t : List T} {st : Store} {Q : List V → Hp → Prop} (q : QA K H ρ t st Q) (f : Fut H H' ρ ρ') : QA K H' ρ' t st Q := fun v H2 ρ2 g w r => q v H2 ρ2 (f.trans g) w r
theorem QB.up {t : Bool} {st : Store} {Q : Bool → Hp → Prop} (q : QB K H ρ t st Q) (f : Fut H H' ρ ρ') : QB K H' ρ' t st Q := fun H2 ρ2 g w => q H2 ρ2 (f.trans g) w
theorem QN.up {e : Env1} {st : Store} {Q : St → Hp → Prop} (q : QN K H ρ e st Q) (f : Fut H H' ρ ρ') : QN K H' ρ' e st Q := fun v H2 ρ2 g w r => q v H2 ρ2 (f.trans g) w r
theorem QO.up {D : Ends} {o : Out} (q : QO K H ρ D o) (f : Fut H H' ρ ρ') : QO K H' ρ' D o := by
  cases o with
  | nx e st => exact QN.up (Q := D.nx) q f
  | rt t st => exact QE.up (Q := D.rt) q f
  | bk e st => exact QN.up (Q := D.bk) q f
  | ct e st => exact QN.up (Q := D.ct) q f
end
end TL
/-! TL2 -/
set_option Elab.async false
set_option linter.all false
set_option maxRecDepth 100000
set_option maxHeartbeats 4000000
namespace TL
variable [Tb]
open PySem PySem.Spec PyProof.Rows L2
/-! ### rules chosen by the values -/
def OpU (X : Cx) (f : Value → Value → Sem Value) : R2 := fun x y H Q => ∃ r : R2, OpR X f r ∧ r x y H Q
theorem OpU.ok {X : Cx} {f : Value → Value → Sem Value} : OpR X f (OpU X f) := fun pins s σ H x y v u Q I rx ry h => let ⟨_, ho, q⟩ := h; ho pins s σ H x y v u Q I rx ry q
def UnU (X : Cx) (f : Value → Sem Value) : V → Hp → VK → Prop := fun x H Q => ∃ r, UnR X f r ∧ r x H Q
theorem UnU.ok {X : Cx} {f : Value → Sem Value} : UnR X f (UnU X f) := fun pins s σ H x v Q I rx h => let ⟨_, ho, q⟩ := h; ho pins s σ H x v Q I rx q
def CallU (X : Cx) (f : Value) : List V → Hp → VK → Prop := fun xs H Q => ∃ r, CallR X f r ∧ r xs H Q
theorem CallU.ok {X : Cx} {f : Value} : CallR X f (CallU X f) := fun pins s σ H xs us Q I rx h => let ⟨_, ho, q⟩ := h; ho pins s σ H xs us Q I rx q
def IxU (X : Cx) : R2 := fun x y H Q => ∃ r : R2, IxR X r ∧ r x y H Q
theorem IxU.ok {X : Cx} : IxR X (IxU X) := fun a b pins s σ H x y v u Q I rx ry h hs => let ⟨_, ho, q⟩ := h; ho a b pins s σ H x y v u Q I rx ry q hs
def SlU (X : Cx) : V → Option Int → Option Int → Hp → VK → Prop := fun x l u H Q => ∃ r, SlR X r ∧ r x l u H Q
theorem SlU.ok {X : Cx} : SlR X (SlU X) := fun pins s σ H x v vl vu lo hi sl Q I rx h1 h2 h3 h => let ⟨_, ho, q⟩ := h; ho pins s σ H x v vl vu lo hi sl Q I rx h1 h2 h3 q
def TruU (X : Cx) : V → Hp → (Bool → Hp → Prop) → Prop := fun x H Q => ∃ k, TruV X.K x H k ∧ Q k H
abbrev F2 := T → T → Store → Option (T × Store)
abbrev F1 := T → Store → Option (T × Store)
abbrev FA := List T → Store → Option (T × Store)
def OpT (X : Cx) (fop : Value → Value → Sem Value) (f : F2) : Prop := ∀ ρ st H x y t st' vx vy, Wd (kx X) ρ st H → Rep (kx X) H ρ x vx → Rep (kx X) H ρ y vy → f x y st = some (t, st') → ∀ Q, QE (kx X) H ρ t st' Q → OpU X fop vx vy H Q
def UnT (X : Cx) (fop : Value → Sem Value) (f : F1) : Prop := ∀ ρ st H x t st' vx, Wd (kx X) ρ st H → Rep (kx X) H ρ x vx → f x st = some (t, st') → ∀ Q, QE (kx X) H ρ t st' Q → UnU X fop vx H Q
def IxT (X : Cx) (f : F2) : Prop := ∀ ρ st H x y t st' vx vy, Wd (kx X) ρ st H → Rep (kx X) H ρ x vx → Rep (kx X) H ρ y vy → f x y st = some (t, st') → ∀ Q, QE (kx X) H ρ t st' Q → IxU X vx vy H Q
def CallT (X : Cx) (fv : Value) (f : FA) : Prop := ∀ ρ st H ts t st' vs, Wd (kx X) ρ st H → Reps (kx X) H ρ ts vs → f ts st = some (t, st') → ∀ Q, QE (kx X) H ρ t st' Q → CallU X fv vs H Q
/-! ### the readings -/
def xC (t : T) : XE := fun _ st => some (t, st)
def xVar (i : Nat) : XE := fun e st => match e[i]? with
  | some (some t) => some (t, st)
  | _ => none
def xBin (f : F2) (a b : XE) : XE := fun e st => (a e st).bind fun p => (b e p.2).bind fun q => f p.1 q.1 q.2
def xUn (f : F1) (a : XE) : XE := fun e st => (a e st).bind fun p => f p.1 p.2
def xNil : XA := fun _ st => some ([], st)
def xCons (a : XE) (r : XA) : XA := fun e st => (a e st).bind fun p => (r e p.2).bind fun q => some (p.1 :: q.1, q.2)
def xCall (f : FA) (a : XA) : XE := fun e st => (a e st).bind fun p => f p.1 p.2
def tupT : FA := fun ts st => if ts.length ≤ sizeLine then some (.tup ts, st) else none
def lstT : FA := fun ts st => if ts.length ≤ sizeLine then some (.ref st.length, st ++ [.lst ts]) else none
section
variable {X : Cx} {a b c : Expr} {es : List Expr} {fa fb fc : XE} {pos : Pos}
theorem et_c {t : T} {v : V} (h : PE X a (tC v)) (r : ∀ H ρ, Rep (kx X) H ρ t v) : ET X a (xC t) := by
  intro env st ρ σ H t' st' s w e Q q
  cases e
  exact We.of h (show tC v σ H Q from q v H ρ (Fut.refl _ _) w (r _ _))
theorem et_int {i : Int} {j} : ET X (.Constant (.int i) j pos) (xC (.int i)) := et_c pe_int fun _ _ => .int i
theorem et_bl {i : Bool} {j} : ET X (.Constant (.bool i) j pos) (xC (.bl i)) := et_c pe_bl fun _ _ => .bl i
theorem et_non {j} : ET X (.Constant .none j pos) (xC .non) := et_c pe_non fun _ _ => .non
theorem et_str {x : Str} {j} : ET X (.Constant (.str x) j pos) (xC (.str x)) := et_c pe_str fun _ _ => .str x
theorem et_var (i : Nat) {x : Str} (hN : X.N[i]? = some x := by rfl) (hv : Vis X.env.scope x := by first | exact Or.inl rfl | exact Or.inr (Or.inl rfl) | exact Or.inr (Or.inr rfl))
    (hd : (x == ("__debug__" : Str)) = false := by decide +kernel) (hcd : (x == ("__classdict__" : Str)) = false := by decide +kernel) : ET X (.Name x pos) (xVar i) := by
  intro env st ρ σ H t st' s w e Q q
  unfold xVar at e
  split at e
  · rename_i u hu
    obtain ⟨v, h1, h2⟩ := s.2 i u hu
    cases e
    exact We.of (pe_var hN hv hd hcd) ⟨v, h1, q v H ρ (Fut.refl _ _) w h2⟩
  · cases e
theorem two {f : F2} {env : Env1} {st : Store} {r : T × Store} (e : xBin f fa fb env st = some r) : ∃ x st1 y st2, fa env st = some (x, st1) ∧ fb env st1 = some (y, st2) ∧ f x y st2 = some r := by
  unfold xBin at e
  cases h1 : fa env st with
  | none => rw [h1] at e; cases e
  | some p =>
    rw [h1] at e
    cases h2 : fb env p.2 with
    | none => simp [h2] at e
    | some q =>
      simp [h2] at e
      exact ⟨p.1, p.2, q.1, q.2, rfl, h2, e⟩
theorem one {f : F1} {env : Env1} {st : Store} {r : T × Store} (e : xUn f fa env st = some r) : ∃ x st1, fa env st = some (x, st1) ∧ f x st1 = some r := by
  unfold xUn at e
  cases h1 : fa env st with
  | none => rw [h1] at e; cases e
  | some p =>
    rw [h1] at e
    exact ⟨p.1, p.2, rfl, e⟩
theorem many {f : FA} {ga : XA} {env : Env1} {st : Store} {r : T × Store} (e : xCall f ga env st = some r) : ∃ x st1, ga env st = some (x, st1) ∧ f x st1 = some r := by
  unfold xCall at e
  cases h1 : ga env st with
  | none => rw [h1] at e; cases e
  | some p =>
    rw [h1] at e
    exact ⟨p.1, p.2, rfl, e⟩
/-- two values, then what is done with them -/
theorem run2 (ha : ET X a fa) (hb : ET X b fb) {f : F2} {k : V → V → Hp → VK → Prop}
    (hk : ∀ ρ st H x y t st' vx vy, Wd (kx X) ρ st H → Rep (kx X) H ρ x vx → Rep (kx X) H ρ y vy → f x y st = some (t, st') → ∀ Q, QE (kx X) H ρ t st' Q → k vx vy H Q)
    {env : Env1} {st : Store} {ρ : List Addr} {σ : St} {H : Hp} {t : T} {st' : Store} (s : Slots (kx X) H ρ env σ) (w : Wd (kx X) ρ st H) (e : xBin f fa fb env st = some (t, st')) {Q : VK} (q : QE (kx X) H ρ t st' Q) :
    We X a σ H fun vx H1 => We X b σ H1 fun vy H2 => k vx vy H2 Q := by
  obtain ⟨x, st1, y, st2, e1, e2, e3⟩ := two e
  refine ha env st ρ σ H x st1 s w e1 _ fun vx H1 ρ1 f1 w1 r1 => ?_
  refine hb env st1 ρ1 σ H1 y st2 (s.up f1) w1 e2 _ fun vy H2 ρ2 f2 w2 r2 => ?_
  exact hk ρ2 st2 H2 x y t st' vx vy w2 (r1.up f2) r2 e3 Q (q.up (f1.trans f2))
theorem et_bin {op : Operator} {f : F2} (h : OpT X (binaryOp op) f) (ha : ET X a fa) (hb : ET X b fb) : ET X (.BinOp a op b pos) (xBin f fa fb) := by
  intro env st ρ σ H t st' s w e Q q
  exact We.of (pe_op OpU.ok We.pe We.pe) (run2 ha hb (k := fun vx vy H Q => OpU X (binaryOp op) vx vy H Q) h s w e q)
theorem et_cmp {op : CmpOp} {f : F2} (h : OpT X (compareOp op) f) (ha : ET X a fa) (hb : ET X b fb) (hm : behindInMarks op b = false) : ET X (.Compare a [op] [b] pos) (xBin f fa fb) := by
  intro env st ρ σ H t st' s w e Q q
  exact We.of (pe_cmpR OpU.ok We.pe We.pe hm) (run2 ha hb (k := fun vx vy H Q => OpU X (compareOp op) vx vy H Q) h s w e q)
theorem et_ix {f : F2} (h : IxT X f) (ha : ET X a fa) (hb : ET X b fb) (hs : PlainIx b := by exact fun _ _ => rfl) : ET X (.Subscript a b pos) (xBin f fa fb) := by
  intro env st ρ σ H t st' s w e Q q
  exact We.of (pe_ix IxU.ok We.pe We.pe hs) (run2 ha hb (k := fun vx vy H Q => IxU X vx vy H Q) h s w e q)
theorem et_un {op : UnaryOp} {f : F1} (h : UnT X (unaryOp op) f) (ha : ET X a fa) : ET X (.UnaryOp op a pos) (xUn f fa) := by
  intro env st ρ σ H t st' s w e Q q
  obtain ⟨x, st1, e1, e2⟩ := one e
  refine We.of (pe_un UnU.ok We.pe) ?_
  refine ha env st ρ σ H x st1 s w e1 _ fun vx H1 ρ1 f1 w1 r1 => ?_
  exact h ρ1 st1 H1 x t st' vx w1 r1 e2 Q (q.up f1)
/-! ### argument lists -/
theorem at_nil : AT X [] xNil := by
  intro env st ρ σ H ts st' s w e Q q
  cases e
  exact Wa.of pa_nil (show tNil σ H Q from q [] H ρ (Fut.refl _ _) w .nil)
theorem at_cons {fr : XA} (ha : ET X a fa) (hr : AT X es fr) (hs : starEach (a :: es) X.env = (false, eval a X.env) :: starEach es X.env := by rfl) : AT X (a :: es) (xCons fa fr) := by
  intro env st ρ σ H ts st' s w e Q q
  unfold xCons at e
  cases h1 : fa env st with
  | none => rw [h1] at e; cases e
  | some p =>
    rw [h1] at e
    cases h2 : fr env p.2 with
    | none => simp [h2] at e
    | some p2 =>
      simp [h2] at e
      obtain ⟨rfl, rfl⟩ := e
      refine Wa.of (pa_cons We.pe Wa.pa hs) ?_
      show We X a σ H _
      refine ha env st ρ σ H p.1 p.2 s w h1 _ fun vx H1 ρ1 f1 w1 r1 => ?_
      refine hr env p.2 ρ1 σ H1 p2.1 p2.2 (s.up f1) w1 h2 _ fun vs H2 ρ2 f2 w2 r2 => ?_
      exact q _ H2 ρ2 (f1.trans f2) w2 (.cons (r1.up f2) r2)
theorem runA {fr : XA} {f : FA} (ha : AT X es fr) {k : List V → Hp → VK → Prop}
    (hk : ∀ ρ st H ts t st' vs, Wd (kx X) ρ st H → Reps (kx X) H ρ ts vs → f ts st = some (t, st') → ∀ Q, QE (kx X) H ρ t st' Q → k vs H Q)
    {env : Env1} {st : Store} {ρ : List Addr} {σ : St} {H : Hp} {t : T} {st' : Store} (s : Slots (kx X) H ρ env σ) (w : Wd (kx X) ρ st H) (e : xCall f fr env st = some (t, st')) {Q : VK} (q : QE (kx X) H ρ t st' Q) :
    Wa X es σ H fun vs H1 => k vs H1 Q := by
  obtain ⟨ts, st1, e1, e2⟩ := many e
  refine ha env st ρ σ H ts st1 s w e1 _ fun vs H1 ρ1 f1 w1 r1 => ?_
  exact hk ρ1 st1 H1 ts t st' vs w1 r1 e2 Q (q.up f1)
theorem new_tup {ρ : List Addr} {st : Store} {H : Hp} {ts : List T} {vs : List V} {Q : VK} (w : Wd (kx X) ρ st H) (r : Reps (kx X) H ρ ts vs) (q : QE (kx X) H ρ (.tup ts) st Q) {p : Addr} (hp : H p = none) : Q (.ref p) (upd H p (.tup vs)) := by
  have g : ∀ a o, H a = some o → upd H p (.tup vs) a = some o := grow_new hp
  have f : Fut H (upd H p (.tup vs)) ρ ρ := fut_grow g
  exact q _ _ ρ f (w.grow g) (.tup (SqT.of upd_same) (r.up f))
theorem new_lst {ρ : List Addr} {st : Store} {H : Hp} {ts : List T} {vs : List V} {Q : VK} (w : Wd (kx X) ρ st H) (r : Reps (kx X) H ρ ts vs) (q : QE (kx X) H ρ (.ref st.length) (st ++ [.lst ts]) Q) {p : Addr} (hp : H p = none) : Q (.ref p) (upd H p (.lst vs)) := by
  have f0 : Fut H (upd H p (.lst vs)) ρ (ρ ++ [p]) := ⟨Ext.new hp, [p], rfl⟩
  obtain ⟨w1, f⟩ := w.push (o := .lst ts) hp ⟨vs, upd_same, r.up f0⟩
  exact q _ _ _ f w1 (.ref (by rw [← w.len, List.getElem?_append_right (Nat.le_refl _)]; simp))
theorem et_tup {k} {fr : XA} (ha : AT X es fr) : ET X (.Tuple es k pos) (xCall tupT fr) := by
  intro env st ρ σ H t st' s w e Q q
  refine We.of (pe_tup Wa.pa) (runA (k := fun vs H1 Q => vs.length ≤ sizeLine ∧ ∀ p, H1 p = none → Q (.ref p) (upd H1 p (.tup vs))) ha ?_ s w e q)
  intro ρ st H ts t st' vs w r e Q q
  unfold tupT at e
  split at e
  · rename_i hz
    cases e
    exact ⟨by rw [← r.length]; exact hz, fun p hp => new_tup w r q hp⟩
  · cases e
theorem et_lst {fr : XA} (ha : AT X es fr) : ET X (.List es pos) (xCall lstT fr) := by
  intro env st ρ σ H t st' s w e Q q
  refine We.of (pe_lst Wa.pa) (runA (k := fun vs H1 Q => vs.length ≤ sizeLine ∧ ∀ p, H1 p = none → Q (.ref p) (upd H1 p (.lst vs))) ha ?_ s w e q)
  intro ρ st H ts t st' vs w r e Q q
  unfold lstT at e
  split at e
  · rename_i hz
    cases e
    exact ⟨by rw [← r.length]; exact hz, fun p hp => new_lst w r q hp⟩
  · cases e
/-! ### calls of what is built in -/
theorem et_callB {x : Str} {id : String} {p : Pos} {fr : XA} {f : FA} (h : CallT X (.builtin id) f) (ha : AT X (a :: es) fr) (hm : X.mg x = none) (hg : Gl X x := by rfl) (hv : bootBuiltins x = some (.builtin id) := by decide +kernel)
    (hn : x ≠ "__name__" := by decide +kernel) (hdb : (x == ("__debug__" : Str)) = false := by decide +kernel)
    (he : starEach (a :: es) X.env = (false, eval a X.env) :: starEach es X.env := by rfl) (hpl : (backTo pos (starEach es X.env)).any (·.1) = false := by rfl) : ET X (.Call (.Name x p) (a :: es) [] pos) (xCall f fr) := by
  intro env st ρ σ H t st' s w e Q q
  exact We.of (pe_callB CallU.ok hg hm hv Wa.pa hn hdb he hpl) (runA (k := fun vs H Q => CallU X (.builtin id) vs H Q) ha h s w e q)
theorem et_callTy {x : Str} {id : String} {p : Pos} {fr : XA} {f : FA} (h : CallT X (.type id) f) (ha : AT X (a :: es) fr) (hm : X.mg x = none) (hg : Gl X x := by rfl) (hv : bootBuiltins x = some (.type id) := by decide +kernel)
    (hn : x ≠ "__name__" := by decide +kernel) (hdb : (x == ("__debug__" : Str)) = false := by decide +kernel)
    (he : starEach (a :: es) X.env = (false, eval a X.env) :: starEach es X.env := by rfl) (hpl : (backTo pos (starEach es X.env)).any (·.1) = false := by rfl) : ET X (.Call (.Name x p) (a :: es) [] pos) (xCall f fr) := by
  intro env st ρ σ H t st' s w e Q q
  exact We.of (pe_callTy CallU.ok hg hm hv Wa.pa hn hdb he hpl) (runA (k := fun vs H Q => CallU X (.type id) vs H Q) ha h s w e q)
/-- a module's name for a built-in function -/
theorem et_callF {x : Str} {id : String} {p : Pos} {fr : XA} {f : FA} (h : CallT X (.builtin id) f) (ha : AT X (a :: es) fr) (hm : X.mg x = some (.builtin id)) (hg : Gl X x := by rfl) (hdb : (x == ("__debug__" : Str)) = false := by decide +kernel)
    (he : starEach (a :: es) X.env = (false, eval a X.env) :: starEach es X.env := by rfl) (hpl : (backTo pos (starEach es X.env)).any (·.1) = false := by rfl) : ET X (.Call (.Name x p) (a :: es) [] pos) (xCall f fr) := by
  intro env st ρ σ H t st' s w e Q q
  exact We.of (pe_callBfun CallU.ok hg hm Wa.pa hdb he hpl) (runA (k := fun vs H Q => CallU X (.builtin id) vs H Q) ha h s w e q)
end
/-! ### the operators -/
def bitsOk (i j : Int) : Bool := decide (i.natAbs.log2 + j.natAbs.log2 < 1000000)
theorem bitsOk.ok {i j : Int} (h : bitsOk i j = true) : CMulW i j := of_decide_eq_true (p := i.natAbs.log2 + j.natAbs.log2 < 1000000) h
def addT : F2
  | .int i, .int j, st => some (.int (i + j), st)
  | .str x, .str y, st => if x.length + y.length ≤ sizeLine then some (.str (x ++ y), st) else none
  | .tup xs, .tup ys, st => if xs.length + ys.length ≤ sizeLine then some (.tup (xs ++ ys), st) else none
  | .ref l, .ref m, st => match st[l]?, st[m]? with
    | some (.lst xs), some (.lst ys) => if xs.length + ys.length ≤ sizeLine then some (.ref st.length, st ++ [.lst (xs ++ ys)]) else none
    | _, _ => none
  | _, _, _ => none
def subT : F2
  | .int i, .int j, st => some (.int (i - j), st)
  | _, _, _ => none
def mulT : F2
  | .int i, .int j, st => if bitsOk i j then some (.int (i * j), st) else none
  | .ref l, .int k, st => match st[l]? with
    | some (.lst xs) => if -(2 ^ 63) ≤ k ∧ k < 2 ^ 63 ∧ xs.length * k.toNat ≤ sizeLine then some (.ref st.length, st ++ [.lst (List.replicate k.toNat xs).flatten]) else none
    | _ => none
  | _, _, _ => none
def fdivT : F2
  | .int i, .int j, st => if j ≠ 0 ∧ j.natAbs.log2 < 9000 then some (.int (i.fdiv j), st) else none
  | _, _, _ => none
def modT : F2
  | .int i, .int j, st => if j ≠ 0 then some (.int (i.fmod j), st) else none
  | _, _, _ => none
def powT : F2
  | .int i, .int j, st => if 0 ≤ j ∧ j ≤ 1000000 ∧ i.natAbs < 2 ^ 64 then some (.int (i ^ j.toNat), st) else none
  | _, _, _ => none
def cmpT (p : Int → Int → Bool) : F2
  | .int i, .int j, st => some (.bl (p i j), st)
  | _, _, _ => none
def negT : F1
  | .int i, st => some (.int (-i), st)
  | _, _ => none
section
variable {X : Cx}
theorem inv_int {K : KX} {H : Hp} {ρ : List Addr} {i : Int} {v : V} (r : Rep K H ρ (.int i) v) : v = .int i := by cases r; rfl
theorem ot_int {fop : Value → Value → Sem Value} {f : F2} {C : Int → Int → Prop} {g : Int → Int → V} {gt : Int → Int → T} (hr : OpR X fop (rI C g)) (hg : ∀ i j K H ρ, Rep K H ρ (gt i j) (g i j))
    {ρ st H i j vx vy Q} (w : Wd (kx X) ρ st H) (rx : Rep (kx X) H ρ (.int i) vx) (ry : Rep (kx X) H ρ (.int j) vy) (hc : C i j) (q : QE (kx X) H ρ (gt i j) st Q) : OpU X fop vx vy H Q := by
  cases rx; cases ry
  exact ⟨_, hr, i, j, rfl, rfl, hc, q _ _ _ (Fut.refl _ _) w (hg i j _ _ _)⟩
theorem ot_int0 {fop : Value → Value → Sem Value} {g : Int → Int → V} {gt : Int → Int → T} (hr : OpR X fop (rI0 g)) (hg : ∀ i j K H ρ, Rep K H ρ (gt i j) (g i j))
    {ρ st H i j vx vy Q} (w : Wd (kx X) ρ st H) (rx : Rep (kx X) H ρ (.int i) vx) (ry : Rep (kx X) H ρ (.int j) vy) (q : QE (kx X) H ρ (gt i j) st Q) : OpU X fop vx vy H Q := by
  cases rx; cases ry
  exact ⟨_, hr, i, j, rfl, rfl, q _ _ _ (Fut.refl _ _) w (hg i j _ _ _)⟩
theorem rep_lst {ρ : List Addr} {st : Store} {H : Hp} {l : Nat} {v : V} {ts : List T} (w : Wd (kx X) ρ st H) (r : Rep (kx X) H ρ (.ref l) v) (e : st[l]? = some (.lst ts)) : ∃ a vs, v = .ref a ∧ ρ[l]? = some a ∧ H a = some (.lst vs) ∧ Reps (kx X) H ρ ts vs := by
  cases r with
  | ref h =>
    obtain ⟨vs, h1, h2⟩ := w.addr e h
    exact ⟨_, vs, rfl, h, h1, h2⟩
theorem ot_add : OpT X (binaryOp .Add) addT := by
  intro ρ st H x y t st' vx vy w rx ry e Q q
  unfold addT at e
  split at e
  · cases e
    exact ot_int0 op_add (gt := fun i j => .int (i + j)) (fun i j _ _ _ => .int _) w rx ry q
  · split at e
    · rename_i hz
      cases e; cases rx; cases ry
      exact ⟨_, op_add_str, _, _, rfl, rfl, hz, q _ _ _ (Fut.refl _ _) w (.str _)⟩
    · cases e
  · split at e
    · rename_i _ xs ys hz
      cases e
      cases rx with
      | tup hx rx =>
        cases ry with
        | tup hy ry =>
          refine ⟨_, op_catA, _, _, _, _, rfl, rfl, hx, hy, by rw [← rx.length, ← ry.length]; exact hz, fun z => ?_, fun z z2 => ?_, fun z z2 p hp => ?_⟩
          · subst z
            have : xs = [] := by have := rx.length; simpa using this
            subst this
            exact q _ _ _ (Fut.refl _ _) w (.tup hy ry)
          · subst z2
            have : ys = [] := by have := ry.length; simpa using this
            subst this
            refine q _ _ _ (Fut.refl _ _) w ?_
            rw [List.append_nil]
            exact .tup hx rx
          · exact new_tup w (rx.app ry) q hp
    · cases e
  · split at e
    · rename_i l m st xs ys hl hm
      split at e
      · rename_i hz
        cases e
        obtain ⟨a, vs, rfl, _, h1, r1⟩ := rep_lst w rx hl
        obtain ⟨b, us, rfl, _, h2, r2⟩ := rep_lst w ry hm
        refine ⟨_, op_cat, _, _, _, _, rfl, rfl, h1, h2, by rw [← r1.length, ← r2.length]; exact hz, fun p hp => ?_⟩
        exact new_lst w (r1.app r2) q hp
      · cases e
    · cases e
  · cases e
theorem ot_sub : OpT X (binaryOp .Sub) subT := by
  intro ρ st H x y t st' vx vy w rx ry e Q q
  unfold subT at e
  split at e
  · cases e
    exact ot_int0 op_sub (gt := fun i j => .int (i - j)) (fun i j _ _ _ => .int _) w rx ry q
  · cases e
theorem ot_mul : OpT X (binaryOp .Mult) mulT := by
  intro ρ st H x y t st' vx vy w rx ry e Q q
  unfold mulT at e
  split at e
  · split at e
    · rename_i hz
      cases e
      exact ot_int (f := mulT) op_mulW (gt := fun i j => .int (i * j)) (fun i j _ _ _ => .int _) w rx ry (bitsOk.ok hz) q
    · cases e
  · split at e
    · rename_i l k st xs hl
      split at e
      · rename_i hz
        cases e; cases ry
        obtain ⟨a, vs, rfl, _, h1, r1⟩ := rep_lst w rx hl
        refine ⟨_, op_rep, _, _, _, rfl, rfl, h1, hz.1, hz.2.1, by rw [← r1.length]; exact hz.2.2, fun p hp => ?_⟩
        refine new_lst w ?_ q hp
        have all : ∀ n : Nat, Reps (kx X) H ρ (List.replicate n xs).flatten (List.replicate n vs).flatten := fun n => by
          induction n with
          | zero => exact .nil
          | succ n ih => rw [List.replicate_succ, List.replicate_succ, List.flatten_cons, List.flatten_cons]; exact r1.app ih
        exact all _
      · cases e
    · cases e
  · cases e
theorem op_fdivX : OpR X (binaryOp .FloorDiv) (rI (fun _ j => j ≠ 0 ∧ j.natAbs.log2 < 9000) fun i j => .int (i.fdiv j)) := opI fun i j _ _ _ _ _ hc q => floordiv_int hc.1 q (.inl (PyProof.noPylong_of_log2 hc.2))
theorem ot_fdiv : OpT X (binaryOp .FloorDiv) fdivT := by
  intro ρ st H x y t st' vx vy w rx ry e Q q
  unfold fdivT at e
  split at e
  · split at e
    · rename_i hz
      cases e
      exact ot_int (f := fdivT) op_fdivX (gt := fun i j => .int (i.fdiv j)) (fun i j _ _ _ => .int _) w rx ry hz q
    · cases e
  · cases e
theorem ot_mod : OpT X (binaryOp .Mod) modT := by
  intro ρ st H x y t st' vx vy w rx ry e Q q
  unfold modT at e
  split at e
  · split at e
    · rename_i hz
      cases e
      exact ot_int (f := modT) op_modN (gt := fun i j => .int (i.fmod j)) (fun i j _ _ _ => .int _) w rx ry hz q
    · cases e
  · cases e
theorem ot_pow : OpT X (binaryOp .Pow) powT := by
  intro ρ st H x y t st' vx vy w rx ry e Q q
  unfold powT at e
  split at e
  · split at e
    · rename_i hz
      cases e
      exact ot_int (f := powT) op_pow (gt := fun i j => .int (i ^ j.toNat)) (fun i j _ _ _ => .int _) w rx ry hz q
    · cases e
  · cases e
theorem ot_cmp {op : CmpOp} {p : Int → Int → Bool} (h : OpR X (compareOp op) (rI0 fun i j => .bl (p i j))) : OpT X (compareOp op) (cmpT p) := by
  intro ρ st H x y t st' vx vy w rx ry e Q q
  unfold cmpT at e
  split at e
  · cases e
    exact ot_int0 h (gt := fun i j => .bl (p i j)) (fun i j _ _ _ => .bl _) w rx ry q
  · cases e
abbrev ltT := cmpT fun i j => decide (i < j)
abbrev leT := cmpT fun i j => decide (i ≤ j)
abbrev gtT := cmpT fun i j => decide (j < i)
abbrev geT := cmpT fun i j => decide (j ≤ i)
theorem ot_lt : OpT X (compareOp .Lt) ltT := ot_cmp op_lt
theorem ot_le : OpT X (compareOp .LtE) leT := ot_cmp op_le
theorem ot_gt : OpT X (compareOp .Gt) gtT := ot_cmp op_gt
theorem ot_ge : OpT X (compareOp .GtE) geT := ot_cmp op_ge
theorem ut_neg : UnT X (unaryOp .USub) negT := by
  intro ρ st H x t st' vx w rx e Q q
  unfold negT at e
  split at e
  · cases e; cases rx
    exact ⟨_, un_neg, _, rfl, q _ _ _ (Fut.refl _ _) w (.int _)⟩
  · cases e
end
end TL
/-! TL3 -/
set_option Elab.async false
set_option linter.all false
set_option maxRecDepth 100000
set_option maxHeartbeats 4000000
namespace TL
variable [Tb]
open PySem PySem.Spec PyProof.Rows L2
/-! ### tests -/
def truT : T → Store → Option Bool
  | .non, _ => some false
  | .bl b, _ => some b
  | .int i, _ => some (i != 0)
  | .str x, _ => if x.length ≤ sizeLine then some ((x.length : Int) != 0) else none
  | .tup ts, _ => some (!ts.isEmpty)
  | .ref l, st => match st[l]? with
    | some (.lst ts) => some (!ts.isEmpty)
    | some (.dK kvs) => some (!kvs.isEmpty)
    | _ => none
  | .rdl ns, _ => some (!ns.isEmpty)
def xTru (f : XE) : XT := fun e st => (f e st).bind fun p => (truT p.1 p.2).map fun b => (b, p.2)
def xBl (f : XE) : XT := fun e st => (f e st).bind fun p => match p.1 with
  | .bl b => some (b, p.2)
  | _ => none
def xNotT (f : XT) : XT := fun e st => (f e st).map fun p => (!p.1, p.2)
def xAndT (f g : XT) : XT := fun e st => (f e st).bind fun p => if p.1 then g e p.2 else some (false, p.2)
def xOrT (f g : XT) : XT := fun e st => (f e st).bind fun p => if p.1 then some (true, p.2) else g e p.2
def xIf (c : XT) (a b : XE) : XE := fun e st => (c e st).bind fun p => if p.1 then a e p.2 else b e p.2
def xAnd (a b : XE) : XE := fun e st => (xBl a e st).bind fun p => if p.1 then b e p.2 else some (.bl false, p.2)
def xOr (a b : XE) : XE := fun e st => (xBl a e st).bind fun p => if p.1 then some (.bl true, p.2) else b e p.2
def xNot (a : XE) : XE := fun e st => (xBl a e st).map fun p => (.bl (!p.1), p.2)
section
variable {X : Cx} {a b c : Expr} {es : List Expr} {fa fb fc : XE} {ta tb : XT} {pos : Pos}
theorem rep_empty {K : KX} {H : Hp} {ρ : List Addr} {ts : List T} {vs : List V} (r : Reps K H ρ ts vs) : ts.isEmpty = vs.isEmpty := by
  cases r <;> rfl
theorem emp_kv {κ : Type} {kvs : List (κ × T)} {kws : List (κ × V)} (h : kvs.map (·.1) = kws.map (·.1)) : kvs.isEmpty = kws.isEmpty := by
  cases kvs with
  | nil =>
    cases kws with
    | nil => rfl
    | cons a l => cases h
  | cons a l =>
    cases kws with
    | nil => cases h
    | cons b m => rfl
theorem emp_ints (ns : List Int) : ns.isEmpty = (ns.map V.int).isEmpty := by
  cases ns with
  | nil => rfl
  | cons a l => rfl
theorem tru_rep {ρ : List Addr} {st : Store} {H : Hp} {t : T} {v : V} {k : Bool} (w : Wd (kx X) ρ st H) (r : Rep (kx X) H ρ t v) (e : truT t st = some k) : TruV X.K v H k := by
  unfold truT at e
  split at e
  · cases e; cases r; rfl
  · cases e; cases r; rfl
  · cases e; cases r; rfl
  · split at e
    · rename_i hz
      cases e; cases r
      exact ⟨hz, rfl⟩
    · cases e
  · cases e
    cases r with
    | tup hx rx => exact .inr (.inl ⟨_, hx, by rw [rep_empty rx]⟩)
  · split at e
    · rename_i hl
      cases e
      obtain ⟨a, vs, rfl, _, h1, r1⟩ := rep_lst w r hl
      exact .inl ⟨_, SqL.of h1, by rw [rep_empty r1]⟩
    · rename_i hl
      cases e
      cases r with
      | ref h =>
        obtain ⟨kws, h1, h2, h3⟩ := w.addr hl h
        exact .inr (.inr ⟨_, h1, by rw [emp_kv h2]⟩)
    · cases e
  · cases e
    cases r with
    | rdl h =>
      exact .inl ⟨_, h.sq, by rw [emp_ints]⟩
theorem bl_of {f : XE} {e : Env1} {st : Store} {b : Bool} {st' : Store} (h : xBl f e st = some (b, st')) : f e st = some (.bl b, st') := by
  unfold xBl at h
  cases h1 : f e st with
  | none => rw [h1] at h; cases h
  | some p =>
    obtain ⟨t, s2⟩ := p
    rw [h1] at h
    cases t <;> simp at h
    obtain ⟨rfl, rfl⟩ := h
    rfl
theorem tt_val (ha : ET X a fa) (he : ∀ whole, isTrue a X.env whole = (do let v ← whole; standAt a.pos; holding [v] (truthy v)) := by intro _; rfl) : TT1 X a (xTru fa) := by
  intro env st ρ σ H k st' s w e Q q
  unfold xTru at e
  cases h1 : fa env st with
  | none => rw [h1] at e; cases e
  | some p =>
    obtain ⟨t, s2⟩ := p
    rw [h1] at e
    cases h2 : truT t s2 with
    | none => simp [h2] at e
    | some k2 =>
      simp [h2] at e
      obtain ⟨rfl, rfl⟩ := e
      refine Wt.of (pt_truth We.pe he) ?_
      refine ha env st ρ σ H t s2 s w h1 _ fun v H1 ρ1 f1 w1 r1 => ?_
      exact ⟨k2, tru_rep w1 r1 h2, q H1 ρ1 f1 w1⟩
theorem tt_cmp {op : CmpOp} {f : F2} (h : OpT X (compareOp op) f) (ha : ET X a fa) (hb : ET X b fb) (hm : behindInMarks op b = false) : TT1 X (.Compare a [op] [b] pos) (xBl (xBin f fa fb)) := by
  intro env st ρ σ H k st' s w e Q q
  refine Wt.of (pt_cmpR OpU.ok We.pe We.pe hm) ?_
  refine run2 ha hb (k := fun vx vy H Q => OpU X (compareOp op) vx vy H Q) h s w (bl_of e) fun v H1 ρ1 f1 w1 r1 => ?_
  cases r1
  exact ⟨k, rfl, q H1 ρ1 f1 w1⟩
theorem tt_not (ha : TT1 X a ta) : TT1 X (.UnaryOp .Not a pos) (xNotT ta) := by
  intro env st ρ σ H k st' s w e Q q
  unfold xNotT at e
  cases h1 : ta env st with
  | none => rw [h1] at e; cases e
  | some p =>
    obtain ⟨t, s2⟩ := p
    rw [h1] at e
    have e' : some (!t, s2) = some (k, st') := e
    cases e'
    exact Wt.of (pt_not Wt.pt) (ha env st ρ σ H _ _ s w h1 _ fun H1 ρ1 f1 w1 => q H1 ρ1 f1 w1)
theorem tw_and1 (ha : TT1 X a ta) : TW X (.BoolOp .And [a] pos) ta := by
  intro env st ρ σ H k st' s w e Q q
  exact Ww.of (pw_and1 Wt.pt) (ha env st ρ σ H k st' s w e Q q)
theorem tw_or1 (ha : TT1 X a ta) : TW X (.BoolOp .Or [a] pos) ta := by
  intro env st ρ σ H k st' s w e Q q
  exact Ww.of (pw_or1 Wt.pt) (ha env st ρ σ H k st' s w e Q q)
theorem tw_and (ha : TT1 X a ta) (hb : TW X (.BoolOp .And (b :: es) pos) tb) : TW X (.BoolOp .And (a :: b :: es) pos) (xAndT ta tb) := by
  intro env st ρ σ H k st' s w e Q q
  unfold xAndT at e
  cases h1 : ta env st with
  | none => rw [h1] at e; cases e
  | some p =>
    obtain ⟨t, s2⟩ := p
    rw [h1] at e
    refine Ww.of (pw_and Wt.pt Ww.pw) ?_
    refine ha env st ρ σ H t s2 s w h1 _ fun H1 ρ1 f1 w1 => ?_
    cases t with
    | true =>
      rw [if_pos rfl]
      exact hb env s2 ρ1 σ H1 k st' (s.up f1) w1 e Q (q.up f1)
    | false =>
      rw [if_neg Bool.false_ne_true]
      have e' : some (_, s2) = some (k, st') := e
      cases e'
      exact q H1 ρ1 f1 w1
theorem tw_or (ha : TT1 X a ta) (hb : TW X (.BoolOp .Or (b :: es) pos) tb) : TW X (.BoolOp .Or (a :: b :: es) pos) (xOrT ta tb) := by
  intro env st ρ σ H k st' s w e Q q
  unfold xOrT at e
  cases h1 : ta env st with
  | none => rw [h1] at e; cases e
  | some p =>
    obtain ⟨t, s2⟩ := p
    rw [h1] at e
    refine Ww.of (pw_or Wt.pt Ww.pw) ?_
    refine ha env st ρ σ H t s2 s w h1 _ fun H1 ρ1 f1 w1 => ?_
    cases t with
    | true =>
      rw [if_pos rfl]
      have e' : some (_, s2) = some (k, st') := e
      cases e'
      exact q H1 ρ1 f1 w1
    | false =>
      rw [if_neg Bool.false_ne_true]
      exact hb env s2 ρ1 σ H1 k st' (s.up f1) w1 e Q (q.up f1)
theorem tt_w (h : TW X a ta) : TT1 X a ta := fun env st ρ σ H k st' s w e Q q => Wt.of Ww.pw.pt (h env st ρ σ H k st' s w e Q q)
/-! ### and, or, not, if as values -/
theorem et_if {tc : XT} (hc : TT1 X c tc) (ha : ET X a fa) (hb : ET X b fb) : ET X (.IfExp c a b pos) (xIf tc fa fb) := by
  intro env st ρ σ H k st' s w e Q q
  unfold xIf at e
  cases h1 : tc env st with
  | none => rw [h1] at e; cases e
  | some p =>
    obtain ⟨t, s2⟩ := p
    rw [h1] at e
    refine We.of (pe_ifExp Wt.pt We.pe We.pe) ?_
    refine hc env st ρ σ H t s2 s w h1 _ fun H1 ρ1 f1 w1 => ?_
    cases t with
    | true =>
      rw [if_pos rfl]
      exact ha env s2 ρ1 σ H1 k st' (s.up f1) w1 e Q (q.up f1)
    | false =>
      rw [if_neg Bool.false_ne_true]
      exact hb env s2 ρ1 σ H1 k st' (s.up f1) w1 e Q (q.up f1)
theorem et_one {op} (ha : ET X a fa) : ET X (.BoolOp op [a] pos) fa := fun env st ρ σ H k st' s w e Q q => We.of (pe_one We.pe) (ha env st ρ σ H k st' s w e Q q)
theorem et_and (ha : ET X a fa) (hb : ET X (.BoolOp .And (b :: es) pos) fb) : ET X (.BoolOp .And (a :: b :: es) pos) (xAnd fa fb) := by
  intro env st ρ σ H k st' s w e Q q
  unfold xAnd at e
  cases h1 : xBl fa env st with
  | none => rw [h1] at e; cases e
  | some p =>
    obtain ⟨t, s2⟩ := p
    rw [h1] at e
    refine We.of (pe_and We.pe We.pe) ?_
    refine ha env st ρ σ H _ s2 s w (bl_of h1) _ fun v H1 ρ1 f1 w1 r1 => ?_
    cases r1
    refine ⟨t, rfl, ?_⟩
    cases t with
    | true =>
      rw [if_pos rfl]
      exact hb env s2 ρ1 σ H1 k st' (s.up f1) w1 e Q (q.up f1)
    | false =>
      rw [if_neg Bool.false_ne_true]
      have e' : some (_, s2) = some (k, st') := e
      cases e'
      exact q _ H1 ρ1 f1 w1 (.bl _)
theorem et_or (ha : ET X a fa) (hb : ET X (.BoolOp .Or (b :: es) pos) fb) : ET X (.BoolOp .Or (a :: b :: es) pos) (xOr fa fb) := by
  intro env st ρ σ H k st' s w e Q q
  unfold xOr at e
  cases h1 : xBl fa env st with
  | none => rw [h1] at e; cases e
  | some p =>
    obtain ⟨t, s2⟩ := p
    rw [h1] at e
    refine We.of (pe_or We.pe We.pe) ?_
    refine ha env st ρ σ H _ s2 s w (bl_of h1) _ fun v H1 ρ1 f1 w1 r1 => ?_
    cases r1
    refine ⟨t, rfl, ?_⟩
    cases t with
    | true =>
      rw [if_pos rfl]
      have e' : some (_, s2) = some (k, st') := e
      cases e'
      exact q _ H1 ρ1 f1 w1 (.bl _)
    | false =>
      rw [if_neg Bool.false_ne_true]
      exact hb env s2 ρ1 σ H1 k st' (s.up f1) w1 e Q (q.up f1)
theorem et_not (ha : ET X a fa) : ET X (.UnaryOp .Not a pos) (xNot fa) := by
  intro env st ρ σ H k st' s w e Q q
  unfold xNot at e
  cases h1 : xBl fa env st with
  | none => rw [h1] at e; cases e
  | some p =>
    obtain ⟨t, s2⟩ := p
    rw [h1] at e
    have e' : some (T.bl (!t), s2) = some (k, st') := e
    cases e'
    refine We.of (pe_not We.pe) ?_
    refine ha env st ρ σ H _ _ s w (bl_of h1) _ fun v H1 ρ1 f1 w1 r1 => ?_
    cases r1
    exact ⟨t, rfl, q _ H1 ρ1 f1 w1 (.bl _)⟩
end
/-! ### items, slices -/
def ixT : F2
  | .tup ts, .int i, st => (atI ts i).map fun t => (t, st)
  | .ref l, .int i, st => match st[l]? with
    | some (.lst ts) => (atI ts i).map fun t => (t, st)
    | _ => none
  | .str z, .int i, st => if z.length ≤ sizeLine then (atI z.cps.toList i).map fun c => (.str ⟨#[c]⟩, st) else none
  | _, _, _ => none
def cutG {α : Type} (xs : List α) (lo hi : Option Int) : List α := (xs.drop (HT.sIx xs.length 0 lo)).take (HT.sIx xs.length xs.length hi - HT.sIx xs.length 0 lo)
def xPart (f : Option XE) : Env1 → Store → Option (Option Int × Store) := fun e st => match f with
  | none => some (none, st)
  | some f => (f e st).bind fun p => match p.1 with
    | .int i => some (some i, p.2)
    | _ => none
def slT (x : T) (lo hi : Option Int) (st : Store) : Option (T × Store) := match x with
  | .tup ts => some (.tup (cutG ts lo hi), st)
  | .ref l => match st[l]? with
    | some (.lst ts) => some (.ref st.length, st ++ [.lst (cutG ts lo hi)])
    | _ => none
  | .rdl ns => some (.ref st.length, st ++ [.lst ((cutG ns lo hi).map T.int)])
  | .str z => if z.length ≤ sizeLine then some (.str (cutS z lo hi), st) else none
  | _ => none
def xSl (f : XE) (lo hi : Option XE) : XE := fun e st => (f e st).bind fun p => (xPart lo e p.2).bind fun q => (xPart hi e q.2).bind fun r => slT p.1 q.1 r.1 r.2
def revT : F1
  | .ref l, st => match st[l]? with
    | some (.lst ts) => some (.ref st.length, st ++ [.lst ts.reverse])
    | _ => none
  | _, _ => none
section
variable {X : Cx} {a b c : Expr} {fa fb fc : XE} {pos p2 : Pos}
theorem atI_rep {K : KX} {H : Hp} {ρ : List Addr} {ts : List T} {vs : List V} {i : Int} {t : T} (r : Reps K H ρ ts vs) (e : atI ts i = some t) : ∃ v, atI vs i = some v ∧ Rep K H ρ t v := by
  unfold atI at e ⊢
  rw [r.length] at e
  cases h : ixN vs.length i with
  | none => rw [h] at e; cases e
  | some j =>
    rw [h] at e
    exact r.get e
theorem xt_ix : IxT X ixT := by
  intro ρ st H x y t st' vx vy w rx ry e Q q
  unfold ixT at e
  split at e
  · rename_i _ ts i
    cases h : atI ts i with
    | none => rw [h] at e; cases e
    | some u =>
      rw [h] at e
      cases e; cases ry
      cases rx with
      | tup hx rx =>
        obtain ⟨v, h1, h2⟩ := atI_rep rx h
        exact ⟨_, ix_tup, _, _, _, v, rfl, rfl, hx, h1, q _ _ _ (Fut.refl _ _) w h2⟩
  · split at e
    · rename_i _ l i _ ts hl
      cases h : atI ts i with
      | none => rw [h] at e; cases e
      | some u =>
        rw [h] at e
        cases e; cases ry
        obtain ⟨a, vs, rfl, _, h0, r1⟩ := rep_lst w rx hl
        obtain ⟨v, h1, h2⟩ := atI_rep r1 h
        exact ⟨_, ix_list, _, _, _, v, rfl, rfl, SqL.of h0, h1, q _ _ _ (Fut.refl _ _) w h2⟩
    · cases e
  · split at e
    · rename_i _ z i hz
      cases h : atI z.cps.toList i with
      | none => rw [h] at e; cases e
      | some u =>
        rw [h] at e
        cases e; cases rx; cases ry
        exact ⟨_, ix_str, _, _, u, rfl, rfl, hz, h, q _ _ _ (Fut.refl _ _) w (.str _)⟩
    · cases e
  · cases e
/-- a part of a slice -/
def Wo (X : Cx) (e : Option Expr) : TO := match e with
  | none => tNoPart
  | some e => tPart (We X e)
theorem Wo.po {e : Option Expr} : PO X e (Wo X e) := by
  cases e with
  | none => exact po_none
  | some e => exact po_some We.pe
def OT (X : Cx) (e : Option Expr) (f : Option XE) : Prop := ∀ env st ρ σ H o st', Slots (kx X) H ρ env σ → Wd (kx X) ρ st H → xPart f env st = some (o, st') → ∀ Q : Option Int → Hp → Prop, (∀ H' ρ', Fut H H' ρ ρ' → Wd (kx X) ρ' st' H' → Q o H') → Wo X e σ H Q
theorem ot_none : OT X none none := by
  intro env st ρ σ H o st' s w e Q q
  cases e
  exact q H ρ (Fut.refl _ _) w
theorem ot_some (ha : ET X a fa) : OT X (some a) (some fa) := by
  intro env st ρ σ H o st' s w e Q q
  unfold xPart at e
  cases h1 : fa env st with
  | none => simp [h1] at e
  | some p =>
    obtain ⟨t, s2⟩ := p
    simp only [h1, Option.bind_some] at e
    split at e
    · rename_i i
      cases e
      refine ha env st ρ σ H _ _ s w h1 _ fun v H1 ρ1 f1 w1 r1 => ?_
      cases r1
      exact ⟨_, rfl, q H1 ρ1 f1 w1⟩
    · cases e
theorem cut_rep {K : KX} {H : Hp} {ρ : List Addr} {ts : List T} {vs : List V} (r : Reps K H ρ ts vs) (lo hi : Option Int) : Reps K H ρ (cutG ts lo hi) (cutV vs lo hi) := by
  unfold cutG cutV
  rw [r.length]
  exact (r.drop _).take _
theorem reps_ints {K : KX} {H : Hp} {ρ : List Addr} : ∀ ns : List Int, Reps K H ρ (ns.map T.int) (ns.map V.int)
  | [] => .nil
  | n :: ns => .cons (.int n) (reps_ints ns)
theorem cutV_ints (ns : List Int) (lo hi : Option Int) : cutV (ns.map V.int) lo hi = (cutG ns lo hi).map V.int := by
  unfold cutV cutG
  simp
theorem et_sl {lo hi : Option Expr} {fl fh : Option XE} (ha : ET X a fa) (hl : OT X lo fl) (hh : OT X hi fh) : ET X (.Subscript a (.Slice lo hi none p2) pos) (xSl fa fl fh) := by
  intro env st ρ σ H t st' s w e Q q
  unfold xSl at e
  cases h1 : fa env st with
  | none => simp [h1] at e
  | some p =>
    obtain ⟨x, st1⟩ := p
    simp only [h1, Option.bind_some] at e
    cases h2 : xPart fl env st1 with
    | none => simp [h2] at e
    | some p =>
      obtain ⟨l, st2⟩ := p
      simp only [h2, Option.bind_some] at e
      cases h3 : xPart fh env st2 with
      | none => simp [h3] at e
      | some p =>
        obtain ⟨u, st3⟩ := p
        simp only [h3, Option.bind_some] at e
        refine We.of (pe_slice SlU.ok We.pe Wo.po Wo.po) ?_
        refine ha env st ρ σ H x st1 s w h1 _ fun vx H1 ρ1 f1 w1 r1 => ?_
        refine hl env st1 ρ1 σ H1 l st2 (s.up f1) w1 h2 _ fun H2 ρ2 f2 w2 => ?_
        refine hh env st2 ρ2 σ H2 u st3 (s.up (f1.trans f2)) w2 h3 _ fun H3 ρ3 f3 w3 => ?_
        have r3 := r1.up (f2.trans f3)
        have q3 := q.up ((f1.trans f2).trans f3)
        show SlU X vx l u H3 Q
        unfold slT at e
        split at e
        · cases e
          cases r3 with
          | tup hx rx =>
            refine ⟨_, sl_tupA, _, _, rfl, hx, fun z => ?_, fun z p hp => new_tup w3 (cut_rep rx l u) q3 hp⟩
            refine q3 _ _ _ (Fut.refl _ _) w3 (.tup hx ?_)
            have e2 := cut_rep rx l u
            have e3 : ∀ {α : Type} (xs : List α), HT.sIx xs.length 0 l = 0 ∧ HT.sIx xs.length xs.length u = xs.length → cutG xs l u = xs := fun xs h => by
              unfold cutG
              rw [h.1, h.2]
              simp
            rw [e3 _ (by rw [rx.length]; exact z)]
            exact rx
        · split at e
          · rename_i hl
            cases e
            obtain ⟨a, vs, rfl, _, h0, r4⟩ := rep_lst w3 r3 hl
            exact ⟨_, sl_list, _, _, rfl, SqL.of h0, fun p hp => new_lst w3 (cut_rep r4 l u) q3 hp⟩
          · cases e
        · cases e
          cases r3 with
          | rdl h =>
            refine ⟨_, sl_list, _, _, rfl, h.sq, fun p hp => ?_⟩
            rw [cutV_ints]
            exact new_lst w3 (reps_ints _) q3 hp
        · split at e
          · rename_i hz
            cases e; cases r3
            exact ⟨_, sl_str, _, rfl, hz, q3 _ _ _ (Fut.refl _ _) w3 (.str _)⟩
          · cases e
        · cases e
end
end TL
/-! TL4 -/
set_option Elab.async false
set_option linter.all false
set_option maxRecDepth 100000
set_option maxHeartbeats 4000000
namespace TL
variable [Tb]
open PySem PySem.Spec PyProof.Rows L2
/-! ### targets -/
abbrev XG := T → Env1 → Store → Option (Env1 × Store)
abbrev XGs := List T → Env1 → Store → Option (Env1 × Store)
/-- the slots but those at vs are as they were -/
def Away (vs : List Nat) (σ σ' : St) : Prop := σ'.length = σ.length ∧ ∀ i, i ∉ vs → σ'[i]? = σ[i]?
theorem Away.refl (vs : List Nat) (σ : St) : Away vs σ σ := ⟨rfl, fun _ _ => rfl⟩
def Wg (X : Cx) (tg : Expr) : TG := fun v σ H Q => ∀ pins s u, Inv X pins σ H s → RelV v u → wpAny (model X.prog X.w) X.A (assign tg X.env u) (fun _ s' => ∃ σ' H', Inv X pins σ' H' s' ∧ Q σ' H') X.xe s
def Wgs (X : Cx) (ts : List Expr) : TGs := fun vs σ H Q => ∀ pins s us, Inv X pins σ H s → Vals vs us →
    wpAny (model X.prog X.w) X.A (assignInOrder ((assignEach ts X.env).map (·.2)) us) (fun _ s' => ∃ σ' H', Inv X pins σ' H' s' ∧ Q σ' H') X.xe s
theorem Wg.pg {X : Cx} {tg : Expr} : PG X tg (Wg X tg) := ⟨fun pins s σ H v u Q I r h => h pins s u I r⟩
theorem Wgs.pgs {X : Cx} {tg : List Expr} : PGs X tg (Wgs X tg) := ⟨fun pins s σ H v u Q I r h => h pins s u I r⟩
theorem Wg.of {X : Cx} {tg : Expr} {t : TG} (h : PG X tg t) {v : V} {σ : St} {H : Hp} {Q : St → Hp → Prop} (q : t v σ H Q) : Wg X tg v σ H Q := fun pins s u I r => h.run pins s σ H v u Q I r q
theorem Wgs.of {X : Cx} {tg : List Expr} {t : TGs} (h : PGs X tg t) {v : List V} {σ : St} {H : Hp} {Q : St → Hp → Prop} (q : t v σ H Q) : Wgs X tg v σ H Q := fun pins s u I r => h.run pins s σ H v u Q I r q
def GT (X : Cx) (tg : Expr) (vs : List Nat) (g : XG) : Prop := ∀ env st ρ σ H t v e' st', Slots (kx X) H ρ env σ → Wd (kx X) ρ st H → Rep (kx X) H ρ t v → g t env st = some (e', st') →
  ∀ Q : St → Hp → Prop, (∀ σ' H' ρ', Fut H H' ρ ρ' → Wd (kx X) ρ' st' H' → Slots (kx X) H' ρ' e' σ' → Away vs σ σ' → Q σ' H') → Wg X tg v σ H Q
def GTs (X : Cx) (tg : List Expr) (vs : List Nat) (g : XGs) : Prop := ∀ env st ρ σ H ts us e' st', Slots (kx X) H ρ env σ → Wd (kx X) ρ st H → Reps (kx X) H ρ ts us → g ts env st = some (e', st') →
  ∀ Q : St → Hp → Prop, (∀ σ' H' ρ', Fut H H' ρ ρ' → Wd (kx X) ρ' st' H' → Slots (kx X) H' ρ' e' σ' → Away vs σ σ' → Q σ' H') → Wgs X tg us σ H Q
def xgName (i : Nat) : XG := fun t e st => some (e.set i (some t), st)
def xgsNil : XGs := fun ts e st => match ts with
  | [] => some (e, st)
  | _ => none
def xgsCons (g : XG) (r : XGs) : XGs := fun ts e st => match ts with
  | t :: ts => (g t e st).bind fun p => r ts p.1 p.2
  | [] => none
def xgTup (n : Nat) (r : XGs) : XG := fun t e st => match t with
  | .tup ts => if ts.length = n then r ts e st else none
  | _ => none
section
variable {X : Cx} {pos : Pos} {es : List Expr} {e : Expr} {g : XG} {r : XGs} {vs us : List Nat}
theorem gt_name {i : Nat} {x : Str} (hN : X.N.Nodup) (hi : X.N[i]? = some x := by rfl) (hx : Loc X.env.scope x := by first | exact .inl rfl | exact .inr rfl) (hf : X.fn x = true ∨ X.env.scope.names.lookup x = some .local := by first | exact .inl rfl | exact .inr rfl | assumption) :
    GT X (.Name x pos) [i] (xgName i) := by
  intro env st ρ σ H t v e' st' s w rt e Q q
  cases e
  refine Wg.of (pg_name hN hi hx hf) (show Q (σ.set i (some v)) H from q _ H ρ (Fut.refl _ _) w (s.set i rt) ⟨by simp, fun j hj => ?_⟩)
  rw [List.getElem?_set_ne (fun z => hj (by simp [z]))]
theorem gs_nil : GTs X [] [] xgsNil := by
  intro env st ρ σ H ts us e' st' s w rt e Q q
  unfold xgsNil at e
  split at e
  · cases e; cases rt
    exact Wgs.of pgs_nil ⟨rfl, q _ H ρ (Fut.refl _ _) w s (Away.refl _ _)⟩
  · cases e
theorem gs_cons (h1 : GT X e vs g) (h2 : GTs X es us r) (hs : (assignEach (e :: es) X.env).map (·.2) = assign e X.env :: (assignEach es X.env).map (·.2) := by rfl) : GTs X (e :: es) (vs ++ us) (xgsCons g r) := by
  intro env st ρ σ H ts us' e' st' s w rt e1 Q q
  unfold xgsCons at e1
  split at e1
  · rename_i t ts
    cases h : g t env st with
    | none => simp [h] at e1
    | some p =>
      obtain ⟨e2, st2⟩ := p
      simp only [h, Option.bind_some] at e1
      cases rt with
      | cons a b =>
        refine Wgs.of (pgs_cons Wg.pg Wgs.pgs hs) ⟨_, _, rfl, ?_⟩
        refine h1 env st ρ σ H t _ e2 st2 s w a h _ fun σ1 H1 ρ1 f1 w1 s1 a1 => ?_
        refine h2 e2 st2 ρ1 σ1 H1 ts _ e' st' s1 w1 (b.up f1) e1 Q fun σ2 H2 ρ2 f2 w2 s2 a2 => ?_
        refine q σ2 H2 ρ2 (f1.trans f2) w2 s2 ⟨a2.1.trans a1.1, fun i hi => ?_⟩
        rw [a2.2 i (fun z => hi (List.mem_append_right _ z)), a1.2 i (fun z => hi (List.mem_append_left _ z))]
  · cases e1
theorem gt_tup {n k : Nat} (hc : X.calm = true) (h : GTs X es vs r) (hn : (assignEach es X.env).length = n := by rfl) (hst : (assignEach es X.env).findIdx? (·.1) = none := by rfl) : GT X (.Tuple es k pos) vs (xgTup n r) := by
  intro env st ρ σ H t v e' st' s w rt e Q q
  unfold xgTup at e
  split at e
  · split at e
    · rename_i hl
      cases rt with
      | tup a b => exact Wg.of (pg_tup hc Wgs.pgs hn hst) ⟨_, _, rfl, a, by rw [← b.length]; exact hl, h env st ρ σ H _ _ e' st' s w b e Q q⟩
    · cases e
  · cases e
end
/-! ### statements -/
def xsNil : XS := fun e st => some (.nx e st)
def xsSeq (a b : XS) : XS := fun e st => (a e st).bind fun o => match o with
  | .nx e' st' => b e' st'
  | o => some o
def xsAsg (f : XE) (g : XG) : XS := fun e st => (f e st).bind fun p => (g p.1 e p.2).map fun q => .nx q.1 q.2
def xsSet (i : Nat) (f : XE) : XS := fun e st => (f e st).map fun p => .nx (e.set i (some p.1)) p.2
def xsPar (i j : Nat) (f : XA) : XS := fun e st => (f e st).bind fun p => match p.1 with
  | [a, b] => some (.nx ((e.set i (some a)).set j (some b)) p.2)
  | _ => none
def xsPar3 (i j l : Nat) (f : XA) : XS := fun e st => (f e st).bind fun p => match p.1 with
  | [a, b, c] => some (.nx (((e.set i (some a)).set j (some b)).set l (some c)) p.2)
  | _ => none
def xsAug (i : Nat) (f2 : F2) (f : XE) : XS := fun e st => match e[i]? with
  | some (some x) => (f e st).bind fun p => (f2 x p.1 p.2).map fun q => .nx (e.set i (some q.1)) q.2
  | _ => none
def xsExpr (f : XE) : XS := fun e st => (f e st).map fun p => .nx e p.2
def xsRet (f : XE) : XS := fun e st => (f e st).map fun p => .rt p.1 p.2
def xsIf (c : XT) (a b : XS) : XS := fun e st => (c e st).bind fun p => if p.1 then a e p.2 else b e p.2
def xsNever : XS := fun _ _ => none
def xsBreak : XS := fun e st => some (.bk e st)
def xsCont : XS := fun e st => some (.ct e st)
def whileF (c : XT) (b : XS) : Nat → XS
  | 0, _, _ => none
  | n + 1, e, st => (c e st).bind fun p => if p.1 then (b e p.2).bind fun o => match o with
      | .nx e' st' => whileF c b n e' st'
      | .ct e' st' => whileF c b n e' st'
      | .bk e' st' => some (.nx e' st')
      | .rt t st' => some (.rt t st')
    else some (.nx e p.2)
def xsWhile (fuel : Env1 → Store → Nat) (c : XT) (b : XS) : XS := fun e st => whileF c b (fuel e st) e st
/-- what is walked: the items by the store as it stands -/
abbrev Its1 := Store → Option (List T)
abbrev XI := Env1 → Store → Option (Its1 × Store)
def forL (it : Its1) (g : XG) (b : XS) : Nat → Nat → XS
  | 0, _, _, _ => none
  | n + 1, i, e, st => (it st).bind fun ts => match ts[i]? with
    | none => if i = ts.length then some (.nx e st) else none
    | some x => (g x e st).bind fun p => (b p.1 p.2).bind fun o => match o with
      | .nx e' st' => forL it g b n (i + 1) e' st'
      | .ct e' st' => forL it g b n (i + 1) e' st'
      | .bk e' st' => some (.nx e' st')
      | .rt t st' => some (.rt t st')
def xsFor (fi : XI) (g : XG) (b : XS) : XS := fun e st => (fi e st).bind fun p => (p.1 p.2).bind fun ts => forL p.1 g b (ts.length + 1) 0 e p.2
/-- an iterator walks what a function of the store tells -/
def ItOk (K : KX) (H : Hp) (ρ : List Addr) (it : Its1) (J : It) : Prop := ∀ H' ρ' st' ts, Fut H H' ρ ρ' → Wd K ρ' st' H' → it st' = some ts → ∀ i,
  (i < ts.length → J.go i H') ∧ (i = ts.length → J.stop i H') ∧ ∀ x H'', J.yld i H' x H'' → (∀ a o, H' a = some o → H'' a = some o) ∧ ∀ t, ts[i]? = some t → Rep K H'' ρ' t x
def Wi (X : Cx) (tg e : Expr) : TI := fun σ H R => ∀ pins s, Inv X pins σ H s → wpAny (model X.prog X.w) X.A (eval e X.env) (fun v s1 => wpAny (model X.prog X.w) X.A (pyIter v) (PIE X pins σ tg R) X.xe s1) X.xe s
theorem Wi.pi {X : Cx} {tg e : Expr} : PI X tg e (Wi X tg e) := ⟨fun pins s σ H R I h => h pins s I⟩
theorem Wi.of {X : Cx} {tg e : Expr} {t : TI} (h : PI X tg e t) {σ : St} {H : Hp} {R : It → Hp → Prop} (q : t σ H R) : Wi X tg e σ H R := fun pins s I => h.run pins s σ H R I q
def IT (X : Cx) (tg e : Expr) (f : XI) : Prop := ∀ env st ρ σ H it st', Slots (kx X) H ρ env σ → Wd (kx X) ρ st H → f env st = some (it, st') →
  ∀ R : It → Hp → Prop, (∀ J H' ρ', Fut H H' ρ ρ' → Wd (kx X) ρ' st' H' → ItOk (kx X) H' ρ' it J → R J H') → Wi X tg e σ H R
section
variable {X : Cx} {pos : Pos} {es : List Expr} {e c : Expr} {g : XG} {f : XE} {fa fb : XS} {tc : XT} {a b : List Stmt} {st1 : Stmt} {vs : List Nat}
theorem ss_nil : SST X [] xsNil := by
  intro env st ρ σ H o s w e D q
  cases e
  exact Wss.of pss_nil (show D.nx σ H from q _ H ρ (Fut.refl _ _) w s)
theorem ss_cons (ha : ST X st1 fa) (hb : SST X b fb) : SST X (st1 :: b) (xsSeq fa fb) := by
  intro env st ρ σ H o s w e D q
  unfold xsSeq at e
  cases h : fa env st with
  | none => simp [h] at e
  | some o1 =>
    simp only [h, Option.bind_some] at e
    refine Wss.of (pss_cons Ws.ps Wss.pss) ?_
    refine ha env st ρ σ H o1 s w h _ ?_
    cases o1 with
    | nx e1 s1 => exact fun σ1 H1 ρ1 f1 w1 sl1 => hb e1 s1 ρ1 σ1 H1 o sl1 w1 e D (q.up f1)
    | rt t s1 => cases e; exact q
    | bk e1 s1 => cases e; exact q
    | ct e1 s1 => cases e; exact q
theorem ss_one (ha : ST X st1 fa) : SST X [st1] fa := fun env st ρ σ H o s w e D q => Wss.of (pss_one Ws.ps) (ha env st ρ σ H o s w e D q)
theorem st_asg {tg : Expr} (hf : ET X e f) (hg : GT X tg vs g) (hs : swapsWithSole [tg] e pos.line X.env = pure false := by rfl) (hw : swappedStores [tg] e X.env = pure none := by rfl)
    (h1 : (assignEach [tg] X.env).map (·.2) = [assign tg X.env] := by rfl) : ST X (.Assign [tg] e pos) (xsAsg f g) := by
  intro env st ρ σ H o s w e D q
  unfold xsAsg at e
  cases h : f env st with
  | none => simp [h] at e
  | some p =>
    obtain ⟨t, s1⟩ := p
    simp only [h, Option.bind_some] at e
    cases h2 : g t env s1 with
    | none => simp [h2] at e
    | some p =>
      obtain ⟨e2, s2⟩ := p
      rw [h2] at e
      cases e
      refine Ws.of (ps_asg We.pe Wg.pg hs hw h1) ?_
      refine hf env st ρ σ H t s1 s w h _ fun v H1 ρ1 f1 w1 r1 => ?_
      exact hg env s1 ρ1 σ H1 t v e2 s2 (s.up f1) w1 r1 h2 _ fun σ2 H2 ρ2 f2 w2 s2' _ => q _ H2 ρ2 (f1.trans f2) w2 s2'
theorem st_set {i : Nat} {x : Str} {pos' : Pos} (hN : X.N.Nodup) (he : ET X e f) (hi : X.N[i]? = some x := by rfl) (hx : Loc X.env.scope x := by first | exact .inl rfl | exact .inr rfl)
    (hs : swapsWith e (some (.Name x pos')) pos.line X.env = pure false := by rfl) (hf : X.fn x = true ∨ X.env.scope.names.lookup x = some .local := by first | exact .inl rfl | exact .inr rfl | assumption) : ST X (.Assign [.Name x pos'] e pos) (xsSet i f) := by
  intro env st ρ σ H o s w e D q
  unfold xsSet at e
  cases h : f env st with
  | none => simp [h] at e
  | some p =>
    obtain ⟨t, s1⟩ := p
    rw [h] at e
    cases e
    refine Ws.of (ps_set hN hi hx We.pe hs hf) ?_
    exact he env st ρ σ H t s1 s w h _ fun v H1 ρ1 f1 w1 r1 => q _ H1 ρ1 f1 w1 ((s.up f1).set i r1)
theorem st_par {i j : Nat} {x y : Str} {a b : Expr} {fr : XA} {px py pt : Pos} {kt k2 pt2} (hc : X.calm = true) (hN : X.N.Nodup) (ha : AT X [a, b] fr) (hi : X.N[i]? = some x := by rfl) (hj : X.N[j]? = some y := by rfl) (hij : i ≠ j := by decide)
    (hx : X.env.scope.names.lookup x = some .local := by rfl) (hy : X.env.scope.names.lookup y = some .local := by rfl)
    (hw : swappedStores [.Tuple [.Name x px, .Name y py] kt pt] (.Tuple [a, b] k2 pt2) X.env = pure (some [x, y]) := by rfl)
    (hs : swapsWithSole [.Tuple [.Name x px, .Name y py] kt pt] (.Tuple [a, b] k2 pt2) pos.line X.env = pure false := by rfl) : ST X (.Assign [.Tuple [.Name x px, .Name y py] kt pt] (.Tuple [a, b] k2 pt2) pos) (xsPar i j fr) := by
  intro env st ρ σ H o s w e D q
  unfold xsPar at e
  cases h : fr env st with
  | none => simp [h] at e
  | some p =>
    obtain ⟨ts, s1⟩ := p
    simp only [h, Option.bind_some] at e
    split at e
    · cases e
      refine Ws.of (ps_par hc hN hi hj hij hx hy Wa.pa hw hs) ?_
      refine ha env st ρ σ H _ s1 s w h _ fun vs H1 ρ1 f1 w1 r1 => ?_
      cases r1 with
      | cons r1 r2 =>
        cases r2 with
        | cons r2 r3 =>
          cases r3
          exact ⟨_, _, rfl, q _ H1 ρ1 f1 w1 (((s.up f1).set i r1).set j r2)⟩
    · cases e
theorem st_par3 {i j l : Nat} {x y z : Str} {a b c : Expr} {fr : XA} {px py pz pt : Pos} {kt k2 pt2} (hc : X.calm = true) (hN : X.N.Nodup) (ha : AT X [a, b, c] fr) (hi : X.N[i]? = some x := by rfl) (hj : X.N[j]? = some y := by rfl) (hl : X.N[l]? = some z := by rfl)
    (hij : i ≠ j := by decide) (hil : i ≠ l := by decide) (hjl : j ≠ l := by decide)
    (hx : X.env.scope.names.lookup x = some .local := by rfl) (hy : X.env.scope.names.lookup y = some .local := by rfl) (hz : X.env.scope.names.lookup z = some .local := by rfl)
    (hw : swappedStores [.Tuple [.Name x px, .Name y py, .Name z pz] kt pt] (.Tuple [a, b, c] k2 pt2) X.env = pure (some [x, y, z]) := by rfl)
    (hs : swapsWithSole [.Tuple [.Name x px, .Name y py, .Name z pz] kt pt] (.Tuple [a, b, c] k2 pt2) pos.line X.env = pure false := by rfl) :
    ST X (.Assign [.Tuple [.Name x px, .Name y py, .Name z pz] kt pt] (.Tuple [a, b, c] k2 pt2) pos) (xsPar3 i j l fr) := by
  intro env st ρ σ H o s w e D q
  unfold xsPar3 at e
  cases h : fr env st with
  | none => simp [h] at e
  | some p =>
    obtain ⟨ts, s1⟩ := p
    simp only [h, Option.bind_some] at e
    split at e
    · cases e
      refine Ws.of (ps_par3 hc hN hi hj hl hij hil hjl hx hy hz Wa.pa hw hs) ?_
      refine ha env st ρ σ H _ s1 s w h _ fun vs H1 ρ1 f1 w1 r1 => ?_
      cases r1 with
      | cons r1 r2 =>
        cases r2 with
        | cons r2 r3 =>
          cases r3 with
          | cons r3 r4 =>
            cases r4
            exact ⟨_, _, _, rfl, q _ H1 ρ1 f1 w1 ((((s.up f1).set i r1).set j r2).set l r3)⟩
    · cases e
theorem st_aug {i : Nat} {x : Str} {pos' : Pos} {op : Operator} {f2 : F2} (hN : X.N.Nodup) (h2 : OpT X (inplaceOp op) f2) (he : ET X e f) (hi : X.N[i]? = some x := by rfl) (hx : Loc X.env.scope x := by first | exact .inl rfl | exact .inr rfl)
    (hf : X.fn x = true ∨ X.env.scope.names.lookup x = some .local := by first | exact .inl rfl | exact .inr rfl | assumption) : ST X (.AugAssign (.Name x pos') op e pos) (xsAug i f2 f) := by
  intro env st ρ σ H o s w e D q
  unfold xsAug at e
  split at e
  · rename_i t0 ht
    cases h : f env st with
    | none => simp [h] at e
    | some p =>
      obtain ⟨t, s1⟩ := p
      simp only [h, Option.bind_some] at e
      cases h3 : f2 t0 t s1 with
      | none => simp [h3] at e
      | some p =>
        obtain ⟨t3, s3⟩ := p
        rw [h3] at e
        cases e
        obtain ⟨v0, hv, r0⟩ := s.2 i t0 ht
        refine Ws.of (ps_aug (ti := OpU X (inplaceOp op)) hN hi hx We.pe (fun pins s σ H x y v u Q I rx ry h => OpU.ok pins s σ H x y v u Q I rx ry h) hf) ⟨v0, hv, ?_⟩
        refine he env st ρ σ H t s1 s w h _ fun v H1 ρ1 f1 w1 r1 => ?_
        exact h2 ρ1 s1 H1 t0 t t3 s3 v0 v w1 (r0.up f1) r1 h3 _ fun u H2 ρ2 f2 w2 r2 => q _ H2 ρ2 (f1.trans f2) w2 ((s.up (f1.trans f2)).set i r2)
  · cases e
theorem st_expr (he : ET X e f) (hs : swapsWith e none pos.line X.env = pure false := by rfl) : ST X (.Expr e pos) (xsExpr f) := by
  intro env st ρ σ H o s w e D q
  unfold xsExpr at e
  cases h : f env st with
  | none => simp [h] at e
  | some p =>
    obtain ⟨t, s1⟩ := p
    rw [h] at e
    cases e
    exact Ws.of (ps_expr We.pe hs) (he env st ρ σ H t s1 s w h _ fun v H1 ρ1 f1 w1 r1 => q _ H1 ρ1 f1 w1 (s.up f1))
theorem st_ret (he : ET X e f) : ST X (.Return (some e) pos) (xsRet f) := by
  intro env st ρ σ H o s w e D q
  unfold xsRet at e
  cases h : f env st with
  | none => simp [h] at e
  | some p =>
    obtain ⟨t, s1⟩ := p
    rw [h] at e
    cases e
    exact Ws.of (ps_ret We.pe) (he env st ρ σ H t s1 s w h _ fun v H1 ρ1 f1 w1 r1 => q _ H1 ρ1 f1 w1 r1)
theorem st_pass : ST X (.Pass pos) xsNil := by
  intro env st ρ σ H o s w e D q
  cases e
  exact Ws.of ps_pass (show D.nx σ H from q _ H ρ (Fut.refl _ _) w s)
theorem st_never {x : Stmt} : ST X x xsNever := by
  intro env st ρ σ H o s w e D q
  cases e
theorem st_if (hc : TT1 X c tc) (ha : SST X a fa) (hb : SST X b fb) : ST X (.If c a b pos) (xsIf tc fa fb) := by
  intro env st ρ σ H o s w e D q
  unfold xsIf at e
  cases h : tc env st with
  | none => simp [h] at e
  | some p =>
    obtain ⟨k, s1⟩ := p
    simp only [h, Option.bind_some] at e
    refine Ws.of (ps_if Wt.pt Wss.pss Wss.pss) ?_
    refine hc env st ρ σ H k s1 s w h _ fun H1 ρ1 f1 w1 => ?_
    cases k with
    | true =>
      rw [if_pos rfl]
      exact ha env s1 ρ1 σ H1 o (s.up f1) w1 e D (q.up f1)
    | false =>
      rw [if_neg Bool.false_ne_true]
      exact hb env s1 ρ1 σ H1 o (s.up f1) w1 e D (q.up f1)
theorem st_while {fuel : Env1 → Store → Nat} (hp : PassesOwn (model X.prog X.w) X.A X.env X.xe) (hc : TT1 X c tc) (hb : SST X b fb) : ST X (.While c b [] pos) (xsWhile fuel tc fb) := by
  intro env st ρ σ H o s w e D q
  refine Ws.of (ps_while hp Wt.pt Wss.pss) ?_
  refine ⟨fun m σ1 H1 => ∃ env1 st1 ρ1, Slots (kx X) H1 ρ1 env1 σ1 ∧ Wd (kx X) ρ1 st1 H1 ∧ whileF tc fb m env1 st1 = some o ∧ QO (kx X) H1 ρ1 D o, ⟨fuel env st, env, st, ρ, s, w, e, q⟩, ?_⟩
  rintro m σ1 H1 ⟨env1, st1, ρ1, s1, w1, e1, q1⟩
  cases m with
  | zero => cases e1
  | succ m =>
    unfold whileF at e1
    cases h : tc env1 st1 with
    | none => simp [h] at e1
    | some p =>
      obtain ⟨k, s2⟩ := p
      simp only [h, Option.bind_some] at e1
      refine hc env1 st1 ρ1 σ1 H1 k s2 s1 w1 h _ fun H2 ρ2 f2 w2 => ?_
      cases k with
      | false =>
        rw [if_neg Bool.false_ne_true]
        rw [if_neg Bool.false_ne_true] at e1
        cases e1
        exact q1 σ1 H2 ρ2 f2 w2 (s1.up f2)
      | true =>
        rw [if_pos rfl]
        rw [if_pos rfl] at e1
        cases h3 : fb env1 s2 with
        | none => simp [h3] at e1
        | some o3 =>
          simp only [h3, Option.bind_some] at e1
          refine ⟨fun σ' H' => ∃ env1 st1 ρ1, Slots (kx X) H' ρ1 env1 σ' ∧ Wd (kx X) ρ1 st1 H' ∧ whileF tc fb m env1 st1 = some o ∧ QO (kx X) H' ρ1 D o, fun σ' H' z => ⟨m, Nat.lt_succ_self _, z⟩, ?_⟩
          refine hb env1 s2 ρ2 σ1 H2 o3 (s1.up f2) w2 h3 _ ?_
          cases o3 with
          | nx e4 s4 => exact fun σ4 H4 ρ4 f4 w4 sl4 => ⟨e4, s4, ρ4, sl4, w4, e1, q1.up (f2.trans f4)⟩
          | ct e4 s4 => exact fun σ4 H4 ρ4 f4 w4 sl4 => ⟨e4, s4, ρ4, sl4, w4, e1, q1.up (f2.trans f4)⟩
          | bk e4 s4 => cases e1; exact QN.up (Q := D.nx) q1 f2
          | rt t4 s4 => cases e1; exact QE.up (Q := D.rt) q1 f2
theorem st_for {tg it : Expr} {fi : XI} (hp : PassesOwn (model X.prog X.w) X.A X.env X.xe) (hc : X.calm = true) (hi : IT X tg it fi) (hg : GT X tg vs g) (hb : SST X b fb)
    (hs : ∀ x, foldedSetIterable it X.env x = pure x := by intro _; rfl) : ST X (.For tg it b [] pos) (xsFor fi g fb) := by
  intro env st ρ σ H o s w e D q
  unfold xsFor at e
  cases h : fi env st with
  | none => simp [h] at e
  | some p =>
    obtain ⟨I1, s1⟩ := p
    simp only [h, Option.bind_some] at e
    cases h1 : I1 s1 with
    | none => simp [h1] at e
    | some ts0 =>
      simp only [h1, Option.bind_some] at e
      refine Ws.of (ps_for hp hc Wi.pi Wg.pg Wss.pss hs) ?_
      refine hi env st ρ σ H I1 s1 s w h _ fun J H1 ρ1 f1 w1 ok => ?_
      refine ⟨fun i m σ2 H2 => ∃ env2 st2 ρ2, Fut H1 H2 ρ1 ρ2 ∧ Slots (kx X) H2 ρ2 env2 σ2 ∧ Wd (kx X) ρ2 st2 H2 ∧ forL I1 g fb m i env2 st2 = some o ∧ QO (kx X) H2 ρ2 D o, ⟨ts0.length + 1, env, s1, ρ1, Fut.refl _ _, s.up f1, w1, e, q.up f1⟩, ?_⟩
      rintro i m σ2 H2 ⟨env2, st2, ρ2, f2, sl2, w2, e2, q2⟩
      cases m with
      | zero => cases e2
      | succ m =>
        unfold forL at e2
        cases h3 : I1 st2 with
        | none => simp [h3] at e2
        | some ts =>
          simp only [h3, Option.bind_some] at e2
          obtain ⟨k1, k2, k3⟩ := ok H2 ρ2 st2 ts f2 w2 h3 i
          cases h4 : ts[i]? with
          | none =>
            simp only [h4] at e2
            split at e2
            · rename_i hl
              cases e2
              exact .inl ⟨k2 hl, q2 σ2 H2 ρ2 (Fut.refl _ _) w2 sl2⟩
            · cases e2
          | some x =>
            simp only [h4] at e2
            have hlt := (List.getElem?_eq_some_iff.mp h4).1
            refine .inr ⟨k1 hlt, fun σ' H' => ∃ env2 st2 ρ2, Fut H1 H' ρ1 ρ2 ∧ Slots (kx X) H' ρ2 env2 σ' ∧ Wd (kx X) ρ2 st2 H' ∧ forL I1 g fb m (i + 1) env2 st2 = some o ∧ QO (kx X) H' ρ2 D o, fun σ' H' z => ⟨m, Nat.lt_succ_self _, z⟩, fun y H3 hy => ?_⟩
            obtain ⟨gr, ry⟩ := k3 y H3 hy
            have f3 : Fut H2 H3 ρ2 ρ2 := fut_grow gr
            cases h5 : g x env2 st2 with
            | none => simp [h5] at e2
            | some p =>
              obtain ⟨e5, s5⟩ := p
              simp only [h5, Option.bind_some] at e2
              refine hg env2 st2 ρ2 σ2 H3 x y e5 s5 (sl2.up f3) (w2.grow gr) (ry x h4) h5 _ fun σ6 H6 ρ6 f6 w6 sl6 _ => ?_
              cases h7 : fb e5 s5 with
              | none => simp [h7] at e2
              | some o7 =>
                simp only [h7, Option.bind_some] at e2
                have f26 := f3.trans f6
                refine hb e5 s5 ρ6 σ6 H6 o7 sl6 w6 h7 _ ?_
                cases o7 with
                | nx e8 s8 => exact fun σ8 H8 ρ8 f8 w8 sl8 => ⟨e8, s8, ρ8, f2.trans (f26.trans f8), sl8, w8, e2, q2.up (f26.trans f8)⟩
                | ct e8 s8 => exact fun σ8 H8 ρ8 f8 w8 sl8 => ⟨e8, s8, ρ8, f2.trans (f26.trans f8), sl8, w8, e2, q2.up (f26.trans f8)⟩
                | bk e8 s8 => cases e2; exact QN.up (Q := D.nx) q2 f26
                | rt t8 s8 => cases e2; exact QE.up (Q := D.rt) q2 f26
end
end TL
/-! TL5 -/
set_option Elab.async false
set_option linter.all false
set_option maxRecDepth 100000
set_option maxHeartbeats 4000000
namespace TL
variable [Tb]
open PySem PySem.Spec PyProof.Rows L2
/-! ### what is below a place -/
mutual
def below (n : Nat) : T → Bool
  | .tup ts => belows n ts
  | .ref l => decide (l < n)
  | .non => true
  | .bl _ => true
  | .int _ => true
  | .str _ => true
  | .rdl _ => true
def belows (n : Nat) : List T → Bool
  | [] => true
  | t :: ts => below n t && belows n ts
end
def obelow (n : Nat) : Ob → Bool
  | .lst ts => belows n ts
  | .dK kvs => belows n (kvs.map (·.2))
  | .dN kvs => belows n (kvs.map (·.1)) && belows n (kvs.map (·.2))
section
variable {K : KX} {H H' : Hp} {ρ ρ' : List Addr}
mutual
theorem Rep.bel : ∀ (t : T) (v : V), Rep K H ρ t v → below ρ.length t = true
  | .non, _, _ => rfl
  | .bl _, _, _ => rfl
  | .int _, _, _ => rfl
  | .str _, _, _ => rfl
  | .rdl _, _, _ => rfl
  | .tup ts, _, h => by
    cases h with
    | tup a b => exact Reps.bel ts _ b
  | .ref l, _, h => by
    cases h with
    | ref a => exact decide_eq_true (List.getElem?_eq_some_iff.mp a).1
theorem Reps.bel : ∀ (ts : List T) (vs : List V), Reps K H ρ ts vs → belows ρ.length ts = true
  | [], _, _ => rfl
  | t :: ts, _, h => by
    cases h with
    | cons a b =>
      show (below _ t && belows _ ts) = true
      rw [Rep.bel t _ a, Reps.bel ts _ b]; rfl
end
mutual
theorem Rep.cut (p : ∀ l a, l < n → ρ'[l]? = some a → ρ[l]? = some a) : ∀ (t : T) (v : V), below n t = true → Rep K H ρ' t v → Rep K H ρ t v
  | .non, _, _, h => by cases h; exact .non
  | .bl b, _, _, h => by cases h; exact .bl b
  | .int i, _, _, h => by cases h; exact .int i
  | .str x, _, _, h => by cases h; exact .str x
  | .rdl ns, _, _, h => by
    cases h with
    | rdl a => exact .rdl a
  | .tup ts, _, b, h => by
    cases h with
    | tup a c => exact .tup a (Reps.cut p ts _ b c)
  | .ref l, _, b, h => by
    cases h with
    | ref a => exact .ref (p l _ (of_decide_eq_true b) a)
theorem Reps.cut (p : ∀ l a, l < n → ρ'[l]? = some a → ρ[l]? = some a) : ∀ (ts : List T) (vs : List V), belows n ts = true → Reps K H ρ' ts vs → Reps K H ρ ts vs
  | [], _, _, h => by cases h; exact .nil
  | t :: ts, _, b, h => by
    have b' : below n t = true ∧ belows n ts = true := by
      have : (below n t && belows n ts) = true := b
      simpa using this
    cases h with
    | cons a c => exact .cons (Rep.cut p t _ b'.1 a) (Reps.cut p ts _ b'.2 c)
end
theorem RepD.bel {kvs : List (T × T)} {xs : List (NestedKey × Addr × V)} (h : RepD K H ρ kvs xs) : (belows ρ.length (kvs.map (·.1)) && belows ρ.length (kvs.map (·.2))) = true := by
  induction h with
  | nil => rfl
  | cons a b c d ih =>
    rw [Bool.and_eq_true] at ih
    show ((TL.below _ _ && belows _ _) && (TL.below _ _ && belows _ _)) = true
    rw [Rep.bel _ _ b, Rep.bel _ _ c, ih.1, ih.2]; rfl
theorem RepD.cut {n : Nat} (p : ∀ l a, l < n → ρ'[l]? = some a → ρ[l]? = some a) {kvs : List (T × T)} {xs : List (NestedKey × Addr × V)} (bl : (belows n (kvs.map (·.1)) && belows n (kvs.map (·.2))) = true) (h : RepD K H ρ' kvs xs) : RepD K H ρ kvs xs := by
  induction h with
  | nil => exact .nil
  | cons a b c d ih =>
    have bl : ((TL.below n _ && belows n _) && (TL.below n _ && belows n _)) = true := bl
    simp only [Bool.and_eq_true] at bl
    exact .cons a (Rep.cut p _ _ bl.1.1 b) (Rep.cut p _ _ bl.2.1 c) (ih (by rw [bl.1.2, bl.2.2]; rfl))
theorem RepO.bel {a : Addr} {o : Ob} (r : RepO K H ρ a o) : obelow ρ.length o = true := by
  cases o with
  | lst ts => obtain ⟨vs, h, q⟩ := r; exact Reps.bel _ _ q
  | dK kvs => obtain ⟨vs, h, k, q⟩ := r; exact Reps.bel _ _ q
  | dN kvs => obtain ⟨vs, h, q⟩ := r; exact q.bel
theorem RepO.cut {n : Nat} (p : ∀ l a, l < n → ρ'[l]? = some a → ρ[l]? = some a) {a : Addr} {o : Ob} (b : obelow n o = true) (r : RepO K H ρ' a o) : RepO K H ρ a o := by
  cases o with
  | lst ts => obtain ⟨vs, h, q⟩ := r; exact ⟨vs, h, Reps.cut p _ _ b q⟩
  | dK kvs => obtain ⟨vs, h, k, q⟩ := r; exact ⟨vs, h, k, Reps.cut p _ _ b q⟩
  | dN kvs => obtain ⟨vs, h, q⟩ := r; exact ⟨vs, h, q.cut p b⟩
end
/-- what a call leaves may be forgotten: the store st2 and the value t2 behind the body, st' and t for the caller -/
def Cut (st : Store) (t2 : T) (st2 : Store) (t : T) (st' : Store) : Prop := ∀ (K : KX) (H H' : Hp) (ρ ρ' : List Addr) (v : V), Wd K ρ st H → Fut H H' ρ ρ' → Wd K ρ' st2 H' → Rep K H' ρ' t2 v →
  ∃ ρ'', Fut H H' ρ ρ'' ∧ Wd K ρ'' st' H' ∧ Rep K H' ρ'' t v
theorem Cut.refl (st : Store) (t : T) (st' : Store) : Cut st t st' t st' := fun _ _ _ _ ρ' _ _ f w r => ⟨ρ', f, w, r⟩
section
variable {K : KX} {H H' : Hp} {ρ ρ' : List Addr} {st st2 : Store}
theorem wd_back (w : Wd K ρ st H) (f : Fut H H' ρ ρ') (w2 : Wd K ρ' st2 H') (hl : st.length ≤ st2.length) (hc : ∀ l o, l < st.length → st2[l]? = some o → st[l]? = some o ∨ obelow st.length o = true) : Wd K ρ (st2.take st.length) H' := by
  obtain ⟨m, rfl⟩ := f.p
  have pr : ∀ l a, l < st.length → (ρ ++ m)[l]? = some a → ρ[l]? = some a := fun l a hl h => by
    rw [List.getElem?_append_left (by rw [w.len]; exact hl)] at h; exact h
  refine ⟨w2.tb, by rw [List.length_take, w.len]; omega, w.nd, fun l o a h1 h2 => ?_⟩
  have hll : l < st.length := by
    have := (List.getElem?_eq_some_iff.mp h2).1
    rw [w.len] at this; exact this
  rw [List.getElem?_take_of_lt hll] at h1
  have h3 : (ρ ++ m)[l]? = some a := by
    rw [List.getElem?_append_left (by rw [w.len]; exact hll)]; exact h2
  have r := w2.ob l o a h1 h3
  refine r.cut pr ?_
  rcases hc l o hll h1 with z | z
  · have r0 := w.ob l o a z h2
    have := r0.bel
    rw [w.len] at this; exact this
  · exact z
end
/-- the store ahead, a few of its objects changed; the value hangs on these alone -/
theorem Cut.back {st st2 : Store} {t : T} (hl : st.length ≤ st2.length) (hc : ∀ l o, l < st.length → st2[l]? = some o → st[l]? = some o ∨ obelow st.length o = true) (hb : below st.length t = true) : Cut st t st2 t (st2.take st.length) := by
  intro K H H' ρ ρ' v w f w2 r
  refine ⟨ρ, ⟨f.e, [], by simp⟩, wd_back w f w2 hl hc, ?_⟩
  obtain ⟨m, rfl⟩ := f.p
  exact Rep.cut (n := st.length) (fun l a hl h => by rw [List.getElem?_append_left (by rw [w.len]; exact hl)] at h; exact h) _ _ hb r
theorem Cut.pure {st g : Store} {t : T} (hb : below st.length t = true) : Cut st t (st ++ g) t st := by
  have h := Cut.back (st := st) (st2 := st ++ g) (t := t) (by simp) (fun l o hl h => .inl (by rw [List.getElem?_append_left hl] at h; exact h)) hb
  rw [List.take_left'] at h
  · exact h
  · rfl
/-- a new object, all else forgotten -/
theorem Cut.new {st g : Store} {j : Nat} {o : Ob} (hj : st.length ≤ j) (ho : (st ++ g)[j]? = some o) (hb : obelow st.length o = true) : Cut st (.ref j) (st ++ g) (.ref st.length) (st ++ [o]) := by
  intro K H H' ρ ρ' v w f w2 r
  have wb := wd_back w f w2 (by simp) (fun l o hl h => .inl (by rw [List.getElem?_append_left hl] at h; exact h))
  rw [List.take_left' rfl] at wb
  cases r with
  | @ref _ a ha =>
    have r2 := w2.ob j o a ho ha
    obtain ⟨m, rfl⟩ := f.p
    have na : a ∉ ρ := fun hm => by
      obtain ⟨i, hi⟩ := List.getElem?_of_mem hm
      have hil := (List.getElem?_eq_some_iff.mp hi).1
      have hi2 : (ρ ++ m)[i]? = some a := by rw [List.getElem?_append_left hil]; exact hi
      have := (List.getElem?_inj (by rw [List.length_append]; omega) w2.nd).mp (hi2.trans ha.symm)
      rw [w.len] at hil
      omega
    have pr : ∀ l b, l < st.length → (ρ ++ m)[l]? = some b → (ρ ++ [a])[l]? = some b := fun l b hl h => by
      rw [List.getElem?_append_left (by rw [w.len]; exact hl)] at h ⊢; exact h
    refine ⟨ρ ++ [a], ⟨f.e, [a], rfl⟩, ⟨w2.tb, by simp [w.len], ?_, fun l ob b h1 h2 => ?_⟩, .ref ?_⟩
    · refine List.nodup_append.mpr ⟨w.nd, by simp, ?_⟩
      intro x hx y hy e
      have : y = a := by simpa using hy
      subst this; subst e
      exact na hx
    · by_cases hl : l < st.length
      · rw [List.getElem?_append_left hl] at h1
        rw [List.getElem?_append_left (by rw [w.len]; exact hl)] at h2
        exact (wb.ob l ob b h1 h2).up ⟨Ext.refl _, [a], rfl⟩ rfl
      · have e : l = st.length := by
          have := (List.getElem?_eq_some_iff.mp h1).1
          simp at this; omega
        subst e
        rw [List.getElem?_append_right (Nat.le_refl _)] at h1
        rw [← w.len, List.getElem?_append_right (Nat.le_refl _)] at h2
        simp at h1 h2
        subst h1; subst h2
        exact r2.cut pr hb
    · rw [← w.len, List.getElem?_append_right (Nat.le_refl _)]; simp
/-! ### defs -/
/-- what a def of the text does, on trees; nothing is raised -/
structure FnT (P : Program) (w : World) (K : PySem.W.Frag) (mg : Str → Option Value) (base : Heap) (k : Nat) (f : Addr) (fd : FuncData) (ps : List Str) (F : FA) : Prop where
  len : ∀ ts st r, F ts st = some r → ts.length = ps.length
  run : ∀ (A : Around) (outer : List Env) (s : Shared) (H : Hp) (args : Args) (us : List Value) (vs : List V) (ρ : List Addr) (ts : List T) (st : Store) (t : T) (st' : Store) (Q : VK), Room k A → A.guards = some [] →
    Env0 P w K mg base A outer s H → BindsTo s fd args (ps.zip us) → Vals vs us → Wd (kX K P w) ρ st H → Reps (kX K P w) H ρ ts vs → F ts st = some (t, st') → QE (kX K P w) H ρ t st' Q →
    codeAny (model P w) A (.call (.ref f) args) (CR CX0 outer P w H s Q E0) s
def fnF (n : Nat) (N : Nat) (b : XS) : FA := fun ts st => if ts.length = n then (b (ts.map some ++ List.replicate (N - ts.length) none) st).bind fun o => match o with
  | .rt t st' => some (t, st')
  | .nx _ st' => some (.non, st')
  | _ => none
  else none
/-- a def's body: its context -/
abbrev cx0 (P : Program) (w : World) (K : PySem.W.Frag) (mg : Str → Option Value) (base : Heap) (N : List Str) (qual : Str) (sc : Scope) (f : Addr) (cdv : Value) (A : Around) (outer : List Env) (s : Shared) (H : Hp) (E : XK) : Cx :=
  (cxOf CX0 P w K mg base N qual sc f cdv A outer s H E).nox
section
variable {P : Program} {w : World} {K : PySem.W.Frag} {mg : Str → Option Value} {base : Heap}
theorem FnT.mono {j k : Nat} {f : Addr} {fd : FuncData} {ps : List Str} {F : FA} (G : FnT P w K mg base j f fd ps F) (h : j ≤ k) : FnT P w K mg base k f fd ps F :=
  ⟨G.len, fun A outer s H args us vs ρ ts st t st' Q hr => G.run A outer s H args us vs ρ ts st t st' Q (hr.mono h)⟩
/-- a promise that says less -/
theorem FnT.as {k : Nat} {f : Addr} {fd : FuncData} {ps : List Str} {F F' : FA} (G : FnT P w K mg base k f fd ps F)
    (h : ∀ ts st t st', F' ts st = some (t, st') → ∃ t2 st2, F ts st = some (t2, st2) ∧ Cut st t2 st2 t st') : FnT P w K mg base k f fd ps F' := by
  refine ⟨fun ts st r e => ?_, fun A outer s H args us vs ρ ts st t st' Q hr hg e0 hb rv wd rs e q => ?_⟩
  · obtain ⟨t2, st2, e2, _⟩ := h ts st r.1 r.2 e
    exact G.len ts st _ e2
  · obtain ⟨t2, st2, e2, c⟩ := h ts st t st' e
    refine G.run A outer s H args us vs ρ ts st t2 st2 Q hr hg e0 hb rv wd rs e2 fun v H' ρ' f' w' r' => ?_
    obtain ⟨ρ2, f2, w2, r2⟩ := c (kX K P w) H H' ρ ρ' v wd f' w' r'
    exact q v H' ρ2 f2 w2 r2
theorem FnT.ofL {x qual : Str} {st : Stmt} {f : Addr} {oc kV doc pm cdv ct : Value} {od an : Option Addr} {osl : Array (Option Value)} {N ps : List Str} {k : Nat} {Fb : XS} (lk : K.lookup f = some ⟨oc, od, .func (PySem.W.fnOf x qual (defArgs st) (defBody st) (defScope st) .none kV doc pm an cdv ct), osl⟩) (hcd : PySem.W.codeIn K cdv qual = true) (S : FnScope N ps (defScope st))
    (hbody : ∀ (A : Around) (outer : List Env) (s : Shared) (H : Hp), Room k (A.deeper (envOfC qual (defScope st) s.heap.objs.size f cdv)) → (A.deeper (envOfC qual (defScope st) s.heap.objs.size f cdv)).guards = some [] →
      SST (cx0 P w K mg base N qual (defScope st) f cdv A outer s H E0) (defBody st) Fb) : FnT P w K mg base (k + 1) f (PySem.W.fnOf x qual (defArgs st) (defBody st) (defScope st) .none kV doc pm an cdv ct) ps (fnF ps.length N.length Fb) := by
  refine ⟨fun ts st r e => ?_, fun A outer s H args us vs ρ ts st0 t st' Q hr hg e0 hb rv wd rs e q => ?_⟩
  · unfold fnF at e
    split at e
    · assumption
    · cases e
  · unfold fnF at e
    split at e
    · rename_i hts
      cases hB : Fb (ts.map some ++ List.replicate (N.length - ts.length) none) st0 with
      | none => simp [hB] at e
      | some o =>
        simp only [hB, Option.bind_some] at e
        have hvl : vs.length = ps.length := by rw [← rs.length]; exact hts
        have KX : K.In s.heap := e0.mod.kin.keeps fun b o eb => (e0.bs b o eb).1
        have lim : s.heap.NoLimit := e0.mod.nolimit.keeps fun b o eb => (e0.bs b o eb).1
        have hkinds : ∀ y ∈ ps.zip us, (defScope st).names.lookup y.1 = some .local ∨ ((defScope st).names.lookup y.1 = some .cell ∧ ((cellsFrom (s.heap.objs.size + 1) (defScope st).names []).lookup y.1).isSome = true) := fun ⟨n, u⟩ hy => by
          rcases S.par n (List.of_mem_zip hy).1 with z | z
          · exact .inl z
          · exact .inr ⟨z, PySem.W.cellsFrom_some _ _ _ (.inl z)⟩
        refine codeAny_call_function hr.depth (KX _ _ lk) rfl S.co S.gen rfl (PySem.W.codeRec_of KX hcd) (hb _ _ _ _ ?_)
        refine wpAny_newFunctionEnv_cells S.kind hkinds fun env henv s1 x1 => ?_
        subst henv
        refine ⟨lim.keeps x1.toInCall.keep, codeAny_func ?_⟩
        have I0 : Inv (cxOf CX0 P w K mg base N qual (defScope st) f cdv A outer s H E0) [] (L2.start N vs) H s1 := inv_start S hr.hd e0 hvl rv x1
        have hB2 := hbody A outer s H (hr.deeper _) (by rw [show (A.deeper (envOfC qual (defScope st) s.heap.objs.size f cdv)).guards = A.guards from rfl]; exact hg)
        have hN : ts.length ≤ N.length := by
          have := congrArg List.length S.pre
          rw [List.length_take] at this
          omega
        have hss := hB2 _ st0 ρ (L2.start N vs) H o (slots_start rs hN) wd hB { nx := fun _ H' => Q .non H', rt := Q } (by
          cases o with
          | nx e1 s1 =>
            cases e
            exact fun σ' H' ρ' f' w' _ => q .non H' ρ' f' w' .non
          | rt t1 s1 =>
            cases e
            exact q
          | bk e1 s1 => cases e
          | ct e1 s1 => cases e)
        have hw := (PSs.nox ⟨fun pins s2 σ2 H2 D I (h : Wss (cx0 P w K mg base N qual (defScope st) f cdv A outer s H E0) (defBody st) D σ2 H2) => h pins s2 I⟩ : PSs (cxOf CX0 P w K mg base N qual (defScope st) f cdv A outer s H E0) (defBody st) _).run [] s1 (L2.start N vs) H _ I0 hss
        have done : ∀ {σ' : St} {H' : Hp} {v : V} {u : Value} {s' : Shared}, Inv (cxOf CX0 P w K mg base N qual (defScope st) f cdv A outer s H E0) [] σ' H' s' → RelV v u → Q v H' → CE outer P w H s Q u s' :=
          fun {σ' H' v u s'} J rv q => ⟨v, H', J.os, J.bare, J.base, J.hok, rv, q⟩
        refine wpAny_mono hw (fun fl s' hs => ?_) fun e s' hs => hs
        cases fl with
        | ret u => obtain ⟨v, σ', H', J, r1, q1⟩ := hs; exact done J r1 q1
        | next => obtain ⟨σ', H', J, q1⟩ := hs; exact done (v := V.non) (u := Value.none) J rfl q1
        | brk => obtain ⟨_, _, _, z⟩ := hs; exact z.elim
        | cont => obtain ⟨_, _, _, z⟩ := hs; exact z.elim
    · cases e
theorem FnT.of {x qual : Str} {st : Stmt} {f : Addr} {fd : FuncData} {N ps : List Str} {k : Nat} {Fb : XS} (F : Fun K x qual st f fd) (S : FnScope N ps (defScope st))
    (hbody : ∀ (cdv : Value) (A : Around) (outer : List Env) (s : Shared) (H : Hp), Room k (A.deeper (envOfC qual (defScope st) s.heap.objs.size f cdv)) → (A.deeper (envOfC qual (defScope st) s.heap.objs.size f cdv)).guards = some [] →
      SST (cx0 P w K mg base N qual (defScope st) f cdv A outer s H E0) (defBody st) Fb) : FnT P w K mg base (k + 1) f fd ps (fnF ps.length N.length Fb) := by
  obtain ⟨oc, od, kV, doc, pm, an, cdv, ct, osl, rfl, lk, hcd⟩ := F.ex
  exact FnT.ofL lk hcd S fun A outer s H => hbody cdv A outer s H
end
section
variable {X : Cx} {k : Nat} {f : Addr} {fd : FuncData} {ps : List Str} {F : FA} {x : Str} {p pos : Pos} {e : Expr} {es : List Expr} {fr : XA}
theorem et_call (G : FnT X.prog X.w X.K X.mg X.base k f fd ps F) (hr : Room k X.A) (hgu : X.A.guards = some []) (hm : X.mg x = some (.ref f)) (hk : PySem.W.keepIn X.K (.ref f) = true) (hb : Binds X.K fd ps []) (ha : AT X (e :: es) fr)
    (hg : Gl X x := by rfl) (hdb : (x == ("__debug__" : Str)) = false := by decide +kernel) (he : starEach (e :: es) X.env = (false, eval e X.env) :: starEach es X.env := by rfl) (hpl : (backTo pos (starEach es X.env)).any (·.1) = false := by rfl) :
    ET X (.Call (.Name x p) (e :: es) [] pos) (xCall F fr) := by
  intro env st ρ σ H t st' s w e1 Q q
  obtain ⟨ts, st1, e2, e3⟩ := many e1
  intro pins s0 I
  refine wpAny_Call_Name_kw (ld_glob I hg hm ?_ hdb)
  have hA := (Wa.pa.run pos pins s0 σ H _ I (ha env st ρ σ H ts st1 s w e2 (fun vs H1 => ∃ ρ1, Fut H H1 ρ ρ1 ∧ Wd (kx X) ρ1 st1 H1 ∧ Reps (kx X) H1 ρ1 ts vs) fun vs H1 ρ1 f1 w1 r1 => ⟨ρ1, f1, w1, r1⟩))
  refine PySem.W.callWith_K (h₀ := X.base) I.ok.mod.kin hk (thn hA fun us s1 ⟨vs, H1, I1, r, ρ1, f1, w1, r1⟩ => ⟨I1.kIn, ?_⟩) he hpl
  have hlen : (us ++ []).length = ps.length := by
    rw [List.append_nil, ← r.length, ← r1.length]; exact G.len ts st1 _ e3
  have hbb := hb s1 us I1.kIn hlen
  rw [List.append_nil] at hbb
  refine wpAny_call (codeAny_mono (G.run X.A X.stack s1 H1 ⟨us, []⟩ us vs ρ1 ts st1 t st' Q hr hgu I1.env0 hbb r w1 r1 e3 (q.up f1)) fun rr s2 hq => ?_)
  cases rr with
  | error e => exact False.elim hq
  | ok fl =>
    cases fl with
    | ret u => exact I1.after hq
    | next => exact False.elim hq
    | brk => exact False.elim hq
    | cont => exact False.elim hq
end
end TL
/-! TL6 -/
set_option Elab.async false
set_option linter.all false
set_option maxRecDepth 100000
set_option maxHeartbeats 4000000
namespace TL
variable [Tb]
open PySem PySem.Spec PyProof.Rows L2
/-! ### data as a whole: ==, in, repr -/
def optAll {α : Type} (f : T → Option α) : List T → Option (List α)
  | [] => some []
  | t :: ts => match f t, optAll f ts with
    | some d, some ds => some (d :: ds)
    | _, _ => none
def toD (st : Store) : Nat → T → Option PyData
  | _, .non => some .none
  | _, .bl b => some (.bool b)
  | _, .int i => some (.int i)
  | _, .str x => some (.str x)
  | _, .rdl ns => some (.list (ns.map .int))
  | 0, .tup _ => none
  | 0, .ref _ => none
  | n + 1, .tup ts => (optAll (toD st n) ts).map .tuple
  | n + 1, .ref l => match st[l]? with
    | some (.lst ts) => (optAll (toD st n) ts).map .list
    | _ => none
section
variable {K : KX} {H : Hp} {ρ : List Addr} {st : Store}
theorem dps_ints : ∀ ns : List Int, DpAll K.K H (ns.map V.int) (ns.map PyData.int)
  | [] => .nil
  | n :: ns => .cons (.int n) (dps_ints ns)
theorem toDs_dp {f : T → Option PyData} (h : ∀ t d v, f t = some d → Rep K H ρ t v → Dp K.K H v d) : ∀ (ts : List T) (ds : List PyData) (vs : List V), optAll f ts = some ds → Reps K H ρ ts vs → DpAll K.K H vs ds
  | [], ds, vs, e, r => by
    cases r
    cases e
    exact .nil
  | t :: ts, ds, vs, e, r => by
    unfold optAll at e
    cases r with
    | cons a b =>
      split at e
      · rename_i d ds' h1 h2
        cases e
        exact .cons (h _ _ _ h1 a) (toDs_dp h ts _ _ h2 b)
      · cases e
theorem toD_dp (w : Wd K ρ st H) : ∀ (n : Nat) (t : T) (d : PyData) (v : V), toD st n t = some d → Rep K H ρ t v → Dp K.K H v d
  | 0, .non, d, v, e, r => by cases r; cases e; exact .non
  | 0, .bl b, d, v, e, r => by cases r; cases e; exact .bl b
  | 0, .int b, d, v, e, r => by cases r; cases e; exact .int b
  | 0, .str b, d, v, e, r => by cases r; cases e; exact .str b
  | 0, .rdl b, d, v, e, r => by
    cases e
    cases r with
    | rdl h => exact .lst h.sq (dps_ints _)
  | 0, .tup ts, d, v, e, r => by cases e
  | 0, .ref l, d, v, e, r => by cases e
  | n + 1, .non, d, v, e, r => by cases r; cases e; exact .non
  | n + 1, .bl b, d, v, e, r => by cases r; cases e; exact .bl b
  | n + 1, .int b, d, v, e, r => by cases r; cases e; exact .int b
  | n + 1, .str b, d, v, e, r => by cases r; cases e; exact .str b
  | n + 1, .rdl b, d, v, e, r => by
    cases e
    cases r with
    | rdl h => exact .lst h.sq (dps_ints _)
  | n + 1, .tup ts, d, v, e, r => by
    unfold toD at e
    cases h : optAll (toD st n) ts with
    | none => rw [h] at e; cases e
    | some ds =>
      rw [h] at e
      cases e
      cases r with
      | tup a b => exact .tup a (toDs_dp (fun t d v => toD_dp w n t d v) ts ds _ h b)
  | n + 1, .ref l, d, v, e, r => by
    unfold toD at e
    split at e
    · rename_i ts hl
      cases h : optAll (toD st n) ts with
      | none => rw [h] at e; cases e
      | some ds =>
        rw [h] at e
        cases e
        cases r with
        | ref ha =>
          obtain ⟨vs, h1, h2⟩ := w.addr hl ha
          exact .lst (SqL.of h1) (toDs_dp (fun t d v => toD_dp w n t d v) ts ds _ h h2)
    · cases e
end
def dpth : Nat := 12
/-- == of any data -/
def eqdT (neg : Bool) : F2 := fun x y st => match toD st dpth x, toD st dpth y with
  | some d, some e => if SeqAt.shaped d && SeqAt.shaped e then some (.bl (if neg then !PyData.eqv d e else PyData.eqv d e), st) else none
  | _, _ => none
def eqT : F2
  | .int i, .int j, st => some (.bl (decide (i = j)), st)
  | .str x, .str y, st => some (.bl (decide (x = y)), st)
  | .bl x, .bl y, st => some (.bl (decide (x = y)), st)
  | x, y, st => eqdT false x y st
def neT : F2
  | .int i, .int j, st => some (.bl (!decide (i = j)), st)
  | .str x, .str y, st => some (.bl (!decide (x = y)), st)
  | .bl x, .bl y, st => some (.bl (!decide (x = y)), st)
  | x, y, st => eqdT true x y st
def inT (neg : Bool) : F2 := fun x y st => match toD st dpth x, toD st dpth y with
  | some d, some (.list ds) => if SeqAt.shaped d && SeqAt.shaped (.list ds) then some (.bl (if neg then !ds.any (fun z => PyData.eqv z d) else ds.any (fun z => PyData.eqv z d)), st) else none
  | _, _ => none
section
variable {X : Cx}
theorem ot_eqd (hu : X.A.units + 64 < cLine) : OpT X (compareOp .Eq) (eqdT false) := by
  intro ρ st H x y t st' vx vy w rx ry e Q q
  unfold eqdT at e
  split at e
  · rename_i d d' h1 h2
    split at e
    · rename_i hs
      cases e
      rw [Bool.and_eq_true] at hs
      exact ⟨_, op_eqD hu, d, d', toD_dp w _ _ _ _ h1 rx, toD_dp w _ _ _ _ h2 ry, hs.1, hs.2, q _ _ _ (Fut.refl _ _) w (.bl _)⟩
    · cases e
  · cases e
theorem ot_ned (hu : X.A.units + 64 < cLine) : OpT X (compareOp .NotEq) (eqdT true) := by
  intro ρ st H x y t st' vx vy w rx ry e Q q
  unfold eqdT at e
  split at e
  · rename_i d d' h1 h2
    split at e
    · rename_i hs
      cases e
      rw [Bool.and_eq_true] at hs
      exact ⟨_, op_neD hu, d, d', toD_dp w _ _ _ _ h1 rx, toD_dp w _ _ _ _ h2 ry, hs.1, hs.2, q _ _ _ (Fut.refl _ _) w (.bl _)⟩
    · cases e
  · cases e
theorem dec_i (i j : Int) : decide (V.int i = V.int j) = decide (i = j) := by simp
theorem dec_s (i j : Str) : decide (V.str i = V.str j) = decide (i = j) := by simp
theorem dec_b (i j : Bool) : decide (V.bl i = V.bl j) = decide (i = j) := by simp
theorem ot_eq (hu : X.A.units + 64 < cLine) : OpT X (compareOp .Eq) eqT := by
  intro ρ st H x y t st' vx vy w rx ry e Q q
  unfold eqT at e
  split at e
  · cases e; cases rx; cases ry
    exact ⟨_, op_eq, rfl, by rw [dec_i]; exact q _ _ _ (Fut.refl _ _) w (.bl _)⟩
  · cases e; cases rx; cases ry
    exact ⟨_, op_eq, rfl, by rw [dec_s]; exact q _ _ _ (Fut.refl _ _) w (.bl _)⟩
  · cases e; cases rx; cases ry
    exact ⟨_, op_eq, rfl, by rw [dec_b]; exact q _ _ _ (Fut.refl _ _) w (.bl _)⟩
  · exact ot_eqd hu ρ st H _ _ t st' vx vy w rx ry e Q q
theorem ot_ne (hu : X.A.units + 64 < cLine) : OpT X (compareOp .NotEq) neT := by
  intro ρ st H x y t st' vx vy w rx ry e Q q
  unfold neT at e
  split at e
  · cases e; cases rx; cases ry
    exact ⟨_, op_ne, rfl, by rw [dec_i]; exact q _ _ _ (Fut.refl _ _) w (.bl _)⟩
  · cases e; cases rx; cases ry
    exact ⟨_, op_ne, rfl, by rw [dec_s]; exact q _ _ _ (Fut.refl _ _) w (.bl _)⟩
  · cases e; cases rx; cases ry
    exact ⟨_, op_ne, rfl, by rw [dec_b]; exact q _ _ _ (Fut.refl _ _) w (.bl _)⟩
  · exact ot_ned hu ρ st H _ _ t st' vx vy w rx ry e Q q
theorem ot_in (hu : X.A.units + 65 < cLine) : OpT X (compareOp .In) (inT false) := by
  intro ρ st H x y t st' vx vy w rx ry e Q q
  unfold inT at e
  split at e
  · rename_i d ds h1 h2
    split at e
    · rename_i hs
      cases e
      rw [Bool.and_eq_true] at hs
      exact ⟨_, op_inD hu, d, ds, toD_dp w _ _ _ _ h1 rx, toD_dp w _ _ _ _ h2 ry, hs.1, hs.2, q _ _ _ (Fut.refl _ _) w (.bl _)⟩
    · cases e
  · cases e
theorem ot_notin (hu : X.A.units + 65 < cLine) : OpT X (compareOp .NotIn) (inT true) := by
  intro ρ st H x y t st' vx vy w rx ry e Q q
  unfold inT at e
  split at e
  · rename_i d ds h1 h2
    split at e
    · rename_i hs
      cases e
      rw [Bool.and_eq_true] at hs
      exact ⟨_, op_notInD hu, d, ds, toD_dp w _ _ _ _ h1 rx, toD_dp w _ _ _ _ h2 ry, hs.1, hs.2, q _ _ _ (Fut.refl _ _) w (.bl _)⟩
    · cases e
  · cases e
end
/-- repr of a list or tuple of data -/
def reprT : FA
  | [.tup ts], st => match toD st dpth (.tup ts) with
    | some d => if d.showable && !d.hasDict && decide (d.depth ≤ 60) && decide (d.shown.length ≤ sizeLine) then some (.str d.shown, st) else none
    | _ => none
  | [.ref l], st => match toD st dpth (.ref l) with
    | some d => if d.showable && !d.hasDict && decide (d.depth ≤ 60) && decide (d.shown.length ≤ sizeLine) then some (.str d.shown, st) else none
    | _ => none
  | _, _ => none
section
variable {X : Cx}
theorem cr_repr (hu : X.A.units + 64 < cLine) (hg : X.A.guards = some []) : CallR X (.builtin "repr") (fun xs H Q => ∃ (a : Addr) (d : PyData), xs = [.ref a] ∧ Dp X.K H (.ref a) d ∧ d.showable = true ∧ d.hasDict = false ∧ d.depth ≤ 60 ∧ d.shown.length ≤ sizeLine ∧ Q (.str d.shown) H) := by
  intro pins s σ H xs us Q I r h
  obtain ⟨a, d, rfl, hd, h1, h2, h3, h4, q⟩ := h
  obtain ⟨u, rfl, ru⟩ := r.one
  cases ru
  obtain ⟨as, rd⟩ := Dp.reads I d (.ref a) (.ref a) hd rfl
  exact PySem.repr_of_reads' rd h1 (fun z => by rw [h2] at z; cases z) hg (by omega) (fun _ _ e => e) (fun h' u tk hk => ⟨.str d.shown, H, I.kept hk, ⟨u, rfl⟩, q⟩) h4
theorem ct_repr (hu : X.A.units + 64 < cLine) (hg : X.A.guards = some []) : CallT X (.builtin "repr") reprT := by
  intro ρ st H ts t st' vs w rs e Q q
  unfold reprT at e
  split at e
  · split at e
    · rename_i d hd
      split at e
      · rename_i hc
        cases e
        simp only [Bool.and_eq_true, decide_eq_true_eq, Bool.not_eq_true'] at hc
        obtain ⟨⟨⟨c1, c2⟩, c3⟩, c4⟩ := hc
        cases rs with
        | cons r1 r2 =>
          cases r2
          have dp := toD_dp w _ _ _ _ hd r1
          cases r1 with
          | tup a b => exact ⟨_, cr_repr hu hg, _, d, rfl, dp, c1, c2, c3, c4, q _ _ _ (Fut.refl _ _) w (.str _)⟩
      · cases e
    · cases e
  · split at e
    · rename_i d hd
      split at e
      · rename_i hc
        cases e
        simp only [Bool.and_eq_true, decide_eq_true_eq, Bool.not_eq_true'] at hc
        obtain ⟨⟨⟨c1, c2⟩, c3⟩, c4⟩ := hc
        cases rs with
        | cons r1 r2 =>
          cases r2
          have dp := toD_dp w _ _ _ _ hd r1
          cases r1 with
          | ref a => exact ⟨_, cr_repr hu hg, _, d, rfl, dp, c1, c2, c3, c4, q _ _ _ (Fut.refl _ _) w (.str _)⟩
      · cases e
    · cases e
  · cases e
/-! ### functions that are built in -/
def absT : FA
  | [.int i], st => some (.int (if i < 0 then -i else i), st)
  | _, _ => none
def intT : FA
  | [.int i], st => some (.int i, st)
  | [.bl k], st => some (.int (if k then 1 else 0), st)
  | _, _ => none
def lenT : FA
  | [.tup ts], st => some (.int ts.length, st)
  | [.ref l], st => match st[l]? with
    | some (.lst ts) => some (.int ts.length, st)
    | _ => none
  | [.rdl ns], st => some (.int ns.length, st)
  | [.str z], st => if z.length ≤ sizeLine then some (.int z.length, st) else none
  | _, _ => none
def gcdT : FA
  | [.int a, .int b], st => some (.int ((Nat.gcd a.natAbs b.natAbs : Nat) : Int), st)
  | _, _ => none
def lcmT : FA
  | [.int a, .int b], st => if a.natAbs.log2 < 6000 ∧ b.natAbs.log2 < 6000 then some (.int ((Nat.lcm a.natAbs b.natAbs : Nat) : Int), st) else none
  | _, _ => none
def tupleT : FA
  | [.tup ts], st => some (.tup ts, st)
  | [.ref l], st => match st[l]? with
    | some (.lst ts) => some (.tup ts, st)
    | _ => none
  | _, _ => none
def listT : FA
  | [.tup ts], st => some (.ref st.length, st ++ [.lst ts])
  | [.ref l], st => match st[l]? with
    | some (.lst ts) => some (.ref st.length, st ++ [.lst ts])
    | _ => none
  | _, _ => none
def intsOf (ts : List T) : Option (List Int) := optAll (fun t => match t with
  | .int i => some i
  | _ => none) ts
def blsOf (ts : List T) : Option (List Bool) := optAll (fun t => match t with
  | .bl i => some i
  | _ => none) ts
def sumT : FA
  | [.ref l], st => match st[l]? with
    | some (.lst ts) => (intsOf ts).map fun ns => (.int ns.sum, st)
    | _ => none
  | _, _ => none
def allT : FA
  | [.ref l], st => match st[l]? with
    | some (.lst ts) => (blsOf ts).map fun ns => (.bl (ns.all id), st)
    | _ => none
  | _, _ => none
theorem optAll_reps {α : Type} {K : KX} {H : Hp} {ρ : List Addr} {f : T → Option α} {g : α → V} (h : ∀ t a v, f t = some a → Rep K H ρ t v → v = g a) : ∀ (ts : List T) (as : List α) (vs : List V), optAll f ts = some as → Reps K H ρ ts vs → vs = as.map g
  | [], as, vs, e, r => by cases r; cases e; rfl
  | t :: ts, as, vs, e, r => by
    unfold optAll at e
    cases r with
    | cons a b =>
      split at e
      · rename_i d ds' h1 h2
        cases e
        rw [List.map_cons, h _ _ _ h1 a, optAll_reps h ts _ _ h2 b]
      · cases e
theorem ints_rep {K : KX} {H : Hp} {ρ : List Addr} {ts : List T} {ns : List Int} {vs : List V} (e : intsOf ts = some ns) (r : Reps K H ρ ts vs) : vs = ns.map V.int :=
  optAll_reps (g := V.int) (fun t a v h1 h2 => by
    cases h2 <;> simp at h1
    rw [h1]) ts ns vs e r
theorem bls_rep {K : KX} {H : Hp} {ρ : List Addr} {ts : List T} {ns : List Bool} {vs : List V} (e : blsOf ts = some ns) (r : Reps K H ρ ts vs) : vs = ns.map V.bl :=
  optAll_reps (g := V.bl) (fun t a v h1 h2 => by
    cases h2 <;> simp at h1
    rw [h1]) ts ns vs e r
theorem ct_abs : CallT X (.builtin "abs") absT := by
  intro ρ st H ts t st' vs w rs e Q q
  unfold absT at e
  split at e
  · cases e
    cases rs with
    | cons r1 r2 =>
      cases r1; cases r2
      exact ⟨_, call_abs, _, rfl, q _ _ _ (Fut.refl _ _) w (.int _)⟩
  · cases e
theorem ct_int : CallT X (.type "int") intT := by
  intro ρ st H ts t st' vs w rs e Q q
  unfold intT at e
  split at e
  · cases e
    cases rs with
    | cons r1 r2 =>
      cases r1; cases r2
      exact ⟨_, call_int1, .inl ⟨_, rfl, q _ _ _ (Fut.refl _ _) w (.int _)⟩⟩
  · cases e
    cases rs with
    | cons r1 r2 =>
      cases r1; cases r2
      exact ⟨_, call_int1, .inr ⟨_, rfl, q _ _ _ (Fut.refl _ _) w (.int _)⟩⟩
  · cases e
theorem ct_len : CallT X (.builtin "len") lenT := by
  intro ρ st H ts t st' vs w rs e Q q
  unfold lenT at e
  split at e
  · cases e
    cases rs with
    | cons r1 r2 =>
      cases r2
      cases r1 with
      | tup a b => exact ⟨_, call_len_seq, _, _, rfl, .inr a, by rw [← b.length]; exact q _ _ _ (Fut.refl _ _) w (.int _)⟩
  · split at e
    · rename_i hl
      cases e
      cases rs with
      | cons r1 r2 =>
        cases r2
        obtain ⟨a, us, rfl, _, h1, r3⟩ := rep_lst w r1 hl
        exact ⟨_, call_len_seq, _, _, rfl, .inl (SqL.of h1), by rw [← r3.length]; exact q _ _ _ (Fut.refl _ _) w (.int _)⟩
    · cases e
  · cases e
    cases rs with
    | cons r1 r2 =>
      cases r2
      cases r1 with
      | rdl h => exact ⟨_, call_len_seq, _, _, rfl, .inl h.sq, by rw [List.length_map]; exact q _ _ _ (Fut.refl _ _) w (.int _)⟩
  · split at e
    · rename_i hz
      cases e
      cases rs with
      | cons r1 r2 =>
        cases r1; cases r2
        exact ⟨_, call_len_str, _, rfl, hz, q _ _ _ (Fut.refl _ _) w (.int _)⟩
    · cases e
  · cases e
theorem ct_gcd : CallT X (.builtin "math.gcd") gcdT := by
  intro ρ st H ts t st' vs w rs e Q q
  unfold gcdT at e
  split at e
  · cases e
    cases rs with
    | cons r1 r2 =>
      cases r2 with
      | cons r2 r3 =>
        cases r1; cases r2; cases r3
        exact ⟨_, cr_gcd, _, _, rfl, q _ _ _ (Fut.refl _ _) w (.int _)⟩
  · cases e
theorem cr_lcm : CallR X (.builtin "math.lcm") (fun vs H Q => ∃ a b : Int, vs = [.int a, .int b] ∧ a.natAbs.log2 < 6000 ∧ b.natAbs.log2 < 6000 ∧ Q (.int ((Nat.lcm a.natAbs b.natAbs : Nat) : Int)) H) := by
  intro pins s σ H vs us Q I r h
  obtain ⟨a, b, rfl, ha, hb, q⟩ := h
  obtain ⟨u1, u2, rfl, ⟨t, rfl⟩, ⟨u, rfl⟩⟩ := r.two
  have e1 : Nat.lcm 1 a.natAbs = a.natAbs := by simp
  have hm : (max 1 a.natAbs).log2 < 6000 := by
    rcases Nat.le_total 1 a.natAbs with h | h
    · rw [Nat.max_eq_right h]; exact ha
    · rw [Nat.max_eq_left h]; decide
  have hm2 : (max a.natAbs b.natAbs).log2 < 6000 := by
    rcases Nat.le_total a.natAbs b.natAbs with h | h
    · rw [Nat.max_eq_right h]; exact hb
    · rw [Nat.max_eq_left h]; exact ha
  have hlt : ∀ n : Nat, n.log2 < 6000 → n < 2 ^ 6000 := fun n h => Nat.lt_of_lt_of_le Nat.lt_log2_self (Nat.pow_le_pow_right (by decide) h)
  have hle : Nat.lcm a.natAbs b.natAbs ≤ a.natAbs * b.natAbs := by
    unfold Nat.lcm
    exact Nat.div_le_self _ _
  have hsz : ((((Nat.lcm 1 a.natAbs).lcm b.natAbs : Nat) : Int)).natAbs.log2 < bitsLine := by
    rw [e1, Int.natAbs_natCast]
    by_cases h0 : Nat.lcm a.natAbs b.natAbs = 0
    · rw [h0]; decide +kernel
    · have h2 : Nat.lcm a.natAbs b.natAbs < 2 ^ 12000 := by
        refine Nat.lt_of_le_of_lt hle ?_
        rw [show (12000 : Nat) = 6000 + 6000 from rfl, Nat.pow_add]
        exact Nat.mul_lt_mul'' (hlt _ ha) (hlt _ hb)
      have h3 := (Nat.log2_lt h0).mpr h2
      exact Nat.lt_trans h3 (by decide +kernel)
  refine PySem.call_function_meets PySem.W.MGF.kind_lcm PySem.W.MGF.plain_lcm PySem.W.MGF.entry_lcm (PySem.W.MGF.args_lcm _ _) (PySem.W.mg_run_lcm a t b u (by omega) (by omega) hsz).meets ?_
  rw [e1]
  exact ⟨.int _, H, I.tok _, ⟨_, rfl⟩, q⟩
theorem ct_lcm : CallT X (.builtin "math.lcm") lcmT := by
  intro ρ st H ts t st' vs w rs e Q q
  unfold lcmT at e
  split at e
  · split at e
    · rename_i hz
      cases e
      cases rs with
      | cons r1 r2 =>
        cases r2 with
        | cons r2 r3 =>
          cases r1; cases r2; cases r3
          exact ⟨_, cr_lcm, _, _, rfl, hz.1, hz.2, q _ _ _ (Fut.refl _ _) w (.int _)⟩
    · cases e
  · cases e
theorem ct_tuple : CallT X (.type "tuple") tupleT := by
  intro ρ st H ts t st' vs w rs e Q q
  unfold tupleT at e
  split at e
  · cases e
    cases rs with
    | cons r1 r2 =>
      cases r2
      cases r1 with
      | tup a b => exact ⟨_, call_tupleT, _, _, rfl, a, q _ _ _ (Fut.refl _ _) w (.tup a b)⟩
  · split at e
    · rename_i hl
      cases e
      cases rs with
      | cons r1 r2 =>
        cases r2
        obtain ⟨a, us, rfl, _, h1, r3⟩ := rep_lst w r1 hl
        exact ⟨_, call_tuple_of, _, _, rfl, .inl ⟨SqL.of h1, fun p hp => new_tup w r3 q hp⟩⟩
    · cases e
  · cases e
theorem ct_list : CallT X (.type "list") listT := by
  intro ρ st H ts t st' vs w rs e Q q
  unfold listT at e
  split at e
  · cases e
    cases rs with
    | cons r1 r2 =>
      cases r2
      cases r1 with
      | tup a b => exact ⟨_, call_list_of, _, _, rfl, .inr a, fun p hp => new_lst w b q hp⟩
  · split at e
    · rename_i hl
      cases e
      cases rs with
      | cons r1 r2 =>
        cases r2
        obtain ⟨a, us, rfl, _, h1, r3⟩ := rep_lst w r1 hl
        exact ⟨_, call_list_of, _, _, rfl, .inl (SqL.of h1), fun p hp => new_lst w r3 q hp⟩
    · cases e
  · cases e
theorem ct_sum (hc : X.calm = true) : CallT X (.builtin "sum") sumT := by
  intro ρ st H ts t st' vs w rs e Q q
  unfold sumT at e
  split at e
  · split at e
    · rename_i ts2 hl
      cases h : intsOf ts2 with
      | none => rw [h] at e; cases e
      | some ns =>
        rw [h] at e
        cases e
        cases rs with
        | cons r1 r2 =>
          cases r2
          obtain ⟨a, us, rfl, _, h1, r3⟩ := rep_lst w r1 hl
          exact ⟨_, cr_sum hc, _, ns, rfl, by rw [← ints_rep h r3]; exact SqL.of h1, q _ _ _ (Fut.refl _ _) w (.int _)⟩
    · cases e
  · cases e
theorem ct_all (hc : X.calm = true) : CallT X (.builtin "all") allT := by
  intro ρ st H ts t st' vs w rs e Q q
  unfold allT at e
  split at e
  · split at e
    · rename_i ts2 hl
      cases h : blsOf ts2 with
      | none => rw [h] at e; cases e
      | some ns =>
        rw [h] at e
        cases e
        cases rs with
        | cons r1 r2 =>
          cases r2
          obtain ⟨a, us, rfl, _, h1, r3⟩ := rep_lst w r1 hl
          exact ⟨_, cr_all hc, _, ns, rfl, by rw [← bls_rep h r3]; exact SqL.of h1, q _ _ _ (Fut.refl _ _) w (.bl _)⟩
    · cases e
  · cases e
end
/-! ### what is walked -/
def xiSeq (f : XE) : XI := fun e st => (f e st).bind fun p => match p.1 with
  | .tup ts => some (fun _ => some ts, p.2)
  | .ref l => match p.2[l]? with
    | some (.lst _) => some (fun st => match st[l]? with
      | some (.lst ts) => some ts
      | _ => none, p.2)
    | _ => none
  | .rdl ns => some (fun _ => some (ns.map T.int), p.2)
  | _ => none
def rngs (lo : Int) (n : Nat) : List T := (List.range n).map fun i : Nat => T.int (lo + (i : Int))
def xiRange1 (f : XE) : XI := fun e st => (f e st).bind fun p => match p.1 with
  | .int j => if -(2 ^ 62) ≤ j ∧ j < 2 ^ 62 then some (fun _ => some (rngs 0 j.toNat), p.2) else none
  | _ => none
def xiRange2 (f g : XE) : XI := fun e st => (f e st).bind fun p => (g e p.2).bind fun r => match p.1, r.1 with
  | .int i, .int j => if -(2 ^ 62) ≤ i ∧ i < 2 ^ 62 ∧ -(2 ^ 62) ≤ j ∧ j < 2 ^ 62 then some (fun _ => some (rngs i (j - i).toNat), r.2) else none
  | _, _ => none
section
variable {X : Cx} {tg a b : Expr} {fa fb : XE} {p pos : Pos}
theorem it_seq (ha : ET X a fa) : IT X tg a (xiSeq fa) := by
  intro env st ρ σ H it st' s w e R q
  unfold xiSeq at e
  cases h : fa env st with
  | none => simp [h] at e
  | some pr =>
    obtain ⟨t, s1⟩ := pr
    simp only [h, Option.bind_some] at e
    cases t with
    | tup ts =>
      cases e
      refine Wi.of (pi_tup We.pe) ?_
      refine ha env st ρ σ H _ _ s w h _ fun v H1 ρ1 f1 w1 r1 => ?_
      cases r1 with
      | tup hx rx =>
        refine ⟨_, rfl, ⟨_, hx⟩, q _ H1 ρ1 f1 w1 fun H2 ρ2 st2 ts2 f2 w2 e2 i => ?_⟩
        cases e2
        have hx2 := f2.e.sqT hx
        have rx2 := rx.up f2
        refine ⟨fun hi => ?_, fun hi => ⟨_, hx2, by rw [← rx.length, hi]; exact Nat.le_refl _⟩, fun x H3 y => ?_⟩
        · obtain ⟨v, hv, _⟩ := rx2.get (List.getElem?_eq_getElem hi)
          exact ⟨_, v, hx2, hv⟩
        · obtain ⟨rfl, y⟩ := y
          refine ⟨fun _ _ z => z, fun t ht => ?_⟩
          obtain ⟨v, hv, rv⟩ := rx2.get ht
          have := y _ hx2
          rw [hv] at this
          cases this
          exact rv
    | ref l =>
      cases hl : s1[l]? with
      | none => simp [hl] at e
      | some ob =>
        cases ob with
        | lst ts0 =>
          simp only [hl] at e
          cases e
          refine Wi.of (pi_list We.pe) ?_
          refine ha env st ρ σ H _ _ s w h _ fun v H1 ρ1 f1 w1 r1 => ?_
          obtain ⟨a0, vs0, rfl, ha0, h0, r0⟩ := rep_lst w1 r1 hl
          refine ⟨_, rfl, ⟨_, SqL.of h0⟩, q _ H1 ρ1 f1 w1 fun H2 ρ2 st2 ts2 f2 w2 e2 i => ?_⟩
          simp only at e2
          split at e2
          · rename_i ts3 h3
            cases e2
            obtain ⟨vs2, h4, r4⟩ := w2.addr h3 (f2.get ha0)
            refine ⟨fun hi => ?_, fun hi => ⟨_, SqL.of h4, by rw [← r4.length, hi]; exact Nat.le_refl _⟩, fun x H3 y => ?_⟩
            · obtain ⟨v, hv, _⟩ := r4.get (List.getElem?_eq_getElem hi)
              exact ⟨_, v, SqL.of h4, hv⟩
            · obtain ⟨rfl, y⟩ := y
              refine ⟨fun _ _ z => z, fun t ht => ?_⟩
              obtain ⟨v, hv, rv⟩ := r4.get ht
              have := y _ (SqL.of h4)
              rw [hv] at this
              cases this
              exact rv
          · cases e2
        | dK kvs => simp [hl] at e
        | dN kvs => simp [hl] at e
    | rdl ns =>
      cases e
      refine Wi.of (pi_list We.pe) ?_
      refine ha env st ρ σ H _ _ s w h _ fun v H1 ρ1 f1 w1 r1 => ?_
      cases r1 with
      | rdl hx =>
        refine ⟨_, rfl, ⟨_, hx.sq⟩, q _ H1 ρ1 f1 w1 fun H2 ρ2 st2 ts2 f2 w2 e2 i => ?_⟩
        cases e2
        have hx2 := (f2.e.rdl hx).sq
        have rx2 : Reps (kx X) H2 ρ2 (ns.map T.int) (ns.map V.int) := reps_ints ns
        refine ⟨fun hi => ?_, fun hi => ⟨_, hx2, by rw [← rx2.length, hi]; exact Nat.le_refl _⟩, fun x H3 y => ?_⟩
        · obtain ⟨v, hv, _⟩ := rx2.get (List.getElem?_eq_getElem hi)
          exact ⟨_, v, hx2, hv⟩
        · obtain ⟨rfl, y⟩ := y
          refine ⟨fun _ _ z => z, fun t ht => ?_⟩
          obtain ⟨v, hv, rv⟩ := rx2.get ht
          have := y _ hx2
          rw [hv] at this
          cases this
          exact rv
    | non => cases e
    | bl b => cases e
    | int i => cases e
    | str x => cases e
theorem rngs_get {lo : Int} {n i : Nat} {t : T} (h : (rngs lo n)[i]? = some t) : i < n ∧ t = .int (lo + (i : Int)) := by
  unfold rngs at h
  rw [List.getElem?_map] at h
  cases h1 : (List.range n)[i]? with
  | none => rw [h1] at h; cases h
  | some j =>
    rw [h1] at h
    cases h
    have h2 := List.getElem?_eq_some_iff.mp h1
    obtain ⟨h3, h4⟩ := h2
    simp at h3 h4
    subst h4
    exact ⟨h3, rfl⟩
theorem itOk_range {K : KX} {H : Hp} {ρ : List Addr} {lo : Int} {n : Nat} : ItOk K H ρ (fun _ => some (rngs lo n)) (Itr lo n) := by
  intro H2 ρ2 st2 ts2 f2 w2 e2 i
  cases e2
  have hl : (rngs lo n).length = n := by simp [rngs]
  refine ⟨fun hi => by rw [hl] at hi; exact hi, fun hi => by rw [hl] at hi; exact Nat.le_of_eq hi.symm, fun x H3 y => ?_⟩
  obtain ⟨rfl, rfl⟩ := y
  refine ⟨fun _ _ z => z, fun t ht => ?_⟩
  obtain ⟨_, rfl⟩ := rngs_get ht
  exact .int _
theorem it_range1 (ha : ET X a fa) (hm : X.mg "range" = none) (hg : Gl X "range" := by rfl) (hs : starEach [a] X.env = [(false, eval a X.env)] := by rfl) (hs2 : starEach [a] X.env = (false, eval a X.env) :: starEach [] X.env := by rfl) : IT X tg (.Call (.Name "range" p) [a] [] pos) (xiRange1 fa) := by
  intro env st ρ σ H it st' s w e R q
  unfold xiRange1 at e
  cases h : fa env st with
  | none => simp [h] at e
  | some pr =>
    obtain ⟨t, s1⟩ := pr
    simp only [h, Option.bind_some] at e
    split at e
    · split at e
      · rename_i hz
        cases e
        refine Wi.of (pi_range1 hg hm (pa_cons We.pe pa_nil hs2) hs) ?_
        refine ha env st ρ σ H _ _ s w h _ fun v H1 ρ1 f1 w1 r1 => ?_
        cases r1
        exact ⟨_, rfl, hz.1, hz.2, q _ H1 ρ1 f1 w1 itOk_range⟩
      · cases e
    · cases e
theorem it_range2 (ha : ET X a fa) (hb : ET X b fb) (hm : X.mg "range" = none) (hg : Gl X "range" := by rfl) (hs : starEach [a, b] X.env = [(false, eval a X.env), (false, eval b X.env)] := by rfl) (hs2 : starEach [b] X.env = [(false, eval b X.env)] := by rfl)
    (hs3 : starEach (a :: [b]) X.env = (false, eval a X.env) :: starEach [b] X.env := by rfl) (hs4 : starEach (b :: []) X.env = (false, eval b X.env) :: starEach [] X.env := by rfl) : IT X tg (.Call (.Name "range" p) [a, b] [] pos) (xiRange2 fa fb) := by
  intro env st ρ σ H it st' s w e R q
  unfold xiRange2 at e
  cases h : fa env st with
  | none => simp [h] at e
  | some pr =>
    obtain ⟨t, s1⟩ := pr
    simp only [h, Option.bind_some] at e
    cases h2 : fb env s1 with
    | none => simp [h2] at e
    | some pr2 =>
      obtain ⟨t2, s2⟩ := pr2
      simp only [h2, Option.bind_some] at e
      split at e
      · split at e
        · rename_i hz
          cases e
          refine Wi.of (pi_range2 hg hm (pa_cons We.pe (pa_cons We.pe pa_nil hs4) hs3) hs hs2) ?_
          refine ha env st ρ σ H _ _ s w h _ fun v H1 ρ1 f1 w1 r1 => ?_
          refine hb env _ ρ1 σ H1 _ _ (s.up f1) w1 h2 _ fun v2 H2 ρ2 f2 w2 r2 => ?_
          simp only at *
          subst_vars
          cases r1; cases r2
          exact ⟨_, _, rfl, hz, q _ H2 ρ2 (f1.trans f2) w2 itOk_range⟩
        · cases e
      · cases e
end
end TL
/-! TL7 -/
set_option Elab.async false
set_option linter.all false
set_option maxRecDepth 100000
set_option maxHeartbeats 4000000
namespace TL
variable [Tb]
open PySem PySem.Spec PyProof.Rows L2
/-! ### methods of lists -/
def MtU (X : Cx) (id : String) : V → List V → Hp → VK → Prop := fun x xs H Q => ∃ r, MtR X id r ∧ r x xs H Q
theorem MtU.ok {X : Cx} {id : String} : MtR X id (MtU X id) := fun pins s σ H x xs v us Q I rx rs h => let ⟨_, ho, q⟩ := h; ho pins s σ H x xs v us Q I rx rs q
abbrev FM := T → List T → Store → Option (T × Store)
/-- a method of values of a built-in type -/
def MtT (X : Cx) (Ty : String) (id : String) (f : FM) : Prop := ∀ ρ st H x ts t st' vx vs, Wd (kx X) ρ st H → Rep (kx X) H ρ x vx → Reps (kx X) H ρ ts vs → f x ts st = some (t, st') → ∀ Q, QE (kx X) H ρ t st' Q → MtU X id vx vs H Q
/-- the receiver is of the type, as the store stands ahead of the arguments -/
def isTy (Ty : String) (t : T) (st : Store) : Bool := match t with
  | .ref l => match st[l]? with
    | some (.lst _) => Ty == "list"
    | some (.dK _) => Ty == "dict"
    | _ => false
  | .str _ => Ty == "str"
  | .int _ => Ty == "int"
  | .rdl _ => Ty == "list"
  | _ => false
def xMeth (Ty : String) (f : FM) (a : XE) (r : XA) : XE := fun e st => (a e st).bind fun p => if isTy Ty p.1 p.2 then (r e p.2).bind fun q => f p.1 q.1 q.2 else none
def xMeth0 (Ty : String) (f : FM) (a : XE) : XE := fun e st => (a e st).bind fun p => if isTy Ty p.1 p.2 then f p.1 [] p.2 else none
def appendT : FM
  | .ref l, [x], st => match st[l]? with
    | some (.lst ts) => if ts.length < sizeLine then some (.non, st.set l (.lst (ts ++ [x]))) else none
    | _ => none
  | _, _, _ => none
def extendT : FM
  | .ref l, [.ref m], st => match st[l]?, st[m]? with
    | some (.lst ts), some (.lst us) => if ts.length + us.length ≤ sizeLine then some (.non, st.set l (.lst (ts ++ us))) else none
    | _, _ => none
  | _, _, _ => none
def insertT : FM
  | .ref l, [.int i, x], st => match st[l]? with
    | some (.lst ts) => if ts.length < sizeLine ∧ 0 ≤ i ∧ i < 2 ^ 63 then some (.non, st.set l (.lst (ts.take i.toNat ++ [x] ++ ts.drop i.toNat))) else none
    | _ => none
  | _, _, _ => none
section
variable {X : Cx} {o e : Expr} {es : List Expr} {fa : XE} {fr : XA} {name : Str} {apos cpos : Pos} {Ty id : String} {f : FM}
theorem isTy_ok {ρ : List Addr} {st : Store} {H : Hp} {t : T} {v : V} (w : Wd (kx X) ρ st H) (r : Rep (kx X) H ρ t v) (h : isTy Ty t st = true) : tyV X.K Ty v H := by
  unfold isTy at h
  split at h
  · split at h
    · rename_i hl
      obtain ⟨a, vs, rfl, _, h1, _⟩ := rep_lst w r hl
      exact .inl ⟨eq_of_beq h, _, SqL.of h1⟩
    · rename_i hl
      cases r with
      | ref ha =>
        obtain ⟨kws, h1, _⟩ := w.addr hl ha
        exact .inr (.inr (.inl ⟨eq_of_beq h, .inl ⟨_, h1⟩⟩))
    · cases h
  · cases r; exact eq_of_beq h
  · cases r; exact eq_of_beq h
  · cases r with
    | rdl hx => exact .inl ⟨eq_of_beq h, _, hx.sq⟩
  · cases h
theorem et_meth (pa : PlainAttrs Ty) (slot : Slot Ty name id) (hty : typeOf (.builtin id) = pure (.type "method_descriptor")) (hm : MtT X Ty id f) (ho : ET X o fa) (ha : AT X (e :: es) fr)
    (hbase : attributeBase o name X.env (eval o X.env) = eval o X.env := by rfl)
    (hfew : ((backTo cpos (starEach (e :: es) X.env)).all (fun x => !x.1) && (backToKw cpos (keywordEach [] X.env)).all (fun x => x.1.isSome)
      && decide ((e :: es).length + ([] : List Keyword).length + (if ([] : List Keyword).isEmpty then 0 else 1) < 30)) = true := by rfl)
    (hline : (apos.endLine == cpos.line) = true := by rfl) (hs : starEach (e :: es) X.env = (false, eval e X.env) :: starEach es X.env := by rfl) (hplain : (backTo cpos (starEach es X.env)).any (·.1) = false := by rfl) :
    ET X (.Call (.Attribute o name apos) (e :: es) [] cpos) (xMeth Ty f fa fr) := by
  intro env st ρ σ H t st' s w e1 Q q
  unfold xMeth at e1
  cases h : fa env st with
  | none => simp [h] at e1
  | some p =>
    obtain ⟨x, s1⟩ := p
    simp only [h, Option.bind_some] at e1
    split at e1
    · rename_i hi
      cases h2 : fr env s1 with
      | none => simp [h2] at e1
      | some p =>
        obtain ⟨ts, s2⟩ := p
        simp only [h2, Option.bind_some] at e1
        refine We.of (pe_bm pa slot hty MtU.ok We.pe Wa.pa hbase hfew hline hs hplain) ?_
        refine ho env st ρ σ H x s1 s w h _ fun v H1 ρ1 f1 w1 r1 => ⟨isTy_ok w1 r1 hi, ?_⟩
        refine ha env s1 ρ1 σ H1 ts s2 (s.up f1) w1 h2 _ fun vs H2 ρ2 f2 w2 r2 => ?_
        exact hm ρ2 s2 H2 x ts t st' v vs w2 (r1.up f2) r2 e1 Q (q.up (f1.trans f2))
    · cases e1
theorem et_meth0 (pa : PlainAttrs Ty) (slot : Slot Ty name id) (hty : typeOf (.builtin id) = pure (.type "method_descriptor")) (hm : MtT X Ty id f) (ho : ET X o fa)
    (hbase : attributeBase o name X.env (eval o X.env) = eval o X.env := by rfl) (hline : (apos.endLine == cpos.line) = true := by rfl) : ET X (.Call (.Attribute o name apos) [] [] cpos) (xMeth0 Ty f fa) := by
  intro env st ρ σ H t st' s w e1 Q q
  unfold xMeth0 at e1
  cases h : fa env st with
  | none => simp [h] at e1
  | some p =>
    obtain ⟨x, s1⟩ := p
    simp only [h, Option.bind_some] at e1
    split at e1
    · rename_i hi
      refine We.of (pe_bm0 pa slot hty MtU.ok We.pe hbase hline) ?_
      refine ho env st ρ σ H x s1 s w h _ fun v H1 ρ1 f1 w1 r1 => ⟨isTy_ok w1 r1 hi, ?_⟩
      exact hm ρ1 s1 H1 x [] t st' v [] w1 r1 .nil e1 Q (q.up f1)
    · cases e1
theorem put_lst {ρ : List Addr} {st : Store} {H : Hp} {l : Nat} {a : Addr} {ts : List T} {vs : List V} {t : T} {v : V} {Q : VK} (w : Wd (kx X) ρ st H) (ha : ρ[l]? = some a) (r : Reps (kx X) H ρ ts vs) (rv : Rep (kx X) H ρ t v) (q : QE (kx X) H ρ t (st.set l (.lst ts)) Q) : Q v (upd H a (.lst vs)) := by
  obtain ⟨u0, h0, i0⟩ := w.there ha
  have f0 : Fut H (upd H a (.lst vs)) ρ ρ := ⟨Ext.mut h0 i0, [], by simp⟩
  obtain ⟨w1, f⟩ := w.put (o := .lst ts) ha ⟨vs, upd_same, r.up f0⟩
  exact q _ _ _ f w1 (rv.up f)
theorem mm_append : MtT X "list" "list.append" appendT := by
  intro ρ st H x ts t st' vx vs w rx rs e Q q
  unfold appendT at e
  split at e
  · split at e
    · rename_i hl
      split at e
      · rename_i hz
        cases e
        obtain ⟨a, us, rfl, ha, h1, r1⟩ := rep_lst w rx hl
        cases rs with
        | cons r2 r3 =>
          cases r3
          exact ⟨_, mt_append, _, _, _, rfl, rfl, h1, by rw [← r1.length]; exact hz, put_lst w ha (r1.app (.cons r2 .nil)) .non q⟩
      · cases e
    · cases e
  · cases e
theorem mm_extend : MtT X "list" "list.extend" extendT := by
  intro ρ st H x ts t st' vx vs w rx rs e Q q
  unfold extendT at e
  split at e
  · split at e
    · rename_i hl hm
      split at e
      · rename_i hz
        cases e
        obtain ⟨a, us, rfl, ha, h1, r1⟩ := rep_lst w rx hl
        cases rs with
        | cons r2 r3 =>
          cases r3
          obtain ⟨b, ws, rfl, hb, h2, r4⟩ := rep_lst w r2 hm
          exact ⟨_, mt_extend, _, _, _, _, rfl, rfl, h1, h2, by rw [← r1.length, ← r4.length]; exact hz, put_lst w ha (r1.app r4) .non q⟩
      · cases e
    · cases e
  · cases e
theorem mm_insert : MtT X "list" "list.insert" insertT := by
  intro ρ st H x ts t st' vx vs w rx rs e Q q
  unfold insertT at e
  split at e
  · split at e
    · rename_i hl
      split at e
      · rename_i hz
        cases e
        obtain ⟨a, us, rfl, ha, h1, r1⟩ := rep_lst w rx hl
        cases rs with
        | cons r2 r3 =>
          cases r2
          cases r3 with
          | cons r4 r5 =>
            cases r5
            exact ⟨_, mt_insert, _, _, _, _, rfl, rfl, h1, by rw [← r1.length]; exact hz.1, hz.2.1, hz.2.2, put_lst w ha (((r1.take _).app (.cons r4 .nil)).app (r1.drop _)) .non q⟩
      · cases e
    · cases e
  · cases e
end
/-! ### stores to items -/
/-- o[i] = v -/
def setIxT (o i v : T) (st : Store) : Option Store := match o, i with
  | .ref l, .int k => match st[l]? with
    | some (.lst ts) => (ixN ts.length k).map fun j => st.set l (.lst (ts.set j v))
    | _ => none
  | _, _ => none
def xgSub (o i : XE) : XG := fun t e st => (o e st).bind fun p => (i e p.2).bind fun q => (setIxT p.1 q.1 t q.2).map fun s => (e, s)
def getL (o i : T) (st : Store) : Option T := match o, i with
  | .ref l, .int k => match st[l]? with
    | some (.lst ts) => atI ts k
    | _ => none
  | _, _ => none
theorem getL_inv {o i : T} {st : Store} {x : T} (e : getL o i st = some x) : ∃ l k ts, o = .ref l ∧ i = .int k ∧ st[l]? = some (.lst ts) ∧ atI ts k = some x := by
  unfold getL at e
  split at e
  · split at e
    · rename_i h
      exact ⟨_, _, _, rfl, rfl, h, e⟩
    · cases e
  · cases e
def xsAugS (o i : XE) (f2 : F2) (f : XE) : XS := fun e st => (o e st).bind fun p => (i e p.2).bind fun q => (getL p.1 q.1 q.2).bind fun x => (f e q.2).bind fun y => (f2 x y.1 y.2).bind fun z => (setIxT p.1 q.1 z.1 z.2).map fun s => .nx e s
def SetU (X : Cx) : TSet := fun o i v H Q => ∃ r : TSet, PSet X r ∧ r o i v H Q
theorem SetU.ok {X : Cx} : PSet X (SetU X) := fun pins s σ H o i v ov iv u Q I r1 r2 r3 h => let ⟨_, ho, q⟩ := h; ho pins s σ H o i v ov iv u Q I r1 r2 r3 q
section
variable {X : Cx} {o i e : Expr} {fo fi f : XE} {pos tpos : Pos}
theorem set_ok {ρ : List Addr} {st st' : Store} {H : Hp} {o i v : T} {vo vi vv : V} (w : Wd (kx X) ρ st H) (ro : Rep (kx X) H ρ o vo) (ri : Rep (kx X) H ρ i vi) (rv : Rep (kx X) H ρ v vv) (e : setIxT o i v st = some st') (Q : Hp → Prop) (q : ∀ H', Fut H H' ρ ρ → Wd (kx X) ρ st' H' → Q H') : SetU X vo vi vv H Q := by
  unfold setIxT at e
  split at e
  · split at e
    · rename_i ts hl
      cases hj : ixN ts.length _ with
      | none => rw [hj] at e; cases e
      | some j =>
        rw [hj] at e
        cases e
        cases ri
        obtain ⟨a, us, rfl, ha, h1, r1⟩ := rep_lst w ro hl
        obtain ⟨u0, h0, i0⟩ := w.there ha
        have f0 : Fut H (upd H a (.lst (us.set j vv))) ρ ρ := ⟨Ext.mut h0 i0, [], by simp⟩
        obtain ⟨w1, f⟩ := w.put (o := .lst (ts.set j v)) ha ⟨us.set j vv, upd_same, (r1.set j rv).up f0⟩
        exact ⟨_, set_list, _, _, _, j, rfl, rfl, h1, by rw [← r1.length]; exact hj, q _ f w1⟩
    · cases e
  · cases e
theorem gt_sub (ho : ET X o fo) (hi : ET X i fi)
    (ha : ∀ v, assign (.Subscript o i pos) X.env v = (do
      let ov ← holding [v] (eval o X.env)
      let iv ← holding [v, ov] (eval i X.env)
      standAt pos
      holding [v, ov, iv] (setItem ov iv v)
      release [v, ov, iv] []) := by intro _; rfl) : GT X (.Subscript o i pos) [] (xgSub fo fi) := by
  intro env st ρ σ H t v e' st' s w rt e Q q
  unfold xgSub at e
  cases h1 : fo env st with
  | none => simp [h1] at e
  | some p =>
    obtain ⟨to, s1⟩ := p
    simp only [h1, Option.bind_some] at e
    cases h2 : fi env s1 with
    | none => simp [h2] at e
    | some p =>
      obtain ⟨ti, s2⟩ := p
      simp only [h2, Option.bind_some] at e
      cases h3 : setIxT to ti t s2 with
      | none => simp [h3] at e
      | some s3 =>
        simp only [h3, Option.map_some] at e
        cases e
        refine Wg.of (pg_sub We.pe We.pe SetU.ok ha) ?_
        refine ho env st ρ σ H to s1 s w h1 _ fun vo H1 ρ1 f1 w1 r1 => ?_
        refine hi env s1 ρ1 σ H1 ti s2 (s.up f1) w1 h2 _ fun vi H2 ρ2 f2 w2 r2 => ?_
        refine set_ok w2 (r1.up f2) r2 (rt.up (f1.trans f2)) h3 _ fun H3 f3 w3 => ?_
        exact q σ H3 ρ2 ((f1.trans f2).trans f3) w3 (s.up ((f1.trans f2).trans f3)) (Away.refl _ _)
theorem pget_list : PGet X (rIxL X.K) := by
  intro pins s σ H x y v u Q I rx ry h
  obtain ⟨p, xs, i, z, rfl, rfl, hq, he, q⟩ := h
  cases rx
  obtain ⟨t, rfl⟩ := ry
  obtain ⟨its, r, pl, hz⟩ := I.list hq
  obtain ⟨j, h1, h2, h3, h4, h5⟩ := atI_get he
  obtain ⟨w, ew, rw'⟩ := r.get h2
  have hl := r.length
  have hn := line63
  have done : EP X pins σ Q w s := ⟨z, H, I, rw', q⟩
  by_cases h0 : 0 ≤ i
  · have hj : i.toNat = j := by
      rw [seqIndex_of h0 h5] at h1
      exact Option.some.inj h1
    exact wpAny_getItem_list pl.isList h0 (by omega) (by rw [hj]; simpa using ew) done
  · have hj : (i + (its.toArray.size : Int)).toNat = j := by
      rw [seqIndex_neg (by omega) h4] at h1
      rw [List.size_toArray, ← hl]
      exact Option.some.inj h1
    exact wpAny_getItem_list_neg pl.isList (by omega) (by rw [List.size_toArray] <;> omega) (by omega) (by rw [hj]; simpa using ew) done
theorem st_augS {op : Operator} {f2 : F2} (ho : ET X o fo) (hi : ET X i fi) (he : ET X e f) (h2 : OpT X (inplaceOp op) f2)
    (ha : ∀ ov iv new, augStore i ov iv new = (do holding [new, ov, iv] (setItem ov iv new); release [new, ov, iv] []; pure .next) := by intros; rfl) : ST X (.AugAssign (.Subscript o i tpos) op e pos) (xsAugS fo fi f2 f) := by
  intro env st ρ σ H out s w e1 D q
  unfold xsAugS at e1
  cases h1 : fo env st with
  | none => simp [h1] at e1
  | some p =>
    obtain ⟨to, s1⟩ := p
    simp only [h1, Option.bind_some] at e1
    cases h3 : fi env s1 with
    | none => simp [h3] at e1
    | some p =>
      obtain ⟨ti, s2⟩ := p
      simp only [h3, Option.bind_some] at e1
      cases h4 : getL to ti s2 with
      | none => simp [h4] at e1
      | some x =>
        simp only [h4, Option.bind_some] at e1
        obtain ⟨l, k, ts, rfl, rfl, hts, hx⟩ := getL_inv h4
        cases h5 : f env s2 with
        | none => simp [h5] at e1
        | some p =>
          obtain ⟨y, s5⟩ := p
          simp only [h5, Option.bind_some] at e1
          cases h6 : f2 x y s5 with
          | none => simp [h6] at e1
          | some p =>
            obtain ⟨z, s6⟩ := p
            simp only [h6, Option.bind_some] at e1
            cases h7 : setIxT (.ref l) (.int k) z s6 with
            | none => simp [h7] at e1
            | some s7 =>
              simp only [h7, Option.map_some] at e1
              cases e1
              refine Ws.of (ps_augS (tip := OpU X (inplaceOp op)) We.pe We.pe pget_list We.pe (fun pins s σ H x y v u Q I rx ry h => OpU.ok pins s σ H x y v u Q I rx ry h) SetU.ok ha) ?_
              refine ho env st ρ σ H _ s1 s w h1 _ fun vo H1 ρ1 f1 w1 r1 => ?_
              refine hi env s1 ρ1 σ H1 _ s2 (s.up f1) w1 h3 _ fun vi H2 ρ2 f2' w2 r2 => ?_
              obtain ⟨a, us, rfl, ha2, hh, r3⟩ := rep_lst w2 (r1.up f2') hts
              obtain ⟨v, hv, rv⟩ := atI_rep r3 hx
              cases r2
              refine ⟨_, _, _, v, rfl, rfl, SqL.of hh, hv, ?_⟩
              refine he env s2 ρ2 σ H2 y s5 (s.up (f1.trans f2')) w2 h5 _ fun vy H5 ρ5 f5 w5 r5 => ?_
              refine h2 ρ5 s5 H5 x y z s6 v vy w5 (rv.up f5) r5 h6 _ fun vz H6 ρ6 f6 w6 r6 => ?_
              have f26 := f5.trans f6
              refine set_ok w6 (r1.up (f2'.trans f26)) (.int _) r6 h7 _ fun H7 f7 w7 => ?_
              have fall := ((f1.trans f2').trans f26).trans f7
              exact q σ H7 ρ6 fall w7 (s.up fall)
end
def iaddT : F2
  | .int i, .int j, st => some (.int (i + j), st)
  | _, _, _ => none
theorem ot_iadd {X : Cx} : OpT X (inplaceOp .Add) iaddT := by
  intro ρ st H x y t st' vx vy w rx ry e Q q
  unfold iaddT at e
  split at e
  · cases e
    exact ot_int0 iop_add (gt := fun i j => .int (i + j)) (fun i j _ _ _ => .int _) w rx ry q
  · cases e
end TL
/-! TL8 -/
set_option Elab.async false
set_option linter.all false
set_option maxRecDepth 100000
set_option maxHeartbeats 4000000
namespace TL
variable [Tb]
open PySem PySem.Spec PyProof.Rows L2
/-! ### list comprehensions -/
def wipeE (e : Env1) : List Nat → Env1
  | [] => e
  | v :: vs => (wipeE e vs).set v none
theorem wipe_in {σ : St} {i : Nat} : ∀ {vs : List Nat}, i ∈ vs → i < σ.length → (wipe σ vs)[i]? = some none
  | v :: vs, h, hl => by
    show ((wipe σ vs).set v none)[i]? = some none
    by_cases e : v = i
    · subst e
      rw [List.getElem?_set_self (by rw [wipe_length]; exact hl)]
    · rw [List.getElem?_set_ne e]
      rcases List.mem_cons.mp h with z | z
      · exact absurd z.symm e
      · exact wipe_in z hl
theorem wipe_not {σ : St} {i : Nat} : ∀ {vs : List Nat}, i ∉ vs → (wipe σ vs)[i]? = σ[i]?
  | [], _ => rfl
  | v :: vs, h => by
    show ((wipe σ vs).set v none)[i]? = _
    rw [List.getElem?_set_ne (fun z => h (by simp [z]))]
    exact wipe_not fun z => h (List.mem_cons_of_mem _ z)
theorem wipeE_length (e : Env1) : ∀ vs : List Nat, (wipeE e vs).length = e.length
  | [] => rfl
  | v :: vs => by
    show ((wipeE e vs).set v none).length = _
    rw [List.length_set, wipeE_length e vs]
theorem wipeE_some {e : Env1} {i : Nat} {t : T} : ∀ {vs : List Nat}, (wipeE e vs)[i]? = some (some t) → e[i]? = some (some t) ∧ i ∉ vs
  | [], h => ⟨h, by simp⟩
  | v :: vs, h => by
    have h : ((wipeE e vs).set v none)[i]? = some (some t) := h
    by_cases z : v = i
    · subst z
      rw [List.getElem?_set] at h
      simp at h
    · rw [List.getElem?_set_ne z] at h
      obtain ⟨h1, h2⟩ := wipeE_some h
      refine ⟨h1, fun hm => ?_⟩
      rcases List.mem_cons.mp hm with q | q
      · exact z q.symm
      · exact h2 q
theorem wipe_away {vs : List Nat} {σ σ2 : St} (a : Away vs (wipe σ vs) σ2) : wipe σ2 vs = wipe σ vs := by
  have hl : σ2.length = σ.length := a.1.trans (wipe_length σ vs)
  refine List.ext_getElem? fun i => ?_
  by_cases h : i ∈ vs
  · by_cases hi : i < σ.length
    · rw [wipe_in h hi, wipe_in h (by rw [hl]; exact hi)]
    · rw [List.getElem?_eq_none (by rw [wipe_length]; omega), List.getElem?_eq_none (by rw [wipe_length]; omega)]
  · rw [wipe_not h, a.2 i h]
theorem slots_wipe {K : KX} {H : Hp} {ρ : List Addr} {e : Env1} {σ : St} (s : Slots K H ρ e σ) (vs : List Nat) : Slots K H ρ (wipeE e vs) (wipe σ vs) := by
  refine ⟨by rw [wipe_length, wipeE_length]; exact s.1, fun i t h => ?_⟩
  obtain ⟨h1, h2⟩ := wipeE_some h
  obtain ⟨v, hv, r⟩ := s.2 i t h1
  exact ⟨v, by rw [wipe_not h2]; exact hv, r⟩
def lcL (it : Its1) (g : XG) (tt : XT) (te : XE) (l : Nat) : Nat → Nat → Env1 → Store → Option Store
  | 0, _, _, _ => none
  | n + 1, i, e, st => (it st).bind fun ts => match ts[i]? with
    | none => if i = ts.length then some st else none
    | some x => (g x e st).bind fun p => (tt p.1 p.2).bind fun b => if b.1 then (te p.1 b.2).bind fun y => match y.2[l]? with
        | some (.lst acc) => if acc.length < sizeLine then lcL it g tt te l n (i + 1) e (y.2.set l (.lst (acc ++ [y.1]))) else none
        | _ => none
      else lcL it g tt te l n (i + 1) e b.2
def xLc (fi : XI) (g : XG) (vs : List Nat) (tt : XT) (te : XE) : XE := fun e st => (fi e st).bind fun p => (p.1 (p.2 ++ [.lst []])).bind fun ts =>
  (lcL p.1 g tt te p.2.length (ts.length + 1) 0 (wipeE e vs) (p.2 ++ [.lst []])).map fun s => (.ref p.2.length, s)
def xYes : XT := fun _ st => some (true, st)
def Wts (X : Cx) (ifs : List Expr) : L2.TT := fun σ H Q => ∀ pins s, Inv X pins σ H s →
  wpAny (model X.prog X.w) X.A (forIn ifs true fun c r => if r = true then do let ok ← isTrue c X.env (eval c X.env); pure (ForInStep.yield ok) else pure (ForInStep.yield r)) (TP X pins σ Q) X.xe s
theorem Wts.of {X : Cx} {e : List Expr} {t : L2.TT} (h : PTs X e t) {σ : St} {H : Hp} {Q : Bool → Hp → Prop} (q : t σ H Q) : Wts X e σ H Q := fun pins s I => h.run pins s σ H Q I q
def PTT (X : Cx) (ifs : List Expr) (f : XT) : Prop := ∀ env st ρ σ H b st', Slots (kx X) H ρ env σ → Wd (kx X) ρ st H → f env st = some (b, st') → ∀ Q, QB (kx X) H ρ b st' Q → Wts X ifs σ H Q
theorem pt_nil {X : Cx} : PTT X [] xYes := by
  intro env st ρ σ H b st' s w e Q q
  cases e
  exact Wts.of pts_nil (show Q true H from q H ρ (Fut.refl _ _) w)
theorem pt_one {X : Cx} {c : Expr} {f : XT} (h : TT1 X c f) : PTT X [c] f := fun env st ρ σ H b st' s w e Q q => Wts.of (pts_one Wt.pt) (h env st ρ σ H b st' s w e Q q)
/-- a block of X -/
abbrev blkX (X : Cx) (scope : Scope) (s : Shared) (H : Hp) (C : Addr) (cl : List (Str × Addr)) (fp : List Addr) : Cx := X.blk s H scope (compEnvC scope cl C X.env) fp
def gU (X : Cx) (scope : Scope) (tg : Expr) : TG := fun v σ H Q => ∀ s H0 C cl fp, Wg (blkX X scope s H0 C cl fp) tg v σ H Q
def tU (X : Cx) (scope : Scope) (ifs : List Expr) : L2.TT := fun σ H Q => ∀ s H0 C cl fp, Wts (blkX X scope s H0 C cl fp) ifs σ H Q
def eU (X : Cx) (scope : Scope) (e : Expr) : TE := fun σ H Q => ∀ s H0 C cl fp, We (blkX X scope s H0 C cl fp) e σ H Q
section
variable {X : Cx} {elt tg iter : Expr} {ifs : List Expr} {scope : Scope} {own : List (Str × Nat)} {pos : Pos} {fi : XI} {g : XG} {tt : XT} {te : XE} {vs : List Nat}
theorem gU.pg {s H C cl fp} : PG (X.blk s H scope (compEnvC scope cl C X.env) fp) tg (gU X scope tg) := ⟨fun pins s1 σ H v u Q I r h => h _ _ _ _ _ pins s1 u I r⟩
theorem tU.pt {s H C cl fp} : PTs (X.blk s H scope (compEnvC scope cl C X.env) fp) ifs (tU X scope ifs) := ⟨fun pins s1 σ H Q I h => h _ _ _ _ _ pins s1 I⟩
theorem eU.pe {s H C cl fp} : PE (X.blk s H scope (compEnvC scope cl C X.env) fp) elt (eU X scope elt) := ⟨fun pins s1 σ H Q I h => h _ _ _ _ _ pins s1 I⟩
theorem lc_ok (hi : IT X tg iter fi) (hg : ∀ s H C cl fp, GT (blkX X scope s H C cl fp) tg vs g) (ht : ∀ s H C cl fp, PTT (blkX X scope s H C cl fp) ifs tt) (he : ∀ s H C cl fp, ET (blkX X scope s H C cl fp) elt te)
    {env : Env1} {st : Store} {ρ : List Addr} {σ : St} {H : Hp} {t : T} {st' : Store} (s : Slots (kx X) H ρ env σ) (w : Wd (kx X) ρ st H) (e : xLc fi g vs tt te env st = some (t, st')) {Q : VK} (q : QE (kx X) H ρ t st' Q) :
    tLc (Wi X tg iter) (gU X scope tg) (tU X scope ifs) (eU X scope elt) vs σ H Q := by
  unfold xLc at e
  cases h : fi env st with
  | none => simp [h] at e
  | some p =>
    obtain ⟨it, s1⟩ := p
    simp only [h, Option.bind_some] at e
    cases h1 : it (s1 ++ [.lst []]) with
    | none => simp [h1] at e
    | some ts0 =>
      simp only [h1, Option.bind_some] at e
      cases h2 : lcL it g tt te s1.length (ts0.length + 1) 0 (wipeE env vs) (s1 ++ [.lst []]) with
      | none => simp [h2] at e
      | some sE =>
        simp only [h2, Option.map_some] at e
        cases e
        refine hi env st ρ σ H it s1 s w h _ fun J H1 ρ1 f1 w1 ok => ?_
        intro D hD
        have f00 : Fut H1 (upd H1 D (.lst [])) ρ1 (ρ1 ++ [D]) := ⟨Ext.new hD, [D], rfl⟩
        obtain ⟨w2, f2⟩ := w1.push (o := .lst []) hD ⟨[], upd_same, .nil⟩
        have hDl : (ρ1 ++ [D])[s1.length]? = some D := by rw [← w1.len, List.getElem?_append_right (Nat.le_refl _)]; simp
        refine ⟨fun i m H3 => ∃ st3 ρ3, Fut (upd H1 D (.lst [])) H3 (ρ1 ++ [D]) ρ3 ∧ Wd (kx X) ρ3 st3 H3 ∧ lcL it g tt te s1.length m i (wipeE env vs) st3 = some st' ∧ QE (kx X) H3 ρ3 (.ref s1.length) st' Q,
          ⟨ts0.length + 1, s1 ++ [.lst []], ρ1 ++ [D], Fut.refl _ _, w2, h2, q.up (f1.trans f2)⟩, ?_⟩
        rintro i m H3 ⟨st3, ρ3, f3, w3, e3, q3⟩
        cases m with
        | zero => cases e3
        | succ m =>
          unfold lcL at e3
          cases h4 : it st3 with
          | none => simp [h4] at e3
          | some ts =>
            simp only [h4, Option.bind_some] at e3
            obtain ⟨k1, k2, k3⟩ := ok H3 ρ3 st3 ts (f2.trans f3) w3 h4 i
            cases h5 : ts[i]? with
            | none =>
              simp only [h5] at e3
              split at e3
              · rename_i hl
                cases e3
                exact .inl ⟨k2 hl, q3 _ H3 ρ3 (Fut.refl _ _) w3 (.ref (f3.get hDl))⟩
              · cases e3
            | some x =>
              simp only [h5] at e3
              have hlt := (List.getElem?_eq_some_iff.mp h5).1
              refine .inr ⟨k1 hlt, fun H4 => ∃ st3 ρ3, Fut (upd H1 D (.lst [])) H4 (ρ1 ++ [D]) ρ3 ∧ Wd (kx X) ρ3 st3 H4 ∧ lcL it g tt te s1.length m (i + 1) (wipeE env vs) st3 = some st' ∧ QE (kx X) H4 ρ3 (.ref s1.length) st' Q, fun H4 z => ⟨m, Nat.lt_succ_self _, z⟩, fun y H4 hy => ?_⟩
              obtain ⟨gr, ry⟩ := k3 y H4 hy
              have f4 : Fut H3 H4 ρ3 ρ3 := fut_grow gr
              have sl : Slots (kx X) H4 ρ3 (wipeE env vs) (wipe σ vs) := slots_wipe (s.up (((f1.trans f2).trans f3).trans f4)) vs
              cases h6 : g x (wipeE env vs) st3 with
              | none => simp [h6] at e3
              | some p =>
                obtain ⟨e6, s6⟩ := p
                simp only [h6, Option.bind_some] at e3
                intro sB HB CB clB fpB
                refine hg sB HB CB clB fpB (wipeE env vs) st3 ρ3 (wipe σ vs) H4 x y e6 s6 sl (w3.grow gr) (ry x h5) h6 _ fun σ6 H6 ρ6 f6 w6 sl6 a6 => ⟨wipe_away a6, ?_⟩
                cases h7 : tt e6 s6 with
                | none => simp [h7] at e3
                | some p =>
                  obtain ⟨b, s7⟩ := p
                  simp only [h7, Option.bind_some] at e3
                  intro sB HB CB clB fpB
                  refine ht sB HB CB clB fpB e6 s6 ρ6 σ6 H6 b s7 sl6 w6 h7 _ fun H7 ρ7 f7 w7 => ?_
                  have f37 := (f4.trans f6).trans f7
                  cases b with
                  | false =>
                    rw [if_neg Bool.false_ne_true]
                    rw [if_neg Bool.false_ne_true] at e3
                    exact ⟨s7, ρ7, f3.trans f37, w7, e3, q3.up f37⟩
                  | true =>
                    rw [if_pos rfl]
                    rw [if_pos rfl] at e3
                    cases h8 : te e6 s7 with
                    | none => simp [h8] at e3
                    | some p =>
                      obtain ⟨z, s8⟩ := p
                      simp only [h8, Option.bind_some] at e3
                      split at e3
                      · rename_i acc hacc
                        split at e3
                        · rename_i hz
                          intro sB HB CB clB fpB
                          refine he sB HB CB clB fpB e6 s7 ρ7 σ6 H7 z s8 (sl6.up f7) w7 h8 _ fun vz H8 ρ8 f8 w8 r8 => ?_
                          have f38 := f37.trans f8
                          have hD8 := (f3.trans f38).get hDl
                          obtain ⟨us, hu, ru⟩ := w8.addr hacc hD8
                          obtain ⟨u0, h0, i0⟩ := w8.there hD8
                          have f9 : Fut H8 (upd H8 D (.lst (us ++ [vz]))) ρ8 ρ8 := ⟨Ext.mut h0 i0, [], by simp⟩
                          obtain ⟨w9, _⟩ := w8.put (o := .lst (acc ++ [z])) hD8 ⟨us ++ [vz], upd_same, (ru.app (.cons r8 .nil)).up f9⟩
                          exact ⟨us, hu, by rw [← ru.length]; exact hz, _, ρ8, (f3.trans f38).trans f9, w9, e3, q3.up (f38.trans f9)⟩
                        · cases e3
                      · cases e3
theorem et_lc (hc : X.calm = true) (hN : X.N.Nodup) (ok : BlkOk X.N X.env.scope scope own) (hi : IT X tg iter fi) (hg : ∀ s H C cl fp, GT (blkX X scope s H C cl fp) tg (own.map (·.2)) g)
    (ht : ∀ s H C cl fp, PTT (blkX X scope s H C cl fp) ifs tt) (he : ∀ s H C cl fp, ET (blkX X scope s H C cl fp) elt te) (hs : ∀ x, foldedSetIterable iter X.env x = pure x := by intro _; rfl) :
    ET X (.ListComp elt [⟨tg, iter, ifs, 0⟩] scope pos) (xLc fi g (own.map (·.2)) tt te) := by
  intro env st ρ σ H t st' s w e Q q
  exact We.of (pe_lc hc hN Wi.pi ok (fun _ _ _ _ _ => gU.pg) (fun _ _ _ _ _ => tU.pt) (fun _ _ _ _ _ => eU.pe) hs) (lc_ok hi hg ht he s w e q)
theorem st_setLc {i : Nat} {y : Str} {py spos : Pos} (hc : X.calm = true) (hN : X.N.Nodup) (ok : BlkOk X.N X.env.scope scope own) (hi : IT X tg iter fi) (hg : ∀ s H C cl fp, GT (blkX X scope s H C cl fp) tg (own.map (·.2)) g)
    (ht : ∀ s H C cl fp, PTT (blkX X scope s H C cl fp) ifs tt) (he : ∀ s H C cl fp, ET (blkX X scope s H C cl fp) elt te) (hy : X.N[i]? = some y := by rfl) (hyl : X.env.scope.names.lookup y = some .local := by rfl)
    (hsw : swapsWith (.ListComp elt [⟨tg, iter, ifs, 0⟩] scope pos) (some (.Name y py)) spos.line X.env = pure true := by exact sw_true rfl rfl rfl (by decide +kernel)) (hs : ∀ x, foldedSetIterable iter X.env x = pure x := by intro _; rfl) :
    ST X (.Assign [.Name y py] (.ListComp elt [⟨tg, iter, ifs, 0⟩] scope pos) spos) (xsSet i (xLc fi g (own.map (·.2)) tt te)) := by
  intro env st ρ σ H o s w e D q
  unfold xsSet at e
  cases h : xLc fi g (own.map (·.2)) tt te env st with
  | none => simp [h] at e
  | some p =>
    obtain ⟨t, s1⟩ := p
    rw [h] at e
    cases e
    refine Ws.of (ps_setLc hc hN hy hyl hsw Wi.pi ok (fun _ _ _ _ _ => gU.pg) (fun _ _ _ _ _ => tU.pt) (fun _ _ _ _ _ => eU.pe) hs) ?_
    exact lc_ok hi hg ht he s w h fun v H1 ρ1 f1 w1 r1 => q _ H1 ρ1 f1 w1 ((s.up f1).set i r1)
end
end TL
/-! TL9 -/
set_option Elab.async false
set_option linter.all false
set_option maxRecDepth 100000
set_option maxHeartbeats 4000000
namespace TL
variable [Tb]
open PySem PySem.Spec PyProof.Rows L2
/-- a def of the text as it stands behind the top, and what it does on trees -/
structure DefAt (P : Program) (w : World) (K : PySem.W.Frag) (mg : Str → Option Value) (base : Heap) (k : Nat) (x : Str) (ps : List Str) (F : FA) : Prop where
  ex : ∃ (f : Addr) (fd : FuncData), mg x = some (.ref f) ∧ PySem.W.keepIn K (.ref f) = true ∧ Binds K fd ps [] ∧ FnT P w K mg base k f fd ps F
section
variable {P : Program} {w : World} {K : PySem.W.Frag} {mg : Str → Option Value} {base : Heap} {k : Nat} {x : Str} {ps : List Str}
theorem DefAt.as {F F' : FA} (G : DefAt P w K mg base k x ps F) (h : ∀ ts st t st', F' ts st = some (t, st') → ∃ t2 st2, F ts st = some (t2, st2) ∧ Cut st t2 st2 t st') : DefAt P w K mg base k x ps F' := by
  obtain ⟨f, fd, h1, h2, h3, h4⟩ := G.ex
  exact ⟨f, fd, h1, h2, h3, h4.as h⟩
/-- where a def stands -/
structure Place (K : PySem.W.Frag) (mg : Str → Option Value) (x : Str) (st : Stmt) (ps : List Str) : Prop where
  ex : ∃ (f : Addr) (fd : FuncData), mg x = some (.ref f) ∧ Fun K x x st f fd ∧ Binds K fd ps []
theorem DefAt.of {st : Stmt} {N : List Str} {Fb : XS} (L : Place K mg x st ps) (S : FnScope N ps (defScope st))
    (hbody : ∀ (f : Addr) (cdv : Value) (A : Around) (outer : List Env) (s : Shared) (H : Hp), Room k (A.deeper (envOfC x (defScope st) s.heap.objs.size f cdv)) → (A.deeper (envOfC x (defScope st) s.heap.objs.size f cdv)).guards = some [] →
      SST (cx0 P w K mg base N x (defScope st) f cdv A outer s H E0) (defBody st) Fb) : DefAt P w K mg base (k + 1) x ps (fnF ps.length N.length Fb) := by
  obtain ⟨f, fd, h1, F, b⟩ := L.ex
  exact ⟨f, fd, h1, F.kp, b, FnT.of F S fun cdv A outer s H => hbody f cdv A outer s H⟩
end
section
variable {X : Cx} {k j : Nat} {ps : List Str} {F : FA} {x : Str} {p pos : Pos} {e : Expr} {es : List Expr} {fr : XA}
theorem et_callD (G : DefAt X.prog X.w X.K X.mg X.base k x ps F) (hr : Room j X.A) (hgu : X.A.guards = some []) (ha : AT X (e :: es) fr) (hkj : k ≤ j := by decide)
    (hg : Gl X x := by rfl) (hdb : (x == ("__debug__" : Str)) = false := by decide +kernel) (he : starEach (e :: es) X.env = (false, eval e X.env) :: starEach es X.env := by rfl) (hpl : (backTo pos (starEach es X.env)).any (·.1) = false := by rfl) :
    ET X (.Call (.Name x p) (e :: es) [] pos) (xCall F fr) := by
  obtain ⟨f, fd, h1, h2, h3, h4⟩ := G.ex
  exact et_call h4 (hr.mono hkj) hgu h1 h2 h3 ha hg hdb he hpl
theorem room65 {A : Around} (h : Room j A) : A.units + 65 < cLine := by have := h.un; omega
end
end TL
namespace TL
variable [Tb]
/-- turns enough for a while loop that counts an int down -/
def fuelAll : Env1 → Store → Nat := fun e _ => (e.map fun o => match o with
  | some (.int i) => i.natAbs
  | _ => 0).sum + 2
end TL
/-! TL10 -/
set_option Elab.async false
set_option linter.all false
set_option maxRecDepth 100000
set_option maxHeartbeats 4000000
namespace TL
variable [Tb]
open PySem PySem.Spec PyProof.Rows L2
/-- the makers of lambdas: the code object, its table, the lambda's name -/
structure Maker where
  c : Addr
  P : Addr
  q : Str
deriving DecidableEq
/-- what stands at the start of a law, of the makers -/
structure Makers (K : PySem.W.Frag) (h : Heap) (ms : List Maker) : Prop where
  e : ∀ m ∈ ms, h.get? m.P = some { cls := .none, data := .fields #[] }
  k : ∀ m ∈ ms, K.lookup m.P = none
  c : ∀ m ∈ ms, PySem.W.CodeHd h m.c m.P
section
variable {P : Program} {w : World} {K : PySem.W.Frag} {mg mb : Str → Option Value} {k : Nat} {fa a : Addr} {x : Str} {s₁ : Shared} {vs : List Value} {ns : List Int} {ms : List Maker}
def isTab (ms : List Maker) (b : Addr) : Bool := ms.any fun m => m.P == b
theorem isTab_at {b : Addr} (h : isTab ms b = true) : ∃ m ∈ ms, m.P = b := by
  obtain ⟨m, h1, h2⟩ := List.any_eq_true.mp h
  exact ⟨m, h1, eq_of_beq h2⟩
theorem isTab_of {m : Maker} (h : m ∈ ms) : isTab ms m.P = true := List.any_eq_true.mpr ⟨m, h, beq_self_eq_true _⟩
/-- the law is called where at most the script and the tables are tracked -/
theorem law_coreT {Fl : FA} (H : Hp) (ob : Obj) (hH : ∀ b u, H b = some u → (b = a ∧ u = .frz ob (.lst (ns.map V.int))) ∨ (isTab ms b = true ∧ u = .tbl #[])) (hP : ∀ m ∈ ms, H m.P = some (.tbl #[])) (hK : ∀ b u, H b = some u → K.lookup b = none) (hok : HOk P w H s₁.heap) (hS : RdL K H a (ns.map V.int))
    (M : Makers K s₁.heap ms) (htb : ∀ p ∈ Tb.tabs, ∃ m ∈ ms, p = (m.P, m.q)) (hbm : ∃ (bm : Addr) (o : Obj), mg "__builtins__" = some (.ref bm) ∧ bm ≠ builtinsNs ∧ s₁.heap.get? bm = some o ∧ o.cls = .type "module" ∧ o.dict = some builtinsNs ∧ o.data = .plain)
    (KX : K.In s₁.heap) (hns : s₁.heap.Ns mainGlobals mg) (hb : s₁.heap.Ns builtinsNs mb) (hbb : ∀ x : Str, x ≠ "__name__" → mb x = bootBuiltins x) (hlim : s₁.heap.NoLimit) (hg : s₁.gens = #[])
    (ha : s₁.heap.get? a = some { cls := .type "list", data := .seq vs.toArray }) (hr : Room k callerA)
    (F : ∀ base : Heap, K.In base → base.Ns mainGlobals mg → (∀ m ∈ ms, LamX.TabB base mg m.c m.P) → ∃ fd, L2.Binds K fd [x] [] ∧ FnT P w K mg base k fa fd [x] Fl)
    (hF : ∃ st', Fl [.rdl ns] [] = some (.bl true, st')) :
    codeAny (model P w) callerA (.call (.ref fa) ⟨[.ref a], []⟩) (fun r s' => r = .ok (.ret (.bool true)) ∧ OldK s₁.heap s'.heap ∧ s'.os = s₁.os ∧ AllBare s'.gens) s₁ := by
  obtain ⟨st', hF⟩ := hF
  have other : ∀ {b : Addr} {o : Obj}, s₁.heap.get? b = some o → (∀ vs n, o.data ≠ .seq vs n) → o.data ≠ .fields #[] → H b = none := by
    intro b o e d1 d2
    cases q : H b with
    | none => rfl
    | some u =>
      rcases hH b u q with ⟨rfl, _⟩ | ⟨t, _⟩
      · rw [ha] at e; cases e; exact (d1 _ _ rfl).elim
      · obtain ⟨m, hm, rfl⟩ := isTab_at t
        rw [M.e m hm] at e; cases e; exact (d2 rfl).elim
  have notDict : ∀ {b : Addr} {o : Obj} {es : Array DictEntry} {ep : Nat}, s₁.heap.get? b = some o → o.data = .dict es ep → H b = none :=
    fun e d => other e (fun vs n z => by rw [d] at z; cases z) (fun z => by rw [d] at z; cases z)
  have nsB : ∀ {b : Addr} {m : Str → Option Value}, s₁.heap.Ns b m → (hidT s₁.heap H).Ns b m := by
    rintro b m ⟨o, es, ep, e, d, r⟩
    exact ⟨o, es, ep, hidT_get e (notDict e d), d, r⟩
  have kIn : K.In (hidT s₁.heap H) := by
    intro b o e
    refine hidT_get (KX b o e) ?_
    cases q : H b with
    | none => rfl
    | some u => rw [hK b u q] at e; cases e
  have md : Mod K mg (hidT s₁.heap H) := by
    obtain ⟨mc, c1, c2⟩ := hlim
    exact ⟨kIn, nsB hns, ⟨mb, nsB hb, hbb⟩, ⟨mc, nsB c1, c2⟩⟩
  have env : Env0 P w K mg (hidT s₁.heap H) callerA [] s₁ H := by
    refine ⟨rfl, md, fun b o e => of_hidT e, Nat.le_of_eq (hidT_size _ _), trivial, fun b hm => ?_, hok, .of_eq hg⟩
    exact absurd (show b ∈ ([] : List Addr) from hm) (by simp)
  have tabB : ∀ m ∈ ms, LamX.TabB (hidT s₁.heap H) mg m.c m.P := by
    intro m hm
    obtain ⟨oG, esG, epG, eG, dG, _⟩ := id hns
    refine ⟨?_, ?_, fun z => ?_⟩
    · obtain ⟨o, us, fl, tf, fs, tg, iF, tx, tt, e1, r1, r2, r⟩ := M.c m hm
      refine ⟨o, us, fl, tf, fs, tg, iF, tx, tt, hidT_get e1 (other e1 (fun vs n z => by rw [r2] at z; cases z) (fun z => ?_)), r1, r2, r⟩
      rw [r2] at z; cases z; simp at r
    · obtain ⟨bm, o, b1, b2, b3, b4, b5, b6⟩ := hbm
      have n1 : bm ≠ mainGlobals := fun q => by rw [q, eG] at b3; cases b3; rw [dG] at b6; cases b6
      have n2 : bm ≠ m.P := fun q => by rw [q, M.e m hm] at b3; cases b3; cases b6
      exact ⟨bm, o, b1, b2, n1, n2, hidT_get b3 (other b3 (fun vs n z => by rw [b6] at z; cases z) (fun z => by rw [b6] at z; cases z)), b4, b5, b6⟩
    · rw [z, M.e m hm] at eG; cases eG; cases dG
  have tabs0 : LamX.Tabs Tb.tabs H := fun p hp => by
    obtain ⟨m, hm, rfl⟩ := htb p hp
    exact .nil (hP m hm)
  have w0 : Wd (kX K P w) [] [] H := ⟨tabs0, rfl, by simp, fun l o b h _ => by simp at h⟩
  obtain ⟨fd, hbd, hfn⟩ := F _ kIn (nsB hns) tabB
  have run := hfn.run callerA [] s₁ H ⟨[.ref a], []⟩ [.ref a] [.ref a] [] [.rdl ns] [] (.bl true) st' (fun v _ => v = .bl true) hr rfl env (hbd s₁ [.ref a] KX rfl) (.cons rfl .nil) w0 (.cons (.rdl hS) .nil) hF
    (fun v H' ρ' _ _ r => by cases r; rfl)
  refine codeAny_mono run fun r s' h => ?_
  match r, h with
  | .error e, h => exact False.elim h
  | .ok .next, h => exact False.elim h
  | .ok .brk, h => exact False.elim h
  | .ok .cont, h => exact False.elim h
  | .ok (.ret u), ⟨v, H', os, bare, un, hok', r', q⟩ =>
    cases (show v = .bl true from q)
    cases (show u = Value.bool true from r')
    have keep : ∀ b o, isTab ms b = false → s₁.heap.get? b = some o → s'.heap.get? b = some o := by
      intro b o nt e
      cases q : H b with
      | none => exact un.keep b o e q (fun z => absurd (show b ∈ ([] : List Addr) from z) (by simp)) (by simp)
      | some u =>
        rcases hH b u q with ⟨_, rfl⟩ | ⟨t, _⟩
        · have l1 := (hok b _ q).1
          have l2 := (hok' b _ (un.frzs b ob _ q)).1
          rw [e] at l1; cases l1
          exact l2
        · rw [nt] at t; cases t
    have grown : ∀ m ∈ ms, ∃ more : Array Value, s'.heap.get? m.P = some { cls := .none, data := .fields more } := fun m hm => by
      obtain ⟨more, z⟩ := un.tbls m.P #[] (hP m hm)
      exact ⟨_, hok' m.P _ z⟩
    refine ⟨rfl, ⟨fun b o e => ?_, fun b o e => ?_⟩, os, bare⟩
    · cases t : isTab ms b with
      | false => exact .inl (keep b o t e)
      | true =>
        obtain ⟨m, hm, rfl⟩ := isTab_at t
        obtain ⟨more, z⟩ := grown m hm
        rw [M.e m hm] at e; cases e
        exact .inr (.inl ⟨((M.c m hm).tab (M.e m hm)).isCodeTable, rfl, #[], more, rfl, by rw [Array.empty_append]; exact z⟩)
    · cases t : isTab ms b with
      | false => exact ⟨o, keep b o t e⟩
      | true =>
        obtain ⟨m, hm, rfl⟩ := isTab_at t
        obtain ⟨more, z⟩ := grown m hm
        exact ⟨_, z⟩
theorem law_callT {Fl : FA} (M : Makers K s₁.heap ms) (htb : ∀ p ∈ Tb.tabs, ∃ m ∈ ms, p = (m.P, m.q)) (hbm : ∃ (bm : Addr) (o : Obj), mg "__builtins__" = some (.ref bm) ∧ bm ≠ builtinsNs ∧ s₁.heap.get? bm = some o ∧ o.cls = .type "module" ∧ o.dict = some builtinsNs ∧ o.data = .plain)
    (KX : K.In s₁.heap) (hns : s₁.heap.Ns mainGlobals mg) (hb : s₁.heap.Ns builtinsNs mb) (hbb : ∀ x : Str, x ≠ "__name__" → mb x = bootBuiltins x) (hlim : s₁.heap.NoLimit) (hg : s₁.gens = #[])
    (ha : s₁.heap.get? a = some { cls := .type "list", data := .seq vs.toArray }) (hi : IntsAre vs ns) (hl : ns.length ≤ sizeLine) (hr : Room k callerA)
    (F : ∀ base : Heap, K.In base → base.Ns mainGlobals mg → (∀ m ∈ ms, LamX.TabB base mg m.c m.P) → ∃ fd, L2.Binds K fd [x] [] ∧ FnT P w K mg base k fa fd [x] Fl)
    (hF : ∃ st', Fl [.rdl ns] [] = some (.bl true, st')) :
    codeAny (model P w) callerA (.call (.ref fa) ⟨[.ref a], []⟩) (fun r s' => r = .ok (.ret (.bool true)) ∧ OldK s₁.heap s'.heap ∧ s'.os = s₁.os ∧ AllBare s'.gens) s₁ := by
  have rv := vals_ints hi
  have same := hi.length
  have aT : isTab ms a = false := by
    cases t : isTab ms a with
    | false => rfl
    | true =>
      obtain ⟨m, hm, e⟩ := isTab_at t
      have := M.e m hm
      rw [e, ha] at this
      cases this
  have tabAt : ∀ b, isTab ms b = true → s₁.heap.get? b = some { cls := .none, data := .fields #[] } := fun b t => by
    obtain ⟨m, hm, rfl⟩ := isTab_at t
    exact M.e m hm
  have tabK : ∀ b, isTab ms b = true → K.lookup b = none := fun b t => by
    obtain ⟨m, hm, rfl⟩ := isTab_at t
    exact M.k m hm
  cases hk : K.lookup a with
  | some o =>
    have e := KX a o hk
    rw [ha] at e
    cases e
    have at0 : ∀ b u, (if isTab ms b = true then some (HO.tbl #[]) else none) = some u → isTab ms b = true ∧ u = HO.tbl #[] := by
      intro b u z
      by_cases q : isTab ms b = true
      · rw [if_pos q] at z; cases z; exact ⟨q, rfl⟩
      · rw [if_neg q] at z; cases z
    refine law_coreT (fun b => if isTab ms b = true then some (HO.tbl #[]) else none) { cls := .type "list", data := .seq vs.toArray } (fun b u z => .inr (at0 b u z)) (fun m hm => if_pos (isTab_of hm)) (fun b u z => tabK b (at0 b u z).1) (fun b u z => ?_) ?_ M htb hbm KX hns hb hbb hlim hg ha hr F hF
    · obtain ⟨q1, rfl⟩ := at0 b u z
      exact tabAt b q1
    · exact .inr fun H' => .inr ⟨_, vs.toArray, _, hk, rfl, rfl, rfl, by rw [List.size_toArray, same]; exact hl, by simpa using rv⟩
  | none =>
    have at1 : ∀ b u, (if b = a then some (HO.frz { cls := .type "list", data := .seq vs.toArray } (.lst (ns.map V.int))) else if isTab ms b = true then some (HO.tbl #[]) else none) = some u → (b = a ∧ u = HO.frz { cls := .type "list", data := .seq vs.toArray } (.lst (ns.map V.int))) ∨ (isTab ms b = true ∧ u = HO.tbl #[]) := by
      intro b u z
      by_cases q : b = a
      · rw [if_pos q] at z; cases z; exact .inl ⟨q, rfl⟩
      · rw [if_neg q] at z
        by_cases q2 : isTab ms b = true
        · rw [if_pos q2] at z; cases z; exact .inr ⟨q2, rfl⟩
        · rw [if_neg q2] at z; cases z
    refine law_coreT (fun b => if b = a then some (HO.frz { cls := .type "list", data := .seq vs.toArray } (.lst (ns.map V.int))) else if isTab ms b = true then some (HO.tbl #[]) else none) { cls := .type "list", data := .seq vs.toArray } at1 (fun m hm => ?_) (fun b u z => ?_) (fun b u z => ?_) ?_ M htb hbm KX hns hb hbb hlim hg ha hr F hF
    · have hne : m.P ≠ a := fun z => by rw [← z, isTab_of hm] at aT; cases aT
      rw [if_neg hne, if_pos (isTab_of hm)]
    · rcases at1 b u z with ⟨rfl, _⟩ | ⟨t, _⟩
      · exact hk
      · exact tabK b t
    · rcases at1 b u z with ⟨rfl, rfl⟩ | ⟨t, rfl⟩
      · exact ⟨ha, by rw [List.length_map]; exact hl, vs, _, rv, ha⟩
      · exact tabAt b t
    · exact .inl ⟨_, if_pos rfl⟩
end
/-- the end of a law row -/
theorem walkT {l : PySem.W.OpenLaw} {n k : Nat} {q : Program} {loose : List Str} {XP : (Str → Option Value) → Heap → Prop} {YP : World → Heap → Prop} {d : DefRec} {K : Params → PySem.W.Frag} {x : Str} {Fl : FA} {ms : List Maker}
    (hn : l.most = some n) (hn2 : n ≤ sizeLine) (hdf : d.params.defaults = []) (hr : Room k callerA)
    (hY : ∀ (w : World) (h : Heap), YP w h → (K w.params).In h) (hM : ∀ (w : World) (h : Heap), YP w h → Makers (K w.params) h ms) (htb : ∀ p ∈ Tb.tabs, ∃ m ∈ ms, p = (m.P, m.q))
    (F : ∀ (w : World) (mg : Str → Option Value) (fa : Addr) (h : Heap), (K w.params).In h → h.Ns mainGlobals mg → mg d.name = some (.ref fa) →
      ∀ base : Heap, (K w.params).In base → base.Ns mainGlobals mg → (∀ m ∈ ms, LamX.TabB base mg m.c m.P) → ∃ fd, L2.Binds (K w.params) fd [x] [] ∧ FnT l.prog w (K w.params) mg base k fa fd [x] Fl)
    (hF : ∀ ns : List Int, ns.length ≤ n → (∀ z ∈ ns, Builtin.Int.intBits z ≤ 1048576) → ∃ st', Fl [.rdl ns] [] = some (.bl true, st')) :
    PySem.W.WalkO q loose XP YP l.row.toRowW d [] (fun f vs => PySem.call f vs) := by
  refine Att.attach_callB hn hdf fun w s₀ s₁ mg mb fa o pm cd doc a vs ns G Y ho hd hcd hmg hobj hints hlen hbits hg => ?_
  have KX := hY w _ Y
  exact law_callT (hM w _ Y) htb G.T.bmain KX G.T.g G.T.b G.T.builtins G.T.nolimit hg hobj hints (Nat.le_trans hlen hn2) hr (F w mg fa _ KX G.T.g hmg) (hF ns hlen hbits)
end TL
namespace TL
variable [Tb]
open PySem PySem.Spec PyProof.Rows L2
theorem place_mk {K : PySem.W.Frag} {h : Heap} {mg : Str → Option Value} (X : K.In h) (G : h.Ns mainGlobals mg) {x : Str} {st : Stmt} {ps : List Str} {f : Addr} {oc : Value} {od an : Option Addr} {sl : Array (Option Value)} {kV dc pm cd ct : Value}
    (hb : ∀ (kV doc pm : Value) (an : Option Addr) (cdv ct : Value) (us : List Value), us.length = ps.length → bindArgs (PySem.W.fnOf x x (defArgs st) (defBody st) (defScope st) .none kV doc pm an cdv ct) ⟨us, []⟩ = pure (ps.zip us))
    (a : PySem.W.nsIn K mainGlobals x = some (some (.ref f))) (l : K.lookup f = some ⟨oc, od, .func (PySem.W.fnOf x x (defArgs st) (defBody st) (defScope st) .none kV dc pm an cd ct), sl⟩) (c : PySem.W.codeIn K cd x = true) (k : PySem.W.keepIn K (.ref f) = true) : Place K mg x st ps := by
  have F := fun_mk (st := st) l c k
  exact ⟨f, _, PySem.W.mg_of X G a, F, F.binds hb⟩
/-- a def at the place that the module tells -/
theorem DefAt.fn {P : Program} {w : World} {K : PySem.W.Frag} {mg : Str → Option Value} {base : Heap} {k : Nat} {x : Str} {ps : List Str} {F : FA} (G : DefAt P w K mg base k x ps F) {fa : Addr} (h : mg x = some (.ref fa)) : ∃ fd, Binds K fd ps [] ∧ FnT P w K mg base k fa fd ps F := by
  obtain ⟨f, fd, h1, _, h3, h4⟩ := G.ex
  rw [h] at h1
  cases h1
  exact ⟨fd, h3, h4⟩
end TL
/-! TL11 -/
set_option Elab.async false
set_option linter.all false
set_option maxRecDepth 100000
set_option maxHeartbeats 4000000
namespace TL
variable [Tb]
open PySem PySem.Spec PyProof.Rows L2
/-! ### dicts whose keys are tuples -/
theorem nk_depth : ∀ (n : Nat) (t : T) (k : NestedKey), toNK n t = some k → k.depth ≤ n
  | n, .non, k, h => by cases n <;> (cases h; exact Nat.zero_le _)
  | n, .int i, k, h => by cases n <;> (cases h; exact Nat.zero_le _)
  | n, .str i, k, h => by cases n <;> (cases h; exact Nat.zero_le _)
  | 0, .tup ts, k, h => by cases h
  | n + 1, .tup ts, k, h => by
    unfold toNK at h
    cases e : optNK (toNK n) ts with
    | none => rw [e] at h; cases h
    | some ks =>
      rw [e] at h
      cases h
      have all : ∀ (ts : List T) (ks : List NestedKey), optNK (toNK n) ts = some ks → NestedKey.depthAll ks ≤ n := by
        intro ts
        induction ts with
        | nil => intro ks h; cases h; exact Nat.zero_le _
        | cons t ts ih =>
          intro ks h
          unfold optNK at h
          split at h
          · rename_i k1 k2 h1 h2
            cases h
            simp only [NestedKey.depthAll]
            have a := nk_depth n t _ h1
            have b := ih _ h2
            omega
          · cases h
      simp only [NestedKey.depth]
      have := all ts ks e
      omega
  | 0, .bl b, k, h => by cases h
  | n + 1, .bl b, k, h => by cases h
  | 0, .ref b, k, h => by cases h
  | n + 1, .ref b, k, h => by cases h
  | 0, .rdl b, k, h => by cases h
  | n + 1, .rdl b, k, h => by cases h
section
variable {X : Cx} {pins : List (Addr × Obj)} {σ : St} {H : Hp} {s : Shared} {ρ : List Addr}
theorem nk_is (I : Inv X pins σ H s) : ∀ (n : Nat) (t : T) (k : NestedKey) (v : V) (u : Value), toNK n t = some k → Rep (kx X) H ρ t v → RelV v u → NestedIs s.heap k u
  | n, .non, k, v, u, h, r, q => by cases r; cases q; cases n <;> (cases h; exact .none)
  | n, .int i, k, v, u, h, r, q => by cases r; obtain ⟨t, rfl⟩ := q; cases n <;> (cases h; exact .int _ _)
  | n, .str i, k, v, u, h, r, q => by cases r; obtain ⟨t, rfl⟩ := q; cases n <;> (cases h; exact .text _ _)
  | 0, .tup ts, k, v, u, h, r, q => by cases h
  | n + 1, .tup ts, k, v, u, h, r, q => by
    unfold toNK at h
    cases e : optNK (toNK n) ts with
    | none => rw [e] at h; cases h
    | some ks =>
      rw [e] at h
      cases h
      cases r with
      | tup hx rx =>
        cases q
        obtain ⟨its, rv, ⟨o, ho, hc, m, hd⟩, _⟩ := I.tuple hx
        have all : ∀ (ts : List T) (ks : List NestedKey) (vs : List V) (us : List Value), optNK (toNK n) ts = some ks → Reps (kx X) H ρ ts vs → Vals vs us → NestedAll s.heap ks us := by
          intro ts
          induction ts with
          | nil => intro ks vs us h r q; cases h; cases r; cases q; exact .nil
          | cons t ts ih =>
            intro ks vs us h r q
            unfold optNK at h
            split at h
            · rename_i k1 k2 h1 h2
              cases h
              cases r with
              | cons r1 r2 =>
                cases q with
                | cons q1 q2 => exact .cons (nk_is I n t _ _ _ h1 r1 q1) (ih _ _ _ h2 r2 q2)
            · cases h
        exact .tup ho hc hd (by simpa using all ts ks _ _ e rx rv)
  | 0, .bl b, k, v, u, h, r, q => by cases h
  | n + 1, .bl b, k, v, u, h, r, q => by cases h
  | 0, .ref b, k, v, u, h, r, q => by cases h
  | n + 1, .ref b, k, v, u, h, r, q => by cases h
  | 0, .rdl b, k, v, u, h, r, q => by cases h
  | n + 1, .rdl b, k, v, u, h, r, q => by cases h
theorem nk_key (I : Inv X pins σ H s) {t : T} {k : NestedKey} {b : Addr} (h : toNK nkd t = some k) (r : Rep (kx X) H ρ t (.ref b)) : (nestedKind X.prog X.w).is s.heap k b :=
  ⟨nk_is I nkd t k _ _ h r rfl, Nat.le_trans (nk_depth _ _ _ h) (by decide)⟩
abbrev ERel : NestedKey × Addr × V → NestedKey × Addr × Value → Prop := fun x y => x.1 = y.1 ∧ x.2.1 = y.2.1 ∧ RelV x.2.2 y.2.2
theorem erel_keys : ∀ {xs : List (NestedKey × Addr × V)} {ys : List (NestedKey × Addr × Value)}, Paired ERel xs ys → ys.map (·.1) = xs.map (·.1)
  | _, _, .nil => rfl
  | _, _, .cons a b => by rw [List.map_cons, List.map_cons, erel_keys b, a.1]
/-- the dict in the very heap -/
theorem dn_heap (I : Inv X pins σ H s) {a : Addr} {xs : List (NestedKey × Addr × V)} {kvs : List (T × T)} (h : H a = some (dnO (kx X) a xs)) (r : RepD (kx X) H ρ kvs xs) :
    xs.length ≤ sizeLine ∧ (a == sysModules) = false ∧ ∃ ys : List (NestedKey × Addr × Value), Paired ERel xs ys ∧ s.heap.DictOfH (nestedKind X.prog X.w) a ys := by
  obtain ⟨⟨z, q, ys, p, o, es, ep, h1, h2, h3, h4, h5⟩, _⟩ := I.hok a _ h
  refine ⟨z, q, ys, p, o, es, ep, h1, h2, h3, h4, ?_, h5⟩
  have all : ∀ {kvs : List (T × T)} {xs : List (NestedKey × Addr × V)} {ys : List (NestedKey × Addr × Value)}, RepD (kx X) H ρ kvs xs → Paired ERel xs ys → ∀ y ∈ ys, (nestedKind X.prog X.w).is s.heap y.1 y.2.1 := by
    intro kvs xs ys r
    induction r generalizing ys with
    | nil => intro p y hy; cases p; cases hy
    | cons a b c d ih =>
      intro p y hy
      cases p with
      | cons p1 p2 =>
        rcases List.mem_cons.mp hy with e | hy
        · subst e
          rw [← p1.1, ← p1.2.1]
          exact nk_key I a b
        · exact ih p2 y hy
  exact all r p
/-- a dict is laid, or written -/
theorem dn_obj {h : Heap} {a : Addr} {xs : List (NestedKey × Addr × V)} {ys : List (NestedKey × Addr × Value)} (z : xs.length ≤ sizeLine) (q : (a == sysModules) = false) (p : Paired ERel xs ys) (d : h.DictOfH (nestedKind X.prog X.w) a ys) {H' : Hp} :
    ObjOk X.prog X.w H' h a (dnO (kx X) a xs) := by
  obtain ⟨o, es, ep, h1, h2, h3, h4, _, h5⟩ := d
  refine ⟨⟨z, q, ys, p, o, es, ep, h1, h2, h3, h4, h5⟩, ⟨o, h1⟩, ?_⟩
  rintro h1' h2' ⟨z, q, ys, p, o, es, ep, g1, g2⟩ keep
  exact ⟨z, q, ys, p, o, es, ep, keep _ g1, g2⟩
end
/-! ### looking up, storing, on trees -/
def isKey (k : NestedKey) (t : T) : Bool := decide (toNK nkd t = some k)
def lookD (kvs : List (T × T)) (k : NestedKey) : Option T := (kvs.find? fun p => isKey k p.1).map (·.2)
def storeD (kvs : List (T × T)) (t : T) (k : NestedKey) (u : T) : List (T × T) := if (lookD kvs k).isSome then kvs.map fun p => if isKey k p.1 then (p.1, u) else p else kvs ++ [(t, u)]
section
variable {K : KX} {H : Hp} {ρ : List Addr}
theorem repd_look : ∀ {kvs : List (T × T)} {xs : List (NestedKey × Addr × V)} (k : NestedKey), RepD K H ρ kvs xs → match lookD kvs k, (xs.find? fun x => decide (x.1 = k)) with
    | some u, some x => x.1 = k ∧ Rep K H ρ u x.2.2
    | none, none => True
    | _, _ => False := by
  intro kvs xs k r
  induction r with
  | nil => trivial
  | @cons t u k1 b v r xs h1 h2 h3 h4 ih =>
    unfold lookD at ih ⊢
    by_cases e : k1 = k
    · subst e
      have hk : isKey k1 t = true := decide_eq_true h1
      simp only [List.find?_cons, hk, decide_true, Option.map_some]
      exact ⟨trivial, h3⟩
    · have hk : isKey k t = false := decide_eq_false fun z => e (by rw [h1] at z; exact Option.some.inj z)
      have hd : decide (k1 = k) = false := decide_eq_false e
      simp only [List.find?_cons, hk, hd]
      exact ih
theorem repd_len {kvs : List (T × T)} {xs : List (NestedKey × Addr × V)} (r : RepD K H ρ kvs xs) : kvs.length = xs.length := by
  induction r with
  | nil => rfl
  | cons a b c d ih => simp [ih]
/-- the raw entries behind a store -/
def storeX (xs : List (NestedKey × Addr × V)) (k : NestedKey) (b : Addr) (v : V) : List (NestedKey × Addr × V) :=
  if (xs.find? fun x => decide (x.1 = k)).isSome then xs.map fun x => if x.1 = k then (x.1, x.2.1, v) else x else xs ++ [(k, b, v)]
theorem repd_app {kvs kws : List (T × T)} {xs ys : List (NestedKey × Addr × V)} (r : RepD K H ρ kvs xs) (q : RepD K H ρ kws ys) : RepD K H ρ (kvs ++ kws) (xs ++ ys) := by
  induction r with
  | nil => exact q
  | cons a b c d ih => exact .cons a b c ih
theorem repd_store {kvs : List (T × T)} {xs : List (NestedKey × Addr × V)} {t u : T} {k : NestedKey} {b : Addr} {v : V} (r : RepD K H ρ kvs xs) (h1 : toNK nkd t = some k) (h2 : Rep K H ρ t (.ref b)) (h3 : Rep K H ρ u v) : RepD K H ρ (storeD kvs t k u) (storeX xs k b v) := by
  have l := repd_look k r
  unfold storeD storeX
  cases e1 : lookD kvs k with
  | none =>
    cases e2 : (xs.find? fun x => decide (x.1 = k)) with
    | none => exact repd_app r (.cons h1 h2 h3 .nil)
    | some x => rw [e1, e2] at l; exact l.elim
  | some u0 =>
    cases e2 : (xs.find? fun x => decide (x.1 = k)) with
    | none => rw [e1, e2] at l; exact l.elim
    | some x =>
      simp only [Option.isSome_some, if_true]
      clear l e1 e2
      induction r with
      | nil => exact .nil
      | @cons t1 u1 k1 b1 v1 r1 xs1 g1 g2 g3 g4 ih =>
        by_cases e : k1 = k
        · subst e
          have hk : isKey k1 t1 = true := decide_eq_true g1
          simp only [List.map_cons, hk, if_true]
          exact .cons g1 g2 h3 ih
        · have hk : isKey k t1 = false := decide_eq_false fun z => e (by rw [g1] at z; exact Option.some.inj z)
          simp only [List.map_cons, hk, e, if_false]
          exact .cons g1 g2 g3 ih
theorem erel_look : ∀ {xs : List (NestedKey × Addr × V)} {ys : List (NestedKey × Addr × Value)} (k : NestedKey), Paired ERel xs ys → match (xs.find? fun x => decide (x.1 = k)), atKey ys k with
    | some x, some y => RelV x.2.2 y.2
    | none, none => True
    | _, _ => False
  | _, _, k, .nil => trivial
  | x :: xs, y :: ys, k, .cons a b => by
    have ih := erel_look k b
    unfold atKey at ih ⊢
    by_cases e : x.1 = k
    · have e2 : y.1 = k := a.1.symm.trans e
      simp only [List.find?_cons, e, e2, decide_true, Option.map_some]
      exact a.2.2
    · have e2 : ¬ y.1 = k := fun z => e (a.1.trans z)
      simp only [List.find?_cons, decide_eq_false e, decide_eq_false e2]
      exact ih
theorem erel_store {xs : List (NestedKey × Addr × V)} {ys : List (NestedKey × Addr × Value)} {k : NestedKey} {b : Addr} {v : V} {u : Value} (p : Paired ERel xs ys) (r : RelV v u) : Paired ERel (storeX xs k b v) (storedH ys k b u) := by
  have l := erel_look k p
  unfold storeX storedH
  cases e1 : (xs.find? fun x => decide (x.1 = k)) with
  | none =>
    cases e2 : atKey ys k with
    | some y => rw [e1, e2] at l; exact l.elim
    | none =>
      simp only [Option.isSome_none, Bool.false_eq_true, if_false]
      clear l e1 e2
      induction p with
      | nil => exact .cons ⟨rfl, rfl, r⟩ .nil
      | cons a b ih => exact .cons a ih
  | some x =>
    cases e2 : atKey ys k with
    | none => rw [e1, e2] at l; exact l.elim
    | some y =>
      simp only [Option.isSome_some, if_true]
      clear l e1 e2
      induction p with
      | nil => exact .nil
      | @cons x y xs ys a b ih =>
        rw [List.map_cons, List.map_cons]
        refine .cons ?_ ih
        by_cases e : x.1 = k
        · have e2 : y.1 = k := a.1.symm.trans e
          rw [if_pos e]
          unfold putAt
          rw [if_pos e2]
          exact ⟨a.1, a.2.1, r⟩
        · have e2 : ¬ y.1 = k := fun z => e (a.1.trans z)
          rw [if_neg e]
          unfold putAt
          rw [if_neg e2]
          exact a
theorem storeX_len (xs : List (NestedKey × Addr × V)) (k : NestedKey) (b : Addr) (v : V) : (storeX xs k b v).length ≤ xs.length + 1 := by
  unfold storeX
  split
  · simp
  · simp
end
/-! ### the operations -/
section
variable {X : Cx}
/-- what an operation finds: the dict at a, the key k at b -/
structure DnAt (X : Cx) (H : Hp) (ρ : List Addr) (a : Addr) (kvs : List (T × T)) (xs : List (NestedKey × Addr × V)) : Prop where
  h : H a = some (dnO (kx X) a xs)
  r : RepD (kx X) H ρ kvs xs
theorem nroom {A : Around} (hu : A.units + 64 < cLine) (P : Program) (w : World) : (nestedKind P w).room A.in1 := by
  show A.units + 1 + 8 < cLine
  omega
theorem op_inN (neg : Bool) (hu : X.A.units + 64 < cLine) : OpR X (compareOp (if neg then .NotIn else .In)) (fun x y H Q => ∃ a b ρ kvs xs t k, x = .ref b ∧ y = .ref a ∧ DnAt X H ρ a kvs xs ∧ toNK nkd t = some k ∧ Rep (kx X) H ρ t (.ref b) ∧ Q (.bl (if neg then !(lookD kvs k).isSome else (lookD kvs k).isSome)) H) := by
  intro pins s σ H x y v u Q I rx ry h
  obtain ⟨a, b, ρ, kvs, xs, t, k, rfl, rfl, d, hk, rb, q⟩ := h
  cases rx; cases ry
  obtain ⟨z, hs, ys, p, dh⟩ := dn_heap I d.h d.r
  have l1 := repd_look k d.r
  have l2 := erel_look k p
  have e : (valueAt (pairsH ys) k).isSome = (lookD kvs k).isSome := by
    rw [valueAt_pairsH, Option.isSome_map]
    cases h1 : lookD kvs k <;> cases h2 : (xs.find? fun x => decide (x.1 = k)) <;> cases h3 : atKey ys k <;> rw [h1, h2] at l1 <;> rw [h2, h3] at l2 <;> first | rfl | exact l1.elim | exact l2.elim
  cases neg with
  | false => exact in_keyed (nroom hu _ _) (nk_key I hk rb) hs ⟨ys, dh, rfl⟩ ⟨.bl _, H, I.tok _, by rw [e]; rfl, q⟩
  | true => exact notIn_keyed (nroom hu _ _) (nk_key I hk rb) hs ⟨ys, dh, rfl⟩ ⟨.bl _, H, I.tok _, by rw [e]; rfl, q⟩
/-- what stands there -/
theorem look_all {H : Hp} {ρ : List Addr} {kvs : List (T × T)} {xs : List (NestedKey × Addr × V)} {ys : List (NestedKey × Addr × Value)} {k : NestedKey} {u : T} (r : RepD (kx X) H ρ kvs xs) (p : Paired ERel xs ys) (h : lookD kvs k = some u) :
    ∃ v w, valueAt (pairsH ys) k = some w ∧ RelV v w ∧ Rep (kx X) H ρ u v := by
  have l1 := repd_look k r
  have l2 := erel_look k p
  cases h2 : (xs.find? fun x => decide (x.1 = k)) with
  | none => rw [h, h2] at l1; exact l1.elim
  | some x =>
    cases h3 : atKey ys k with
    | none => rw [h2, h3] at l2; exact l2.elim
    | some y =>
      rw [h, h2] at l1
      rw [h2, h3] at l2
      exact ⟨x.2.2, y.2, by rw [valueAt_pairsH, h3]; rfl, l2, l1.2⟩
theorem look_none {H : Hp} {ρ : List Addr} {kvs : List (T × T)} {xs : List (NestedKey × Addr × V)} {ys : List (NestedKey × Addr × Value)} {k : NestedKey} (r : RepD (kx X) H ρ kvs xs) (p : Paired ERel xs ys) (h : lookD kvs k = none) : valueAt (pairsH ys) k = none := by
  have l1 := repd_look k r
  have l2 := erel_look k p
  cases h2 : (xs.find? fun x => decide (x.1 = k)) with
  | some x => rw [h, h2] at l1; exact l1.elim
  | none =>
    cases h3 : atKey ys k with
    | some y => rw [h2, h3] at l2; exact l2.elim
    | none => rw [valueAt_pairsH, h3]; rfl
theorem ix_N (hu : X.A.units + 64 < cLine) : IxR X (fun x y H Q => ∃ a b ρ kvs xs t k u, x = .ref a ∧ y = .ref b ∧ DnAt X H ρ a kvs xs ∧ toNK nkd t = some k ∧ Rep (kx X) H ρ t (.ref b) ∧ lookD kvs k = some u ∧ ∀ v, Rep (kx X) H ρ u v → Q v H) := by
  intro value slice pins s σ H x y v0 u0 Q I rx ry h hs
  obtain ⟨a, b, ρ, kvs, xs, t, k, u, rfl, rfl, d, hk, rb, hl, q⟩ := h
  cases rx; cases ry
  obtain ⟨z, hsm, ys, p, dh⟩ := dn_heap I d.h d.r
  obtain ⟨v, w, h1, h2, h3⟩ := look_all d.r p hl
  exact subscriptTail_builtinR (x := w) dh.typeIs PySem.F.slot_dict_getitem.lookup
    (getItem_keyed (Q := fun r s' => r = w ∧ EP X pins σ Q r s') (nroom hu _ _) (nk_key I hk rb) ⟨ys, dh, rfl⟩ h1 ⟨rfl, v, H, I.tok _, h2, q v h3⟩) hs
theorem set_N (hu : X.A.units + 64 < cLine) : PSet X (fun o i v H Q => ∃ a b ρ kvs xs t k, o = .ref a ∧ i = .ref b ∧ DnAt X H ρ a kvs xs ∧ toNK nkd t = some k ∧ Rep (kx X) H ρ t (.ref b) ∧ xs.length < sizeLine ∧ Q (upd H a (dnO (kx X) a (storeX xs k b v)))) := by
  intro pins s σ H o i v ov iv u Q I ro ri rv h
  obtain ⟨a, b, ρ, kvs, xs, t, k, rfl, rfl, d, hk, rb, hz, q⟩ := h
  cases ro; cases ri
  obtain ⟨z, hsm, ys, p, dh⟩ := dn_heap I d.h d.r
  have hl : ys.length = xs.length := by
    have := congrArg List.length (erel_keys p)
    simpa using this
  refine wpAny_setItem_heap (hsz := by rw [hl]; omega) (nroom hu _ _) (nk_key I hk rb) dh fun h' dh' sb => ?_
  refine ⟨_, I.write (x := a) (e := a) (o := dnO (kx X) a (storeX xs k b v)) (t' := s.toks + _) (by rw [d.h]; trivial) (.inl rfl) (fun b' ob hb e => (sb.2 b' hb).trans e) ?_ ?_, q⟩
  · obtain ⟨o', _, _, g, _⟩ := dh'
    exact ⟨o', g⟩
  · exact dn_obj (Nat.le_trans (storeX_len xs k b v) hz) hsm (erel_store p rv) dh'
theorem pe_dnewN {pos : Pos} : PE X (.Dict [] [] pos) (fun _ H Q => ∀ d, H d = none → Q (.ref d) (upd H d (dnO (kx X) d []))) := by
  refine ⟨fun pins s σ H Q I h => ?_⟩
  refine wpAny_Dict_empty ⟨.ref s.heap.objs.size, _, I.laid (a := s.heap.objs.size) (o := dnO (kx X) s.heap.objs.size []) (t' := s.toks) (fun _ _ q => Heap.get?_push_of_some _ q) (Nat.le_refl _) ?_, rfl, h _ (I.hok.fresh (Nat.le_refl _))⟩
  refine dn_obj (ys := []) (Nat.zero_le _) ?_ .nil (Heap.DictOfH.new _)
  have hb := (dk_empty (P := X.prog) (w := X.w) (H := H) s.heap I.big)
  exact hb.2.1
end
end TL
/-! TL12 -/
set_option Elab.async false
set_option linter.all false
set_option maxRecDepth 100000
set_option maxHeartbeats 4000000
/-! what is walked in twos: zip, enumerate -/
namespace TL
variable [Tb]
open PySem PySem.Spec PyProof.Rows L2
/-- a value as something walked: whether it is a tuple, and its items by the store -/
def seqOf (t : T) (st : Store) : Option (Bool × Its1) := match t with
  | .tup ts => some (true, fun _ => some ts)
  | .ref l => match st[l]? with
    | some (.lst _) => some (false, fun st => match st[l]? with
      | some (.lst ts) => some ts
      | _ => none)
    | _ => none
  | .rdl ns => some (false, fun _ => some (ns.map T.int))
  | _ => none
/-- the sequence at a, by the tag -/
def SqA (b : Bool) (K : PySem.W.Frag) (H : Hp) (a : Addr) (xs : List V) : Prop := if b then SqT K H a xs else SqL K H a xs
theorem seq_at {X : Cx} {H : Hp} {ρ : List Addr} {st : Store} {t : T} {v : V} {b : Bool} {it : Its1} (w : Wd (kx X) ρ st H) (r : Rep (kx X) H ρ t v) (h : seqOf t st = some (b, it)) :
    ∃ a, v = .ref a ∧ (∃ xs, SqA b X.K H a xs) ∧ ∀ H' ρ' st' ts, Fut H H' ρ ρ' → Wd (kx X) ρ' st' H' → it st' = some ts → ∃ xs, SqA b X.K H' a xs ∧ Reps (kx X) H' ρ' ts xs := by
  cases t with
  | tup ts =>
    cases h
    cases r with
    | tup h1 h2 =>
      refine ⟨_, rfl, ⟨_, h1⟩, fun H' ρ' st' ts' f w' e => ?_⟩
      cases e
      exact ⟨_, f.e.sqT h1, h2.up f⟩
  | ref l =>
    simp only [seqOf] at h
    cases hl : st[l]? with
    | none => simp [hl] at h
    | some ob =>
      cases ob with
      | lst ts0 =>
        simp only [hl] at h
        cases h
        obtain ⟨a0, vs0, rfl, ha0, h0, r0⟩ := rep_lst w r hl
        refine ⟨_, rfl, ⟨_, SqL.of h0⟩, fun H' ρ' st' ts' f w' e => ?_⟩
        simp only at e
        split at e
        · rename_i ts3 h3
          cases e
          obtain ⟨vs2, h4, r4⟩ := w'.addr h3 (f.get ha0)
          exact ⟨_, SqL.of h4, r4⟩
        · cases e
      | dK kvs => simp [hl] at h
      | dN kvs => simp [hl] at h
  | rdl ns =>
    cases h
    cases r with
    | rdl hx =>
      refine ⟨_, rfl, ⟨_, hx.sq⟩, fun H' ρ' st' ts' f w' e => ?_⟩
      cases e
      exact ⟨_, (f.e.rdl hx).sq, reps_ints ns⟩
  | non => cases h
  | bl b => cases h
  | int i => cases h
  | str x => cases h
def zipL (as bs : List T) : List T := List.zipWith (fun x y => T.tup [x, y]) as bs
def xiZip (fa fb : XE) : XI := fun e st => (fa e st).bind fun p => (fb e p.2).bind fun r => match seqOf p.1 r.2, seqOf r.1 r.2 with
  | some (b, i), some (c, j) => if b = c then some (fun st => (i st).bind fun xs => (j st).map fun ys => zipL xs ys, r.2) else none
  | _, _ => none
def enumL (n : Nat) : List T → List T
  | [] => []
  | t :: ts => .tup [.int (n : Nat), t] :: enumL (n + 1) ts
theorem enumL_get : ∀ {ts : List T} {n i : Nat}, (enumL n ts)[i]? = (ts[i]?).map fun t => .tup [.int ((n + i : Nat) : Int), t]
  | [], n, i => by simp [enumL]
  | t :: ts, n, 0 => by simp [enumL]
  | t :: ts, n, i + 1 => by
    simp only [enumL, List.getElem?_cons_succ]
    rw [enumL_get]
    have : n + 1 + i = n + (i + 1) := by omega
    rw [this]
theorem enumL_length : ∀ {ts : List T} {n : Nat}, (enumL n ts).length = ts.length
  | [], n => rfl
  | t :: ts, n => by simp [enumL, enumL_length]
def xiEnum (fa : XE) : XI := fun e st => (fa e st).bind fun p => match seqOf p.1 p.2 with
  | some (false, i) => some (fun st => (i st).map (enumL 0), p.2)
  | _ => none
section
variable {X : Cx} {a b : Expr} {fa fb : XE} {p pos tpos : Pos} {elts : List Expr} {kk : Nat}
theorem rep_pair {K : KX} {H : Hp} {ρ : List Addr} {T0 : Addr} {x y : V} {tx ty : T} (hT : H T0 = none) (rx : Rep K H ρ tx x) (ry : Rep K H ρ ty y) : Rep K (upd H T0 (.tup [x, y])) ρ (.tup [tx, ty]) (.ref T0) := by
  have f : Fut H (upd H T0 (.tup [x, y])) ρ ρ := fut_grow (grow_new hT)
  exact .tup (.inl (.inl upd_same)) (.cons (rx.up f) (.cons (ry.up f) .nil))
theorem it_zip (ha : ET X a fa) (hb : ET X b fb) (hm : X.mg "zip" = none) (hg : Gl X "zip" := by rfl) (hs : starEach [a, b] X.env = (false, eval a X.env) :: starEach [b] X.env := by rfl) (hs2 : starEach [b] X.env = (false, eval b X.env) :: starEach [] X.env := by rfl)
    (hpl : (backTo pos (starEach [b] X.env)).any (·.1) = false := by rfl) : IT X (.Tuple elts kk tpos) (.Call (.Name "zip" p) [a, b] [] pos) (xiZip fa fb) := by
  intro env st ρ σ H it st' s w e R q
  unfold xiZip at e
  cases h : fa env st with
  | none => simp [h] at e
  | some pr =>
    obtain ⟨t, s1⟩ := pr
    simp only [h, Option.bind_some] at e
    cases h2 : fb env s1 with
    | none => simp [h2] at e
    | some pr2 =>
      obtain ⟨t2, s2⟩ := pr2
      simp only [h2, Option.bind_some] at e
      cases k1 : seqOf t s2 with
      | none => simp [k1] at e
      | some bi =>
        obtain ⟨b1, i1⟩ := bi
        cases k2 : seqOf t2 s2 with
        | none => simp [k1, k2] at e
        | some bj =>
          obtain ⟨b2, i2⟩ := bj
          simp only [k1, k2] at e
          split at e
          · rename_i hbb
            subst hbb
            cases e
            refine Wi.of (RZ.pi_zipA hg hm (pa_cons We.pe (pa_cons We.pe pa_nil hs2) hs) hs hpl) ?_
            refine ha env st ρ σ H _ _ s w h _ fun v H1 ρ1 f1 w1 r1 => ?_
            refine hb env _ ρ1 σ H1 _ _ (s.up f1) w1 h2 _ fun v2 H2 ρ2 f2 w2 r2 => ?_
            obtain ⟨a1, rfl, ⟨xs1, q1⟩, g1⟩ := seq_at w2 (r1.up f2) k1
            obtain ⟨a2, rfl, ⟨xs2, q2⟩, g2⟩ := seq_at w2 r2 k2
            refine ⟨a1, a2, xs1, xs2, rfl, ?_⟩
            have fin : ∀ (J : It), (∀ i H3, (∃ (xs ys : List V) (x y : V), SqA b1 X.K H3 a1 xs ∧ SqA b1 X.K H3 a2 ys ∧ xs[i]? = some x ∧ ys[i]? = some y) → J.go i H3) →
                (∀ i H3, (∃ (xs ys : List V), SqA b1 X.K H3 a1 xs ∧ SqA b1 X.K H3 a2 ys ∧ (xs.length ≤ i ∨ ys.length ≤ i)) → J.stop i H3) →
                (∀ i H3 v H4, J.yld i H3 v H4 → ∃ T x y, v = .ref T ∧ H3 T = none ∧ H4 = upd H3 T (.tup [x, y]) ∧ (∀ xs, SqA b1 X.K H3 a1 xs → xs[i]? = some x) ∧ ∀ ys, SqA b1 X.K H3 a2 ys → ys[i]? = some y) →
                ItOk (kx X) H2 ρ2 (fun st => (i1 st).bind fun xs => (i2 st).map fun ys => zipL xs ys) J := by
              intro J hgo hstop hyld H3 ρ3 st3 ts3 f3 w3 e3 i
              cases c1 : i1 st3 with
              | none => simp [c1] at e3
              | some as =>
                cases c2 : i2 st3 with
                | none => simp [c1, c2] at e3
                | some bs =>
                  simp only [c1, c2, Option.bind_some, Option.map_some] at e3
                  cases e3
                  obtain ⟨ys1, p1, z1⟩ := g1 H3 ρ3 st3 as f3 w3 c1
                  obtain ⟨ys2, p2, z2⟩ := g2 H3 ρ3 st3 bs f3 w3 c2
                  have l1 := z1.length
                  have l2 := z2.length
                  have hl : (zipL as bs).length = min as.length bs.length := by simp [zipL]
                  refine ⟨fun hi => ?_, fun hi => ?_, fun x H4 hy => ?_⟩
                  · rw [hl] at hi
                    obtain ⟨v1, hv1, _⟩ := z1.get (List.getElem?_eq_getElem (by omega : i < as.length))
                    obtain ⟨v2, hv2, _⟩ := z2.get (List.getElem?_eq_getElem (by omega : i < bs.length))
                    exact hgo i H3 ⟨ys1, ys2, v1, v2, p1, p2, hv1, hv2⟩
                  · rw [hl] at hi
                    exact hstop i H3 ⟨ys1, ys2, p1, p2, by omega⟩
                  · obtain ⟨T0, x1, y1, rfl, hT, rfl, u1, u2⟩ := hyld i H3 x H4 hy
                    refine ⟨grow_new hT, fun t ht => ?_⟩
                    simp only [zipL, List.getElem?_zipWith] at ht
                    cases n1 : as[i]? with
                    | none => simp [n1] at ht
                    | some ta =>
                      cases n2 : bs[i]? with
                      | none => simp [n1, n2] at ht
                      | some tb =>
                        simp only [n1, n2, Option.some.injEq] at ht
                        subst ht
                        obtain ⟨v1, hv1, rv1⟩ := z1.get n1
                        obtain ⟨v2, hv2, rv2⟩ := z2.get n2
                        rw [u1 _ p1] at hv1
                        rw [u2 _ p2] at hv2
                        cases hv1; cases hv2
                        exact rep_pair hT rv1 rv2
            cases b1 with
            | true => exact .inr ⟨q1, q2, q _ H2 ρ2 (f1.trans f2) w2 (fin (RZ.ItzT X.K a1 a2) (fun i H3 h => h) (fun i H3 h => h) fun i H3 v H4 h => h)⟩
            | false => exact .inl ⟨q1, q2, q _ H2 ρ2 (f1.trans f2) w2 (fin (Itz X.K a1 a2) (fun i H3 h => h) (fun i H3 h => h) fun i H3 v H4 h => h)⟩
          · cases e
theorem it_enum (ha : ET X a fa) (hm : X.mg "enumerate" = none) (hg : Gl X "enumerate" := by rfl) (hs : starEach [a] X.env = [(false, eval a X.env)] := by rfl) (hs2 : starEach [a] X.env = (false, eval a X.env) :: starEach [] X.env := by rfl) :
    IT X (.Tuple elts kk tpos) (.Call (.Name "enumerate" p) [a] [] pos) (xiEnum fa) := by
  intro env st ρ σ H it st' s w e R q
  unfold xiEnum at e
  cases h : fa env st with
  | none => simp [h] at e
  | some pr =>
    obtain ⟨t, s1⟩ := pr
    simp only [h, Option.bind_some] at e
    cases k1 : seqOf t s1 with
    | none => simp [k1] at e
    | some bi =>
      obtain ⟨b1, i1⟩ := bi
      cases b1 with
      | true => simp [k1] at e
      | false =>
        simp only [k1] at e
        cases e
        refine Wi.of (pi_enum hg hm (pa_cons We.pe pa_nil hs2) hs) ?_
        refine ha env st ρ σ H _ _ s w h _ fun v H1 ρ1 f1 w1 r1 => ?_
        obtain ⟨a1, rfl, ⟨xs1, q1⟩, g1⟩ := seq_at w1 r1 k1
        refine ⟨a1, xs1, rfl, q1, q _ H1 ρ1 f1 w1 fun H3 ρ3 st3 ts3 f3 w3 e3 i => ?_⟩
        cases c1 : i1 st3 with
        | none => simp [c1] at e3
        | some as =>
          simp only [c1, Option.map_some] at e3
          cases e3
          obtain ⟨ys1, p1, z1⟩ := g1 H3 ρ3 st3 as f3 w3 c1
          have l1 := z1.length
          refine ⟨fun hi => ?_, fun hi => ?_, fun x H4 hy => ?_⟩
          · rw [enumL_length] at hi
            obtain ⟨v1, hv1, _⟩ := z1.get (List.getElem?_eq_getElem hi)
            exact ⟨ys1, v1, p1, hv1⟩
          · rw [enumL_length] at hi
            exact ⟨ys1, p1, by omega⟩
          · obtain ⟨T0, x1, rfl, hT, rfl, u1⟩ := hy
            refine ⟨grow_new hT, fun t ht => ?_⟩
            rw [enumL_get] at ht
            cases n1 : as[i]? with
            | none => simp [n1] at ht
            | some ta =>
              simp only [n1, Option.map_some, Option.some.injEq] at ht
              subst ht
              obtain ⟨v1, hv1, rv1⟩ := z1.get n1
              rw [u1 _ p1] at hv1
              cases hv1
              have e0 : ((0 + i : Nat) : Int) = ((i : Nat) : Int) := by omega
              rw [e0]
              exact rep_pair hT (.int _) rv1
end
end TL
/-! TL13 -/
set_option Elab.async false
set_option linter.all false
set_option maxRecDepth 100000
set_option maxHeartbeats 4000000
/-! enumerate of what begins an iterator; of tuples -/
namespace TL
variable [Tb]
open PySem PySem.Spec PyProof.Rows L2 PySem.W
theorem enum_new1 {v : Value} {o : Obj} {H : Heap → Prop} (B : Begins v o H) :
    Meets (Builtin.«enumerate.__new__» ⟨[.type "enumerate", v], []⟩) (fun _ R s => H s.heap ∧
      R (.ok (.ret (.ref (s.heap.push o).objs.size))) { s with heap := (s.heap.push o).push { cls := .type "enumerate", data := .fields #[.none, .bool false, .ref s.heap.objs.size, rawInt 0, .none, .none] } }) :=
  .of_wp fun prog w A R s h => by
    obtain ⟨hp, g, d, tk, os⟩ := s; obtain ⟨h1, h⟩ := h; have hsub := sub_enumerate
    have q1 : ∀ {A' : Around} {E : Value → Shared → Prop} {Q : Value → Shared → Prop}, Q (.ref hp.objs.size) ⟨hp.push o, g, d, tk, os⟩ → wpAny (model prog w) A' (pyIter v) Q E ⟨hp, g, d, tk, os⟩ := fun q => B.iter prog w _ _ ⟨hp, g, d, tk, os⟩ _ h1 q
    wp_walk using q1
    refine wpAny_stack_any fun st0 => wpAny_pure ?_
    split
    · rename_i c _ _ _ _ _; cases (c == Value.type "enumerate") <;> (wp_walk using q1; exact ⟨_, rfl, h⟩)
    · wp_walk using q1; exact ⟨_, rfl, h⟩
section
variable {prog : Program} {w : World} {A : Around} {E : Value → Shared → Prop} {s : Shared}
theorem enum_call1 {v : Value} {o : Obj} {H : Heap → Prop} {Q : Value → Shared → Prop} (B : Begins v o H) (h1 : H s.heap)
    (h : ∀ h', IsEnum h' (s.heap.objs.size + 1) s.heap.objs.size 0 .none → h'.get? s.heap.objs.size = some o → h'.objs.size = s.heap.objs.size + 2 → (∀ b u, s.heap.get? b = some u → h'.get? b = some u) → Q (.ref (s.heap.objs.size + 1)) { s with heap := h' }) :
    wpAny (model prog w) A (call (.type "enumerate") [v]) Q E s := by
  refine callType_new F.called_enumerate (by decide) (F.typeCall_enumerate_1 _) (F.newCall_enumerate_1 _) (fun obj => F.args_object_init_2 obj _) F.entry_enumerate_new (enum_new1 B) ⟨h1, ?_⟩
  have hz : (s.heap.push o).objs.size = s.heap.objs.size + 1 := Heap.size_push ..
  show _ ∧ _; rw [hz]
  have he : IsEnum ((s.heap.push o).push { cls := .type "enumerate", data := .fields #[.none, .bool false, .ref s.heap.objs.size, rawInt 0, .none, .none] }) (s.heap.objs.size + 1) s.heap.objs.size 0 .none := by
    have g := Heap.get?_push_size (s.heap.push o) (o := { cls := .type "enumerate", data := .fields #[.none, .bool false, .ref s.heap.objs.size, rawInt 0, .none, .none] }) rfl
    rw [hz] at g; exact g
  exact ⟨⟨_, he, rfl⟩, h _ he (Heap.get?_push_of_some _ (Heap.get?_push_size _ B.free)) (by rw [Heap.size_push, hz]) fun b u x => Heap.get?_push_of_some _ (Heap.get?_push_of_some _ x)⟩
end
theorem pyNext_enumT_end {prog : Program} {w : World} {A : Around} {E : Value → Shared → Prop} {s : Shared} {e it t : Addr} {i : Nat} {c : Int} {items : Array Value} {old : Value} {Q : Option Value → Shared → Prop} (hh : A.handled = none) (he : IsEnum s.heap e it c old) (hit : s.heap.IsTupleIter it t i) (ht : s.heap.IsTuple t items) (hx : items[i]? = none)
    (hQ : ∀ h', Heap.ExtBut it s.heap h' → Q none { s with heap := h' }) : wpAny (model prog w) A (pyNext (.ref e)) Q E s := by
  have hT : s.TypeIs (.ref e) "enumerate" := ⟨_, he, rfl⟩; unfold pyNext
  refine wpAny_bind (wpAny_attempt (wpAny_callSpecial?_slot (name := Str.ofString "__next__") hT F.slot_enumerate_next (wpAny_call_entry F.slot_enumerate_next hT F.entry_enumerate_next ?_ (F.args_enumerate_next_1 _))))
  show wpAny _ _ (field (.ref e) 2 >>= _) _ _ _; refine wpAny_bind (wpAny_field he rfl (x := .ref it) rfl ?_)
  refine wpAny_bind (wpAny_nextOf_tuple_end hh hit ht hx fun h' x he' hx' => ?_)
  obtain ⟨o, ho, hc⟩ := hx'; exact wpAny_bind (wpAny_isInstance (T := "StopIteration") (b := true) ⟨o, ho, hc⟩ isSubtype_stop (wpAny_pure (hQ _ he')))
/-- the tuple at a, each item in a new pair -/
def IteT (K : PySem.W.Frag) (a : Addr) : It :=
  ⟨fun i H => ∃ (xs : List V) (x : V), SqT K H a xs ∧ xs[i]? = some x, fun i H v H' => ∃ T x, v = .ref T ∧ H T = none ∧ H' = upd H T (.tup [.int (i : Nat), x]) ∧ ∀ xs, SqT K H a xs → xs[i]? = some x, fun i H => ∃ xs : List V, SqT K H a xs ∧ xs.length ≤ i⟩
theorem turn_enumT {P : Program} {w : World} {K : PySem.W.Frag} {elts : List Expr} {kk : Nat} {tpos : Pos} (a e it : Addr) :
    Turn P w K (.Tuple elts kk tpos) (IteT K a) [e, it] e (fun i h => (∃ old, IsEnum h e it ((i : Nat) : Int) old) ∧ h.IsTupleIter it a i ∧ e ≠ it ∧ a ≠ it ∧ a ≠ e) where
  mem := by simp
  obj := fun i h st b hb => by
    obtain ⟨⟨old, he⟩, ⟨o, ho, hc, hd⟩, _⟩ := st
    have e' : b = e ∨ b = it := by simpa using hb
    rcases e' with z | z
    · rw [z]; exact ⟨_, he, fun v q => nomatch q⟩
    · rw [z]; exact ⟨o, ho, fun v q => by rw [hd] at q; cases q⟩
  keep := fun i h h' st k => let ⟨⟨old, he⟩, hi, hne⟩ := st; ⟨⟨old, k e (by simp) _ he⟩, hi.at fun o q => k it (by simp) o q, hne⟩
  item := by
    intro X hP hw hK hc i pins s σ H E I hf st hg
    subst hP hw hK
    obtain ⟨⟨old, he⟩, hit, hne, ha1, ha2⟩ := st
    obtain ⟨xs, x, hq, hx⟩ := hg
    obtain ⟨its, rv, p, _⟩ := I.tuple hq
    obtain ⟨u, hu, ru⟩ := rv.get hx
    have hel : e < s.heap.objs.size := Heap.lt_size he
    have hil : it < s.heap.objs.size := by obtain ⟨_, q, _⟩ := hit; exact Heap.lt_size q
    have hsz := (Array.getElem?_eq_some_iff.mp (show its.toArray[i]? = some u by simpa using hu)).1
    refine wpAny_pyNext_enum_itemD (Draws.tuple (show X.A.in1.handled = none from I.ok.hd hc) it a ha1 its.toArray) he ⟨hit, p⟩ hsz hne (by simp; exact ⟨hne, Ne.symm ha2⟩) fun y h' tk hy ho hit' hT hsz hk => ?_
    have hy' : some y = some u := hy.symm.trans (by simpa using hu)
    cases hy'
    refine ⟨_, rfl, wpAny_letOwnedTupleGo_enum (s := { s with heap := h', toks := tk + 1 }) ho fun h'' he' sb => ?_⟩
    have hT2 : h''.get? s.heap.objs.size = some { cls := .type "tuple", data := .seq #[.int i tk, u] } := (sb.2 _ (Nat.ne_of_gt hel)).trans hT
    have new : ObjOk X.prog X.w (upd H s.heap.objs.size (.tup [.int (i : Nat), x])) h'' s.heap.objs.size (.tup [.int (i : Nat), x]) :=
      ⟨by show 2 ≤ sizeLine; decide, [.int i tk, u], .cons ⟨_, rfl⟩ (.cons ru .nil), ⟨_, hT2, rfl, _, rfl⟩⟩
    have I1 : Inv X pins σ (upd H s.heap.objs.size (.tup [.int (i : Nat), x])) { s with heap := h'', toks := tk + 1 } :=
      I.turnedNew (ch := [e, it]) (fun b ob hb q => (sb.2 b (fun z => hb (by simp [z]))).trans (hk b ob (fun z => hb (by simp [z])) (fun z => hb (by simp [z])) q)) hf (Nat.le_refl _) new
    refine ⟨.ref s.heap.objs.size, _, I1, rfl, ⟨_, x, rfl, I.hok.fresh (Nat.le_refl _), rfl, fun ys hy => by rw [I.tuple_inj hy hq]; exact hx⟩, ⟨⟨u, ?_⟩, hit'.1.at fun o q => (sb.2 it (Ne.symm hne)).trans q, hne, ha1, ha2⟩, fun b hb => ?_⟩
    · have e1 : ((i + 1 : Nat) : Int) = (i : Int) + 1 := by omega
      rw [e1]; exact he'
    · have hb' : b < s.heap.objs.size := by
        have e' : b = e ∨ b = it := by simpa using hb
        rcases e' with z | z
        · rw [z]; exact hel
        · rw [z]; exact hil
      rw [upd_ne (Nat.ne_of_lt hb')]; exact (hf b hb).1
  done := by
    intro X hP hw hK hc i pins s σ H E I hf st hg
    subst hP hw hK
    obtain ⟨⟨old, he⟩, hit, hne, ha1, ha2⟩ := st
    obtain ⟨xs, hq, hx⟩ := hg
    obtain ⟨its, rv, p, _⟩ := I.tuple hq
    obtain ⟨f0, f1, f2, f3, f4, f5⟩ := hf it (by simp)
    have hl := rv.length
    have hnone : its.toArray[i]? = none := by simp; omega
    refine pyNext_enumT_end (I.ok.hd hc) he hit p hnone fun h' eb => ⟨rfl, I.turned (t' := s.toks) (fun b o hb q => eb b o hb q) f0 f1 f3 f4 f5⟩
  self := fun A i s Q E st h => let ⟨⟨_, he⟩, _⟩ := st; wpAny_pyIter_enum he h
def iEnumT (K : PySem.W.Frag) (ta : TA) : TI := fun σ H R => ta σ H fun vs H1 => ∃ a xs, vs = [.ref a] ∧ SqT K H1 a xs ∧ R (IteT K a) H1
theorem pi_enumT {X : Cx} {e : Expr} {ta : TA} {p pos tpos : Pos} {elts : List Expr} {kk : Nat} (hg : Gl X "enumerate") (hm : X.mg "enumerate" = none) (ha : PA X [e] ta) (hs : starEach [e] X.env = [(false, eval e X.env)]) :
    PI X (.Tuple elts kk tpos) (.Call (.Name "enumerate" p) [e] [] pos) (iEnumT X.K ta) := by
  refine ⟨fun pins s σ H R I h => Call_ (ld_blt I hg hm boot_enumerate (PyProof.Rows.callWith_type1 (thn (ha.run pos pins s σ H _ I h) fun us s1 ⟨vs, H1, I1, r1, q1⟩ => ?_) hs rfl))⟩
  obtain ⟨a, xs, ex, hq, q⟩ := q1
  subst ex
  cases r1 with
  | cons r rr =>
    cases rr; cases r
    obtain ⟨its, rv, p', _⟩ := I1.tuple hq
    obtain ⟨oa, hoa, _⟩ := id p'
    have hal : a < s1.heap.objs.size := Heap.lt_size hoa
    refine enum_call1 (begins_tuple a its.toArray) p' fun h' he hit hsz hk => wpAny_pyIter_enum he ?_
    have I2 : Inv X pins σ H1 { s1 with heap := h' } := I1.kept (t' := s1.toks) hk
    refine ⟨s1.heap.objs.size + 1, [s1.heap.objs.size + 1, s1.heap.objs.size], _, _, H1, rfl, I2, turn_enumT a (s1.heap.objs.size + 1) s1.heap.objs.size, ⟨⟨.none, he⟩, ⟨_, hit, rfl, rfl⟩, Nat.succ_ne_self _, Nat.ne_of_lt hal, Nat.ne_of_lt (Nat.lt_succ_of_lt hal)⟩, fun b hb => ?_, q⟩
    have e' : b = s1.heap.objs.size + 1 ∨ b = s1.heap.objs.size := by simpa using hb
    have hle : s1.heap.objs.size ≤ b := by
      rcases e' with z | z
      · rw [z]; exact Nat.le_add_right _ _
      · rw [z]; exact Nat.le_refl _
    exact I1.fpOk hle (I1.hok.fresh hle)
def xiEnumT (fa : XE) : XI := fun e st => (fa e st).bind fun p => match seqOf p.1 p.2 with
  | some (true, i) => some (fun st => (i st).map (enumL 0), p.2)
  | _ => none
theorem it_enumT {X : Cx} {a : Expr} {fa : XE} {p pos tpos : Pos} {elts : List Expr} {kk : Nat} (ha : ET X a fa) (hm : X.mg "enumerate" = none) (hg : Gl X "enumerate" := by rfl) (hs : starEach [a] X.env = [(false, eval a X.env)] := by rfl) (hs2 : starEach [a] X.env = (false, eval a X.env) :: starEach [] X.env := by rfl) :
    IT X (.Tuple elts kk tpos) (.Call (.Name "enumerate" p) [a] [] pos) (xiEnumT fa) := by
  intro env st ρ σ H it st' s w e R q
  unfold xiEnumT at e
  cases h : fa env st with
  | none => simp [h] at e
  | some pr =>
    obtain ⟨t, s1⟩ := pr
    simp only [h, Option.bind_some] at e
    cases k1 : seqOf t s1 with
    | none => simp [k1] at e
    | some bi =>
      obtain ⟨b1, i1⟩ := bi
      cases b1 with
      | false => simp [k1] at e
      | true =>
        simp only [k1] at e
        cases e
        refine Wi.of (pi_enumT hg hm (pa_cons We.pe pa_nil hs2) hs) ?_
        refine ha env st ρ σ H _ _ s w h _ fun v H1 ρ1 f1 w1 r1 => ?_
        obtain ⟨a1, rfl, ⟨xs1, q1⟩, g1⟩ := seq_at w1 r1 k1
        refine ⟨a1, xs1, rfl, q1, q _ H1 ρ1 f1 w1 fun H3 ρ3 st3 ts3 f3 w3 e3 i => ?_⟩
        cases c1 : i1 st3 with
        | none => simp [c1] at e3
        | some as =>
          simp only [c1, Option.map_some] at e3
          cases e3
          obtain ⟨ys1, p1, z1⟩ := g1 H3 ρ3 st3 as f3 w3 c1
          have l1 := z1.length
          refine ⟨fun hi => ?_, fun hi => ?_, fun x H4 hy => ?_⟩
          · rw [enumL_length] at hi
            obtain ⟨v1, hv1, _⟩ := z1.get (List.getElem?_eq_getElem hi)
            exact ⟨ys1, v1, p1, hv1⟩
          · rw [enumL_length] at hi
            exact ⟨ys1, p1, by omega⟩
          · obtain ⟨T0, x1, rfl, hT, rfl, u1⟩ := hy
            refine ⟨grow_new hT, fun t ht => ?_⟩
            rw [enumL_get] at ht
            cases n1 : as[i]? with
            | none => simp [n1] at ht
            | some ta =>
              simp only [n1, Option.map_some, Option.some.injEq] at ht
              subst ht
              obtain ⟨v1, hv1, rv1⟩ := z1.get n1
              rw [u1 _ p1] at hv1
              cases hv1
              have e0 : ((0 + i : Nat) : Int) = ((i : Nat) : Int) := by omega
              rw [e0]
              exact rep_pair hT (.int _) rv1
/-- enumerate of a list or of a tuple: which of the two is told ahead -/
def isTupE (f : XE) (b : Bool) : XE := fun e st => (f e st).bind fun p => if (match p.1 with | .tup _ => true | _ => false) = b then some p else none
end TL
/-! TL14 -/
set_option Elab.async false
set_option linter.all false
set_option maxRecDepth 100000
set_option maxHeartbeats 4000000
/-! dicts on trees: looked up, asked, written, displayed, by comprehensions; sorted -/
namespace TL
variable [Tb]
open PySem PySem.Spec PyProof.Rows L2
/-! ### iterables of either kind -/
def xiEnumA (fa : XE) : XI := fun e st => (fa e st).bind fun p => match seqOf p.1 p.2 with
  | some (_, i) => some (fun st => (i st).map (enumL 0), p.2)
  | _ => none
theorem it_enumA {X : Cx} {a : Expr} {fa : XE} {p pos tpos : Pos} {elts : List Expr} {kk : Nat} (ha : ET X a fa) (hm : X.mg "enumerate" = none) (hg : Gl X "enumerate" := by rfl) (hs : starEach [a] X.env = [(false, eval a X.env)] := by rfl) (hs2 : starEach [a] X.env = (false, eval a X.env) :: starEach [] X.env := by rfl) :
    IT X (.Tuple elts kk tpos) (.Call (.Name "enumerate" p) [a] [] pos) (xiEnumA fa) := by
  intro env st ρ σ H it st' s w e R q
  unfold xiEnumA at e
  cases h : fa env st with
  | none => simp [h] at e
  | some pr =>
    obtain ⟨t, s1⟩ := pr
    simp only [h, Option.bind_some] at e
    cases k1 : seqOf t s1 with
    | none => simp [k1] at e
    | some bi =>
      obtain ⟨b1, i1⟩ := bi
      cases b1 with
      | true => exact it_enumT ha hm hg hs hs2 env st ρ σ H it st' s w (by unfold xiEnumT; simp only [h, Option.bind_some, k1]; simpa [k1] using e) R q
      | false => exact it_enum ha hm hg hs hs2 env st ρ σ H it st' s w (by unfold xiEnum; simp only [h, Option.bind_some, k1]; simpa [k1] using e) R q
/-! ### keys that are ints or texts -/
def toKy : T → Option Key
  | .int i => some (.inl i)
  | .str x => some (.inr x)
  | _ => none
def unKy : Key → T
  | .inl i => .int i
  | .inr x => .str x
theorem toKy_un {t : T} {k : Key} (h : toKy t = some k) : t = unKy k := by
  cases t <;> cases h <;> rfl
theorem ky_rep {K : KX} {H : Hp} {ρ : List Addr} {t : T} {k : Key} {v : V} (h : toKy t = some k) (r : Rep K H ρ t v) : v = kV k := by
  cases t <;> cases h <;> cases r <;> rfl
theorem un_rep {K : KX} {H : Hp} {ρ : List Addr} (k : Key) : Rep K H ρ (unKy k) (kV k) := by
  cases k
  · exact .int _
  · exact .str _
def lookK (kvs : List (Key × T)) (k : Key) : Option T := (kvs.find? fun p => decide (p.1 = k)).map (·.2)
def storeK (kvs : List (Key × T)) (k : Key) (u : T) : List (Key × T) := if (kvs.any fun p => decide (p.1 = k)) = true then kvs.map (fun p => if p.1 = k then (p.1, u) else p) else kvs ++ [(k, u)]
/-- two dicts that tell the same -/
structure RepK (K : KX) (H : Hp) (ρ : List Addr) (kvs : List (Key × T)) (kws : List (Key × V)) : Prop where
  k : kvs.map (·.1) = kws.map (·.1)
  v : Reps K H ρ (kvs.map (·.2)) (kws.map (·.2))
section
variable {K : KX} {H H' : Hp} {ρ ρ' : List Addr}
theorem RepK.up {kvs : List (Key × T)} {kws : List (Key × V)} (r : RepK K H ρ kvs kws) (f : Fut H H' ρ ρ') : RepK K H' ρ' kvs kws := ⟨r.k, r.v.up f⟩
theorem RepK.len {kvs : List (Key × T)} {kws : List (Key × V)} (r : RepK K H ρ kvs kws) : kvs.length = kws.length := by simpa using congrArg List.length r.k
theorem RepK.look : ∀ {kvs : List (Key × T)} {kws : List (Key × V)} (k : Key), RepK K H ρ kvs kws → match lookK kvs k, valV kws k with
    | some u, some v => Rep K H ρ u v
    | none, none => True
    | _, _ => False
  | [], [], k, r => True.intro
  | [], _ :: _, k, r => by have := r.len; simp at this
  | _ :: _, [], k, r => by have := r.len; simp at this
  | p :: kvs, q :: kws, k, r => by
    have h1 : p.1 = q.1 := by have := r.k; simp at this; exact this.1
    have h2 : kvs.map (·.1) = kws.map (·.1) := by have := r.k; simp at this; exact this.2
    have r1 := r.v
    rw [List.map_cons, List.map_cons] at r1
    cases r1 with
    | cons a b =>
      by_cases e : p.1 = k
      · rw [valV_pos (show q.1 = k from h1 ▸ e)]
        have : lookK (p :: kvs) k = some p.2 := by simp [lookK, List.find?_cons, e]
        rw [this]
        exact a
      · rw [valV_neg (show ¬ q.1 = k from fun z => e (h1 ▸ z))]
        have : lookK (p :: kvs) k = lookK kvs k := by simp [lookK, List.find?_cons, e]
        rw [this]
        exact RepK.look k ⟨h2, b⟩
theorem any_keys {α β : Type} {xs : List (Key × α)} {ys : List (Key × β)} (h : xs.map (·.1) = ys.map (·.1)) (k : Key) : (xs.any fun p => decide (p.1 = k)) = ys.any fun p => decide (p.1 = k) := by
  have a : (xs.any fun p => decide (p.1 = k)) = (xs.map (·.1)).any fun z => decide (z = k) := by rw [List.any_map]; rfl
  have b : (ys.any fun p => decide (p.1 = k)) = (ys.map (·.1)).any fun z => decide (z = k) := by rw [List.any_map]; rfl
  rw [a, b, h]
theorem RepK.put {kvs : List (Key × T)} {kws : List (Key × V)} {k : Key} {u : T} {v : V} (r : RepK K H ρ kvs kws) (ru : Rep K H ρ u v) : RepK K H ρ (storeK kvs k u) (putK kws k v) := by
  unfold storeK putK
  have e := any_keys r.k k
  by_cases h : (kvs.any fun p => decide (p.1 = k)) = true
  · rw [if_pos h, if_pos (e ▸ h)]
    clear h e
    induction kvs generalizing kws with
    | nil =>
      cases kws with
      | nil => exact ⟨rfl, .nil⟩
      | cons q kws => have := r.len; simp at this
    | cons p kvs ih =>
      cases kws with
      | nil => have := r.len; simp at this
      | cons q kws =>
        have h1 : p.1 = q.1 := by have := r.k; simp at this; exact this.1
        have h2 : kvs.map (·.1) = kws.map (·.1) := by have := r.k; simp at this; exact this.2
        have r1 := r.v
        rw [List.map_cons, List.map_cons] at r1
        cases r1 with
        | cons a b =>
          obtain ⟨i1, i2⟩ := ih ⟨h2, b⟩
          by_cases z : p.1 = k
          · refine ⟨?_, ?_⟩
            · simp only [List.map_cons, if_pos z, if_pos (show q.1 = k from h1 ▸ z), h1, i1]
            · simp only [List.map_cons, if_pos z, if_pos (show q.1 = k from h1 ▸ z)]
              exact .cons ru i2
          · refine ⟨?_, ?_⟩
            · simp only [List.map_cons, if_neg z, if_neg (show ¬ q.1 = k from fun y => z (h1 ▸ y)), h1, i1]
            · simp only [List.map_cons, if_neg z, if_neg (show ¬ q.1 = k from fun y => z (h1 ▸ y))]
              exact .cons a i2
  · rw [if_neg h, if_neg (e ▸ h)]
    refine ⟨?_, ?_⟩
    · simp [r.k]
    · rw [List.map_append, List.map_append]
      exact r.v.app (.cons ru .nil)
end
/-! ### either kind -/
def isTup : T → Bool
  | .tup _ => true
  | _ => false
def dLook (o : Ob) (t : T) : Option (Option T) := match o with
  | .dK kvs => (toKy t).map (lookK kvs)
  | .dN kvs => if isTup t then (toNK nkd t).map (lookD kvs) else none
  | .lst _ => none
def dStore (o : Ob) (t u : T) : Option Ob := match o with
  | .dK kvs => if kvs.length < sizeLine then (toKy t).map fun k => .dK (storeK kvs k u) else none
  | .dN kvs => if kvs.length < sizeLine ∧ isTup t = true then (toNK nkd t).map fun k => .dN (storeD kvs t k u) else none
  | .lst _ => none
def dAt (t : T) (st : Store) : Option (Nat × Ob) := match t with
  | .ref l => (st[l]?).map fun o => (l, o)
  | _ => none
def ixD : F2 := fun x y st => (dAt x st).bind fun d => (dLook d.2 y).bind fun r => r.map fun u => (u, st)
def inD (neg : Bool) : F2 := fun x y st => (dAt y st).bind fun d => (dLook d.2 x).map fun r => (.bl (if neg then !r.isSome else r.isSome), st)
def setD (o i v : T) (st : Store) : Option Store := (dAt o st).bind fun d => (dStore d.2 i v).map fun n => st.set d.1 n
section
variable {X : Cx} {H : Hp} {ρ : List Addr} {st : Store}
theorem dAt_inv {t : T} {d : Nat × Ob} (h : dAt t st = some d) : t = .ref d.1 ∧ st[d.1]? = some d.2 := by
  cases t with
  | ref l =>
    cases e : st[l]? with
    | none => simp [dAt, e] at h
    | some o => simp only [dAt, e, Option.map_some, Option.some.injEq] at h; subst h; exact ⟨rfl, e⟩
  | non => cases h
  | bl b => cases h
  | int i => cases h
  | str i => cases h
  | tup i => cases h
  | rdl i => cases h
theorem dK_at (w : Wd (kx X) ρ st H) {l : Nat} {kvs : List (Key × T)} {v : V} (r : Rep (kx X) H ρ (.ref l) v) (e : st[l]? = some (.dK kvs)) : ∃ a kws, v = .ref a ∧ ρ[l]? = some a ∧ H a = some (.dK kws) ∧ RepK (kx X) H ρ kvs kws := by
  cases r with
  | ref ha =>
    obtain ⟨kws, h1, h2, h3⟩ := w.addr e ha
    exact ⟨_, kws, rfl, ha, h1, h2, h3⟩
theorem dN_at (w : Wd (kx X) ρ st H) {l : Nat} {kvs : List (T × T)} {v : V} (r : Rep (kx X) H ρ (.ref l) v) (e : st[l]? = some (.dN kvs)) : ∃ a xs, v = .ref a ∧ ρ[l]? = some a ∧ DnAt X H ρ a kvs xs := by
  cases r with
  | ref ha =>
    obtain ⟨xs, h1, h2⟩ := w.addr e ha
    exact ⟨_, xs, rfl, ha, h1, h2⟩
theorem tup_ref {K : KX} {t : T} {v : V} (h : isTup t = true) (r : Rep K H ρ t v) : ∃ b, v = .ref b := by
  cases r <;> first | exact ⟨_, rfl⟩ | cases h
theorem op_inK (neg : Bool) (hu : X.A.units + 1 < cLine) : OpR X (compareOp (if neg then .NotIn else .In)) (fun x y H Q => ∃ a o, y = .ref a ∧ DGet H a x o ∧ Q (.bl (if neg then !o.isSome else o.isSome)) H) := by
  intro pins s σ H x y v u Q I rx ry h
  obtain ⟨a, o, rfl, g, q⟩ := h
  cases ry
  cases neg with
  | false => exact d_in hu I g rx fun s' I' => ⟨.bl _, H, I', rfl, q⟩
  | true => exact d_notIn hu I g rx fun s' I' => ⟨.bl _, H, I', rfl, q⟩
theorem ot_inD (neg : Bool) (hu : X.A.units + 65 < cLine) : OpT X (compareOp (if neg then .NotIn else .In)) (inD neg) := by
  intro ρ st H x y t st' vx vy w rx ry e Q q
  unfold inD at e
  cases h : dAt y st with
  | none => simp [h] at e
  | some d =>
    obtain ⟨l, ob⟩ := d
    obtain ⟨rfl, hl⟩ := dAt_inv h
    simp only [h, Option.bind_some] at e
    cases h2 : dLook ob x with
    | none => simp [h2] at e
    | some r =>
      simp only [h2, Option.map_some] at e
      cases e
      cases ob with
      | lst ts => cases h2
      | dK kvs =>
        simp only [dLook] at h2
        cases h3 : toKy x with
        | none => simp [h3] at h2
        | some k =>
          simp only [h3, Option.map_some, Option.some.injEq] at h2
          obtain ⟨a, kws, rfl, ha, h4, r4⟩ := dK_at w ry hl
          refine ⟨_, op_inK neg (by omega), a, valV kws k, rfl, by rw [ky_rep h3 rx]; exact .k h4, ?_⟩
          have := r4.look k
          have e : (valV kws k).isSome = r.isSome := by
            rw [← h2]
            cases c1 : lookK kvs k <;> cases c2 : valV kws k <;> rw [c1, c2] at this <;> first | rfl | exact this.elim
          rw [e]
          exact q _ _ _ (Fut.refl _ _) w (.bl _)
      | dN kvs =>
        simp only [dLook] at h2
        split at h2
        · rename_i ht
          cases h3 : toNK nkd x with
          | none => simp [h3] at h2
          | some k =>
            simp only [h3, Option.map_some, Option.some.injEq] at h2
            obtain ⟨a, xs, rfl, ha, d⟩ := dN_at w ry hl
            obtain ⟨b, rfl⟩ := tup_ref ht rx
            refine ⟨_, op_inN neg (by omega), a, b, ρ, kvs, xs, x, k, rfl, rfl, d, h3, rx, ?_⟩
            rw [h2]
            exact q _ _ _ (Fut.refl _ _) w (.bl _)
        · cases h2
theorem ix_K (hu : X.A.units + 1 < cLine) : IxR X (fun x y H Q => ∃ a kws k v, x = .ref a ∧ y = kV k ∧ H a = some (.dK kws) ∧ valV kws k = some v ∧ Q v H) := by
  intro value slice pins s σ H x y v0 u0 Q I rx ry h hs
  obtain ⟨a, kws, k, v, rfl, rfl, h1, h2, q⟩ := h
  cases rx
  obtain ⟨z, hd, vs, rel, dd⟩ := dk_rd I.hok (.inl h1)
  obtain ⟨w', hw, rw'⟩ := RelO.some_of (v := v) (o := valueAt vs k) (by rw [← h2]; exact rel.val k)
  exact subscriptTail_builtinR (x := w') dd.typeIs PySem.F.slot_dict_getitem.lookup (wpAny_getItem_of (Q := fun r s' => r = w' ∧ EP X pins σ Q r s') (kV_is ry) dd.mapOf hw ⟨rfl, v, H, I.tok _, rw', q⟩) hs
theorem xt_ixD (hu : X.A.units + 65 < cLine) : IxT X ixD := by
  intro ρ st H x y t st' vx vy w rx ry e Q q
  unfold ixD at e
  cases h : dAt x st with
  | none => simp [h] at e
  | some d =>
    obtain ⟨l, ob⟩ := d
    obtain ⟨rfl, hl⟩ := dAt_inv h
    simp only [h, Option.bind_some] at e
    cases h2 : dLook ob y with
    | none => simp [h2] at e
    | some r =>
      simp only [h2, Option.bind_some] at e
      cases r with
      | none => cases e
      | some u =>
        cases e
        cases ob with
        | lst ts => cases h2
        | dK kvs =>
          simp only [dLook] at h2
          cases h3 : toKy y with
          | none => simp [h3] at h2
          | some k =>
            simp only [h3, Option.map_some, Option.some.injEq] at h2
            obtain ⟨a, kws, rfl, ha, h4, r4⟩ := dK_at w rx hl
            have l4 := r4.look k
            rw [h2] at l4
            cases c2 : valV kws k with
            | none => rw [c2] at l4; exact l4.elim
            | some v =>
              rw [c2] at l4
              exact ⟨_, ix_K (by omega), a, kws, k, v, rfl, ky_rep h3 ry, h4, c2, q _ _ _ (Fut.refl _ _) w l4⟩
        | dN kvs =>
          simp only [dLook] at h2
          split at h2
          · rename_i ht
            cases h3 : toNK nkd y with
            | none => simp [h3] at h2
            | some k =>
              simp only [h3, Option.map_some, Option.some.injEq] at h2
              obtain ⟨a, xs, rfl, ha, d⟩ := dN_at w rx hl
              obtain ⟨b, rfl⟩ := tup_ref ht ry
              exact ⟨_, ix_N (by omega), a, b, ρ, kvs, xs, y, k, t, rfl, rfl, d, h3, ry, h2, fun v r => q _ _ _ (Fut.refl _ _) w r⟩
          · cases h2
/-- lists, tuples, texts, dicts -/
def ixA : F2 := fun x y st => match dAt x st with
  | some (_, .dK _) => ixD x y st
  | some (_, .dN _) => ixD x y st
  | _ => ixT x y st
theorem xt_ixA (hu : X.A.units + 65 < cLine) : IxT X ixA := by
  intro ρ st H x y t st' vx vy w rx ry e Q q
  unfold ixA at e
  split at e
  · exact xt_ixD hu ρ st H x y t st' vx vy w rx ry e Q q
  · exact xt_ixD hu ρ st H x y t st' vx vy w rx ry e Q q
  · exact xt_ix ρ st H x y t st' vx vy w rx ry e Q q
def inA (neg : Bool) : F2 := fun x y st => match dAt y st with
  | some (_, .dK _) => inD neg x y st
  | some (_, .dN _) => inD neg x y st
  | _ => inT neg x y st
theorem ot_inA (neg : Bool) (hu : X.A.units + 65 < cLine) : OpT X (compareOp (if neg then .NotIn else .In)) (inA neg) := by
  intro ρ st H x y t st' vx vy w rx ry e Q q
  unfold inA at e
  split at e
  · exact ot_inD neg hu ρ st H x y t st' vx vy w rx ry e Q q
  · exact ot_inD neg hu ρ st H x y t st' vx vy w rx ry e Q q
  · cases neg with
    | false => exact ot_in hu ρ st H x y t st' vx vy w rx ry e Q q
    | true => exact ot_notin hu ρ st H x y t st' vx vy w rx ry e Q q
end
end TL
/-! TL15 -/
set_option Elab.async false
set_option linter.all false
set_option maxRecDepth 100000
set_option maxHeartbeats 4000000
namespace TL
variable [Tb]
open PySem PySem.Spec PyProof.Rows L2
section
variable {X : Cx} {ρ : List Addr} {st : Store}
theorem setD_ok (hu : X.A.units + 65 < cLine) {st' : Store} {H : Hp} {o i v : T} {vo vi vv : V} (w : Wd (kx X) ρ st H) (ro : Rep (kx X) H ρ o vo) (ri : Rep (kx X) H ρ i vi) (rv : Rep (kx X) H ρ v vv) (e : setD o i v st = some st') (Q : Hp → Prop) (q : ∀ H', Fut H H' ρ ρ → Wd (kx X) ρ st' H' → Q H') : SetU X vo vi vv H Q := by
  unfold setD at e
  cases h : dAt o st with
  | none => simp [h] at e
  | some d =>
    obtain ⟨l, ob⟩ := d
    obtain ⟨rfl, hl⟩ := dAt_inv h
    simp only [h, Option.bind_some] at e
    cases h2 : dStore ob i v with
    | none => simp [h2] at e
    | some n =>
      simp only [h2, Option.map_some] at e
      cases e
      cases ob with
      | lst ts => cases h2
      | dK kvs =>
        simp only [dStore] at h2
        split at h2
        · rename_i hz
          cases h3 : toKy i with
          | none => simp [h3] at h2
          | some k =>
            simp only [h3, Option.map_some, Option.some.injEq] at h2
            subst h2
            obtain ⟨a, kws, rfl, ha, h4, r4⟩ := dK_at w ro hl
            obtain ⟨u0, h0, i0⟩ := w.there ha
            have f0 : Fut H (upd H a (.dK (putK kws k vv))) ρ ρ := ⟨Ext.mut h0 i0, [], by simp⟩
            have r5 := (r4.put (k := k) rv).up f0
            obtain ⟨w1, f⟩ := w.put (o := .dK (storeK kvs k v)) ha ⟨putK kws k vv, upd_same, r5.k, r5.v⟩
            refine ⟨_, set_dict (by omega), a, _, rfl, ?_, q _ f w1⟩
            rw [ky_rep h3 ri]
            exact .k h4 (by rw [← r4.len]; exact hz)
        · cases h2
      | dN kvs =>
        simp only [dStore] at h2
        split at h2
        · rename_i hz
          cases h3 : toNK nkd i with
          | none => simp [h3] at h2
          | some k =>
            simp only [h3, Option.map_some, Option.some.injEq] at h2
            subst h2
            obtain ⟨a, xs, rfl, ha, d⟩ := dN_at w ro hl
            obtain ⟨b, rfl⟩ := tup_ref hz.2 ri
            obtain ⟨u0, h0, i0⟩ := w.there ha
            have f0 : Fut H (upd H a (dnO (kx X) a (storeX xs k b vv))) ρ ρ := ⟨Ext.mut h0 i0, [], by simp⟩
            obtain ⟨w1, f⟩ := w.put (o := .dN (storeD kvs i k v)) ha ⟨_, upd_same, (repd_store d.r h3 ri rv).up f0⟩
            exact ⟨_, set_N (by omega), a, b, ρ, kvs, xs, i, k, rfl, rfl, d, h3, ri, by rw [← repd_len d.r]; exact hz.1, q _ f w1⟩
        · cases h2
def setA (o i v : T) (st : Store) : Option Store := match dAt o st with
  | some (_, .dK _) => setD o i v st
  | some (_, .dN _) => setD o i v st
  | _ => setIxT o i v st
theorem setA_ok (hu : X.A.units + 65 < cLine) {st' : Store} {H : Hp} {o i v : T} {vo vi vv : V} (w : Wd (kx X) ρ st H) (ro : Rep (kx X) H ρ o vo) (ri : Rep (kx X) H ρ i vi) (rv : Rep (kx X) H ρ v vv) (e : setA o i v st = some st') (Q : Hp → Prop) (q : ∀ H', Fut H H' ρ ρ → Wd (kx X) ρ st' H' → Q H') : SetU X vo vi vv H Q := by
  unfold setA at e
  split at e
  · exact setD_ok hu w ro ri rv e Q q
  · exact setD_ok hu w ro ri rv e Q q
  · exact set_ok w ro ri rv e Q q
def xgSubA (o i : XE) : XG := fun t e st => (o e st).bind fun p => (i e p.2).bind fun q => (setA p.1 q.1 t q.2).map fun s => (e, s)
theorem gt_subA {o i : Expr} {fo fi : XE} {pos : Pos} (hu : X.A.units + 65 < cLine) (ho : ET X o fo) (hi : ET X i fi)
    (ha : ∀ v, assign (.Subscript o i pos) X.env v = (do
      let ov ← holding [v] (eval o X.env)
      let iv ← holding [v, ov] (eval i X.env)
      standAt pos
      holding [v, ov, iv] (setItem ov iv v)
      release [v, ov, iv] []) := by intro _; rfl) : GT X (.Subscript o i pos) [] (xgSubA fo fi) := by
  intro env st ρ σ H t v e' st' s w rt e Q q
  unfold xgSubA at e
  cases h1 : fo env st with
  | none => simp [h1] at e
  | some p =>
    obtain ⟨to, s1⟩ := p
    simp only [h1, Option.bind_some] at e
    cases h2 : fi env s1 with
    | none => simp [h2] at e
    | some p =>
      obtain ⟨ti, s2⟩ := p
      simp only [h2, Option.bind_some] at e
      cases h3 : setA to ti t s2 with
      | none => simp [h3] at e
      | some s3 =>
        simp only [h3, Option.map_some] at e
        cases e
        refine Wg.of (pg_sub We.pe We.pe SetU.ok ha) ?_
        refine ho env st ρ σ H to s1 s w h1 _ fun vo H1 ρ1 f1 w1 r1 => ?_
        refine hi env s1 ρ1 σ H1 ti s2 (s.up f1) w1 h2 _ fun vi H2 ρ2 f2 w2 r2 => ?_
        refine setA_ok hu w2 (r1.up f2) r2 (rt.up (f1.trans f2)) h3 _ fun H3 f3 w3 => ?_
        exact q σ H3 ρ2 ((f1.trans f2).trans f3) w3 (s.up ((f1.trans f2).trans f3)) (Away.refl _ _)
/-! ### displays -/
def xDictK : XE := fun _ st => some (.ref st.length, st ++ [.dK []])
def xDictN : XE := fun _ st => some (.ref st.length, st ++ [.dN []])
theorem et_dictK {pos : Pos} : ET X (.Dict [] [] pos) xDictK := by
  intro env st ρ σ H t st' s w e Q q
  cases e
  refine We.of pe_dnewK fun p hp => ?_
  obtain ⟨w2, f2⟩ := w.push (o := .dK []) (u := .dK []) hp ⟨[], upd_same, rfl, .nil⟩
  exact q _ _ _ f2 w2 (.ref (by rw [← w.len, List.getElem?_append_right (Nat.le_refl _)]; simp))
theorem et_dictN {pos : Pos} : ET X (.Dict [] [] pos) xDictN := by
  intro env st ρ σ H t st' s w e Q q
  cases e
  refine We.of pe_dnewN fun p hp => ?_
  obtain ⟨w2, f2⟩ := w.push (o := .dN []) (u := dnO (kx X) p []) hp ⟨[], upd_same, .nil⟩
  exact q _ _ _ f2 w2 (.ref (by rw [← w.len, List.getElem?_append_right (Nat.le_refl _)]; simp))
/-! ### sorted ints, of a list or of the keys of a dict -/
def insI (x : Int) : List Int → List Int
  | [] => [x]
  | y :: ys => if x ≤ y then x :: y :: ys else y :: insI x ys
def sortI : List Int → List Int
  | [] => []
  | x :: xs => insI x (sortI xs)
theorem insI_perm (x : Int) : ∀ ys, (insI x ys).Perm (x :: ys)
  | [] => .refl _
  | y :: ys => by
    unfold insI
    split
    · exact .refl _
    · exact ((insI_perm x ys).cons y).trans (.swap x y ys)
theorem sortI_perm : ∀ xs, (sortI xs).Perm xs
  | [] => .refl _
  | x :: xs => (insI_perm x _).trans ((sortI_perm xs).cons x)
theorem insI_rise (x : Int) : ∀ ys, ys.Pairwise (· ≤ ·) → (insI x ys).Pairwise (· ≤ ·)
  | [], _ => by simp [insI]
  | y :: ys, h => by
    unfold insI
    have h1 := List.pairwise_cons.mp h
    split
    · rename_i hxy
      refine List.pairwise_cons.mpr ⟨fun a ha => ?_, h⟩
      rcases List.mem_cons.mp ha with e | ha
      · rw [e]; exact hxy
      · exact Int.le_trans hxy (h1.1 a ha)
    · rename_i hxy
      refine List.pairwise_cons.mpr ⟨fun a ha => ?_, insI_rise x ys h1.2⟩
      rcases List.mem_cons.mp ((insI_perm x ys).mem_iff.mp ha) with e | ha
      · rw [e]; omega
      · exact h1.1 a ha
theorem sortI_rise : ∀ xs, (sortI xs).Pairwise (· ≤ ·)
  | [] => List.Pairwise.nil
  | x :: xs => insI_rise x _ (sortI_rise xs)
theorem sortI_one {xs ys : List Int} (h : ys.Perm xs) (r : ys.Pairwise (· ≤ ·)) : ys = sortI xs :=
  List.Perm.eq_of_pairwise (fun a b _ _ h1 h2 => Int.le_antisymm h1 h2) r (sortI_rise xs) (h.trans (sortI_perm xs).symm)
def keysI : List (Key × T) → Option (List Int)
  | [] => some []
  | (.inl i, _) :: r => (keysI r).map (i :: ·)
  | _ :: _ => none
theorem keysI_map : ∀ {kvs : List (Key × T)} {is : List Int}, keysI kvs = some is → kvs.map (·.1) = is.map Sum.inl
  | [], is, h => by cases h; rfl
  | (.inl i, u) :: r, is, h => by
    unfold keysI at h
    cases e : keysI r with
    | none => rw [e] at h; cases h
    | some js =>
      rw [e] at h
      cases h
      rw [List.map_cons, List.map_cons, keysI_map e]
  | (.inr x, u) :: r, is, h => by cases h
def sortedT : FA := fun ts st => match ts with
  | [.ref l] => match st[l]? with
    | some (.lst ts) => (intsOf ts).map fun is => (.ref st.length, st ++ [.lst ((sortI is).map T.int)])
    | some (.dK kvs) => (keysI kvs).bind fun is => if is.length < 64 then some (.ref st.length, st ++ [.lst ((sortI is).map T.int)]) else none
    | _ => none
  | _ => none
theorem ct_sorted (hc : X.calm = true) : CallT X (.builtin "sorted") sortedT := by
  intro ρ st H ts t st' vs w rs e Q q
  unfold sortedT at e
  split at e
  · rename_i l
    cases rs with
    | cons r1 r2 =>
      cases r2
      split at e
      · rename_i ts hl
        cases h : intsOf ts with
        | none => rw [h] at e; cases e
        | some is =>
          rw [h] at e
          cases e
          obtain ⟨a, us, rfl, _, h1, r3⟩ := rep_lst w r1 hl
          refine ⟨_, cr_sortedI, a, is, rfl, by rw [← ints_rep h r3]; exact SqL.of h1, fun ns' p perm rise hp => ?_⟩
          rw [sortI_one perm rise]
          obtain ⟨w2, f2⟩ := w.push (o := .lst ((sortI is).map T.int)) (u := .lst ((sortI is).map V.int)) hp ⟨_, upd_same, reps_ints _⟩
          exact q _ _ _ f2 w2 (.ref (by rw [← w.len, List.getElem?_append_right (Nat.le_refl _)]; simp))
      · rename_i kvs hl
        cases h : keysI kvs with
        | none => rw [h] at e; cases e
        | some is =>
          simp only [h, Option.bind_some] at e
          split at e
          · rename_i hz
            cases e
            obtain ⟨a, kws, rfl, _, h1, r3⟩ := dK_at w r1 hl
            refine ⟨_, call_sortedDI hc, a, kws, is, rfl, .inl h1, by rw [← r3.k]; exact keysI_map h, hz, fun ns' p perm rise hp => ?_⟩
            rw [sortI_one perm rise]
            obtain ⟨w2, f2⟩ := w.push (o := .lst ((sortI is).map T.int)) (u := .lst ((sortI is).map V.int)) hp ⟨_, upd_same, reps_ints _⟩
            exact q _ _ _ f2 w2 (.ref (by rw [← w.len, List.getElem?_append_right (Nat.le_refl _)]; simp))
          · cases e
      · cases e
  · cases e
end
end TL
/-! TL16 -/
set_option Elab.async false
set_option linter.all false
set_option maxRecDepth 100000
set_option maxHeartbeats 4000000
namespace TL
variable [Tb]
open PySem PySem.Spec PyProof.Rows L2
/-! ### the greatest of a list of ints, or what is told for none -/
def maxI (x : Int) (xs : List Int) : Int := xs.foldl (fun a y => if a < y then y else a) x
theorem maxI_of (x : Int) (xs : List Int) : PySem.W.maxOf x xs = maxI x xs := by
  unfold PySem.W.maxOf maxI
  have e : (fun (a y : Int) => if PySem.W.DatumOrd.lt a y = true then y else a) = fun a y => if a < y then y else a := by
    funext a y
    show (if decide (a < y) = true then y else a) = _
    simp only [decide_eq_true_eq]
  rw [e]
def rMaxDef (K : PySem.W.Frag) : List V → List V → Hp → VK → Prop := fun vs zs H Q => ∃ (a : Addr) (ns : List Int) (d : V), vs = [.ref a] ∧ zs = [d] ∧ SqL K H a (ns.map V.int) ∧ (match ns with | [] => Q d H | n :: r => Q (.int (maxI n r)) H)
section
variable {X : Cx}
theorem cr_maxDef (hc : X.calm = true) (hu : X.A.units + 64 < cLine) : CallRK X (.builtin "max") [Str.ofString "default"] (rMaxDef X.K) := by
  intro pins s σ H vs zs us ws Q I r1 r2 h
  obtain ⟨a, ns, d, rfl, rfl, hs, q⟩ := h
  cases r1 with
  | cons ra rr =>
    cases rr
    cases r2 with
    | cons rd rr =>
      cases rr
      cases ra
      obtain ⟨its, rv, pl, hz⟩ := I.list hs
      have hi := rv.ints
      have hd1 : PySem.W.Datum.depth Int + 0 ≤ 8 := by decide
      refine PySem.W.max_list_datum_default (I.ok.hd hc) pl.isList (PySem.W.HoldAll.of_ints (by simpa using hi)) (by omega) (fun e h' tk k => ?_) fun y ys i v h' tk e hv ho k => ?_
      · subst e
        exact ⟨d, H, I.kept k, rd, q⟩
      · subst e
        rw [maxI_of] at ho
        have i1 := PySem.W.HoldAll.toInts (vs := [v]) (ns := [maxI y ys]) (PySem.W.HoldAll.cons ho PySem.W.HoldAll.nil)
        cases i1 with
        | cons n t r => exact ⟨.int _, H, I.kept k, ⟨_, rfl⟩, q⟩
def maxDT (t d : T) (st : Store) : Option (T × Store) := match t with
  | .ref l => match st[l]? with
    | some (.lst ts) => (intsOf ts).map fun ns => (match ns with | [] => d | n :: r => .int (maxI n r), st)
    | _ => none
  | _ => none
def xMaxD (f g : XE) : XE := fun e st => (f e st).bind fun p => (g e p.2).bind fun r => maxDT p.1 r.1 r.2
theorem et_maxD {a b : Expr} {fa fb : XE} {p pos kpos : Pos} (hc : X.calm = true) (hu : X.A.units + 64 < cLine) (ha : ET X a fa) (hb : ET X b fb) (hm : X.mg "max" = none) (hg : Gl X "max" := by rfl)
    (hs2 : starEach [a] X.env = (false, eval a X.env) :: starEach [] X.env := by rfl)
    (he : backTo pos (starEach [a] X.env) = (false, eval a X.env) :: backTo pos (starEach [] X.env) := by rfl) (hpl : (backTo pos (starEach [a] X.env)).any (·.1) = false := by rfl)
    (hall : (backToKw pos (keywordEach [⟨some (Str.ofString "default"), b, kpos⟩] X.env)).all (·.1.isSome) = true := by rfl) (hnone : (backToKw pos (keywordEach [⟨some (Str.ofString "default"), b, kpos⟩] X.env)).any (·.1.isNone) = false := by rfl) (hks : (backToKw pos (keywordEach [⟨some (Str.ofString "default"), b, kpos⟩] X.env)).filterMap (·.1) = [Str.ofString "default"] := by rfl) :
    ET X (.Call (.Name "max" p) [a] [⟨some (Str.ofString "default"), b, kpos⟩] pos) (xMaxD fa fb) := by
  intro env st ρ σ H t st' s w e Q q
  unfold xMaxD at e
  cases h1 : fa env st with
  | none => simp [h1] at e
  | some pr =>
    obtain ⟨t1, s1⟩ := pr
    simp only [h1, Option.bind_some] at e
    cases h2 : fb env s1 with
    | none => simp [h2] at e
    | some pr2 =>
      obtain ⟨t2, s2⟩ := pr2
      simp only [h2, Option.bind_some] at e
      unfold maxDT at e
      split at e
      · rename_i l
        split at e
        · rename_i ts hl
          cases h : intsOf ts with
          | none => rw [h] at e; cases e
          | some ns =>
            rw [h] at e
            cases e
            refine We.of (pe_callBK (cr_maxDef hc hu) hg hm (by decide +kernel) (pa_cons We.pe pa_nil hs2) (pk_cons We.pe pk_nil) (by decide +kernel) (by decide +kernel) he hpl hall hnone hks) ?_
            refine ha env st ρ σ H _ _ s w h1 _ fun v1 H1 ρ1 f1 w1 r1 => ?_
            refine hb env _ ρ1 σ H1 _ _ (s.up f1) w1 h2 _ fun v2 H2 ρ2 f2 w2 r2 => ?_
            obtain ⟨a, us, rfl, _, h3, r3⟩ := rep_lst w2 (r1.up f2) hl
            refine ⟨a, ns, v2, rfl, rfl, by rw [← ints_rep h r3]; exact SqL.of h3, ?_⟩
            cases ns with
            | nil => exact q _ _ _ (f1.trans f2) w2 r2
            | cons n r => exact q _ _ _ (f1.trans f2) w2 (.int _)
        · cases e
      · cases e
/-! ### comprehensions that make a dict -/
def dcL (it : Its1) (g : XG) (tt : XT) (tk tv : XE) (l : Nat) : Nat → Nat → Env1 → Store → Option Store
  | 0, _, _, _ => none
  | n + 1, i, e, st => (it st).bind fun ts => match ts[i]? with
    | none => if i = ts.length then some st else none
    | some x => (g x e st).bind fun p => (tt p.1 p.2).bind fun b => if b.1 then (tk p.1 b.2).bind fun k => (tv p.1 k.2).bind fun y => match y.2[l]?, toKy k.1 with
        | some (.dK kvs), some ky => if kvs.length < sizeLine then dcL it g tt tk tv l n (i + 1) e (y.2.set l (.dK (storeK kvs ky y.1))) else none
        | _, _ => none
      else dcL it g tt tk tv l n (i + 1) e b.2
def xDcK (fi : XI) (g : XG) (vs : List Nat) (tt : XT) (tk tv : XE) : XE := fun e st => (fi e st).bind fun p => (p.1 (p.2 ++ [.dK []])).bind fun ts =>
  (dcL p.1 g tt tk tv p.2.length (ts.length + 1) 0 (wipeE e vs) (p.2 ++ [.dK []])).map fun s => (.ref p.2.length, s)
theorem dc_ok {kx vx tg iter : Expr} {ifs : List Expr} {scope : Scope} {fi : XI} {g : XG} {tt : XT} {tk tv : XE} {vs : List Nat} (hi : IT X tg iter fi) (hg : ∀ s H C cl fp, GT (blkX X scope s H C cl fp) tg vs g) (ht : ∀ s H C cl fp, PTT (blkX X scope s H C cl fp) ifs tt)
    (hk : ∀ s H C cl fp, ET (blkX X scope s H C cl fp) kx tk) (he : ∀ s H C cl fp, ET (blkX X scope s H C cl fp) vx tv)
    {env : Env1} {st : Store} {ρ : List Addr} {σ : St} {H : Hp} {t : T} {st' : Store} (s : Slots (TL.kx X) H ρ env σ) (w : Wd (TL.kx X) ρ st H) (e : xDcK fi g vs tt tk tv env st = some (t, st')) {Q : VK} (q : QE (TL.kx X) H ρ t st' Q) :
    tDc (Wi X tg iter) (gU X scope tg) (tU X scope ifs) (eU X scope kx) (eU X scope vx) vs σ H Q := by
  unfold xDcK at e
  cases h : fi env st with
  | none => simp [h] at e
  | some p =>
    obtain ⟨it, s1⟩ := p
    simp only [h, Option.bind_some] at e
    cases h1 : it (s1 ++ [.dK []]) with
    | none => simp [h1] at e
    | some ts0 =>
      simp only [h1, Option.bind_some] at e
      cases h2 : dcL it g tt tk tv s1.length (ts0.length + 1) 0 (wipeE env vs) (s1 ++ [.dK []]) with
      | none => simp [h2] at e
      | some sE =>
        simp only [h2, Option.map_some] at e
        cases e
        refine hi env st ρ σ H it s1 s w h _ fun J H1 ρ1 f1 w1 ok => ?_
        intro D hD
        obtain ⟨w2, f2⟩ := w1.push (o := .dK []) (u := .dK []) hD ⟨[], upd_same, rfl, .nil⟩
        have hDl : (ρ1 ++ [D])[s1.length]? = some D := by rw [← w1.len, List.getElem?_append_right (Nat.le_refl _)]; simp
        refine ⟨fun i m H3 => ∃ st3 ρ3, Fut (upd H1 D (.dK [])) H3 (ρ1 ++ [D]) ρ3 ∧ Wd (TL.kx X) ρ3 st3 H3 ∧ dcL it g tt tk tv s1.length m i (wipeE env vs) st3 = some st' ∧ QE (TL.kx X) H3 ρ3 (.ref s1.length) st' Q,
          ⟨ts0.length + 1, s1 ++ [.dK []], ρ1 ++ [D], Fut.refl _ _, w2, h2, q.up (f1.trans f2)⟩, ?_⟩
        rintro i m H3 ⟨st3, ρ3, f3, w3, e3, q3⟩
        cases m with
        | zero => cases e3
        | succ m =>
          unfold dcL at e3
          cases h4 : it st3 with
          | none => simp [h4] at e3
          | some ts =>
            simp only [h4, Option.bind_some] at e3
            obtain ⟨k1, k2, k3⟩ := ok H3 ρ3 st3 ts (f2.trans f3) w3 h4 i
            cases h5 : ts[i]? with
            | none =>
              simp only [h5] at e3
              split at e3
              · rename_i hl
                cases e3
                exact .inl ⟨k2 hl, q3 _ H3 ρ3 (Fut.refl _ _) w3 (.ref (f3.get hDl))⟩
              · cases e3
            | some x =>
              simp only [h5] at e3
              have hlt := (List.getElem?_eq_some_iff.mp h5).1
              refine .inr ⟨k1 hlt, fun H4 => ∃ st3 ρ3, Fut (upd H1 D (.dK [])) H4 (ρ1 ++ [D]) ρ3 ∧ Wd (TL.kx X) ρ3 st3 H4 ∧ dcL it g tt tk tv s1.length m (i + 1) (wipeE env vs) st3 = some st' ∧ QE (TL.kx X) H4 ρ3 (.ref s1.length) st' Q, fun H4 z => ⟨m, Nat.lt_succ_self _, z⟩, fun y H4 hy => ?_⟩
              obtain ⟨gr, ry⟩ := k3 y H4 hy
              have f4 : Fut H3 H4 ρ3 ρ3 := fut_grow gr
              have sl : Slots (TL.kx X) H4 ρ3 (wipeE env vs) (wipe σ vs) := slots_wipe (s.up (((f1.trans f2).trans f3).trans f4)) vs
              cases h6 : g x (wipeE env vs) st3 with
              | none => simp [h6] at e3
              | some p =>
                obtain ⟨e6, s6⟩ := p
                simp only [h6, Option.bind_some] at e3
                intro sB HB CB clB fpB
                refine hg sB HB CB clB fpB (wipeE env vs) st3 ρ3 (wipe σ vs) H4 x y e6 s6 sl (w3.grow gr) (ry x h5) h6 _ fun σ6 H6 ρ6 f6 w6 sl6 a6 => ⟨wipe_away a6, ?_⟩
                cases h7 : tt e6 s6 with
                | none => simp [h7] at e3
                | some p =>
                  obtain ⟨b, s7⟩ := p
                  simp only [h7, Option.bind_some] at e3
                  intro sB HB CB clB fpB
                  refine ht sB HB CB clB fpB e6 s6 ρ6 σ6 H6 b s7 sl6 w6 h7 _ fun H7 ρ7 f7 w7 => ?_
                  have f37 := (f4.trans f6).trans f7
                  cases b with
                  | false =>
                    rw [if_neg Bool.false_ne_true]
                    rw [if_neg Bool.false_ne_true] at e3
                    exact ⟨s7, ρ7, f3.trans f37, w7, e3, q3.up f37⟩
                  | true =>
                    rw [if_pos rfl]
                    rw [if_pos rfl] at e3
                    cases h8 : tk e6 s7 with
                    | none => simp [h8] at e3
                    | some p =>
                      obtain ⟨zk, s8⟩ := p
                      simp only [h8, Option.bind_some] at e3
                      cases h9 : tv e6 s8 with
                      | none => simp [h9] at e3
                      | some p =>
                        obtain ⟨z, s9⟩ := p
                        simp only [h9, Option.bind_some] at e3
                        intro sB HB CB clB fpB
                        refine hk sB HB CB clB fpB e6 s7 ρ7 σ6 H7 zk s8 (sl6.up f7) w7 h8 _ fun vk H8 ρ8 f8 w8 r8 => ?_
                        intro sB HB CB clB fpB
                        refine he sB HB CB clB fpB e6 s8 ρ8 σ6 H8 z s9 (sl6.up (f7.trans f8)) w8 h9 _ fun vz H9 ρ9 f9 w9 r9 => ?_
                        split at e3
                        · rename_i kvs ky hacc hky
                          split at e3
                          · rename_i hz
                            have f39 := (f37.trans f8).trans f9
                            have hD9 := (f3.trans f39).get hDl
                            obtain ⟨kws, hu, kk, kv⟩ := w9.addr hacc hD9
                            have rk : RepK (TL.kx X) H9 ρ9 kvs kws := ⟨kk, kv⟩
                            obtain ⟨u0, h0, i0⟩ := w9.there hD9
                            have fA : Fut H9 (upd H9 D (.dK (putK kws ky vz))) ρ9 ρ9 := ⟨Ext.mut h0 i0, [], by simp⟩
                            have rB := (rk.put (k := ky) r9).up fA
                            obtain ⟨wA, _⟩ := w9.put (o := .dK (storeK kvs ky z)) hD9 ⟨putK kws ky vz, upd_same, rB.k, rB.v⟩
                            exact ⟨kws, ky, ky_rep hky r8, hu, by rw [← rk.len]; exact hz, _, ρ9, (f3.trans f39).trans fA, wA, e3, q3.up (f39.trans fA)⟩
                          · cases e3
                        · cases e3
theorem et_dcK {kx vx tg iter : Expr} {ifs : List Expr} {scope : Scope} {own : List (Str × Nat)} {pos : Pos} {fi : XI} {g : XG} {tt : XT} {tk tv : XE} (hc : X.calm = true) (hN : X.N.Nodup) (ok : BlkOk X.N X.env.scope scope own) (hi : IT X tg iter fi) (hg : ∀ s H C cl fp, GT (blkX X scope s H C cl fp) tg (own.map (·.2)) g)
    (ht : ∀ s H C cl fp, PTT (blkX X scope s H C cl fp) ifs tt) (hk : ∀ s H C cl fp, ET (blkX X scope s H C cl fp) kx tk) (he : ∀ s H C cl fp, ET (blkX X scope s H C cl fp) vx tv) (hs : ∀ x, foldedSetIterable iter X.env x = pure x := by intro _; rfl) :
    ET X (.DictComp kx vx [⟨tg, iter, ifs, 0⟩] scope pos) (xDcK fi g (own.map (·.2)) tt tk tv) := by
  intro env st ρ σ H t st' s w e Q q
  exact We.of (pe_dc hc hN Wi.pi ok (fun _ _ _ _ _ => gU.pg) (fun _ _ _ _ _ => tU.pt) (fun _ _ _ _ _ => eU.pe) (fun _ _ _ _ _ => eU.pe) hs) (dc_ok hi hg ht hk he s w e q)
theorem swD_true {kx vx : Expr} {gs : List Comprehension} {scope : Scope} {pos py : Pos} {y : Str} {l : Nat} {env : Env} (hk : env.scope.kind = .function) (hy : env.scope.names.lookup y = some .local) (hl : (py.line == pos.line) = true) (ha : (scope.names.any fun (n, k) => n == y && (k == .local || k == .cell)) = false) :
    swapsWith (.DictComp kx vx gs scope pos) (some (.Name y py)) l env = pure true := by
  have ky : env.kindOf y = some .local := hy
  have hb : env.blockKind = .function := by unfold Env.blockKind; rw [hk]; rfl
  unfold swapsWith; simp only [hb, ky, ha, Expr.pos, hl]; rfl
theorem st_setDc {kx vx tg iter : Expr} {ifs : List Expr} {scope : Scope} {own : List (Str × Nat)} {pos : Pos} {fi : XI} {g : XG} {tt : XT} {tk tv : XE} {i : Nat} {y : Str} {py spos : Pos} (hc : X.calm = true) (hN : X.N.Nodup) (ok : BlkOk X.N X.env.scope scope own) (hi : IT X tg iter fi) (hg : ∀ s H C cl fp, GT (blkX X scope s H C cl fp) tg (own.map (·.2)) g)
    (ht : ∀ s H C cl fp, PTT (blkX X scope s H C cl fp) ifs tt) (hk : ∀ s H C cl fp, ET (blkX X scope s H C cl fp) kx tk) (he : ∀ s H C cl fp, ET (blkX X scope s H C cl fp) vx tv) (hy : X.N[i]? = some y := by rfl) (hyl : X.env.scope.names.lookup y = some .local := by rfl)
    (hsw : swapsWith (.DictComp kx vx [⟨tg, iter, ifs, 0⟩] scope pos) (some (.Name y py)) spos.line X.env = pure true := by exact swD_true rfl rfl rfl (by decide +kernel)) (hs : ∀ x, foldedSetIterable iter X.env x = pure x := by intro _; rfl) :
    ST X (.Assign [.Name y py] (.DictComp kx vx [⟨tg, iter, ifs, 0⟩] scope pos) spos) (xsSet i (xDcK fi g (own.map (·.2)) tt tk tv)) := by
  intro env st ρ σ H o s w e D q
  unfold xsSet at e
  cases h : xDcK fi g (own.map (·.2)) tt tk tv env st with
  | none => simp [h] at e
  | some p =>
    obtain ⟨t, s1⟩ := p
    rw [h] at e
    cases e
    have h1 := dc_ok hi hg ht hk he s w h (Q := fun x H1 => gName i x σ H1 D.nx) fun v H1 ρ1 f1 w1 r1 => q _ H1 ρ1 f1 w1 ((s.up f1).set i r1)
    intro pins sh I
    rw [exec_Assign_Name_used _ _ _ _ hsw]; refine wpAny_bind (wpAny_standAt (wpAny_bind ?_))
    show wpAny _ X.A (do let _ ← comprehension (.DictComp kx vx [⟨tg, iter, ifs, 0⟩] scope pos) scope X.env (firstIterPos [⟨tg, iter, ifs, 0⟩] pos) newDict false (eval iter X.env) (some (assign (.Name y py) X.env))) _ _ sh
    refine wpAny_bind (thn (dc_core (Qf := fun _ s' => SP X pins D .next s') hc hN I Wi.pi ok (fun _ _ _ _ _ => gU.pg) (fun _ _ _ _ _ => tU.pt) (fun _ _ _ _ _ => eU.pe) (fun _ _ _ _ _ => eU.pe) hs h1 fun L C s' m H' I' q hn f => ?_) fun _ s' hq => wpAny_pure (wpAny_pure hq))
    show wpAny _ _ (assign (.Name y py) X.env (.ref L)) _ _ _
    refine wpAny_assign_Name (store_ok2 (v := V.ref L) I' hN hy (.inl hyl) rfl (fun s2 I2 ⟨a, sb, ha⟩ => ?_) (.inr hyl))
    obtain ⟨f0, f1, f2, f3, f4, f5⟩ := f
    have haC : C ≠ a := ha.elim (fun z => by rw [z]; exact f1) fun z e => f4 y a z e.symm
    exact ⟨m, hn.sameBut sb haC, fun h3 sb3 => ⟨_, H', I2.turned (t' := s2.toks) (fun b o hb e => (sb3.2 b hb).trans e) f0 f1 f3 f4 f5, q⟩⟩
end
end TL
/-! TL17 -/
set_option Elab.async false
set_option linter.all false
set_option maxRecDepth 100000
set_option maxHeartbeats 4000000
/-! what is raised, on trees -/
namespace TL
variable [Tb]
open PySem PySem.Spec PyProof.Rows L2
/-- an exception: where its class stands, its one field if it has one -/
structure Ex where
  n : Str
  f : Option (Str × T)
def Ex.C (x : Ex) : Addr := Tb.cls x.n
def ExD (K : KX) (H : Hp) (ρ : List Addr) (x : Ex) (d : Option Addr) : Prop := match x.f with
  | none => d = none
  | some p => ∃ a v, d = some a ∧ H a = some (.xd [(p.1, v)]) ∧ Rep K H ρ p.2 v
def QX (K : KX) (H : Hp) (ρ : List Addr) (x : Ex) (st' : Store) (E : XK) : Prop := ∀ d H' ρ', Fut H H' ρ ρ' → Wd K ρ' st' H' → ExD K H' ρ' x d → E (.ref x.C) d H'
theorem QX.up {K : KX} {H H' : Hp} {ρ ρ' : List Addr} {x : Ex} {st : Store} {E : XK} (q : QX K H ρ x st E) (f : Fut H H' ρ ρ') : QX K H' ρ' x st E := fun d H2 ρ2 g w r => q d H2 ρ2 (f.trans g) w r
abbrev XX := Env1 → Store → Option (Ex × Store)
abbrev FX := List T → Store → Option (Ex × Store)
def WX0 (E : XK) : WX := fun cls d _ H => E cls d H
def noV : VK := fun _ _ => False
def noD : Ends := { nx := fun _ _ => False, rt := fun _ _ => False, bk := fun _ _ => False, ct := fun _ _ => False }
def EX (X : Cx) (e : Expr) (g : XX) : Prop := ∀ env st ρ σ H x st' E, Takes X (WX0 E) → Slots (kx X) H ρ env σ → Wd (kx X) ρ st H → g env st = some (x, st') → QX (kx X) H ρ x st' E → We X e σ H noV
def AX (X : Cx) (es : List Expr) (g : XX) : Prop := ∀ env st ρ σ H x st' E, Takes X (WX0 E) → Slots (kx X) H ρ env σ → Wd (kx X) ρ st H → g env st = some (x, st') → QX (kx X) H ρ x st' E → Wa X es σ H fun _ _ => False
def SX1 (X : Cx) (s : Stmt) (g : XX) : Prop := ∀ env st ρ σ H x st' E, Takes X (WX0 E) → Slots (kx X) H ρ env σ → Wd (kx X) ρ st H → g env st = some (x, st') → QX (kx X) H ρ x st' E → Ws X s noD σ H
def SX (X : Cx) (s : List Stmt) (g : XX) : Prop := ∀ env st ρ σ H x st' E, Takes X (WX0 E) → Slots (kx X) H ρ env σ → Wd (kx X) ρ st H → g env st = some (x, st') → QX (kx X) H ρ x st' E → Wss X s noD σ H
def xNo : XX := fun _ _ => none
/-- the def raises -/
structure FnX (P : Program) (w : World) (K : PySem.W.Frag) (mg : Str → Option Value) (base : Heap) (k : Nat) (f : Addr) (fd : FuncData) (ps : List Str) (F : FX) : Prop where
  len : ∀ ts st r, F ts st = some r → ts.length = ps.length
  run : ∀ (A : Around) (outer : List Env) (s : Shared) (H : Hp) (args : Args) (us : List Value) (vs : List V) (ρ : List Addr) (ts : List T) (st : Store) (x : Ex) (st' : Store) (E : XK), Room k A → A.guards = some [] →
    Env0 P w K mg base A outer s H → BindsTo s fd args (ps.zip us) → Vals vs us → Wd (kX K P w) ρ st H → Reps (kX K P w) H ρ ts vs → F ts st = some (x, st') → QX (kX K P w) H ρ x st' E →
    codeAny (model P w) A (.call (.ref f) args) (CR (L2.CX P w) outer P w H s noV E) s
def fnX (n : Nat) (N : Nat) (b : XX) : FX := fun ts st => if ts.length = n then b (ts.map some ++ List.replicate (N - ts.length) none) st else none
abbrev cxX (P : Program) (w : World) (K : PySem.W.Frag) (mg : Str → Option Value) (base : Heap) (N : List Str) (qual : Str) (sc : Scope) (f : Addr) (cdv : Value) (A : Around) (outer : List Env) (s : Shared) (H : Hp) (E : XK) : Cx :=
  cxOf (L2.CX P w) P w K mg base N qual sc f cdv A outer s H E
section
variable {P : Program} {w : World} {K : PySem.W.Frag} {mg : Str → Option Value} {base : Heap}
theorem FnX.mono {j k : Nat} {f : Addr} {fd : FuncData} {ps : List Str} {F : FX} (G : FnX P w K mg base j f fd ps F) (h : j ≤ k) : FnX P w K mg base k f fd ps F :=
  ⟨G.len, fun A outer s H args us vs ρ ts st t st' E hr => G.run A outer s H args us vs ρ ts st t st' E (hr.mono h)⟩
theorem FnX.as {k : Nat} {f : Addr} {fd : FuncData} {ps : List Str} {F F' : FX} (G : FnX P w K mg base k f fd ps F) (h : ∀ ts st r, F' ts st = some r → F ts st = some r) : FnX P w K mg base k f fd ps F' :=
  ⟨fun ts st r e => G.len ts st r (h _ _ _ e), fun A outer s H args us vs ρ ts st t st' E hr hg e0 hb rv wd rs e q => G.run A outer s H args us vs ρ ts st t st' E hr hg e0 hb rv wd rs (h _ _ _ e) q⟩
theorem FnX.of {x qual : Str} {st : Stmt} {f : Addr} {fd : FuncData} {N ps : List Str} {k : Nat} {Fb : XX} (F : Fun K x qual st f fd) (S : FnScope N ps (defScope st))
    (hbody : ∀ (cdv : Value) (A : Around) (outer : List Env) (s : Shared) (H : Hp) (E : XK), Room k (A.deeper (envOfC qual (defScope st) s.heap.objs.size f cdv)) → (A.deeper (envOfC qual (defScope st) s.heap.objs.size f cdv)).guards = some [] →
      SX (cxX P w K mg base N qual (defScope st) f cdv A outer s H E) (defBody st) Fb) : FnX P w K mg base (k + 1) f fd ps (fnX ps.length N.length Fb) := by
  obtain ⟨oc, od, kV, doc, pm, an, cdv, ct, osl, rfl, lk, hcd⟩ := F.ex
  refine ⟨fun ts st r e => ?_, fun A outer s H args us vs ρ ts st0 x0 st' E hr hg e0 hb rv wd rs e q => ?_⟩
  · unfold fnX at e
    split at e
    · assumption
    · cases e
  · unfold fnX at e
    split at e
    · rename_i hts
      have hvl : vs.length = ps.length := by rw [← rs.length]; exact hts
      have KX : K.In s.heap := e0.mod.kin.keeps fun b o eb => (e0.bs b o eb).1
      have lim : s.heap.NoLimit := e0.mod.nolimit.keeps fun b o eb => (e0.bs b o eb).1
      have hkinds : ∀ y ∈ ps.zip us, (defScope st).names.lookup y.1 = some .local ∨ ((defScope st).names.lookup y.1 = some .cell ∧ ((cellsFrom (s.heap.objs.size + 1) (defScope st).names []).lookup y.1).isSome = true) := fun ⟨n, u⟩ hy => by
        rcases S.par n (List.of_mem_zip hy).1 with z | z
        · exact .inl z
        · exact .inr ⟨z, PySem.W.cellsFrom_some _ _ _ (.inl z)⟩
      refine codeAny_call_function hr.depth (KX _ _ lk) rfl S.co S.gen rfl (PySem.W.codeRec_of KX hcd) (hb _ _ _ _ ?_)
      refine wpAny_newFunctionEnv_cells S.kind hkinds fun env henv s1 x1 => ?_
      subst henv
      refine ⟨lim.keeps x1.toInCall.keep, codeAny_func ?_⟩
      have I0 : Inv (cxX P w K mg base N qual (defScope st) f cdv A outer s H E) [] (L2.start N vs) H s1 := inv_start S hr.hd e0 hvl rv x1
      have hB2 := hbody cdv A outer s H E (hr.deeper _) (by rw [show (A.deeper (envOfC qual (defScope st) s.heap.objs.size f cdv)).guards = A.guards from rfl]; exact hg)
      have hN : ts.length ≤ N.length := by
        have := congrArg List.length S.pre
        rw [List.length_take] at this
        omega
      have hss := hB2 _ st0 ρ (L2.start N vs) H x0 st' E (takes_of rfl rfl rfl rfl) (slots_start rs hN) wd e q
      refine wpAny_mono (hss [] s1 I0) (fun fl s' hs => ?_) fun e s' hs => hs
      cases fl with
      | ret u => obtain ⟨v, σ', H', J, r1, q1⟩ := hs; exact q1.elim
      | next => obtain ⟨σ', H', J, q1⟩ := hs; exact q1.elim
      | brk => obtain ⟨_, _, _, z⟩ := hs; exact z.elim
      | cont => obtain ⟨_, _, _, z⟩ := hs; exact z.elim
    · cases e
end
/-- what a call of a def that raises reads: its arguments first -/
def xCallX (F : FX) (fr : XA) : XX := fun e st => (fr e st).bind fun p => F p.1 p.2
section
variable {X : Cx} {k : Nat} {f : Addr} {fd : FuncData} {ps : List Str} {F : FX} {x : Str} {p pos : Pos} {e : Expr} {es : List Expr} {fr : XA}
theorem ex_call (G : FnX X.prog X.w X.K X.mg X.base k f fd ps F) (hr : Room k X.A) (hgu : X.A.guards = some []) (hm : X.mg x = some (.ref f)) (hk : PySem.W.keepIn X.K (.ref f) = true) (hb : Binds X.K fd ps []) (ha : AT X (e :: es) fr)
    (hg : Gl X x := by rfl) (hdb : (x == ("__debug__" : Str)) = false := by decide +kernel) (he : starEach (e :: es) X.env = (false, eval e X.env) :: starEach es X.env := by rfl) (hpl : (backTo pos (starEach es X.env)).any (·.1) = false := by rfl) :
    EX X (.Call (.Name x p) (e :: es) [] pos) (xCallX F fr) := by
  intro env st ρ σ H x0 st' E tk s w e1 q
  unfold xCallX at e1
  cases e2 : fr env st with
  | none => simp [e2] at e1
  | some pr =>
    obtain ⟨ts, st1⟩ := pr
    simp only [e2, Option.bind_some] at e1
    intro pins s0 I
    refine wpAny_Call_Name_kw (ld_glob I hg hm ?_ hdb)
    have hA := (Wa.pa.run pos pins s0 σ H _ I (ha env st ρ σ H ts st1 s w e2 (fun vs H1 => ∃ ρ1, Fut H H1 ρ ρ1 ∧ Wd (kx X) ρ1 st1 H1 ∧ Reps (kx X) H1 ρ1 ts vs) fun vs H1 ρ1 f1 w1 r1 => ⟨ρ1, f1, w1, r1⟩))
    refine PySem.W.callWith_K (h₀ := X.base) I.ok.mod.kin hk (thn hA fun us s1 ⟨vs, H1, I1, r, ρ1, f1, w1, r1⟩ => ⟨I1.kIn, ?_⟩) he hpl
    have hlen : (us ++ []).length = ps.length := by
      rw [List.append_nil, ← r.length, ← r1.length]; exact G.len ts st1 _ e1
    have hbb := hb s1 us I1.kIn hlen
    rw [List.append_nil] at hbb
    refine wpAny_call (codeAny_mono (G.run X.A X.stack s1 H1 ⟨us, []⟩ us vs ρ1 ts st1 x0 st' E hr hgu I1.env0 hbb r w1 r1 e1 (q.up f1)) fun rr s2 hq => ?_)
    cases rr with
    | error er => exact passAt tk σ pins H1 s1 er s2 I1 hq
    | ok fl =>
      cases fl with
      | ret u => obtain ⟨_, _, _, _, _, _, _, z⟩ := hq; exact z.elim
      | next => exact False.elim hq
      | brk => exact False.elim hq
      | cont => exact False.elim hq
end
/-! ### statements -/
section
variable {X : Cx} {st1 : Stmt} {b c0 : List Stmt} {fs : XS} {gx gy : XX} {e c : Expr} {tc : XT} {pos : Pos}
def xxSeq (fs : XS) (gx gy : XX) : XX := fun e st => match fs e st with
  | some (.nx e' st') => gy e' st'
  | some _ => none
  | none => gx e st
theorem sx_cons (hs : ST X st1 fs) (h1 : SX1 X st1 gx) (h2 : SX X b gy) : SX X (st1 :: b) (xxSeq fs gx gy) := by
  intro env st ρ σ H x st' E tk s w e1 q
  unfold xxSeq at e1
  refine Wss.of (pss_cons Ws.ps Wss.pss) ?_
  split at e1
  · rename_i e2 s2 hf
    exact hs env st ρ σ H _ s w hf _ fun σ' H' ρ' f' w' s' => h2 e2 s2 ρ' σ' H' x st' E tk s' w' e1 (q.up f')
  · cases e1
  · exact fun pins s0 I => wpAny_mono (h1 env st ρ σ H x st' E tk s w e1 q pins s0 I) (fun fl s1 hq => by
      cases fl with
      | ret u => obtain ⟨_, _, _, _, _, z⟩ := hq; exact z.elim
      | next => obtain ⟨_, _, _, z⟩ := hq; exact z.elim
      | brk => obtain ⟨_, _, _, z⟩ := hq; exact z.elim
      | cont => obtain ⟨_, _, _, z⟩ := hq; exact z.elim) fun _ _ z => z
theorem sx_one (h1 : SX1 X st1 gx) : SX X [st1] gx := fun env st ρ σ H x st' E tk s w e q => Wss.of (pss_one Ws.ps) (h1 env st ρ σ H x st' E tk s w e q)
theorem s1_no : SX1 X st1 xNo := fun _ _ _ _ _ _ _ _ _ _ _ e => by cases e
theorem sx_no : SX X b xNo := fun _ _ _ _ _ _ _ _ _ _ _ e => by cases e
def xxIf (tc : XT) (gx gy : XX) : XX := fun e st => (tc e st).bind fun p => if p.1 then gx e p.2 else gy e p.2
theorem s1_if (hc : TT1 X c tc) (ha : SX X b gx) (hb : SX X c0 gy) : SX1 X (.If c b c0 pos) (xxIf tc gx gy) := by
  intro env st ρ σ H x st' E tk s w e1 q
  unfold xxIf at e1
  cases h : tc env st with
  | none => simp [h] at e1
  | some pr =>
    obtain ⟨bb, s1⟩ := pr
    simp only [h, Option.bind_some] at e1
    refine Ws.of (ps_if Wt.pt Wss.pss Wss.pss) ?_
    refine hc env st ρ σ H bb s1 s w h _ fun H1 ρ1 f1 w1 => ?_
    cases bb with
    | true => exact ha env s1 ρ1 σ H1 x st' E tk (s.up f1) w1 (by simpa using e1) (q.up f1)
    | false => exact hb env s1 ρ1 σ H1 x st' E tk (s.up f1) w1 (by simpa using e1) (q.up f1)
theorem s1_ret (he : EX X e gx) : SX1 X (.Return (some e) pos) gx := by
  intro env st ρ σ H x st' E tk s w e1 q
  refine Ws.of (ps_ret We.pe) ?_
  exact fun pins s0 I => wpAny_mono (he env st ρ σ H x st' E tk s w e1 q pins s0 I) (fun v s1 hq => by obtain ⟨_, _, _, _, z⟩ := hq; exact z.elim) fun _ _ z => z
end
end TL
/-! TL18 -/
set_option Elab.async false
set_option linter.all false
set_option maxRecDepth 100000
set_option maxHeartbeats 4000000
/-! raise C(), raise C(e): classes of the program with an __init__ of their own -/
namespace TL
variable [Tb]
open PySem PySem.Spec PyProof.Rows L2
/-- the promise of an __init__ that does nothing -/
def spI0 (C : Addr) : Sp := fun vs H Q _ => ∃ a, vs = [V.ref a] ∧ H a = some (exo a C none) ∧ Q .non H
/-- the promise of an __init__ that keeps its one argument -/
def spI1 (C : Addr) (f : Str) : Sp := fun vs H Q _ => ∃ a v, vs = [V.ref a, v] ∧ H a = some (exo a C none) ∧ ∀ dx, H dx = none → dx ≠ a → Q .non (upd (upd H dx (exd dx [(f, v)])) a (exo a C (some dx)))
/-- a class of exceptions as the written part has it -/
structure ExcC (K : PySem.W.Frag) (mg : Str → Option Value) (x : Str) (C fI : Addr) (st : Stmt) (fd : FuncData) (qual : Str) : Prop where
  g : mg x = some (.ref C)
  o : OexC K C
  i : PySem.W.findIn K (.ref C) "__init__" = some (some (.ref fI))
  t : PySem.W.typeIn K (.ref fI) = some (.type "function")
  F : Fun K "__init__" qual st fI fd
section
variable {P : Program} {w : World} {K : PySem.W.Frag} {mg : Str → Option Value} {base : Heap} {fI C : Addr} {fd : FuncData} {st : Stmt} {qual x f : Str}
theorem init0 {p : Pos} (F : Fun K "__init__" qual st fI fd) (hb : defBody st = [.Pass p]) (S : FnScope ["self"] ["self"] (defScope st)) : FnOk P w K mg base C8.CX0 1 fI fd ["self"] (spI0 C) := by
  refine F.ok S (fun vs H Q E h => by obtain ⟨a, rfl, _⟩ := h; rfl) fun cdv A outer s H vs Q E hr h => ?_
  rw [hb]
  refine ⟨_, pss_one ps_pass, ?_⟩
  obtain ⟨a, rfl, _, q⟩ := h
  exact q
theorem init1 {p1 p2 p3 p4 : Pos} {y : Str} (F : Fun K "__init__" qual st fI fd) (o : OexC K C) (hno : PySem.W.findIn K (.ref C) f = some none) (hb : defBody st = [.Assign [.Attribute (.Name "self" p1) f p2] (.Name y p3) p4]) (S : FnScope ["self", y] ["self", y] (defScope st))
    (hv1 : Vis (defScope st) "self") (hv2 : Vis (defScope st) y) (hd : (y == ("__debug__" : Str)) = false) (hcd : (y == ("__classdict__" : Str)) = false) : FnOk P w K mg base C8.CX0 1 fI fd ["self", y] (spI1 C f) := by
  refine F.ok S (fun vs H Q E h => by obtain ⟨a, v, rfl, _⟩ := h; rfl) fun cdv A outer s H vs Q E hr h => ?_
  rw [hb]
  refine ⟨_, pss_one (ps_ost (pe_var (i := 0) rfl hv1 (by decide) (by decide)) (pe_var (i := 1) rfl hv2 hd hcd) (by rfl)), ?_⟩
  obtain ⟨a, v, rfl, ha, q⟩ := h
  exact ⟨v, rfl, .ref a, rfl, a, C, rfl, o, hno, .inl ⟨ha, fun dx h1 h2 => q dx h1 h2⟩⟩
end
section
variable {X : Cx} {pins : List (Addr × Obj)} {σ : St} {H1 H2 : Hp} {Q : XK}
/-- the end of C(): the exception is let go, it has no dict -/
theorem mk_endN {hp hp2 h2 : Heap} {g1 g2 : Array GenState} {d1 d2 : Drawn} {t1 t2 : Nat} {os1 os2 : OsState} {a C : Addr} (T : Raises X (.ref C)) (I1 : Inv X pins σ H1 ⟨hp, g1, d1, t1, os1⟩) (ha : hp.objs.size ≤ a) (k : ∀ b o, hp.get? b = some o → hp2.get? b = some o)
    (un : Un (frs X.stack) [] (upd H1 a (exo a C none)) (upd H1 a (exo a C none)) hp2 h2) (hok : HOk X.prog X.w (upd H1 a (exo a C none)) h2) (ho : os2 = os1) (hb : AllBare g2) (q : Q (.ref C) none H1) : MkP X pins σ Q (.ref a) ⟨h2, g2, d2, t2, os2⟩ := by
  have hn : H1 a = none := I1.hok.fresh ha
  have ea : upd H1 a (exo a C none) a = some (exo a C none) := upd_same
  obtain ⟨t0, hoe⟩ := exo_at hok ea
  obtain ⟨G, gin, gout⟩ := restrict h2 fun b => decide (b ≠ a)
  have gk : ∀ b, b ≠ a → G.get? b = h2.get? b := fun b hne => gin b (decide_eq_true hne)
  have ga : G.get? a = none := gout a (by simp)
  have away : ∀ {b : Addr} {o : Obj}, hp.get? b = some o → b ≠ a := fun {b o} z => Nat.ne_of_lt (Nat.lt_of_lt_of_le (Heap.lt_size z) ha)
  have at1 : ∀ {b : Addr}, b ≠ a → upd H1 a (exo a C none) b = H1 b := fun {b} hne => upd_ne hne
  have U : Un (frs X.stack) [] H1 H1 hp G := by
    refine ⟨fun b o z n hf hx => ?_, fun b o z n hf hx => ?_, fun b o z n hx => n, fun b o z hx => ?_, fun b xs z => z, fun b o v z => z, fun b ps z => ⟨#[], by rw [z]; simp⟩⟩
    · rw [gk b (away z)]; exact un.keep b o (k b o z) ((at1 (away z)).trans n) hf hx
    · rw [gk b (away z)]; exact un.slot b o (k b o z) ((at1 (away z)).trans n) hf hx
    · rw [gk b (away z)]; exact un.there b o (k b o z) hx
  have hok3 : HOk X.prog X.w H1 G := fun b o z => by
    have hba : b ≠ a := fun e => by rw [e, hn] at z; cases z
    have noa : ∀ {c y : Addr}, H1 c = some (.own y) → c ≠ a := fun {c y} hc e => by rw [e, hn] at hc; cases hc
    refine (hok b o ((at1 hba).trans z)).stay (fun c v hc y => ?_) (fun c hc => ?_) (fun c xs hc => ?_)
    · have hca : c ≠ a := by
        rcases hc with e | e
        · rw [e]; exact hba
        · intro e2; rw [e2, ea] at e; exact exo_own (Option.some.inj e)
      rw [gk c hca]; exact y
    · have hca : c ≠ a := fun e2 => by rw [e2, ea] at hc; exact exo_own (Option.some.inj hc)
      exact (at1 hca).symm.trans hc
    · have hca : c ≠ a := fun e2 => by rw [e2, ea] at hc; exact exo_tup (Option.some.inj hc)
      exact (at1 hca).symm.trans hc
  have J : Inv X pins σ H1 ⟨G, g2, d2, t2, os2⟩ := I1.call' (ch := []) ho U hok3 hb (fun b z => absurd z (by simp))
  refine ⟨a, _, _, ⟨G, g2, d2, t2, os2⟩, H1, .ref C, none, rfl, J, fun b o z => ?_, ga, hoe, ⟨rfl, rfl⟩, rfl, rfl, hn, rfl, hb, T, q⟩
  by_cases hba : b = a
  · rw [hba, ga] at z; cases z
  · exact (gk b hba).symm.trans z
variable {x qual : Str} {C fI : Addr} {st : Stmt} {fd : FuncData} {p pos pos2 : Pos}
theorem pmk0 (B : ExcC X.K X.mg x C fI st fd qual) (F1 : FnOk X.prog X.w X.K X.mg X.base C8.CX0 1 fI fd ["self"] (spI0 C)) (hb : L2.Binds X.K fd ["self"] []) (hr : Room 2 X.A) (hg : Gl X x) (hdb : (x == ("__debug__" : Str)) = false) :
    PMk X (.Call (.Name x p) [] [] pos) (fun _ H Q => Q (.ref C) none H) := by
  intro pins s σ H Q I h
  obtain ⟨nm, q, N, bs, bm, sn, sub, ab, col, dd, k0, k1, k2, k3, k5, hC, hbm⟩ := B.o.cls
  refine wpAny_Call_Name_kw (ld_glob I hg B.g ?_ hdb)
  refine PySem.W.callWith_K0 I.kIn B.o.kC ?_
  obtain ⟨hp, g, dr, tk, os⟩ := s
  have hsz : hp.objs.size ≤ hp.objs.size + 1 := Nat.le_succ _
  have kk : ∀ b o, hp.get? b = some o → ((hp.push (PySem.W.kdv_tup [])).push (PySem.HandSPX.excO C hp.objs.size)).get? b = some o := fun b o e => Heap.get?_push_of_some _ (Heap.get?_push_of_some _ e)
  have hget : ((hp.push (PySem.W.kdv_tup [])).push (PySem.HandSPX.excO C hp.objs.size)).get? (hp.objs.size + 1) = some (PySem.HandSPX.excO C hp.objs.size) := by heap_get
  have I2 : Inv X pins σ (upd H (hp.objs.size + 1) (exo (hp.objs.size + 1) C none)) ⟨(hp.push (PySem.W.kdv_tup [])).push (PySem.HandSPX.excO C hp.objs.size), g, dr, tk, os⟩ :=
    I.laid (t' := tk) (a := hp.objs.size + 1) (o := exo (hp.objs.size + 1) C none) kk hsz (exo_ok hget)
  refine wpAny_call (PySem.HandSPX.call_own F.excBase_ValueError (fun Y => PySem.HandSPX.refsVE_contains Y bm hbm) (I.kIn _ _ hC) (PySem.W.looks_findIn I.kIn B.i) (fun self => PySem.W.bind_fn I.kIn self B.t) (by show 0 ≤ sizeLine; decide) ?_)
  refine codeAny_mono (F1.run _ X.stack _ _ ⟨[Value.ref (hp.objs.size + 1)], []⟩ [Value.ref (hp.objs.size + 1)] [V.ref (hp.objs.size + 1)] (fun v H2 => v = .non ∧ H2 = upd H (hp.objs.size + 1) (exo (hp.objs.size + 1) C none)) (fun _ _ _ => False) (hr.make C [] []) (I2.env0.make C [] []) (hb _ [Value.ref (hp.objs.size + 1)] I2.kIn rfl) (.cons rfl .nil) ⟨_, rfl, upd_same, rfl, rfl⟩) fun r s' hq' => ?_
  cases r with
  | error er => exact False.elim hq'
  | ok fl =>
    cases fl with
    | ret u =>
      obtain ⟨v, H2, os2, bare2, un2, hok2, rv, rfl, rfl⟩ := hq'
      obtain ⟨h2, g2, d2, t2, os'⟩ := s'
      exact ⟨rv, mk_endN (raises_own B.o.exC B.o.tyC) I hsz kk un2 hok2 os2 bare2 h⟩
    | next => exact False.elim hq'
    | brk => exact False.elim hq'
    | cont => exact False.elim hq'
/-! ### on trees -/
def xRaise0 (n : Str) : XX := fun _ st => some (⟨n, none⟩, st)
def xRaise1 (n : Str) (f : Str) (fe : XE) : XX := fun e st => (fe e st).map fun p => (⟨n, some (f, p.1)⟩, p.2)
theorem s1_raise0 (hc : X.calm = true) (B : ExcC X.K X.mg x (Tb.cls x) fI st fd qual) (F1 : FnOk X.prog X.w X.K X.mg X.base C8.CX0 1 fI fd ["self"] (spI0 (Tb.cls x))) (hb : L2.Binds X.K fd ["self"] []) (hr : Room 2 X.A) (hg : Gl X x := by rfl) (hdb : (x == ("__debug__" : Str)) = false := by decide +kernel) :
    SX1 X (.Raise (some (.Call (.Name x p) [] [] pos)) none pos2) (xRaise0 x) := by
  intro env st0 ρ σ H x0 st' E tk s w e q
  cases e
  refine Ws.of (ps_raise hc tk (pmk0 B F1 hb hr hg hdb)) ?_
  exact q none H ρ (Fut.refl _ _) w rfl
theorem s1_raise1 {y f : Str} {e1 : Expr} {fe : XE} (hc : X.calm = true) (B : ExcC X.K X.mg x (Tb.cls x) fI st fd qual) (F1 : FnOk X.prog X.w X.K X.mg X.base C8.CX0 1 fI fd ["self", y] (spI1 (Tb.cls x) f)) (hb : L2.Binds X.K fd ["self", y] []) (hr : Room 2 X.A) (ha : AT X [e1] (fun e st => (fe e st).map fun p => ([p.1], p.2)))
    (hg : Gl X x := by rfl) (hdb : (x == ("__debug__" : Str)) = false := by decide +kernel) (he : starEach [e1] X.env = (false, eval e1 X.env) :: starEach [] X.env := by rfl) (hpl : (backTo pos (starEach [] X.env)).any (·.1) = false := by rfl) :
    SX1 X (.Raise (some (.Call (.Name x p) [e1] [] pos)) none pos2) (xRaise1 x f fe) := by
  intro env st0 ρ σ H x0 st' E tk s w e q
  unfold xRaise1 at e
  cases h : fe env st0 with
  | none => simp [h] at e
  | some pr =>
    obtain ⟨t, s1⟩ := pr
    simp only [h, Option.map_some] at e
    cases e
    refine Ws.of (ps_raise hc tk (pmk_oex B.o B.i B.t F1 hr hb .nil pass0 hg B.g Wa.pa hdb he hpl)) ?_
    refine ha env st0 ρ σ H [t] st' s w (by simp [h]) _ fun vs H1 ρ1 f1 w1 r1 => ?_
    cases r1 with
    | @cons _ vv _ _ r1 r2 =>
      cases r2
      refine ⟨by show 1 ≤ 1000; decide, fun a hna => ⟨a, _, rfl, upd_same, fun dx hdx hne => ⟨rfl, dx, [(f, vv)], upd_same, by rw [upd_ne hne, upd_same], by rw [upd_ne hne] at hdx; exact hdx, ?_⟩⟩⟩
      rw [upd_ne hne] at hdx
      have eH : upd (del (upd (upd (upd H1 a (exo a (Tb.cls x) none)) dx (exd dx [(f, vv)])) a (exo a (Tb.cls x) (some dx))) a) dx (.xd [(f, vv)]) = upd H1 dx (.xd [(f, vv)]) := by
        funext b
        by_cases h1 : b = dx
        · rw [h1, upd_same, upd_same]
        · rw [upd_ne h1, upd_ne h1]
          by_cases h2 : b = a
          · rw [h2, del_same, hna]
          · rw [del_ne h2, upd_ne h2, upd_ne h1, upd_ne h2]
      rw [eH]
      have fg : Fut H1 (upd H1 dx (.xd [(f, vv)])) ρ1 ρ1 := fut_grow (grow_new hdx)
      exact q (some dx) _ ρ1 (f1.trans fg) (w1.grow (grow_new hdx)) ⟨dx, _, rfl, upd_same, r1.up fg⟩
end
end TL
/-! TL19 -/
set_option Elab.async false
set_option linter.all false
set_option maxRecDepth 100000
set_option maxHeartbeats 4000000
/-! try with clauses of both sorts, none of which lets anything out -/
namespace TL
variable [Tb]
open PySem PySem.Spec PyProof.Rows L2
/-- an exception has been caught: s' is the state, h its heap -/
structure Got (X : Cx) (pins : List (Addr × Obj)) (σ : St) (H : Hp) (a : Addr) (cls : Value) (d : Option Addr) (s' : Shared) (h : Heap) : Prop where
  ex : ∃ (B : Heap) (sI : Shared), Inv X pins σ H sI ∧ (∀ b o, sI.heap.get? b = some o → b ∉ frs X.stack → B.get? b = some o) ∧ sI.heap.UpToSlots h ∧ HandSPX.FlyingZ B (X.env :: X.outer) a (Zc cls d) h ∧ H a = none ∧ s'.os = sI.os ∧ AllBare s'.gens
section
variable {X : Cx} {pins : List (Addr × Obj)} {σ : St} {H : Hp} {a : Addr} {cls : Value} {d : Option Addr} {s' : Shared} {h : Heap}
theorem Got.none (g : Got X pins σ H a cls d s' h) : H a = none := by
  obtain ⟨_, _, _, _, _, _, n, _⟩ := g.ex
  exact n
/-- what is known in an except suite -/
theorem Got.suite (g : Got X pins σ H a cls d s' h) (hf : X.env.frame = some X.env.locals) : ∃ oe, Inv (X.suite a ((a, oe) :: (X.pn ++ pins))) [] σ H { s' with heap := h } ∧ h.get? a = some oe ∧ Zc cls d oe ∧ ∃ vs, oe.data = .fields vs := by
  obtain ⟨B, sI, J, nb, up, fl, na, os, ag⟩ := g.ex
  have J3 : Inv X pins σ H { s' with heap := h } := J.landed nb fl.1 up os ag
  obtain ⟨oe, vs, he, hz, hd⟩ := fl.there
  have nfr : a ∉ frs (X.env :: X.outer) := fun hm => by
    obtain ⟨_, o', e', hnf⟩ := fl.2.2.1.mem hm
    rw [he] at e'; cases e'
    exact hnf _ hd
  refine ⟨oe, J3.suite he hd na (fun z => nfr (List.mem_filterMap.mpr ⟨X.env, List.mem_cons_self, by rw [hf, z]⟩)) (fun hm => ?_), he, hz, vs, hd⟩
  obtain ⟨e, he2, q⟩ := List.mem_filterMap.mp hm
  exact nfr (List.mem_filterMap.mpr ⟨e, List.mem_cons_of_mem _ he2, q⟩)
/-- the clause is entered: the exception is taken down once more -/
theorem Got.again (g : Got X pins σ H a cls d s' h) {M : Model} {A : Around} {E : Value → Shared → Prop} {Q : Unit → Shared → Prop} (q : ∀ h4, Got X pins σ H a cls d s' h4 → Q () { s' with heap := h4 }) {x : Sem Unit}
    (hx : ∀ B, HandSPX.FlyingZ B (X.env :: X.outer) a (Zc cls d) h → (∀ h4, HandSPX.FlyingZ B (X.env :: X.outer) a (Zc cls d) h4 → h.UpToSlots h4 → Q () { s' with heap := h4 }) → wpAny M A x Q E { s' with heap := h }) : wpAny M A x Q E { s' with heap := h } := by
  obtain ⟨B, sI, J, nb, up, fl, na, os, ag⟩ := g.ex
  exact hx B fl fun h4 fl4 up4 => q h4 ⟨B, sI, J, nb, up.trans up4, fl4, na, os, ag⟩
abbrev Wish := Value → Option Addr → St → Hp → Prop
/-- the ends behind a clause with a name: its slot is empty again -/
def endAs (D : Ends) (i : Nat) : Ends := { nx := fun σ H => D.nx (σ.set i none) H, rt := D.rt, bk := fun σ H => D.bk (σ.set i none) H, ct := fun σ H => D.ct (σ.set i none) H }
inductive HdsM (X : Cx) (D : Ends) : List ExceptHandler → Wish → Prop
  | nil : HdsM X D [] fun _ _ _ _ => False
  | bare {x : Str} {c : Value} {ts : Addr → Value → Option Addr → TS} {b₀ : Stmt} {su : List Stmt} {np p : Pos} {hds : List ExceptHandler} {w : Wish} (hc : Names X x c)
      (hsu : ∀ (a : Addr) (oe : Obj) (cls : Value) (d : Option Addr) (pn : List (Addr × Obj)), Zc cls d oe → (∃ vs, oe.data = .fields vs) → PSs (X.suite a ((a, oe) :: pn)) (b₀ :: su) (ts a cls d)) (r : HdsM X D hds w) :
      HdsM X D (.ExceptHandler (some (.Name x np)) none (b₀ :: su) p :: hds) fun cls d σ H => ∃ b, PySem.W.exmOne X.K cls c = some b ∧ (b = true → ∀ a, H a = none → ts a cls d D σ H) ∧ (b = false → w cls d σ H)
  | as {x n : Str} {i : Nat} {c : Value} {ts : Addr → Value → Option Addr → TS} {b₀ : Stmt} {su : List Stmt} {np p : Pos} {hds : List ExceptHandler} {w : Wish} (hc : Names X x c) (hN : X.N.Nodup) (hi : X.N[i]? = some n) (hln : X.env.kindOf n = some .local)
      (hsu : ∀ (a : Addr) (oe : Obj) (cls : Value) (d : Option Addr) (pn : List (Addr × Obj)), Zc cls d oe → (∃ vs, oe.data = .fields vs) → PSs (X.suite a ((a, oe) :: pn)) (b₀ :: su) (ts a cls d)) (r : HdsM X D hds w) :
      HdsM X D (.ExceptHandler (some (.Name x np)) (some n) (b₀ :: su) p :: hds) fun cls d σ H => ∃ b, PySem.W.exmOne X.K cls c = some b ∧ (b = true → ∀ a, H a = none → ts a cls d (endAs D i) (σ.set i (some (.ref a))) H) ∧ (b = false → w cls d σ H)
/-- the class of a clause is looked up, and held against the exception's -/
theorem clause_test {x : Str} {c : Value} {np : Pos} {b : Bool} {Q : Bool → Shared → Prop} {E : Value → Shared → Prop} (g : Got X pins σ H a cls d s' h) (hf : X.env.frame = some X.env.locals) (hc : Names X x c) (hb : PySem.W.exmOne X.K cls c = some b) (q : Q b { s' with heap := h }) :
    wpAny (model X.prog X.w) (X.A.mark (some (.ref a))) (eval (.Name x np) X.env) (fun v s2 => wpAny (model X.prog X.w) (X.A.mark (some (.ref a))) (excMatches (.ref a) v) Q E s2) E { s' with heap := h } := by
  obtain ⟨oe, S, he, hz, vs, hd⟩ := g.suite hf
  have LT : PySem.W.Looks (model X.prog X.w) h (typeOf (.ref a)) cls := fun A Q E s k q => wpAny_typeOf_ref (k _ _ he) (by rw [hz.1]; exact q)
  have LM := PySem.W.exm_one (M := model X.prog X.w) (S.kIn) LT hb
  obtain ⟨hg, hdbg, hm | ⟨hm, hv, hnn⟩⟩ := hc
  · exact ld_glob (X := X.suite a ((a, oe) :: (X.pn ++ pins))) S hg hm (LM.here q) hdbg
  · exact ld_blt (X := X.suite a ((a, oe) :: (X.pn ++ pins))) S hg hm hv (LM.here q) hnn hdbg
theorem handled {D : Ends} {hds : List ExceptHandler} {w : Wish} (hk : HdsM X D hds w) (ok : X.Ok) (hf : X.env.frame = some X.env.locals) : ∀ {h : Heap}, Got X pins σ H a cls d s' h → w cls d σ H → wpAny (model X.prog X.w) X.A (handleBy (.ref a) X.env hds) (SP X pins D) X.xe { s' with heap := h } := by
  induction hk with
  | nil => exact fun _ z => z.elim
  | @bare x c ts b₀ su np p hds2 w2 hc hsu r ih =>
    rintro h g ⟨b, hb1, yes, no⟩
    refine wpAny_handleBy_cons (codeAny_handlers_test (clause_test g hf hc hb1 ?_)) (by intro q; cases q)
    cases b with
    | false => show wpAny _ X.A (handleBy (.ref a) X.env hds2) _ _ _; exact ih g (no rfl)
    | true =>
      refine codeAny_handlers_suite (g.again (fun h4 g4 => ?_) fun B fl k => HandSPX.lands_againZ fl k)
      obtain ⟨oe, S, he, hz, hd⟩ := g4.suite hf
      refine wpAny_mono ((hsu a oe cls d (X.pn ++ pins) hz hd).run [] _ _ H _ S (yes rfl a g.none)) (fun f s6 hsp => ?_) (fun _ _ z => False.elim z)
      cases f with
      | next => obtain ⟨σ6, H6, S6, q6⟩ := hsp; exact ⟨_, _, S6.unsuite ok, q6⟩
      | brk => obtain ⟨σ6, H6, S6, q6⟩ := hsp; exact ⟨_, _, S6.unsuite ok, q6⟩
      | cont => obtain ⟨σ6, H6, S6, q6⟩ := hsp; exact ⟨_, _, S6.unsuite ok, q6⟩
      | ret u => obtain ⟨v6, σ6, H6, S6, r6, q6⟩ := hsp; exact ⟨_, _, _, S6.unsuite ok, r6, q6⟩
  | @as x n i c ts b₀ su np p hds2 w2 hc hN hi hln hsu r ih =>
    rintro h g ⟨b, hb1, yes, no⟩
    refine wpAny_handleBy_cons (codeAny_handlers_test (clause_test g hf hc hb1 ?_)) (by intro q; cases q)
    cases b with
    | false => show wpAny _ X.A (handleBy (.ref a) X.env hds2) _ _ _; exact ih g (no rfl)
    | true =>
      refine codeAny_handlers_suite_as (g.again (fun h4 g4 => ?_) fun B fl k => HandSPX.lands_againZ fl k)
      obtain ⟨oe, S, he, hz, hd⟩ := g4.suite hf
      refine store_ok (X := X.suite a ((a, oe) :: (X.pn ++ pins))) (v := .ref a) S hN hi (.inl hln) rfl (fun s5 S5 => ?_) (.inr hln)
      refine wpAny_mono ((hsu a oe cls d (X.pn ++ pins) hz hd).run [] s5 _ H _ S5 (yes rfl a g.none)) (fun f s6 hsp => ?_) (fun _ _ z => False.elim z)
      cases f with
      | next => obtain ⟨σ6, H6, S6, q6⟩ := hsp; exact gone_ok (S6.unsuite ok) hN hi hln fun s7 J7 => ⟨_, _, J7, q6⟩
      | brk => obtain ⟨σ6, H6, S6, q6⟩ := hsp; exact gone_ok (S6.unsuite ok) hN hi hln fun s7 J7 => ⟨_, _, J7, q6⟩
      | cont => obtain ⟨σ6, H6, S6, q6⟩ := hsp; exact gone_ok (S6.unsuite ok) hN hi hln fun s7 J7 => ⟨_, _, J7, q6⟩
      | ret u => obtain ⟨v6, σ6, H6, S6, r6, q6⟩ := hsp; exact gone_ok (S6.unsuite ok) hN hi hln fun s7 J7 => ⟨_, _, _, J7, r6, q6⟩
/-- try: body, clauses; the body's wish is what the clauses make of an exception -/
theorem try_all {body : List Stmt} {h₀ : ExceptHandler} {hds : List ExceptHandler} {pos : Pos} {tb : WX → TS} {D : Ends} {w : Wish} (hs : X.stack = X.env :: X.outer) (hf : X.env.frame = some X.env.locals)
    (hb : ∀ (W : WX) (pn : List (Addr × Obj)) (xe : Value → Shared → Prop), Takes (X.tr pn xe) W → PSs (X.tr pn xe) body (tb W)) (hk : HdsM X D (h₀ :: hds) w) {σ : St} {H : Hp} (q : tb w D σ H) : Ws X (.Try body (h₀ :: hds) [] [] pos) D σ H := by
  intro pins s I
  have ok := I.ok
  have hfr : X.A.frames = some (X.env :: X.outer) := by rw [ok.frames, hs]
  refine wpAny_Try_except (wpAny_mono ((hb w (X.pn ++ pins) (fun e s₁ => wpAny (model X.prog X.w) X.A (noteFrame e X.env) (fun _ s₂ => wpAny (model X.prog X.w) X.A (setFlight e none) (fun _ s₃ => wpAny (model X.prog X.w) X.A (handleBy e X.env (h₀ :: hds)) (SP X pins D) X.xe s₃) X.xe s₂) X.xe s₁) ?_).run [] s σ H D (I.toTry _) q) ?_ fun e s1 he => he)
  · rintro u s' ⟨a, B, sI, pins', σ', H', cls, d, rfl, J', nb, up, sky, na, os, ag, hw⟩
    have sky' : Sky B (X.env :: X.outer) a (Zc cls d) X.env.locals s'.heap := by rw [← hs]; exact sky
    show wpAny (model X.prog X.w) X.A (noteFrame (.ref a) X.env) _ _ _
    exact Sky.land Zc.steady hfr hf sky' fun h3 fl3 up3 => handled (s' := s') hk ok hf ⟨B, sI, J'.ofTry ok, nb, up.trans up3, fl3, na, os, ag⟩ hw
  · intro f s1 hsp
    cases f with
    | next => obtain ⟨σ', H', J', q⟩ := hsp; exact wpAny_execs_nil ⟨σ', H', J'.ofTry ok, q⟩
    | brk => obtain ⟨σ', H', J', q⟩ := hsp; exact ⟨σ', H', J'.ofTry ok, q⟩
    | cont => obtain ⟨σ', H', J', q⟩ := hsp; exact ⟨σ', H', J'.ofTry ok, q⟩
    | ret u => obtain ⟨v, σ', H', J', r, q⟩ := hsp; exact ⟨v, σ', H', J'.ofTry ok, r, q⟩
end
end TL
/-! TL20 -/
set_option Elab.async false
set_option linter.all false
set_option maxRecDepth 100000
set_option maxHeartbeats 4000000
/-! heard(lambda: e): what e comes to, or how it is refused -/
namespace TL
variable [Tb]
open PySem PySem.Spec PyProof.Rows L2
structure FldOk (K : PySem.W.Frag) (C : Addr) (f : Str) : Prop where
  ga : PySem.W.findIn K (.ref C) "__getattribute__" = some (some (.builtin "BaseException.__getattribute__"))
  gg : PySem.W.findIn K (.ref C) "__getattr__" = some none
  no : PySem.W.findIn K (.ref C) f = some none
  ex : PySem.W.subIn K (.ref C) (.type "BaseException") = some true
  hd : PySem.W.hasDictIn K C = true
/-- a clause: its class, the word, the field that it tells if it has a name -/
structure ClT where
  c : Value
  word : Str
  f : Option Str
def Leads (K : PySem.W.Frag) : List ClT → Ex → T → Prop
  | [], _, _ => False
  | cl :: r, x, t => ∃ b, PySem.W.exmOne K (.ref x.C) cl.c = some b ∧ (b = true → match cl.f with
      | none => t = .tup [.str cl.word]
      | some f => FldOk K x.C f ∧ ∃ u, x.f = some (f, u) ∧ t = .tup [.str cl.word, u]) ∧ (b = false → Leads K r x t)
section
variable {X : Cx}
theorem pe_fld {a : Addr} {oe : Obj} {cls : Value} {d : Option Addr} {pn : List (Addr × Obj)} {e : Expr} {te : TE} {f : Str} {pos : Pos} (hz : Zc cls d oe) (hf : ∃ vs, oe.data = .fields vs) (he : PE (X.suite a ((a, oe) :: pn)) e te) (hb : attributeBase e f X.env (eval e X.env) = eval e X.env) :
    PE (X.suite a ((a, oe) :: pn)) (.Attribute e f pos) (fun σ H Q => te σ H fun x H1 => x = .ref a ∧ ∃ C dd v, cls = .ref C ∧ FldOk X.K C f ∧ d = some dd ∧ H1 dd = some (.xd [(f, v)]) ∧ Q v H1) := by
  refine ⟨fun pins s σ H Q I h => attr_of hb (thn (he.run pins s σ H _ I h) fun u s1 ⟨x, H1, I1, rx, ex, C, dd, v, ec, T, ed, ea, q⟩ => ?_)⟩
  subst ex ec ed
  cases rx
  obtain ⟨ha, _⟩ := I1.pin (a, oe) (List.mem_append_left _ List.mem_cons_self)
  obtain ⟨vs, hd⟩ := hf
  obtain ⟨mA, hns, hr⟩ := (show ObjOk X.prog X.w H1 s1.heap dd (.xd [(f, v)]) from I1.hok dd _ ea)
  obtain ⟨od, ho, hl⟩ := lookIn_ns hns
  have l : List.lookup f [(f, v)] = some v := by simp [List.lookup]
  obtain ⟨u, hu, ru⟩ := RelO.some_of (v := v) (o := mA f) (by rw [← l]; exact hr f)
  have J : PySem.W.InstAt s1.heap a oe C (some od) := ⟨ha, hz.1, by unfold PySem.W.notCls; rw [hd] <;> rfl, by rw [hz.2]; exact ho⟩
  exact HandSPX.exc_get I1.kIn J T.ga T.gg T.ex (PySem.W.findObj_own T.hd T.no rfl (by rw [hl, hu])) (handed_of ru) ⟨v, H1, I1.tok _, ru, q⟩
/-- the clauses as they stand in the text -/
inductive HdsT (X : Cx) : List ExceptHandler → List ClT → Prop
  | nil : HdsT X [] []
  | bare {x : Str} {c : Value} {word : Str} {np p p1 p2 p3 : Pos} {j kk : Nat} {hds : List ExceptHandler} {r : List ClT} (hc : Names X x c) (hr : HdsT X hds r) :
      HdsT X (.ExceptHandler (some (.Name x np)) none [.Return (some (.Tuple [.Constant (.str word) j p1] kk p2)) p3] p :: hds) (⟨c, word, none⟩ :: r)
  | as {x n f : Str} {c : Value} {i : Nat} {word : Str} {np p p1 p2 p3 p4 p5 : Pos} {j kk : Nat} {hds : List ExceptHandler} {r : List ClT} (hc : Names X x c) (hi : X.N[i]? = some n) (hln : X.env.scope.names.lookup n = some .local) (hd : (n == ("__debug__" : Str)) = false) (hcd : (n == ("__classdict__" : Str)) = false)
      (hb : attributeBase (.Name n p4) f X.env (eval (.Name n p4) X.env) = eval (.Name n p4) X.env) (hr : HdsT X hds r) :
      HdsT X (.ExceptHandler (some (.Name x np)) (some n) [.Return (some (.Tuple [.Constant (.str word) j p1, .Attribute (.Name n p4) f p5] kk p2)) p3] p :: hds) (⟨c, word, some f⟩ :: r)
theorem hds_ok {hds : List ExceptHandler} {cs : List ClT} (hN : X.N.Nodup) (hT : HdsT X hds cs) : ∃ w : Ends → Wish, (∀ D, HdsM X D hds (w D)) ∧ ∀ (D : Ends) (x : Ex) (t : T) (d : Option Addr) (σ : St) (H : Hp) (ρ : List Addr) (st' : Store),
    Leads X.K cs x t → ExD (kx X) H ρ x d → Wd (kx X) ρ st' H → QE (kx X) H ρ t st' D.rt → σ.length = X.N.length → w D (.ref x.C) d σ H := by
  induction hT with
  | nil => exact ⟨fun _ _ _ _ _ => False, fun D => .nil, fun D x t d σ H ρ st' l => l.elim⟩
  | @bare x c word np p p1 p2 p3 j kk hds r hc hr ih =>
    obtain ⟨w, h1, h2⟩ := ih
    refine ⟨_, fun D => .bare (ts := fun a cls d => tRet (tTup (tCons (tC (.str word)) tNil))) hc (fun a oe cls d pn hz hf => pss_one (ps_ret (pe_tup (pa_cons pe_str pa_nil)))) (h1 D), fun D x0 t d σ H ρ st' l ed wd q hl => ?_⟩
    obtain ⟨b, e1, e2, e3⟩ := l
    refine ⟨b, e1, fun hb a na => ?_, fun hb => h2 D x0 t d σ H ρ st' (e3 hb) ed wd q hl⟩
    have e4 : t = .tup [.str word] := e2 hb
    subst e4
    show ([V.str word]).length ≤ sizeLine ∧ ∀ p, H p = none → D.rt (.ref p) (upd H p (.tup [V.str word]))
    exact ⟨by show 1 ≤ sizeLine; decide, fun p hp => q _ _ ρ (fut_grow (grow_new hp)) (wd.grow (grow_new hp)) (.tup (.inl (.inl upd_same)) (.cons (.str _) .nil))⟩
  | @as x n f c i word np p p1 p2 p3 p4 p5 j kk hds r hc hi hln hd hcd hb hr ih =>
    obtain ⟨w, h1, h2⟩ := ih
    refine ⟨_, fun D => .as (i := i) hc hN hi hln (fun a oe cls d pn hz hf => pss_one (ps_ret (pe_tup (pa_cons pe_str (pa_cons (pe_fld hz hf (pe_var (X := X.suite a ((a, oe) :: pn)) (i := i) hi (.inl hln) hd hcd) hb) pa_nil))))) (h1 D), fun D x0 t d σ H ρ st' l ed wd q hl => ?_⟩
    obtain ⟨b, e1, e2, e3⟩ := l
    refine ⟨b, e1, fun hb a na => ?_, fun hb => h2 D x0 t d σ H ρ st' (e3 hb) ed wd q hl⟩
    obtain ⟨fo, u, e4, e5⟩ := e2 hb
    subst e5
    unfold ExD at ed
    rw [e4] at ed
    obtain ⟨dd, v, rfl, hdd, rv⟩ := ed
    have hlt : i < σ.length := by rw [hl]; exact (List.getElem?_eq_some_iff.mp hi).1
    refine ⟨.ref a, by rw [List.getElem?_set_self hlt], rfl, x0.C, dd, v, rfl, fo, rfl, hdd, ?_⟩
    show ([V.str word, v]).length ≤ sizeLine ∧ ∀ p, H p = none → D.rt (.ref p) (upd H p (.tup [V.str word, v]))
    exact ⟨by show 2 ≤ sizeLine; decide, fun p hp => q _ _ ρ (fut_grow (grow_new hp)) (wd.grow (grow_new hp)) (rep_pair hp (.str _) rv)⟩
end
/-! ### the lambda is made: what the store tells stays -/
theorem Wd.made {K : KX} {ρ : List Addr} {st : Store} {H H1 : Hp} (w : Wd K ρ st H) (e : LamX.ExtN H H1) (t : LamX.Tabs K.tabs H1) : Wd K ρ st H1 ∧ Fut H H1 ρ ρ := by
  have f : Fut H H1 ρ ρ := ⟨fun a o h i => e a o h (fun ps z => by subst z; cases i), [], by simp⟩
  refine ⟨⟨t, w.len, w.nd, fun l o a h1 h2 => ?_⟩, f⟩
  obtain ⟨u, hu, _⟩ := w.there h2
  exact (w.ob l o a h1 h2).up f ((e a u hu (fun ps z => (w.apart h2).1 ps (by rw [hu, z]))).trans hu.symm)
end TL
/-! TL21 -/
set_option Elab.async false
set_option linter.all false
set_option maxRecDepth 100000
set_option maxHeartbeats 4000000
namespace TL
variable [Tb]
open PySem PySem.Spec PyProof.Rows L2 LamX
/-- the lambda's body, called from wherever -/
def tLamW (X : Cx) (k : Nat) (scope : Scope) (f c' : Addr) (body : Expr) (E : XK) : TE := fun σ HZ Q => ∀ (A : Around) (outer : List Env) (s : Shared), A.guards = some [] → Room k (A.deeper (lamEnv X scope s.heap.objs.size f c')) → We (lamCx X A outer s HZ E scope f c') body σ HZ Q
section
variable {X : Cx} {pins : List (Addr × Obj)} {σ : St} {H : Hp} {s : Shared}
/-- a(), in the def that got the lambda -/
theorem act_pe {Ng : List Str} {qg : Str} {sg : Scope} {g f c' : Addr} {cdg pm ctv : Value} {params : Arguments} {body : Expr} {scope : Scope} {k : Nat} {a : Str} {pn : List (Addr × Obj)} {xe : Value → Shared → Prop} {W : WX} {p1 p2 : Pos}
    (I : Inv X pins σ H s) (L : LamS X.env.scope scope) (hf : s.heap.get? f = some (PySem.W.kla_obj "<lambda>" (X.env.qual ++ "<lambda>") params body scope (cloFrom X.env.cells scope.names []) pm c' ctv)) (hfn : H f = none) (hfr : f ∉ frs X.stack)
    (hbind : bindArgs (PySem.W.kla_fn "<lambda>" (X.env.qual ++ "<lambda>") params body scope (cloFrom X.env.cells scope.names []) pm (.ref c') ctv) ⟨[], []⟩ = pure [])
    (tk : Takes ((cxOf C8.CX0 X.prog X.w X.K X.mg X.base Ng qg sg g cdg X.A X.stack s H C8.E0).tr pn xe) W) (hr : Room (k + 1) (X.A.deeper (envOfC qg sg s.heap.objs.size g cdg))) (hgu : X.A.guards = some []) (hN : Ng[0]? = some a) (hv : Vis sg a) (hd : (a == ("__debug__" : Str)) = false) (hcd : (a == ("__classdict__" : Str)) = false) :
    PE ((cxOf C8.CX0 X.prog X.w X.K X.mg X.base Ng qg sg g cdg X.A X.stack s H C8.E0).tr pn xe) (.Call (.Name a p1) [] [] p2)
      (fun σZ HZ Q => σZ[0]? = some (some (.ref f)) ∧ HZ c' = some (CodeO c' (X.env.qual ++ "<lambda>")) ∧ ∃ E : XK, (∀ cls d H', E cls d H' → W cls d σZ H') ∧ tLamW X k scope f c' body E σ HZ Q) := by
  refine ⟨fun pinsZ sZ σZ HZ Q IZ ⟨hs, hc, E, hE, ht⟩ => wpAny_Call_Name_kw (thn ((pe_var (pos := p1) (i := 0) hN hv hd hcd).run pinsZ sZ σZ HZ (fun v H1 => v = .ref f ∧ H1 = HZ) IZ ⟨.ref f, hs, rfl, rfl⟩) fun u s1 ⟨v, H1, I1, r1, ev, eH⟩ => ?_)⟩
  subst ev; rw [eH] at I1; cases r1
  have of1 : s1.heap.get? f = some (PySem.W.kla_obj "<lambda>" (X.env.qual ++ "<lambda>") params body scope (cloFrom X.env.cells scope.names []) pm c' ctv) := I1.base.keep f _ hf hfn hfr (fun z => absurd (show f ∈ ([] : List Addr) from z) (by simp))
  refine PySem.W.callWith_F0 ⟨_, _, _, _, of1⟩ (wpAny_call (codeAny_mono (R := CR (L2.CX X.prog X.w) (envOfC qg sg s.heap.objs.size g cdg :: X.stack) X.prog X.w HZ s1 Q E) ?_ fun r s' hq => ?_))
  · obtain ⟨⟨oc, vs, t, hoc, hdc, hvc⟩, _, _⟩ := I1.hok c' _ hc
    refine PySem.W.kla_callFunE hr.depth of1 rfl L.co L.gen rfl ⟨c', oc, vs, t, rfl, hoc, hdc, hvc⟩ ?_
    have hb2 : bindArgs (PySem.W.kla_fn "<lambda>" (X.env.qual ++ "<lambda>") params body scope (cloFrom X.env.cells scope.names []) pm (.ref c') ctv) ⟨[] ++ [], []⟩ = pure [] := hbind
    rw [hb2]
    refine wpAny_pure (wpAny_newFunctionEnv (fun y hy => (L.own y hy).2) (fun y hy => absurd hy (by simp)) (fun h₁ hns hsb => ⟨I1.nolimit.fresh _ hsb, ?_⟩) L.kind)
    have kp : ∀ b o, s1.heap.get? b = some o → h₁.get? b = some o := fun b o e => hsb.extBut b o (Nat.ne_of_lt (Heap.lt_size e)) (Heap.get?_push_of_some _ e)
    have J := lam_start2 (A := X.A.deeper (envOfC qg sg s.heap.objs.size g cdg)) (E := E) (c' := c') (f := f) (tk := s1.toks + ([] : List (Str × Value)).length) I L I1.env0 hr.hd I1.base hns kp
    show codeAny _ _ (.expr body (lamEnv X scope s1.heap.objs.size f c')) _ _
    refine PySem.W.kla_codeExpr (wpAny_mono (ht (X.A.deeper (envOfC qg sg s.heap.objs.size g cdg)) (envOfC qg sg s.heap.objs.size g cdg :: X.stack) s1 hgu (hr.deeper _) [] _ J) (fun v s' hq => ?_) fun e s' hq => hq)
    obtain ⟨w', H', J', rv, q⟩ := hq
    exact ⟨w', H', J'.os, J'.bare, J'.base, J'.hok, rv, q⟩
  · cases r with
    | error e => exact tk e s' (XE.of_call I1 (fun cls d H' h => hE cls d H' h) hq)
    | ok fl =>
      cases fl with
      | ret u => exact I1.after hq
      | next => exact False.elim hq
      | brk => exact False.elim hq
      | cont => exact False.elim hq
end
/-- the def that hears, as the text has it -/
structure Hearer (P : Program) (w : World) (K : PySem.W.Frag) (mg : Str → Option Value) (base : Heap) (x : Str) (told : Str) (cs : List ClT) : Prop where
  ex : ∃ (g : Addr) (pg : Arguments) (bg : List Stmt) (sg : Scope) (dV kV doc pm cdv ct oc : Value) (an od : Option Addr) (osl : Array (Option Value)) (Ng : List Str) (a : Str) (h₀ : ExceptHandler) (hds : List ExceptHandler) (j kk : Nat) (p1 p2 p3 p4 p5 p6 : Pos),
    mg x = some (.ref g) ∧ PySem.W.keepIn K (.ref g) = true ∧ K.lookup g = some ⟨oc, od, .func (PySem.W.fnOf x x pg bg sg dV kV doc pm an cdv ct), osl⟩ ∧ PySem.W.codeIn K cdv x = true ∧ L2.Binds K (PySem.W.fnOf x x pg bg sg dV kV doc pm an cdv ct) [a] [] ∧ FnScope Ng [a] sg ∧ Ng[0]? = some a ∧ Vis sg a ∧
    (a == ("__debug__" : Str)) = false ∧ (a == ("__classdict__" : Str)) = false ∧
    bg = [.Try [.Return (some (.Tuple [.Constant (.str told) j p1, .Call (.Name a p2) [] [] p3] kk p4)) p5] (h₀ :: hds) [] [] p6] ∧
    ∀ (A : Around) (outer : List Env) (s : Shared) (H : Hp), HdsT (cxOf C8.CX0 P w K mg base Ng x sg g cdv A outer s H C8.E0).nox (h₀ :: hds) cs
/-- the maker of the lambda: its code and table -/
structure MakerAt (X : Cx) : Prop where
  ex : ∃ c P, TabB X.base X.mg c P ∧ X.env.code = .ref c ∧ (P, X.env.qual ++ "<lambda>") ∈ Tb.tabs ∧ ∀ p ∈ Tb.tabs, p.1 = P → p.2 = X.env.qual ++ "<lambda>"
def xHeard (told : Str) (ans : Ex → Option T) (fb : XE) (gb : XX) : XE := fun e st => match fb e st with
  | some (t, st') => some (.tup [.str told, t], st')
  | none => (gb e st).bind fun p => (ans p.1).map fun t => (t, p.2)
section
variable {X : Cx} {x : Str} {params : Arguments} {body : Expr} {scope : Scope} {p lpos pos : Pos} {k : Nat} {told : Str} {cs : List ClT} {ans : Ex → Option T} {fb : XE} {gb : XX}
theorem et_heard (G : Hearer X.prog X.w X.K X.mg X.base x told cs) (M : MakerAt X) (hans : ∀ y t, ans y = some t → Leads X.K cs y t) (hr : Room (k + 2) X.A) (hgu : X.A.guards = some []) (L : LamS X.env.scope scope)
    (hfb : ∀ (A : Around) (outer : List Env) (s : Shared) (H : Hp) (E : XK) (f c' : Addr), A.guards = some [] → Room k (A.deeper (lamEnv X scope s.heap.objs.size f c')) → ET (lamCx X A outer s H E scope f c') body fb)
    (hgb : ∀ (A : Around) (outer : List Env) (s : Shared) (H : Hp) (E : XK) (f c' : Addr), A.guards = some [] → Room k (A.deeper (lamEnv X scope s.heap.objs.size f c')) → EX (lamCx X A outer s H E scope f c') body gb)
    (hdef : defaultsOf params X.env = ([], []) := by rfl) (hbind : ∀ (q : Str) (cl : List (Str × Addr)) (pm cv ctv : Value), bindArgs (PySem.W.kla_fn "<lambda>" q params body scope cl pm cv ctv) ⟨[], []⟩ = pure [] := by intros; rfl) (hg : Gl X x := by rfl) (hdb : (x == ("__debug__" : Str)) = false := by decide +kernel) :
    ET X (.Call (.Name x p) [.Lambda params body scope lpos] [] pos) (xHeard told ans fb gb) := by
  intro env st ρ σ H t st' s w e Q q pins s0 I
  obtain ⟨g, pg, bg, sg, dV, kV, doc, pm, cdv, ct, oc, an, od, osl, Ng, a, h₀, hds, j, kk, p1, p2, p3, p4, p5, p6, hm, hk, lk, hcg, hb, Sg, hN0, hva, hd, hcd, rfl, hT⟩ := G.ex
  obtain ⟨c, P, TB, hcode, hmT, hu⟩ := M.ex
  refine wpAny_Call_Name_kw (ld_glob I hg hm (PySem.W.callWith_K (h₀ := X.base) I.ok.mod.kin hk ?_ (by rfl) (by rfl)) hdb)
  show wpAny _ _ (spliced ((false, eval (.Lambda params body scope lpos) X.env) :: backTo pos (starEach [] X.env))) _ _ s0
  refine Calls.spliced_cons (lam_make2 I TB hcode hmT hu w.tb hdef (L.has I.ok) fun f c' pm' ctv H1 s' I1 eN T1 hf hfn hfr hco => Calls.spliced_nil ⟨I1.kIn, ?_⟩)
  obtain ⟨w1, f1⟩ := w.made eN T1
  have s1 := s.up f1
  obtain ⟨wish, hk1, hk2⟩ := hds_ok Sg.nd (hT X.A X.stack s' H1)
  refine wpAny_call (codeAny_mono (R := CR C8.CX0 X.stack X.prog X.w H1 s' Q C8.E0) ?_ fun r s2 hq => ?_)
  · refine run_ofS (N := Ng) (ps := [a]) (us := [.ref f]) (vs := [.ref f]) lk hcg Sg hr I1.env0 (hb s' [.ref f] I1.kIn rfl) (.cons rfl .nil) rfl fun hr' => ⟨Wss _ _, PSs.nox (Wss.pss (X := (cxOf C8.CX0 X.prog X.w X.K X.mg X.base Ng x sg g cdv X.A X.stack s' H1 C8.E0).nox)), ?_⟩
    refine Wss.of (pss_one Ws.ps) ?_
    have hst : (L2.start Ng [V.ref f]).length = Ng.length := by
      have := List.getElem?_eq_some_iff.mp hN0
      obtain ⟨h0, _⟩ := this
      simp [L2.start]; omega
    refine try_all rfl rfl (tb := fun W D σZ HZ => σZ[0]? = some (some (.ref f)) ∧ HZ c' = some (CodeO c' (X.env.qual ++ "<lambda>")) ∧ ∃ E : XK, (∀ cls d H', E cls d H' → W cls d σZ H') ∧ tLamW X k scope f c' body E σ HZ fun v H2 => ∀ p, H2 p = none → D.rt (.ref p) (upd H2 p (.tup [.str told, v])))
      (fun W pn xe tk => ?_) (hk1 _) ?_
    · have hp := act_pe (p1 := p2) (p2 := p3) I1 L hf hfn hfr (hbind _ _ _ _ _) tk hr' hgu hN0 hva hd hcd
      have hq := pss_one (ps_ret (pos := p5) (pe_tup (x1 := kk) (pos := p4) (pa_cons (pe_str (x := told) (j := j) (pos := p1)) (pa_cons hp pa_nil))))
      exact ⟨fun pinsZ sZ σZ HZ D IZ ⟨h1, h2, E, h3, h4⟩ => hq.run pinsZ sZ σZ HZ D IZ ⟨h1, h2, E, h3, fun A outer s hA hR pins s3 I3 => wpAny_mono (h4 A outer s hA hR pins s3 I3) (fun v s4 ⟨v', H4, I4, r4, q4⟩ => ⟨v', H4, I4, r4, (show ([V.str told, v']).length ≤ sizeLine by show 2 ≤ sizeLine; decide), q4⟩) fun _ _ z => z⟩⟩
    · refine ⟨by rw [L2.start]; simp, hco, ?_⟩
      unfold xHeard at e
      cases h : fb env st with
      | some pr =>
        obtain ⟨t0, st0⟩ := pr
        rw [h] at e
        cases e
        refine ⟨fun _ _ _ => False, fun _ _ _ z => z.elim, fun A outer s3 hA hR => ?_⟩
        exact hfb A outer s3 H1 _ f c' hA hR env st ρ σ H1 t0 st' s1 w1 h _ fun v H2 ρ2 f2 w2 r2 p hp => q _ _ ρ2 ((f1.trans f2).trans (fut_grow (grow_new hp))) (w2.grow (grow_new hp)) (rep_pair hp (.str _) r2)
      | none =>
        rw [h] at e
        cases h2 : gb env st with
        | none => simp [h2] at e
        | some pr =>
          obtain ⟨y, st0⟩ := pr
          simp only [h2, Option.bind_some] at e
          cases h3 : ans y with
          | none => simp [h3] at e
          | some ta =>
            simp only [h3, Option.map_some] at e
            cases e
            refine ⟨fun cls d H' => ∃ ρ', Fut H1 H' ρ ρ' ∧ Wd (kx X) ρ' st' H' ∧ ExD (kx X) H' ρ' y d ∧ cls = .ref y.C, fun cls d H' ⟨ρ', f', w', ed, ec⟩ => ?_, fun A outer s3 hA hR => ?_⟩
            · subst ec
              exact hk2 _ y t d _ H' ρ' st' (hans y t h3) ed w' (q.up (f1.trans f')) hst
            · exact fun pinsZ sZ IZ => wpAny_mono (hgb A outer s3 H1 _ f c' hA hR env st ρ σ H1 y st' _ (takes_of rfl rfl rfl rfl) s1 w1 h2 (fun d H' ρ' f' w' ed => ⟨ρ', f', w', ed, rfl⟩) pinsZ sZ IZ) (fun v s4 hq => by obtain ⟨_, _, _, _, z⟩ := hq; exact z.elim) fun _ _ z => z
  · cases r with
    | error e => exact (show False from hq).elim
    | ok fl =>
      cases fl with
      | ret u => exact I1.after hq
      | next => exact False.elim hq
      | brk => exact False.elim hq
      | cont => exact False.elim hq
end
end TL
/-! TL22 -/
set_option Elab.async false
set_option linter.all false
set_option maxRecDepth 100000
set_option maxHeartbeats 4000000
namespace TL
variable [Tb]
open PySem PySem.Spec PyProof.Rows L2 LamX
/-! ### xs[::-1] -/
theorem et_rev {X : Cx} {a : Expr} {fa : XE} {k : Nat} {p1 p2 p3 pos : Pos} (ha : ET X a fa) : ET X (.Subscript a (.Slice none none (some (.UnaryOp .USub (.Constant (.int 1) k p1) p2)) p3) pos) (xUn revT fa) := by
  intro env st ρ σ H t st' s w e Q q
  obtain ⟨x, st1, e1, e2⟩ := one e
  refine We.of (pe_revL We.pe) ?_
  refine ha env st ρ σ H x st1 s w e1 _ fun vx H1 ρ1 f1 w1 r1 => ?_
  unfold revT at e2
  split at e2
  · split at e2
    · rename_i ts hl
      cases e2
      obtain ⟨b, vs, rfl, ha0, h0, r0⟩ := rep_lst w1 r1 hl
      refine ⟨b, vs, rfl, SqL.of h0, fun p hp => ?_⟩
      obtain ⟨w2, f2⟩ := w1.push (o := .lst ts.reverse) (u := .lst vs.reverse) hp ⟨_, upd_same, r0.rev.up ⟨Ext.new hp, [p], rfl⟩⟩
      exact q _ _ _ (f1.trans f2) w2 (.ref (by rw [← w1.len, List.getElem?_append_right (Nat.le_refl _)]; simp))
    · cases e2
  · cases e2
theorem ot_inF {X : Cx} (hu : X.A.units + 65 < cLine) : OpT X (compareOp .In) (inA false) := ot_inA false hu
theorem ot_notinF {X : Cx} (hu : X.A.units + 65 < cLine) : OpT X (compareOp .NotIn) (inA true) := ot_inA true hu
/-! ### how a refusal is told -/
abbrev AnsTab := List (Str × Str × Option Str)
def ansOf (tab : AnsTab) (y : Ex) : Option T := match tab.find? fun e => e.1 == y.n with
  | none => none
  | some (_, w, none) => some (.tup [.str w])
  | some (_, w, some f) => match y.f with
    | some (g, t) => if g = f then some (.tup [.str w, t]) else none
    | none => none
def LeadsN (K : PySem.W.Frag) : List ClT → (Str × Str × Option Str) → Prop
  | [], _ => False
  | cl :: r, e => ∃ b, PySem.W.exmOne K (.ref (Tb.cls e.1)) cl.c = some b ∧ (b = true → cl.word = e.2.1 ∧ cl.f = e.2.2 ∧ ∀ f, e.2.2 = some f → FldOk K (Tb.cls e.1) f) ∧ (b = false → LeadsN K r e)
theorem leads_of {K : PySem.W.Frag} {y : Ex} {t : T} {e : Str × Str × Option Str} (hn : e.1 = y.n) (ht : (match e.2.2 with
    | none => some (T.tup [.str e.2.1])
    | some f => match y.f with
      | some (g, t) => if g = f then some (.tup [.str e.2.1, t]) else none
      | none => none) = some t) : ∀ {cs : List ClT}, LeadsN K cs e → Leads K cs y t
  | [], h => h.elim
  | cl :: r, ⟨b, h1, h2, h3⟩ => by
    have eC : y.C = Tb.cls e.1 := by rw [hn]; rfl
    refine ⟨b, by rw [eC]; exact h1, fun hb => ?_, fun hb => leads_of hn ht (h3 hb)⟩
    obtain ⟨k1, k2, k3⟩ := h2 hb
    rw [k2, k1]
    cases h : e.2.2 with
    | none =>
      rw [h] at ht
      exact (Option.some.inj ht).symm
    | some f =>
      rw [h] at ht
      cases h4 : y.f with
      | none => rw [h4] at ht; cases ht
      | some p =>
        obtain ⟨g, u⟩ := p
        simp only [h4] at ht
        split at ht
        · rename_i hgf
          subst hgf
          exact ⟨by rw [eC]; exact k3 _ h, u, rfl, (Option.some.inj ht).symm⟩
        · cases ht
theorem ans_leads {K : PySem.W.Frag} {cs : List ClT} {tab : AnsTab} (h : ∀ e ∈ tab, LeadsN K cs e) : ∀ y t, ansOf tab y = some t → Leads K cs y t := by
  intro y t e
  unfold ansOf at e
  cases hf : tab.find? fun e => e.1 == y.n with
  | none => rw [hf] at e; cases e
  | some z =>
    obtain ⟨n, w, fo⟩ := z
    have hm := List.mem_of_find?_eq_some hf
    have hn : n = y.n := eq_of_beq (List.find?_some (p := fun e : Str × Str × Option Str => e.1 == y.n) hf)
    refine leads_of (e := (n, w, fo)) hn ?_ (h _ hm)
    rw [hf] at e
    cases fo with
    | none => exact e
    | some f => exact e
/-! ### defs whose code is known -/
/-- where a def stands, its code at c -/
structure PlaceC (K : PySem.W.Frag) (mg : Str → Option Value) (x : Str) (st : Stmt) (ps : List Str) (c : Addr) : Prop where
  ex : ∃ (f : Addr) (oc : Value) (od : Option Addr) (kV doc pm : Value) (an : Option Addr) (ct : Value) (osl : Array (Option Value)), mg x = some (.ref f) ∧ PySem.W.keepIn K (.ref f) = true ∧
    K.lookup f = some ⟨oc, od, .func (PySem.W.fnOf x x (defArgs st) (defBody st) (defScope st) .none kV doc pm an (.ref c) ct), osl⟩ ∧ PySem.W.codeIn K (.ref c) x = true ∧ L2.Binds K (PySem.W.fnOf x x (defArgs st) (defBody st) (defScope st) .none kV doc pm an (.ref c) ct) ps []
theorem placeC_mk {K : PySem.W.Frag} {h : Heap} {mg : Str → Option Value} (X : K.In h) (G : h.Ns mainGlobals mg) {x : Str} {st : Stmt} {ps : List Str} {f c : Addr} {oc : Value} {od an : Option Addr} {sl : Array (Option Value)} {kV dc pm ct : Value}
    (hb : ∀ (kV doc pm : Value) (an : Option Addr) (cdv ct : Value) (us : List Value), us.length = ps.length → bindArgs (PySem.W.fnOf x x (defArgs st) (defBody st) (defScope st) .none kV doc pm an cdv ct) ⟨us, []⟩ = pure (ps.zip us))
    (a : PySem.W.nsIn K mainGlobals x = some (some (.ref f))) (l : K.lookup f = some ⟨oc, od, .func (PySem.W.fnOf x x (defArgs st) (defBody st) (defScope st) .none kV dc pm an (.ref c) ct), sl⟩) (cd : PySem.W.codeIn K (.ref c) x = true) (k : PySem.W.keepIn K (.ref f) = true) : PlaceC K mg x st ps c := by
  have F := fun_mk (st := st) l cd k
  exact ⟨f, oc, od, kV, dc, pm, an, ct, sl, PySem.W.mg_of X G a, k, l, cd, F.binds hb⟩
section
variable {P : Program} {w : World} {K : PySem.W.Frag} {mg : Str → Option Value} {base : Heap} {k : Nat} {x : Str} {ps : List Str} {F : FA}
/-- a def that makes a lambda: its code and table -/
structure MakerOf (mg : Str → Option Value) (base : Heap) (x : Str) (c : Addr) : Prop where
  ex : ∃ P, TabB base mg c P ∧ (P, x ++ ".<locals>." ++ "<lambda>") ∈ Tb.tabs ∧ ∀ p ∈ Tb.tabs, p.1 = P → p.2 = x ++ ".<locals>." ++ "<lambda>"
theorem DefAt.ofC {st : Stmt} {N : List Str} {Fb : XS} {c : Addr} (L : PlaceC K mg x st ps c) (S : FnScope N ps (defScope st))
    (hbody : ∀ (f : Addr) (A : Around) (outer : List Env) (s : Shared) (H : Hp), Room k (A.deeper (envOfC x (defScope st) s.heap.objs.size f (.ref c))) → (A.deeper (envOfC x (defScope st) s.heap.objs.size f (.ref c))).guards = some [] →
      SST (cx0 P w K mg base N x (defScope st) f (.ref c) A outer s H E0) (defBody st) Fb) : DefAt P w K mg base (k + 1) x ps (fnF ps.length N.length Fb) := by
  obtain ⟨f, oc, od, kV, doc, pm, an, ct, osl, h1, h2, h3, h4, h5⟩ := L.ex
  exact ⟨f, _, h1, h2, h5, FnT.ofL h3 h4 S fun A outer s H => hbody f A outer s H⟩
/-- a def that raises, as it stands behind the top -/
structure DefX (P : Program) (w : World) (K : PySem.W.Frag) (mg : Str → Option Value) (base : Heap) (k : Nat) (x : Str) (ps : List Str) (F : FX) : Prop where
  ex : ∃ (f : Addr) (fd : FuncData), mg x = some (.ref f) ∧ PySem.W.keepIn K (.ref f) = true ∧ L2.Binds K fd ps [] ∧ FnX P w K mg base k f fd ps F
theorem DefX.of {st : Stmt} {N : List Str} {Fb : XX} (L : Place K mg x st ps) (S : FnScope N ps (defScope st))
    (hbody : ∀ (f : Addr) (cdv : Value) (A : Around) (outer : List Env) (s : Shared) (H : Hp) (E : XK), Room k (A.deeper (envOfC x (defScope st) s.heap.objs.size f cdv)) → (A.deeper (envOfC x (defScope st) s.heap.objs.size f cdv)).guards = some [] →
      SX (cxX P w K mg base N x (defScope st) f cdv A outer s H E) (defBody st) Fb) : DefX P w K mg base (k + 1) x ps (fnX ps.length N.length Fb) := by
  obtain ⟨f, fd, h1, F, b⟩ := L.ex
  exact ⟨f, fd, h1, F.kp, b, FnX.of F S fun cdv A outer s H E => hbody f cdv A outer s H E⟩
/-- a class of exceptions of the program, with what its __init__ does -/
structure Exc0 (P : Program) (w : World) (K : PySem.W.Frag) (mg : Str → Option Value) (base : Heap) (x : Str) : Prop where
  ex : ∃ fI st fd qual, ExcC K mg x (Tb.cls x) fI st fd qual ∧ FnOk P w K mg base C8.CX0 1 fI fd ["self"] (spI0 (Tb.cls x)) ∧ L2.Binds K fd ["self"] []
structure Exc1 (P : Program) (w : World) (K : PySem.W.Frag) (mg : Str → Option Value) (base : Heap) (x f : Str) : Prop where
  ex : ∃ fI st fd qual y, ExcC K mg x (Tb.cls x) fI st fd qual ∧ FnOk P w K mg base C8.CX0 1 fI fd ["self", y] (spI1 (Tb.cls x) f) ∧ L2.Binds K fd ["self", y] []
theorem hearer_of {st : Stmt} {a told : Str} {cs : List ClT} {Ng : List Str} {h₀ : ExceptHandler} {hds : List ExceptHandler} {j kk : Nat} {p1 p2 p3 p4 p5 p6 : Pos} (L : Place K mg x st [a]) (S : FnScope Ng [a] (defScope st)) (h0 : Ng[0]? = some a) (hv : Vis (defScope st) a) (hd : (a == ("__debug__" : Str)) = false) (hcd : (a == ("__classdict__" : Str)) = false)
    (hb : defBody st = [.Try [.Return (some (.Tuple [.Constant (.str told) j p1, .Call (.Name a p2) [] [] p3] kk p4)) p5] (h₀ :: hds) [] [] p6])
    (hT : ∀ (g : Addr) (cdv : Value) (A : Around) (outer : List Env) (s : Shared) (H : Hp), HdsT (cxOf C8.CX0 P w K mg base Ng x (defScope st) g cdv A outer s H C8.E0).nox (h₀ :: hds) cs) : Hearer P w K mg base x told cs := by
  obtain ⟨f, fd, h1, F, b⟩ := L.ex
  obtain ⟨oc, od, kV, doc, pm, an, cdv, ct, osl, rfl, lk, hcd2⟩ := F.ex
  exact ⟨f, defArgs st, defBody st, defScope st, .none, kV, doc, pm, cdv, ct, oc, an, od, osl, Ng, a, h₀, hds, j, kk, p1, p2, p3, p4, p5, p6, h1, F.kp, lk, hcd2, b, S, h0, hv, hd, hcd, hb, fun A outer s H => hT f cdv A outer s H⟩
end
section
variable {X : Cx} {k j : Nat} {ps : List Str} {F : FX} {x f : Str} {p pos pos2 : Pos} {e : Expr} {es : List Expr} {fr : XA} {fe : XE}
theorem ex_callD (G : DefX X.prog X.w X.K X.mg X.base k x ps F) (hr : Room j X.A) (hgu : X.A.guards = some []) (ha : AT X (e :: es) fr) (hkj : k ≤ j := by decide)
    (hg : Gl X x := by rfl) (hdb : (x == ("__debug__" : Str)) = false := by decide +kernel) (he : starEach (e :: es) X.env = (false, eval e X.env) :: starEach es X.env := by rfl) (hpl : (backTo pos (starEach es X.env)).any (·.1) = false := by rfl) :
    EX X (.Call (.Name x p) (e :: es) [] pos) (xCallX F fr) := by
  obtain ⟨f, fd, h1, h2, h3, h4⟩ := G.ex
  exact ex_call h4 (hr.mono hkj) hgu h1 h2 h3 ha hg hdb he hpl
theorem s1_raise0D (hc : X.calm = true) (B : Exc0 X.prog X.w X.K X.mg X.base x) (hr : Room j X.A) (hj : 2 ≤ j := by decide) (hg : Gl X x := by rfl) (hdb : (x == ("__debug__" : Str)) = false := by decide +kernel) :
    SX1 X (.Raise (some (.Call (.Name x p) [] [] pos)) none pos2) (xRaise0 x) := by
  obtain ⟨fI, st, fd, qual, h1, h2, h3⟩ := B.ex
  exact s1_raise0 hc h1 h2 h3 (hr.mono hj) hg hdb
theorem at_one {e1 : Expr} (h : ET X e1 fe) (hs : starEach [e1] X.env = (false, eval e1 X.env) :: starEach [] X.env := by rfl) : AT X [e1] (fun e st => (fe e st).map fun p => ([p.1], p.2)) := by
  intro env st ρ σ H ts st' s w e Q q
  cases h1 : fe env st with
  | none => simp [h1] at e
  | some pr =>
    obtain ⟨t, s1⟩ := pr
    simp only [h1, Option.map_some] at e
    cases e
    refine Wa.of (pa_cons We.pe pa_nil hs) ?_
    exact h env st ρ σ H t st' s w h1 _ fun v H1 ρ1 f1 w1 r1 => q _ _ _ f1 w1 (.cons r1 .nil)
theorem s1_raise1D {e1 : Expr} (hc : X.calm = true) (B : Exc1 X.prog X.w X.K X.mg X.base x f) (hr : Room j X.A) (ha : ET X e1 fe) (hj : 2 ≤ j := by decide) (hg : Gl X x := by rfl) (hdb : (x == ("__debug__" : Str)) = false := by decide +kernel)
    (he : starEach [e1] X.env = (false, eval e1 X.env) :: starEach [] X.env := by rfl) (hpl : (backTo pos (starEach [] X.env)).any (·.1) = false := by rfl) :
    SX1 X (.Raise (some (.Call (.Name x p) [e1] [] pos)) none pos2) (xRaise1 x f fe) := by
  obtain ⟨fI, st, fd, qual, y, h1, h2, h3⟩ := B.ex
  exact s1_raise1 hc h1 h2 h3 (hr.mono hj) (at_one ha he) hg hdb he hpl
end
end TL
/-! TL23 -/
set_option Elab.async false
set_option linter.all false
set_option maxRecDepth 100000
set_option maxHeartbeats 4000000
namespace TL
variable [Tb]
open PySem PySem.Spec PyProof.Rows L2 LamX
theorem maker_at {X : Cx} {x : Str} {c : Addr} (M : MakerOf X.mg X.base x c) (hc : X.env.code = .ref c := by rfl) (hq : X.env.qual = x ++ ".<locals>." := by rfl) : MakerAt X := by
  obtain ⟨P, h1, h2, h3⟩ := M.ex
  exact ⟨c, P, h1, hc, by rw [hq]; exact h2, by rw [hq]; exact h3⟩
section
variable {X : Cx} {e : Expr} {gx : XX} {pos : Pos}
theorem s1_expr (he : EX X e gx) (hs : swapsWith e none pos.line X.env = pure false := by rfl) : SX1 X (.Expr e pos) gx := by
  intro env st ρ σ H x st' E tk s w e1 q
  have h := he env st ρ σ H x st' E tk s w e1 q
  exact Ws.of (ps_expr We.pe hs) (show We X e σ H _ from fun pins s0 I => wpAny_mono (h pins s0 I) (fun v s1 hq => by obtain ⟨_, _, _, _, z⟩ := hq; exact z.elim) fun _ _ z => z)
theorem s1_set {i : Nat} {x : Str} {pos' : Pos} (hN : X.N.Nodup) (he : EX X e gx) (hi : X.N[i]? = some x := by rfl) (hx : Loc X.env.scope x := by first | exact .inl rfl | exact .inr rfl) (hf : X.fn x = true ∨ X.env.scope.names.lookup x = some .local := by first | exact .inl rfl | exact .inr rfl)
    (hs : swapsWith e (some (.Name x pos')) pos.line X.env = pure false := by rfl) : SX1 X (.Assign [.Name x pos'] e pos) gx := by
  intro env st ρ σ H y st' E tk s w e1 q
  have h := he env st ρ σ H y st' E tk s w e1 q
  exact Ws.of (ps_set hN hi hx We.pe hs hf) (show We X e σ H _ from fun pins s0 I => wpAny_mono (h pins s0 I) (fun v s1 hq => by obtain ⟨_, _, _, _, z⟩ := hq; exact z.elim) fun _ _ z => z)
end
end TL
/-! TL24 -/
set_option Elab.async false
set_option linter.all false
set_option maxRecDepth 100000
set_option maxHeartbeats 4000000
namespace TL
variable [Tb]
open PySem PySem.Spec PyProof.Rows L2 LamX
/-- a class of exceptions by what the written part says -/
theorem exc_mk {K : PySem.W.Frag} {h : Heap} {mg : Str → Option Value} (X : K.In h) (G : h.Ns mainGlobals mg) {x qual : Str} {C fI : Addr} {st : Stmt} {ps : List Str} {nm q : Str} {N : Addr} {bs : List Value} {bm : List Value} {sn : List Str} {sub : List Value} {ab : Bool} {col : Option Bool} {dd : Option Addr} {k0 k1 k2 k3 k5 : Option Value}
    {oc : Value} {od an : Option Addr} {sl : Array (Option Value)} {kV dc pm cd ct : Value}
    (a1 : PySem.W.nsIn K mainGlobals x = some (some (.ref C))) (a2 : K.lookup C = some (excClassObj nm q C N bs bm true sn sub ab col dd k0 k1 k2 k3 k5 "ValueError.__new__")) (a3 : PySem.HandSPX.refsVE bm = true)
    (a4 : PySem.W.findIn K (.ref C) "__setattr__" = some (some (.builtin "object.__setattr__"))) (a5 : PySem.W.subIn K (.ref C) (.type "BaseException") = some true) (a6 : PySem.W.typeIn K (.ref C) = some (.type "type")) (a7 : PySem.W.keepIn K (.ref C) = true)
    (a8 : PySem.W.findIn K (.ref C) "__init__" = some (some (.ref fI))) (a9 : PySem.W.typeIn K (.ref fI) = some (.type "function"))
    (b1 : K.lookup fI = some ⟨oc, od, .func (PySem.W.fnOf "__init__" qual (defArgs st) (defBody st) (defScope st) .none kV dc pm an cd ct), sl⟩) (b2 : PySem.W.codeIn K cd qual = true) (b3 : PySem.W.keepIn K (.ref fI) = true)
    (hb : ∀ (kV doc pm : Value) (an : Option Addr) (cdv ct : Value) (us : List Value), us.length = ps.length → bindArgs (PySem.W.fnOf "__init__" qual (defArgs st) (defBody st) (defScope st) .none kV doc pm an cdv ct) ⟨us, []⟩ = pure (ps.zip us)) :
    ∃ fI fd, ExcC K mg x C fI st fd qual ∧ L2.Binds K fd ps [] := by
  have F := fun_mk (st := st) b1 b2 b3
  exact ⟨fI, _, ⟨PySem.W.mg_of X G a1, ⟨⟨nm, q, N, bs, bm, sn, sub, ab, col, dd, k0, k1, k2, k3, k5, a2, a3⟩, a4, a5, a6, a7⟩, a8, a9, F⟩, F.binds hb⟩
/-- whether an error of the class at A is what a clause of the class at C names -/
theorem exm_by {K : PySem.W.Frag} {A C : Addr} {b : Bool} (h1 : PySem.W.subIn K (.ref C) (.type "BaseException") = some true) (h2 : PySem.W.isClsIn K C = true) (h3 : PySem.W.typeIn K (.ref C) = some (.type "type")) (h4 : PySem.W.subIn K (.ref A) (.ref C) = some b) : PySem.W.exmOne K (.ref A) (.ref C) = some b := by
  have g1 : (PySem.W.subIn K (.ref C) (.type "BaseException") == some true) = true := by rw [h1]; rfl
  have g2 : ((PySem.W.clsIn K C).isSome && PySem.W.typeIn K (.ref C) == some (.type "type")) = true := by rw [show (PySem.W.clsIn K C).isSome = true from h2, h3]; rfl
  show (if (PySem.W.subIn K (.ref C) (.type "BaseException") == some true) = true then (if ((PySem.W.clsIn K C).isSome && PySem.W.typeIn K (.ref C) == some (.type "type")) = true then PySem.W.subIn K (.ref A) (.ref C) else none) else none) = some b
  rw [if_pos g1, if_pos g2, h4]
end TL
/-! TL25 -/
set_option Elab.async false
set_option linter.all false
set_option maxRecDepth 100000
set_option maxHeartbeats 4000000
/-! running a def on trees by simp -/
namespace TL
open PySem L2
variable {e : Env1} {st : Store} {t u v : T} {ts us : List T} {i j : Int} {n m : Nat} {f g h : XE} {r r2 : XA} {c d : XT} {a b : XS} {f2 : F2} {f1 : F1} {fa : FA} {xg : XG} {xgs : XGs} {fi : XI}
@[simp] theorem r_xC : xC t e st = some (t, st) := rfl
@[simp] theorem r_xVar : xVar n e st = (match e[n]? with
  | some (some t) => some (t, st)
  | _ => none) := rfl
@[simp] theorem r_xBin : xBin f2 f g e st = (f e st).bind fun p => (g e p.2).bind fun q => f2 p.1 q.1 q.2 := rfl
@[simp] theorem r_xUn : xUn f1 f e st = (f e st).bind fun p => f1 p.1 p.2 := rfl
@[simp] theorem r_xNil : xNil e st = some ([], st) := rfl
@[simp] theorem r_xCons : xCons f r e st = (f e st).bind fun p => (r e p.2).bind fun q => some (p.1 :: q.1, q.2) := rfl
@[simp] theorem r_xCall : xCall fa r e st = (r e st).bind fun p => fa p.1 p.2 := rfl
@[simp] theorem r_xTru : xTru f e st = (f e st).bind fun p => (truT p.1 p.2).map fun b => (b, p.2) := rfl
@[simp] theorem r_xNotT : xNotT c e st = (c e st).map fun p => (!p.1, p.2) := rfl
@[simp] theorem r_xAndT : xAndT c d e st = (c e st).bind fun p => if p.1 then d e p.2 else some (false, p.2) := rfl
@[simp] theorem r_xOrT : xOrT c d e st = (c e st).bind fun p => if p.1 then some (true, p.2) else d e p.2 := rfl
@[simp] theorem r_xIf : xIf c f g e st = (c e st).bind fun p => if p.1 then f e p.2 else g e p.2 := rfl
@[simp] theorem r_xBl : xBl f e st = (f e st).bind fun p => match p.1 with
  | .bl b => some (b, p.2)
  | _ => none := rfl
@[simp] theorem r_xsNil : xsNil e st = some (.nx e st) := rfl
@[simp] theorem r_xsSeq : xsSeq a b e st = (a e st).bind fun o => match o with
  | .nx e' st' => b e' st'
  | o => some o := rfl
@[simp] theorem r_xsAsg : xsAsg f xg e st = (f e st).bind fun p => (xg p.1 e p.2).map fun q => .nx q.1 q.2 := rfl
@[simp] theorem r_xsSet : xsSet n f e st = (f e st).map fun p => .nx (e.set n (some p.1)) p.2 := rfl
@[simp] theorem r_xsRet : xsRet f e st = (f e st).map fun p => .rt p.1 p.2 := rfl
@[simp] theorem r_xsExpr : xsExpr f e st = (f e st).map fun p => .nx e p.2 := rfl
@[simp] theorem r_xsIf : xsIf c a b e st = (c e st).bind fun p => if p.1 then a e p.2 else b e p.2 := rfl
@[simp] theorem r_name : xgName n t e st = some (e.set n (some t), st) := rfl
@[simp] theorem r_add : addT (.int i) (.int j) st = some (.int (i + j), st) := rfl
@[simp] theorem r_sub : subT (.int i) (.int j) st = some (.int (i - j), st) := rfl
@[simp] theorem r_neg : negT (.int i) st = some (.int (-i), st) := rfl
@[simp] theorem r_mul : mulT (.int i) (.int j) st = if bitsOk i j then some (.int (i * j), st) else none := rfl
@[simp] theorem r_mod : modT (.int i) (.int j) st = if j ≠ 0 then some (.int (i.fmod j), st) else none := rfl
@[simp] theorem r_fdiv : fdivT (.int i) (.int j) st = if j ≠ 0 ∧ j.natAbs.log2 < 9000 then some (.int (i.fdiv j), st) else none := rfl
@[simp] theorem r_lt : ltT (.int i) (.int j) st = some (.bl (decide (i < j)), st) := rfl
@[simp] theorem r_le : leT (.int i) (.int j) st = some (.bl (decide (i ≤ j)), st) := rfl
@[simp] theorem r_gt : gtT (.int i) (.int j) st = some (.bl (decide (i > j)), st) := rfl
@[simp] theorem r_ge : geT (.int i) (.int j) st = some (.bl (decide (i ≥ j)), st) := rfl
@[simp] theorem r_eq : eqT (.int i) (.int j) st = some (.bl (decide (i = j)), st) := rfl
@[simp] theorem r_tup : tupT ts st = if ts.length ≤ sizeLine then some (.tup ts, st) else none := rfl
@[simp] theorem r_lst : lstT ts st = if ts.length ≤ sizeLine then some (.ref st.length, st ++ [.lst ts]) else none := rfl
@[simp] theorem r_abs : absT [.int i] st = some (.int (if i < 0 then -i else i), st) := rfl
@[simp] theorem r_gcd : gcdT [.int i, .int j] st = some (.int ((Nat.gcd i.natAbs j.natAbs : Nat) : Int), st) := rfl
@[simp] theorem r_intT : intT [.int i] st = some (.int i, st) := rfl
@[simp] theorem r_ixTup : ixA (.tup ts) (.int i) st = (atI ts i).map fun t => (t, st) := rfl
theorem r_ixLst (hl : st[n]? = some (.lst ts)) : ixA (.ref n) (.int i) st = (atI ts i).map fun t => (t, st) := by
  unfold ixA dAt ixT
  simp [hl]
@[simp] theorem r_at0 {α : Type} (x : α) (xs : List α) : atI (x :: xs) 0 = some x := atI_nat (j := 0) rfl
@[simp] theorem r_at1 {α : Type} (x y : α) (xs : List α) : atI (x :: y :: xs) 1 = some y := atI_nat (j := 1) rfl
@[simp] theorem r_at2 {α : Type} (x y z : α) (xs : List α) : atI (x :: y :: z :: xs) 2 = some z := atI_nat (j := 2) rfl
@[simp] theorem r_at3 {α : Type} (x y z u : α) (xs : List α) : atI (x :: y :: z :: u :: xs) 3 = some u := atI_nat (j := 3) rfl
theorem size1 (h : n ≤ 1000) : n ≤ sizeLine := Nat.le_of_lt (small1000 h)
@[simp] theorem sz0 : 0 ≤ sizeLine := Nat.zero_le _
@[simp] theorem sz1 : 0 + 1 ≤ sizeLine := by decide
@[simp] theorem sz1' : 1 ≤ sizeLine := by decide
@[simp] theorem sz2 : 0 + 1 + 1 ≤ sizeLine := by decide
@[simp] theorem sz2' : 2 ≤ sizeLine := by decide
end TL
/-! TL26 -/
set_option Elab.async false
set_option linter.all false
set_option maxRecDepth 100000
set_option maxHeartbeats 4000000
/-! loops and comprehensions by an invariant -/
namespace TL
open PySem L2
section
variable {it : Its1} {g : XG} {b : XS} {ts : List T} {fi : XI} {e : Env1} {st s1 : Store}
theorem forL_inv (P : Nat → Env1 → Store → Prop) (hit : ∀ k e s, P k e s → it s = some ts)
    (hs : ∀ k e s x, ts[k]? = some x → P k e s → ∃ e1 s1 o e' s', g x e s = some (e1, s1) ∧ b e1 s1 = some o ∧ (o = .nx e' s' ∨ o = .ct e' s') ∧ P (k + 1) e' s') :
    ∀ (n k : Nat) (e : Env1) (s : Store), P k e s → k ≤ ts.length → ts.length - k < n → ∃ e' s', forL it g b n k e s = some (.nx e' s') ∧ P ts.length e' s'
  | 0, k, e, s, _, _, h => by omega
  | n + 1, k, e, s, hP, hk, hn => by
    unfold forL
    rw [hit k e s hP]
    simp only [Option.bind_some]
    cases hx : ts[k]? with
    | none =>
      have : ts.length ≤ k := List.getElem?_eq_none_iff.mp hx
      have hkk : k = ts.length := by omega
      subst hkk
      exact ⟨e, s, by simp, hP⟩
    | some x =>
      have hlt := (List.getElem?_eq_some_iff.mp hx).1
      obtain ⟨e1, s1, o, e', s', h1, h2, h3, h4⟩ := hs k e s x hx hP
      obtain ⟨e2, s2, h5, h6⟩ := forL_inv P hit hs n (k + 1) e' s' h4 (by omega) (by omega)
      refine ⟨e2, s2, ?_, h6⟩
      simp only [h1, Option.bind_some, h2]
      rcases h3 with rfl | rfl <;> exact h5
theorem for_inv (P : Nat → Env1 → Store → Prop) (hfi : fi e st = some (it, s1)) (hit : ∀ k e s, P k e s → it s = some ts) (h0 : P 0 e s1)
    (hs : ∀ k e s x, ts[k]? = some x → P k e s → ∃ e1 s1 o e' s', g x e s = some (e1, s1) ∧ b e1 s1 = some o ∧ (o = .nx e' s' ∨ o = .ct e' s') ∧ P (k + 1) e' s') :
    ∃ e' s', xsFor fi g b e st = some (.nx e' s') ∧ P ts.length e' s' := by
  obtain ⟨e', s', h1, h2⟩ := forL_inv P hit hs (ts.length + 1) 0 e s1 h0 (Nat.zero_le _) (by omega)
  refine ⟨e', s', ?_, h2⟩
  unfold xsFor
  simp only [hfi, Option.bind_some, hit 0 e s1 h0]
  exact h1
end
section
variable {it : Its1} {g : XG} {tt : XT} {te : XE} {ts : List T} {fi : XI} {e : Env1} {st s1 : Store} {vs : List Nat} {l : Nat}
theorem lcL_inv (P : Nat → List T → Store → Prop) (hl : ∀ k acc s, P k acc s → s[l]? = some (.lst acc) ∧ acc.length ≤ k) (hit : ∀ k acc s, P k acc s → it s = some ts) (hlen : ts.length ≤ 1000)
    (hs : ∀ k acc s x, ts[k]? = some x → P k acc s → ∃ e1 s1 s2 s3 y, g x e s = some (e1, s1) ∧ tt e1 s1 = some (true, s2) ∧ te e1 s2 = some (y, s3) ∧ s3[l]? = some (.lst acc) ∧ P (k + 1) (acc ++ [y]) (s3.set l (.lst (acc ++ [y])))) :
    ∀ (n k : Nat) (acc : List T) (s : Store), P k acc s → k ≤ ts.length → ts.length - k < n → ∃ acc' s', lcL it g tt te l n k e s = some s' ∧ P ts.length acc' s'
  | 0, k, acc, s, _, _, h => by omega
  | n + 1, k, acc, s, hP, hk, hn => by
    unfold lcL
    rw [hit k acc s hP]
    simp only [Option.bind_some]
    cases hx : ts[k]? with
    | none =>
      have : ts.length ≤ k := List.getElem?_eq_none_iff.mp hx
      have hkk : k = ts.length := by omega
      subst hkk
      exact ⟨acc, s, by simp, hP⟩
    | some x =>
      have hlt := (List.getElem?_eq_some_iff.mp hx).1
      obtain ⟨e1, s1, s2, s3, y, h1, h2, h3, h4, h5⟩ := hs k acc s x hx hP
      obtain ⟨acc', s', h6, h7⟩ := lcL_inv P hl hit hlen hs n (k + 1) _ _ h5 (by omega) (by omega)
      have ha := (hl k acc s hP).2
      have hz : acc.length < sizeLine := small1000 (by omega)
      refine ⟨acc', s', ?_, h7⟩
      simp only [h1, Option.bind_some, h2, if_true, h3, h4, hz]
      exact h6
theorem lc_inv (P : Nat → List T → Store → Prop) (hfi : fi e st = some (it, s1)) (hl : ∀ k acc s, P k acc s → s[s1.length]? = some (.lst acc) ∧ acc.length ≤ k) (hit : ∀ k acc s, P k acc s → it s = some ts) (hlen : ts.length ≤ 1000) (h0 : P 0 [] (s1 ++ [.lst []]))
    (hs : ∀ k acc s x, ts[k]? = some x → P k acc s → ∃ e1 s2 s3 s4 y, g x (wipeE e vs) s = some (e1, s2) ∧ tt e1 s2 = some (true, s3) ∧ te e1 s3 = some (y, s4) ∧ s4[s1.length]? = some (.lst acc) ∧ P (k + 1) (acc ++ [y]) (s4.set s1.length (.lst (acc ++ [y])))) :
    ∃ acc s, xLc fi g vs tt te e st = some (.ref s1.length, s) ∧ P ts.length acc s := by
  obtain ⟨acc, s, h1, h2⟩ := lcL_inv P hl hit hlen hs (ts.length + 1) 0 [] _ h0 (Nat.zero_le _) (by omega)
  refine ⟨acc, s, ?_, h2⟩
  unfold xLc
  simp only [hfi, Option.bind_some, hit 0 [] _ h0, h1, Option.map_some]
/-- each item by a function, nothing else changes -/
theorem lc_map {i : Nat} (f : T → T) (hfi : fi e st = some (it, s1)) (hit : ∀ acc, it (s1 ++ [.lst acc]) = some ts) (hlen : ts.length ≤ 1000) (hte : ∀ x ∈ ts, ∀ acc, te ((wipeE e vs).set i (some x)) (s1 ++ [.lst acc]) = some (f x, s1 ++ [.lst acc])) :
    xLc fi (xgName i) vs xYes te e st = some (.ref s1.length, s1 ++ [.lst (ts.map f)]) := by
  have key := lc_inv (g := xgName i) (tt := xYes) (te := te) (vs := vs) (ts := ts) (fun k acc s => acc = (ts.take k).map f ∧ s = s1 ++ [.lst acc] ∧ k ≤ ts.length) hfi (fun k acc s h => by
      obtain ⟨h1, h2, h3⟩ := h
      subst h2
      refine ⟨by rw [List.getElem?_append_right (Nat.le_refl _)]; simp, by rw [h1]; simp; omega⟩)
    (fun k acc s h => by obtain ⟨h1, h2, h3⟩ := h; subst h2; exact hit _) hlen ⟨by simp, rfl, Nat.zero_le _⟩
    (fun k acc s x hx h => by
      obtain ⟨h1, h2, h3⟩ := h
      subst h2
      have hlt := (List.getElem?_eq_some_iff.mp hx).1
      have hm : x ∈ ts := List.mem_of_getElem? hx
      refine ⟨_, _, _, _, _, rfl, rfl, hte x hm acc, by rw [List.getElem?_append_right (Nat.le_refl _)]; simp, ?_, ?_, by omega⟩
      · rw [h1, List.take_add_one, hx]; simp
      · rw [List.set_append_right _ _ (Nat.le_refl _)]; simp)
  obtain ⟨acc, s, h1, h2, h3, h4⟩ := key
  rw [h1, h3, h2, List.take_length]
end
end TL
/-! TL27 -/
set_option Elab.async false
set_option linter.all false
set_option maxRecDepth 100000
set_option maxHeartbeats 4000000
set_option exponentiation.threshold 4000
/-! comprehensions with a condition, dict comprehensions by a fold, data by sizes that add up -/
namespace TL
open PySem L2
section
variable {it : Its1} {tt : XT} {te tk tv : XE} {ts : List T} {fi : XI} {g : XG} {e : Env1} {st s1 : Store} {vs : List Nat} {i : Nat}
theorem last_get {s1 : Store} {o : Ob} : (s1 ++ [o])[s1.length]? = some o := by rw [List.getElem?_append_right (Nat.le_refl _)]; simp
theorem last_set {s1 : Store} {o o2 : Ob} : (s1 ++ [o]).set s1.length o2 = s1 ++ [o2] := by rw [List.set_append_right _ _ (Nat.le_refl _)]; simp
theorem lcL_fm (p : T → Bool) (f : T → T) (hit : ∀ acc, it (s1 ++ [.lst acc]) = some ts) (hlen : ts.length ≤ 1000)
    (ht : ∀ x ∈ ts, ∀ acc, tt (e.set i (some x)) (s1 ++ [.lst acc]) = some (p x, s1 ++ [.lst acc]))
    (hte : ∀ x ∈ ts, p x = true → ∀ acc, te (e.set i (some x)) (s1 ++ [.lst acc]) = some (f x, s1 ++ [.lst acc])) :
    ∀ (n k : Nat) (acc : List T), k ≤ ts.length → ts.length - k < n → acc.length ≤ k → lcL it (xgName i) tt te s1.length n k e (s1 ++ [.lst acc]) = some (s1 ++ [.lst (acc ++ ((ts.drop k).filter p).map f)])
  | 0, k, acc, _, h, _ => by omega
  | n + 1, k, acc, hk, hn, ha => by
    unfold lcL
    rw [hit acc]
    simp only [Option.bind_some]
    cases hx : ts[k]? with
    | none =>
      have : ts.length ≤ k := List.getElem?_eq_none_iff.mp hx
      have hkk : k = ts.length := by omega
      subst hkk
      simp
    | some x =>
      have hlt := (List.getElem?_eq_some_iff.mp hx).1
      have hm : x ∈ ts := List.mem_of_getElem? hx
      have hd : ts.drop k = x :: ts.drop (k + 1) := by
        rw [List.drop_eq_getElem_cons hlt]
        congr 1
        exact (List.getElem?_eq_some_iff.mp hx).2
      have hz : acc.length < sizeLine := small1000 (by omega)
      simp only [xgName, Option.bind_some, ht x hm acc]
      cases hp : p x with
      | true =>
        have h := lcL_fm p f hit hlen ht hte n (k + 1) (acc ++ [f x]) (by omega) (by omega) (by simp; omega)
        simp only [if_true, hte x hm hp acc, Option.bind_some, last_get, hz, last_set]
        rw [h, hd, List.filter_cons_of_pos hp]
        simp
      | false =>
        have h := lcL_fm p f hit hlen ht hte n (k + 1) acc (by omega) (by omega) (by omega)
        simp only [Bool.false_eq_true, if_false]
        rw [h, hd, List.filter_cons_of_neg (by simp [hp])]
theorem lc_fm (p : T → Bool) (f : T → T) (hfi : fi e st = some (it, s1)) (hit : ∀ acc, it (s1 ++ [.lst acc]) = some ts) (hlen : ts.length ≤ 1000)
    (ht : ∀ x ∈ ts, ∀ acc, tt ((wipeE e vs).set i (some x)) (s1 ++ [.lst acc]) = some (p x, s1 ++ [.lst acc]))
    (hte : ∀ x ∈ ts, p x = true → ∀ acc, te ((wipeE e vs).set i (some x)) (s1 ++ [.lst acc]) = some (f x, s1 ++ [.lst acc])) :
    xLc fi (xgName i) vs tt te e st = some (.ref s1.length, s1 ++ [.lst ((ts.filter p).map f)]) := by
  unfold xLc
  simp only [hfi, Option.bind_some, hit [], lcL_fm p f hit hlen ht hte (ts.length + 1) 0 [] (Nat.zero_le _) (by omega) (Nat.le_refl _), Option.map_some, List.nil_append, List.drop_zero]
theorem storeK_len (kvs : List (Key × T)) (k : Key) (u : T) : (storeK kvs k u).length ≤ kvs.length + 1 := by
  unfold storeK
  split <;> simp
theorem dcL_fold (key : T → Key) (val : T → T) (hit : ∀ kvs, it (s1 ++ [.dK kvs]) = some ts) (hlen : ts.length ≤ 1000)
    (hs : ∀ x ∈ ts, ∀ kvs, ∃ e1 tk1, g x e (s1 ++ [.dK kvs]) = some (e1, s1 ++ [.dK kvs]) ∧ tk e1 (s1 ++ [.dK kvs]) = some (tk1, s1 ++ [.dK kvs]) ∧ toKy tk1 = some (key x) ∧ tv e1 (s1 ++ [.dK kvs]) = some (val x, s1 ++ [.dK kvs])) :
    ∀ (n k : Nat) (kvs : List (Key × T)), k ≤ ts.length → ts.length - k < n → kvs.length ≤ k → dcL it g xYes tk tv s1.length n k e (s1 ++ [.dK kvs]) = some (s1 ++ [.dK ((ts.drop k).foldl (fun kvs x => storeK kvs (key x) (val x)) kvs)])
  | 0, k, kvs, _, h, _ => by omega
  | n + 1, k, kvs, hk, hn, ha => by
    unfold dcL
    rw [hit kvs]
    simp only [Option.bind_some]
    cases hx : ts[k]? with
    | none =>
      have : ts.length ≤ k := List.getElem?_eq_none_iff.mp hx
      have hkk : k = ts.length := by omega
      subst hkk
      simp
    | some x =>
      have hlt := (List.getElem?_eq_some_iff.mp hx).1
      have hm : x ∈ ts := List.mem_of_getElem? hx
      have hd : ts.drop k = x :: ts.drop (k + 1) := by
        rw [List.drop_eq_getElem_cons hlt]
        congr 1
        exact (List.getElem?_eq_some_iff.mp hx).2
      have hz : kvs.length < sizeLine := small1000 (by omega)
      obtain ⟨e1, tk1, h1, h2, h3, h4⟩ := hs x hm kvs
      have hl := storeK_len kvs (key x) (val x)
      have h := dcL_fold key val hit hlen hs n (k + 1) (storeK kvs (key x) (val x)) (by omega) (by omega) (by omega)
      simp only [h1, Option.bind_some, xYes, if_true, h2, h4, last_get, h3, hz, last_set]
      rw [hd, List.foldl_cons]
      exact h
theorem dc_fold (key : T → Key) (val : T → T) (hfi : fi e st = some (it, s1)) (hit : ∀ kvs, it (s1 ++ [.dK kvs]) = some ts) (hlen : ts.length ≤ 1000)
    (hs : ∀ x ∈ ts, ∀ kvs, ∃ e1 tk1, g x (wipeE e vs) (s1 ++ [.dK kvs]) = some (e1, s1 ++ [.dK kvs]) ∧ tk e1 (s1 ++ [.dK kvs]) = some (tk1, s1 ++ [.dK kvs]) ∧ toKy tk1 = some (key x) ∧ tv e1 (s1 ++ [.dK kvs]) = some (val x, s1 ++ [.dK kvs])) :
    xDcK fi g vs xYes tk tv e st = some (.ref s1.length, s1 ++ [.dK (ts.foldl (fun kvs x => storeK kvs (key x) (val x)) [])]) := by
  unfold xDcK
  simp only [hfi, Option.bind_some, hit [], dcL_fold key val hit hlen hs (ts.length + 1) 0 [] (Nat.zero_le _) (by omega) (Nat.le_refl _), Option.map_some, List.drop_zero]
end
/-- data that repr shows and == compares, by sizes that add up -/
structure Nic (k W : Nat) (d : PyData) : Prop where
  lay : d.canLay0 = true
  sh : d.showable = true
  dp : d.depth ≤ k
  lv : d.leavesShort 600 = true
  wt : d.weight ≤ W
structure NicAll (k W : Nat) (ds : List PyData) : Prop where
  lay : PyData.canLayAll0 ds = true
  sh : PyData.showableAll ds = true
  dp : PyData.depthAll ds ≤ k
  lv : PyData.leavesShortAll 600 ds = true
  wt : PyData.weightAll ds ≤ W
section
variable {k k' W W' : Nat} {d : PyData} {ds : List PyData}
theorem Nic.up (h : Nic k W d) (hk : k ≤ k') (hw : W ≤ W') : Nic k' W' d := ⟨h.lay, h.sh, Nat.le_trans h.dp hk, h.lv, Nat.le_trans h.wt hw⟩
theorem NicAll.up (h : NicAll k W ds) (hk : k ≤ k') (hw : W ≤ W') : NicAll k' W' ds := ⟨h.lay, h.sh, Nat.le_trans h.dp hk, h.lv, Nat.le_trans h.wt hw⟩
theorem NicAll.nil : NicAll k 0 [] := ⟨rfl, rfl, Nat.zero_le _, rfl, Nat.le_refl _⟩
theorem NicAll.cons (h : Nic k W d) (g : NicAll k W' ds) : NicAll k (W + 1 + W') (d :: ds) := by
  refine ⟨?_, ?_, ?_, ?_, ?_⟩
  · simp only [PyData.canLayAll0, h.lay, g.lay, Bool.and_self]
  · simp only [PyData.showableAll, h.sh, g.sh, Bool.and_self]
  · simp only [PyData.depthAll]; exact Nat.max_le.mpr ⟨h.dp, g.dp⟩
  · simp only [PyData.leavesShortAll, h.lv, g.lv, Bool.and_self]
  · simp only [PyData.weightAll]; have := h.wt; have := g.wt; omega
theorem NicAll.list (h : NicAll k W ds) : Nic (k + 1) W (.list ds) := by
  refine ⟨?_, ?_, ?_, ?_, ?_⟩
  · simp only [PyData.canLay0, h.lay]
  · simp only [PyData.showable, h.sh]
  · simp only [PyData.depth]; have := h.dp; omega
  · simp only [PyData.leavesShort, h.lv]
  · simp only [PyData.weight]; exact h.wt
theorem NicAll.tuple (h : NicAll k W ds) : Nic (k + 1) W (.tuple ds) := by
  refine ⟨?_, ?_, ?_, ?_, ?_⟩
  · simp only [PyData.canLay0, h.lay]
  · simp only [PyData.showable, h.sh]
  · simp only [PyData.depth]; have := h.dp; omega
  · simp only [PyData.leavesShort, h.lv]
  · simp only [PyData.weight]; exact h.wt
theorem NicAll.map {α : Type} (f : α → PyData) : ∀ (qs : List α), (∀ q ∈ qs, Nic k W (f q)) → NicAll k (qs.length * (W + 1)) (qs.map f)
  | [], _ => by simpa using NicAll.nil
  | q :: qs, h => by
    have := (h q List.mem_cons_self).up (Nat.le_refl _) (Nat.le_refl _)
    have g := NicAll.map f qs fun x hx => h x (List.mem_cons_of_mem _ hx)
    exact (NicAll.cons this g).up (Nat.le_refl _) (by rw [List.length_cons, Nat.succ_mul]; omega)
theorem nic_bool (b : Bool) : Nic k 0 (.bool b) := ⟨rfl, rfl, Nat.zero_le _, rfl, Nat.le_refl _⟩
theorem nic_none : Nic k 0 .none := ⟨rfl, rfl, Nat.zero_le _, rfl, Nat.le_refl _⟩
theorem nic_int {i : Int} (h : i.natAbs < 2 ^ 1900) : Nic k 1901 (.int i) := by
  have hl : i.natAbs.log2 ≤ 1900 := by
    by_cases ha : i.natAbs = 0
    · rw [ha]; simp
    · have h1 : 2 ^ i.natAbs.log2 ≤ i.natAbs := Nat.log2_self_le ha
      have h3 : 2 ^ i.natAbs.log2 < 2 ^ 1900 := Nat.lt_of_le_of_lt h1 h
      exact Nat.le_of_lt ((Nat.pow_lt_pow_iff_right (by decide : 1 < 2)).mp h3)
  refine ⟨rfl, ?_, Nat.zero_le _, ?_, ?_⟩
  · simp only [PyData.showable, decide_eq_true_eq]; omega
  · simp only [PyData.leavesShort, decide_eq_true_eq]
    have h10 : i.natAbs < 10 ^ 599 := Nat.lt_of_lt_of_le h (by decide +kernel)
    have e := int_text_length_le10 (k := 599) (by decide) h10
    show (Str.ofString (toString i)).length ≤ 600
    rw [ofString_length]; exact e
  · simp only [PyData.weight]; split <;> omega
theorem nic_int_of {i : Int} {b : Nat} (h : i.natAbs < 2 ^ b) (hb : b ≤ 1900) : Nic k (b + 1) (.int i) := by
  have h0 := nic_int (k := k) (Nat.lt_of_lt_of_le h (Nat.pow_le_pow_right (by decide) hb))
  refine ⟨h0.lay, h0.sh, h0.dp, h0.lv, ?_⟩
  simp only [PyData.weight]
  split
  · omega
  · rename_i hz
    have ha : i.natAbs ≠ 0 := by
      intro e
      apply hz
      have : i = 0 := by omega
      subst this; rfl
    have h1 : 2 ^ i.natAbs.log2 ≤ i.natAbs := Nat.log2_self_le ha
    have h3 : 2 ^ i.natAbs.log2 < 2 ^ b := Nat.lt_of_le_of_lt h1 h
    have := (Nat.pow_lt_pow_iff_right (by decide : 1 < 2)).mp h3
    omega
theorem Nic.fits (h : Nic k W d) (hw : W ≤ 25000) : d.shown.length ≤ sizeLine := by
  have e := PyData.shown_le 600 (by decide) d h.lv
  have h2 : (600 + 2) * d.weight ≤ 602 * 25000 := Nat.mul_le_mul_left _ (Nat.le_trans h.wt hw)
  rw [sizeLine_eq]
  omega
theorem Nic.shaped (h : Nic k W d) (hk : k ≤ 60) : SeqAt.shaped d = true := by
  unfold SeqAt.shaped
  rw [h.lay, Bool.true_and, decide_eq_true_eq]
  have := h.dp; omega
theorem Nic.nd (h : Nic k W d) : d.hasDict = false := PyData.hasDict_of_canLay d h.lay
end
theorem optAll_map {α β : Type} {f : T → Option β} {g : α → T} {h : α → β} : ∀ {qs : List α}, (∀ q ∈ qs, f (g q) = some (h q)) → optAll f (qs.map g) = some (qs.map h)
  | [], _ => rfl
  | q :: qs, e => by
    have h1 := e q List.mem_cons_self
    have h2 := optAll_map (qs := qs) fun x hx => e x (List.mem_cons_of_mem _ hx)
    simp only [List.map_cons, optAll, h1, h2]
end TL
/-! TL28 -/
set_option Elab.async false
set_option linter.all false
/-! one statement after the other -/
namespace TL
open PySem L2
section
variable {a b : XS} {c : XT} {e e' : Env1} {st st' : Store} {r : Option Out} {t : T}
theorem sq (h : a e st = some (.nx e' st')) (h2 : b e' st' = r) : xsSeq a b e st = r := by
  simp only [r_xsSeq, h, Option.bind_some, h2]
theorem sqr (h : a e st = some (.rt t st')) : xsSeq a b e st = some (.rt t st') := by
  simp only [r_xsSeq, h, Option.bind_some]
theorem if_no (h : c e st = some (false, st')) (h2 : b e st' = r) : xsIf c a b e st = r := by
  simp [h, h2]
theorem if_yes (h : c e st = some (true, st')) (h2 : a e st' = r) : xsIf c a b e st = r := by
  simp [h, h2]
theorem fn_ret {k n : Nat} {B : XS} {ts : List T} (hk : ts.length = k) (h : B (ts.map some ++ List.replicate (n - k) none) st = some (.rt t st')) : fnF k n B ts st = some (t, st') := by
  subst hk
  unfold fnF
  rw [if_pos rfl, h]; rfl
theorem fn_nx {k n : Nat} {B : XS} {ts : List T} (hk : ts.length = k) (h : B (ts.map some ++ List.replicate (n - k) none) st = some (.nx e st')) : fnF k n B ts st = some (.non, st') := by
  subst hk
  unfold fnF
  rw [if_pos rfl, h]; rfl
end
end TL
/-! TL29 -/
set_option Elab.async false
set_option linter.all false
set_option maxRecDepth 100000
set_option maxHeartbeats 4000000
/-! methods of dicts; list of a dict; is None; isinstance -/
namespace TL
variable [Tb]
open PySem PySem.Spec PyProof.Rows L2
/-! ### a receiver of either kind -/
def tyX (X : Cx) (Ty : String) (x : V) (H : Hp) : Prop := tyV X.K Ty x H ∨ (Ty = "dict" ∧ ∃ (a : Addr) (xs : List (NestedKey × Addr × V)), x = .ref a ∧ H a = some (dnO (kx X) a xs))
section
variable {X : Cx}
theorem tyX_is {pins : List (Addr × Obj)} {σ : St} {H : Hp} {s : Shared} {Ty : String} {x : V} {v : Value} (I : Inv X pins σ H s) (r : RelV x v) (ty : tyX X Ty x H) :
    s.TypeIs v Ty ∧ ∀ a, v = .ref a → ∃ ob, s.heap.get? a = some ob ∧ ob.dict = none := by
  rcases ty with ty | ⟨rfl, a, xs, rfl, e⟩
  · exact tyV_is I r ty
  · cases r
    obtain ⟨⟨_, _, _, _, ob, _, _, g1, g2, _⟩, _⟩ := I.hok a _ e
    refine ⟨⟨ob, g1, g2.1⟩, fun b eb => ?_⟩
    cases eb
    exact ⟨ob, g1, g2.2.1⟩
def tBX (X : Cx) (Ty : String) (r : V → List V → Hp → VK → Prop) (to : TE) (t : TA) : TE := fun σ H Q => to σ H fun x H1 => tyX X Ty x H1 ∧ t σ H1 fun us H2 => r x us H2 Q
theorem pe_bmX {o e : Expr} {es : List Expr} {to : TE} {t : TA} {name : Str} {ap cp : Pos} {Ty id : String} {r : V → List V → Hp → VK → Prop} (pa : PlainAttrs Ty) (sl : Slot Ty name id) (ht : typeOf (.builtin id) = pure (.type "method_descriptor")) (hm : MtR X id r) (ho : PE X o to) (ha : PA X (e :: es) t)
    (g1 : attributeBase o name X.env (eval o X.env) = eval o X.env)
    (g2 : ((backTo cp (starEach (e :: es) X.env)).all (fun x => !x.1) && (backToKw cp (keywordEach [] X.env)).all (fun x => x.1.isSome) && decide ((e :: es).length + ([] : List Keyword).length + (if ([] : List Keyword).isEmpty then 0 else 1) < 30)) = true)
    (g3 : (ap.endLine == cp.line) = true) (g4 : starEach (e :: es) X.env = (false, eval e X.env) :: starEach es X.env) (g5 : (backTo cp (starEach es X.env)).any (·.1) = false) :
    PE X (.Call (.Attribute o name ap) (e :: es) [] cp) (tBX X Ty r to t) := by
  refine ⟨fun pins s σ H Q I h => ?_⟩
  refine wpAny_Call_method_late g1 g2 g3 rfl (thn (ho.run pins s σ H _ I h) fun v s1 ⟨x, H1, I1, rv, ty, q1⟩ => ?_)
  have hty := tyX_is I1 rv ty
  refine ⟨Ty, id, pa, sl, ht, hty.1, hty.2, ?_⟩
  have run := ha.run cp pins s1 σ H1 _ I1 q1
  rw [g4] at run ⊢
  have np : (false || (backTo cp (starEach es X.env)).any (·.1)) = false := by rw [g5]; rfl
  exact Calls.callWith_builtin np (Calls.evalArgs_plain (thn run fun us s2 ⟨vs, H2, I2, rs, q2⟩ => hm pins s2 σ H2 x vs v us Q I2 rv rs q2))
end
/-- the receiver's type, dicts of either kind among them -/
def isTyX (Ty : String) (t : T) (st : Store) : Bool := match t with
  | .ref l => match st[l]? with
    | some (.dN _) => Ty == "dict"
    | _ => isTy Ty t st
  | _ => isTy Ty t st
def xMethX (Ty : String) (f : FM) (a : XE) (r : XA) : XE := fun e st => (a e st).bind fun p => if isTyX Ty p.1 p.2 then (r e p.2).bind fun q => f p.1 q.1 q.2 else none
def getOrT : FM := fun x ts st => match ts with
  | [k, d] => (dAt x st).bind fun o => (dLook o.2 k).map fun r => (r.getD d, st)
  | _ => none
def setdefT : FM := fun x ts st => match ts with
  | [k, d] => (dAt x st).bind fun o => (dLook o.2 k).bind fun r => match r with
    | some u => some (u, st)
    | none => (dStore o.2 k d).map fun n => (d, st.set o.1 n)
  | _ => none
section
variable {X : Cx} {o e : Expr} {es : List Expr} {fa : XE} {fr : XA} {name : Str} {apos cpos : Pos} {Ty id : String} {f : FM}
theorem isTyX_ok {ρ : List Addr} {st : Store} {H : Hp} {t : T} {v : V} (w : Wd (kx X) ρ st H) (r : Rep (kx X) H ρ t v) (h : isTyX Ty t st = true) : tyX X Ty v H := by
  unfold isTyX at h
  split at h
  · split at h
    · rename_i hl
      obtain ⟨a, xs, rfl, _, d⟩ := dN_at w r hl
      exact .inr ⟨eq_of_beq h, a, xs, rfl, d.h⟩
    · exact .inl (isTy_ok w r h)
  · exact .inl (isTy_ok w r h)
theorem et_methX (pa : PlainAttrs Ty) (slot : Slot Ty name id) (hty : typeOf (.builtin id) = pure (.type "method_descriptor")) (hm : MtT X Ty id f) (ho : ET X o fa) (ha : AT X (e :: es) fr)
    (g1 : attributeBase o name X.env (eval o X.env) = eval o X.env := by rfl)
    (g2 : ((backTo cpos (starEach (e :: es) X.env)).all (fun x => !x.1) && (backToKw cpos (keywordEach [] X.env)).all (fun x => x.1.isSome) && decide ((e :: es).length + ([] : List Keyword).length + (if ([] : List Keyword).isEmpty then 0 else 1) < 30)) = true := by rfl)
    (g3 : (apos.endLine == cpos.line) = true := by rfl) (g4 : starEach (e :: es) X.env = (false, eval e X.env) :: starEach es X.env := by rfl) (g5 : (backTo cpos (starEach es X.env)).any (·.1) = false := by rfl) :
    ET X (.Call (.Attribute o name apos) (e :: es) [] cpos) (xMethX Ty f fa fr) := by
  intro env st ρ σ H t st' s w e1 Q q
  unfold xMethX at e1
  cases h : fa env st with
  | none => simp [h] at e1
  | some p =>
    obtain ⟨x, s1⟩ := p
    simp only [h, Option.bind_some] at e1
    split at e1
    · rename_i hi
      cases h2 : fr env s1 with
      | none => simp [h2] at e1
      | some p =>
        obtain ⟨ts, s2⟩ := p
        simp only [h2, Option.bind_some] at e1
        refine We.of (pe_bmX pa slot hty MtU.ok We.pe Wa.pa g1 g2 g3 g4 g5) ?_
        refine ho env st ρ σ H x s1 s w h _ fun v H1 ρ1 f1 w1 r1 => ⟨isTyX_ok w1 r1 hi, ?_⟩
        refine ha env s1 ρ1 σ H1 ts s2 (s.up f1) w1 h2 _ fun vs H2 ρ2 f2 w2 r2 => ?_
        exact hm ρ2 s2 H2 x ts t st' v vs w2 (r1.up f2) r2 e1 Q (q.up (f1.trans f2))
    · cases e1
/-! ### get -/
theorem mt_getK (hu : X.A.units + 1 < cLine) : MtR X "dict.get" (fun x us H Q => ∃ a y d o, x = .ref a ∧ us = [y, d] ∧ DGet H a y o ∧ Q (o.getD d) H) := by
  intro pins s σ H x us v vs Q I rx rs h
  obtain ⟨a, y, d, o, rfl, rfl, g, q⟩ := h
  cases rx
  obtain ⟨u1, u2, rfl, r1, r2⟩ := vals2 rs
  exact d_get2 hu I g r1 r2 fun w' s' I' rw' => ⟨_, H, I', rw', q⟩
theorem mt_getN (hu : X.A.units + 64 < cLine) : MtR X "dict.get" (fun x us H Q => ∃ a b ρ kvs xs t k u d v, x = .ref a ∧ us = [.ref b, v] ∧ DnAt X H ρ a kvs xs ∧ toNK nkd t = some k ∧ Rep (kx X) H ρ t (.ref b) ∧ Rep (kx X) H ρ d v ∧ (lookD kvs k).getD d = u ∧ ∀ v, Rep (kx X) H ρ u v → Q v H) := by
  intro pins s σ H x us v0 vs Q I rx rs h
  obtain ⟨a, b, ρ, kvs, xs, t, k, u, d, v, rfl, rfl, dn, hk, rb, rd, hl, q⟩ := h
  cases rx
  obtain ⟨u1, u2, rfl, r1, r2⟩ := vals2 rs
  cases r1
  obtain ⟨z, hsm, ys, p, dh⟩ := dn_heap I dn.h dn.r
  refine getOr_keyed (nroom hu _ _) (nk_key I hk rb) hsm ⟨ys, dh, rfl⟩ ?_
  cases hc : lookD kvs k with
  | none =>
    rw [hc] at hl
    rw [look_none dn.r p hc]
    subst hl
    exact ⟨v, H, I.tok _, r2, q v rd⟩
  | some u0 =>
    rw [hc] at hl
    obtain ⟨v1, w1, h1, h2, h3⟩ := look_all dn.r p hc
    rw [h1]
    have hl2 : u0 = u := hl
    subst hl2
    exact ⟨v1, H, I.tok _, h2, q v1 h3⟩
theorem mm_getOr (hu : X.A.units + 65 < cLine) : MtT X "dict" "dict.get" getOrT := by
  intro ρ st H x ts t st' vx vs w rx rs e Q q
  unfold getOrT at e
  split at e
  · rename_i k0 d0
    cases h : dAt x st with
    | none => simp [h] at e
    | some d =>
      obtain ⟨l, ob⟩ := d
      obtain ⟨rfl, hl⟩ := dAt_inv h
      simp only [h, Option.bind_some] at e
      cases rs with
      | cons r1 rs =>
        cases rs with
        | cons r2 rs =>
          cases rs
          cases h2 : dLook ob k0 with
          | none => simp [h2] at e
          | some r =>
            simp only [h2, Option.map_some] at e
            cases e
            cases ob with
            | lst ts => cases h2
            | dK kvs =>
              simp only [dLook] at h2
              cases h3 : toKy k0 with
              | none => simp [h3] at h2
              | some k =>
                simp only [h3, Option.map_some, Option.some.injEq] at h2
                obtain ⟨a, kws, rfl, ha, h4, r4⟩ := dK_at w rx hl
                refine ⟨_, mt_getK (by omega), a, _, _, valV kws k, rfl, rfl, by rw [ky_rep h3 r1]; exact .k h4, ?_⟩
                have l4 := r4.look k
                rw [h2] at l4
                cases c2 : valV kws k with
                | none =>
                  rw [c2] at l4
                  cases r with
                  | none => exact q _ _ _ (Fut.refl _ _) w r2
                  | some u => exact l4.elim
                | some v =>
                  rw [c2] at l4
                  cases r with
                  | none => exact l4.elim
                  | some u => exact q _ _ _ (Fut.refl _ _) w l4
            | dN kvs =>
              simp only [dLook] at h2
              split at h2
              · rename_i ht
                cases h3 : toNK nkd k0 with
                | none => simp [h3] at h2
                | some k =>
                  simp only [h3, Option.map_some, Option.some.injEq] at h2
                  obtain ⟨a, xs, rfl, ha, d⟩ := dN_at w rx hl
                  obtain ⟨b, rfl⟩ := tup_ref ht r1
                  exact ⟨_, mt_getN (by omega), a, b, ρ, kvs, xs, k0, k, _, d0, _, rfl, rfl, d, h3, r1, r2, by rw [h2], fun v r => q _ _ _ (Fut.refl _ _) w r⟩
              · cases h2
  · cases e
/-! ### setdefault -/
theorem mt_setdefK : MtR X "dict.setdefault" (fun x us H Q => ∃ a kws k v, x = .ref a ∧ us = [kV k, v] ∧ H a = some (.dK kws) ∧ (valV kws k = none → kws.length < sizeLine) ∧ (∀ u, valV kws k = some u → Q u H) ∧ (valV kws k = none → Q v (upd H a (.dK (putK kws k v))))) := by
  intro pins s σ H x us v0 vs Q I rx rs h
  obtain ⟨a, kws, k, v, rfl, rfl, ha, hz, q1, q2⟩ := h
  cases rx
  obtain ⟨u1, u2, rfl, r1, r2⟩ := vals2 rs
  obtain ⟨z, hd, ws, rel, dd⟩ := dk_of I.hok ha
  have hz2 : ws.length ≤ sizeLine := by rw [← rel.length]; exact z
  have rr := rel.val k
  refine call_meetsIn F.slot_dict_setdefault dd.typeIs F.entry_dict_setdefault (F.args_dict_setdefault_3 _ _ _) (kt_meets_setdefault (mixKind X.prog X.w) a (kV_is r1) hd u2) ⟨ws, dd, hz2, fun u hu => ?_, fun hn h' dd' hs => ?_⟩
  · rw [hu] at rr
    cases hv : valV kws k with
    | none => rw [hv] at rr; exact rr.elim
    | some y =>
      rw [hv] at rr
      exact ⟨y, H, I.tok _, rr, q1 y hv⟩
  · rw [hn] at rr
    cases hv : valV kws k with
    | some y => rw [hv] at rr; exact rr.elim
    | none =>
      have hl2 : (putK kws k v).length ≤ sizeLine := by have := length_putK kws k v; have := hz hv; omega
      have he : ∃ ob, h'.get? a = some ob := by
        obtain ⟨ob, _, _, g, _⟩ := dd'
        exact ⟨ob, g⟩
      exact ⟨v, _, d_write (t' := s.toks + 1) I (by rw [ha]; trivial) hs he (dk_new hl2 hd (rel.put k r2) dd'), r2, q2 hv⟩
theorem mt_setdefN (hu : X.A.units + 64 < cLine) : MtR X "dict.setdefault" (fun x us H Q => ∃ a b ρ kvs xs t k v, x = .ref a ∧ us = [.ref b, v] ∧ DnAt X H ρ a kvs xs ∧ toNK nkd t = some k ∧ Rep (kx X) H ρ t (.ref b) ∧ (lookD kvs k = none → xs.length < sizeLine) ∧ (∀ u, lookD kvs k = some u → ∀ v, Rep (kx X) H ρ u v → Q v H) ∧ (lookD kvs k = none → Q v (upd H a (dnO (kx X) a (storeX xs k b v))))) := by
  intro pins s σ H x us v0 vs Q I rx rs h
  obtain ⟨a, b, ρ, kvs, xs, t, k, v, rfl, rfl, dn, hk, rb, hz, q1, q2⟩ := h
  cases rx
  obtain ⟨u1, u2, rfl, r1, r2⟩ := vals2 rs
  cases r1
  obtain ⟨z, hsm, ys, p, dh⟩ := dn_heap I dn.h dn.r
  have hl : ys.length = xs.length := by
    have := congrArg List.length (erel_keys p)
    simpa using this
  have l1 := repd_look k dn.r
  have l2 := erel_look k p
  refine call_setdefault_heap (hsz := by rw [hl]; omega) (nroom hu _ _) (nk_key I hk rb) hsm dh (fun y hy => ?_) fun hn h' dh' sb => ?_
  · rw [hy] at l2
    cases h2 : (xs.find? fun x => decide (x.1 = k)) with
    | none => rw [h2] at l2; exact l2.elim
    | some x =>
      rw [h2] at l1 l2
      cases h3 : lookD kvs k with
      | none => rw [h3] at l1; exact l1.elim
      | some u =>
        rw [h3] at l1
        exact ⟨x.2.2, H, I.tok _, l2, q1 u h3 _ l1.2⟩
  · rw [hn] at l2
    have h2 : (xs.find? fun x => decide (x.1 = k)) = none := by
      cases h2 : (xs.find? fun x => decide (x.1 = k)) with
      | none => rfl
      | some x => rw [h2] at l2; exact l2.elim
    rw [h2] at l1
    have h3 : lookD kvs k = none := by
      cases h3 : lookD kvs k with
      | none => rfl
      | some u => rw [h3] at l1; exact l1.elim
    have he : ∃ ob, h'.get? a = some ob := by
      obtain ⟨ob, _, _, g, _⟩ := dh'
      exact ⟨ob, g⟩
    refine ⟨v, _, I.write (x := a) (e := a) (o := dnO (kx X) a (storeX xs k b v)) (t' := s.toks + _) (by rw [dn.h]; trivial) (.inl rfl) (fun b' ob hb e => (sb.2 b' hb).trans e) he ?_, r2, q2 h3⟩
    exact dn_obj (Nat.le_trans (storeX_len xs k b v) (hz h3)) hsm (erel_store p r2) dh'
theorem mm_setdef (hu : X.A.units + 65 < cLine) : MtT X "dict" "dict.setdefault" setdefT := by
  intro ρ st H x ts t st' vx vs w rx rs e Q q
  unfold setdefT at e
  split at e
  · rename_i k0 d0
    cases h : dAt x st with
    | none => simp [h] at e
    | some d =>
      obtain ⟨l, ob⟩ := d
      obtain ⟨rfl, hl⟩ := dAt_inv h
      simp only [h, Option.bind_some] at e
      cases rs with
      | @cons _ vk _ _ r1 rs =>
        cases rs with
        | @cons _ vd _ _ r2 rs =>
          cases rs
          cases h2 : dLook ob k0 with
          | none => simp [h2] at e
          | some r =>
            simp only [h2, Option.bind_some] at e
            cases ob with
            | lst ts => cases h2
            | dK kvs =>
              simp only [dLook] at h2
              cases h3 : toKy k0 with
              | none => simp [h3] at h2
              | some k =>
                simp only [h3, Option.map_some, Option.some.injEq] at h2
                obtain ⟨a, kws, rfl, ha, h4, r4⟩ := dK_at w rx hl
                have l4 := r4.look k
                rw [h2] at l4
                refine ⟨_, mt_setdefK, a, kws, k, vd, rfl, by rw [ky_rep h3 r1], h4, fun hn => ?_, fun u hu => ?_, fun hn => ?_⟩
                · rw [hn] at l4
                  cases r with
                  | some u1 => exact l4.elim
                  | none =>
                    by_cases hz : kvs.length < sizeLine
                    · rw [← r4.len]; exact hz
                    · simp only [dStore, hz, if_false, Option.map_none] at e
                      cases e
                · rw [hu] at l4
                  cases r with
                  | none => exact l4.elim
                  | some u1 =>
                    cases e
                    exact q _ _ _ (Fut.refl _ _) w l4
                · rw [hn] at l4
                  cases r with
                  | some u1 => exact l4.elim
                  | none =>
                    by_cases hz : kvs.length < sizeLine
                    · simp only [dStore, hz, if_true, h3, Option.map_some, Option.some.injEq, Prod.mk.injEq] at e
                      obtain ⟨rfl, rfl⟩ := e
                      obtain ⟨u0, h0, i0⟩ := w.there ha
                      have f0 : Fut H (upd H a (.dK (putK kws k vd))) ρ ρ := ⟨Ext.mut h0 i0, [], by simp⟩
                      have r5 := (r4.put (k := k) r2).up f0
                      obtain ⟨w1, f⟩ := w.put (o := .dK (storeK kvs k d0)) ha ⟨putK kws k vd, upd_same, r5.k, r5.v⟩
                      exact q _ _ _ f w1 (r2.up f0)
                    · simp only [dStore, hz, if_false, Option.map_none] at e
                      cases e
            | dN kvs =>
              simp only [dLook] at h2
              split at h2
              · rename_i ht
                cases h3 : toNK nkd k0 with
                | none => simp [h3] at h2
                | some k =>
                  simp only [h3, Option.map_some, Option.some.injEq] at h2
                  obtain ⟨a, xs, rfl, ha, d⟩ := dN_at w rx hl
                  obtain ⟨b, rfl⟩ := tup_ref ht r1
                  refine ⟨_, mt_setdefN (by omega), a, b, ρ, kvs, xs, k0, k, vd, rfl, rfl, d, h3, r1, fun hn => ?_, fun u hu v rv => ?_, fun hn => ?_⟩
                  · rw [h2] at hn
                    subst hn
                    by_cases hz : kvs.length < sizeLine
                    · rw [← repd_len d.r]; exact hz
                    · simp only [dStore, hz, false_and, if_false, Option.map_none] at e
                      cases e
                  · rw [h2] at hu
                    subst hu
                    cases e
                    exact q _ _ _ (Fut.refl _ _) w rv
                  · rw [h2] at hn
                    subst hn
                    by_cases hz : kvs.length < sizeLine
                    · simp only [dStore, hz, ht, and_self, if_true, h3, Option.map_some, Option.some.injEq, Prod.mk.injEq] at e
                      obtain ⟨rfl, rfl⟩ := e
                      obtain ⟨u0, h0, i0⟩ := w.there ha
                      have f0 : Fut H (upd H a (dnO (kx X) a (storeX xs k b vd))) ρ ρ := ⟨Ext.mut h0 i0, [], by simp⟩
                      obtain ⟨w1, f⟩ := w.put (o := .dN (storeD kvs k0 k d0)) ha ⟨_, upd_same, (repd_store d.r h3 r1 r2).up f0⟩
                      exact q _ _ _ f w1 (r2.up f0)
                    · simp only [dStore, hz, false_and, if_false, Option.map_none] at e
                      cases e
              · cases h2
  · cases e
/-! ### the list of a dict's keys -/
theorem erel_refs : ∀ {xs : List (NestedKey × Addr × V)} {ys : List (NestedKey × Addr × Value)}, Paired ERel xs ys → Vals (xs.map fun x => V.ref x.2.1) (ys.map fun y => Value.ref y.2.1)
  | _, _, .nil => .nil
  | _, _, .cons a b => .cons (congrArg Value.ref a.2.1.symm) (erel_refs b)
theorem call_listN (hc : X.calm = true) : CallR X (.type "list") (fun us H Q => ∃ a ρ kvs xs, us = [V.ref a] ∧ DnAt X H ρ a kvs xs ∧ ∀ p, H p = none → Q (.ref p) (upd H p (.lst (xs.map fun x => V.ref x.2.1)))) := by
  intro pins s σ H vs us Q I r h
  obtain ⟨a, ρ, kvs, xs, rfl, dn, q⟩ := h
  obtain ⟨u, rfl, rx⟩ := vals1 r
  cases rx
  obtain ⟨⟨z, hs, ys, p, ob, es, ep, g1, g2, g3, g4, g5⟩, _⟩ := I.hok a _ dn.h
  have hl : ys.length = xs.length := by
    have := congrArg List.length (erel_keys p)
    simpa using this
  have hes : es.size = ys.length := size_of_entries g4
  refine PySem.W.kdl_call (kdl_raw hs g2 g3) (I.ok.hd hc) g1 (by omega) fun h' tk acc c' kp e it => ?_
  have ea : acc.toList = ys.map fun y => Value.ref y.2.1 := by
    have hla : acc.toList.length = ys.length := by rw [Array.length_toList, it.1]; exact hes
    refine List.ext_getElem? fun j => ?_
    rw [List.getElem?_map]
    cases hj : acc.toList[j]? with
    | none =>
      have hge : ys.length ≤ j := by have := List.getElem?_eq_none_iff.mp hj; omega
      rw [List.getElem?_eq_none hge]; rfl
    | some v =>
      obtain ⟨en, hen, hv⟩ := it.2 j v (by rw [← Array.getElem?_toList]; exact hj)
      have qe := entry_at g4 j
      rw [hen] at qe
      cases hb : ys[j]? with
      | none => rw [hb] at qe; cases qe
      | some y =>
        rw [hb] at qe
        have e2 : en = entryOfKey (nestedKind X.prog X.w) y := Option.some.inj qe
        rw [hv, e2]; rfl
  have hv : Vals (xs.map fun x => V.ref x.2.1) acc.toList := by rw [ea]; exact erel_refs p
  refine ⟨.ref s.heap.objs.size, _, I.laid (t' := tk) (o := .lst (xs.map fun x => V.ref x.2.1)) kp (Nat.le_refl _) ⟨by rw [List.length_map]; exact z, acc.toList, c', hv, by rw [Array.toArray_toList]; exact e⟩, rfl, q _ (I.hok.fresh (Nat.le_refl _))⟩
def listDT : FA := fun ts st => match ts with
  | [.ref l] => match st[l]? with
    | some (.dN kvs) => some (.ref st.length, st ++ [.lst (kvs.map (·.1))])
    | some (.dK kvs) => some (.ref st.length, st ++ [.lst (kvs.map fun p => unKy p.1)])
    | _ => listT ts st
  | _ => listT ts st
theorem repd_firsts {K : KX} {H : Hp} {ρ : List Addr} {kvs : List (T × T)} {xs : List (NestedKey × Addr × V)} (r : RepD K H ρ kvs xs) : Reps K H ρ (kvs.map (·.1)) (xs.map fun x => V.ref x.2.1) := by
  induction r with
  | nil => exact .nil
  | cons a b c d ih => exact .cons b ih
theorem un_reps {K : KX} {H : Hp} {ρ : List Addr} : ∀ {kvs : List (Key × T)} {kws : List (Key × V)}, kvs.map (·.1) = kws.map (·.1) → Reps K H ρ (kvs.map fun p => unKy p.1) (kws.map fun p => kV p.1)
  | [], [], _ => .nil
  | [], _ :: _, h => by cases h
  | _ :: _, [], h => by cases h
  | p :: kvs, q :: kws, h => by
    rw [List.map_cons, List.map_cons] at h
    injection h with h1 h2
    rw [List.map_cons, List.map_cons, h1]
    exact .cons (un_rep q.1) (un_reps h2)
theorem ct_listD (hc : X.calm = true) : CallT X (.type "list") listDT := by
  intro ρ st H ts t st' vs w rs e Q q
  unfold listDT at e
  split at e
  · split at e
    · rename_i hl
      cases e
      cases rs with
      | cons r1 r2 =>
        cases r2
        obtain ⟨a, xs, rfl, _, d⟩ := dN_at w r1 hl
        exact ⟨_, call_listN hc, a, ρ, _, xs, rfl, d, fun p hp => new_lst w (repd_firsts d.r) q hp⟩
    · rename_i hl
      cases e
      cases rs with
      | cons r1 r2 =>
        cases r2
        obtain ⟨a, kws, rfl, _, h4, r4⟩ := dK_at w r1 hl
        exact ⟨_, call_list_dK hc, a, kws, rfl, h4, fun p hp => new_lst w (un_reps r4.k) q hp⟩
    · exact ct_list ρ st H _ t st' vs w rs e Q q
  · exact ct_list ρ st H _ t st' vs w rs e Q q
/-! ### is None -/
def isNon : T → Bool
  | .non => true
  | _ => false
def isNT (neg : Bool) : F2 := fun x y st => if isNon y then some (.bl (if neg then !isNon x else isNon x), st) else none
theorem isNon_rep {K : KX} {H : Hp} {ρ : List Addr} {t : T} {v : V} (r : Rep K H ρ t v) : decide (v = V.non) = isNon t := by
  cases r <;> first | rfl | exact decide_eq_false (fun z => by cases z)
theorem ot_is : OpT X (compareOp .Is) (isNT false) := by
  intro ρ st H x y t st' vx vy w rx ry e Q q
  unfold isNT at e
  split at e
  · rename_i hy
    cases e
    have hv : vy = V.non := of_decide_eq_true ((isNon_rep ry).trans hy)
    refine ⟨_, op_isN, hv, ?_⟩
    rw [isNon_rep rx]
    exact q _ _ _ (Fut.refl _ _) w (.bl _)
  · cases e
theorem ot_isnot : OpT X (compareOp .IsNot) (isNT true) := by
  intro ρ st H x y t st' vx vy w rx ry e Q q
  unfold isNT at e
  split at e
  · rename_i hy
    cases e
    have hv : vy = V.non := of_decide_eq_true ((isNon_rep ry).trans hy)
    refine ⟨_, op_notN, hv, ?_⟩
    rw [isNon_rep rx]
    exact q _ _ _ (Fut.refl _ _) w (.bl _)
  · cases e
end
end TL
/-! TL30 -/
set_option Elab.async false
set_option linter.all false
set_option maxRecDepth 100000
set_option maxHeartbeats 4000000
/-! isinstance of one built-in type -/
namespace TL
variable [Tb]
open PySem PySem.Spec PyProof.Rows L2
/-- the type of what a tree is -/
def kindT (t : T) (st : Store) : Option String := match t with
  | .non => some "NoneType"
  | .bl _ => some "bool"
  | .int _ => some "int"
  | .str _ => some "str"
  | .tup _ => some "tuple"
  | .rdl _ => some "list"
  | .ref l => match st[l]? with
    | some (.lst _) => some "list"
    | some (.dK _) => some "dict"
    | _ => none
def xIsi (n : String) (f : XE) : XE := fun e st => (f e st).bind fun p => (kindT p.1 p.2).bind fun a => (kitB a n).map fun b => (.bl b, p.2)
section
variable {X : Cx}
theorem kindT_ok {ρ : List Addr} {st : Store} {H : Hp} {t : T} {v : V} {n : String} (w : Wd (kx X) ρ st H) (r : Rep (kx X) H ρ t v) (h : kindT t st = some n) : TyX X.K H v (.type n) := by
  cases r with
  | non => cases h; exact .base .non
  | bl b => cases h; exact .base (.bl b)
  | int i => cases h; exact .base (.int i)
  | str x => cases h; exact .base (.str x)
  | @tup a vs ts hs rr =>
    cases h
    rcases hs with hs | ⟨o, its, m, g1, g2, _⟩
    · rcases hs with hs | ⟨o, hs⟩
      · exact .base (.tup hs)
      · exact .fTuple hs
    · exact .kTuple g1 g2
  | @rdl ns a hs =>
    cases h
    rcases hs with ⟨o, hs⟩ | hs
    · exact .base (.frz hs)
    · rcases hs (fun _ => none) with hs | hs
      · rcases hs with hs | ⟨o, hs⟩
        · cases hs
        · cases hs
      · obtain ⟨o, its, m, g1, g2, _⟩ := hs
        exact .kList g1 g2
  | @ref l a ha =>
    simp only [kindT] at h
    split at h
    · rename_i hl
      cases h
      obtain ⟨vs, h1, _⟩ := w.addr hl ha
      exact .base (.lst h1)
    · rename_i hl
      cases h
      obtain ⟨kws, h1, _⟩ := w.addr hl ha
      exact .base (.dK h1)
    · cases h
end
@[simp] theorem kb_NoneType_int : kitB "NoneType" "int" = some false := by decide +kernel
@[simp] theorem kb_NoneType_bool : kitB "NoneType" "bool" = some false := by decide +kernel
@[simp] theorem kb_NoneType_tuple : kitB "NoneType" "tuple" = some false := by decide +kernel
@[simp] theorem kb_NoneType_list : kitB "NoneType" "list" = some false := by decide +kernel
@[simp] theorem kb_NoneType_dict : kitB "NoneType" "dict" = some false := by decide +kernel
@[simp] theorem kb_NoneType_str : kitB "NoneType" "str" = some false := by decide +kernel
@[simp] theorem kb_bool_int : kitB "bool" "int" = some true := by decide +kernel
@[simp] theorem kb_bool_bool : kitB "bool" "bool" = some true := by decide +kernel
@[simp] theorem kb_bool_tuple : kitB "bool" "tuple" = some false := by decide +kernel
@[simp] theorem kb_bool_list : kitB "bool" "list" = some false := by decide +kernel
@[simp] theorem kb_bool_dict : kitB "bool" "dict" = some false := by decide +kernel
@[simp] theorem kb_bool_str : kitB "bool" "str" = some false := by decide +kernel
@[simp] theorem kb_int_int : kitB "int" "int" = some true := by decide +kernel
@[simp] theorem kb_int_bool : kitB "int" "bool" = some false := by decide +kernel
@[simp] theorem kb_int_tuple : kitB "int" "tuple" = some false := by decide +kernel
@[simp] theorem kb_int_list : kitB "int" "list" = some false := by decide +kernel
@[simp] theorem kb_int_dict : kitB "int" "dict" = some false := by decide +kernel
@[simp] theorem kb_int_str : kitB "int" "str" = some false := by decide +kernel
@[simp] theorem kb_str_int : kitB "str" "int" = some false := by decide +kernel
@[simp] theorem kb_str_bool : kitB "str" "bool" = some false := by decide +kernel
@[simp] theorem kb_str_tuple : kitB "str" "tuple" = some false := by decide +kernel
@[simp] theorem kb_str_list : kitB "str" "list" = some false := by decide +kernel
@[simp] theorem kb_str_dict : kitB "str" "dict" = some false := by decide +kernel
@[simp] theorem kb_str_str : kitB "str" "str" = some true := by decide +kernel
@[simp] theorem kb_tuple_int : kitB "tuple" "int" = some false := by decide +kernel
@[simp] theorem kb_tuple_bool : kitB "tuple" "bool" = some false := by decide +kernel
@[simp] theorem kb_tuple_tuple : kitB "tuple" "tuple" = some true := by decide +kernel
@[simp] theorem kb_tuple_list : kitB "tuple" "list" = some false := by decide +kernel
@[simp] theorem kb_tuple_dict : kitB "tuple" "dict" = some false := by decide +kernel
@[simp] theorem kb_tuple_str : kitB "tuple" "str" = some false := by decide +kernel
@[simp] theorem kb_list_int : kitB "list" "int" = some false := by decide +kernel
@[simp] theorem kb_list_bool : kitB "list" "bool" = some false := by decide +kernel
@[simp] theorem kb_list_tuple : kitB "list" "tuple" = some false := by decide +kernel
@[simp] theorem kb_list_list : kitB "list" "list" = some true := by decide +kernel
@[simp] theorem kb_list_dict : kitB "list" "dict" = some false := by decide +kernel
@[simp] theorem kb_list_str : kitB "list" "str" = some false := by decide +kernel
@[simp] theorem kb_dict_int : kitB "dict" "int" = some false := by decide +kernel
@[simp] theorem kb_dict_bool : kitB "dict" "bool" = some false := by decide +kernel
@[simp] theorem kb_dict_tuple : kitB "dict" "tuple" = some false := by decide +kernel
@[simp] theorem kb_dict_list : kitB "dict" "list" = some false := by decide +kernel
@[simp] theorem kb_dict_dict : kitB "dict" "dict" = some true := by decide +kernel
@[simp] theorem kb_dict_str : kitB "dict" "str" = some false := by decide +kernel
section
variable {X : Cx} {e : Expr} {fe : XE} {x : Str} {n : String} {p q pos : Pos}
theorem et_isi (ha : ET X e fe) (hm : X.mg "isinstance" = none) (ht : X.mg x = none) (hb : bootBuiltins x = some (.type n)) (hx : x ≠ "__name__" := by decide +kernel) (hd : (x == ("__debug__" : Str)) = false := by decide +kernel)
    (hg : Gl X "isinstance" := by rfl) (hg2 : Gl X x := by rfl) (hv : bootBuiltins "isinstance" = some (.builtin "isinstance") := by decide +kernel)
    (g1 : starEach [e, .Name x q] X.env = (false, eval e X.env) :: starEach [.Name x q] X.env := by rfl) (g2 : starEach [.Name x q] X.env = (false, eval (.Name x q) X.env) :: starEach [] X.env := by rfl)
    (g3 : (backTo pos (starEach [.Name x q] X.env)).any (·.1) = false := by rfl) : ET X (.Call (.Name "isinstance" p) [e, .Name x q] [] pos) (xIsi n fe) := by
  intro env st ρ σ H t st' s w e1 Q qq
  unfold xIsi at e1
  cases h : fe env st with
  | none => simp [h] at e1
  | some pr =>
    obtain ⟨y, s1⟩ := pr
    simp only [h, Option.bind_some] at e1
    cases h2 : kindT y s1 with
    | none => simp [h2] at e1
    | some a =>
      simp only [h2, Option.bind_some] at e1
      cases h3 : kitB a n with
      | none => simp [h3] at e1
      | some b =>
        simp only [h3, Option.map_some, Option.some.injEq, Prod.mk.injEq] at e1
        obtain ⟨rfl, rfl⟩ := e1
        have hn : PE X (.Name x q) (tC (.ty n)) := pe_bltn hg2 ht hb rfl hx hd
        refine We.of (pe_callB call_isi hg hm hv (pa_cons We.pe (pa_cons hn pa_nil g2) g1) (by decide +kernel) (by decide +kernel) g1 g3) ?_
        refine ha env st ρ σ H y s1 s w h _ fun v H1 ρ1 f1 w1 r1 => ?_
        exact ⟨v, .ty n, .type a, .type n, b, rfl, .ty n, kindT_ok w1 r1 h2, kit_ty h3, qq _ _ _ f1 w1 (.bl b)⟩
end
end TL
/-! TL31 -/
set_option Elab.async false
set_option linter.all false
set_option maxRecDepth 100000
set_option maxHeartbeats 4000000
/-! repr of truths, of None and of ints, too -/
namespace TL
variable [Tb]
open PySem PySem.Spec PyProof.Rows L2
def reprU : FA := fun ts st => match ts with
  | [.bl b] => some (.str (if b then "True" else "False"), st)
  | [.non] => some (.str "None", st)
  | [.int i] => if i.natAbs.log2 < 1920 then some (.str (toString i), st) else none
  | _ => reprT ts st
section
variable {X : Cx}
theorem cr_reprB : CallR X (.builtin "repr") (fun us H Q => ∃ b, us = [.bl b] ∧ Q (.str (if b then "True" else "False")) H) := by
  intro pins s σ H vs us Q I r h
  obtain ⟨b, rfl, q⟩ := h
  obtain ⟨u, rfl, ru⟩ := vals1 r
  cases ru
  exact call_repr_gives (T := "bool") (id := "bool.__repr__") (show s.TypeIs (.bool b) "bool" from rfl) F.slot_bool_repr F.entry_bool_repr (F.args_bool_repr_1 _) (gives_bool_repr b) ⟨.str (if b then "True" else "False"), H, I.tok _, ⟨_, rfl⟩, q⟩ rfl (by cases b <;> decide +kernel)
theorem cr_reprN : CallR X (.builtin "repr") (fun us H Q => us = [.non] ∧ Q (.str "None") H) := by
  intro pins s σ H vs us Q I r h
  obtain ⟨rfl, q⟩ := h
  obtain ⟨u, rfl, ru⟩ := vals1 r
  cases ru
  exact call_repr_gives (T := "NoneType") (id := "NoneType.__repr__") (show s.TypeIs .none "NoneType" from rfl) F.slot_NoneType_repr F.entry_NoneType_repr (F.args_NoneType_repr_1 _) gives_none_repr ⟨.str "None", H, I.tok _, ⟨_, rfl⟩, q⟩
theorem ct_reprU (hu : X.A.units + 64 < cLine) (hg : X.A.guards = some []) : CallT X (.builtin "repr") reprU := by
  intro ρ st H ts t st' vs w rs e Q q
  unfold reprU at e
  split at e
  · cases e
    cases rs with
    | cons r1 r2 =>
      cases r2
      cases r1
      exact ⟨_, cr_reprB, _, rfl, q _ _ _ (Fut.refl _ _) w (.str _)⟩
  · cases e
    cases rs with
    | cons r1 r2 =>
      cases r2
      cases r1
      exact ⟨_, cr_reprN, rfl, q _ _ _ (Fut.refl _ _) w (.str _)⟩
  · split at e
    · rename_i hz
      cases e
      cases rs with
      | cons r1 r2 =>
        cases r2
        cases r1
        exact ⟨_, SkE.call_repr_int, _, rfl, hz, q _ _ _ (Fut.refl _ _) w (.str _)⟩
    · cases e
  · exact ct_repr hu hg ρ st H _ t st' vs w rs e Q q
@[simp] theorem reprU_tup {ts : List T} {st : Store} : reprU [.tup ts] st = reprT [.tup ts] st := rfl
@[simp] theorem reprU_ref {l : Nat} {st : Store} : reprU [.ref l] st = reprT [.ref l] st := rfl
end
end TL
/-! D29 -/
set_option Elab.async false
set_option linter.all false
set_option maxRecDepth 100000
set_option maxHeartbeats 4000000
namespace K29
open PySem PySem.Spec PyProof.Rows L2 TL LamX
noncomputable section
variable [Tb]
def top (i : Nat) : Stmt := PySem.Challenge.pw_chancegrain_k29_neighbours_of_numbers.main.body.getD i (.Pass ⟨0, 0, 0, 0⟩)
structure Txt (mg : Str → Option Value) : Prop where
  abs : mg "abs" = none
  all : mg "all" = none
  bool : mg "bool" = none
  gcd : mg "gcd" = some (.builtin "math.gcd")
  int : mg "int" = none
  isinstance : mg "isinstance" = none
  lcm : mg "lcm" = some (.builtin "math.lcm")
  len : mg "len" = none
  list : mg "list" = none
  max : mg "max" = none
  range : mg "range" = none
  repr : mg "repr" = none
  sorted : mg "sorted" = none
  sum : mg "sum" = none
  tuple : mg "tuple" = none
abbrev fr (p : Int × Int) : T := .tup [.int p.1, .int p.2]
/-- the sign of the second one on the greatest common divisor -/
def sg (d g : Int) : Int := if d < 0 then -g else g
def nf (n d : Int) : Int × Int := (n.fdiv (sg d (Nat.gcd n.natAbs d.natAbs : Nat)), d.fdiv (sg d (Nat.gcd n.natAbs d.natAbs : Nat)))
/-- sizes of fractions that occur -/
def small (d : Int) : Bool := decide (d.natAbs.log2 < 8000)
theorem log2_mono {a b : Nat} (h : a ≤ b) : a.log2 ≤ b.log2 := by
  by_cases ha : a = 0
  · subst ha; simp
  · have h1 : 2 ^ a.log2 ≤ a := Nat.log2_self_le ha
    have h2 : b < 2 ^ (b.log2 + 1) := Nat.lt_log2_self
    have h3 : 2 ^ a.log2 < 2 ^ (b.log2 + 1) := by omega
    have := (Nat.pow_lt_pow_iff_right (by decide : 1 < 2)).mp h3
    omega
theorem gcd_log {n d : Int} (hd : d ≠ 0) (hs : d.natAbs.log2 < 9000) : (Nat.gcd n.natAbs d.natAbs).log2 < 9000 := Nat.lt_of_le_of_lt (log2_mono (Nat.gcd_le_right _ (by omega))) hs
theorem abs_nat (i : Int) : (if i < 0 then -i else i) = ((i.natAbs : Nat) : Int) := by
  split <;> omega
abbrev fq (q : Rat) : T := .tup [.int q.num, .int q.den]
theorem nf_rat {n d : Int} (hd : d ≠ 0) : fr (nf n d) = fq (Rat.divInt n d) := by
  have e1 := Rat.num_divInt n d
  have e2 := Rat.den_divInt n d
  rw [if_neg hd] at e2
  have hg : Nat.gcd n.natAbs d.natAbs = d.gcd n := by rw [Int.gcd, Nat.gcd_comm]
  have hdvd : ((d.gcd n : Nat) : Int) ∣ d := Int.gcd_dvd_left _ _
  have hdvn : ((d.gcd n : Nat) : Int) ∣ n := Int.gcd_dvd_right _ _
  have gpos : 0 < d.gcd n := Nat.pos_of_ne_zero fun h => hd (Int.gcd_eq_zero_iff.mp h).1
  obtain ⟨x, hx⟩ := hdvd
  obtain ⟨y, hy⟩ := hdvn
  generalize hgg : d.gcd n = g at *
  have gz : (g : Int) ≠ 0 := by omega
  unfold nf sg
  rw [hg]
  show T.tup [T.int _, T.int _] = T.tup [T.int _, T.int _]
  rw [e1, e2]
  have q1 : n.fdiv (g : Int) = y := by rw [hy, Int.mul_fdiv_cancel_left _ gz]
  have q2 : d.fdiv (g : Int) = x := by rw [hx, Int.mul_fdiv_cancel_left _ gz]
  have q3 : n.fdiv (-(g : Int)) = -y := by rw [hy, show (g : Int) * y = (-(g : Int)) * (-y) by rw [Int.neg_mul_neg], Int.mul_fdiv_cancel_left _ (by omega)]
  have q4 : d.fdiv (-(g : Int)) = -x := by rw [hx, show (g : Int) * x = (-(g : Int)) * (-x) by rw [Int.neg_mul_neg], Int.mul_fdiv_cancel_left _ (by omega)]
  have s1 : ∀ z : Int, ((g : Int) * z) / (g : Int) = z := fun z => Int.mul_ediv_cancel_left _ gz
  have hden : ((d.natAbs / g : Nat) : Int) = if d < 0 then -x else x := by
    rw [Int.natCast_ediv]
    by_cases h : d < 0
    · rw [if_pos h, show ((d.natAbs : Nat) : Int) = (g : Int) * (-x) by rw [Int.mul_neg, ← hx]; omega, s1]
    · rw [if_neg h, show ((d.natAbs : Nat) : Int) = (g : Int) * x by rw [← hx]; omega, s1]
  rw [hden]
  by_cases h : d < 0
  · rw [if_pos h, if_pos h, q3, q4, Int.sign_eq_neg_one_of_neg h, hy, show (-1 : Int) * ((g : Int) * y) = (g : Int) * (-y) by rw [Int.mul_neg]; omega, s1]
  · rw [if_neg h, if_neg h, q1, q2, Int.sign_eq_one_of_pos (by omega), hy, Int.one_mul, s1]
/-- how long a fraction is -/
structure Sz (k : Nat) (q : Rat) : Prop where
  n : q.num.natAbs < 2 ^ k
  d : q.den < 2 ^ k
theorem log2_of {a k : Nat} (h : a < 2 ^ k) : a.log2 ≤ k := by
  by_cases ha : a = 0
  · subst ha; simp
  · have h1 : 2 ^ a.log2 ≤ a := Nat.log2_self_le ha
    have h3 : 2 ^ a.log2 < 2 ^ k := by omega
    exact Nat.le_of_lt ((Nat.pow_lt_pow_iff_right (by decide : 1 < 2)).mp h3)
theorem bits_of {i j : Int} {k : Nat} (hi : i.natAbs < 2 ^ k) (hj : j.natAbs < 2 ^ k) (hk : k ≤ 4000) : bitsOk i j = true := by
  have := log2_of hi
  have := log2_of hj
  exact decide_eq_true (by omega)
theorem mul_log {i j : Int} {k : Nat} (hi : i.natAbs < 2 ^ k) (hj : j.natAbs < 2 ^ k) (hk : k ≤ 4000) : (i * j).natAbs.log2 < 9000 := by
  have h : (i * j).natAbs < 2 ^ (k + k) := by
    rw [Int.natAbs_mul, Nat.pow_add]
    exact Nat.mul_lt_mul'' hi hj
  have := log2_of h
  omega
theorem den_ne (q : Rat) : ((q.den : Nat) : Int) ≠ 0 := by
  have := q.den_nz
  omega
theorem den_mul_ne (p q : Rat) : ((p.den : Nat) : Int) * ((q.den : Nat) : Int) ≠ 0 := Int.mul_ne_zero (den_ne p) (den_ne q)
theorem natAbs_den {q : Rat} {k : Nat} (h : Sz k q) : ((q.den : Nat) : Int).natAbs < 2 ^ k := by rw [Int.natAbs_natCast]; exact h.d
abbrev bagO (a b c : Int) (m : Nat) : Ob := .lst [.int a, .int b, .int c, .ref m]
theorem getA {st g : Store} {l : Nat} {o : Ob} (h : st[l]? = some o) : (st ++ g)[l]? = some o := by
  rw [List.getElem?_append_left (List.getElem?_eq_some_iff.mp h).1]; exact h
theorem set0 {st : Store} {l m : Nat} {a b c x : Int} (h : st[l]? = some (bagO a b c m)) : setA (.ref l) (.int 0) (.int x) st = some (st.set l (bagO x b c m)) := by
  simp [setA, dAt, h, setIxT, ixN, bagO]
theorem set1 {st : Store} {l m : Nat} {a b c x : Int} (h : st[l]? = some (bagO a b c m)) : setA (.ref l) (.int 1) (.int x) st = some (st.set l (bagO a x c m)) := by
  simp [setA, dAt, h, setIxT, ixN, bagO]
theorem lg {st : Store} {l : Nat} {o o2 : Ob} (h : st[l]? = some o) : (st.set l o2)[l]? = some o2 := List.getElem?_set_self (List.getElem?_eq_some_iff.mp h).1
@[simp] theorem r_pow {i j : Int} {st : Store} : powT (.int i) (.int j) st = if 0 ≤ j ∧ j ≤ 1000000 ∧ i.natAbs < 2 ^ 64 then some (.int (i ^ j.toNat), st) else none := rfl
@[simp] theorem r_iadd {i j : Int} {st : Store} : iaddT (.int i) (.int j) st = some (.int (i + j), st) := rfl
theorem aug2 {st : Store} {l m : Nat} {a b c x : Int} (h : st[l]? = some (bagO a b c m)) : setIxT (.ref l) (.int 2) (.int x) st = some (st.set l (bagO a b x m)) := by
  simp [h, setIxT, ixN, bagO]
theorem get2 {st : Store} {l m : Nat} {a b c : Int} (h : st[l]? = some (bagO a b c m)) : getL (.ref l) (.int 2) st = some (.int c) := by
  simp [h, getL, bagO]
theorem cell_of (cs : List Int) (c : Int) : ∃ z, atI (cutG (cs.map T.int) (some c) none ++ [.int 0]) 0 = some (.int z) ∧ (z = 0 ∨ z ∈ cs) := by
  cases h : cutG (cs.map T.int) (some c) none with
  | nil => exact ⟨0, by simp, .inl rfl⟩
  | cons t r =>
    have hm : t ∈ cs.map T.int := by
      have : t ∈ cutG (cs.map T.int) (some c) none := by rw [h]; exact List.mem_cons_self
      unfold cutG at this
      exact List.mem_of_mem_drop (List.mem_of_mem_take this)
    obtain ⟨z, hz, rfl⟩ := List.mem_map.mp hm
    exact ⟨z, by simp, .inr hz⟩
open Classical in
/-- a def whose new objects are forgotten -/
noncomputable def cutF (F : FA) : FA := fun ts st => match F ts st with
  | some (t, st2) => if Cut st t st2 t (st2.take st.length) then some (t, st2.take st.length) else none
  | none => none
theorem cutF_cut {F : FA} : ∀ ts st t st', cutF F ts st = some (t, st') → ∃ t2 st2, F ts st = some (t2, st2) ∧ Cut st t2 st2 t st' := by
  intro ts st t st' e
  unfold cutF at e
  split at e
  · rename_i t2 st2 h
    split at e
    · rename_i hc
      cases e
      exact ⟨_, _, h, hc⟩
    · cases e
  · cases e
theorem cutF_of {F : FA} {ts : List T} {st st2 : Store} {t : T} (h : F ts st = some (t, st2)) (c : Cut st t st2 t (st2.take st.length)) : cutF F ts st = some (t, st2.take st.length) := by
  unfold cutF
  rw [h]
  exact if_pos c
structure BagAt (N : Nat) (st : Store) (l m : Nat) : Prop where
  ex : ∃ (a b c : Int) (cs : List Int), st[l]? = some (bagO a b c m) ∧ st[m]? = some (.lst (cs.map T.int)) ∧ l ≠ m ∧ 0 ≤ a ∧ 0 ≤ b ∧ b < 2147483648 ∧ 0 ≤ c ∧ c ≤ N ∧ (∀ z ∈ cs, 0 ≤ z) ∧ cs.length ≤ 63
/-- only what stands at l has changed -/
structure Only (l : Nat) (st st' : Store) : Prop where
  len : st'.length = st.length
  at_ : ∀ j, j ≠ l → st'[j]? = st[j]?
theorem Only.set {l : Nat} {st : Store} {o : Ob} : Only l st (st.set l o) := ⟨by simp, fun j h => List.getElem?_set_ne (Ne.symm h)⟩
theorem Only.trans {l : Nat} {s1 s2 s3 : Store} (a : Only l s1 s2) (b : Only l s2 s3) : Only l s1 s3 := ⟨b.len.trans a.len, fun j h => (b.at_ j h).trans (a.at_ j h)⟩
theorem Only.refl (l : Nat) (s : Store) : Only l s s := ⟨rfl, fun _ _ => rfl⟩
theorem BagAt.more {N : Nat} {st : Store} {l m : Nat} (h : BagAt N st l m) (g : Store) : BagAt N (st ++ g) l m := by
  obtain ⟨a, b, c, cs, h1, h2, r⟩ := h.ex
  exact ⟨a, b, c, cs, getA h1, getA h2, r⟩
theorem BagAt.up {N M : Nat} {st : Store} {l m : Nat} (h : BagAt N st l m) (hn : N ≤ M) : BagAt M st l m := by
  obtain ⟨a, b, c, cs, h1, h2, h3, h4, h5, h6, h7, h8, h9, h10⟩ := h.ex
  exact ⟨a, b, c, cs, h1, h2, h3, h4, h5, h6, h7, by omega, h9, h10⟩
theorem cut_set {st g : Store} {l m : Nat} {a b c : Int} {v : Int} (hl : l < st.length) (hm : m < st.length) : Cut st (.int v) ((st ++ g).set l (bagO a b c m)) (.int v) (((st ++ g).set l (bagO a b c m)).take st.length) := by
  refine Cut.back (by simp) (fun j o hj h => ?_) rfl
  by_cases e : j = l
  · subst e
    rw [List.getElem?_set_self (by simp; omega)] at h
    cases h
    exact .inr (by simp [obelow, belows, below, hm])
  · rw [List.getElem?_set_ne (Ne.symm e), List.getElem?_append_left hj] at h
    exact .inl h
theorem take_set {st g : Store} {l : Nat} {o : Ob} (hl : l < st.length) : ((st ++ g).set l o).take st.length = st.set l o := by
  rw [List.set_append_left _ _ hl, List.take_left' (by simp)]
/-- what stood stands, but for the bag at l; more may have come -/
structure More (l : Nat) (st st2 : Store) : Prop where
  len : st.length ≤ st2.length
  at_ : ∀ j, j < st.length → j ≠ l → st2[j]? = st[j]?
theorem More.refl (l : Nat) (st : Store) : More l st st := ⟨Nat.le_refl _, fun _ _ _ => rfl⟩
theorem More.trans {l : Nat} {s1 s2 s3 : Store} (a : More l s1 s2) (b : More l s2 s3) : More l s1 s3 := ⟨Nat.le_trans a.len b.len, fun j h n => (b.at_ j (Nat.lt_of_lt_of_le h a.len) n).trans (a.at_ j h n)⟩
theorem More.app (l : Nat) (st g : Store) : More l st (st ++ g) := ⟨by simp, fun j h _ => List.getElem?_append_left h⟩
theorem Only.more {l : Nat} {st st2 : Store} (a : Only l st st2) : More l st st2 := ⟨Nat.le_of_eq a.len.symm, fun j _ n => a.at_ j n⟩
/-- a def that draws, its new objects forgotten -/
theorem cutF_bag {F : FA} {ts : List T} {st st2 : Store} {t : T} {l m N M : Nat} (h : F ts st = some (t, st2)) (b : BagAt N st l m) (b2 : BagAt M st2 l m) (mo : More l st st2) (ht : below st.length t = true) :
    ∃ st', cutF F ts st = some (t, st') ∧ Only l st st' ∧ BagAt M st' l m := by
  obtain ⟨a0, b0, c0, cs0, e1, e2, hlm, _⟩ := b.ex
  obtain ⟨a, b', c, cs, g1, g2, g3⟩ := b2.ex
  have hl := (List.getElem?_eq_some_iff.mp e1).1
  have hm := (List.getElem?_eq_some_iff.mp e2).1
  have c1 : Cut st t st2 t (st2.take st.length) := by
    refine Cut.back mo.len (fun j o hj h => ?_) ht
    by_cases e : j = l
    · subst e
      rw [g1] at h
      cases h
      exact .inr (by simp [obelow, belows, below, hm])
    · rw [mo.at_ j hj e] at h
      exact .inl h
  refine ⟨_, cutF_of h c1, ⟨by rw [List.length_take]; have := mo.len; omega, fun j hn => ?_⟩, ⟨a, b', c, cs, ?_, ?_, g3⟩⟩
  · by_cases hj : j < st.length
    · rw [List.getElem?_take_of_lt hj, mo.at_ j hj hn]
    · rw [List.getElem?_eq_none (by rw [List.length_take]; omega), List.getElem?_eq_none (by omega)]
  · rw [List.getElem?_take_of_lt hl]; exact g1
  · rw [List.getElem?_take_of_lt hm]; exact g2
/-- a quotient of small integers is small -/
theorem sz_div {n d : Int} {k : Nat} (hd : 0 < d) (hn : n.natAbs < 2 ^ k) (hdk : d.natAbs < 2 ^ k) : Sz k (Rat.divInt n d) := by
  have e1 := Rat.num_divInt n d
  have e2 := Rat.den_divInt n d
  rw [if_neg (by omega)] at e2
  rw [Int.sign_eq_one_of_pos hd, Int.one_mul] at e1
  refine ⟨?_, ?_⟩
  · rw [e1]
    refine Nat.lt_of_le_of_lt ?_ hn
    rw [Int.natAbs_ediv_of_dvd (Int.gcd_dvd_right _ _)]
    exact Nat.div_le_self _ _
  · rw [e2]
    exact Nat.lt_of_le_of_lt (Nat.div_le_self _ _) hdk
theorem Sz.up {j k : Nat} {q : Rat} (h : Sz j q) (hjk : j ≤ k) : Sz k q := ⟨Nat.lt_of_lt_of_le h.n (Nat.pow_le_pow_right (by decide) hjk), Nat.lt_of_lt_of_le h.d (Nat.pow_le_pow_right (by decide) hjk)⟩
theorem Sz.add {a b : Nat} {p q : Rat} (hp : Sz a p) (hq : Sz b q) : Sz (a + b + 1) (p + q) := by
  have e : p + q = Rat.divInt (p.num * q.den + q.num * p.den) (p.den * q.den) := by
    rw [← Rat.divInt_add_divInt _ _ (den_ne p) (den_ne q), Rat.num_divInt_den, Rat.num_divInt_den]
  have d0 : 0 < ((p.den : Nat) : Int) * ((q.den : Nat) : Int) := Int.mul_pos (by have := p.den_nz; omega) (by have := q.den_nz; omega)
  have h1 : (p.num * (q.den : Int)).natAbs < 2 ^ (a + b) := by
    rw [Int.natAbs_mul, Int.natAbs_natCast, Nat.pow_add]; exact Nat.mul_lt_mul'' hp.n hq.d
  have h2 : (q.num * (p.den : Int)).natAbs < 2 ^ (a + b) := by
    rw [Int.natAbs_mul, Int.natAbs_natCast, Nat.pow_add, Nat.mul_comm]; exact Nat.mul_lt_mul'' hp.d hq.n
  have h3 : ((p.den : Int) * (q.den : Int)).natAbs < 2 ^ (a + b) := by
    rw [Int.natAbs_mul, Int.natAbs_natCast, Int.natAbs_natCast, Nat.pow_add]; exact Nat.mul_lt_mul'' hp.d hq.d
  have h4 : 2 ^ (a + b + 1) = 2 ^ (a + b) + 2 ^ (a + b) := by rw [Nat.pow_succ]; omega
  rw [e]
  exact sz_div d0 (by omega) (by omega)
theorem Sz.zero : Sz 1 0 := ⟨by decide, by decide⟩
def sumQ (qs : List Rat) : Rat := qs.foldl (· + ·) 0
theorem sumQ_take {qs : List Rat} {i : Nat} {q : Rat} (h : qs[i]? = some q) : sumQ (qs.take (i + 1)) = sumQ (qs.take i) + q := by
  unfold sumQ
  rw [List.take_add_one, h]
  simp [List.foldl_append]
theorem Sz.sum {qs : List Rat} {k : Nat} (h : ∀ q ∈ qs, Sz k q) : ∀ i, i ≤ qs.length → Sz (1 + i * (k + 1)) (sumQ (qs.take i))
  | 0, _ => by simpa [sumQ] using Sz.zero
  | i + 1, hi => by
    have hq := List.getElem?_eq_getElem (show i < qs.length by omega)
    rw [sumQ_take hq]
    have a := (Sz.sum h i (by omega)).add (h _ (List.getElem_mem (show i < qs.length by omega)))
    exact a.up (by rw [Nat.succ_mul]; omega)
abbrev s_reduced : Stmt := top 5
abbrev N_reduced : List Str := ["num", "den", "common"]
abbrev P_reduced : List Str := ["num", "den"]
theorem sc_reduced : FnScope N_reduced P_reduced (defScope s_reduced) := ⟨rfl, rfl, rfl, by decide +kernel, rfl, by decide +kernel, by decide +kernel⟩
def B_reduced : XS := (xsSeq (xsIf (xBl (xBin eqT (xVar 1) (xC (.int 0))))
    xsNever
    xsNil)
    (xsSeq (xsSet 2 (xCall gcdT (xCons (xVar 0) (xCons (xVar 1) xNil))))
    (xsSeq (xsIf (xBl (xBin ltT (xVar 1) (xC (.int 0))))
    (xsSet 2 (xUn negT (xVar 2)))
    xsNil)
    (xsRet (xCall tupT (xCons (xBin fdivT (xVar 0) (xVar 2)) (xCons (xBin fdivT (xVar 1) (xVar 2)) xNil)))))))
def F_reduced : FA := fnF 2 3 B_reduced
def S_reduced : FA := fun ts st => match ts with
  | [.int n, .int d] => if d ≠ 0 ∧ d.natAbs.log2 < 9000 then some (fr (nf n d), st) else none
  | _ => none
theorem run_reduced {n d : Int} {st : Store} (hd : d ≠ 0) (hs : d.natAbs.log2 < 9000) : F_reduced [.int n, .int d] st = some (fr (nf n d), st) := by
  have hg : (Nat.gcd n.natAbs d.natAbs) ≠ 0 := by
    intro h
    have := Nat.eq_zero_of_gcd_eq_zero_right h
    omega
  have hl := gcd_log (n := n) hd hs
  have hneg : ∀ g : Nat, (-(g : Int)).natAbs = g := by intro g; omega
  by_cases h : d < 0
  · simp [F_reduced, B_reduced, fnF, hd, h, nf, sg, hg, hl]
  · simp [F_reduced, B_reduced, fnF, hd, h, nf, sg, hg, hl]
theorem cut_reduced : ∀ ts st t st', S_reduced ts st = some (t, st') → ∃ t2 st2, F_reduced ts st = some (t2, st2) ∧ Cut st t2 st2 t st' := by
  intro ts st t st' e
  unfold S_reduced at e
  split at e
  · split at e
    · rename_i h
      cases e
      exact ⟨_, _, run_reduced h.1 h.2, Cut.refl _ _ _⟩
    · cases e
  · cases e
abbrev s_added : Stmt := top 6
abbrev N_added : List Str := ["one", "other"]
abbrev P_added : List Str := ["one", "other"]
theorem sc_added : FnScope N_added P_added (defScope s_added) := ⟨rfl, rfl, rfl, by decide +kernel, rfl, by decide +kernel, by decide +kernel⟩
def B_added : XS := (xsRet (xCall S_reduced (xCons (xBin addT (xBin mulT (xBin ixA (xVar 0) (xC (.int 0))) (xBin ixA (xVar 1) (xC (.int 1)))) (xBin mulT (xBin ixA (xVar 1) (xC (.int 0))) (xBin ixA (xVar 0) (xC (.int 1))))) (xCons (xBin mulT (xBin ixA (xVar 0) (xC (.int 1))) (xBin ixA (xVar 1) (xC (.int 1)))) xNil))))
def F_added : FA := fnF 2 2 B_added
def S_added : FA := fun ts st => match ts with
  | [.tup [.int a, .int b], .tup [.int c, .int d]] => if bitsOk a d = true ∧ bitsOk c b = true ∧ bitsOk b d = true ∧ b * d ≠ 0 ∧ (b * d).natAbs.log2 < 9000 then some (fr (nf (a * d + c * b) (b * d)), st) else none
  | _ => none
theorem cut_added : ∀ ts st t st', S_added ts st = some (t, st') → ∃ t2 st2, F_added ts st = some (t2, st2) ∧ Cut st t2 st2 t st' := by
  intro ts st t st' e
  unfold S_added at e
  split at e
  · split at e
    · rename_i h
      cases e
      refine ⟨_, _, ?_, Cut.refl _ _ _⟩
      simp [F_added, B_added, fnF, h.1, h.2.1, h.2.2.1, S_reduced, h.2.2.2.1, h.2.2.2.2]
    · cases e
  · cases e
theorem q_added {p q : Rat} {k : Nat} {st : Store} (hp : Sz k p) (hq : Sz k q) (hk : k ≤ 4000) : S_added [fq p, fq q] st = some (fq (p + q), st) := by
  have e : p + q = Rat.divInt (p.num * q.den + q.num * p.den) (p.den * q.den) := by
    rw [← Rat.divInt_add_divInt _ _ (den_ne p) (den_ne q), Rat.num_divInt_den, Rat.num_divInt_den]
  show (if _ then some (fr (nf _ _), st) else none) = _
  rw [if_pos ⟨bits_of hp.n (natAbs_den hq) hk, bits_of hq.n (natAbs_den hp) hk, bits_of (natAbs_den hp) (natAbs_den hq) hk, den_mul_ne p q, mul_log (natAbs_den hp) (natAbs_den hq) hk⟩, nf_rat (den_mul_ne p q), ← e]
abbrev s_lessened : Stmt := top 7
abbrev N_lessened : List Str := ["one", "other"]
abbrev P_lessened : List Str := ["one", "other"]
theorem sc_lessened : FnScope N_lessened P_lessened (defScope s_lessened) := ⟨rfl, rfl, rfl, by decide +kernel, rfl, by decide +kernel, by decide +kernel⟩
def B_lessened : XS := (xsRet (xCall S_reduced (xCons (xBin subT (xBin mulT (xBin ixA (xVar 0) (xC (.int 0))) (xBin ixA (xVar 1) (xC (.int 1)))) (xBin mulT (xBin ixA (xVar 1) (xC (.int 0))) (xBin ixA (xVar 0) (xC (.int 1))))) (xCons (xBin mulT (xBin ixA (xVar 0) (xC (.int 1))) (xBin ixA (xVar 1) (xC (.int 1)))) xNil))))
def F_lessened : FA := fnF 2 2 B_lessened
def S_lessened : FA := fun ts st => match ts with
  | [.tup [.int a, .int b], .tup [.int c, .int d]] => if bitsOk a d = true ∧ bitsOk c b = true ∧ bitsOk b d = true ∧ b * d ≠ 0 ∧ (b * d).natAbs.log2 < 9000 then some (fr (nf (a * d - c * b) (b * d)), st) else none
  | _ => none
theorem cut_lessened : ∀ ts st t st', S_lessened ts st = some (t, st') → ∃ t2 st2, F_lessened ts st = some (t2, st2) ∧ Cut st t2 st2 t st' := by
  intro ts st t st' e
  unfold S_lessened at e
  split at e
  · split at e
    · rename_i h
      cases e
      refine ⟨_, _, ?_, Cut.refl _ _ _⟩
      simp [F_lessened, B_lessened, fnF, h.1, h.2.1, h.2.2.1, S_reduced, h.2.2.2.1, h.2.2.2.2]
    · cases e
  · cases e
theorem q_lessened {p q : Rat} {k : Nat} {st : Store} (hp : Sz k p) (hq : Sz k q) (hk : k ≤ 4000) : S_lessened [fq p, fq q] st = some (fq (p - q), st) := by
  have e : p - q = Rat.divInt (p.num * q.den - q.num * p.den) (p.den * q.den) := by
    rw [← Rat.divInt_sub_divInt _ _ (den_ne p) (den_ne q), Rat.num_divInt_den, Rat.num_divInt_den]
  show (if _ then some (fr (nf _ _), st) else none) = _
  rw [if_pos ⟨bits_of hp.n (natAbs_den hq) hk, bits_of hq.n (natAbs_den hp) hk, bits_of (natAbs_den hp) (natAbs_den hq) hk, den_mul_ne p q, mul_log (natAbs_den hp) (natAbs_den hq) hk⟩, nf_rat (den_mul_ne p q), ← e]
abbrev s_times : Stmt := top 8
abbrev N_times : List Str := ["one", "other"]
abbrev P_times : List Str := ["one", "other"]
theorem sc_times : FnScope N_times P_times (defScope s_times) := ⟨rfl, rfl, rfl, by decide +kernel, rfl, by decide +kernel, by decide +kernel⟩
def B_times : XS := (xsRet (xCall S_reduced (xCons (xBin mulT (xBin ixA (xVar 0) (xC (.int 0))) (xBin ixA (xVar 1) (xC (.int 0)))) (xCons (xBin mulT (xBin ixA (xVar 0) (xC (.int 1))) (xBin ixA (xVar 1) (xC (.int 1)))) xNil))))
def F_times : FA := fnF 2 2 B_times
def S_times : FA := fun ts st => match ts with
  | [.tup [.int a, .int b], .tup [.int c, .int d]] => if bitsOk a c = true ∧ bitsOk b d = true ∧ b * d ≠ 0 ∧ (b * d).natAbs.log2 < 9000 then some (fr (nf (a * c) (b * d)), st) else none
  | _ => none
theorem cut_times : ∀ ts st t st', S_times ts st = some (t, st') → ∃ t2 st2, F_times ts st = some (t2, st2) ∧ Cut st t2 st2 t st' := by
  intro ts st t st' e
  unfold S_times at e
  split at e
  · split at e
    · rename_i h
      cases e
      refine ⟨_, _, ?_, Cut.refl _ _ _⟩
      simp [F_times, B_times, fnF, h.1, h.2.1, S_reduced, h.2.2.1, h.2.2.2]
    · cases e
  · cases e
theorem q_times {p q : Rat} {k : Nat} {st : Store} (hp : Sz k p) (hq : Sz k q) (hk : k ≤ 4000) : S_times [fq p, fq q] st = some (fq (p * q), st) := by
  have e : p * q = Rat.divInt (p.num * q.num) (p.den * q.den) := by
    rw [← Rat.divInt_mul_divInt, Rat.num_divInt_den, Rat.num_divInt_den]
  show (if _ then some (fr (nf _ _), st) else none) = _
  rw [if_pos ⟨bits_of hp.n hq.n hk, bits_of (natAbs_den hp) (natAbs_den hq) hk, den_mul_ne p q, mul_log (natAbs_den hp) (natAbs_den hq) hk⟩, nf_rat (den_mul_ne p q), ← e]
abbrev s_over : Stmt := top 9
abbrev N_over : List Str := ["one", "other"]
abbrev P_over : List Str := ["one", "other"]
theorem sc_over : FnScope N_over P_over (defScope s_over) := ⟨rfl, rfl, rfl, by decide +kernel, rfl, by decide +kernel, by decide +kernel⟩
def B_over : XS := (xsRet (xCall S_reduced (xCons (xBin mulT (xBin ixA (xVar 0) (xC (.int 0))) (xBin ixA (xVar 1) (xC (.int 1)))) (xCons (xBin mulT (xBin ixA (xVar 0) (xC (.int 1))) (xBin ixA (xVar 1) (xC (.int 0)))) xNil))))
def F_over : FA := fnF 2 2 B_over
def S_over : FA := fun ts st => match ts with
  | [.tup [.int a, .int b], .tup [.int c, .int d]] => if bitsOk a d = true ∧ bitsOk b c = true ∧ b * c ≠ 0 ∧ (b * c).natAbs.log2 < 9000 then some (fr (nf (a * d) (b * c)), st) else none
  | _ => none
theorem cut_over : ∀ ts st t st', S_over ts st = some (t, st') → ∃ t2 st2, F_over ts st = some (t2, st2) ∧ Cut st t2 st2 t st' := by
  intro ts st t st' e
  unfold S_over at e
  split at e
  · split at e
    · rename_i h
      cases e
      refine ⟨_, _, ?_, Cut.refl _ _ _⟩
      simp [F_over, B_over, fnF, h.1, h.2.1, S_reduced, h.2.2.1, h.2.2.2]
    · cases e
  · cases e
abbrev s_total_of : Stmt := top 10
abbrev N_total_of : List Str := ["fractions", "common", "_", "den", "num"]
abbrev P_total_of : List Str := ["fractions"]
theorem sc_total_of : FnScope N_total_of P_total_of (defScope s_total_of) := ⟨rfl, rfl, rfl, by decide +kernel, rfl, by decide +kernel, by decide +kernel⟩
def B_total_of : XS := (xsSeq (xsSet 1 (xC (.int 1)))
    (xsSeq (xsFor (xiSeq (xVar 0)) (xgTup 2 (xgsCons (xgName 2) (xgsCons (xgName 3) xgsNil)))
    (xsSet 1 (xCall lcmT (xCons (xVar 1) (xCons (xVar 3) xNil)))))
    (xsRet (xCall S_reduced (xCons (xCall sumT (xCons (xLc (xiSeq (xVar 0)) (xgTup 2 (xgsCons (xgName 4) (xgsCons (xgName 3) xgsNil))) [4, 3] xYes (xBin mulT (xVar 4) (xBin fdivT (xVar 1) (xVar 3)))) xNil)) (xCons (xVar 1) xNil))))))
def F_total_of : FA := fnF 1 5 B_total_of
def lcmQ (qs : List Rat) : Nat := qs.foldl (fun a q => Nat.lcm a q.den) 1
theorem lcmQ_take {qs : List Rat} {i : Nat} {q : Rat} (h : qs[i]? = some q) : lcmQ (qs.take (i + 1)) = Nat.lcm (lcmQ (qs.take i)) q.den := by
  unfold lcmQ
  rw [List.take_add_one, h]
  simp [List.foldl_append]
theorem lcmQ_pos {qs : List Rat} : ∀ i, i ≤ qs.length → 0 < lcmQ (qs.take i)
  | 0, _ => by simp [lcmQ]
  | i + 1, hi => by
    have hq := List.getElem?_eq_getElem (show i < qs.length by omega)
    rw [lcmQ_take hq]
    exact Nat.lcm_pos (lcmQ_pos i (by omega)) (Nat.pos_of_ne_zero (qs[i]).den_nz)
theorem lcmQ_lt {qs : List Rat} {k : Nat} (h : ∀ q ∈ qs, Sz k q) : ∀ i, i ≤ qs.length → lcmQ (qs.take i) ≤ 2 ^ (i * k)
  | 0, _ => by simp [lcmQ]
  | i + 1, hi => by
    have hq := List.getElem?_eq_getElem (show i < qs.length by omega)
    rw [lcmQ_take hq]
    have hm := Nat.mul_le_mul (lcmQ_lt h i (by omega)) (Nat.le_of_lt (h _ (List.getElem_mem (show i < qs.length by omega))).d)
    rw [← Nat.pow_add] at hm
    have hle : Nat.lcm (lcmQ (qs.take i)) (qs[i]).den ≤ lcmQ (qs.take i) * (qs[i]).den := Nat.le_of_dvd (Nat.mul_pos (lcmQ_pos i (by omega)) (Nat.pos_of_ne_zero (qs[i]).den_nz)) (Nat.lcm_dvd (Nat.dvd_mul_right _ _) (Nat.dvd_mul_left _ _))
    rw [Nat.succ_mul]
    exact Nat.le_trans hle hm
theorem lcmQ_dvd {qs : List Rat} {q : Rat} (h : q ∈ qs) : q.den ∣ lcmQ qs := by
  unfold lcmQ
  have gen : ∀ (qs : List Rat) (a : Nat), (a ∣ qs.foldl (fun a q => Nat.lcm a q.den) a) ∧ ∀ q ∈ qs, q.den ∣ qs.foldl (fun a q => Nat.lcm a q.den) a := by
    intro qs
    induction qs with
    | nil => intro a; exact ⟨Nat.dvd_refl _, fun q hq => by cases hq⟩
    | cons p r ih =>
      intro a
      obtain ⟨h1, h2⟩ := ih (Nat.lcm a p.den)
      refine ⟨Nat.dvd_trans (Nat.dvd_lcm_left _ _) h1, fun q hq => ?_⟩
      rcases List.mem_cons.mp hq with rfl | hq
      · exact Nat.dvd_trans (Nat.dvd_lcm_right _ _) h1
      · exact h2 q hq
  exact (gen qs 1).2 q h
def partsQ (L : Nat) (qs : List Rat) : List Int := qs.map fun q => q.num * ((L / q.den : Nat) : Int)
theorem divInt_add {a b L : Int} (hL : L ≠ 0) : Rat.divInt a L + Rat.divInt b L = Rat.divInt (a + b) L := by
  rw [Rat.divInt_add_divInt _ _ hL hL, Rat.divInt_eq_divInt_iff (Int.mul_ne_zero hL hL) hL, ← Int.add_mul, Int.mul_assoc]
theorem parts_sum {L : Nat} (hL : L ≠ 0) : ∀ (qs : List Rat) (a : Int), (∀ q ∈ qs, q.den ∣ L) → Rat.divInt ((partsQ L qs).foldl (· + ·) a) L = qs.foldl (· + ·) (Rat.divInt a L)
  | [], a, _ => rfl
  | q :: r, a, h => by
    have hz : (L : Int) ≠ 0 := by omega
    have e : Rat.divInt (q.num * ((L / q.den : Nat) : Int)) L = q := by
      obtain ⟨c, hc⟩ := h q List.mem_cons_self
      have hd : L / q.den = c := by rw [hc]; exact Nat.mul_div_cancel_left _ (Nat.pos_of_ne_zero q.den_nz)
      have e2 := Rat.num_divInt_den q
      rw [hd]
      refine Eq.trans ?_ e2
      rw [Rat.divInt_eq_divInt_iff hz (den_ne q), hc, Int.natCast_mul, Int.mul_assoc, Int.mul_comm (c : Int)]
    show Rat.divInt ((partsQ L r).foldl (· + ·) (a + q.num * ((L / q.den : Nat) : Int))) L = r.foldl (· + ·) (Rat.divInt a L + q)
    rw [parts_sum hL r _ (fun p hp => h p (List.mem_cons_of_mem _ hp)), ← divInt_add hz, e]
theorem total_prog {x : T} {st : Store} {it : Its1} {qs : List Rat} {k : Nat} (hfi : ∀ e, xiSeq (xVar 0) (some x :: e) st = some (it, st)) (hit : ∀ g, it (st ++ g) = some (qs.map fun q => fq q)) (hq : ∀ q ∈ qs, Sz k q) (hk : 1 + qs.length * (k + 1) ≤ 3000) (hn : qs.length ≤ 1000) :
    ∃ g, F_total_of [x] st = some (fq (sumQ qs), st ++ g) := by
  have hit0 : it st = some (qs.map fun q => fq q) := by simpa using hit []
  have hmul : ∀ i, i ≤ qs.length → i * k ≤ 3000 := fun i hi => by
    have h1 : i * k ≤ qs.length * (k + 1) := Nat.mul_le_mul hi (by omega)
    omega
  have hkk : ∀ q ∈ qs, k ≤ 3000 := fun q hm => by
    have : 1 ≤ qs.length := List.length_pos_of_mem hm
    have h1 : 1 * (k + 1) ≤ qs.length * (k + 1) := Nat.mul_le_mul_right _ this
    omega
  have Llog : ∀ i, i ≤ qs.length → (lcmQ (qs.take i)).log2 ≤ 3000 := fun i hi => by
    have h1 := log2_mono (lcmQ_lt hq i hi)
    have h2 : (2 ^ (i * k)).log2 = i * k := Nat.log2_two_pow
    have := hmul i hi
    omega
  obtain ⟨e', s', h1, h2⟩ := for_inv (g := xgTup 2 (xgsCons (xgName 2) (xgsCons (xgName 3) xgsNil))) (b := xsSet 1 (xCall lcmT (xCons (xVar 1) (xCons (xVar 3) xNil)))) (ts := qs.map fun q => fq q)
    (fun i e s => s = st ∧ i ≤ qs.length ∧ ∃ o2 o3, e = [some x, some (.int ((lcmQ (qs.take i) : Nat) : Int)), o2, o3, none]) (hfi [some (.int 1), none, none, none]) (fun i e s h => by rw [h.1]; exact hit0) ⟨rfl, Nat.zero_le _, none, none, by simp [lcmQ]⟩
    (fun i e s y hy h => by
      obtain ⟨rfl, hi, o2, o3, rfl⟩ := h
      rw [List.getElem?_map] at hy
      cases hqi : qs[i]? with
      | none => rw [hqi] at hy; cases hy
      | some q =>
        rw [hqi] at hy
        cases hy
        have hlt := (List.getElem?_eq_some_iff.mp hqi).1
        have hm := List.mem_of_getElem? hqi
        have zq := hq q hm
        have l1 : (lcmQ (qs.take i)).log2 < 6000 := by have := Llog i (by omega); omega
        have l2 : q.den.log2 < 6000 := by have := log2_of zq.d; have := hkk q hm; omega
        refine ⟨_, _, _, [some x, some (.int ((lcmQ (qs.take (i + 1)) : Nat) : Int)), some (.int q.num), some (.int q.den), none], s, rfl, ?_, .inl rfl, rfl, by omega, _, _, rfl⟩
        simp [lcmT, l1, l2, lcmQ_take hqi])
  obtain ⟨rfl, _, o2, o3, rfl⟩ := h2
  have hl : (qs.map fun q => fq q).length = qs.length := by simp
  rw [hl, List.take_length] at h1
  have Lpos : 0 < lcmQ qs := by simpa using lcmQ_pos qs.length (Nat.le_refl _)
  have LL : (lcmQ qs).log2 ≤ 3000 := by simpa using Llog qs.length (Nat.le_refl _)
  have Llt : lcmQ qs < 2 ^ 3001 := by
    have h3 : lcmQ qs < 2 ^ ((lcmQ qs).log2 + 1) := Nat.lt_log2_self
    exact Nat.lt_of_lt_of_le h3 (Nat.pow_le_pow_right (by decide) (by omega))
  obtain ⟨acc, s2, g1, g2, g3, _⟩ := lc_inv (st := s') (s1 := s') (fi := xiSeq (xVar 0)) (it := it) (e := [some x, some (.int ((lcmQ qs : Nat) : Int)), o2, o3, none]) (vs := [4, 3]) (g := xgTup 2 (xgsCons (xgName 4) (xgsCons (xgName 3) xgsNil))) (tt := xYes) (te := xBin mulT (xVar 4) (xBin fdivT (xVar 1) (xVar 3))) (ts := qs.map fun q => fq q)
    (fun i acc s => acc = ((partsQ (lcmQ qs) qs).take i).map T.int ∧ s = s' ++ [.lst acc] ∧ i ≤ qs.length) (hfi _) (fun i acc s h => by
      obtain ⟨a1, rfl, a3⟩ := h
      refine ⟨by rw [List.getElem?_append_right (Nat.le_refl _)]; simp, by rw [a1]; simp; omega⟩)
    (fun i acc s h => by obtain ⟨a1, rfl, a3⟩ := h; exact hit _) (by rw [hl]; exact hn) ⟨by simp, rfl, Nat.zero_le _⟩
    (fun i acc s y hy h => by
      obtain ⟨a1, rfl, a3⟩ := h
      rw [List.getElem?_map] at hy
      cases hqi : qs[i]? with
      | none => rw [hqi] at hy; cases hy
      | some q =>
        rw [hqi] at hy
        cases hy
        have hlt := (List.getElem?_eq_some_iff.mp hqi).1
        have hm := List.mem_of_getElem? hqi
        have zq := hq q hm
        have hden : ¬ (q.den = 0) := q.den_nz
        have l2 : q.den.log2 < 9000 := by have := log2_of zq.d; have := hkk q hm; omega
        have hf : ((lcmQ qs : Nat) : Int).fdiv (q.den : Int) = ((lcmQ qs / q.den : Nat) : Int) := by
          rw [Int.fdiv_eq_ediv_of_nonneg _ (by omega)]; exact (Int.natCast_ediv _ _).symm
        have hb : bitsOk q.num ((lcmQ qs / q.den : Nat) : Int) = true := bits_of (k := 3001) (Nat.lt_of_lt_of_le zq.n (Nat.pow_le_pow_right (by decide) (by have := hkk q hm; omega))) (by rw [Int.natAbs_natCast]; exact Nat.lt_of_le_of_lt (Nat.div_le_self _ _) Llt) (by decide)
        have hp : (partsQ (lcmQ qs) qs)[i]? = some (q.num * ((lcmQ qs / q.den : Nat) : Int)) := by unfold partsQ; rw [List.getElem?_map, hqi]; rfl
        refine ⟨[some x, some (.int ((lcmQ qs : Nat) : Int)), o2, some (.int q.den), some (.int q.num)], s' ++ [.lst acc], s' ++ [.lst acc], s' ++ [.lst acc], .int (q.num * ((lcmQ qs / q.den : Nat) : Int)), ?_, rfl, ?_, by rw [List.getElem?_append_right (Nat.le_refl _)]; simp, ?_, ?_, by omega⟩
        · simp [wipeE, xgTup, xgsCons, xgsNil]
        · have hb2 := hb
          rw [Int.natCast_ediv] at hb2
          simp [hden, l2, hf, hb, hb2]
        · rw [a1, List.take_add_one, hp]; simp
        · rw [List.set_append_right _ _ (Nat.le_refl _)]; simp)
  have hlp : (partsQ (lcmQ qs) qs).length = qs.length := by simp [partsQ]
  rw [hl, ← hlp, List.take_length] at g2
  subst g2 g3
  have hints : intsOf ((partsQ (lcmQ qs) qs).map T.int) = some (partsQ (lcmQ qs) qs) := by
    generalize partsQ (lcmQ qs) qs = ps
    unfold intsOf
    induction ps with
    | nil => rfl
    | cons p r ih => simp only [List.map_cons, optAll, ih]
  have hne : ((lcmQ qs : Nat) : Int) ≠ 0 := by omega
  have hred : S_reduced [.int (partsQ (lcmQ qs) qs).sum, .int ((lcmQ qs : Nat) : Int)] (s' ++ [.lst ((partsQ (lcmQ qs) qs).map T.int)]) = some (fq (sumQ qs), s' ++ [.lst ((partsQ (lcmQ qs) qs).map T.int)]) := by
    have e := parts_sum (L := lcmQ qs) (by omega) qs 0 (fun q hm => lcmQ_dvd hm)
    have e0 : Rat.divInt 0 ((lcmQ qs : Nat) : Int) = 0 := Rat.zero_divInt _
    rw [e0] at e
    have es : (partsQ (lcmQ qs) qs).foldl (· + ·) 0 = (partsQ (lcmQ qs) qs).sum := List.sum_eq_foldl.symm
    rw [es] at e
    show (if _ then some (fr (nf _ _), _) else none) = _
    rw [if_pos ⟨hne, by rw [Int.natAbs_natCast]; omega⟩, nf_rat hne, e]
    rfl
  refine ⟨[.lst ((partsQ (lcmQ qs) qs).map T.int)], ?_⟩
  simp only [F_total_of, B_total_of, fnF, List.length_cons, List.length_nil, r_xsSeq, r_xsSet, r_xC, Option.map_some, Option.bind_some, List.map_cons, List.map_nil, List.cons_append, List.nil_append, List.set_cons_succ, List.set_cons_zero, List.replicate]
  simp [h1, g1, sumT, hints, hred]
noncomputable def S_total_of : FA := cutF F_total_of
theorem cut_total_of : ∀ ts st t st', S_total_of ts st = some (t, st') → ∃ t2 st2, F_total_of ts st = some (t2, st2) ∧ Cut st t2 st2 t st' := cutF_cut
theorem total_ok {x : T} {st : Store} {it : Its1} {qs : List Rat} {k : Nat} (hfi : ∀ e, xiSeq (xVar 0) (some x :: e) st = some (it, st)) (hit : ∀ g, it (st ++ g) = some (qs.map fun q => fq q)) (hq : ∀ q ∈ qs, Sz k q) (hk : 1 + qs.length * (k + 1) ≤ 3000) (hn : qs.length ≤ 1000) : S_total_of [x] st = some (fq (sumQ qs), st) := by
  obtain ⟨g, e⟩ := total_prog hfi hit hq hk hn
  have h := cutF_of e (by rw [List.take_left' rfl]; exact Cut.pure rfl)
  rw [List.take_left' rfl] at h
  exact h
abbrev s_whole_below : Stmt := top 11
abbrev N_whole_below : List Str := ["one"]
abbrev P_whole_below : List Str := ["one"]
theorem sc_whole_below : FnScope N_whole_below P_whole_below (defScope s_whole_below) := ⟨rfl, rfl, rfl, by decide +kernel, rfl, by decide +kernel, by decide +kernel⟩
def B_whole_below : XS := (xsRet (xBin fdivT (xBin ixA (xVar 0) (xC (.int 0))) (xBin ixA (xVar 0) (xC (.int 1)))))
def F_whole_below : FA := fnF 1 1 B_whole_below
theorem q_below {q : Rat} {k : Nat} {st : Store} (hq : Sz k q) (hk : k ≤ 4000) : F_whole_below [fq q] st = some (.int (q.num.fdiv q.den), st) := by
  have h1 := den_ne q
  have h2 : (((q.den : Nat) : Int)).natAbs.log2 < 9000 := by have := log2_of (natAbs_den hq); omega
  rw [Int.natAbs_natCast] at h2
  have h3 : ¬ (q.den = 0) := q.den_nz
  simp [F_whole_below, B_whole_below, fnF, h2, h3]
abbrev s_in_order : Stmt := top 12
abbrev N_in_order : List Str := ["fractions", "scale", "found", "num", "den", "whole", "one"]
abbrev P_in_order : List Str := ["fractions"]
theorem sc_in_order : FnScope N_in_order P_in_order (defScope s_in_order) := ⟨rfl, rfl, rfl, by decide +kernel, rfl, by decide +kernel, by decide +kernel⟩
def B_in_order : XS := (xsSeq (xsSet 1 (xMaxD (xLc (xiSeq (xVar 0)) (xgName 6) [6] xYes (xBin mulT (xBin ixA (xVar 6) (xC (.int 1))) (xBin ixA (xVar 6) (xC (.int 1))))) (xC (.int 1))))
    (xsSeq (xsSet 2 (xDcK (xiSeq (xVar 0)) (xgTup 2 (xgsCons (xgName 3) (xgsCons (xgName 4) xgsNil))) [3, 4] xYes (xBin fdivT (xBin mulT (xVar 3) (xVar 1)) (xVar 4)) (xCall tupT (xCons (xVar 3) (xCons (xVar 4) xNil)))))
    (xsRet (xLc (xiSeq (xCall sortedT (xCons (xVar 2) xNil))) (xgName 5) [5] xYes (xBin ixA (xVar 2) (xVar 5))))))
def F_in_order : FA := fnF 1 7 B_in_order
abbrev s_sure_throw : Stmt := top 14
abbrev N_sure_throw : List Str := ["value"]
abbrev P_sure_throw : List Str := ["value"]
theorem sc_sure_throw : FnScope N_sure_throw P_sure_throw (defScope s_sure_throw) := ⟨rfl, rfl, rfl, by decide +kernel, rfl, by decide +kernel, by decide +kernel⟩
def B_sure_throw : XS := (xsRet (xCall tupT (xCons (xCall tupT (xCons (xVar 0) (xCons (xCall tupT (xCons (xC (.int 1)) (xCons (xC (.int 1)) xNil))) xNil))) xNil)))
def F_sure_throw : FA := fnF 1 1 B_sure_throw
abbrev s_two_throw : Stmt := top 15
abbrev N_two_throw : List Str := ["low", "mean", "high", "chance"]
abbrev P_two_throw : List Str := ["low", "mean", "high"]
theorem sc_two_throw : FnScope N_two_throw P_two_throw (defScope s_two_throw) := ⟨rfl, rfl, rfl, by decide +kernel, rfl, by decide +kernel, by decide +kernel⟩
def B_two_throw : XS := (xsSeq (xsIf (xOrT (xBl (xBin eqT (xVar 1) (xVar 0))) (xBl (xBin eqT (xVar 1) (xVar 2))))
    (xsRet (xCall F_sure_throw (xCons (xVar 1) xNil)))
    xsNil)
    (xsSeq (xsSet 3 (xCall S_over (xCons (xCall S_lessened (xCons (xVar 1) (xCons (xVar 0) xNil))) (xCons (xCall S_lessened (xCons (xVar 2) (xCons (xVar 0) xNil))) xNil))))
    (xsRet (xCall tupT (xCons (xCall tupT (xCons (xVar 0) (xCons (xCall S_lessened (xCons (xCall tupT (xCons (xC (.int 1)) (xCons (xC (.int 1)) xNil))) (xCons (xVar 3) xNil))) xNil))) (xCons (xCall tupT (xCons (xVar 2) (xCons (xVar 3) xNil))) xNil))))))
def F_two_throw : FA := fnF 3 4 B_two_throw
abbrev s_neighbours_of : Stmt := top 17
abbrev N_neighbours_of : List Str := ["number", "grain", "low"]
abbrev P_neighbours_of : List Str := ["number", "grain"]
theorem sc_neighbours_of : FnScope N_neighbours_of P_neighbours_of (defScope s_neighbours_of) := ⟨rfl, rfl, rfl, by decide +kernel, rfl, by decide +kernel, by decide +kernel⟩
def B_neighbours_of : XS := (xsSeq (xsSet 2 (xCall S_times (xCons (xCall tupT (xCons (xCall F_whole_below (xCons (xCall S_over (xCons (xVar 0) (xCons (xVar 1) xNil))) xNil)) (xCons (xC (.int 1)) xNil))) (xCons (xVar 1) xNil))))
    (xsSeq (xsIf (xBl (xBin eqT (xVar 2) (xVar 0)))
    (xsRet (xCall tupT (xCons (xVar 2) (xCons (xVar 2) xNil))))
    xsNil)
    (xsRet (xCall tupT (xCons (xVar 2) (xCons (xCall S_added (xCons (xVar 2) (xCons (xVar 1) xNil))) xNil))))))
def F_neighbours_of : FA := fnF 2 3 B_neighbours_of
abbrev s_neighbour_throw : Stmt := top 18
abbrev N_neighbour_throw : List Str := ["number", "grain", "low", "high"]
abbrev P_neighbour_throw : List Str := ["number", "grain"]
theorem sc_neighbour_throw : FnScope N_neighbour_throw P_neighbour_throw (defScope s_neighbour_throw) := ⟨rfl, rfl, rfl, by decide +kernel, rfl, by decide +kernel, by decide +kernel⟩
def B_neighbour_throw : XS := (xsSeq (xsAsg (xCall F_neighbours_of (xCons (xVar 0) (xCons (xVar 1) xNil))) (xgTup 2 (xgsCons (xgName 2) (xgsCons (xgName 3) xgsNil))))
    (xsRet (xCall F_two_throw (xCons (xVar 2) (xCons (xVar 0) (xCons (xVar 3) xNil))))))
def F_neighbour_throw : FA := fnF 2 4 B_neighbour_throw
abbrev s_rounded_throw : Stmt := top 20
abbrev N_rounded_throw : List Str := ["throw", "grain", "parts", "number", "chance", "value", "share"]
abbrev P_rounded_throw : List Str := ["throw", "grain"]
theorem sc_rounded_throw : FnScope N_rounded_throw P_rounded_throw (defScope s_rounded_throw) := ⟨rfl, rfl, rfl, by decide +kernel, rfl, by decide +kernel, by decide +kernel⟩
def B_rounded_throw : XS := (xsSeq (xsSet 2 xDictN)
    (xsSeq (xsFor (xiSeq (xVar 0)) (xgTup 2 (xgsCons (xgName 3) (xgsCons (xgName 4) xgsNil)))
    (xsFor (xiSeq (xCall F_neighbour_throw (xCons (xVar 3) (xCons (xVar 1) xNil)))) (xgTup 2 (xgsCons (xgName 5) (xgsCons (xgName 6) xgsNil)))
    (xsExpr (xMeth "list" appendT (xMethX "dict" setdefT (xVar 2) (xCons (xVar 5) (xCons (xCall lstT xNil) xNil))) (xCons (xCall S_times (xCons (xVar 4) (xCons (xVar 6) xNil))) xNil)))))
    (xsRet (xCall tupleT (xCons (xLc (xiSeq (xCall F_in_order (xCons (xCall listDT (xCons (xVar 2) xNil)) xNil))) (xgName 5) [5] xYes (xCall tupT (xCons (xVar 5) (xCons (xCall S_total_of (xCons (xBin ixA (xVar 2) (xVar 5)) xNil)) xNil)))) xNil)))))
def F_rounded_throw : FA := fnF 2 7 B_rounded_throw
abbrev s_again_throw : Stmt := top 21
abbrev N_again_throw : List Str := ["number", "grains", "throw", "grain"]
abbrev P_again_throw : List Str := ["number", "grains"]
theorem sc_again_throw : FnScope N_again_throw P_again_throw (defScope s_again_throw) := ⟨rfl, rfl, rfl, by decide +kernel, rfl, by decide +kernel, by decide +kernel⟩
def B_again_throw : XS := (xsSeq (xsSet 2 (xCall F_sure_throw (xCons (xVar 0) xNil)))
    (xsSeq (xsFor (xiSeq (xVar 1)) (xgName 3)
    (xsSet 2 (xCall F_rounded_throw (xCons (xVar 2) (xCons (xVar 3) xNil)))))
    (xsRet (xVar 2))))
def F_again_throw : FA := fnF 2 4 B_again_throw
abbrev s_is_once : Stmt := top 22
abbrev N_is_once : List Str := ["grains", "grain"]
abbrev P_is_once : List Str := ["grains"]
theorem sc_is_once : FnScope N_is_once P_is_once (defScope s_is_once) := ⟨rfl, rfl, rfl, by decide +kernel, rfl, by decide +kernel, by decide +kernel⟩
def B_is_once : XS := (xsRet (xCall allT (xCons (xLc (xiSeq (xVar 0)) (xgName 1) [1] xYes (xBin eqT (xBin ixA (xCall S_over (xCons (xBin ixA (xVar 0) (xUn negT (xC (.int 1)))) (xCons (xVar 1) xNil))) (xC (.int 1))) (xC (.int 1)))) xNil)))
def F_is_once : FA := fnF 1 2 B_is_once
abbrev s_once_parting : Stmt := top 23
abbrev N_once_parting : List Str := ["grains"]
abbrev P_once_parting : List Str := ["grains"]
theorem sc_once_parting : FnScope N_once_parting P_once_parting (defScope s_once_parting) := ⟨rfl, rfl, rfl, by decide +kernel, rfl, by decide +kernel, by decide +kernel⟩
def B_once_parting : XS := (xsSeq (xsIf (xTru (xCall F_is_once (xCons (xVar 0) xNil)))
    (xsRet (xC .non))
    xsNil)
    (xsRet (xBin ixA (xVar 0) (xUn negT (xC (.int 1))))))
def F_once_parting : FA := fnF 1 1 B_once_parting
abbrev s__law_bag : Stmt := top 25
abbrev N__law_bag : List Str := ["_law_script", "_law_cell"]
abbrev P__law_bag : List Str := ["_law_script"]
theorem sc__law_bag : FnScope N__law_bag P__law_bag (defScope s__law_bag) := ⟨rfl, rfl, rfl, by decide +kernel, rfl, by decide +kernel, by decide +kernel⟩
def B__law_bag : XS := (xsRet (xCall lstT (xCons (xC (.int 0)) (xCons (xC (.int 1234567891)) (xCons (xC (.int 0)) (xCons (xLc (xiSeq (xSl (xVar 0) none (some (xC (.int 63))))) (xgName 1) [1] xYes (xCall absT (xCons (xVar 1) xNil))) xNil))))))
def F__law_bag : FA := fnF 1 2 B__law_bag
def absI : T → T
  | .int i => .int (if i < 0 then -i else i)
  | t => t
theorem bag_ok (ns : List Int) (st : Store) : ∃ g, F__law_bag [.rdl ns] st = some (.ref (st.length + 2), st ++ g) ∧ BagAt 0 (st ++ g) (st.length + 2) (st.length + 1) := by
  generalize hX : (cutG ns none (some 63)) = X
  have hlen : X.length ≤ 63 := by
    rw [← hX]
    unfold cutG
    have : HT.sIx ns.length ns.length (some 63) ≤ 63 := by
      unfold HT.sIx; simp; omega
    simp only [List.length_take, List.length_drop]
    omega
  have hfi : xiSeq (xSl (xVar 0) none (some (xC (.int 63)))) [some (.rdl ns), none] st = some (fun s => match s[st.length]? with
      | some (.lst ts) => some ts
      | _ => none, st ++ [.lst (X.map T.int)]) := by
    simp [xiSeq, xSl, xPart, slT, hX] <;> rfl
  have hlc := lc_map (vs := [1]) (i := 1) (te := xCall absT (xCons (xVar 1) xNil)) (ts := X.map T.int) absI hfi (fun acc => by simp) (by simp; omega) (fun x hx acc => by
    obtain ⟨z, hz, rfl⟩ := List.mem_map.mp hx
    simp [wipeE, absI])
  refine ⟨[.lst (X.map T.int), .lst ((X.map T.int).map absI), .lst [.int 0, .int 1234567891, .int 0, .ref (st.length + 1)]], ?_, ?_⟩
  · have s4 : (4 : Nat) ≤ sizeLine := by decide
    simp [F__law_bag, B__law_bag, fnF]
    rw [show ([some (T.rdl ns), none] : Env1) = [some (.rdl ns), none] from rfl, hlc]
    simp [s4]
  · refine ⟨0, 1234567891, 0, X.map (fun i => if i < 0 then -i else i), by simp, ?_, by omega, by decide, by decide, by decide, by decide, by decide, fun z hz => ?_, by simp; omega⟩
    · simp [absI, Function.comp_def]
    · obtain ⟨y, _, rfl⟩ := List.mem_map.mp hz
      split <;> omega
abbrev s__law_take : Stmt := top 26
abbrev N__law_take : List Str := ["_law_bag_here", "_law_many", "_law_cell", "_law_stirred", "_law_value", "_law_begin", "_law_second"]
abbrev P__law_take : List Str := ["_law_bag_here", "_law_many"]
theorem sc__law_take : FnScope N__law_take P__law_take (defScope s__law_take) := ⟨rfl, rfl, rfl, by decide +kernel, rfl, by decide +kernel, by decide +kernel⟩
def B__law_take : XS := (xsSeq (xsIf (xBl (xBin eqT (xBin ixA (xVar 0) (xC (.int 0))) (xC (.int 0))))
    (xsSeq (xsSet 2 (xBin ixA (xBin addT (xSl (xBin ixA (xVar 0) (xC (.int 3))) (some (xBin ixA (xVar 0) (xC (.int 2)))) none) (xCall lstT (xCons (xC (.int 0)) xNil))) (xC (.int 0))))
    (xsSeq (xsAugS (xVar 0) (xC (.int 2)) iaddT (xC (.int 1)))
    (xsSeq (xsIf (xBl (xBin geT (xVar 2) (xBin powT (xC (.int 10)) (xC (.int 18)))))
    (xsAsg (xVar 2) (xgSubA (xVar 0) (xC (.int 0))))
    xsNil)
    (xsSeq (xsSet 3 (xBin addT (xBin addT (xBin mulT (xBin ixA (xVar 0) (xC (.int 1))) (xC (.int 48271))) (xBin modT (xCall intT (xCons (xVar 2) xNil)) (xC (.int 2147483647)))) (xBin mulT (xC (.int 7919)) (xBin ixA (xVar 0) (xC (.int 2))))))
    (xsAsg (xBin modT (xCall intT (xCons (xVar 3) xNil)) (xC (.int 2147483647))) (xgSubA (xVar 0) (xC (.int 1))))))))
    xsNil)
    (xsSeq (xsIf (xBl (xBin gtT (xBin ixA (xVar 0) (xC (.int 0))) (xC (.int 0))))
    (xsSeq (xsSet 4 (xBin modT (xCall intT (xCons (xBin ixA (xVar 0) (xC (.int 0))) xNil)) (xVar 1)))
    (xsSeq (xsAsg (xBin fdivT (xCall intT (xCons (xBin ixA (xVar 0) (xC (.int 0))) xNil)) (xVar 1)) (xgSubA (xVar 0) (xC (.int 0))))
    (xsRet (xVar 4))))
    xsNil)
    (xsSeq (xsSet 5 (xBin modT (xCall intT (xCons (xBin mulT (xBin addT (xBin ixA (xVar 0) (xC (.int 1))) (xC (.int 1))) (xC (.int 39373))) xNil)) (xC (.int 1000000007))))
    (xsSeq (xsSet 6 (xBin modT (xCall intT (xCons (xBin mulT (xBin modT (xCall intT (xCons (xBin mulT (xVar 5) (xVar 5)) xNil)) (xC (.int 998244353))) (xC (.int 30011))) xNil)) (xC (.int 998244353))))
    (xsRet (xBin modT (xCall intT (xCons (xBin fdivT (xVar 6) (xC (.int 7))) xNil)) (xVar 1)))))))
def F__law_take : FA := fnF 2 7 B__law_take
theorem take_old {st : Store} {l m : Nat} {a b c many : Int} (h : st[l]? = some (bagO a b c m)) (ha : 0 < a) (hm : 0 < many) (hs : many.natAbs.log2 < 9000) :
    F__law_take [.ref l, .int many] st = some (.int (a.fmod many), st.set l (bagO (a.fdiv many) b c m)) := by
  have h0 : a ≠ 0 := by omega
  have h1 : many ≠ 0 := by omega
  simp [F__law_take, B__law_take, fnF, r_ixLst h, h0, ha, h1, hs, xgSubA, set0 h]
theorem take_new {st : Store} {l m : Nat} {b c many z : Int} {cs : List Int} (h : st[l]? = some (bagO 0 b c m)) (h2 : st[m]? = some (.lst (cs.map T.int))) (hlen : cs.length ≤ 63) (hz : atI (cutG (cs.map T.int) (some c) none ++ [.int 0]) 0 = some (.int z)) (hb1 : bitsOk b 48271 = true) (hb2 : bitsOk 7919 (c + 1) = true) (hbig : 10 ^ 18 ≤ z) (hm : 0 < many) (hs : many.natAbs.log2 < 9000) :
    ∃ g, F__law_take [.ref l, .int many] st = some (.int (z.fmod many), (st ++ g).set l (bagO (z.fdiv many) ((b * 48271 + z.fmod 2147483647 + 7919 * (c + 1)).fmod 2147483647) (c + 1) m)) := by
  have h1 : many ≠ 0 := by omega
  have hz0 : 0 < z := by omega
  have hl := (List.getElem?_eq_some_iff.mp h).1
  have hX : (cutG (cs.map T.int) (some c) none).length ≤ 63 := by
    unfold cutG
    simp only [List.length_take, List.length_drop, List.length_map]
    omega
  generalize hXX : cutG (cs.map T.int) (some c) none = X at hz hX
  have hadd : addT (.ref st.length) (.ref (st.length + 1)) (st ++ [.lst X, .lst [.int 0]]) = some (.ref (st.length + 2), st ++ [.lst X, .lst [.int 0], .lst (X ++ [.int 0])]) := by
    have hsz : X.length + 1 ≤ sizeLine := Nat.le_of_lt (small1000 (by omega))
    simp [addT, hsz]
  have hix : ixA (.ref (st.length + 2)) (.int 0) (st ++ [.lst X, .lst [.int 0], .lst (X ++ [.int 0])]) = some (.int z, st ++ [.lst X, .lst [.int 0], .lst (X ++ [.int 0])]) := by
    rw [r_ixLst (ts := X ++ [.int 0]) (by simp), hz]; rfl
  refine ⟨[.lst X, .lst [.int 0], .lst (X ++ [.int 0])], ?_⟩
  simp [F__law_take, B__law_take, fnF, r_ixLst h, xSl, xPart, slT, h2, hXX, hadd, hix]
  have h3 := getA (g := [.lst X, .lst [.int 0], .lst (X ++ [.int 0])]) h
  generalize st ++ [.lst X, .lst [.int 0], .lst (X ++ [.int 0])] = st3 at h3 ⊢
  have h4 : (st3.set l (bagO 0 b (c + 1) m))[l]? = some (bagO 0 b (c + 1) m) := lg h3
  have h5 : (st3.set l (bagO z b (c + 1) m))[l]? = some (bagO z b (c + 1) m) := lg h3
  have h6 : (st3.set l (bagO z ((b * 48271 + z.fmod 2147483647 + 7919 * (c + 1)).fmod 2147483647) (c + 1) m))[l]? = some (bagO z ((b * 48271 + z.fmod 2147483647 + 7919 * (c + 1)).fmod 2147483647) (c + 1) m) := lg h3
  have hbig2 : 1000000000000000000 ≤ z := by omega
  simp [xsAugS, get2 h3, aug2 h3, xgSubA, set0 h4, r_ixLst h4, r_ixLst h5, set1 h5, r_ixLst h6, set0 h6, hb1, hb2, hz0, h1, hs, hbig2]
/-- the rest of what take does where nothing is left of a great number: some number below many -/
theorem take_small {st : Store} {l m : Nat} {b c many z : Int} {cs : List Int} (h : st[l]? = some (bagO 0 b c m)) (h2 : st[m]? = some (.lst (cs.map T.int))) (hlen : cs.length ≤ 63) (hz : atI (cutG (cs.map T.int) (some c) none ++ [.int 0]) 0 = some (.int z)) (hb1 : bitsOk b 48271 = true) (hb2 : bitsOk 7919 (c + 1) = true) (hbig : z < 10 ^ 18) (hm : 0 < many) (hs : many.natAbs.log2 < 9000) :
    ∃ g v, F__law_take [.ref l, .int many] st = some (.int v, (st ++ g).set l (bagO 0 ((b * 48271 + z.fmod 2147483647 + 7919 * (c + 1)).fmod 2147483647) (c + 1) m)) ∧ 0 ≤ v ∧ v < many := by
  have h1 : many ≠ 0 := by omega
  have hl := (List.getElem?_eq_some_iff.mp h).1
  have hX : (cutG (cs.map T.int) (some c) none).length ≤ 63 := by
    unfold cutG
    simp only [List.length_take, List.length_drop, List.length_map]
    omega
  generalize hXX : cutG (cs.map T.int) (some c) none = X at hz hX
  have hadd : addT (.ref st.length) (.ref (st.length + 1)) (st ++ [.lst X, .lst [.int 0]]) = some (.ref (st.length + 2), st ++ [.lst X, .lst [.int 0], .lst (X ++ [.int 0])]) := by
    have hsz : X.length + 1 ≤ sizeLine := Nat.le_of_lt (small1000 (by omega))
    simp [addT, hsz]
  have hix : ixA (.ref (st.length + 2)) (.int 0) (st ++ [.lst X, .lst [.int 0], .lst (X ++ [.int 0])]) = some (.int z, st ++ [.lst X, .lst [.int 0], .lst (X ++ [.int 0])]) := by
    rw [r_ixLst (ts := X ++ [.int 0]) (by simp), hz]; rfl
  have h3 := getA (g := [.lst X, .lst [.int 0], .lst (X ++ [.int 0])]) h
  generalize hb' : (b * 48271 + z.fmod 2147483647 + 7919 * (c + 1)).fmod 2147483647 = b' at *
  have hbb : 0 ≤ b' ∧ b' < 2147483647 := by
    rw [← hb', Int.fmod_eq_emod_of_nonneg _ (by decide)]
    exact ⟨Int.emod_nonneg _ (by decide), Int.emod_lt_of_pos _ (by decide)⟩
  have k1 : bitsOk (b' + 1) 39373 = true := bits_of (k := 40) (by omega) (by decide) (by decide)
  generalize hy : ((b' + 1) * 39373).fmod 1000000007 = y at *
  have hyb : 0 ≤ y ∧ y < 1000000007 := by
    rw [← hy, Int.fmod_eq_emod_of_nonneg _ (by decide)]
    exact ⟨Int.emod_nonneg _ (by decide), Int.emod_lt_of_pos _ (by decide)⟩
  have k2 : bitsOk y y = true := bits_of (k := 40) (by omega) (by omega) (by decide)
  generalize hw : (y * y).fmod 998244353 = w at *
  have hwb : 0 ≤ w ∧ w < 998244353 := by
    rw [← hw, Int.fmod_eq_emod_of_nonneg _ (by decide)]
    exact ⟨Int.emod_nonneg _ (by decide), Int.emod_lt_of_pos _ (by decide)⟩
  have k3 : bitsOk w 30011 = true := bits_of (k := 40) (by omega) (by decide) (by decide)
  refine ⟨[.lst X, .lst [.int 0], .lst (X ++ [.int 0])], (((w * 30011).fmod 998244353).fdiv 7).fmod many, ?_, ?_, ?_⟩
  · simp [F__law_take, B__law_take, fnF, r_ixLst h, xSl, xPart, slT, h2, hXX, hadd, hix]
    generalize st ++ [.lst X, .lst [.int 0], .lst (X ++ [.int 0])] = st3 at h3 ⊢
    have h4 : (st3.set l (bagO 0 b (c + 1) m))[l]? = some (bagO 0 b (c + 1) m) := lg h3
    have h6 : (st3.set l (bagO 0 b' (c + 1) m))[l]? = some (bagO 0 b' (c + 1) m) := lg h3
    have hbig2 : ¬ (1000000000000000000 ≤ z) := by omega
    have l7 : Nat.log2 7 < 9000 := by decide
    simp [xsAugS, get2 h3, aug2 h3, xgSubA, r_ixLst h4, set1 h4, r_ixLst h6, hb1, hb2, h1, hs, hbig2, hb', k1, hy, k2, hw, k3, l7]
  · rw [Int.fmod_eq_emod_of_nonneg _ (by omega)]; exact Int.emod_nonneg _ h1
  · rw [Int.fmod_eq_emod_of_nonneg _ (by omega)]; exact Int.emod_lt_of_pos _ hm
noncomputable def S__law_take : FA := cutF F__law_take
theorem cut__law_take : ∀ ts st t st', S__law_take ts st = some (t, st') → ∃ t2 st2, F__law_take ts st = some (t2, st2) ∧ Cut st t2 st2 t st' := cutF_cut
theorem take_ok {N : Nat} {st : Store} {l m : Nat} {many : Int} (h : BagAt N st l m) (hN : N ≤ 1000000) (hm : 0 < many) (hs : many.natAbs.log2 < 9000) : ∃ v st', S__law_take [.ref l, .int many] st = some (.int v, st') ∧ 0 ≤ v ∧ v < many ∧ Only l st st' ∧ BagAt (N + 1) st' l m := by
  obtain ⟨a, b, c, cs, h1, h2, hlm, ha, hb1, hb2, hc1, hc2, hcs, hlen⟩ := h.ex
  have hl := (List.getElem?_eq_some_iff.mp h1).1
  have hml := (List.getElem?_eq_some_iff.mp h2).1
  have after : ∀ (a' b' c' : Int), 0 ≤ a' → 0 ≤ b' → b' < 2147483648 → 0 ≤ c' → c' ≤ N + 1 → BagAt (N + 1) (st.set l (bagO a' b' c' m)) l m := fun a' b' c' g1 g2 g3 g4 g5 =>
    ⟨a', b', c', cs, List.getElem?_set_self hl, by rw [List.getElem?_set_ne hlm]; exact h2, hlm, g1, g2, g3, g4, by omega, hcs, hlen⟩
  by_cases ha0 : 0 < a
  · have e := take_old h1 ha0 hm hs
    have ec := cutF_of (st2 := (st ++ []).set l (bagO (a.fdiv many) b c m)) (by rw [List.append_nil]; exact e) (cut_set hl hml)
    rw [take_set hl] at ec
    refine ⟨_, _, ec, ?_, ?_, Only.set, after _ _ _ ?_ hb1 hb2 hc1 (by omega)⟩
    · rw [Int.fmod_eq_emod_of_nonneg _ (by omega)]; exact Int.emod_nonneg _ (by omega)
    · rw [Int.fmod_eq_emod_of_nonneg _ (by omega)]; exact Int.emod_lt_of_pos _ hm
    · rw [Int.fdiv_eq_ediv_of_nonneg _ (by omega)]; exact Int.ediv_nonneg ha (by omega)
  · have ha1 : a = 0 := by omega
    subst ha1
    obtain ⟨z, hz, hzz⟩ := cell_of cs c
    have hz0 : 0 ≤ z := by
      rcases hzz with e | e
      · omega
      · exact hcs z e
    have k1 : bitsOk b 48271 = true := bits_of (k := 40) (by omega) (by decide) (by decide)
    have k2 : bitsOk 7919 (c + 1) = true := bits_of (k := 40) (by decide) (by omega) (by decide)
    have hbb : 0 ≤ (b * 48271 + z.fmod 2147483647 + 7919 * (c + 1)).fmod 2147483647 ∧ (b * 48271 + z.fmod 2147483647 + 7919 * (c + 1)).fmod 2147483647 < 2147483647 := by
      rw [Int.fmod_eq_emod_of_nonneg (b * 48271 + _ + _) (by decide)]
      exact ⟨Int.emod_nonneg _ (by decide), Int.emod_lt_of_pos _ (by decide)⟩
    by_cases hbig : 10 ^ 18 ≤ z
    · obtain ⟨g, e⟩ := take_new h1 h2 hlen hz k1 k2 hbig hm hs
      have ec := cutF_of e (cut_set hl hml)
      rw [take_set hl] at ec
      refine ⟨_, _, ec, ?_, ?_, Only.set, after _ _ _ ?_ hbb.1 (by omega) (by omega) (by omega)⟩
      · rw [Int.fmod_eq_emod_of_nonneg _ (by omega)]; exact Int.emod_nonneg _ (by omega)
      · rw [Int.fmod_eq_emod_of_nonneg _ (by omega)]; exact Int.emod_lt_of_pos _ hm
      · rw [Int.fdiv_eq_ediv_of_nonneg _ (by omega)]; exact Int.ediv_nonneg hz0 (by omega)
    · obtain ⟨g, v, e, hv1, hv2⟩ := take_small h1 h2 hlen hz k1 k2 (by omega) hm hs
      have ec := cutF_of e (cut_set hl hml)
      rw [take_set hl] at ec
      exact ⟨_, _, ec, hv1, hv2, Only.set, after _ _ _ (by omega) hbb.1 (by omega) (by omega) (by omega)⟩
abbrev s__law_some : Stmt := top 27
abbrev N__law_some : List Str := ["_law_bag_here", "_law_things"]
abbrev P__law_some : List Str := ["_law_bag_here", "_law_things"]
theorem sc__law_some : FnScope N__law_some P__law_some (defScope s__law_some) := ⟨rfl, rfl, rfl, by decide +kernel, rfl, by decide +kernel, by decide +kernel⟩
def B__law_some : XS := (xsRet (xBin ixA (xVar 1) (xCall S__law_take (xCons (xVar 0) (xCons (xCall lenT (xCons (xVar 1) xNil)) xNil)))))
def F__law_some : FA := fnF 2 2 B__law_some
theorem some_list {N : Nat} {st : Store} {l m j : Nat} {ts : List T} (h : BagAt N st l m) (hN : N ≤ 1000000) (hj : st[j]? = some (.lst ts)) (hjl : j ≠ l) (h0 : ts ≠ []) (hlen : ts.length ≤ 1000) :
    ∃ x st', F__law_some [.ref l, .ref j] st = some (x, st') ∧ x ∈ ts ∧ Only l st st' ∧ BagAt (N + 1) st' l m := by
  have hpos : 0 < ts.length := List.length_pos_iff.mpr h0
  obtain ⟨v, st', e, hv0, hv1, ho, hb⟩ := take_ok (many := (ts.length : Int)) h hN (by omega) (by rw [Int.natAbs_natCast]; have := log2_of (k := 10) (show ts.length < 2 ^ 10 by omega); omega)
  obtain ⟨k, rfl⟩ := Int.eq_ofNat_of_zero_le hv0
  have hk : k < ts.length := by omega
  have hj' : st'[j]? = some (.lst ts) := (ho.at_ j hjl).trans hj
  refine ⟨ts[k], st', ?_, List.getElem_mem hk, ho, hb⟩
  have hlenT : lenT [.ref j] st = some (.int ts.length, st) := by simp [lenT, hj]
  have hat : atI ts (k : Int) = some ts[k] := atI_nat (List.getElem?_eq_getElem hk)
  simp [F__law_some, B__law_some, fnF, hlenT, e, r_ixLst hj', hat]
abbrev s__law_alike : Stmt := top 28
abbrev N__law_alike : List Str := ["_law_found", "_law_due"]
abbrev P__law_alike : List Str := ["_law_found", "_law_due"]
theorem sc__law_alike : FnScope N__law_alike P__law_alike (defScope s__law_alike) := ⟨rfl, rfl, rfl, by decide +kernel, rfl, by decide +kernel, by decide +kernel⟩
def B__law_alike : XS := (xsRet (xAnd (xBin eqT (xVar 0) (xVar 1)) (xBin eqT (xCall reprU (xCons (xVar 0) xNil)) (xCall reprU (xCons (xVar 1) xNil)))))
def F__law_alike : FA := fnF 2 2 B__law_alike
/-- data that repr shows and == compares -/
def goodD (d : PyData) : Prop := SeqAt.shaped d = true ∧ d.showable = true ∧ d.hasDict = false ∧ d.depth ≤ 60 ∧ d.shown.length ≤ sizeLine
def isBox : T → Bool
  | .tup _ => true
  | .ref _ => true
  | _ => false
theorem eqT_box {x y : T} {st : Store} (hx : isBox x = true) (hy : isBox y = true) : TL.eqT x y st = eqdT false x y st := by
  cases x <;> cases y <;> first | rfl | (simp [isBox] at hx) | (simp [isBox] at hy)
theorem reprT_box {x : T} {st : Store} {d : PyData} (hx : isBox x = true) (h : toD st dpth x = some d) (g : goodD d) : reprU [x] st = some (.str d.shown, st) := by
  obtain ⟨_, g2, g3, g4, g5⟩ := g
  cases x <;> first | (simp [isBox] at hx; done) | simp [reprU, reprT, h, g2, g3, g4, g5]
theorem alike_ok {x y : T} {st : Store} {d : PyData} (hx : isBox x = true) (hy : isBox y = true) (h1 : toD st dpth x = some d) (h2 : toD st dpth y = some d) (g : goodD d) : F__law_alike [x, y] st = some (.bl true, st) := by
  have e1 : eqdT false x y st = some (.bl true, st) := by
    unfold eqdT
    rw [h1, h2]
    have := SeqAt.eqv_refl d (SeqAt.canLay_of_shaped g.1)
    simp [g.1, this]
  have e2 : TL.eqT (.str d.shown) (.str d.shown) st = some (.bl true, st) := by simp [TL.eqT]
  simp [F__law_alike, B__law_alike, fnF, xAnd, eqT_box hx hy, e1, reprT_box hx h1 g, reprT_box hy h2 g, e2]
theorem alike_b (a : Bool) (st : Store) : F__law_alike [.bl a, .bl a] st = some (.bl true, st) := by
  cases a <;> simp [F__law_alike, B__law_alike, fnF, xAnd, TL.eqT, reprU]
theorem alike_n (st : Store) : F__law_alike [.non, .non] st = some (.bl true, st) := by
  have h : TL.eqT .non .non st = some (.bl true, st) := by
    have h1 : SeqAt.shaped .none = true := by decide +kernel
    have h2 : PyData.eqv .none .none = true := by decide +kernel
    show eqdT false .non .non st = _
    unfold eqdT
    have h0 : toD st dpth .non = some .none := by unfold dpth toD; rfl
    simp only [h0, h1, h2, Bool.and_self, if_true]
    rfl
  have h3 : ∀ x : Str, ∀ s : Store, TL.eqT (.str x) (.str x) s = some (.bl true, s) := fun x s => by simp [TL.eqT]
  simp [F__law_alike, B__law_alike, fnF, xAnd, h, reprU, h3]
abbrev s__law_is_int : Stmt := top 29
abbrev N__law_is_int : List Str := ["_law_thing"]
abbrev P__law_is_int : List Str := ["_law_thing"]
theorem sc__law_is_int : FnScope N__law_is_int P__law_is_int (defScope s__law_is_int) := ⟨rfl, rfl, rfl, by decide +kernel, rfl, by decide +kernel, by decide +kernel⟩
def B__law_is_int : XS := (xsRet (xAnd (xIsi "int" (xVar 0)) (xNot (xIsi "bool" (xVar 0)))))
def F__law_is_int : FA := fnF 1 1 B__law_is_int
abbrev s__law_divisor : Stmt := top 30
abbrev N__law_divisor : List Str := ["_law_one", "_law_other"]
abbrev P__law_divisor : List Str := ["_law_one", "_law_other"]
theorem sc__law_divisor : FnScope N__law_divisor P__law_divisor (defScope s__law_divisor) := ⟨rfl, rfl, rfl, by decide +kernel, rfl, by decide +kernel, by decide +kernel⟩
def fuel__law_divisor := fuelAll
def B__law_divisor : XS := (xsSeq (xsWhile fuel__law_divisor (xBl (xBin gtT (xVar 1) (xC (.int 0))))
    (xsPar 0 1 (xCons (xVar 1) (xCons (xBin modT (xCall intT (xCons (xVar 0) xNil)) (xCall intT (xCons (xVar 1) xNil))) xNil))))
    (xsRet (xVar 0)))
def F__law_divisor : FA := fnF 2 2 B__law_divisor
theorem step_div (n : Nat) (a b : Nat) (st : Store) : b < n → whileF (xBl (xBin gtT (xVar 1) (xC (.int 0)))) (xsPar 0 1 (xCons (xVar 1) (xCons (xBin modT (xCall intT (xCons (xVar 0) xNil)) (xCall intT (xCons (xVar 1) xNil))) xNil))) n [some (.int a), some (.int b)] st
    = some (.nx [some (.int ((Nat.gcd a b : Nat) : Int)), some (.int 0)] st) := by
  induction n generalizing a b with
  | zero => intro h; omega
  | succ n ih =>
    intro h
    unfold whileF
    by_cases hb : b = 0
    · subst hb
      simp
    · have hpos : (0 : Int) < (b : Int) := by omega
      have hne : ((b : Nat) : Int) ≠ 0 := by omega
      have hlt : a % b < n := by
        have := Nat.mod_lt a (Nat.pos_of_ne_zero hb)
        omega
      have hm : ((a : Int)).fmod (b : Int) = ((a % b : Nat) : Int) := by
        rw [Int.fmod_eq_emod_of_nonneg _ (by omega)]
        exact (Int.natCast_emod a b).symm
      have hi := ih b (a % b) hlt
      have hg : Nat.gcd b (a % b) = Nat.gcd a b := by rw [Nat.gcd_comm b, ← Nat.gcd_rec, Nat.gcd_comm]
      rw [hg] at hi
      simp only [r_xBl, r_xBin, r_xVar, r_xC, List.getElem?_cons_succ, List.getElem?_cons_zero, Option.bind_some, r_gt, gt_iff_lt, hpos, decide_true, if_true, xsPar, r_xCons, r_xCall, r_xNil, r_intT, r_mod, ne_eq, hne, not_false_eq_true, hm, List.set_cons_zero, List.set_cons_succ]
      exact hi
theorem run_div (a b : Nat) (st : Store) : F__law_divisor [.int a, .int b] st = some (.int ((Nat.gcd a b : Nat) : Int), st) := by
  have hf : b < fuelAll [some (.int (a : Int)), some (.int (b : Int))] st := by
    unfold fuelAll
    simp
    omega
  have := step_div _ a b st hf
  simp [F__law_divisor, B__law_divisor, fnF, xsWhile, fuel__law_divisor, this]
abbrev s__law_over : Stmt := top 31
abbrev N__law_over : List Str := ["_law_num", "_law_den", "_law_by"]
abbrev P__law_over : List Str := ["_law_num", "_law_den"]
theorem sc__law_over : FnScope N__law_over P__law_over (defScope s__law_over) := ⟨rfl, rfl, rfl, by decide +kernel, rfl, by decide +kernel, by decide +kernel⟩
def B__law_over : XS := (xsSeq (xsSet 2 (xCall F__law_divisor (xCons (xCall absT (xCons (xVar 0) xNil)) (xCons (xCall absT (xCons (xVar 1) xNil)) xNil))))
    (xsSeq (xsSet 2 (xIf (xBl (xBin gtT (xVar 1) (xC (.int 0)))) (xVar 2) (xUn negT (xVar 2))))
    (xsRet (xCall tupT (xCons (xBin fdivT (xVar 0) (xVar 2)) (xCons (xBin fdivT (xVar 1) (xVar 2)) xNil))))))
def F__law_over : FA := fnF 2 3 B__law_over
def S__law_over : FA := fun ts st => match ts with
  | [.int n, .int d] => if d ≠ 0 ∧ d.natAbs.log2 < 9000 then some (fr (nf n d), st) else none
  | _ => none
theorem run_lover {n d : Int} {st : Store} (hd : d ≠ 0) (hs : d.natAbs.log2 < 9000) : F__law_over [.int n, .int d] st = some (fr (nf n d), st) := by
  have hg : (Nat.gcd n.natAbs d.natAbs) ≠ 0 := by
    intro h
    have := Nat.eq_zero_of_gcd_eq_zero_right h
    omega
  have hl := gcd_log (n := n) hd hs
  by_cases h : d < 0
  · have h2 : ¬ (0 < d) := by omega
    simp only [F__law_over, B__law_over, fnF, List.length_cons, List.length_nil, r_xsSeq, r_xsSet, r_xCall, r_xCons, r_xNil, r_xVar, List.map_cons, List.map_nil, List.cons_append, List.nil_append, List.getElem?_cons_zero, List.getElem?_cons_succ, Option.bind_some, r_abs, abs_nat, run_div, Option.map_some]
    simp [h, h2, nf, sg, hg, hl]
  · have h2 : 0 < d := by omega
    simp only [F__law_over, B__law_over, fnF, List.length_cons, List.length_nil, r_xsSeq, r_xsSet, r_xCall, r_xCons, r_xNil, r_xVar, List.map_cons, List.map_nil, List.cons_append, List.nil_append, List.getElem?_cons_zero, List.getElem?_cons_succ, Option.bind_some, r_abs, abs_nat, run_div, Option.map_some]
    simp [h, h2, nf, sg, hg, hl]
theorem cut__law_over : ∀ ts st t st', S__law_over ts st = some (t, st') → ∃ t2 st2, F__law_over ts st = some (t2, st2) ∧ Cut st t2 st2 t st' := by
  intro ts st t st' e
  unfold S__law_over at e
  split at e
  · split at e
    · rename_i h
      cases e
      exact ⟨_, _, run_lover h.1 h.2, Cut.refl _ _ _⟩
    · cases e
  · cases e
abbrev s__law_added : Stmt := top 32
abbrev N__law_added : List Str := ["_law_one", "_law_other"]
abbrev P__law_added : List Str := ["_law_one", "_law_other"]
theorem sc__law_added : FnScope N__law_added P__law_added (defScope s__law_added) := ⟨rfl, rfl, rfl, by decide +kernel, rfl, by decide +kernel, by decide +kernel⟩
def B__law_added : XS := (xsRet (xCall S__law_over (xCons (xBin addT (xBin mulT (xBin ixA (xVar 0) (xC (.int 0))) (xBin ixA (xVar 1) (xC (.int 1)))) (xBin mulT (xBin ixA (xVar 1) (xC (.int 0))) (xBin ixA (xVar 0) (xC (.int 1))))) (xCons (xBin mulT (xBin ixA (xVar 0) (xC (.int 1))) (xBin ixA (xVar 1) (xC (.int 1)))) xNil))))
def F__law_added : FA := fnF 2 2 B__law_added
def S__law_added : FA := S_added
theorem cut__law_added : ∀ ts st t st', S__law_added ts st = some (t, st') → ∃ t2 st2, F__law_added ts st = some (t2, st2) ∧ Cut st t2 st2 t st' := by
  intro ts st t st' e
  unfold S__law_added S_added at e
  split at e
  · split at e
    · rename_i h
      cases e
      refine ⟨_, _, ?_, Cut.refl _ _ _⟩
      simp [F__law_added, B__law_added, fnF, h.1, h.2.1, h.2.2.1, S__law_over, h.2.2.2.1, h.2.2.2.2]
    · cases e
  · cases e
abbrev s__law_less : Stmt := top 33
abbrev N__law_less : List Str := ["_law_one", "_law_other"]
abbrev P__law_less : List Str := ["_law_one", "_law_other"]
theorem sc__law_less : FnScope N__law_less P__law_less (defScope s__law_less) := ⟨rfl, rfl, rfl, by decide +kernel, rfl, by decide +kernel, by decide +kernel⟩
def B__law_less : XS := (xsRet (xCall S__law_over (xCons (xBin subT (xBin mulT (xBin ixA (xVar 0) (xC (.int 0))) (xBin ixA (xVar 1) (xC (.int 1)))) (xBin mulT (xBin ixA (xVar 1) (xC (.int 0))) (xBin ixA (xVar 0) (xC (.int 1))))) (xCons (xBin mulT (xBin ixA (xVar 0) (xC (.int 1))) (xBin ixA (xVar 1) (xC (.int 1)))) xNil))))
def F__law_less : FA := fnF 2 2 B__law_less
def S__law_less : FA := S_lessened
theorem cut__law_less : ∀ ts st t st', S__law_less ts st = some (t, st') → ∃ t2 st2, F__law_less ts st = some (t2, st2) ∧ Cut st t2 st2 t st' := by
  intro ts st t st' e
  unfold S__law_less S_lessened at e
  split at e
  · split at e
    · rename_i h
      cases e
      refine ⟨_, _, ?_, Cut.refl _ _ _⟩
      simp [F__law_less, B__law_less, fnF, h.1, h.2.1, h.2.2.1, S__law_over, h.2.2.2.1, h.2.2.2.2]
    · cases e
  · cases e
abbrev s__law_times : Stmt := top 34
abbrev N__law_times : List Str := ["_law_one", "_law_other"]
abbrev P__law_times : List Str := ["_law_one", "_law_other"]
theorem sc__law_times : FnScope N__law_times P__law_times (defScope s__law_times) := ⟨rfl, rfl, rfl, by decide +kernel, rfl, by decide +kernel, by decide +kernel⟩
def B__law_times : XS := (xsRet (xCall S__law_over (xCons (xBin mulT (xBin ixA (xVar 0) (xC (.int 0))) (xBin ixA (xVar 1) (xC (.int 0)))) (xCons (xBin mulT (xBin ixA (xVar 0) (xC (.int 1))) (xBin ixA (xVar 1) (xC (.int 1)))) xNil))))
def F__law_times : FA := fnF 2 2 B__law_times
def S__law_times : FA := S_times
theorem cut__law_times : ∀ ts st t st', S__law_times ts st = some (t, st') → ∃ t2 st2, F__law_times ts st = some (t2, st2) ∧ Cut st t2 st2 t st' := by
  intro ts st t st' e
  unfold S__law_times S_times at e
  split at e
  · split at e
    · rename_i h
      cases e
      refine ⟨_, _, ?_, Cut.refl _ _ _⟩
      simp [F__law_times, B__law_times, fnF, h.1, h.2.1, S__law_over, h.2.2.1, h.2.2.2]
    · cases e
  · cases e
abbrev s__law_is_less : Stmt := top 35
abbrev N__law_is_less : List Str := ["_law_one", "_law_other"]
abbrev P__law_is_less : List Str := ["_law_one", "_law_other"]
theorem sc__law_is_less : FnScope N__law_is_less P__law_is_less (defScope s__law_is_less) := ⟨rfl, rfl, rfl, by decide +kernel, rfl, by decide +kernel, by decide +kernel⟩
def B__law_is_less : XS := (xsRet (xBin ltT (xBin mulT (xBin ixA (xVar 0) (xC (.int 0))) (xBin ixA (xVar 1) (xC (.int 1)))) (xBin mulT (xBin ixA (xVar 1) (xC (.int 0))) (xBin ixA (xVar 0) (xC (.int 1))))))
def F__law_is_less : FA := fnF 2 2 B__law_is_less
def S__law_is_less : FA := fun ts st => match ts with
  | [.tup [.int a, .int b], .tup [.int c, .int d]] => if bitsOk a d = true ∧ bitsOk c b = true then some (.bl (decide (a * d < c * b)), st) else none
  | _ => none
theorem cut__law_is_less : ∀ ts st t st', S__law_is_less ts st = some (t, st') → ∃ t2 st2, F__law_is_less ts st = some (t2, st2) ∧ Cut st t2 st2 t st' := by
  intro ts st t st' e
  unfold S__law_is_less at e
  split at e
  · split at e
    · rename_i h
      cases e
      refine ⟨_, _, ?_, Cut.refl _ _ _⟩
      simp [F__law_is_less, B__law_is_less, fnF, h.1, h.2]
    · cases e
  · cases e
theorem less_ok {p q : Rat} {k : Nat} {st : Store} (hp : Sz k p) (hq : Sz k q) (hk : k ≤ 4000) : S__law_is_less [fq p, fq q] st = some (.bl (decide (p < q)), st) := by
  have e : (p.num * (q.den : Int) < q.num * (p.den : Int)) ↔ p < q := by rw [Rat.lt_iff]
  show (if _ then some (T.bl (decide _), st) else none) = _
  rw [if_pos ⟨bits_of hp.n (natAbs_den hq) hk, bits_of hq.n (natAbs_den hp) hk⟩]
  simp only [e]
abbrev s__law_total : Stmt := top 36
abbrev N__law_total : List Str := ["_law_fractions", "_law_found", "_law_one"]
abbrev P__law_total : List Str := ["_law_fractions"]
theorem sc__law_total : FnScope N__law_total P__law_total (defScope s__law_total) := ⟨rfl, rfl, rfl, by decide +kernel, rfl, by decide +kernel, by decide +kernel⟩
def B__law_total : XS := (xsSeq (xsSet 1 (xCall tupT (xCons (xC (.int 0)) (xCons (xC (.int 1)) xNil))))
    (xsSeq (xsFor (xiSeq (xVar 0)) (xgName 2)
    (xsSet 1 (xCall S__law_added (xCons (xVar 1) (xCons (xVar 2) xNil)))))
    (xsRet (xVar 1))))
def F__law_total : FA := fnF 1 3 B__law_total
theorem total_law {x : T} {st : Store} {it : Its1} {qs : List Rat} {k : Nat} (hfi : ∀ a b, xiSeq (xVar 0) [some x, a, b] st = some (it, st)) (hit : it st = some (qs.map fun q => fq q)) (hq : ∀ q ∈ qs, Sz k q) (hk : 1 + qs.length * (k + 1) ≤ 4000) : F__law_total [x] st = some (fq (sumQ qs), st) := by
  have e0 : fq (0 : Rat) = .tup [.int 0, .int 1] := rfl
  obtain ⟨e', s', h1, h2⟩ := for_inv (g := xgName 2) (b := xsSet 1 (xCall S__law_added (xCons (xVar 1) (xCons (xVar 2) xNil)))) (ts := qs.map fun q => fq q)
    (fun i e s => s = st ∧ i ≤ qs.length ∧ ∃ o, e = [some x, some (fq (sumQ (qs.take i))), o]) (hfi (some (fq 0)) none) (fun i e s h => by rw [h.1]; exact hit) ⟨rfl, Nat.zero_le _, none, by simp [sumQ]⟩
    (fun i e s y hy h => by
      obtain ⟨rfl, hi, o, rfl⟩ := h
      rw [List.getElem?_map] at hy
      cases hqi : qs[i]? with
      | none => rw [hqi] at hy; cases hy
      | some q =>
        rw [hqi] at hy
        cases hy
        have hlt := (List.getElem?_eq_some_iff.mp hqi).1
        have zq := hq q (List.mem_of_getElem? hqi)
        have z1 := Sz.sum hq i (by omega)
        have hmul : i * (k + 1) + (k + 1) ≤ qs.length * (k + 1) := by rw [← Nat.succ_mul]; exact Nat.mul_le_mul_right _ hlt
        have ad : S__law_added [fq (sumQ (qs.take i)), fq q] s = some (fq (sumQ (qs.take i) + q), s) := q_added (k := 1 + i * (k + 1) + k) (z1.up (by omega)) (zq.up (by omega)) (by omega)
        refine ⟨_, _, _, [some x, some (fq (sumQ (qs.take (i + 1)))), some (fq q)], s, rfl, ?_, .inl rfl, rfl, by omega, _, rfl⟩
        simp [ad, sumQ_take hqi])
  obtain ⟨rfl, _, o, rfl⟩ := h2
  have hl : (qs.map fun q => fq q).length = qs.length := by simp
  rw [hl, List.take_length] at h1
  have s2 : (2 : Nat) ≤ sizeLine := by decide
  simp [F__law_total, B__law_total, fnF, s2]
  rw [show ([some x, some (T.tup [T.int 0, T.int 1]), none] : Env1) = [some x, some (fq 0), none] from rfl, h1]
  simp
abbrev s__law_sorted : Stmt := top 37
abbrev N__law_sorted : List Str := ["_law_fractions", "_law_found", "_law_one", "_law_at", "_law_other"]
abbrev P__law_sorted : List Str := ["_law_fractions"]
theorem sc__law_sorted : FnScope N__law_sorted P__law_sorted (defScope s__law_sorted) := ⟨rfl, rfl, rfl, by decide +kernel, rfl, by decide +kernel, by decide +kernel⟩
def B__law_sorted : XS := (xsSeq (xsSet 1 (xCall lstT xNil))
    (xsSeq (xsFor (xiSeq (xVar 0)) (xgName 2)
    (xsSeq (xsSet 3 (xCall lenT (xCons (xLc (xiSeq (xVar 1)) (xgName 4) [4] (xTru (xCall S__law_is_less (xCons (xVar 4) (xCons (xVar 2) xNil)))) (xVar 4)) xNil)))
    (xsIf (xBl (xBin (inA true) (xVar 2) (xVar 1)))
    (xsExpr (xMeth "list" insertT (xVar 1) (xCons (xVar 3) (xCons (xVar 2) xNil))))
    xsNil)))
    (xsRet (xVar 1))))
def F__law_sorted : FA := fnF 1 5 B__law_sorted
abbrev s__law_fraction : Stmt := top 38
abbrev N__law_fraction : List Str := ["_law_bag_here"]
abbrev P__law_fraction : List Str := ["_law_bag_here"]
theorem sc__law_fraction : FnScope N__law_fraction P__law_fraction (defScope s__law_fraction) := ⟨rfl, rfl, rfl, by decide +kernel, rfl, by decide +kernel, by decide +kernel⟩
def B__law_fraction : XS := (xsRet (xCall S__law_over (xCons (xCall F__law_some (xCons (xVar 0) (xCons (xCall lstT (xCons (xC (.int 0)) (xCons (xC (.int 1)) (xCons (xUn negT (xC (.int 1))) (xCons (xC (.int 2)) (xCons (xC (.int 3)) (xCons (xUn negT (xC (.int 2))) (xCons (xC (.int 5)) (xCons (xUn negT (xC (.int 7))) (xCons (xC (.int 1)) (xCons (xC (.int 4)) xNil))))))))))) xNil))) (xCons (xCall F__law_some (xCons (xVar 0) (xCons (xCall lstT (xCons (xC (.int 1)) (xCons (xC (.int 1)) (xCons (xC (.int 1)) (xCons (xC (.int 2)) (xCons (xC (.int 3)) (xCons (xC (.int 4)) xNil))))))) xNil))) xNil))))
def F__law_fraction : FA := fnF 1 1 B__law_fraction
noncomputable def S__law_fraction : FA := cutF F__law_fraction
theorem cut__law_fraction : ∀ ts st t st', S__law_fraction ts st = some (t, st') → ∃ t2 st2, F__law_fraction ts st = some (t2, st2) ∧ Cut st t2 st2 t st' := cutF_cut
theorem ints_mem {is : List Int} {x : T} (h : x ∈ is.map T.int) : ∃ i ∈ is, x = .int i := by
  obtain ⟨i, hi, rfl⟩ := List.mem_map.mp h
  exact ⟨i, hi, rfl⟩
theorem fraction_ok {N : Nat} {st : Store} {l m : Nat} (h : BagAt N st l m) (hN : N + 2 ≤ 1000000) : ∃ q st', S__law_fraction [.ref l] st = some (fq q, st') ∧ Sz 4 q ∧ Only l st st' ∧ BagAt (N + 2) st' l m := by
  obtain ⟨a0, b0, c0, cs0, e1, e2, hlm, _⟩ := id h.ex
  have hl := (List.getElem?_eq_some_iff.mp e1).1
  have t1 := some_list (j := st.length) (ts := ([0, 1, -1, 2, 3, -2, 5, -7, 1, 4] : List Int).map T.int) (h.more [.lst (([0, 1, -1, 2, 3, -2, 5, -7, 1, 4] : List Int).map T.int)]) (by omega) (by simp) (by omega) (by simp) (by decide)
  obtain ⟨x, s2, f1, hx, o1, b1⟩ := t1
  have hs2 : s2.length = st.length + 1 := by rw [o1.len]; simp
  have t2 := some_list (j := s2.length) (ts := ([1, 1, 1, 2, 3, 4] : List Int).map T.int) (b1.more [.lst (([1, 1, 1, 2, 3, 4] : List Int).map T.int)]) (by omega) (by simp) (by omega) (by simp) (by decide)
  obtain ⟨y, s3, f2, hy, o2, b2⟩ := t2
  obtain ⟨n, hn, rfl⟩ := ints_mem hx
  obtain ⟨d, hd, rfl⟩ := ints_mem hy
  have hd1 : 0 < d ∧ d.natAbs < 2 ^ 4 := by
    simp at hd
    rcases hd with rfl | rfl | rfl | rfl <;> decide
  have hn1 : n.natAbs < 2 ^ 4 := by
    simp at hn
    rcases hn with rfl | rfl | rfl | rfl | rfl | rfl | rfl | rfl | rfl | rfl <;> decide
  have hdl : d.natAbs.log2 < 9000 := by have := log2_of hd1.2; omega
  have sz10 : (10 : Nat) ≤ sizeLine := by decide
  have sz6 : (6 : Nat) ≤ sizeLine := by decide
  simp only [List.map_cons, List.map_nil] at f1 f2
  have hF : F__law_fraction [.ref l] st = some (fq (Rat.divInt n d), s3) := by
    have hdn : d ≠ 0 := by omega
    rw [← nf_rat hdn]
    simp [F__law_fraction, B__law_fraction, fnF, sz10, sz6, f1, f2, S__law_over, hdn, hdl]
  have mo : More l st s3 := ((More.app l st _).trans o1.more).trans ((More.app l s2 _).trans o2.more)
  obtain ⟨st', g1, g2, g3⟩ := cutF_bag hF h b2 mo rfl
  exact ⟨_, st', g1, sz_div hd1.1 hn1 hd1.2, g2, g3⟩
abbrev s__law_two_throw : Stmt := top 39
abbrev N__law_two_throw : List Str := ["_law_low", "_law_mean", "_law_high", "_law_wide", "_law_up"]
abbrev P__law_two_throw : List Str := ["_law_low", "_law_mean", "_law_high"]
theorem sc__law_two_throw : FnScope N__law_two_throw P__law_two_throw (defScope s__law_two_throw) := ⟨rfl, rfl, rfl, by decide +kernel, rfl, by decide +kernel, by decide +kernel⟩
def B__law_two_throw : XS := (xsSeq (xsIf (xOrT (xBl (xBin eqT (xVar 0) (xVar 1))) (xBl (xBin eqT (xVar 2) (xVar 1))))
    (xsRet (xCall tupT (xCons (xCall tupT (xCons (xVar 1) (xCons (xCall tupT (xCons (xC (.int 1)) (xCons (xC (.int 1)) xNil))) xNil))) xNil)))
    xsNil)
    (xsSeq (xsSet 3 (xCall S__law_less (xCons (xVar 2) (xCons (xVar 0) xNil))))
    (xsSeq (xsSet 4 (xCall S__law_over (xCons (xBin mulT (xBin ixA (xCall S__law_less (xCons (xVar 1) (xCons (xVar 0) xNil))) (xC (.int 0))) (xBin ixA (xVar 3) (xC (.int 1)))) (xCons (xBin mulT (xBin ixA (xCall S__law_less (xCons (xVar 1) (xCons (xVar 0) xNil))) (xC (.int 1))) (xBin ixA (xVar 3) (xC (.int 0)))) xNil))))
    (xsRet (xCall tupT (xCons (xCall tupT (xCons (xVar 0) (xCons (xCall S__law_less (xCons (xCall tupT (xCons (xC (.int 1)) (xCons (xC (.int 1)) xNil))) (xCons (xVar 4) xNil))) xNil))) (xCons (xCall tupT (xCons (xVar 2) (xCons (xVar 4) xNil))) xNil)))))))
def F__law_two_throw : FA := fnF 3 5 B__law_two_throw
abbrev s__law_is_frac : Stmt := top 40
abbrev N__law_is_frac : List Str := ["_law_thing"]
abbrev P__law_is_frac : List Str := ["_law_thing"]
theorem sc__law_is_frac : FnScope N__law_is_frac P__law_is_frac (defScope s__law_is_frac) := ⟨rfl, rfl, rfl, by decide +kernel, rfl, by decide +kernel, by decide +kernel⟩
def B__law_is_frac : XS := (xsSeq (xsIf (xOrT (xNotT (xTru (xIsi "tuple" (xVar 0)))) (xOrT (xBl (xBin neT (xCall lenT (xCons (xVar 0) xNil)) (xC (.int 2)))) (xOrT (xNotT (xTru (xCall F__law_is_int (xCons (xBin ixA (xVar 0) (xC (.int 0))) xNil)))) (xNotT (xTru (xCall F__law_is_int (xCons (xBin ixA (xVar 0) (xC (.int 1))) xNil)))))))
    (xsRet (xC (.bl false)))
    xsNil)
    (xsRet (xAnd (xBin gtT (xBin ixA (xVar 0) (xC (.int 1))) (xC (.int 0))) (xBin eqT (xCall F__law_divisor (xCons (xCall absT (xCons (xBin ixA (xVar 0) (xC (.int 0))) xNil)) (xCons (xBin ixA (xVar 0) (xC (.int 1))) xNil))) (xC (.int 1))))))
def F__law_is_frac : FA := fnF 1 1 B__law_is_frac
abbrev s__law_are_fracs : Stmt := top 41
abbrev N__law_are_fracs : List Str := ["_law_thing", "_law_one"]
abbrev P__law_are_fracs : List Str := ["_law_thing"]
theorem sc__law_are_fracs : FnScope N__law_are_fracs P__law_are_fracs (defScope s__law_are_fracs) := ⟨rfl, rfl, rfl, by decide +kernel, rfl, by decide +kernel, by decide +kernel⟩
def B__law_are_fracs : XS := (xsRet (xAnd (xIsi "tuple" (xVar 0)) (xBin eqT (xLc (xiSeq (xVar 0)) (xgName 1) [1] (xNotT (xTru (xCall F__law_is_frac (xCons (xVar 1) xNil)))) (xVar 1)) (xCall lstT xNil))))
def F__law_are_fracs : FA := fnF 1 2 B__law_are_fracs
abbrev s__law_is_throw : Stmt := top 42
abbrev N__law_is_throw : List Str := ["_law_thing", "_law_one", "_law_at", "_law_value", "_law_chance"]
abbrev P__law_is_throw : List Str := ["_law_thing"]
theorem sc__law_is_throw : FnScope N__law_is_throw P__law_is_throw (defScope s__law_is_throw) := ⟨rfl, rfl, rfl, by decide +kernel, rfl, by decide +kernel, by decide +kernel⟩
def B__law_is_throw : XS := (xsSeq (xsIf (xOrT (xNotT (xTru (xIsi "tuple" (xVar 0)))) (xBl (xBin eqT (xVar 0) (xCall tupT xNil))))
    (xsRet (xC (.bl false)))
    xsNil)
    (xsSeq (xsIf (xBl (xBin neT (xLc (xiSeq (xVar 0)) (xgName 1) [1] (xOrT (xNotT (xTru (xCall F__law_are_fracs (xCons (xVar 1) xNil)))) (xOrT (xBl (xBin neT (xCall lenT (xCons (xVar 1) xNil)) (xC (.int 2)))) (xBl (xBin leT (xBin ixA (xBin ixA (xVar 1) (xC (.int 1))) (xC (.int 0))) (xC (.int 0)))))) (xVar 1)) (xCall lstT xNil)))
    (xsRet (xC (.bl false)))
    xsNil)
    (xsSeq (xsIf (xBl (xBin neT (xLc (xiRange1 (xBin subT (xCall lenT (xCons (xVar 0) xNil)) (xC (.int 1)))) (xgName 2) [2] (xNotT (xTru (xCall S__law_is_less (xCons (xBin ixA (xBin ixA (xVar 0) (xVar 2)) (xC (.int 0))) (xCons (xBin ixA (xBin ixA (xVar 0) (xBin addT (xVar 2) (xC (.int 1)))) (xC (.int 0))) xNil))))) (xVar 2)) (xCall lstT xNil)))
    (xsRet (xC (.bl false)))
    xsNil)
    (xsRet (xBin eqT (xCall F__law_total (xCons (xLc (xiSeq (xVar 0)) (xgTup 2 (xgsCons (xgName 3) (xgsCons (xgName 4) xgsNil))) [3, 4] xYes (xVar 4)) xNil)) (xCall tupT (xCons (xC (.int 1)) (xCons (xC (.int 1)) xNil))))))))
def F__law_is_throw : FA := fnF 1 5 B__law_is_throw
abbrev s__law_mean_of : Stmt := top 43
abbrev N__law_mean_of : List Str := ["_law_throw", "_law_value", "_law_chance"]
abbrev P__law_mean_of : List Str := ["_law_throw"]
theorem sc__law_mean_of : FnScope N__law_mean_of P__law_mean_of (defScope s__law_mean_of) := ⟨rfl, rfl, rfl, by decide +kernel, rfl, by decide +kernel, by decide +kernel⟩
def B__law_mean_of : XS := (xsRet (xCall F__law_total (xCons (xLc (xiSeq (xVar 0)) (xgTup 2 (xgsCons (xgName 1) (xgsCons (xgName 2) xgsNil))) [1, 2] xYes (xCall S__law_times (xCons (xVar 1) (xCons (xVar 2) xNil)))) xNil)))
def F__law_mean_of : FA := fnF 1 3 B__law_mean_of
abbrev s__law_law_of : Stmt := top 44
abbrev N__law_law_of : List Str := ["_law_ends", "_law_found", "_law_value", "_law_chance"]
abbrev P__law_law_of : List Str := ["_law_ends"]
theorem sc__law_law_of : FnScope N__law_law_of P__law_law_of (defScope s__law_law_of) := ⟨rfl, rfl, rfl, by decide +kernel, rfl, by decide +kernel, by decide +kernel⟩
def B__law_law_of : XS := (xsSeq (xsSet 1 xDictN)
    (xsSeq (xsFor (xiSeq (xVar 0)) (xgTup 2 (xgsCons (xgName 2) (xgsCons (xgName 3) xgsNil)))
    (xsAsg (xCall S__law_added (xCons (xMethX "dict" getOrT (xVar 1) (xCons (xVar 2) (xCons (xCall tupT (xCons (xC (.int 0)) (xCons (xC (.int 1)) xNil))) xNil))) (xCons (xVar 3) xNil))) (xgSubA (xVar 1) (xVar 2))))
    (xsRet (xCall tupleT (xCons (xLc (xiSeq (xCall F__law_sorted (xCons (xCall listDT (xCons (xVar 1) xNil)) xNil))) (xgName 2) [2] xYes (xCall tupT (xCons (xVar 2) (xCons (xBin ixA (xVar 1) (xVar 2)) xNil)))) xNil)))))
def F__law_law_of : FA := fnF 1 4 B__law_law_of
abbrev s__law_floor : Stmt := top 45
abbrev N__law_floor : List Str := ["_law_number_here", "_law_grain_here"]
abbrev P__law_floor : List Str := ["_law_number_here", "_law_grain_here"]
theorem sc__law_floor : FnScope N__law_floor P__law_floor (defScope s__law_floor) := ⟨rfl, rfl, rfl, by decide +kernel, rfl, by decide +kernel, by decide +kernel⟩
def B__law_floor : XS := (xsRet (xBin fdivT (xBin mulT (xBin ixA (xVar 0) (xC (.int 0))) (xBin ixA (xVar 1) (xC (.int 1)))) (xBin mulT (xBin ixA (xVar 0) (xC (.int 1))) (xBin ixA (xVar 1) (xC (.int 0))))))
def F__law_floor : FA := fnF 2 2 B__law_floor
abbrev s__law_neighbours : Stmt := top 46
abbrev N__law_neighbours : List Str := ["_law_number_here", "_law_grain_here", "_law_low", "_law_high"]
abbrev P__law_neighbours : List Str := ["_law_number_here", "_law_grain_here"]
theorem sc__law_neighbours : FnScope N__law_neighbours P__law_neighbours (defScope s__law_neighbours) := ⟨rfl, rfl, rfl, by decide +kernel, rfl, by decide +kernel, by decide +kernel⟩
def B__law_neighbours : XS := (xsSeq (xsSet 2 (xCall F__law_floor (xCons (xVar 0) (xCons (xVar 1) xNil))))
    (xsSeq (xsPar 2 3 (xCons (xCall S__law_times (xCons (xCall tupT (xCons (xVar 2) (xCons (xC (.int 1)) xNil))) (xCons (xVar 1) xNil))) (xCons (xCall S__law_times (xCons (xCall tupT (xCons (xBin addT (xVar 2) (xC (.int 1))) (xCons (xC (.int 1)) xNil))) (xCons (xVar 1) xNil))) xNil)))
    (xsRet (xCall tupT (xCons (xVar 2) (xCons (xIf (xBl (xBin eqT (xVar 2) (xVar 0))) (xVar 2) (xVar 3)) xNil))))))
def F__law_neighbours : FA := fnF 2 4 B__law_neighbours
abbrev s__law_neighbour_throw : Stmt := top 47
abbrev N__law_neighbour_throw : List Str := ["_law_number_here", "_law_grain_here", "_law_low", "_law_high"]
abbrev P__law_neighbour_throw : List Str := ["_law_number_here", "_law_grain_here"]
theorem sc__law_neighbour_throw : FnScope N__law_neighbour_throw P__law_neighbour_throw (defScope s__law_neighbour_throw) := ⟨rfl, rfl, rfl, by decide +kernel, rfl, by decide +kernel, by decide +kernel⟩
def B__law_neighbour_throw : XS := (xsSeq (xsAsg (xCall F__law_neighbours (xCons (xVar 0) (xCons (xVar 1) xNil))) (xgTup 2 (xgsCons (xgName 2) (xgsCons (xgName 3) xgsNil))))
    (xsRet (xIf (xBl (xBin neT (xVar 2) (xVar 3))) (xCall F__law_two_throw (xCons (xVar 2) (xCons (xVar 0) (xCons (xVar 3) xNil)))) (xCall tupT (xCons (xCall tupT (xCons (xVar 0) (xCons (xCall tupT (xCons (xC (.int 1)) (xCons (xC (.int 1)) xNil))) xNil))) xNil)))))
def F__law_neighbour_throw : FA := fnF 2 4 B__law_neighbour_throw
abbrev s__law_grain : Stmt := top 48
abbrev N__law_grain : List Str := ["_law_bag_here"]
abbrev P__law_grain : List Str := ["_law_bag_here"]
theorem sc__law_grain : FnScope N__law_grain P__law_grain (defScope s__law_grain) := ⟨rfl, rfl, rfl, by decide +kernel, rfl, by decide +kernel, by decide +kernel⟩
def B__law_grain : XS := (xsRet (xCall F__law_some (xCons (xVar 0) (xCons (xCall lstT (xCons (xCall tupT (xCons (xC (.int 1)) (xCons (xC (.int 1)) xNil))) (xCons (xCall tupT (xCons (xC (.int 1)) (xCons (xC (.int 2)) xNil))) (xCons (xCall tupT (xCons (xC (.int 2)) (xCons (xC (.int 1)) xNil))) (xCons (xCall tupT (xCons (xC (.int 1)) (xCons (xC (.int 3)) xNil))) (xCons (xCall tupT (xCons (xC (.int 3)) (xCons (xC (.int 2)) xNil))) (xCons (xCall tupT (xCons (xC (.int 1)) (xCons (xC (.int 4)) xNil))) (xCons (xCall tupT (xCons (xC (.int 5)) (xCons (xC (.int 7)) xNil))) xNil)))))))) xNil))))
def F__law_grain : FA := fnF 1 1 B__law_grain
abbrev s__law_number : Stmt := top 49
abbrev N__law_number : List Str := ["_law_bag_here", "_law_grain_here", "_law_base"]
abbrev P__law_number : List Str := ["_law_bag_here", "_law_grain_here"]
theorem sc__law_number : FnScope N__law_number P__law_number (defScope s__law_number) := ⟨rfl, rfl, rfl, by decide +kernel, rfl, by decide +kernel, by decide +kernel⟩
def B__law_number : XS := (xsSeq (xsSet 2 (xCall S__law_times (xCons (xCall tupT (xCons (xCall F__law_some (xCons (xVar 0) (xCons (xCall lstT (xCons (xC (.int 0)) (xCons (xC (.int 1)) (xCons (xUn negT (xC (.int 1))) (xCons (xC (.int 2)) (xCons (xC (.int 7)) (xCons (xUn negT (xC (.int 12))) (xCons (xBin powT (xC (.int 10)) (xC (.int 4))) xNil)))))))) xNil))) (xCons (xC (.int 1)) xNil))) (xCons (xVar 1) xNil))))
    (xsRet (xCall S__law_added (xCons (xVar 2) (xCons (xCall F__law_some (xCons (xVar 0) (xCons (xCall lstT (xCons (xCall tupT (xCons (xC (.int 0)) (xCons (xC (.int 1)) xNil))) (xCons (xCall tupT (xCons (xC (.int 1)) (xCons (xC (.int 7)) xNil))) (xCons (xCall tupT (xCons (xUn negT (xC (.int 1))) (xCons (xC (.int 100)) xNil))) (xCons (xCall tupT (xCons (xC (.int 1)) (xCons (xC (.int 2)) xNil))) (xCons (xCall S__law_fraction (xCons (xVar 0) xNil)) (xCons (xCall tupT (xCons (xC (.int 1)) (xCons (xC (.int 997)) xNil))) xNil))))))) xNil))) xNil)))))
def F__law_number : FA := fnF 2 3 B__law_number
abbrev s__law_again : Stmt := top 50
abbrev N__law_again : List Str := ["_law_number_here", "_law_grains_here", "_law_found", "_law_grain_here", "_law_ends", "_law_value", "_law_chance", "_law_one", "_law_more"]
abbrev P__law_again : List Str := ["_law_number_here", "_law_grains_here"]
theorem sc__law_again : FnScope N__law_again P__law_again (defScope s__law_again) := ⟨rfl, rfl, rfl, by decide +kernel, rfl, by decide +kernel, by decide +kernel⟩
def B__law_again : XS := (xsSeq (xsSet 2 (xCall lstT (xCons (xCall tupT (xCons (xVar 0) (xCons (xCall tupT (xCons (xC (.int 1)) (xCons (xC (.int 1)) xNil))) xNil))) xNil)))
    (xsSeq (xsFor (xiSeq (xVar 1)) (xgName 3)
    (xsSeq (xsSet 4 (xCall lstT xNil))
    (xsSeq (xsFor (xiSeq (xVar 2)) (xgTup 2 (xgsCons (xgName 5) (xgsCons (xgName 6) xgsNil)))
    (xsExpr (xMeth "list" extendT (xVar 4) (xCons (xLc (xiSeq (xCall F__law_neighbour_throw (xCons (xVar 5) (xCons (xVar 3) xNil)))) (xgTup 2 (xgsCons (xgName 7) (xgsCons (xgName 8) xgsNil))) [7, 8] xYes (xCall tupT (xCons (xVar 7) (xCons (xCall S__law_times (xCons (xVar 6) (xCons (xVar 8) xNil))) xNil)))) xNil))))
    (xsSet 2 (xCall listDT (xCons (xCall F__law_law_of (xCons (xVar 4) xNil)) xNil))))))
    (xsRet (xCall tupleT (xCons (xVar 2) xNil)))))
def F__law_again : FA := fnF 2 9 B__law_again
abbrev s__law_is_multiple : Stmt := top 51
abbrev N__law_is_multiple : List Str := ["_law_one", "_law_grain_here"]
abbrev P__law_is_multiple : List Str := ["_law_one", "_law_grain_here"]
theorem sc__law_is_multiple : FnScope N__law_is_multiple P__law_is_multiple (defScope s__law_is_multiple) := ⟨rfl, rfl, rfl, by decide +kernel, rfl, by decide +kernel, by decide +kernel⟩
def B__law_is_multiple : XS := (xsRet (xBin eqT (xCall S__law_times (xCons (xCall tupT (xCons (xCall F__law_floor (xCons (xVar 0) (xCons (xVar 1) xNil))) (xCons (xC (.int 1)) xNil))) (xCons (xVar 1) xNil))) (xVar 0)))
def F__law_is_multiple : FA := fnF 2 2 B__law_is_multiple
abbrev s__law_grains : Stmt := top 52
abbrev N__law_grains : List Str := ["_law_bag_here", "_law_last", "_law_found", "_law_turn", "_law_part"]
abbrev P__law_grains : List Str := ["_law_bag_here"]
theorem sc__law_grains : FnScope N__law_grains P__law_grains (defScope s__law_grains) := ⟨rfl, rfl, rfl, by decide +kernel, rfl, by decide +kernel, by decide +kernel⟩
def B__law_grains : XS := (xsSeq (xsSet 1 (xCall F__law_grain (xCons (xVar 0) xNil)))
    (xsSeq (xsSet 2 (xCall lstT xNil))
    (xsSeq (xsFor (xiRange1 (xCall S__law_take (xCons (xVar 0) (xCons (xC (.int 4)) xNil)))) (xgName 3)
    (xsSeq (xsSet 4 (xCall S__law_over (xCons (xBin ixA (xVar 1) (xC (.int 0))) (xCons (xBin mulT (xBin ixA (xVar 1) (xC (.int 1))) (xCall F__law_some (xCons (xVar 0) (xCons (xCall lstT (xCons (xC (.int 1)) (xCons (xC (.int 2)) (xCons (xC (.int 3)) (xCons (xC (.int 4)) xNil))))) xNil)))) xNil))))
    (xsExpr (xMeth "list" appendT (xVar 2) (xCons (xIf (xBl (xBin gtT (xCall S__law_take (xCons (xVar 0) (xCons (xC (.int 4)) xNil))) (xC (.int 0)))) (xVar 4) (xCall F__law_grain (xCons (xVar 0) xNil))) xNil)))))
    (xsRet (xBin addT (xCall tupleT (xCons (xVar 2) xNil)) (xCall tupT (xCons (xVar 1) xNil)))))))
def F__law_grains : FA := fnF 1 5 B__law_grains
abbrev s__law_is_again_right : Stmt := top 53
abbrev N__law_is_again_right : List Str := ["_law_bag_here", "_law_grains_here", "_law_once", "_law_parting", "_law_turn", "_law_number_here", "_law_due", "_law_grain_here"]
abbrev P__law_is_again_right : List Str := ["_law_bag_here"]
theorem sc__law_is_again_right : FnScope N__law_is_again_right P__law_is_again_right (defScope s__law_is_again_right) := ⟨rfl, rfl, rfl, by decide +kernel, rfl, by decide +kernel, by decide +kernel⟩
def B__law_is_again_right : XS := (xsSeq (xsSet 1 (xCall F__law_grains (xCons (xVar 0) xNil)))
    (xsSeq (xsSet 2 (xBin eqT (xLc (xiSeq (xVar 1)) (xgName 7) [7] (xNotT (xTru (xCall F__law_is_multiple (xCons (xBin ixA (xVar 1) (xUn negT (xC (.int 1)))) (xCons (xVar 7) xNil))))) (xVar 7)) (xCall lstT xNil)))
    (xsSeq (xsSet 3 (xCall F_once_parting (xCons (xVar 1) xNil)))
    (xsSeq (xsIf (xOrT (xNotT (xTru (xCall F__law_alike (xCons (xCall F_is_once (xCons (xVar 1) xNil)) (xCons (xVar 2) xNil))))) (xBl (xBin neT (xBin (isNT false) (xVar 3) (xC .non)) (xVar 2))))
    (xsRet (xC (.bl false)))
    xsNil)
    (xsSeq (xsIf (xAndT (xNotT (xTru (xVar 2))) (xNotT (xTru (xCall F__law_is_frac (xCons (xVar 3) xNil)))))
    (xsRet (xC (.bl false)))
    xsNil)
    (xsSeq (xsIf (xAndT (xNotT (xTru (xVar 2))) (xBl (xBin eqT (xCall F__law_again (xCons (xVar 3) (xCons (xVar 1) xNil))) (xCall F__law_neighbour_throw (xCons (xVar 3) (xCons (xBin ixA (xVar 1) (xUn negT (xC (.int 1)))) xNil))))))
    (xsRet (xC (.bl false)))
    xsNil)
    (xsSeq (xsIf (xNotT (xTru (xCall F__law_alike (xCons (xCall F_once_parting (xCons (xVar 1) xNil)) (xCons (xVar 3) xNil)))))
    (xsRet (xC (.bl false)))
    xsNil)
    (xsSeq (xsFor (xiRange1 (xC (.int 3))) (xgName 4)
    (xsSeq (xsSet 5 (xCall F__law_number (xCons (xVar 0) (xCons (xCall F__law_some (xCons (xVar 0) (xCons (xCall listDT (xCons (xVar 1) xNil)) xNil))) xNil))))
    (xsSeq (xsSet 6 (xCall F__law_again (xCons (xVar 5) (xCons (xVar 1) xNil))))
    (xsSeq (xsIf (xNotT (xTru (xCall F__law_alike (xCons (xCall F_again_throw (xCons (xVar 5) (xCons (xVar 1) xNil))) (xCons (xVar 6) xNil)))))
    (xsRet (xC (.bl false)))
    xsNil)
    (xsIf (xAndT (xTru (xVar 2)) (xBl (xBin neT (xVar 6) (xCall F__law_neighbour_throw (xCons (xVar 5) (xCons (xBin ixA (xVar 1) (xUn negT (xC (.int 1)))) xNil))))))
    (xsRet (xC (.bl false)))
    xsNil)))))
    (xsRet (xC (.bl true)))))))))))
def F__law_is_again_right : FA := fnF 1 8 B__law_is_again_right
abbrev s_law : Stmt := top 54
abbrev N_law : List Str := ["_law_script", "_law_bag_here", "_law_turn", "_law_grain_here", "_law_number_here", "_law_due"]
abbrev P_law : List Str := ["_law_script"]
theorem sc_law : FnScope N_law P_law (defScope s_law) := ⟨rfl, rfl, rfl, by decide +kernel, rfl, by decide +kernel, by decide +kernel⟩
def B_law : XS := (xsSeq (xsSet 1 (xCall F__law_bag (xCons (xVar 0) xNil)))
    (xsSeq (xsFor (xiRange1 (xC (.int 10))) (xgName 2)
    (xsSeq (xsSet 3 (xCall F__law_grain (xCons (xVar 1) xNil)))
    (xsSeq (xsSet 4 (xCall F__law_number (xCons (xVar 1) (xCons (xVar 3) xNil))))
    (xsSeq (xsIf (xBl (xBin eqT (xVar 2) (xC (.int 0))))
    (xsSeq (xsSet 3 (xCall F__law_some (xCons (xVar 1) (xCons (xCall lstT (xCons (xCall tupT (xCons (xBin powT (xC (.int 10)) (xC (.int 6))) (xCons (xC (.int 1)) xNil))) (xCons (xCall tupT (xCons (xC (.int 1)) (xCons (xBin powT (xC (.int 10)) (xC (.int 6))) xNil))) (xCons (xCall tupT (xCons (xC (.int 999999937)) (xCons (xC (.int 7)) xNil))) (xCons (xCall tupT (xCons (xC (.int 3)) (xCons (xC (.int 999999929)) xNil))) xNil))))) xNil))))
    (xsSet 4 (xCall F__law_some (xCons (xVar 1) (xCons (xCall lstT (xCons (xCall tupT (xCons (xC (.int 123456789)) (xCons (xC (.int 1000)) xNil))) (xCons (xCall tupT (xCons (xUn negT (xC (.int 999999937))) (xCons (xC (.int 999999929)) xNil))) (xCons (xCall tupT (xCons (xC (.int 0)) (xCons (xC (.int 1)) xNil))) (xCons (xCall tupT (xCons (xUn negT (xC (.int 5))) (xCons (xC (.int 1)) xNil))) (xCons (xCall tupT (xCons (xBin addT (xBin powT (xC (.int 10)) (xC (.int 30))) (xC (.int 7))) (xCons (xC (.int 3)) xNil))) xNil)))))) xNil)))))
    xsNil)
    (xsSeq (xsSet 5 (xCall lstT (xCons (xCall F__law_neighbours (xCons (xVar 4) (xCons (xVar 3) xNil))) (xCons (xCall F__law_neighbour_throw (xCons (xVar 4) (xCons (xVar 3) xNil))) xNil))))
    (xsSeq (xsIf (xNotT (xTru (xCall F__law_alike (xCons (xCall lstT (xCons (xCall F_neighbours_of (xCons (xVar 4) (xCons (xVar 3) xNil))) (xCons (xCall F_neighbour_throw (xCons (xVar 4) (xCons (xVar 3) xNil))) xNil))) (xCons (xVar 5) xNil)))))
    (xsRet (xC (.bl false)))
    xsNil)
    (xsIf (xOrT (xBl (xBin neT (xCall F__law_mean_of (xCons (xBin ixA (xVar 5) (xC (.int 1))) xNil)) (xVar 4))) (xOrT (xNotT (xTru (xCall F__law_is_throw (xCons (xBin ixA (xVar 5) (xC (.int 1))) xNil)))) (xNotT (xTru (xCall F__law_is_again_right (xCons (xVar 1) xNil))))))
    (xsRet (xC (.bl false)))
    xsNil)))))))
    (xsRet (xC (.bl true)))))
def F_law : FA := fnF 1 6 B_law
end
end K29
/-! P1 -/
set_option Elab.async false
set_option linter.all false
set_option maxRecDepth 100000
set_option maxHeartbeats 4000000
set_option exponentiation.threshold 4000
namespace K29
open PySem PySem.Spec PyProof.Rows L2 TL LamX
noncomputable section
variable [Tb]
theorem rat_lt {p q : Rat} : p < q ↔ ¬ q ≤ p := Rat.not_le.symm
theorem rat_tri (p q : Rat) : p < q ∨ p = q ∨ q < p := by
  by_cases h : q ≤ p
  · by_cases h2 : p ≤ q
    · exact .inr (.inl (Rat.le_antisymm h2 h))
    · exact .inr (.inr (Rat.not_le.mp h2))
  · exact .inl (Rat.not_le.mp h)
theorem rat_trans {p q r : Rat} (h1 : p < q) (h2 : q < r) : p < r := by
  rw [rat_lt]
  intro h
  exact (rat_lt.mp h1) (Rat.le_trans (Rat.le_of_lt h2) h)
def keyQ (s : Int) (q : Rat) : Int := (q.num * s).fdiv (q.den : Int)
theorem keyQ_lt {s : Int} {p q : Rat} (hp : (p.den : Int) * p.den ≤ s) (hq : (q.den : Int) * q.den ≤ s) (h : p < q) : keyQ s p < keyQ s q := by
  rw [Rat.lt_iff] at h
  have hb : (0 : Int) < p.den := by have := p.den_nz; omega
  have hd : (0 : Int) < q.den := by have := q.den_nz; omega
  unfold keyQ
  rw [Int.fdiv_eq_ediv_of_nonneg _ (by omega), Int.fdiv_eq_ediv_of_nonneg _ (by omega)]
  generalize p.num = a at *
  generalize q.num = c at *
  generalize (p.den : Int) = b at *
  generalize (q.den : Int) = d at *
  have hbd : b * d ≤ s := by
    rcases Int.le_total b d with h1 | h1
    · exact Int.le_trans (Int.mul_le_mul_of_nonneg_right h1 (by omega)) hq
    · exact Int.le_trans (Int.mul_le_mul_of_nonneg_left h1 (by omega)) hp
  have hs : 0 < s := Int.lt_of_lt_of_le (Int.mul_pos hb hd) hbd
  refine Int.lt_of_add_one_le ((Int.le_ediv_iff_mul_le hd).mpr ?_)
  have h1 : a * s / b * b ≤ a * s := Int.ediv_mul_le _ (by omega)
  generalize a * s / b = k at *
  have h2 : (a * d + 1) * s ≤ c * b * s := Int.mul_le_mul_of_nonneg_right (by omega) (by omega)
  have h3 : k * b * d ≤ a * s * d := Int.mul_le_mul_of_nonneg_right h1 (by omega)
  have h4 : (k + 1) * d * b ≤ c * s * b := by
    have e1 : (k + 1) * d * b = k * b * d + b * d := by
      rw [Int.add_mul, Int.add_mul, Int.one_mul, Int.mul_right_comm, Int.mul_comm d b]
    have e2 : c * s * b = c * b * s := Int.mul_right_comm _ _ _
    have e3 : (a * d + 1) * s = a * s * d + s := by rw [Int.add_mul, Int.one_mul, Int.mul_right_comm]
    omega
  exact Int.le_of_mul_le_mul_right h4 hb
theorem keyQ_inj {s : Int} {p q : Rat} (hp : (p.den : Int) * p.den ≤ s) (hq : (q.den : Int) * q.den ≤ s) (h : keyQ s p = keyQ s q) : p = q := by
  rcases rat_tri p q with h1 | h1 | h1
  · have := keyQ_lt hp hq h1; omega
  · exact h1
  · have := keyQ_lt hq hp h1; omega
def Asc (qs : List Rat) : Prop := qs.Pairwise (· < ·)
theorem asc_one : ∀ {a b : List Rat}, Asc a → Asc b → (∀ x, x ∈ a ↔ x ∈ b) → a = b
  | [], [], _, _, _ => rfl
  | [], y :: b, _, _, h => absurd ((h y).mpr List.mem_cons_self) (by simp)
  | x :: a, [], _, _, h => absurd ((h x).mp List.mem_cons_self) (by simp)
  | x :: a, y :: b, ha, hb, h => by
    have ha1 := List.pairwise_cons.mp ha
    have hb1 := List.pairwise_cons.mp hb
    have exy : x = y := by
      rcases List.mem_cons.mp ((h x).mp List.mem_cons_self) with e | e
      · exact e
      · rcases List.mem_cons.mp ((h y).mpr List.mem_cons_self) with e2 | e2
        · exact e2.symm
        · exact absurd (rat_trans (hb1.1 x e) (ha1.1 y e2)) (Rat.lt_irrefl)
    subst exy
    rw [asc_one ha1.2 hb1.2 fun z => ?_]
    constructor
    · intro hz
      rcases List.mem_cons.mp ((h z).mp (List.mem_cons_of_mem _ hz)) with e | e
      · subst e; exact absurd (ha1.1 z hz) Rat.lt_irrefl
      · exact e
    · intro hz
      rcases List.mem_cons.mp ((h z).mpr (List.mem_cons_of_mem _ hz)) with e | e
      · subst e; exact absurd (hb1.1 z hz) Rat.lt_irrefl
      · exact e
/-- put in where those less than it end -/
def putQ (x : Rat) (l : List Rat) : List Rat := l.take (l.filter (fun y => decide (y < x))).length ++ [x] ++ l.drop (l.filter (fun y => decide (y < x))).length
theorem putQ_mem (x : Rat) (l : List Rat) (z : Rat) : z ∈ putQ x l ↔ z = x ∨ z ∈ l := by
  unfold putQ
  generalize (l.filter (fun y => decide (y < x))).length = n
  have := List.take_append_drop n l
  constructor
  · intro h
    simp only [List.mem_append, List.mem_singleton] at h
    rcases h with (h | h) | h
    · exact .inr (List.mem_of_mem_take h)
    · exact .inl h
    · exact .inr (List.mem_of_mem_drop h)
  · intro h
    simp only [List.mem_append, List.mem_singleton]
    rcases h with h | h
    · exact .inl (.inr h)
    · rw [← this] at h
      rcases List.mem_append.mp h with h | h
      · exact .inl (.inl h)
      · exact .inr h
theorem putQ_cons {x y : Rat} {l : List Rat} (h : y < x) : putQ x (y :: l) = y :: putQ x l := by
  unfold putQ
  rw [List.filter_cons_of_pos (by simpa using h)]
  simp
theorem filter_none {x y : Rat} {l : List Rat} (ha : Asc (y :: l)) (h : ¬ y < x) : (y :: l).filter (fun y => decide (y < x)) = [] := by
  rw [List.filter_eq_nil_iff]
  intro z hz
  rcases List.mem_cons.mp hz with e | e
  · subst e; simpa using h
  · have h1 := (List.pairwise_cons.mp ha).1 z e
    have h2 : ¬ z < x := fun h3 => h (rat_trans h1 h3)
    simpa using h2
theorem putQ_asc {x : Rat} : ∀ {l : List Rat}, Asc l → x ∉ l → Asc (putQ x l)
  | [], _, _ => by simp [putQ, Asc]
  | y :: l, ha, hx => by
    by_cases h : y < x
    · rw [putQ_cons h]
      have h1 := List.pairwise_cons.mp ha
      refine List.pairwise_cons.mpr ⟨fun z hz => ?_, putQ_asc h1.2 (fun hm => hx (List.mem_cons_of_mem _ hm))⟩
      rcases (putQ_mem x l z).mp hz with e | e
      · subst e; exact h
      · exact h1.1 z e
    · have e : putQ x (y :: l) = x :: y :: l := by
        unfold putQ
        rw [filter_none ha h]; simp
      rw [e]
      have hxy : x < y := by
        rcases rat_tri x y with h1 | h1 | h1
        · exact h1
        · subst h1; exact absurd List.mem_cons_self hx
        · exact absurd h1 h
      refine List.pairwise_cons.mpr ⟨fun z hz => ?_, ha⟩
      rcases List.mem_cons.mp hz with e | e
      · subst e; exact hxy
      · exact rat_trans hxy ((List.pairwise_cons.mp ha).1 z e)
/-- what is sorted by putting in -/
def sortQ : List Rat → List Rat := fun qs => qs.foldl (fun l x => if x ∈ l then l else putQ x l) []
theorem sort_fold : ∀ (qs l : List Rat), Asc l → Asc (qs.foldl (fun l x => if x ∈ l then l else putQ x l) l) ∧ ∀ z, z ∈ qs.foldl (fun l x => if x ∈ l then l else putQ x l) l ↔ z ∈ l ∨ z ∈ qs
  | [], l, h => ⟨h, by simp⟩
  | q :: qs, l, h => by
    simp only [List.foldl_cons]
    by_cases hq : q ∈ l
    · rw [if_pos hq]
      obtain ⟨h1, h2⟩ := sort_fold qs l h
      refine ⟨h1, fun z => ?_⟩
      rw [h2]
      constructor
      · rintro (h | h)
        · exact .inl h
        · exact .inr (List.mem_cons_of_mem _ h)
      · rintro (h | h)
        · exact .inl h
        · rcases List.mem_cons.mp h with e | e
          · subst e; exact .inl hq
          · exact .inr e
    · rw [if_neg hq]
      obtain ⟨h1, h2⟩ := sort_fold qs _ (putQ_asc h hq)
      refine ⟨h1, fun z => ?_⟩
      rw [h2, putQ_mem]
      constructor
      · rintro ((h | h) | h)
        · subst h; exact .inr List.mem_cons_self
        · exact .inl h
        · exact .inr (List.mem_cons_of_mem _ h)
      · rintro (h | h)
        · exact .inl (.inr h)
        · rcases List.mem_cons.mp h with e | e
          · subst e; exact .inl (.inl rfl)
          · exact .inr e
theorem sortQ_asc (qs : List Rat) : Asc (sortQ qs) := (sort_fold qs [] List.Pairwise.nil).1
theorem sortQ_mem (qs : List Rat) (z : Rat) : z ∈ sortQ qs ↔ z ∈ qs := by
  rw [show sortQ qs = _ from rfl]
  unfold sortQ
  rw [(sort_fold qs [] List.Pairwise.nil).2 z]; simp
theorem sortQ_len : ∀ (qs l : List Rat), (qs.foldl (fun l x => if x ∈ l then l else putQ x l) l).length ≤ l.length + qs.length
  | [], l => by simp
  | q :: qs, l => by
    simp only [List.foldl_cons]
    have h := sortQ_len qs (if q ∈ l then l else putQ q l)
    have h2 : (if q ∈ l then l else putQ q l).length ≤ l.length + 1 := by
      split
      · omega
      · unfold putQ
        simp only [List.length_append, List.length_take, List.length_drop, List.length_singleton]
        omega
    simp only [List.length_cons]
    omega
/-! ### rows of fractions as the text has them -/
def Row (x : T) (st : Store) (qs : List Rat) : Prop := x = .tup (qs.map fun q => fq q) ∨ ∃ l, x = .ref l ∧ st[l]? = some (.lst (qs.map fun q => fq q))
theorem Row.more {x : T} {st : Store} {qs : List Rat} (h : Row x st qs) (g : Store) : Row x (st ++ g) qs := by
  rcases h with rfl | ⟨l, rfl, h⟩
  · exact .inl rfl
  · exact .inr ⟨l, rfl, getA h⟩
def itOf (x : T) : Its1 := match x with
  | .tup ts => fun _ => some ts
  | .ref l => fun st => match st[l]? with
    | some (.lst ts) => some ts
    | _ => none
  | _ => fun _ => none
theorem Row.xi {x : T} {st : Store} {qs : List Rat} (h : Row x st qs) (e : Env1) : xiSeq (xVar 0) (some x :: e) st = some (itOf x, st) := by
  rcases h with rfl | ⟨l, rfl, h⟩
  · rfl
  · simp [xiSeq, h, itOf] <;> rfl
theorem Row.it {x : T} {st : Store} {qs : List Rat} (h : Row x st qs) : itOf x st = some (qs.map fun q => fq q) := by
  rcases h with rfl | ⟨l, rfl, h⟩
  · rfl
  · simp [itOf, h]
theorem intsOf_ints : ∀ ns : List Int, intsOf (ns.map T.int) = some ns
  | [] => rfl
  | n :: r => by
    have h := intsOf_ints r
    unfold intsOf at h ⊢
    simp only [List.map_cons, optAll, h]
def dsqT : T → T
  | .tup [_, .int d] => .int (d * d)
  | t => t
def dens (qs : List Rat) : List Int := qs.map fun q => (q.den : Int) * q.den
def scaleQ (qs : List Rat) : Int := match dens qs with
  | [] => 1
  | n :: r => maxI n r
theorem maxI_le : ∀ (r : List Int) (n : Int), n ≤ maxI n r ∧ ∀ m ∈ r, m ≤ maxI n r
  | [], n => ⟨Int.le_refl _, by simp⟩
  | m :: r, n => by
    have h := maxI_le r (if n < m then m else n)
    have e : maxI n (m :: r) = maxI (if n < m then m else n) r := rfl
    rw [e]
    refine ⟨Int.le_trans ?_ h.1, fun z hz => ?_⟩
    · split <;> omega
    · rcases List.mem_cons.mp hz with rfl | hz
      · refine Int.le_trans ?_ h.1
        split <;> omega
      · exact h.2 z hz
theorem maxI_mem : ∀ (r : List Int) (n : Int), maxI n r = n ∨ maxI n r ∈ r
  | [], n => .inl rfl
  | m :: r, n => by
    have e : maxI n (m :: r) = maxI (if n < m then m else n) r := rfl
    rw [e]
    rcases maxI_mem r (if n < m then m else n) with h | h
    · rw [h]
      split
      · exact .inr List.mem_cons_self
      · exact .inl rfl
    · exact .inr (List.mem_cons_of_mem _ h)
theorem scale_le {qs : List Rat} {q : Rat} (h : q ∈ qs) : (q.den : Int) * q.den ≤ scaleQ qs := by
  have hm : (q.den : Int) * q.den ∈ dens qs := List.mem_map.mpr ⟨q, h, rfl⟩
  unfold scaleQ
  cases hd : dens qs with
  | nil => rw [hd] at hm; cases hm
  | cons n r =>
    rw [hd] at hm
    rcases List.mem_cons.mp hm with e | e
    · rw [e]; exact (maxI_le r n).1
    · exact (maxI_le r n).2 _ e
theorem scale_small {qs : List Rat} {k : Nat} (h : ∀ q ∈ qs, Sz k q) : (scaleQ qs).natAbs < 2 ^ (k + k + 1) := by
  have hall : ∀ z ∈ dens qs, z.natAbs < 2 ^ (k + k + 1) := fun z hz => by
    obtain ⟨q, hq, rfl⟩ := List.mem_map.mp hz
    have := (h q hq).d
    rw [Int.natAbs_mul, Int.natAbs_natCast, Nat.pow_succ, Nat.pow_add]
    have := Nat.mul_lt_mul'' this this
    omega
  unfold scaleQ
  cases hd : dens qs with
  | nil => 
    show (1 : Nat) < _
    rw [Nat.pow_succ]
    have := Nat.two_pow_pos (k + k)
    omega
  | cons n r =>
    rw [hd] at hall
    rcases maxI_mem r n with e | e
    · rw [show (match n :: r with | [] => (1 : Int) | n :: r => maxI n r) = maxI n r from rfl, e]
      exact hall n List.mem_cons_self
    · exact hall _ (List.mem_cons_of_mem _ e)
/-- unlike ones, as they come -/
def addU (ds : List Rat) (q : Rat) : List Rat := if q ∈ ds then ds else ds ++ [q]
def ent (s : Int) (q : Rat) : Key × T := (.inl (keyQ s q), fq q)
theorem storeU {s : Int} {ds : List Rat} {q : Rat} (hs : ∀ p ∈ ds, (p.den : Int) * p.den ≤ s) (hq : (q.den : Int) * q.den ≤ s) : storeK (ds.map (ent s)) (.inl (keyQ s q)) (fq q) = (addU ds q).map (ent s) := by
  unfold storeK addU
  by_cases h : q ∈ ds
  · have hany : ((ds.map (ent s)).any fun p => decide (p.1 = .inl (keyQ s q))) = true := by
      rw [List.any_eq_true]
      exact ⟨ent s q, List.mem_map.mpr ⟨q, h, rfl⟩, by simp [ent]⟩
    rw [if_pos hany, if_pos h, List.map_map]
    refine List.map_congr_left fun p hp => ?_
    show (if (ent s p).1 = Sum.inl (keyQ s q) then ((ent s p).1, fq q) else ent s p) = ent s p
    split
    · rename_i hk
      have hk2 : keyQ s p = keyQ s q := Sum.inl.inj hk
      have := keyQ_inj (hs p hp) hq hk2
      subst this; rfl
    · rfl
  · have hany : ¬ ((ds.map (ent s)).any fun p => decide (p.1 = .inl (keyQ s q))) = true := by
      rw [List.any_eq_true]
      rintro ⟨z, hz, hk⟩
      obtain ⟨p, hp, rfl⟩ := List.mem_map.mp hz
      have hk : (ent s p).1 = Sum.inl (keyQ s q) := of_decide_eq_true hk
      have := keyQ_inj (hs p hp) hq (Sum.inl.inj hk)
      subst this
      exact h hp
    rw [if_neg hany, if_neg h, List.map_append]; rfl
def uniq (qs : List Rat) : List Rat := qs.foldl addU []
theorem uniq_fold : ∀ (qs ds : List Rat), (∀ z, z ∈ qs.foldl addU ds ↔ z ∈ ds ∨ z ∈ qs) ∧ (ds.Nodup → (qs.foldl addU ds).Nodup) ∧ (qs.foldl addU ds).length ≤ ds.length + qs.length
  | [], ds => ⟨by simp, id, by simp⟩
  | q :: qs, ds => by
    obtain ⟨h1, h2, h3⟩ := uniq_fold qs (addU ds q)
    simp only [List.foldl_cons]
    have hm : ∀ z, z ∈ addU ds q ↔ z = q ∨ z ∈ ds := fun z => by
      unfold addU
      split
      · rename_i h
        constructor
        · exact .inr
        · rintro (rfl | h')
          · exact h
          · exact h'
      · simp [or_comm]
    refine ⟨fun z => ?_, fun nd => h2 ?_, ?_⟩
    · rw [h1, hm]; simp only [List.mem_cons]
      constructor
      · rintro ((h | h) | h)
        · exact .inr (.inl h)
        · exact .inl h
        · exact .inr (.inr h)
      · rintro (h | h | h)
        · exact .inl (.inr h)
        · exact .inl (.inl h)
        · exact .inr h
    · unfold addU
      split
      · exact nd
      · rename_i h
        refine List.nodup_append.mpr ⟨nd, by simp, ?_⟩
        intro a ha b hb e
        have : b = q := by simpa using hb
        subst this; subst e
        exact h ha
    · have : (addU ds q).length ≤ ds.length + 1 := by
        unfold addU
        split <;> simp
      simp only [List.length_cons]
      omega
theorem dict_fold {s : Int} : ∀ (qs ds : List Rat), (∀ p ∈ ds, (p.den : Int) * p.den ≤ s) → (∀ p ∈ qs, (p.den : Int) * p.den ≤ s) →
    (qs.map fun q => fq q).foldl (fun kvs x => storeK kvs (match x with | .tup [.int n, .int d] => .inl ((n * s).fdiv d) | _ => .inl 0) x) (ds.map (ent s)) = (qs.foldl addU ds).map (ent s)
  | [], ds, _, _ => rfl
  | q :: qs, ds, h1, h2 => by
    simp only [List.map_cons, List.foldl_cons]
    have hq := h2 q List.mem_cons_self
    have e := storeU h1 hq
    unfold keyQ at e
    rw [e]
    refine dict_fold qs (addU ds q) (fun p hp => ?_) fun p hp => h2 p (List.mem_cons_of_mem _ hp)
    unfold addU at hp
    split at hp
    · exact h1 p hp
    · rcases List.mem_append.mp hp with hp | hp
      · exact h1 p hp
      · have : p = q := by simpa using hp
        subst this; exact hq
theorem keysI_ent (s : Int) : ∀ ds : List Rat, keysI (ds.map (ent s)) = some (ds.map (keyQ s))
  | [] => rfl
  | d :: ds => by
    show (keysI (ds.map (ent s))).map (keyQ s d :: ·) = _
    rw [keysI_ent s ds]; rfl
theorem look_ent {s : Int} {q : Rat} : ∀ {ds : List Rat}, (∀ p ∈ ds, (p.den : Int) * p.den ≤ s) → q ∈ ds → lookK (ds.map (ent s)) (.inl (keyQ s q)) = some (fq q)
  | [], _, h => by cases h
  | d :: ds, hs, h => by
    have hq := hs q h
    unfold lookK
    rw [List.map_cons, List.find?_cons]
    by_cases hk : (ent s d).1 = Sum.inl (keyQ s q)
    · rw [decide_eq_true hk]
      have := keyQ_inj (hs d List.mem_cons_self) hq (Sum.inl.inj hk)
      subst this; rfl
    · rw [decide_eq_false hk]
      rcases List.mem_cons.mp h with rfl | h2
      · exact absurd rfl hk
      · exact look_ent (fun p hp => hs p (List.mem_cons_of_mem _ hp)) h2
/-- the fractions of sorted keys are those sorted -/
theorem sorted_keys {s : Int} {qs : List Rat} (hs : ∀ p ∈ qs, (p.den : Int) * p.den ≤ s) :
    (sortI ((uniq qs).map (keyQ s))).map T.int = (sortQ qs).map (fun q => T.int (keyQ s q)) := by
  have hu := uniq_fold qs []
  have hum : ∀ z, z ∈ uniq qs ↔ z ∈ qs := fun z => by rw [show uniq qs = qs.foldl addU [] from rfl, hu.1]; simp
  have hnd : (uniq qs).Nodup := hu.2.1 List.nodup_nil
  have e : (sortQ qs).map (keyQ s) = sortI ((uniq qs).map (keyQ s)) := by
    refine sortI_one ?_ ?_
    · refine List.Perm.map _ ?_
      have ndS : (sortQ qs).Nodup := (sortQ_asc qs).imp (fun {a b} h e => by subst e; exact Rat.lt_irrefl h)
      exact (List.perm_ext_iff_of_nodup ndS hnd).mpr fun z => by rw [sortQ_mem, hum]
    · rw [List.pairwise_map]
      have := sortQ_asc qs
      refine List.Pairwise.imp_of_mem (fun {a b} ha hb hab => ?_) this
      have := keyQ_lt (hs a ((sortQ_mem qs a).mp ha)) (hs b ((sortQ_mem qs b).mp hb)) hab
      omega
  rw [← e, List.map_map]; rfl
theorem in_order_ok {x : T} {st : Store} {qs : List Rat} {k : Nat} (hx : Row x st qs) (hq : ∀ q ∈ qs, Sz k q) (hk : k ≤ 1000) (hlen : qs.length < 60) :
    ∃ g, F_in_order [x] st = some (.ref (st.length + 3), st ++ g) ∧ (st ++ g)[st.length + 3]? = some (.lst ((sortQ qs).map fun q => fq q)) ∧ g.length = 4 := by
  have hs : ∀ p ∈ qs, (p.den : Int) * p.den ≤ scaleQ qs := fun p hp => scale_le hp
  have hS := scale_small hq
  generalize hSS : scaleQ qs = S at *
  have h1 := lc_map (vs := [6]) (i := 6) (e := [some x, none, none, none, none, none, none]) (te := xBin mulT (xBin ixA (xVar 6) (xC (.int 1))) (xBin ixA (xVar 6) (xC (.int 1)))) (ts := qs.map fun q => fq q) dsqT (hx.xi _) (fun acc => (hx.more _).it) (by simp; omega) (fun y hy acc => by
    obtain ⟨q, hqm, rfl⟩ := List.mem_map.mp hy
    have hb := natAbs_den (hq q hqm)
    have := bits_of hb hb (by omega)
    simp [wipeE, dsqT, this])
  have hdl : ((qs.map fun q => fq q).map dsqT) = (dens qs).map T.int := by
    unfold dens; rw [List.map_map, List.map_map]; rfl
  rw [hdl] at h1
  have hmax : maxDT (.ref st.length) (.int 1) (st ++ [.lst ((dens qs).map T.int)]) = some (.int S, st ++ [.lst ((dens qs).map T.int)]) := by
    have : intsOf ((dens qs).map T.int) = some (dens qs) := intsOf_ints _
    unfold maxDT
    simp only [last_get, this, Option.map_some]
    rw [← hSS]
    unfold scaleQ
    cases dens qs <;> rfl
  generalize hst1 : st ++ [.lst ((dens qs).map T.int)] = st1 at *
  have hx1 : Row x st1 qs := by rw [← hst1]; exact hx.more _
  have hl1 : st1.length = st.length + 1 := by rw [← hst1]; simp
  have h2 := dc_fold (vs := [3, 4]) (e := [some x, some (.int S), none, none, none, none, none]) (g := xgTup 2 (xgsCons (xgName 3) (xgsCons (xgName 4) xgsNil))) (tk := xBin fdivT (xBin mulT (xVar 3) (xVar 1)) (xVar 4)) (tv := xCall tupT (xCons (xVar 3) (xCons (xVar 4) xNil))) (ts := qs.map fun q => fq q)
    (fun x => match x with | .tup [.int n, .int d] => .inl ((n * S).fdiv d) | _ => .inl 0) id (hx1.xi _) (fun kvs => (hx1.more _).it) (by simp; omega) (fun y hy kvs => by
    obtain ⟨q, hqm, rfl⟩ := List.mem_map.mp hy
    have hb := hq q hqm
    have b1 : bitsOk q.num S = true := bits_of (k := k + k + 1) (Nat.lt_of_lt_of_le hb.n (Nat.pow_le_pow_right (by decide) (by omega))) hS (by omega)
    have d1 := den_ne q
    have d2 : ((q.den : Nat) : Int).natAbs.log2 < 9000 := by have := log2_of (natAbs_den hb); omega
    rw [Int.natAbs_natCast] at d2
    have d3 : ¬ (q.den = 0) := q.den_nz
    refine ⟨_, .int ((q.num * S).fdiv q.den), rfl, ?_, rfl, ?_⟩
    · simp [wipeE, b1, d2, d3]
    · simp [wipeE])
  have hdd := dict_fold (s := S) qs [] (by simp) hs
  simp only [List.map_nil] at hdd
  have hdd2 : (qs.map fun q => fq q).foldl (fun kvs x => storeK kvs (match x with | .tup [.int n, .int d] => .inl ((n * S).fdiv d) | _ => .inl 0) (id x)) [] = (uniq qs).map (ent S) := hdd
  rw [hdd2] at h2
  generalize hst2 : st1 ++ [.dK ((uniq qs).map (ent S))] = st2 at *
  have hl2 : st2.length = st.length + 2 := by rw [← hst2]; simp; omega
  have hum : ∀ z, z ∈ uniq qs ↔ z ∈ qs := fun z => by rw [show uniq qs = qs.foldl addU [] from rfl, (uniq_fold qs []).1]; simp
  have hul : (uniq qs).length ≤ qs.length := by have := (uniq_fold qs []).2.2; rw [show uniq qs = qs.foldl addU [] from rfl]; simpa using this
  have hsu : ∀ p ∈ uniq qs, (p.den : Int) * p.den ≤ S := fun p hp => hs p ((hum p).mp hp)
  have hg2 : st2[st1.length]? = some (.dK ((uniq qs).map (ent S))) := by rw [← hst2]; exact last_get
  have h3 : sortedT [.ref st1.length] st2 = some (.ref st2.length, st2 ++ [.lst ((sortQ qs).map fun q => T.int (keyQ S q))]) := by
    unfold sortedT
    simp only [hg2, keysI_ent, Option.bind_some, List.length_map]
    rw [if_pos (by omega), sorted_keys hs]
  generalize hst3 : st2 ++ [.lst ((sortQ qs).map fun q => T.int (keyQ S q))] = st3 at *
  have hl3 : st3.length = st.length + 3 := by rw [← hst3]; simp; omega
  have hg3 : st3[st2.length]? = some (.lst ((sortQ qs).map fun q => T.int (keyQ S q))) := by rw [← hst3]; exact last_get
  have hg3d : st3[st1.length]? = some (.dK ((uniq qs).map (ent S))) := by rw [← hst3]; exact getA hg2
  have hsl := sortQ_len qs []
  have h4 := lc_map (vs := [5]) (i := 5) (e := [some x, some (.int S), some (.ref st1.length), none, none, none, none]) (fi := xiSeq (xCall sortedT (xCons (xVar 2) xNil))) (s1 := st3) (it := fun s => match s[st2.length]? with
      | some (.lst ts) => some ts
      | _ => none) (te := xBin ixA (xVar 2) (xVar 5)) (ts := (sortQ qs).map fun q => T.int (keyQ S q)) (st := st2) (fun k => ((toKy k).bind (lookK ((uniq qs).map (ent S)))).getD .non) (by
      simp [xiSeq, h3, hg3] <;> rfl) (fun acc => by simp [getA hg3]) (by
      have : (sortQ qs).length ≤ qs.length := by simpa [sortQ] using hsl
      simp; omega) (fun y hy acc => by
      obtain ⟨q, hqm, rfl⟩ := List.mem_map.mp hy
      have hq1 : q ∈ uniq qs := (hum q).mpr ((sortQ_mem qs q).mp hqm)
      have := look_ent hsu hq1
      simp [wipeE, ixA, dAt, ixD, getA hg3d, dLook, toKy, this])
  have hfin : ((sortQ qs).map fun q => T.int (keyQ S q)).map (fun k => ((toKy k).bind (lookK ((uniq qs).map (ent S)))).getD .non) = (sortQ qs).map fun q => fq q := by
    rw [List.map_map]
    refine List.map_congr_left fun q hqm => ?_
    have hq1 : q ∈ uniq qs := (hum q).mpr ((sortQ_mem qs q).mp hqm)
    simp [toKy, look_ent hsu hq1]
  rw [hfin] at h4
  refine ⟨[.lst ((dens qs).map T.int), .dK ((uniq qs).map (ent S)), .lst ((sortQ qs).map fun q => T.int (keyQ S q)), .lst ((sortQ qs).map fun q => fq q)], ?_, ?_, rfl⟩
  · have e : st ++ [.lst ((dens qs).map T.int), .dK ((uniq qs).map (ent S)), .lst ((sortQ qs).map fun q => T.int (keyQ S q)), .lst ((sortQ qs).map fun q => fq q)] = st3 ++ [.lst ((sortQ qs).map fun q => fq q)] := by
      rw [← hst3, ← hst2, ← hst1]; simp
    rw [e]
    simp only [F_in_order, B_in_order, fnF, List.length_cons, List.length_nil, r_xsSeq, r_xsSet, List.map_cons, List.map_nil, List.cons_append, List.nil_append, List.replicate, xMaxD, h1, Option.bind_some, r_xC, hmax, Option.map_some, List.set_cons_succ, List.set_cons_zero, h2, r_xsRet, h4, if_true]
    simp [h1, hmax, h2, h4, hl3]
  · rw [List.getElem?_append_right (by omega), Nat.add_sub_cancel_left]; rfl
end
end K29
/-! P2 -/
set_option Elab.async false
set_option linter.all false
set_option maxRecDepth 100000
set_option maxHeartbeats 4000000
set_option exponentiation.threshold 4000
namespace K29
open PySem PySem.Spec PyProof.Rows L2 TL LamX
noncomputable section
variable [Tb]
theorem Row.xiF {x : T} {st : Store} {qs : List Rat} (h : Row x st qs) {f : XE} {e : Env1} (hf : f e st = some (x, st)) : xiSeq f e st = some (itOf x, st) := by
  rcases h with rfl | ⟨l, rfl, h⟩
  · simp [xiSeq, hf] <;> rfl
  · simp [xiSeq, h, hf, itOf] <;> rfl
abbrev dq (q : Rat) : PyData := .tuple [.int q.num, .int q.den]
theorem nic_dq {q : Rat} {k : Nat} (h : Sz k q) (hk : k ≤ 1900) : Nic 1 (2 * (k + 2)) (dq q) :=
  (((nic_int_of h.n hk).up (k' := 0) (Nat.le_refl _) (Nat.le_refl _)).up (Nat.le_refl _) (Nat.le_refl _) |> fun a => (NicAll.cons a (NicAll.cons (nic_int_of (natAbs_den h) hk) NicAll.nil)).tuple).up (Nat.le_refl _) (by omega)
theorem nic_dqs {qs : List Rat} {k : Nat} (h : ∀ q ∈ qs, Sz k q) (hk : k ≤ 1900) : NicAll 1 (qs.length * (2 * (k + 2) + 1)) (qs.map dq) := NicAll.map dq qs fun q hq => nic_dq (h q hq) hk
theorem toD_fq {q : Rat} {st : Store} {n : Nat} : toD st (n + 1) (fq q) = some (dq q) := by
  cases n <;> rfl
theorem toD_fqs {qs : List Rat} {st : Store} {n : Nat} : optAll (toD st (n + 1)) (qs.map fun q => fq q) = some (qs.map dq) := optAll_map fun q _ => toD_fq
theorem toD_row {x : T} {qs : List Rat} {st : Store} {n : Nat} (h : Row x st qs) : toD st (n + 2) x = some (.list (qs.map dq)) ∨ toD st (n + 2) x = some (.tuple (qs.map dq)) := by
  rcases h with rfl | ⟨l, rfl, h⟩
  · right
    unfold toD
    rw [toD_fqs]; rfl
  · left
    unfold toD
    rw [h]
    simp only [toD_fqs, Option.map_some]
theorem toD_rowL {l : Nat} {qs : List Rat} {st : Store} {n : Nat} (h : st[l]? = some (.lst (qs.map fun q => fq q))) : toD st (n + 2) (.ref l) = some (.list (qs.map dq)) := by
  unfold toD
  rw [h]
  simp only [toD_fqs, Option.map_some]
theorem eqv_dq (p q : Rat) : PyData.eqv (dq p) (dq q) = decide (p = q) := by
  simp only [PyData.eqv, PyData.eqvAll, Bool.and_true]
  rw [Bool.eq_iff_iff]
  simp only [Bool.and_eq_true, decide_eq_true_eq, beq_iff_eq]
  constructor
  · rintro ⟨a, b⟩
    exact Rat.ext a (by omega)
  · rintro rfl; exact ⟨rfl, rfl⟩
theorem any_dq (ds : List Rat) (q : Rat) : (ds.map dq).any (fun z => PyData.eqv z (dq q)) = decide (q ∈ ds) := by
  rw [Bool.eq_iff_iff, List.any_eq_true]
  simp only [decide_eq_true_eq]
  constructor
  · rintro ⟨z, hz, h⟩
    obtain ⟨p, hp, rfl⟩ := List.mem_map.mp hz
    rw [eqv_dq, decide_eq_true_eq] at h
    subst h; exact hp
  · intro h
    exact ⟨dq q, List.mem_map.mpr ⟨q, h, rfl⟩, by rw [eqv_dq]; simp⟩
theorem notin_ok {ds : List Rat} {q : Rat} {st : Store} {l k : Nat} (h : st[l]? = some (.lst (ds.map fun q => fq q))) (hz : ∀ p ∈ ds, Sz k p) (hq : Sz k q) (hk : k ≤ 1900) : inA true (fq q) (.ref l) st = some (.bl (!decide (q ∈ ds)), st) := by
  have e : inA true (fq q) (.ref l) st = inT true (fq q) (.ref l) st := by
    unfold inA dAt
    simp [h]
  rw [e]
  unfold inT
  rw [show dpth = 10 + 2 from rfl, toD_rowL h, toD_fq]
  have s1 := (nic_dq hq hk).shaped (by decide)
  have s2 := (nic_dqs hz hk).list.shaped (by decide)
  simp only [s1, s2, Bool.and_self, if_true, any_dq]
theorem sortQ_take {qs : List Rat} {i : Nat} {q : Rat} (h : qs[i]? = some q) : sortQ (qs.take (i + 1)) = if q ∈ sortQ (qs.take i) then sortQ (qs.take i) else putQ q (sortQ (qs.take i)) := by
  unfold sortQ
  rw [List.take_add_one, h]
  simp [List.foldl_append]
theorem sorted_ok {x : T} {st : Store} {qs : List Rat} {k : Nat} (hx : Row x st qs) (hq : ∀ q ∈ qs, Sz k q) (hk : k ≤ 1900) (hlen : qs.length < 60) :
    ∃ g, F__law_sorted [x] st = some (.ref st.length, st ++ (.lst ((sortQ qs).map fun q => fq q) :: g)) := by
  have hfi : ∀ e : Env1, xiSeq (xVar 0) (some x :: e) (st ++ [.lst []]) = some (itOf x, st ++ [.lst []]) := fun e => (hx.more _).xi e
  obtain ⟨e', s', h1, h2⟩ := for_inv (g := xgName 2) (b := (xsSeq (xsSet 3 (xCall lenT (xCons (xLc (xiSeq (xVar 1)) (xgName 4) [4] (xTru (xCall S__law_is_less (xCons (xVar 4) (xCons (xVar 2) xNil)))) (xVar 4)) xNil)))
    (xsIf (xBl (xBin (inA true) (xVar 2) (xVar 1)))
    (xsExpr (xMeth "list" insertT (xVar 1) (xCons (xVar 3) (xCons (xVar 2) xNil))))
    xsNil))) (ts := qs.map fun q => fq q)
    (fun i e s => i ≤ qs.length ∧ (∃ o2 o3 o4, e = [some x, some (.ref st.length), o2, o3, o4]) ∧ ∃ g, s = st ++ (.lst ((sortQ (qs.take i)).map fun q => fq q) :: g)) (hfi [some (.ref st.length), none, none, none])
    (fun i e s h => by
      obtain ⟨_, _, g, rfl⟩ := h
      exact (hx.more _).it)
    ⟨Nat.zero_le _, ⟨none, none, none, rfl⟩, [], by simp [sortQ]⟩
    (fun i e s y hy h => by
      obtain ⟨hi, ⟨o2, o3, o4, rfl⟩, g, rfl⟩ := h
      rw [List.getElem?_map] at hy
      cases hqi : qs[i]? with
      | none => rw [hqi] at hy; cases hy
      | some q =>
        rw [hqi] at hy
        cases hy
        have hlt := (List.getElem?_eq_some_iff.mp hqi).1
        have zq := hq q (List.mem_of_getElem? hqi)
        rw [sortQ_take hqi]
        have hF : ∀ p ∈ sortQ (qs.take i), Sz k p := fun p hp => hq p (List.mem_of_mem_take ((sortQ_mem _ p).mp hp))
        have hFl : (sortQ (qs.take i)).length ≤ i := by
          have := sortQ_len (qs.take i) []
          have e2 : (qs.take i).length ≤ i := by rw [List.length_take]; omega
          have e3 : (sortQ (qs.take i)).length ≤ 0 + (qs.take i).length := this
          omega
        generalize hFF : sortQ (qs.take i) = F at *
        have hget : (st ++ (.lst (F.map fun q => fq q) :: g))[st.length]? = some (.lst (F.map fun q => fq q)) := by rw [List.getElem?_append_right (Nat.le_refl _)]; simp
        generalize hs1 : st ++ (.lst (F.map fun q => fq q) :: g) = s1 at *
        have hR : Row (.ref st.length) s1 F := .inr ⟨_, rfl, hget⟩
        have hlc := lc_fm (vs := [4]) (i := 4) (e := [some x, some (.ref st.length), some (fq q), o3, o4]) (fi := xiSeq (xVar 1)) (st := s1) (s1 := s1) (ts := F.map fun q => fq q) (tt := xTru (xCall S__law_is_less (xCons (xVar 4) (xCons (xVar 2) xNil)))) (te := xVar 4)
          (fun t => match S__law_is_less [t, fq q] [] with | some (.bl b, _) => b | _ => false) id (hR.xiF rfl) (fun acc => (hR.more _).it) (by simp; omega)
          (fun y hy acc => by
            obtain ⟨p, hp, rfl⟩ := List.mem_map.mp hy
            simp [wipeE, less_ok (hF p hp) zq (by omega), truT])
          (fun y hy _ acc => by simp [wipeE])
        have hflt : ((F.map fun q => fq q).filter (fun t => match S__law_is_less [t, fq q] [] with | some (.bl b, _) => b | _ => false)).map id = (F.filter fun y => decide (y < q)).map fun q => fq q := by
          rw [List.map_id, List.filter_map]
          congr 1
          refine List.filter_congr fun p hp => ?_
          show (match S__law_is_less [fq p, fq q] [] with | some (.bl b, _) => b | _ => false) = _
          rw [less_ok (hF p hp) zq (by omega)]
        rw [hflt] at hlc
        have hlenT : lenT [.ref s1.length] (s1 ++ [.lst ((F.filter fun y => decide (y < q)).map fun q => fq q)]) = some (.int ((F.filter fun y => decide (y < q)).length : Nat), s1 ++ [.lst ((F.filter fun y => decide (y < q)).map fun q => fq q)]) := by
          simp [lenT]
        have hflen : (F.filter fun y => decide (y < q)).length ≤ F.length := List.length_filter_le _ _
        generalize hs2 : s1 ++ [.lst ((F.filter fun y => decide (y < q)).map fun q => fq q)] = s2 at *
        have hget2 : s2[st.length]? = some (.lst (F.map fun q => fq q)) := by rw [← hs2]; exact getA hget
        have hin := notin_ok hget2 hF zq hk
        by_cases hm : q ∈ F
        · rw [if_pos hm]
          have hd : decide (q ∈ F) = true := decide_eq_true hm
          refine ⟨_, _, _, [some x, some (.ref st.length), some (fq q), some (.int ((F.filter fun y => decide (y < q)).length : Nat)), o4], s2, rfl, ?_, .inl rfl, by omega, ⟨_, _, _, rfl⟩, g ++ [.lst ((F.filter fun y => decide (y < q)).map fun q => fq q)], by rw [← hs2, ← hs1]; simp⟩
          simp [hlc, hlenT, hin, hd]
        · rw [if_neg hm]
          have hd : decide (q ∈ F) = false := decide_eq_false hm
          have hlz : F.length < sizeLine := small1000 (by omega)
          have hn63 : ((F.filter fun y => decide (y < q)).length : Int) < 2 ^ 63 := by
            have : (2 : Int) ^ 63 = 9223372036854775808 := by decide
            omega
          have hins : insertT (.ref st.length) [.int ((F.filter fun y => decide (y < q)).length : Nat), fq q] s2 = some (.non, s2.set st.length (.lst ((putQ q F).map fun q => fq q))) := by
            unfold insertT
            simp only [hget2, List.length_map, hlz, true_and]
            rw [if_pos ⟨by omega, hn63⟩]
            unfold putQ
            simp [List.map_take, List.map_drop]
          refine ⟨_, _, _, [some x, some (.ref st.length), some (fq q), some (.int ((F.filter fun y => decide (y < q)).length : Nat)), o4], s2.set st.length (.lst ((putQ q F).map fun q => fq q)), rfl, ?_, .inl rfl, by omega, ⟨_, _, _, rfl⟩, g ++ [.lst ((F.filter fun y => decide (y < q)).map fun q => fq q)], ?_⟩
          · simp [hlc, hlenT, hin, hd, xMeth, isTy, hget2, hins]
          · rw [← hs2, ← hs1]
            rw [List.append_assoc, List.set_append_right _ _ (Nat.le_refl _)]
            simp)
  obtain ⟨_, ⟨o2, o3, o4, rfl⟩, g, rfl⟩ := h2
  have hl : (qs.map fun q => fq q).length = qs.length := by simp
  rw [hl, List.take_length] at h1
  refine ⟨g, ?_⟩
  simp [F__law_sorted, B__law_sorted, fnF]
  rw [h1]
  simp
end
end K29
/-! P3 -/
set_option Elab.async false
set_option linter.all false
set_option maxRecDepth 100000
set_option maxHeartbeats 4000000
set_option exponentiation.threshold 4000
namespace K29
open PySem PySem.Spec PyProof.Rows L2 TL LamX
noncomputable section
variable [Tb]
theorem nic_good {k W : Nat} {d : PyData} (h : Nic k W d) (hk : k ≤ 60) (hw : W ≤ 25000) : goodD d := ⟨h.shaped hk, h.sh, h.nd, Nat.le_trans h.dp hk, h.fits hw⟩
theorem nic_alike {x y : T} {st : Store} {d : PyData} {k W : Nat} (h : Nic k W d) (hx : isBox x = true) (hy : isBox y = true) (h1 : toD st dpth x = some d) (h2 : toD st dpth y = some d) (hk : k ≤ 60 := by decide) (hw : W ≤ 25000 := by first | decide | omega) : F__law_alike [x, y] st = some (.bl true, st) := alike_ok hx hy h1 h2 (nic_good h hk hw)
def quoQ (p q : Rat) : Rat := Rat.divInt (p.num * q.den) (p.den * q.num)
theorem num_ne {q : Rat} (h : q ≠ 0) : q.num ≠ 0 := fun e => h (Rat.num_eq_zero.mp e)
theorem quo_ne {p q : Rat} (h : q ≠ 0) : ((p.den : Nat) : Int) * q.num ≠ 0 := Int.mul_ne_zero (den_ne p) (num_ne h)
theorem quo_mul {p q : Rat} (h : q ≠ 0) : quoQ p q * q = p := by
  unfold quoQ
  have e : Rat.divInt q.num q.den = q := Rat.num_divInt_den q
  rw (occs := [3]) [← e]
  rw [Rat.divInt_mul_divInt]
  have e2 : p.num * (q.den : Int) * q.num = p.num * (q.den * q.num) := Int.mul_assoc _ _ _
  have e3 : (p.den : Int) * q.num * (q.den : Int) = p.den * (q.den * q.num) := by rw [Int.mul_assoc, Int.mul_comm q.num]
  rw [e2, e3, Rat.divInt_mul_right (Int.mul_ne_zero (den_ne q) (num_ne h)), Rat.num_divInt_den]
theorem sz_any {n d : Int} {k : Nat} (hd : d ≠ 0) (hn : n.natAbs < 2 ^ k) (hdk : d.natAbs < 2 ^ k) : Sz k (Rat.divInt n d) := by
  by_cases h : 0 < d
  · exact sz_div h hn hdk
  · have e : Rat.divInt n d = Rat.divInt (-n) (-d) := (Rat.neg_divInt_neg n d).symm
    rw [e]
    exact sz_div (by omega) (by omega) (by omega)
theorem mul_lt {i j : Int} {a b : Nat} (hi : i.natAbs < 2 ^ a) (hj : j.natAbs < 2 ^ b) : (i * j).natAbs < 2 ^ (a + b) := by
  rw [Int.natAbs_mul, Nat.pow_add]
  exact Nat.mul_lt_mul'' hi hj
theorem Sz.quo {p q : Rat} {a b : Nat} (hp : Sz a p) (hq : Sz b q) (h : q ≠ 0) : Sz (a + b) (quoQ p q) := sz_any (quo_ne h) (mul_lt hp.n (natAbs_den hq)) (mul_lt (natAbs_den hp) hq.n)
theorem Sz.mul {p q : Rat} {a b : Nat} (hp : Sz a p) (hq : Sz b q) : Sz (a + b) (p * q) := by
  have e : p * q = Rat.divInt (p.num * q.num) (p.den * q.den) := by
    rw [← Rat.divInt_mul_divInt, Rat.num_divInt_den, Rat.num_divInt_den]
  rw [e]
  exact sz_any (den_mul_ne p q) (mul_lt hp.n hq.n) (mul_lt (natAbs_den hp) (natAbs_den hq))
theorem Sz.neg {p : Rat} {a : Nat} (hp : Sz a p) : Sz a (-p) := ⟨by rw [Rat.neg_num, Int.natAbs_neg]; exact hp.n, by rw [Rat.neg_den]; exact hp.d⟩
theorem Sz.sub {p q : Rat} {a b : Nat} (hp : Sz a p) (hq : Sz b q) : Sz (a + b + 1) (p - q) := by rw [Rat.sub_eq_add_neg]; exact hp.add hq.neg
theorem q_over {p q : Rat} {k : Nat} {st : Store} (hp : Sz k p) (hq : Sz k q) (hk : k ≤ 4000) (h : q ≠ 0) : S_over [fq p, fq q] st = some (fq (quoQ p q), st) := by
  show (if _ then some (fr (nf _ _), st) else none) = _
  rw [if_pos ⟨bits_of hp.n (natAbs_den hq) hk, bits_of (natAbs_den hp) hq.n hk, quo_ne h, mul_log (natAbs_den hp) hq.n hk⟩, nf_rat (quo_ne h)]; rfl
theorem nic_str4 {x : Str} (h1 : PySem.PyData.canLay0 (.str x) = true) (h2 : PySem.PyData.leavesShort 600 (.str x) = true) (h3 : x.cps.size = 4) : Nic 0 4 (.str x) := ⟨h1, rfl, Nat.le_refl _, h2, Nat.le_of_eq h3⟩
theorem Sz.one : Sz 1 1 := ⟨by decide, by decide⟩
theorem Sz.pow {q : Rat} {k : Nat} (h : Sz k q) : ∀ i : Nat, Sz (1 + i * k) (q ^ i)
  | 0 => by simpa using Sz.one
  | i + 1 => by
    rw [Rat.pow_succ]
    exact (Sz.mul (Sz.pow h i) h).up (by rw [Nat.succ_mul]; omega)
theorem BagAt.lt {N : Nat} {st : Store} {l m : Nat} (h : BagAt N st l m) : l < st.length := by
  obtain ⟨a, b, c, cs, e, _⟩ := h.ex
  exact (List.getElem?_eq_some_iff.mp e).1
theorem BagAt.ltm {N : Nat} {st : Store} {l m : Nat} (h : BagAt N st l m) : m < st.length := by
  obtain ⟨a, b, c, cs, _, e, _⟩ := h.ex
  exact (List.getElem?_eq_some_iff.mp e).1
theorem rngs_len {c : Nat} : (rngs 0 c).length = c := by simp [rngs]
theorem p62 : (2 : Int) ^ 62 = 4611686018427387904 := by decide
theorem range_j {f : XE} {e : Env1} {st s1 : Store} {j : Int} {c : Nat} (hf : f e st = some (.int j, s1)) (h : -(2 ^ 62) ≤ j ∧ j < 2 ^ 62) (hj : j.toNat = c) : xiRange1 f e st = some (fun _ => some (rngs 0 c), s1) := by
  subst hj
  unfold xiRange1
  rw [hf]
  exact if_pos h
theorem range_ok (j : Int) (h : 0 ≤ j ∧ j < 1000000) : -(2 ^ 62) ≤ j ∧ j < 2 ^ 62 := by
  rw [p62]
  omega
theorem range_it {f : XE} {e : Env1} {st s1 : Store} {c : Nat} (hf : f e st = some (.int c, s1)) (hc : c < 1000000) : xiRange1 f e st = some (fun _ => some (rngs 0 c), s1) := range_j hf (range_ok _ ⟨by omega, by omega⟩) (Int.toNat_natCast c)
theorem fdiv_size {n : Int} {d : Nat} {k : Nat} (h : n.natAbs < 2 ^ k) : (n.fdiv (d : Int)).natAbs < 2 ^ k := by
  rw [Int.fdiv_eq_ediv_of_nonneg _ (by omega)]
  exact Nat.lt_of_le_of_lt (Int.natAbs_ediv_le_natAbs _ _) h
theorem pow9 {s : Store} : powT (.int 10) (.int 9) s = some (.int 1000000000, s) := by
  rw [r_pow, if_pos ⟨by decide, by decide, by decide⟩]
  rfl
theorem over_int {n d : Int} {s : Store} (hd : d ≠ 0) (hl : d.natAbs.log2 < 9000) : S__law_over [.int n, .int d] s = some (fq (Rat.divInt n d), s) := by
  unfold S__law_over
  simp only []
  rw [if_pos ⟨hd, hl⟩, nf_rat hd]
theorem Row.box {x : T} {st : Store} {qs : List Rat} (h : Row x st qs) : isBox x = true := by
  rcases h with rfl | ⟨l, rfl, _⟩ <;> rfl
theorem Row.data {x : T} {st : Store} {qs : List Rat} {k : Nat} (h : Row x st qs) (hq : ∀ q ∈ qs, Sz k q) (hk : k ≤ 1900) : ∃ d, Nic 2 (qs.length * (2 * (k + 2) + 1)) d ∧ ∀ g, toD (st ++ g) dpth x = some d := by
  rcases h with rfl | ⟨l, rfl, h⟩
  · refine ⟨_, (nic_dqs hq hk).tuple, fun g => ?_⟩
    show toD _ (10 + 2) _ = _
    unfold toD
    rw [toD_fqs]; rfl
  · exact ⟨_, (nic_dqs hq hk).list, fun g => toD_rowL (getA h)⟩
theorem Row.ix0 {x : T} {st : Store} {q0 : Rat} {r : List Rat} (h : Row x st (q0 :: r)) : ixA x (.int 0) st = some (fq q0, st) := by
  rcases h with rfl | ⟨l, rfl, h⟩
  · simp
  · rw [r_ixLst h]; simp
theorem atI_last {α : Type} (l : List α) (a : α) : atI (l ++ [a]) (-1) = some a := by
  have h : L2.ixN (l.length + 1) (-1) = some l.length := by
    unfold L2.ixN
    have e1 : ¬ (0 : Int) ≤ -1 := by omega
    simp
    omega
  unfold atI
  simp [h]
theorem set_behind {st R : Store} {o v : Ob} {n : Nat} (h : st.length < n) : (st ++ (o :: R)).set n v = st ++ (o :: R.set (n - st.length - 1) v) := by
  rw [List.set_append_right _ _ (by omega)]
  obtain ⟨k, hk⟩ : ∃ k, n - st.length = k + 1 := ⟨n - st.length - 1, by omega⟩
  rw [hk, List.set_cons_succ, Nat.add_sub_cancel]
theorem BagAt.set {N : Nat} {st : Store} {l m j : Nat} {o : Ob} (h : BagAt N st l m) (h1 : j ≠ l) (h2 : j ≠ m) : BagAt N (st.set j o) l m := by
  obtain ⟨a, b, c, cs, e1, e2, r⟩ := h.ex
  exact ⟨a, b, c, cs, by rw [List.getElem?_set_ne h1]; exact e1, by rw [List.getElem?_set_ne h2]; exact e2, r⟩
theorem More.get {l j : Nat} {st st2 : Store} {o : Ob} (mo : More l st st2) (h : st[j]? = some o) (hj : j ≠ l) : st2[j]? = some o := (mo.at_ j (List.getElem?_eq_some_iff.mp h).1 hj).trans h
theorem Only.get {l j : Nat} {st st2 : Store} {o : Ob} (mo : Only l st st2) (h : st[j]? = some o) (hj : j ≠ l) : st2[j]? = some o := (mo.at_ j hj).trans h
theorem cut_map {α β : Type} (f : α → β) (xs : List α) (lo hi : Option Int) : cutG (xs.map f) lo hi = (cutG xs lo hi).map f := by
  unfold cutG
  simp [List.map_take, List.map_drop]
theorem cut_mem {α : Type} {xs : List α} {lo hi : Option Int} {x : α} (h : x ∈ cutG xs lo hi) : x ∈ xs := by
  unfold cutG at h
  exact List.mem_of_mem_drop (List.mem_of_mem_take h)
theorem cut_len {α : Type} (xs : List α) (lo hi : Option Int) : (cutG xs lo hi).length ≤ xs.length := by
  unfold cutG
  simp only [List.length_take, List.length_drop]
  omega
theorem add_rows {p j : Nat} {a b : List T} {st : Store} (ha : st[p]? = some (.lst a)) (hb : st[j]? = some (.lst b)) (hl : a.length + b.length ≤ 1000) : addT (.ref p) (.ref j) st = some (.ref st.length, st ++ [.lst (a ++ b)]) := by
  have : a.length + b.length ≤ sizeLine := Nat.le_of_lt (small1000 hl)
  simp [addT, ha, hb, this]
theorem tup_row {j : Nat} {qs : List Rat} {st : Store} (h : st[j]? = some (.lst (qs.map fun q => fq q))) : tupleT [.ref j] st = some (.tup (qs.map fun q => fq q), st) := by
  simp [tupleT, h]
end
end K29
/-! P4 -/
set_option Elab.async false
set_option linter.all false
set_option maxRecDepth 100000
set_option maxHeartbeats 4000000
set_option exponentiation.threshold 4000
namespace K29
open PySem PySem.Spec PyProof.Rows L2 TL LamX
noncomputable section
variable [Tb]
/-! ### whole parts -/
theorem cast_ne {d : Int} (h : d ≠ 0) : (d : Rat) ≠ 0 := fun e => h (Rat.intCast_eq_zero_iff.mp e)
theorem divInt_cancel {n d : Int} (hd : d ≠ 0) : Rat.divInt n d * (d : Rat) = (n : Rat) := by
  rw [Rat.divInt_eq_div, Rat.div_mul_cancel (cast_ne hd)]
theorem mul_le_iff {a b c : Rat} (h : 0 < c) : a * c ≤ b * c ↔ a ≤ b := ⟨fun h1 => Rat.le_of_mul_le_mul_right h1 h, fun h1 => Rat.mul_le_mul_of_nonneg_right h1 (Rat.le_of_lt h)⟩
theorem floor_div {n d : Int} (hd : 0 < d) : n.fdiv d = (Rat.divInt n d).floor := by
  rw [Int.fdiv_eq_ediv_of_nonneg _ (by omega)]
  have hdq : (0 : Rat) < (d : Rat) := Rat.intCast_pos.mpr hd
  have hc := divInt_cancel (n := n) (d := d) (by omega)
  have key : ∀ m : Int, m ≤ (Rat.divInt n d).floor ↔ m ≤ n / d := fun m => by
    rw [Rat.le_floor_iff, Int.le_ediv_iff_mul_le hd, ← mul_le_iff hdq, hc, ← Rat.intCast_mul, Rat.intCast_le_intCast]
  have h1 := (key (Rat.divInt n d).floor).mp (Int.le_refl _)
  have h2 := (key (n / d)).mpr (Int.le_refl _)
  omega
theorem floor_num (q : Rat) : q.num.fdiv (q.den : Int) = q.floor := by
  rw [Rat.floor_def, Int.fdiv_eq_ediv_of_nonneg _ (by omega)]
theorem quo_div {p q : Rat} (h : q ≠ 0) : quoQ p q = p / q := by
  have := quo_mul (p := p) h
  grind
theorem num_pos {g : Rat} (h : 0 < g) : 0 < g.num := by
  have h1 := (Rat.lt_iff 0 g).mp h
  simpa using h1
theorem law_floor_eq {x g : Rat} (h : 0 < g) : (x.num * (g.den : Int)).fdiv ((x.den : Int) * g.num) = (x / g).floor := by
  have hp := num_pos h
  have hd : (0 : Int) < x.den := by have := x.den_nz; omega
  have h0 : g ≠ 0 := by grind
  rw [floor_div (Int.mul_pos hd hp), ← quo_div h0]
  rfl
/-- the neighbour below -/
def loQ (x g : Rat) : Rat := ((x / g).floor : Rat) * g
theorem ne_of_pos {g : Rat} (h : 0 < g) : g ≠ 0 := fun e => by subst e; exact Rat.lt_irrefl h
theorem lo_le {x g : Rat} (h : 0 < g) : loQ x g ≤ x := by
  have h2 := (mul_le_iff h).mpr (Rat.floor_le (x / g))
  rw [Rat.div_mul_cancel (ne_of_pos h)] at h2
  exact h2
theorem lo_lt {x g : Rat} (h : 0 < g) : x < loQ x g + g := by
  have h2 := (Rat.mul_lt_mul_right (a := x / g) h).mpr (Rat.lt_floor_add_one (x / g))
  rw [Rat.div_mul_cancel (ne_of_pos h), Rat.intCast_add, Rat.add_mul] at h2
  have e : ((1 : Int) : Rat) * g = g := by rw [Rat.intCast_one, Rat.one_mul]
  rw [e] at h2
  exact h2
def Mul (v g : Rat) : Prop := ∃ k : Int, v = (k : Rat) * g
theorem lo_mul (x g : Rat) : Mul (loQ x g) g := ⟨_, rfl⟩
theorem hi_mul (x g : Rat) : Mul (loQ x g + g) g := ⟨(x / g).floor + 1, by unfold loQ; rw [Rat.intCast_add]; grind⟩
theorem lo_of_mul {v g : Rat} (h : 0 < g) (m : Mul v g) : loQ v g = v := by
  obtain ⟨k, rfl⟩ := m
  unfold loQ
  have : (k : Rat) * g / g = (k : Rat) := by grind
  rw [this, Rat.floor_intCast]
theorem mul_gap {a v g : Rat} (h : 0 < g) (ha : Mul a g) (hv : Mul v g) (h1 : a ≤ v) (h2 : v ≤ a + g) : v = a ∨ v = a + g := by
  obtain ⟨j, rfl⟩ := ha
  obtain ⟨k, rfl⟩ := hv
  have h3 : (j : Rat) ≤ (k : Rat) := by
    exact (mul_le_iff h).mp h1
  have h4 : (k : Rat) ≤ ((j + 1 : Int) : Rat) := by
    refine (mul_le_iff h).mp ?_
    rw [Rat.intCast_add]
    grind
  have h5 : j ≤ k := by exact_mod_cast h3
  have h6 : k ≤ j + 1 := by exact_mod_cast h4
  have : k = j ∨ k = j + 1 := by omega
  rcases this with rfl | rfl
  · exact .inl rfl
  · exact .inr (by rw [Rat.intCast_add]; grind)
/-- multiples of a multiple -/
theorem Mul.of {a G g : Rat} (h : Mul a G) (h2 : Mul G g) : Mul a g := by
  obtain ⟨j, rfl⟩ := h
  obtain ⟨k, rfl⟩ := h2
  exact ⟨j * k, by rw [Rat.intCast_mul]; grind⟩
/-- no multiple lies strictly between -/
theorem lo_ge {a x g : Rat} (h : 0 < g) (ha : Mul a g) (h1 : a ≤ x) : a ≤ loQ x g := by
  obtain ⟨k, rfl⟩ := ha
  unfold loQ
  refine Rat.mul_le_mul_of_nonneg_right ?_ (Rat.le_of_lt h)
  have : k ≤ (x / g).floor := by
    rw [Rat.le_floor_iff]
    refine (mul_le_iff h).mp ?_
    rw [Rat.div_mul_cancel (ne_of_pos h)]
    exact h1
  exact_mod_cast this
theorem hi_le {b x g : Rat} (h : 0 < g) (hb : Mul b g) (h1 : x ≤ b) (hne : loQ x g ≠ x) : loQ x g + g ≤ b := by
  have h2 := lo_le (x := x) h
  have h3 : loQ x g < b := by grind
  obtain ⟨k, rfl⟩ := hb
  unfold loQ at h3 ⊢
  have h4 : ((x / g).floor : Rat) < (k : Rat) := (Rat.mul_lt_mul_right h).mp h3
  have h5 : (x / g).floor + 1 ≤ k := by
    have : (x / g).floor < k := by exact_mod_cast h4
    omega
  have h6 : (((x / g).floor + 1 : Int) : Rat) ≤ (k : Rat) := by exact_mod_cast h5
  have h7 := Rat.mul_le_mul_of_nonneg_right h6 (Rat.le_of_lt h)
  rw [Rat.intCast_add] at h7
  grind
/-! ### the throw by neighbours -/
abbrev Thr := List (Rat × Rat)
def upQ (x g : Rat) : Rat := (x - loQ x g) / g
def nbT (x g : Rat) : Thr := if loQ x g = x then [(x, 1)] else [(loQ x g, 1 - upQ x g), (loQ x g + g, upQ x g)]
theorem up_pos {x g : Rat} (h : 0 < g) (hne : loQ x g ≠ x) : 0 < upQ x g ∧ upQ x g < 1 := by
  have h1 := lo_le (x := x) h
  have h2 := lo_lt (x := x) h
  have h3 : upQ x g * g = x - loQ x g := by unfold upQ; grind
  constructor
  · have := Rat.mul_lt_mul_right (a := 0) (b := upQ x g) h
    refine this.mp ?_
    grind
  · have := Rat.mul_lt_mul_right (a := upQ x g) (b := 1) h
    refine this.mp ?_
    grind
theorem up_mul {x g : Rat} (h : 0 < g) : upQ x g * g = x - loQ x g := by unfold upQ; exact Rat.div_mul_cancel (ne_of_pos h)
theorem nb_all {P : Rat × Rat → Prop} {x g : Rat} (h1 : loQ x g = x → P (x, 1)) (h2 : loQ x g ≠ x → P (loQ x g, 1 - upQ x g)) (h3 : loQ x g ≠ x → P (loQ x g + g, upQ x g)) : ∀ p ∈ nbT x g, P p := by
  intro p hp
  unfold nbT at hp
  split at hp
  · rename_i e
    rw [List.mem_singleton.mp hp]; exact h1 e
  · rename_i e
    simp only [List.mem_cons, List.not_mem_nil, or_false] at hp
    rcases hp with rfl | rfl
    · exact h2 e
    · exact h3 e
theorem nb_pos {x g : Rat} (h : 0 < g) : ∀ p ∈ nbT x g, 0 < p.2 := nb_all (fun _ => by grind) (fun e => by have := up_pos h e; grind) (fun e => (up_pos h e).1)
theorem nb_mul {x g : Rat} (h : 0 < g) : ∀ p ∈ nbT x g, Mul p.1 g := nb_all (fun e => by show Mul x g; rw [← e]; exact lo_mul x g) (fun _ => lo_mul x g) (fun _ => hi_mul x g)
theorem nb_between {a b x g : Rat} (h : 0 < g) (ha : Mul a g) (hb : Mul b g) (h1 : a ≤ x) (h2 : x ≤ b) : ∀ p ∈ nbT x g, a ≤ p.1 ∧ p.1 ≤ b :=
  nb_all (fun _ => ⟨h1, h2⟩) (fun _ => ⟨lo_ge h ha h1, Rat.le_trans (lo_le h) h2⟩) (fun e => ⟨by have := lo_ge h ha h1; show a ≤ loQ x g + g; grind, hi_le h hb h2 e⟩)
/-! ### sums -/
theorem sum_fold : ∀ (l : List Rat) (a : Rat), l.foldl (· + ·) a = a + l.sum
  | [], a => by rw [List.foldl_nil, List.sum_nil, Rat.add_zero]
  | x :: l, a => by rw [List.foldl_cons, sum_fold l, List.sum_cons, Rat.add_assoc]
theorem sumQ_sum (l : List Rat) : sumQ l = l.sum := by
  unfold sumQ
  rw [sum_fold, Rat.zero_add]
def totT (ps : Thr) : Rat := (ps.map (·.2)).sum
def wT (f : Rat → Rat) (ps : Thr) : Rat := (ps.map fun p => f p.1 * p.2).sum
theorem wT_nil (f : Rat → Rat) : wT f [] = 0 := rfl
theorem wT_cons (f : Rat → Rat) (p : Rat × Rat) (ps : Thr) : wT f (p :: ps) = f p.1 * p.2 + wT f ps := by unfold wT; rw [List.map_cons, List.sum_cons]
theorem sum_app : ∀ a b : List Rat, (a ++ b).sum = a.sum + b.sum
  | [], b => by rw [List.nil_append, List.sum_nil, Rat.zero_add]
  | x :: a, b => by rw [List.cons_append, List.sum_cons, List.sum_cons, sum_app a b, Rat.add_assoc]
theorem wT_app (f : Rat → Rat) (a b : Thr) : wT f (a ++ b) = wT f a + wT f b := by unfold wT; rw [List.map_append, sum_app]
theorem nb_w {x g : Rat} (h : 0 < g) : wT (fun _ => 1) (nbT x g) = 1 ∧ wT id (nbT x g) = x := by
  have hu := up_mul (x := x) h
  unfold nbT
  split
  · constructor
    · rw [wT_cons, wT_nil]; grind
    · rw [wT_cons, wT_nil]; show x * 1 + 0 = x; grind
  · generalize loQ x g = l at *
    generalize upQ x g = u at *
    constructor
    · rw [wT_cons, wT_cons, wT_nil]; grind
    · rw [wT_cons, wT_cons, wT_nil]
      show l * (1 - u) + ((l + g) * u + 0) = x
      grind
/-- all ends of a throw, rounded once more -/
def endsQ (ps : Thr) (g : Rat) : Thr := ps.flatMap fun p => (nbT p.1 g).map fun q => (q.1, p.2 * q.2)
def partOf (es : Thr) (v : Rat) : List Rat := (es.filter fun e => decide (e.1 = v)).map (·.2)
def lawOf (es : Thr) : Thr := (sortQ (es.map (·.1))).map fun v => (v, sumQ (partOf es v))
def stepQ (ps : Thr) (g : Rat) : Thr := lawOf (endsQ ps g)
def againQ (x : Rat) (gs : List Rat) : Thr := gs.foldl stepQ [(x, 1)]
theorem w_scale (f : Rat → Rat) (c : Rat) : ∀ qs : Thr, wT f (qs.map fun q => (q.1, c * q.2)) = c * wT f qs
  | [] => by rw [List.map_nil, wT_nil, Rat.mul_zero]
  | q :: qs => by
    rw [List.map_cons, wT_cons, wT_cons, w_scale f c qs]
    show f q.1 * (c * q.2) + c * wT f qs = c * (f q.1 * q.2 + wT f qs)
    grind
theorem ends_w {g : Rat} (h : 0 < g) : ∀ ps : Thr, wT (fun _ => 1) (endsQ ps g) = wT (fun _ => 1) ps ∧ wT id (endsQ ps g) = wT id ps
  | [] => ⟨rfl, rfl⟩
  | p :: ps => by
    obtain ⟨i1, i2⟩ := ends_w h ps
    obtain ⟨n1, n2⟩ := nb_w (x := p.1) h
    have e : endsQ (p :: ps) g = ((nbT p.1 g).map fun q => (q.1, p.2 * q.2)) ++ endsQ ps g := by unfold endsQ; rw [List.flatMap_cons]
    rw [e, wT_app, wT_app, wT_cons, wT_cons, w_scale, w_scale, i1, i2, n1, n2]
    constructor
    · show p.2 * 1 + _ = 1 * p.2 + _
      grind
    · show p.2 * p.1 + _ = id p.1 * p.2 + _
      show p.2 * p.1 + _ = p.1 * p.2 + _
      grind
theorem ends_mem {ps : Thr} {g : Rat} {e : Rat × Rat} : e ∈ endsQ ps g ↔ ∃ p ∈ ps, ∃ q ∈ nbT p.1 g, e = (q.1, p.2 * q.2) := by
  unfold endsQ
  rw [List.mem_flatMap]
  constructor
  · rintro ⟨p, hp, h⟩
    obtain ⟨q, hq, rfl⟩ := List.mem_map.mp h
    exact ⟨p, hp, q, hq, rfl⟩
  · rintro ⟨p, hp, q, hq, rfl⟩
    exact ⟨p, hp, List.mem_map.mpr ⟨q, hq, rfl⟩⟩
/-- one place of a row without doubles -/
theorem sum_one (k a : Rat) : ∀ S : List Rat, S.Nodup → (S.map fun v => if v = a then k else 0).sum = if a ∈ S then k else 0
  | [], _ => rfl
  | s :: S, h => by
    obtain ⟨h1, h2⟩ := List.nodup_cons.mp h
    rw [List.map_cons, List.sum_cons, sum_one k a S h2]
    by_cases e : s = a
    · subst e
      rw [if_pos rfl, if_neg h1, if_pos List.mem_cons_self, Rat.add_zero]
    · rw [if_neg e, Rat.zero_add]
      by_cases m : a ∈ S
      · rw [if_pos m, if_pos (List.mem_cons_of_mem _ m)]
      · rw [if_neg m, if_neg]
        intro z
        rcases List.mem_cons.mp z with z | z
        · exact e z.symm
        · exact m z
theorem sum_add {α : Type} (f k : α → Rat) : ∀ S : List α, (S.map fun v => f v + k v).sum = (S.map f).sum + (S.map k).sum
  | [] => by rw [List.map_nil, List.map_nil, List.map_nil, List.sum_nil, Rat.add_zero]
  | s :: S => by
    rw [List.map_cons, List.map_cons, List.map_cons, List.sum_cons, List.sum_cons, List.sum_cons, sum_add f k S]
    grind
theorem part_cons (e : Rat × Rat) (es : Thr) (v : Rat) : (partOf (e :: es) v).sum = (if v = e.1 then e.2 else 0) + (partOf es v).sum := by
  unfold partOf
  by_cases h : e.1 = v
  · rw [List.filter_cons_of_pos (by simpa using h), List.map_cons, List.sum_cons, if_pos h.symm]
  · rw [List.filter_cons_of_neg (by simpa using h), if_neg (fun z => h z.symm), Rat.zero_add]
theorem group (f : Rat → Rat) {S : List Rat} (hS : S.Nodup) : ∀ es : Thr, (∀ e ∈ es, e.1 ∈ S) → (S.map fun v => f v * (partOf es v).sum).sum = wT f es
  | [], _ => by
    have : ∀ S : List Rat, (S.map fun v => f v * (partOf [] v).sum).sum = 0 := by
      intro S
      induction S with
      | nil => rfl
      | cons s S ih =>
        rw [List.map_cons, List.sum_cons, ih]
        show f s * 0 + 0 = 0
        grind
    rw [this, wT_nil]
  | e :: es, h => by
    rw [wT_cons, ← group f hS es fun x hx => h x (List.mem_cons_of_mem _ hx)]
    have h1 : ∀ v, f v * (partOf (e :: es) v).sum = (if v = e.1 then f e.1 * e.2 else 0) + f v * (partOf es v).sum := fun v => by
      rw [part_cons]
      by_cases z : v = e.1
      · rw [if_pos z, if_pos z, z]; grind
      · rw [if_neg z, if_neg z]; grind
    have h2 : (S.map fun v => f v * (partOf (e :: es) v).sum) = S.map fun v => (if v = e.1 then f e.1 * e.2 else 0) + f v * (partOf es v).sum := List.map_congr_left fun v _ => h1 v
    rw [h2, sum_add, sum_one _ _ S hS, if_pos (h e List.mem_cons_self)]
theorem asc_nodup {l : List Rat} (h : Asc l) : l.Nodup := by
  refine List.Pairwise.imp (fun {a b} (hab : a < b) => ?_) h
  exact Rat.ne_of_lt hab
theorem law_w (f : Rat → Rat) (es : Thr) : wT f (lawOf es) = wT f es := by
  rw [← group f (asc_nodup (sortQ_asc (es.map (·.1)))) es fun e he => (sortQ_mem _ _).mpr (List.mem_map.mpr ⟨e, he, rfl⟩)]
  unfold wT lawOf
  rw [List.map_map]
  congr 1
  refine List.map_congr_left fun v _ => ?_
  show f v * sumQ (partOf es v) = _
  rw [sumQ_sum]
theorem law_vals (es : Thr) : (lawOf es).map (·.1) = sortQ (es.map (·.1)) := by
  unfold lawOf
  rw [List.map_map]
  exact List.map_id _
theorem law_mem {es : Thr} {v : Rat} : (∃ c, (v, c) ∈ lawOf es) ↔ ∃ c, (v, c) ∈ es := by
  have h1 : (∃ c, (v, c) ∈ lawOf es) ↔ v ∈ (lawOf es).map (·.1) := by
    rw [List.mem_map]
    constructor
    · rintro ⟨c, h⟩; exact ⟨_, h, rfl⟩
    · rintro ⟨⟨a, c⟩, h, rfl⟩; exact ⟨c, h⟩
  rw [h1, law_vals, sortQ_mem, List.mem_map]
  constructor
  · rintro ⟨⟨a, c⟩, h, rfl⟩; exact ⟨c, h⟩
  · rintro ⟨c, h⟩; exact ⟨_, h, rfl⟩
theorem sum_pos : ∀ l : List Rat, l ≠ [] → (∀ x ∈ l, 0 < x) → 0 < l.sum
  | [], h, _ => absurd rfl h
  | [x], _, h => by rw [List.sum_cons, List.sum_nil, Rat.add_zero]; exact h x List.mem_cons_self
  | x :: y :: l, _, h => by
    have h1 := h x List.mem_cons_self
    have h2 := sum_pos (y :: l) (by simp) fun z hz => h z (List.mem_cons_of_mem _ hz)
    rw [List.sum_cons]
    grind
theorem law_pos {es : Thr} (h : ∀ e ∈ es, 0 < e.2) : ∀ p ∈ lawOf es, 0 < p.2 := by
  intro p hp
  unfold lawOf at hp
  obtain ⟨v, hv, rfl⟩ := List.mem_map.mp hp
  show 0 < sumQ (partOf es v)
  rw [sumQ_sum]
  obtain ⟨e, he, hev⟩ := List.mem_map.mp ((sortQ_mem _ _).mp hv)
  refine sum_pos _ (fun z => ?_) fun x hx => ?_
  · have : e.2 ∈ partOf es v := List.mem_map.mpr ⟨e, List.mem_filter.mpr ⟨he, by simpa using hev⟩, rfl⟩
    rw [z] at this; cases this
  · obtain ⟨y, hy, rfl⟩ := List.mem_map.mp hx
    exact h y (List.mem_filter.mp hy).1
theorem ends_pos {ps : Thr} {g : Rat} (hg : 0 < g) (h : ∀ p ∈ ps, 0 < p.2) : ∀ e ∈ endsQ ps g, 0 < e.2 := by
  intro e he
  obtain ⟨p, hp, q, hq, rfl⟩ := ends_mem.mp he
  exact Rat.mul_pos (h p hp) (nb_pos hg q hq)
end
end K29
/-! P5 -/
set_option Elab.async false
set_option linter.all false
set_option maxRecDepth 100000
set_option maxHeartbeats 4000000
set_option exponentiation.threshold 4000
namespace K29
open PySem PySem.Spec PyProof.Rows L2 TL LamX
noncomputable section
variable [Tb]
/-! ### only one throw by neighbours -/
theorem asc_two {a b : Rat} (hab : a < b) : ∀ l : List Rat, Asc l → (∀ v ∈ l, v = a ∨ v = b) → l = [] ∨ l = [a] ∨ l = [b] ∨ l = [a, b]
  | [], _, _ => .inl rfl
  | [v], _, h => by
    rcases h v List.mem_cons_self with rfl | rfl
    · exact .inr (.inl rfl)
    · exact .inr (.inr (.inl rfl))
  | v :: w :: l, hA, h => by
    have h1 := List.pairwise_cons.mp hA
    have h2 := List.pairwise_cons.mp h1.2
    have hvw := h1.1 w List.mem_cons_self
    have hv := h v List.mem_cons_self
    have hw := h w (by simp)
    have ev : v = a := by rcases hv with e | e <;> rcases hw with e2 | e2 <;> grind
    have ew : w = b := by rcases hw with e2 | e2 <;> grind
    cases l with
    | nil => rw [ev, ew]; exact .inr (.inr (.inr rfl))
    | cons u l =>
      have hu := h u (by simp)
      have hwu := h2.1 u List.mem_cons_self
      exfalso
      rcases hu with e | e <;> grind
theorem asc_one_val {a : Rat} : ∀ l : List Rat, Asc l → (∀ v ∈ l, v = a) → l = [] ∨ l = [a]
  | [], _, _ => .inl rfl
  | [v], _, h => by rw [h v List.mem_cons_self]; exact .inr rfl
  | v :: w :: l, hA, h => by
    have h1 := (List.pairwise_cons.mp hA).1 w List.mem_cons_self
    have e1 := h v List.mem_cons_self
    have e2 := h w (by simp)
    exfalso
    grind
theorem thr_of : ∀ {ps : Thr} {l : List Rat}, ps.map (·.1) = l → ∃ cs : List Rat, ps = List.zip l cs ∧ cs.length = l.length := by
  intro ps l h
  subst h
  refine ⟨ps.map (·.2), ?_, by simp⟩
  induction ps with
  | nil => rfl
  | cons p ps ih =>
    rw [List.map_cons, List.map_cons, List.zip_cons_cons, ← ih]
theorem only_one {ps : Thr} {x g : Rat} (hg : 0 < g) (hA : Asc (ps.map (·.1))) (hv : ∀ p ∈ ps, p.1 = loQ x g ∨ (loQ x g ≠ x ∧ p.1 = loQ x g + g)) (ht : wT (fun _ => 1) ps = 1) (hm : wT id ps = x) : ps = nbT x g := by
  have hlt := lo_lt (x := x) hg
  have hu := up_mul (x := x) hg
  unfold nbT
  by_cases e : loQ x g = x
  · rw [if_pos e]
    have hall : ∀ v ∈ ps.map (·.1), v = x := fun v h => by
      obtain ⟨p, hp, rfl⟩ := List.mem_map.mp h
      rcases hv p hp with h1 | h1
      · rw [h1, e]
      · exact absurd e h1.1
    rcases asc_one_val _ hA hall with h | h
    · obtain ⟨cs, rfl, hl⟩ := thr_of h
      rw [List.zip_nil_left] at ht
      rw [wT_nil] at ht
      exfalso
      grind
    · obtain ⟨cs, rfl, hl⟩ := thr_of h
      obtain ⟨c, rfl⟩ := List.length_eq_one_iff.mp hl
      rw [show List.zip [x] [c] = [(x, c)] from rfl, wT_cons, wT_nil] at ht
      have : c = 1 := by grind
      rw [this]; rfl
  · rw [if_neg e]
    have hall : ∀ v ∈ ps.map (·.1), v = loQ x g ∨ v = loQ x g + g := fun v h => by
      obtain ⟨p, hp, rfl⟩ := List.mem_map.mp h
      rcases hv p hp with h1 | h1
      · exact .inl h1
      · exact .inr h1.2
    generalize loQ x g = l at *
    generalize upQ x g = u at *
    rcases asc_two (show l < l + g by grind) _ hA hall with h | h | h | h
    · obtain ⟨cs, rfl, hl⟩ := thr_of h
      rw [List.zip_nil_left, wT_nil] at ht
      exfalso
      grind
    · obtain ⟨cs, rfl, hl⟩ := thr_of h
      obtain ⟨c, rfl⟩ := List.length_eq_one_iff.mp hl
      rw [show List.zip [l] [c] = [(l, c)] from rfl, wT_cons, wT_nil] at ht hm
      have hm2 : l * c + 0 = x := hm
      have : c = 1 := by grind
      subst this
      exfalso
      grind
    · obtain ⟨cs, rfl, hl⟩ := thr_of h
      obtain ⟨c, rfl⟩ := List.length_eq_one_iff.mp hl
      rw [show List.zip [l + g] [c] = [(l + g, c)] from rfl, wT_cons, wT_nil] at ht hm
      have hm2 : (l + g) * c + 0 = x := hm
      have : c = 1 := by grind
      subst this
      exfalso
      grind
    · obtain ⟨cs, rfl, hl⟩ := thr_of h
      match cs, hl with
      | [c, d], _ =>
        rw [show List.zip [l, l + g] [c, d] = [(l, c), (l + g, d)] from rfl, wT_cons, wT_cons, wT_nil] at ht hm
        have hm2 : l * c + ((l + g) * d + 0) = x := hm
        have h1 : c = 1 - d := by grind
        subst h1
        have h2 : d * g = u * g := by grind
        have h3 : d = u := by
          have := ne_of_pos hg
          grind
        rw [h3]; rfl
/-! ### rounded again and again, all grains being parts of the last one -/
theorem step_asc (ps : Thr) (g : Rat) : Asc ((stepQ ps g).map (·.1)) := by unfold stepQ; rw [law_vals]; exact sortQ_asc _
theorem step_w {ps : Thr} {g : Rat} (h : 0 < g) : wT (fun _ => 1) (stepQ ps g) = wT (fun _ => 1) ps ∧ wT id (stepQ ps g) = wT id ps := by
  unfold stepQ
  rw [law_w, law_w]
  exact ends_w h ps
theorem step_mem {ps : Thr} {g : Rat} {p : Rat × Rat} (h : p ∈ stepQ ps g) : ∃ p0 ∈ ps, ∃ q ∈ nbT p0.1 g, p.1 = q.1 := by
  obtain ⟨c, hc⟩ := (law_mem (es := endsQ ps g) (v := p.1)).mp ⟨p.2, h⟩
  obtain ⟨p0, hp0, q, hq, e⟩ := ends_mem.mp hc
  exact ⟨p0, hp0, q, hq, (Prod.mk.inj e).1⟩
theorem step_of {ps : Thr} {g : Rat} {p0 q : Rat × Rat} (h0 : p0 ∈ ps) (hq : q ∈ nbT p0.1 g) : ∃ c, (q.1, c) ∈ stepQ ps g := law_mem.mpr ⟨p0.2 * q.2, ends_mem.mpr ⟨p0, h0, q, hq, rfl⟩⟩
theorem fold_inv (P : Thr → Prop) (hs : ∀ ps g, P ps → P (stepQ ps g)) : ∀ (gs : List Rat) (ps : Thr), P ps → P (gs.foldl stepQ ps)
  | [], _, h => h
  | g :: gs, ps, h => fold_inv P hs gs _ (hs ps g h)
theorem fold_inv2 (P : Thr → Prop) : ∀ (gs : List Rat) (ps : Thr), (∀ g ∈ gs, ∀ ps, P ps → P (stepQ ps g)) → P ps → P (gs.foldl stepQ ps)
  | [], _, _, h => h
  | g :: gs, ps, hs, h => fold_inv2 P gs _ (fun g2 h2 => hs g2 (List.mem_cons_of_mem _ h2)) (hs g List.mem_cons_self ps h)
theorem once_same {x G : Rat} {gs : List Rat} (hG : 0 < G) (hpos : ∀ g ∈ gs, 0 < g) (hm : ∀ g ∈ gs, Mul G g) : againQ x (gs ++ [G]) = nbT x G := by
  unfold againQ
  rw [List.foldl_append, List.foldl_cons, List.foldl_nil]
  have hlo := lo_le (x := x) hG
  have hlt := lo_lt (x := x) hG
  have hloM := lo_mul x G
  have hhiM : Mul (if loQ x G = x then loQ x G else loQ x G + G) G := by
    split
    · exact hloM
    · exact hi_mul x G
  have hx1 : x ≤ (if loQ x G = x then loQ x G else loQ x G + G) := by
    split
    · rename_i e; rw [e]; exact Rat.le_refl
    · exact Rat.le_of_lt hlt
  have key := fold_inv2 (fun ps => (∀ p ∈ ps, loQ x G ≤ p.1 ∧ p.1 ≤ (if loQ x G = x then loQ x G else loQ x G + G)) ∧ wT (fun _ => 1) ps = 1 ∧ wT id ps = x) gs [(x, 1)] (fun g hg ps h => by
    obtain ⟨h1, h2, h3⟩ := h
    obtain ⟨s1, s2⟩ := step_w (ps := ps) (hpos g hg)
    refine ⟨fun p hp => ?_, s1.trans h2, s2.trans h3⟩
    obtain ⟨p0, hp0, q, hq, e⟩ := step_mem hp
    have hb := h1 p0 hp0
    have := nb_between (hpos g hg) (hloM.of (hm g hg)) (hhiM.of (hm g hg)) hb.1 hb.2 q hq
    rw [e]; exact this) ⟨fun p hp => by rw [List.mem_singleton.mp hp]; exact ⟨hlo, hx1⟩, by rw [wT_cons, wT_nil]; grind, by
      rw [wT_cons, wT_nil]
      show x * 1 + 0 = x
      grind⟩
  generalize gs.foldl stepQ [(x, 1)] = ps at *
  obtain ⟨h1, h2, h3⟩ := key
  obtain ⟨s1, s2⟩ := step_w (ps := ps) hG
  refine only_one hG (step_asc _ _) (fun p hp => ?_) (s1.trans h2) (s2.trans h3)
  obtain ⟨p0, hp0, q, hq, e⟩ := step_mem hp
  have hb := h1 p0 hp0
  have hbt := nb_between hG hloM hhiM hb.1 hb.2 q hq
  have hqm := nb_mul hG q hq
  rw [e]
  by_cases ex : loQ x G = x
  · rw [if_pos ex] at hbt
    exact .inl (Rat.le_antisymm hbt.2 hbt.1)
  · rw [if_neg ex] at hbt
    rcases mul_gap hG hloM hqm hbt.1 hbt.2 with h | h
    · exact .inl h
    · exact .inr ⟨ex, h⟩
/-! ### a grain of which the last is no multiple parts it -/
theorem nb_ne (x g : Rat) : ∃ q, q ∈ nbT x g := by
  unfold nbT
  split
  · exact ⟨_, List.mem_cons_self⟩
  · exact ⟨_, List.mem_cons_self⟩
theorem nb_all_same {v g G : Rat} (hg : 0 < g) (h : ∀ q ∈ nbT v g, q.1 = G) : v = G ∧ loQ v g = v := by
  unfold nbT at h
  split at h
  · rename_i e
    exact ⟨h _ List.mem_cons_self, e⟩
  · have h1 := h _ List.mem_cons_self
    have h2 := h _ (List.mem_cons_of_mem _ List.mem_cons_self)
    exfalso
    have h3 : loQ v g = G := h1
    have h4 : loQ v g + g = G := h2
    grind
theorem back_all {G : Rat} : ∀ (gs : List Rat) (ps : Thr), (∀ g ∈ gs, 0 < g) → ps ≠ [] → (∀ p ∈ gs.foldl stepQ ps, p.1 = G) → (∀ g ∈ gs, loQ G g = G) ∧ ∀ p ∈ ps, p.1 = G
  | [], ps, _, _, h => ⟨fun g (hg : g ∈ []) => absurd hg (List.not_mem_nil), h⟩
  | g :: gs, ps, hp, hne, h => by
    have hg := hp g List.mem_cons_self
    have hne2 : stepQ ps g ≠ [] := by
      intro z
      cases ps with
      | nil => exact hne rfl
      | cons p ps =>
        obtain ⟨q, hq⟩ := nb_ne p.1 g
        obtain ⟨c, hc⟩ := step_of (g := g) (List.mem_cons_self (a := p) (l := ps)) hq
        rw [z] at hc; cases hc
    obtain ⟨i1, i2⟩ := back_all gs (stepQ ps g) (fun z hz => hp z (List.mem_cons_of_mem _ hz)) hne2 h
    have hall : ∀ p ∈ ps, p.1 = G ∧ loQ p.1 g = p.1 := fun p hpp => nb_all_same hg fun q hq => by
      obtain ⟨c, hc⟩ := step_of (g := g) hpp hq
      exact i2 (q.1, c) hc
    refine ⟨fun z hz => ?_, fun p hpp => (hall p hpp).1⟩
    rcases List.mem_cons.mp hz with rfl | hz
    · cases ps with
      | nil => exact absurd rfl hne
      | cons p ps =>
        have := hall p List.mem_cons_self
        rw [this.1] at this
        exact this.2
    · exact i1 z hz
theorem not_once {G : Rat} {gs : List Rat} (hpos : ∀ g ∈ gs, 0 < g) (hG : 0 < G) (h : ∃ g ∈ gs, loQ G g ≠ G) : againQ G gs ≠ nbT G G := by
  intro e
  have h1 : loQ G G = G := lo_of_mul hG ⟨1, by rw [Rat.intCast_one, Rat.one_mul]⟩
  have e2 : nbT G G = [(G, 1)] := by unfold nbT; rw [if_pos h1]
  rw [e2] at e
  obtain ⟨g, hg, hne⟩ := h
  refine hne ((back_all gs [(G, 1)] hpos (by simp) fun p hp => ?_).1 g hg)
  have : p ∈ againQ G gs := hp
  rw [e] at this
  rw [List.mem_singleton.mp this]
end
end K29
/-! P6 -/
set_option Elab.async false
set_option linter.all false
set_option maxRecDepth 100000
set_option maxHeartbeats 4000000
set_option exponentiation.threshold 4000
namespace K29
open PySem PySem.Spec PyProof.Rows L2 TL LamX
noncomputable section
variable [Tb]
/-! ### sizes -/
def Frac (D : Nat) (s : Rat) : Prop := ∃ n : Int, s * ((D : Int) : Rat) = (n : Rat)
theorem frac_sz {D k : Nat} {s : Rat} (hD : 0 < D) (hk : D < 2 ^ k) (h : Frac D s) (h0 : 0 < s) (h1 : s ≤ 1) : Sz k s := by
  obtain ⟨n, hn⟩ := h
  have hDi : (0 : Int) < (D : Int) := by omega
  have hDr : (0 : Rat) < ((D : Int) : Rat) := Rat.intCast_pos.mpr hDi
  have e : s = Rat.divInt n D := by
    rw [Rat.divInt_eq_div, ← hn, Rat.mul_div_cancel (ne_of_pos hDr)]
  have n0 : 0 < n := by
    have : (0 : Rat) < (n : Rat) := by rw [← hn]; exact Rat.mul_pos h0 hDr
    exact Rat.intCast_pos.mp this
  have n1 : n ≤ D := by
    have h2 := (mul_le_iff hDr).mpr h1
    rw [hn, Rat.one_mul] at h2
    exact Rat.intCast_le_intCast.mp h2
  rw [e]
  exact sz_div hDi (by omega) (by omega)
theorem frac_add {D : Nat} {s t : Rat} (h1 : Frac D s) (h2 : Frac D t) : Frac D (s + t) := by
  obtain ⟨n, hn⟩ := h1
  obtain ⟨m, hm⟩ := h2
  exact ⟨n + m, by rw [Rat.intCast_add, Rat.add_mul, hn, hm]⟩
theorem frac_mul {C D : Nat} {s t : Rat} (h1 : Frac C s) (h2 : Frac D t) : Frac (C * D) (s * t) := by
  obtain ⟨n, hn⟩ := h1
  obtain ⟨m, hm⟩ := h2
  refine ⟨n * m, ?_⟩
  rw [Rat.intCast_mul, ← hn, ← hm, Int.natCast_mul, Rat.intCast_mul]
  grind
theorem frac_zero (D : Nat) : Frac D 0 := ⟨0, by rw [Rat.zero_mul]; rfl⟩
theorem frac_sum {D : Nat} : ∀ l : List Rat, (∀ x ∈ l, Frac D x) → Frac D l.sum
  | [], _ => frac_zero D
  | x :: l, h => by rw [List.sum_cons]; exact frac_add (h x List.mem_cons_self) (frac_sum l fun y hy => h y (List.mem_cons_of_mem _ hy))
theorem den_cancel (g : Rat) : g * ((g.den : Int) : Rat) = (g.num : Rat) := by
  have h := divInt_cancel (n := g.num) (d := (g.den : Int)) (den_ne g)
  rw [Rat.num_divInt_den] at h
  exact h
/-- the shares of what has the den E, at a grain -/
theorem nb_frac {v g : Rat} {E N : Nat} (hg : 0 < g) (hN : g.num = N) (hv : Frac E v) : ∀ q ∈ nbT v g, Frac g.den q.1 ∧ Frac (E * N) q.2 := by
  have hgd := den_cancel g
  rw [hN] at hgd
  obtain ⟨z, hz⟩ := hv
  intro q hq
  constructor
  · obtain ⟨k, hk⟩ := nb_mul hg q hq
    refine ⟨k * N, ?_⟩
    rw [hk, Rat.intCast_mul, ← hgd]
    grind
  · have hu := up_mul (x := v) hg
    have h1 : Frac (E * N) 1 := ⟨((E * N : Nat) : Int), by rw [Rat.one_mul]⟩
    have h2 : Frac (E * N) (upQ v g) := by
      refine ⟨z * g.den - (v / g).floor * N * E, ?_⟩
      unfold loQ at hu
      rw [Rat.intCast_sub, Rat.intCast_mul, Rat.intCast_mul, Rat.intCast_mul, Int.natCast_mul, Rat.intCast_mul, ← hz, ← hgd]
      generalize ((v / g).floor : Rat) = f at *
      generalize upQ v g = u at *
      generalize ((E : Int) : Rat) = e at *
      generalize ((g.den : Int) : Rat) = d at *
      have : u * (e * (g * d)) = (u * g) * (e * d) := by grind
      rw [this, hu]
      grind
    have h3 : Frac (E * N) (1 - upQ v g) := by
      obtain ⟨n, hn⟩ := h1
      obtain ⟨m, hm⟩ := h2
      exact ⟨n - m, by rw [Rat.intCast_sub, ← hn, ← hm]; grind⟩
    exact nb_all (P := fun q => Frac (E * N) q.2) (fun _ => h1) (fun _ => h3) (fun _ => h2) q hq
theorem floor_sz {q : Rat} {k : Nat} (h : Sz k q) (hk : 1 ≤ k) : Sz k (q.floor : Rat) := by
  refine ⟨?_, ?_⟩
  · rw [Rat.num_intCast, ← floor_num]
    exact fdiv_size h.n
  · rw [Rat.den_intCast]
    exact Nat.one_lt_two_pow (by omega)
theorem lo_sz {v g : Rat} {k a : Nat} (hv : Sz k v) (hg : Sz a g) (h : 0 < g) (ha : 1 ≤ a) : Sz (k + a + a) (loQ v g) := by
  have h1 := hv.quo hg (ne_of_pos h)
  rw [quo_div (ne_of_pos h)] at h1
  exact (floor_sz h1 (by omega)).mul hg
theorem nb_sz {v g : Rat} {k a : Nat} (hv : Sz k v) (hg : Sz a g) (h : 0 < g) (ha : 1 ≤ a) : ∀ q ∈ nbT v g, Sz (k + 3 * a + 1) q.1 := by
  have h1 := lo_sz hv hg h ha
  exact nb_all (fun _ => hv.up (by omega)) (fun _ => h1.up (by omega)) (fun _ => (h1.add hg).up (by omega))
structure TOk (E M K L : Nat) (ps : Thr) : Prop where
  v : ∀ p ∈ ps, Frac E p.1
  c : ∀ p ∈ ps, Frac M p.2
  pos : ∀ p ∈ ps, 0 < p.2
  k : ∀ p ∈ ps, Sz K p.1
  tot : wT (fun _ => 1) ps = 1
  asc : Asc (ps.map (·.1))
  len : ps.length ≤ L
theorem le_tot : ∀ ps : Thr, (∀ p ∈ ps, 0 < p.2) → 0 ≤ wT (fun _ => 1) ps ∧ ∀ p ∈ ps, p.2 ≤ wT (fun _ => 1) ps
  | [], _ => ⟨by rw [wT_nil]; exact Rat.le_refl, fun p (hp : p ∈ []) => absurd hp List.not_mem_nil⟩
  | p :: ps, h => by
    obtain ⟨i1, i2⟩ := le_tot ps fun q hq => h q (List.mem_cons_of_mem _ hq)
    have h1 := h p List.mem_cons_self
    rw [wT_cons]
    refine ⟨by grind, fun q hq => ?_⟩
    rcases List.mem_cons.mp hq with rfl | hq
    · grind
    · have := i2 q hq
      grind
theorem TOk.le1 {E M K L : Nat} {ps : Thr} (h : TOk E M K L ps) {p : Rat × Rat} (hp : p ∈ ps) : p.2 ≤ 1 := by
  rw [← h.tot]; exact (le_tot ps h.pos).2 p hp
theorem ends_len (g : Rat) : ∀ ps : Thr, (endsQ ps g).length ≤ 2 * ps.length
  | [] => Nat.le_refl _
  | p :: ps => by
    have e : endsQ (p :: ps) g = ((nbT p.1 g).map fun q => (q.1, p.2 * q.2)) ++ endsQ ps g := by unfold endsQ; rw [List.flatMap_cons]
    have h := ends_len g ps
    have h2 : (nbT p.1 g).length ≤ 2 := by unfold nbT; split <;> simp
    rw [e, List.length_append, List.length_map, List.length_cons]
    omega
theorem law_len (es : Thr) : (lawOf es).length ≤ es.length := by
  unfold lawOf
  rw [List.length_map]
  have := sortQ_len (es.map (·.1)) []
  have e3 : (sortQ (es.map (·.1))).length ≤ 0 + (es.map (·.1)).length := this
  rw [List.length_map] at e3
  omega
theorem TOk.step {E M K L : Nat} {ps : Thr} {g : Rat} {a N : Nat} (h : TOk E M K L ps) (hg : 0 < g) (hN : g.num = N) (ha : Sz a g) (h1 : 1 ≤ a) : TOk g.den (M * (E * N)) (K + 3 * a + 1) (2 * L) (stepQ ps g) := by
  have hE : ∀ e ∈ endsQ ps g, Frac g.den e.1 ∧ Frac (M * (E * N)) e.2 ∧ Sz (K + 3 * a + 1) e.1 := fun e he => by
    obtain ⟨p, hp, q, hq, rfl⟩ := ends_mem.mp he
    obtain ⟨f1, f2⟩ := nb_frac hg hN (h.v p hp) q hq
    exact ⟨f1, frac_mul (h.c p hp) f2, nb_sz (h.k p hp) ha hg h1 q hq⟩
  have hval : ∀ p ∈ stepQ ps g, ∃ e ∈ endsQ ps g, e.1 = p.1 := fun p hp => by
    obtain ⟨c, hc⟩ := (law_mem (es := endsQ ps g) (v := p.1)).mp ⟨p.2, hp⟩
    exact ⟨_, hc, rfl⟩
  refine ⟨fun p hp => ?_, fun p hp => ?_, ?_, fun p hp => ?_, (step_w hg).1.trans h.tot, step_asc _ _, ?_⟩
  · obtain ⟨e, he, hp1⟩ := hval p hp
    rw [← hp1]; exact (hE e he).1
  · unfold stepQ lawOf at hp
    obtain ⟨v, hv, rfl⟩ := List.mem_map.mp hp
    show Frac _ (sumQ (partOf (endsQ ps g) v))
    rw [sumQ_sum]
    refine frac_sum _ fun x hx => ?_
    obtain ⟨y, hy, rfl⟩ := List.mem_map.mp hx
    exact (hE y (List.mem_filter.mp hy).1).2.1
  · exact law_pos (ends_pos hg h.pos)
  · obtain ⟨e, he, hp1⟩ := hval p hp
    rw [← hp1]; exact (hE e he).2.2
  · have h2 := law_len (endsQ ps g)
    have h3 := ends_len g ps
    have h4 := h.len
    show (lawOf (endsQ ps g)).length ≤ 2 * L
    omega
theorem TOk.sz {E M K L μ : Nat} {ps : Thr} (h : TOk E M K L ps) (hM : 0 < M) (hμ : M < 2 ^ μ) : ∀ p ∈ ps, Sz μ p.2 := fun p hp => frac_sz hM hμ (h.c p hp) (h.pos p hp) (h.le1 hp)
theorem TOk.one {x : Rat} {K : Nat} (h : Sz K x) : TOk x.den 1 K 1 [(x, 1)] := by
  refine ⟨fun p hp => ?_, fun p hp => ?_, fun p hp => ?_, fun p hp => ?_, ?_, ?_, Nat.le_refl _⟩
  · rw [List.mem_singleton.mp hp]; exact ⟨x.num, den_cancel x⟩
  · rw [List.mem_singleton.mp hp]; exact ⟨1, by show (1 : Rat) * _ = _; rw [Rat.one_mul]; rfl⟩
  · rw [List.mem_singleton.mp hp]
    show (0 : Rat) < 1
    grind
  · rw [List.mem_singleton.mp hp]; exact h
  · rw [wT_cons, wT_nil]; grind
  · exact List.pairwise_singleton _ _
end
end K29
/-! P7 -/
set_option Elab.async false
set_option linter.all false
set_option maxRecDepth 100000
set_option maxHeartbeats 4000000
set_option exponentiation.threshold 4000
namespace K29
open PySem PySem.Spec PyProof.Rows L2 TL LamX
noncomputable section
variable [Tb]
/-! ### neighbours, as both texts work them out -/
abbrev pr (p : Rat × Rat) : T := .tup [fq p.1, fq p.2]
abbrev thr (ps : Thr) : T := .tup (ps.map fun p => pr p)
theorem fq_int (f : Int) : fq (f : Rat) = .tup [.int f, .int 1] := rfl
theorem fq_one : fq (1 : Rat) = .tup [.int 1, .int 1] := rfl
theorem fq_zero : fq (0 : Rat) = .tup [.int 0, .int 1] := rfl
theorem eqd_fq {neg : Bool} {p q : Rat} {st : Store} : eqdT neg (fq p) (fq q) st = some (.bl (if neg then !decide (p = q) else decide (p = q)), st) := by
  have h1 : ∀ a b : Int, toD st dpth (.tup [.int a, .int b]) = some (.tuple [.int a, .int b]) := fun a b => rfl
  have h2 : ∀ a b : Int, SeqAt.shaped (.tuple [.int a, .int b]) = true := fun a b => rfl
  have h3 := eqv_dq p q
  unfold eqdT
  simp only [h1, h2, Bool.and_self, if_true, h3]
theorem eq_fq {p q : Rat} {st : Store} : TL.eqT (fq p) (fq q) st = some (.bl (decide (p = q)), st) := by
  have := eqd_fq (neg := false) (p := p) (q := q) (st := st)
  exact this
theorem ne_fq {p q : Rat} {st : Store} : neT (fq p) (fq q) st = some (.bl (!decide (p = q)), st) := by
  have := eqd_fq (neg := true) (p := p) (q := q) (st := st)
  exact this
def hiQ (x g : Rat) : Rat := if loQ x g = x then loQ x g else loQ x g + g
/-- a bound for all that is worked out at a number and a grain -/
structure Both (k : Nat) (x g : Rat) : Prop where
  sx : Sz k x
  sg : Sz k g
  pos : 0 < g
  one : 1 ≤ k
  le : k ≤ 200
variable {x g : Rat} {k : Nat}
theorem Both.lo (h : Both k x g) : Sz (3 * k) (loQ x g) := (lo_sz h.sx h.sg h.pos h.one).up (by omega)
theorem Both.hi (h : Both k x g) : Sz (4 * k + 1) (loQ x g + g) := (h.lo.add h.sg).up (by omega)
theorem Both.d (h : Both k x g) : Sz (4 * k + 1) (x - loQ x g) := (h.sx.sub h.lo).up (by omega)
theorem Both.up (h : Both k x g) : Sz (5 * k + 1) (upQ x g) := by
  have := h.d.quo h.sg (ne_of_pos h.pos)
  rw [quo_div (ne_of_pos h.pos)] at this
  exact this.up (by omega)
theorem Both.dn (h : Both k x g) : Sz (5 * k + 3) (1 - upQ x g) := (Sz.one.sub h.up).up (by omega)
theorem nb_prog (h : Both k x g) : ∀ st, F_neighbours_of [fq x, fq g] st = some (.tup [fq (loQ x g), fq (hiQ x g)], st) := by
  intro st
  have h1 := h.one
  have h2 := h.le
  have hn := ne_of_pos h.pos
  have e1 : ∀ s, S_over [fq x, fq g] s = some (fq (x / g), s) := fun s => by
    have := q_over (st := s) h.sx h.sg (by omega) hn
    rw [quo_div hn] at this; exact this
  have zq : Sz (2 * k) (x / g) := by
    have := h.sx.quo h.sg hn
    rw [quo_div hn] at this; exact this.up (by omega)
  have e2 : ∀ s, F_whole_below [fq (x / g)] s = some (.int (x / g).floor, s) := fun s => by rw [← floor_num]; exact q_below zq (by omega)
  have e3 : ∀ s, S_times [.tup [.int (x / g).floor, .int 1], fq g] s = some (fq (loQ x g), s) := fun s => q_times (floor_sz zq (by omega)) (h.sg.up (by omega)) (by omega)
  have e4 : ∀ s, TL.eqT (fq (loQ x g)) (fq x) s = some (.bl (decide (loQ x g = x)), s) := fun s => eq_fq
  have e5 : ∀ s, S_added [fq (loQ x g), fq g] s = some (fq (loQ x g + g), s) := fun s => q_added h.lo (h.sg.up (by omega)) (by omega)
  unfold hiQ
  by_cases e : loQ x g = x
  · have e6 : ∀ s, TL.eqT (fq (loQ x g)) (fq x) s = some (.bl true, s) := fun s => by rw [e4, decide_eq_true e]
    rw [if_pos e]
    simp [F_neighbours_of, B_neighbours_of, fnF, e1, e2, e3, e6]
  · have e6 : ∀ s, TL.eqT (fq (loQ x g)) (fq x) s = some (.bl false, s) := fun s => by rw [e4, decide_eq_false e]
    rw [if_neg e]
    simp [F_neighbours_of, B_neighbours_of, fnF, e1, e2, e3, e6, e5]
theorem floor_law (h : Both k x g) : ∀ st, F__law_floor [fq x, fq g] st = some (.int (x / g).floor, st) := by
  intro st
  have h2 := h.le
  have b1 : bitsOk x.num (g.den : Int) = true := bits_of h.sx.n (natAbs_den h.sg) (by omega)
  have b2 : bitsOk (x.den : Int) g.num = true := bits_of (natAbs_den h.sx) h.sg.n (by omega)
  have d1 := quo_ne (p := x) (ne_of_pos h.pos)
  have d2 := mul_log (natAbs_den h.sx) h.sg.n (by omega)
  have e := law_floor_eq (x := x) h.pos
  have d3 : ¬ x.den = 0 := x.den_nz
  have d4 : ¬ g = 0 := ne_of_pos h.pos
  simp [F__law_floor, B__law_floor, fnF, b1, b2, d2, e, d3, d4]
theorem nb_law (h : Both k x g) : ∀ st, F__law_neighbours [fq x, fq g] st = some (.tup [fq (loQ x g), fq (hiQ x g)], st) := by
  intro st
  have h1 := h.one
  have h2 := h.le
  have hn := ne_of_pos h.pos
  have zq : Sz (2 * k) (x / g) := by
    have := h.sx.quo h.sg hn
    rw [quo_div hn] at this; exact this.up (by omega)
  have e1 := floor_law h
  have e2 : ∀ s, S__law_times [.tup [.int (x / g).floor, .int 1], fq g] s = some (fq (loQ x g), s) := fun s => q_times (floor_sz zq (by omega)) (h.sg.up (by omega)) (by omega)
  have zf1 : Sz (2 * k + 2) (((x / g).floor + 1 : Int) : Rat) := by
    rw [Rat.intCast_add]
    exact ((floor_sz zq (by omega)).add Sz.one).up (by omega)
  have ehi : (((x / g).floor + 1 : Int) : Rat) * g = loQ x g + g := by
    unfold loQ
    rw [Rat.intCast_add, Rat.add_mul, Rat.intCast_one, Rat.one_mul]
  have e3 : ∀ s, S__law_times [.tup [.int ((x / g).floor + 1), .int 1], fq g] s = some (fq (loQ x g + g), s) := fun s => by
    rw [← ehi]; exact q_times zf1 (h.sg.up (by omega)) (by omega)
  have e4 : ∀ s, TL.eqT (fq (loQ x g)) (fq x) s = some (.bl (decide (loQ x g = x)), s) := fun s => eq_fq
  unfold hiQ
  by_cases e : loQ x g = x
  · have e6 : ∀ s, TL.eqT (fq (loQ x g)) (fq x) s = some (.bl true, s) := fun s => by rw [e4, decide_eq_true e]
    rw [if_pos e]
    simp [F__law_neighbours, B__law_neighbours, fnF, xsPar, e1, e2, e3, e6]
  · have e6 : ∀ s, TL.eqT (fq (loQ x g)) (fq x) s = some (.bl false, s) := fun s => by rw [e4, decide_eq_false e]
    rw [if_neg e]
    simp [F__law_neighbours, B__law_neighbours, fnF, xsPar, e1, e2, e3, e6]
theorem nbt_prog (h : Both k x g) : ∀ st, F_neighbour_throw [fq x, fq g] st = some (thr (nbT x g), st) := by
  intro st
  have h1 := h.one
  have h2 := h.le
  have hn := ne_of_pos h.pos
  have e0 := nb_prog h st
  have hlt := lo_lt (x := x) h.pos
  have ehl : loQ x g + g - loQ x g = g := by grind
  have f1 : ∀ s, S_lessened [fq x, fq (loQ x g)] s = some (fq (x - loQ x g), s) := fun s => q_lessened (h.sx.up (by omega)) h.lo (by omega)
  have f2 : ∀ s, S_lessened [fq (loQ x g + g), fq (loQ x g)] s = some (fq g, s) := fun s => by
    have := q_lessened (st := s) h.hi (h.lo.up (by omega : 3 * k ≤ 4 * k + 1)) (by omega)
    rw [ehl] at this; exact this
  have f3 : ∀ s, S_over [fq (x - loQ x g), fq g] s = some (fq (upQ x g), s) := fun s => by
    have := q_over (st := s) h.d (h.sg.up (by omega)) (by omega) hn
    rw [quo_div hn] at this; exact this
  have f4 : ∀ s, S_lessened [.tup [.int 1, .int 1], fq (upQ x g)] s = some (fq (1 - upQ x g), s) := fun s => q_lessened (Sz.one.up (by omega : 1 ≤ 5 * k + 1)) h.up (by omega)
  have q1 : ∀ s, TL.eqT (fq x) (fq (loQ x g)) s = some (.bl (decide (x = loQ x g)), s) := fun s => eq_fq
  have q2 : ∀ s, TL.eqT (fq x) (fq (loQ x g + g)) s = some (.bl (decide (x = loQ x g + g)), s) := fun s => eq_fq
  unfold nbT
  unfold hiQ at e0
  by_cases e : loQ x g = x
  · rw [if_pos e]
    rw [if_pos e] at e0
    have q5 : ∀ s, TL.eqT (fq x) (fq (loQ x g)) s = some (.bl true, s) := fun s => by rw [q1, decide_eq_true e.symm]
    simp [F_neighbour_throw, B_neighbour_throw, fnF, e0, xgTup, xgsCons, xgsNil, F_two_throw, B_two_throw, q5, F_sure_throw, B_sure_throw]
  · rw [if_neg e]
    rw [if_neg e] at e0
    have e2 : ¬ x = loQ x g := fun z => e z.symm
    have e3 : ¬ x = loQ x g + g := Rat.ne_of_lt hlt
    have q5 : ∀ s, TL.eqT (fq x) (fq (loQ x g)) s = some (.bl false, s) := fun s => by rw [q1, decide_eq_false e2]
    have q6 : ∀ s, TL.eqT (fq x) (fq (loQ x g + g)) s = some (.bl false, s) := fun s => by rw [q2, decide_eq_false e3]
    simp [F_neighbour_throw, B_neighbour_throw, fnF, e0, xgTup, xgsCons, xgsNil, F_two_throw, B_two_throw, q5, q6, f1, f2, f3, f4]
theorem nbt_law (h : Both k x g) : ∀ st, F__law_neighbour_throw [fq x, fq g] st = some (thr (nbT x g), st) := by
  intro st
  have h1 := h.one
  have h2 := h.le
  have hn := ne_of_pos h.pos
  have e0 := nb_law h st
  have hlt := lo_lt (x := x) h.pos
  have ehl : loQ x g + g - loQ x g = g := by grind
  have f1 : ∀ s, S__law_less [fq x, fq (loQ x g)] s = some (fq (x - loQ x g), s) := fun s => q_lessened (h.sx.up (by omega)) h.lo (by omega)
  have f2 : ∀ s, S__law_less [fq (loQ x g + g), fq (loQ x g)] s = some (fq g, s) := fun s => by
    have := q_lessened (st := s) h.hi (h.lo.up (by omega : 3 * k ≤ 4 * k + 1)) (by omega)
    rw [ehl] at this; exact this
  have b1 : bitsOk (x - loQ x g).num (g.den : Int) = true := bits_of h.d.n (natAbs_den (h.sg.up (by omega : k ≤ 4 * k + 1))) (by omega)
  have b2 : bitsOk ((x - loQ x g).den : Int) g.num = true := bits_of (natAbs_den h.d) (h.sg.up (by omega : k ≤ 4 * k + 1)).n (by omega)
  have f3 : ∀ s, S__law_over [.int ((x - loQ x g).num * (g.den : Int)), .int (((x - loQ x g).den : Int) * g.num)] s = some (fq (upQ x g), s) := fun s => by
    have := over_int (n := (x - loQ x g).num * (g.den : Int)) (s := s) (quo_ne (p := x - loQ x g) hn) (mul_log (natAbs_den h.d) (h.sg.up (by omega : k ≤ 4 * k + 1)).n (by omega))
    rw [this]
    have e : quoQ (x - loQ x g) g = upQ x g := quo_div hn
    rw [← e]; rfl
  have f4 : ∀ s, S__law_less [.tup [.int 1, .int 1], fq (upQ x g)] s = some (fq (1 - upQ x g), s) := fun s => q_lessened (Sz.one.up (by omega : 1 ≤ 5 * k + 1)) h.up (by omega)
  have q1 : ∀ s, TL.eqT (fq (loQ x g)) (fq x) s = some (.bl (decide (loQ x g = x)), s) := fun s => eq_fq
  have q2 : ∀ s, TL.eqT (fq (loQ x g + g)) (fq x) s = some (.bl (decide (loQ x g + g = x)), s) := fun s => eq_fq
  have q3 : ∀ s, neT (fq (loQ x g)) (fq (loQ x g + g)) s = some (.bl (!decide (loQ x g = loQ x g + g)), s) := fun s => ne_fq
  have q4 : ∀ s, neT (fq (loQ x g)) (fq (loQ x g)) s = some (.bl (!decide (loQ x g = loQ x g)), s) := fun s => ne_fq
  unfold nbT
  unfold hiQ at e0
  by_cases e : loQ x g = x
  · rw [if_pos e]
    rw [if_pos e] at e0
    have q5 : ∀ s, neT (fq (loQ x g)) (fq (loQ x g)) s = some (.bl false, s) := fun s => by rw [q4, decide_eq_true rfl]; rfl
    simp [F__law_neighbour_throw, B__law_neighbour_throw, fnF, e0, xgTup, xgsCons, xgsNil, q5]
  · rw [if_neg e]
    rw [if_neg e] at e0
    have e3 : ¬ loQ x g + g = x := fun z => Rat.ne_of_lt hlt z.symm
    have e4 : ¬ loQ x g = loQ x g + g := by have := h.pos; grind
    have q5 : ∀ s, neT (fq (loQ x g)) (fq (loQ x g + g)) s = some (.bl true, s) := fun s => by rw [q3, decide_eq_false e4]; rfl
    have q6 : ∀ s, TL.eqT (fq (loQ x g)) (fq x) s = some (.bl false, s) := fun s => by rw [q1, decide_eq_false e]
    have q7 : ∀ s, TL.eqT (fq (loQ x g + g)) (fq x) s = some (.bl false, s) := fun s => by rw [q2, decide_eq_false e3]
    simp [F__law_neighbour_throw, B__law_neighbour_throw, fnF, e0, xgTup, xgsCons, xgsNil, q5, F__law_two_throw, B__law_two_throw, q6, q7, f1, f2, f3, f4, b1, b2]
end
end K29
/-! P8 -/
set_option Elab.async false
set_option linter.all false
set_option maxRecDepth 100000
set_option maxHeartbeats 4000000
set_option exponentiation.threshold 4000
namespace K29
open PySem PySem.Spec PyProof.Rows L2 TL LamX
noncomputable section
variable [Tb]
/-! ### fractions as keys -/
def nkQ (q : Rat) : NestedKey := .tup [.num q.num, .num q.den]
theorem toNK_fq (q : Rat) : toNK nkd (fq q) = some (nkQ q) := rfl
theorem nkQ_inj {p q : Rat} (h : nkQ p = nkQ q) : p = q := by
  unfold nkQ at h
  injection h with h
  injection h with h1 h2
  injection h1 with h1
  injection h2 with h2 _
  injection h2 with h2
  exact Rat.ext h1 (by omega)
theorem isKey_fq (p q : Rat) : isKey (nkQ p) (fq q) = decide (q = p) := by
  unfold isKey
  rw [toNK_fq]
  by_cases h : q = p
  · subst h; simp
  · rw [decide_eq_false h, decide_eq_false]
    intro z
    exact h (nkQ_inj (Option.some.inj z))
def kvQ (f : Rat → T) (us : List Rat) : List (T × T) := us.map fun u => (fq u, f u)
theorem look_kv (f : Rat → T) (v : Rat) : ∀ us : List Rat, lookD (kvQ f us) (nkQ v) = if v ∈ us then some (f v) else none
  | [] => rfl
  | u :: us => by
    have ih := look_kv f v us
    unfold lookD kvQ at ih ⊢
    rw [List.map_cons, List.find?_cons, isKey_fq]
    by_cases h : u = v
    · subst h; simp
    · have h2 : ¬ v = u := fun z => h z.symm
      rw [decide_eq_false h]
      simp only [List.mem_cons, h2, false_or]
      exact ih
theorem store_kv {f f2 : Rat → T} {us : List Rat} {v : Rat} {t : T} (hv : f2 v = t) (ho : ∀ u, u ≠ v → f2 u = f u) : storeD (kvQ f us) (fq v) (nkQ v) t = kvQ f2 (addU us v) := by
  unfold storeD addU
  rw [look_kv]
  by_cases h : v ∈ us
  · rw [if_pos h, if_pos h]
    simp only [Option.isSome_some, if_true]
    unfold kvQ
    rw [List.map_map]
    refine List.map_congr_left fun u _ => ?_
    show (if isKey (nkQ v) (fq u) then (fq u, t) else (fq u, f u)) = (fq u, f2 u)
    rw [isKey_fq]
    by_cases e : u = v
    · subst e; simp [hv]
    · simp [e, ho u e]
  · rw [if_neg h, if_neg h]
    simp only [Option.isSome_none, Bool.false_eq_true, if_false]
    unfold kvQ
    rw [List.map_append]
    congr 1
    · refine List.map_congr_left fun u hu => ?_
      have : u ≠ v := fun z => h (z ▸ hu)
      rw [ho u this]
    · simp [hv]
theorem part_snoc (es : Thr) (v c u : Rat) : partOf (es ++ [(v, c)]) u = partOf es u ++ (if v = u then [c] else []) := by
  unfold partOf
  rw [List.filter_append, List.map_append]
  by_cases h : v = u
  · simp [h]
  · simp [h]
theorem uniq_snoc (vs : List Rat) (v : Rat) : uniq (vs ++ [v]) = addU (uniq vs) v := by
  unfold uniq
  rw [List.foldl_append]; rfl
theorem uniq_mem (vs : List Rat) (z : Rat) : z ∈ uniq vs ↔ z ∈ vs := by
  have := (uniq_fold vs []).1 z
  rw [show uniq vs = vs.foldl addU [] from rfl]
  simpa using this
theorem uniq_len (vs : List Rat) : (uniq vs).length ≤ vs.length := by
  have := (uniq_fold vs []).2.2
  rw [show uniq vs = vs.foldl addU [] from rfl]
  simpa using this
theorem sort_uniq (vs : List Rat) : sortQ (uniq vs) = sortQ vs := asc_one (sortQ_asc _) (sortQ_asc _) fun x => by rw [sortQ_mem, sortQ_mem, uniq_mem]
theorem part_none {es : Thr} {v : Rat} (h : v ∉ es.map (·.1)) : partOf es v = [] := by
  unfold partOf
  rw [List.map_eq_nil_iff, List.filter_eq_nil_iff]
  intro e he
  have : e.1 ≠ v := fun z => h (List.mem_map.mpr ⟨e, he, z⟩)
  simpa using this
theorem take_snoc {α : Type} {l : List α} {i : Nat} {x : α} (h : l[i]? = some x) : l.take (i + 1) = l.take i ++ [x] := by
  rw [List.take_add_one, h]; rfl
/-! ### sizes of what is summed up -/
theorem w_take {es : Thr} (h : ∀ e ∈ es, 0 < e.2) (i : Nat) : wT (fun _ => 1) (es.take i) ≤ wT (fun _ => 1) es := by
  have e : wT (fun _ => 1) es = wT (fun _ => 1) (es.take i) + wT (fun _ => 1) (es.drop i) := by rw [← wT_app, List.take_append_drop]
  have h2 := (le_tot (es.drop i) fun x hx => h x (List.mem_of_mem_drop hx)).1
  rw [e]
  grind
theorem part_le (v : Rat) : ∀ es : Thr, (∀ e ∈ es, 0 < e.2) → 0 ≤ (partOf es v).sum ∧ (partOf es v).sum ≤ wT (fun _ => 1) es
  | [], _ => ⟨Rat.le_refl, Rat.le_refl⟩
  | e :: es, h => by
    obtain ⟨i1, i2⟩ := part_le v es fun x hx => h x (List.mem_cons_of_mem _ hx)
    have h1 := h e List.mem_cons_self
    rw [part_cons, wT_cons]
    by_cases z : v = e.1
    · rw [if_pos z]; constructor <;> grind
    · rw [if_neg z]; constructor <;> grind
structure EOk (M μ K : Nat) (es : Thr) : Prop where
  pos : ∀ e ∈ es, 0 < e.2
  fr : ∀ e ∈ es, Frac M e.2
  tot : wT (fun _ => 1) es ≤ 1
  k : ∀ e ∈ es, Sz K e.1
  Mp : 0 < M
  Mb : M < 2 ^ μ
  μ1 : 1 ≤ μ
  len : es.length ≤ 32
theorem EOk.c {M μ K : Nat} {es : Thr} (h : EOk M μ K es) : ∀ e ∈ es, Sz μ e.2 := fun e he => frac_sz h.Mp h.Mb (h.fr e he) (h.pos e he) (Rat.le_trans ((le_tot es h.pos).2 e he) h.tot)
theorem EOk.take {M μ K : Nat} {es : Thr} (h : EOk M μ K es) (i : Nat) : EOk M μ K (es.take i) :=
  ⟨fun e he => h.pos e (List.mem_of_mem_take he), fun e he => h.fr e (List.mem_of_mem_take he), Rat.le_trans (w_take h.pos i) h.tot, fun e he => h.k e (List.mem_of_mem_take he), h.Mp, h.Mb, h.μ1, by have := h.len; rw [List.length_take]; omega⟩
theorem EOk.part {M μ K : Nat} {es : Thr} (h : EOk M μ K es) (v : Rat) : Sz μ (sumQ (partOf es v)) := by
  rw [sumQ_sum]
  obtain ⟨h1, h2⟩ := part_le v es h.pos
  by_cases hz : (partOf es v).sum = 0
  · rw [hz]; exact Sz.zero.up h.μ1
  · refine frac_sz h.Mp h.Mb (frac_sum _ fun x hx => ?_) (by grind) (Rat.le_trans h2 h.tot)
    obtain ⟨y, hy, rfl⟩ := List.mem_map.mp hx
    exact h.fr y (List.mem_filter.mp hy).1
/-! ### the law's own law of ends -/
def sumKv (es : Thr) : List (T × T) := kvQ (fun u => fq (sumQ (partOf es u))) (uniq (es.map (·.1)))
theorem sumKv_step {es : Thr} {v c : Rat} : storeD (sumKv es) (fq v) (nkQ v) (fq (sumQ (partOf es v) + c)) = sumKv (es ++ [(v, c)]) := by
  unfold sumKv
  rw [List.map_append, List.map_cons, List.map_nil, uniq_snoc]
  refine store_kv ?_ fun u hu => ?_
  · rw [part_snoc, if_pos rfl]
    have : sumQ (partOf es v ++ [c]) = sumQ (partOf es v) + c := by unfold sumQ; rw [List.foldl_append]; rfl
    rw [this]
  · rw [part_snoc, if_neg (fun z => hu z.symm), List.append_nil]
theorem sumKv_look (es : Thr) (v : Rat) : (lookD (sumKv es) (nkQ v)).getD (fq 0) = fq (sumQ (partOf es v)) := by
  unfold sumKv
  rw [look_kv]
  by_cases h : v ∈ uniq (es.map (·.1))
  · rw [if_pos h]; rfl
  · rw [if_neg h, part_none (fun z => h ((uniq_mem _ _).mpr z))]; rfl
theorem law_of_ok {M μ K : Nat} {es : Thr} {st : Store} {l : Nat} (h : EOk M μ K es) (hμ : μ ≤ 1000) (hK : K ≤ 1000) (hl : st[l]? = some (.lst (es.map fun e => pr e))) : ∃ g, F__law_law_of [.ref l] st = some (thr (lawOf es), st ++ g) := by
  have hfi : xiSeq (xVar 0) [some (.ref l), some (.ref st.length), none, none] (st ++ [.dN []]) = some (fun s => match s[l]? with
      | some (.lst ts) => some ts
      | _ => none, st ++ [.dN []]) := by
    simp [xiSeq, getA hl] <;> rfl
  have hlt : l < st.length := (List.getElem?_eq_some_iff.mp hl).1
  obtain ⟨e', s', g1, g2⟩ := for_inv (g := xgTup 2 (xgsCons (xgName 2) (xgsCons (xgName 3) xgsNil))) (b := xsAsg (xCall S__law_added (xCons (xMethX "dict" getOrT (xVar 1) (xCons (xVar 2) (xCons (xCall tupT (xCons (xC (.int 0)) (xCons (xC (.int 1)) xNil))) xNil))) (xCons (xVar 3) xNil))) (xgSubA (xVar 1) (xVar 2))) (ts := es.map fun e => pr e)
    (fun i e s => i ≤ es.length ∧ s = st ++ [.dN (sumKv (es.take i))] ∧ ∃ o2 o3, e = [some (.ref l), some (.ref st.length), o2, o3])
    hfi (fun i e s hh => by obtain ⟨_, rfl, _⟩ := hh; simp only [getA hl]) ⟨Nat.zero_le _, by simp [sumKv, kvQ, uniq], none, none, rfl⟩
    (fun i e s y hy hh => by
      obtain ⟨hi, rfl, o2, o3, rfl⟩ := hh
      rw [List.getElem?_map] at hy
      cases hqi : es[i]? with
      | none => rw [hqi] at hy; cases hy
      | some p =>
        rw [hqi] at hy
        cases hy
        obtain ⟨v, c⟩ := p
        have hlt2 := (List.getElem?_eq_some_iff.mp hqi).1
        have hm := List.mem_of_getElem? hqi
        have hd : dAt (.ref st.length) (st ++ [.dN (sumKv (es.take i))]) = some (st.length, .dN (sumKv (es.take i))) := by simp [dAt]
        have hget : getOrT (.ref st.length) [fq v, .tup [.int 0, .int 1]] (st ++ [.dN (sumKv (es.take i))]) = some (fq (sumQ (partOf (es.take i) v)), st ++ [.dN (sumKv (es.take i))]) := by
          have := sumKv_look (es.take i) v
          unfold getOrT
          simp only [hd, Option.bind_some, dLook, isTup, if_true, toNK_fq, Option.map_some]
          rw [← fq_zero, this]
        have hadd : S__law_added [fq (sumQ (partOf (es.take i) v)), fq c] (st ++ [.dN (sumKv (es.take i))]) = some (fq (sumQ (partOf (es.take i) v) + c), st ++ [.dN (sumKv (es.take i))]) := q_added ((h.take i).part v) (h.c _ hm) (by omega)
        have hsz : (sumKv (es.take i)).length < sizeLine := by
          refine small1000 ?_
          unfold sumKv kvQ
          have h1 := uniq_len ((es.take i).map (·.1))
          have h3 : ((es.take i).map (·.1)).length = (es.take i).length := List.length_map _
          have h4 : (es.take i).length ≤ es.length := by rw [List.length_take]; omega
          have := h.len
          rw [List.length_map]
          omega
        have hset : setA (.ref st.length) (fq v) (fq (sumQ (partOf (es.take i) v) + c)) (st ++ [.dN (sumKv (es.take i))]) = some (st ++ [.dN (sumKv (es.take (i + 1)))]) := by
          unfold setA setD
          simp only [hd, Option.bind_some, dStore, isTup, hsz, and_self, if_true, toNK_fq, Option.map_some]
          rw [sumKv_step, take_snoc hqi, List.set_append_right _ _ (Nat.le_refl _)]
          simp
        refine ⟨[some (.ref l), some (.ref st.length), some (fq v), some (fq c)], _, _, [some (.ref l), some (.ref st.length), some (fq v), some (fq c)], st ++ [.dN (sumKv (es.take (i + 1)))], by simp [xgTup, xgsCons, xgsNil] <;> rfl, ?_, .inl rfl, by omega, rfl, _, _, rfl⟩
        simp [xMethX, isTyX, hget, hadd, xgSubA, hset])
  obtain ⟨_, rfl, o2, o3, rfl⟩ := g2
  rw [List.length_map, List.take_length] at g1
  generalize hs1 : st ++ [Ob.dN (sumKv es)] = s1 at *
  have hg1 : s1[st.length]? = some (.dN (sumKv es)) := by rw [← hs1]; exact last_get
  have hkeys : (sumKv es).map (·.1) = (uniq (es.map (·.1))).map fun q => fq q := by
    unfold sumKv kvQ
    rw [List.map_map]; rfl
  have hlist : listDT [.ref st.length] s1 = some (.ref s1.length, s1 ++ [.lst ((uniq (es.map (·.1))).map fun q => fq q)]) := by
    simp only [listDT, hg1, hkeys]
  have hlen : (uniq (es.map (·.1))).length ≤ 32 := by
    have h1 := uniq_len (es.map (·.1))
    have h3 : (es.map (·.1)).length = es.length := List.length_map _
    have := h.len
    omega
  have hus : ∀ q ∈ uniq (es.map (·.1)), Sz K q := fun q hq => by
    obtain ⟨e, he, rfl⟩ := List.mem_map.mp ((uniq_mem _ _).mp hq)
    exact h.k e he
  obtain ⟨g2, hsort⟩ := sorted_ok (x := .ref s1.length) (st := s1 ++ [.lst ((uniq (es.map (·.1))).map fun q => fq q)]) (.inr ⟨_, rfl, last_get⟩) hus (by omega) (by omega)
  rw [sort_uniq] at hsort
  generalize hs2 : s1 ++ [Ob.lst ((uniq (es.map (·.1))).map fun q => fq q)] = s2 at *
  have hg2 : s2[st.length]? = some (.dN (sumKv es)) := by rw [← hs2]; exact getA hg1
  have hg3 : (s2 ++ .lst ((sortQ (es.map (·.1))).map fun q => fq q) :: g2)[s2.length]? = some (.lst ((sortQ (es.map (·.1))).map fun q => fq q)) := by rw [List.getElem?_append_right (Nat.le_refl _)]; simp
  have hg4 : (s2 ++ .lst ((sortQ (es.map (·.1))).map fun q => fq q) :: g2)[st.length]? = some (.dN (sumKv es)) := getA hg2
  generalize hs3 : s2 ++ .lst ((sortQ (es.map (·.1))).map fun q => fq q) :: g2 = s3 at *
  have hlc := lc_map (vs := [2]) (i := 2) (e := [some (.ref l), some (.ref st.length), o2, o3]) (fi := xiSeq (xCall F__law_sorted (xCons (xCall listDT (xCons (xVar 1) xNil)) xNil))) (st := s1) (s1 := s3) (it := fun s => match s[s2.length]? with
      | some (.lst ts) => some ts
      | _ => none) (te := xCall tupT (xCons (xVar 2) (xCons (xBin ixA (xVar 1) (xVar 2)) xNil))) (ts := (sortQ (es.map (·.1))).map fun q => fq q)
    (fun t => .tup [t, ((toNK nkd t).bind (lookD (sumKv es))).getD .non]) (by simp [xiSeq, hlist, hsort, hg3] <;> rfl) (fun acc => by simp only [getA hg3]) (by
      have h1 := sortQ_len (es.map (·.1)) []
      have h2 : (sortQ (es.map (·.1))).length ≤ 0 + (es.map (·.1)).length := h1
      have h3 : (es.map (·.1)).length = es.length := List.length_map _
      have := h.len
      rw [List.length_map]
      omega) (fun y hy acc => by
      obtain ⟨q, hq, rfl⟩ := List.mem_map.mp hy
      have hu : q ∈ uniq (es.map (·.1)) := (uniq_mem _ _).mpr ((sortQ_mem _ _).mp hq)
      have hlk : lookD (sumKv es) (nkQ q) = some (fq (sumQ (partOf es q))) := by unfold sumKv; rw [look_kv, if_pos hu]
      have hix : ixA (.ref st.length) (fq q) (s3 ++ [.lst acc]) = some (fq (sumQ (partOf es q)), s3 ++ [.lst acc]) := by
        unfold ixA ixD
        simp only [dAt, getA hg4, Option.map_some, Option.bind_some, dLook, isTup, if_true, toNK_fq, hlk]
      have hr : ((toNK nkd (fq q)).bind (lookD (sumKv es))).getD .non = fq (sumQ (partOf es q)) := by rw [toNK_fq]; simp only [Option.bind_some, hlk, Option.getD_some]
      rw [hr]
      simp [wipeE, hix])
  have hfin : ((sortQ (es.map (·.1))).map fun q => fq q).map (fun t => T.tup [t, ((toNK nkd t).bind (lookD (sumKv es))).getD .non]) = (lawOf es).map fun p => pr p := by
    unfold lawOf
    rw [List.map_map, List.map_map]
    refine List.map_congr_left fun q hq => ?_
    have hu : q ∈ uniq (es.map (·.1)) := (uniq_mem _ _).mpr ((sortQ_mem _ _).mp hq)
    have hlk : lookD (sumKv es) (nkQ q) = some (fq (sumQ (partOf es q))) := by unfold sumKv; rw [look_kv, if_pos hu]
    show T.tup [fq q, ((toNK nkd (fq q)).bind (lookD (sumKv es))).getD .non] = pr (q, sumQ (partOf es q))
    rw [toNK_fq]
    simp only [Option.bind_some, hlk, Option.getD_some]
  rw [hfin] at hlc
  have ht : tupleT [.ref s3.length] (s3 ++ [.lst ((lawOf es).map fun p => pr p)]) = some (thr (lawOf es), s3 ++ [.lst ((lawOf es).map fun p => pr p)]) := by
    simp only [tupleT, last_get]
  have hend : ∃ g, s3 ++ [Ob.lst ((lawOf es).map fun p => pr p)] = st ++ g := ⟨[Ob.dN (sumKv es)] ++ ([Ob.lst ((uniq (es.map (·.1))).map fun q => fq q)] ++ (Ob.lst ((sortQ (es.map (·.1))).map fun q => fq q) :: g2 ++ [Ob.lst ((lawOf es).map fun p => pr p)])), by rw [← hs3, ← hs2, ← hs1]; simp only [List.append_assoc]⟩
  obtain ⟨g, hg⟩ := hend
  refine ⟨g, fn_ret rfl ?_⟩
  refine sq (e' := [some (.ref l), some (.ref st.length), none, none]) (st' := st ++ [.dN []]) (by simp [xDictN]) ?_
  refine sq g1 ?_
  rw [← hg]
  simp [hlc, ht]
end
end K29
/-! P9 -/
set_option Elab.async false
set_option linter.all false
set_option maxRecDepth 100000
set_option maxHeartbeats 4000000
set_option exponentiation.threshold 4000
namespace K29
open PySem PySem.Spec PyProof.Rows L2 TL LamX
noncomputable section
variable [Tb]
theorem app_of {st s : Store} (h : ∀ j, j < st.length → s[j]? = st[j]?) (hl : st.length ≤ s.length) : ∃ g, s = st ++ g := by
  refine ⟨s.drop st.length, List.ext_getElem? fun j => ?_⟩
  by_cases hj : j < st.length
  · rw [List.getElem?_append_left hj, h j hj]
  · rw [List.getElem?_append_right (by omega), List.getElem?_drop]
    congr 1
    omega
/-- the parts, as the program keeps them -/
structure PIn (st : Store) (es : Thr) (pos : Rat → Nat) (s : Store) : Prop where
  dict : s[st.length]? = some (.dN (kvQ (fun u => .ref (pos u)) (uniq (es.map (·.1)))))
  lists : ∀ v ∈ es.map (·.1), s[pos v]? = some (.lst ((partOf es v).map fun q => fq q)) ∧ st.length < pos v
  inj : ∀ u ∈ es.map (·.1), ∀ v ∈ es.map (·.1), pos u = pos v → u = v
  old : ∀ j, j < st.length → s[j]? = st[j]?
  lt : st.length < s.length
theorem mem_snoc {es : Thr} {v c u : Rat} : u ∈ (es ++ [(v, c)]).map (·.1) ↔ u ∈ es.map (·.1) ∨ u = v := by simp
theorem put_part {st s : Store} {es : Thr} {pos : Rat → Nat} {v c a b : Rat} {e : Env1} (h : PIn st es pos s) (hlen : es.length < 100) (e2 : e[2]? = some (some (.ref st.length))) (e5 : e[5]? = some (some (fq v))) (e4 : e[4]? = some (some (fq a))) (e6 : e[6]? = some (some (fq b)))
    (hm : ∀ s, S_times [fq a, fq b] s = some (fq c, s)) :
    ∃ pos' s', xsExpr (xMeth "list" appendT (xMethX "dict" setdefT (xVar 2) (xCons (xVar 5) (xCons (xCall lstT xNil) xNil))) (xCons (xCall S_times (xCons (xVar 4) (xCons (xVar 6) xNil))) xNil)) e s = some (.nx e s') ∧ PIn st (es ++ [(v, c)]) pos' s' := by
  have hs1 : ∀ j o, s[j]? = some o → (s ++ [Ob.lst []])[j]? = some o := fun j o hj => getA hj
  have hd1 := hs1 _ _ h.dict
  have hdat : dAt (.ref st.length) (s ++ [Ob.lst []]) = some (st.length, .dN (kvQ (fun u => .ref (pos u)) (uniq (es.map (·.1))))) := by simp only [dAt, hd1, Option.map_some]
  have htyd : isTyX "dict" (.ref st.length) s = true := by
    have := h.dict
    simp only [isTyX, this]
    decide +kernel
  by_cases hv : v ∈ es.map (·.1)
  · obtain ⟨hl, hp⟩ := h.lists v hv
    have hne : pos v < s.length := (List.getElem?_eq_some_iff.mp hl).1
    have hlk : lookD (kvQ (fun u => T.ref (pos u)) (uniq (es.map (·.1)))) (nkQ v) = some (.ref (pos v)) := by rw [look_kv, if_pos ((uniq_mem _ _).mpr hv)]
    have hsd : setdefT (.ref st.length) [fq v, .ref s.length] (s ++ [Ob.lst []]) = some (.ref (pos v), s ++ [Ob.lst []]) := by
      unfold setdefT
      simp only [hdat, Option.bind_some, dLook, isTup, if_true, toNK_fq, Option.map_some, hlk]
    have hl1 := hs1 _ _ hl
    have hpl : (partOf es v).length < sizeLine := by
      refine small1000 ?_
      unfold partOf
      rw [List.length_map]
      have := List.length_filter_le (fun e : Rat × Rat => decide (e.1 = v)) es
      omega
    have hty : isTy "list" (.ref (pos v)) (s ++ [Ob.lst []]) = true := by
      simp only [isTy, hl1]; decide +kernel
    have hap : appendT (.ref (pos v)) [fq c] (s ++ [Ob.lst []]) = some (.non, (s ++ [Ob.lst []]).set (pos v) (.lst (((partOf es v).map fun q => fq q) ++ [fq c]))) := by
      simp only [appendT, hl1, List.length_map, hpl, if_true]
    refine ⟨pos, (s ++ [Ob.lst []]).set (pos v) (.lst (((partOf es v).map fun q => fq q) ++ [fq c])), ?_, ?_⟩
    · simp [xMeth, xMethX, e2, e5, e4, e6, htyd, hsd, hty, hm, hap]
    · have hu : uniq ((es ++ [(v, c)]).map (·.1)) = uniq (es.map (·.1)) := by
        rw [List.map_append, List.map_cons, List.map_nil, uniq_snoc]
        unfold addU
        rw [if_pos ((uniq_mem _ _).mpr hv)]
      have hall : ∀ u, u ∈ (es ++ [(v, c)]).map (·.1) → u ∈ es.map (·.1) := fun u hu => by
        rcases mem_snoc.mp hu with z | z
        · exact z
        · rw [z]; exact hv
      refine ⟨?_, fun u hu2 => ?_, fun u h1 w h2 => h.inj u (hall u h1) w (hall w h2), fun j hj => ?_, ?_⟩
      · rw [hu, List.getElem?_set_ne (by omega)]; exact hd1
      · obtain ⟨g1, g2⟩ := h.lists u (hall u hu2)
        refine ⟨?_, g2⟩
        rw [part_snoc]
        by_cases z : v = u
        · subst z
          rw [List.getElem?_set_self (by simp; omega), if_pos rfl]
          simp
        · rw [if_neg z, List.append_nil, List.getElem?_set_ne (fun y => z (h.inj v hv u (hall u hu2) y))]
          exact hs1 _ _ g1
      · rw [List.getElem?_set_ne (by omega), List.getElem?_append_left (by have := h.lt; omega)]
        exact h.old j hj
      · have := h.lt; simp; omega
  · have hlk : lookD (kvQ (fun u => T.ref (pos u)) (uniq (es.map (·.1)))) (nkQ v) = none := by rw [look_kv, if_neg (fun z => hv ((uniq_mem _ _).mp z))]
    have hsz : (kvQ (fun u => T.ref (pos u)) (uniq (es.map (·.1)))).length < sizeLine := by
      refine small1000 ?_
      unfold kvQ
      have h1 := uniq_len (es.map (·.1))
      have h3 : (es.map (·.1)).length = es.length := List.length_map _
      rw [List.length_map]
      omega
    have hst : storeD (kvQ (fun u => T.ref (pos u)) (uniq (es.map (·.1)))) (fq v) (nkQ v) (.ref s.length) = kvQ (fun u => T.ref (if u = v then s.length else pos u)) (uniq ((es ++ [(v, c)]).map (·.1))) := by
      rw [List.map_append, List.map_cons, List.map_nil, uniq_snoc]
      refine store_kv (f2 := fun u => T.ref (if u = v then s.length else pos u)) (by simp) fun u hu => by simp [hu]
    generalize hDN : kvQ (fun u => T.ref (if u = v then s.length else pos u)) (uniq ((es ++ [(v, c)]).map (·.1))) = DN at hst
    have hsd : setdefT (.ref st.length) [fq v, .ref s.length] (s ++ [Ob.lst []]) = some (.ref s.length, (s ++ [Ob.lst []]).set st.length (.dN DN)) := by
      unfold setdefT
      simp only [hdat, Option.bind_some, dLook, isTup, if_true, toNK_fq, Option.map_some, hlk, dStore, hsz, and_self, hst]
    have hlt := h.lt
    have hg : ((s ++ [Ob.lst []]).set st.length (.dN DN))[s.length]? = some (.lst []) := by
      rw [List.getElem?_set_ne (by omega)]; exact last_get
    have hty : isTy "list" (.ref s.length) ((s ++ [Ob.lst []]).set st.length (.dN DN)) = true := by
      simp only [isTy, hg]; decide +kernel
    have hap : appendT (.ref s.length) [fq c] ((s ++ [Ob.lst []]).set st.length (.dN DN)) = some (.non, ((s ++ [Ob.lst []]).set st.length (.dN DN)).set s.length (.lst [fq c])) := by
      have z : (0 : Nat) < sizeLine := by decide +kernel
      simp only [appendT, hg, List.length_nil, z, if_true, List.nil_append]
    refine ⟨fun u => if u = v then s.length else pos u, ((s ++ [Ob.lst []]).set st.length (.dN DN)).set s.length (.lst [fq c]), ?_, ?_⟩
    · simp [xMeth, xMethX, e2, e5, e4, e6, htyd, hsd, hty, hm, hap]
    · have hpos : ∀ u ∈ es.map (·.1), pos u < s.length := fun u hu => (List.getElem?_eq_some_iff.mp (h.lists u hu).1).1
      have hnv : ∀ u ∈ es.map (·.1), u ≠ v := fun u hu z => hv (z ▸ hu)
      refine ⟨?_, fun u hu2 => ?_, fun u h1 w h2 he => ?_, fun j hj => ?_, ?_⟩
      · rw [List.getElem?_set_ne (by omega), List.getElem?_set_self (by simp; omega), ← hDN]
      · rcases mem_snoc.mp hu2 with z | z
        · obtain ⟨g1, g2⟩ := h.lists u z
          have hp := hpos u z
          have hn := hnv u z
          show _[if u = v then s.length else pos u]? = _ ∧ st.length < (if u = v then s.length else pos u)
          rw [if_neg hn]
          refine ⟨?_, g2⟩
          rw [part_snoc, if_neg (fun y => hn y.symm), List.append_nil, List.getElem?_set_ne (by omega), List.getElem?_set_ne (by omega)]
          exact hs1 _ _ g1
        · subst z
          show _[if u = u then s.length else pos u]? = _ ∧ st.length < (if u = u then s.length else pos u)
          rw [if_pos rfl]
          refine ⟨?_, hlt⟩
          rw [part_snoc, if_pos rfl, part_none hv, List.getElem?_set_self (by simp)]
          rfl
      · have he : (if u = v then s.length else pos u) = (if w = v then s.length else pos w) := he
        rcases mem_snoc.mp h1 with z | z <;> rcases mem_snoc.mp h2 with y | y
        · rw [if_neg (hnv u z), if_neg (hnv w y)] at he
          exact h.inj u z w y he
        · rw [if_neg (hnv u z), if_pos y] at he
          have := hpos u z
          omega
        · rw [if_pos z, if_neg (hnv w y)] at he
          have := hpos w y
          omega
        · rw [z, y]
      · rw [List.getElem?_set_ne (by omega), List.getElem?_set_ne (by omega), List.getElem?_append_left (by omega)]
        exact h.old j hj
      · simp; omega
/-! ### rounded once more, by the program -/
def outB : XS := xsFor (xiSeq (xCall F_neighbour_throw (xCons (xVar 3) (xCons (xVar 1) xNil)))) (xgTup 2 (xgsCons (xgName 5) (xgsCons (xgName 6) xgsNil)))
    (xsExpr (xMeth "list" appendT (xMethX "dict" setdefT (xVar 2) (xCons (xVar 5) (xCons (xCall lstT xNil) xNil))) (xCons (xCall S_times (xCons (xVar 4) (xCons (xVar 6) xNil))) xNil)))
theorem ends_snoc (ps : Thr) (p : Rat × Rat) (g : Rat) : endsQ (ps ++ [p]) g = endsQ ps g ++ (nbT p.1 g).map fun q => (q.1, p.2 * q.2) := by
  unfold endsQ
  rw [List.flatMap_append, List.flatMap_cons, List.flatMap_nil, List.append_nil]
theorem inner_ok {st s : Store} {es : Thr} {pos : Rat → Nat} {p : Rat × Rat} {g : Rat} {k μ κ : Nat} {t0 : T} {o5 o6 : Option T} (hb : Both k p.1 g) (hμ : μ ≤ κ) (hκ : κ ≤ 2000) (hk : 5 * k + 3 ≤ κ) (hc : Sz μ p.2) (h : PIn st es pos s) (hlen : es.length + 2 < 100) :
    ∃ o5' o6' pos' s', outB [some t0, some (fq g), some (.ref st.length), some (fq p.1), some (fq p.2), o5, o6] s = some (.nx [some t0, some (fq g), some (.ref st.length), some (fq p.1), some (fq p.2), o5', o6'] s') ∧ PIn st (es ++ (nbT p.1 g).map fun q => (q.1, p.2 * q.2)) pos' s' := by
  have hnb := nbt_prog hb s
  have hl2 : (nbT p.1 g).length ≤ 2 := by unfold nbT; split <;> simp
  have hsz : ∀ q ∈ nbT p.1 g, Sz κ q.2 := nb_all (fun _ => Sz.one.up (by have := hb.one; omega)) (fun _ => hb.dn.up hk) (fun _ => hb.up.up (by omega))
  obtain ⟨e', s', g1, g2⟩ := for_inv (fi := xiSeq (xCall F_neighbour_throw (xCons (xVar 3) (xCons (xVar 1) xNil)))) (g := xgTup 2 (xgsCons (xgName 5) (xgsCons (xgName 6) xgsNil))) (b := (xsExpr (xMeth "list" appendT (xMethX "dict" setdefT (xVar 2) (xCons (xVar 5) (xCons (xCall lstT xNil) xNil))) (xCons (xCall S_times (xCons (xVar 4) (xCons (xVar 6) xNil))) xNil)))) (ts := (nbT p.1 g).map fun q => pr q) (it := fun _ => some ((nbT p.1 g).map fun q => pr q)) (s1 := s) (st := s)
    (e := [some t0, some (fq g), some (.ref st.length), some (fq p.1), some (fq p.2), o5, o6])
    (fun i e s2 => ∃ o5 o6 pos, e = [some t0, some (fq g), some (.ref st.length), some (fq p.1), some (fq p.2), o5, o6] ∧ PIn st (es ++ ((nbT p.1 g).take i).map fun q => (q.1, p.2 * q.2)) pos s2)
    (by simp [xiSeq, hnb]) (fun i e s2 hh => rfl) ⟨o5, o6, pos, rfl, by simpa using h⟩
    (fun i e s2 y hy hh => by
      obtain ⟨o5, o6, pos, rfl, hP⟩ := hh
      rw [List.getElem?_map] at hy
      cases hqi : (nbT p.1 g)[i]? with
      | none => rw [hqi] at hy; cases hy
      | some q =>
        rw [hqi] at hy
        cases hy
        have hlt2 := (List.getElem?_eq_some_iff.mp hqi).1
        have hm : ∀ s, S_times [fq p.2, fq q.2] s = some (fq (p.2 * q.2), s) := fun s => q_times (hc.up hμ) (hsz q (List.mem_of_getElem? hqi)) (by omega)
        obtain ⟨pos', s', f1, f2⟩ := put_part (v := q.1) (c := p.2 * q.2) (a := p.2) (b := q.2) (e := [some t0, some (fq g), some (.ref st.length), some (fq p.1), some (fq p.2), some (fq q.1), some (fq q.2)]) hP (by rw [List.length_append, List.length_map, List.length_take]; omega) rfl rfl rfl rfl hm
        refine ⟨_, s2, _, _, s', by simp [xgTup, xgsCons, xgsNil] <;> rfl, f1, .inl rfl, _, _, pos', rfl, ?_⟩
        rw [take_snoc hqi, List.map_append, ← List.append_assoc]
        exact f2)
  obtain ⟨o5', o6', pos', rfl, hP⟩ := g2
  rw [List.length_map, List.take_length] at hP
  exact ⟨o5', o6', pos', s', g1, hP⟩
theorem rounded_ok {st : Store} {ps : Thr} {g : Rat} {k M μ κ K : Nat} (hb : ∀ p ∈ ps, Both k p.1 g) (hc : ∀ p ∈ ps, Sz μ p.2) (he : EOk M μ K (endsQ ps g)) (hμκ : μ ≤ κ) (hκ : κ ≤ 2000) (hk : 5 * k + 3 ≤ κ) (hμ : 1 + 32 * (μ + 1) ≤ 3000) (hK : K ≤ 1000) (hlen : ps.length ≤ 16) :
    ∃ gg, F_rounded_throw [thr ps, fq g] st = some (thr (stepQ ps g), st ++ gg) := by
  obtain ⟨e', s', g1, g2⟩ := for_inv (fi := xiSeq (xVar 0)) (g := xgTup 2 (xgsCons (xgName 3) (xgsCons (xgName 4) xgsNil))) (b := outB) (ts := ps.map fun p => pr p) (it := fun _ => some (ps.map fun p => pr p)) (s1 := st ++ [.dN []]) (st := st ++ [.dN []])
    (e := [some (thr ps), some (fq g), some (.ref st.length), none, none, none, none])
    (fun i e s => ∃ o3 o4 o5 o6 pos, e = [some (thr ps), some (fq g), some (.ref st.length), o3, o4, o5, o6] ∧ PIn st (endsQ (ps.take i) g) pos s)
    rfl (fun i e s hh => rfl) ⟨none, none, none, none, fun _ => 0, rfl, by simp [kvQ, uniq, endsQ], fun v (hv : v ∈ []) => absurd hv List.not_mem_nil, fun v (hv : v ∈ []) => absurd hv List.not_mem_nil, fun j hj => List.getElem?_append_left hj, by simp⟩
    (fun i e s y hy hh => by
      obtain ⟨o3, o4, o5, o6, pos, rfl, hP⟩ := hh
      rw [List.getElem?_map] at hy
      cases hqi : ps[i]? with
      | none => rw [hqi] at hy; cases hy
      | some p =>
        rw [hqi] at hy
        cases hy
        have hm := List.mem_of_getElem? hqi
        have hel : (endsQ (ps.take i) g).length + 2 < 100 := by
          have := ends_len g (ps.take i)
          have h2 : (ps.take i).length ≤ ps.length := by rw [List.length_take]; omega
          omega
        obtain ⟨o5', o6', pos', s', f1, f2⟩ := inner_ok (t0 := thr ps) (o5 := o5) (o6 := o6) (hb p hm) hμκ hκ hk (hc p hm) hP hel
        refine ⟨[some (thr ps), some (fq g), some (.ref st.length), some (fq p.1), some (fq p.2), o5, o6], s, _, _, s', by simp [xgTup, xgsCons, xgsNil], f1, .inl rfl, _, _, _, _, pos', rfl, ?_⟩
        rw [take_snoc hqi, ends_snoc]
        exact f2)
  obtain ⟨o3, o4, o5, o6, pos, rfl, hP⟩ := g2
  rw [List.length_map, List.take_length] at hP
  generalize hes : endsQ ps g = es at *
  have hkeys : (kvQ (fun u => T.ref (pos u)) (uniq (es.map (·.1)))).map (·.1) = (uniq (es.map (·.1))).map fun q => fq q := by
    unfold kvQ
    rw [List.map_map]; rfl
  have hlist : listDT [.ref st.length] s' = some (.ref s'.length, s' ++ [.lst ((uniq (es.map (·.1))).map fun q => fq q)]) := by
    have := hP.dict
    simp only [listDT, this, hkeys]
  have h3 : (es.map (·.1)).length = es.length := List.length_map _
  have hul : (uniq (es.map (·.1))).length ≤ 32 := by
    have h1 := uniq_len (es.map (·.1))
    have := he.len
    omega
  have hus : ∀ q ∈ uniq (es.map (·.1)), Sz K q := fun q hq => by
    obtain ⟨e, hee, rfl⟩ := List.mem_map.mp ((uniq_mem _ _).mp hq)
    exact he.k e hee
  obtain ⟨g2, i1, i2, i3⟩ := in_order_ok (x := .ref s'.length) (st := s' ++ [.lst ((uniq (es.map (·.1))).map fun q => fq q)]) (.inr ⟨_, rfl, last_get⟩) hus (by omega) (by omega)
  rw [sort_uniq] at i2
  have hd2 : (s' ++ [Ob.lst ((uniq (es.map (·.1))).map fun q => fq q)] ++ g2)[st.length]? = some (.dN (kvQ (fun u => T.ref (pos u)) (uniq (es.map (·.1))))) := getA (getA hP.dict)
  have hl2 : ∀ v ∈ es.map (·.1), (s' ++ [Ob.lst ((uniq (es.map (·.1))).map fun q => fq q)] ++ g2)[pos v]? = some (.lst ((partOf es v).map fun q => fq q)) := fun v hv => getA (getA (hP.lists v hv).1)
  generalize hw : (s' ++ [Ob.lst ((uniq (es.map (·.1))).map fun q => fq q)]).length + 3 = w at *
  generalize hs3 : s' ++ [Ob.lst ((uniq (es.map (·.1))).map fun q => fq q)] ++ g2 = s3 at *
  have hlc := lc_map (vs := [5]) (i := 5) (e := [some (thr ps), some (fq g), some (.ref st.length), o3, o4, o5, o6]) (fi := xiSeq (xCall F_in_order (xCons (xCall listDT (xCons (xVar 2) xNil)) xNil))) (st := s') (s1 := s3) (it := fun s => match s[w]? with
      | some (.lst ts) => some ts
      | _ => none) (te := xCall tupT (xCons (xVar 5) (xCons (xCall S_total_of (xCons (xBin ixA (xVar 2) (xVar 5)) xNil)) xNil))) (ts := (sortQ (es.map (·.1))).map fun q => fq q)
    (fun t => match t with
      | .tup [.int n, .int d] => .tup [t, fq (sumQ (partOf es (Rat.divInt n d)))]
      | _ => .non) (by simp [xiSeq, hlist, i1, i2] <;> rfl) (fun acc => by simp only [getA i2]) (by
      have h1 := sortQ_len (es.map (·.1)) []
      have h2 : (sortQ (es.map (·.1))).length ≤ 0 + (es.map (·.1)).length := h1
      have := he.len
      rw [List.length_map]
      omega) (fun y hy acc => by
      obtain ⟨q, hq, rfl⟩ := List.mem_map.mp hy
      have hqm : q ∈ es.map (·.1) := (sortQ_mem _ _).mp hq
      have hlk : lookD (kvQ (fun u => T.ref (pos u)) (uniq (es.map (·.1)))) (nkQ q) = some (.ref (pos q)) := by rw [look_kv, if_pos ((uniq_mem _ _).mpr hqm)]
      have hix : ixA (.ref st.length) (fq q) (s3 ++ [.lst acc]) = some (.ref (pos q), s3 ++ [.lst acc]) := by
        unfold ixA ixD
        simp only [dAt, getA hd2, Option.map_some, Option.bind_some, dLook, isTup, if_true, toNK_fq, hlk]
      have hrow : Row (.ref (pos q)) (s3 ++ [.lst acc]) (partOf es q) := .inr ⟨_, rfl, getA (hl2 q hqm)⟩
      have hpl : (partOf es q).length ≤ 32 := by
        unfold partOf
        rw [List.length_map]
        have := List.length_filter_le (fun e : Rat × Rat => decide (e.1 = q)) es
        have := he.len
        omega
      have htot : S_total_of [.ref (pos q)] (s3 ++ [.lst acc]) = some (fq (sumQ (partOf es q)), s3 ++ [.lst acc]) := total_ok (k := μ) (fun e => hrow.xi e) (fun g => (hrow.more g).it) (fun x hx => by
        obtain ⟨z, hz, rfl⟩ := List.mem_map.mp hx
        exact he.c z (List.mem_filter.mp hz).1) (by
        have : (partOf es q).length * (μ + 1) ≤ 32 * (μ + 1) := Nat.mul_le_mul_right _ hpl
        omega) (by omega)
      have hq2 : Rat.divInt q.num (q.den : Int) = q := Rat.num_divInt_den q
      simp [wipeE, hix, htot, hq2])
  have hfin : ((sortQ (es.map (·.1))).map fun q => fq q).map (fun t => match t with
      | .tup [.int n, .int d] => T.tup [t, fq (sumQ (partOf es (Rat.divInt n d)))]
      | _ => .non) = (lawOf es).map fun p => pr p := by
    unfold lawOf
    rw [List.map_map, List.map_map]
    refine List.map_congr_left fun q hq => ?_
    have hq2 : Rat.divInt q.num (q.den : Int) = q := Rat.num_divInt_den q
    show T.tup [fq q, fq (sumQ (partOf es (Rat.divInt q.num (q.den : Int))))] = pr (q, sumQ (partOf es q))
    rw [hq2]
  rw [hfin] at hlc
  have ht : tupleT [.ref s3.length] (s3 ++ [.lst ((lawOf es).map fun p => pr p)]) = some (thr (lawOf es), s3 ++ [.lst ((lawOf es).map fun p => pr p)]) := by
    simp only [tupleT, last_get]
  obtain ⟨ga, hga⟩ := app_of hP.old (Nat.le_of_lt hP.lt)
  have hend : s3 ++ [Ob.lst ((lawOf es).map fun p => pr p)] = st ++ (ga ++ ([Ob.lst ((uniq (es.map (·.1))).map fun q => fq q)] ++ (g2 ++ [Ob.lst ((lawOf es).map fun p => pr p)]))) := by rw [← hs3, hga]; simp only [List.append_assoc]
  refine ⟨ga ++ ([Ob.lst ((uniq (es.map (·.1))).map fun q => fq q)] ++ (g2 ++ [Ob.lst ((lawOf es).map fun p => pr p)])), fn_ret rfl ?_⟩
  refine sq (e' := [some (thr ps), some (fq g), some (.ref st.length), none, none, none, none]) (st' := st ++ [.dN []]) (by simp [xDictN]) ?_
  refine sq g1 ?_
  rw [← hend]
  have hst : stepQ ps g = lawOf es := by unfold stepQ; rw [hes]
  rw [hst]
  simp [hlc, ht]
end
end K29
/-! P10 -/
set_option Elab.async false
set_option linter.all false
set_option maxRecDepth 100000
set_option maxHeartbeats 4000000
set_option exponentiation.threshold 4000
namespace K29
open PySem PySem.Spec PyProof.Rows L2 TL LamX
noncomputable section
variable [Tb]
/-! ### again and again -/
structure Gr (g : Rat) : Prop where
  sz : Sz 5 g
  pos : 0 < g
def Stg (i : Nat) (ps : Thr) : Prop := ∃ E M : Nat, TOk E M (30 + 16 * i) (2 ^ i) ps ∧ 0 < E ∧ 0 < M ∧ M * E < 2 ^ (30 + 10 * i)
theorem stg_one {x : Rat} (h : Sz 30 x) : Stg 0 [(x, 1)] := ⟨x.den, 1, TOk.one h, Nat.pos_of_ne_zero x.den_nz, by decide, by rw [Nat.one_mul]; exact h.d⟩
theorem stg_step {i : Nat} {ps : Thr} {g : Rat} (h : Stg i ps) (hg : Gr g) (hi : i ≤ 3) :
    (∀ p ∈ ps, Both 94 p.1 g) ∧ (∀ p ∈ ps, Sz 70 p.2) ∧ (∃ M K, EOk M 70 K (endsQ ps g) ∧ K ≤ 1000) ∧ ps.length ≤ 16 ∧ Stg (i + 1) (stepQ ps g) := by
  obtain ⟨E, M, ht, hE, hM, hb⟩ := h
  obtain ⟨N, hN⟩ := Int.eq_ofNat_of_zero_le (Int.le_of_lt (num_pos hg.pos))
  have hN0 : 0 < N := by have := num_pos hg.pos; omega
  have hN5 : N < 2 ^ 5 := by have := hg.sz.n; rw [hN, Int.natAbs_natCast] at this; exact this
  have hpow : 2 ^ i ≤ 2 ^ 3 := Nat.pow_le_pow_right (by decide) hi
  have hl := ht.len
  have hM70 : M < 2 ^ 70 := by
    have h1 : M ≤ M * E := Nat.le_mul_of_pos_right _ hE
    have h2 : 2 ^ (30 + 10 * i) ≤ 2 ^ 70 := Nat.pow_le_pow_right (by decide) (by omega)
    omega
  have hMN : M * (E * N) < 2 ^ (35 + 10 * i) := by
    rw [← Nat.mul_assoc, show 35 + 10 * i = (30 + 10 * i) + 5 by omega, Nat.pow_add]
    exact Nat.mul_lt_mul'' hb hN5
  have hMN70 : M * (E * N) < 2 ^ 70 := Nat.lt_of_lt_of_le hMN (Nat.pow_le_pow_right (by decide) (by omega))
  have hp0 : 0 < M * (E * N) := Nat.mul_pos hM (Nat.mul_pos hE hN0)
  refine ⟨fun p hp => ⟨(ht.k p hp).up (by omega), hg.sz.up (by decide), hg.pos, by decide, by decide⟩, ht.sz hM hM70, ⟨M * (E * N), 30 + 16 * i + 3 * 5 + 1, ⟨ends_pos hg.pos ht.pos, fun e he => ?_, ?_, fun e he => ?_, hp0, hMN70, by decide, ?_⟩, by omega⟩, by omega, ?_⟩
  · obtain ⟨p, hp, q, hq, rfl⟩ := ends_mem.mp he
    exact frac_mul (ht.c p hp) (nb_frac hg.pos hN (ht.v p hp) q hq).2
  · rw [(ends_w hg.pos ps).1, ht.tot]; exact Rat.le_refl
  · obtain ⟨p, hp, q, hq, rfl⟩ := ends_mem.mp he
    exact nb_sz (ht.k p hp) hg.sz hg.pos (by decide) q hq
  · have := ends_len g ps
    omega
  · refine ⟨g.den, M * (E * N), ?_, Nat.pos_of_ne_zero g.den_nz, hp0, ?_⟩
    · have h1 := ht.step hg.pos hN hg.sz (by decide)
      have e1 : 30 + 16 * (i + 1) = 30 + 16 * i + 3 * 5 + 1 := by omega
      have e2 : 2 ^ (i + 1) = 2 * 2 ^ i := by rw [Nat.pow_succ, Nat.mul_comm]
      rw [e1, e2]
      exact h1
    · rw [show 30 + 10 * (i + 1) = (35 + 10 * i) + 5 by omega, Nat.pow_add]
      exact Nat.mul_lt_mul'' hMN hg.sz.d
theorem stg_fold {x : Rat} {gs : List Rat} (hx : Sz 30 x) (hg : ∀ g ∈ gs, Gr g) (hl : gs.length ≤ 4) : ∀ i, i ≤ gs.length → Stg i ((gs.take i).foldl stepQ [(x, 1)])
  | 0, _ => by simpa using stg_one hx
  | i + 1, hi => by
    have hq := List.getElem?_eq_getElem (show i < gs.length by omega)
    rw [take_snoc hq, List.foldl_append]
    exact (stg_step (stg_fold hx hg hl i (by omega)) (hg _ (List.getElem_mem _)) (by omega)).2.2.2.2
abbrev grs (gs : List Rat) : T := .tup (gs.map fun q => fq q)
theorem again_prog {x : Rat} {gs : List Rat} {st : Store} (hx : Sz 30 x) (hg : ∀ g ∈ gs, Gr g) (hl : gs.length ≤ 4) : ∃ g, F_again_throw [fq x, grs gs] st = some (thr (againQ x gs), st ++ g) := by
  obtain ⟨e', s', g1, g2⟩ := for_inv (fi := xiSeq (xVar 1)) (g := xgName 3) (b := xsSet 2 (xCall F_rounded_throw (xCons (xVar 2) (xCons (xVar 3) xNil)))) (ts := gs.map fun q => fq q) (it := fun _ => some (gs.map fun q => fq q)) (s1 := st) (st := st)
    (e := [some (fq x), some (grs gs), some (thr [(x, 1)]), none])
    (fun i e s => i ≤ gs.length ∧ (∃ g, s = st ++ g) ∧ ∃ o3, e = [some (fq x), some (grs gs), some (thr ((gs.take i).foldl stepQ [(x, 1)])), o3])
    rfl (fun i e s hh => rfl) ⟨Nat.zero_le _, ⟨[], by simp⟩, none, by simp⟩
    (fun i e s y hy hh => by
      obtain ⟨hi, ⟨g, rfl⟩, o3, rfl⟩ := hh
      rw [List.getElem?_map] at hy
      cases hqi : gs[i]? with
      | none => rw [hqi] at hy; cases hy
      | some q =>
        rw [hqi] at hy
        cases hy
        have hlt := (List.getElem?_eq_some_iff.mp hqi).1
        obtain ⟨a1, a2, ⟨M, K, a3, a3'⟩, a4, _⟩ := stg_step (stg_fold hx hg hl i (by omega)) (hg q (List.mem_of_getElem? hqi)) (by omega)
        obtain ⟨gg, hr⟩ := rounded_ok (st := st ++ g) (κ := 480) a1 a2 a3 (by decide) (by decide) (by decide) (by decide) a3' a4
        refine ⟨_, _, _, [some (fq x), some (grs gs), some (thr ((gs.take (i + 1)).foldl stepQ [(x, 1)])), some (fq q)], (st ++ g) ++ gg, rfl, ?_, .inl rfl, by omega, ⟨g ++ gg, by simp⟩, _, rfl⟩
        rw [take_snoc hqi, List.foldl_append, List.foldl_cons, List.foldl_nil]
        simp [-List.append_assoc, hr])
  obtain ⟨_, ⟨g, rfl⟩, o3, rfl⟩ := g2
  rw [List.length_map, List.take_length] at g1
  refine ⟨g, fn_ret rfl ?_⟩
  refine sq (e' := [some (fq x), some (grs gs), some (thr [(x, 1)]), none]) (st' := st) (by simp [F_sure_throw, B_sure_throw, fnF]) ?_
  refine sq g1 ?_
  simp [againQ]
/-! ### by the law -/
def lawIn : XS := xsFor (xiSeq (xVar 2)) (xgTup 2 (xgsCons (xgName 5) (xgsCons (xgName 6) xgsNil)))
    (xsExpr (xMeth "list" extendT (xVar 4) (xCons (xLc (xiSeq (xCall F__law_neighbour_throw (xCons (xVar 5) (xCons (xVar 3) xNil)))) (xgTup 2 (xgsCons (xgName 7) (xgsCons (xgName 8) xgsNil))) [7, 8] xYes (xCall tupT (xCons (xVar 7) (xCons (xCall S__law_times (xCons (xVar 6) (xCons (xVar 8) xNil))) xNil)))) xNil)))
theorem lc_nb {p : Rat × Rat} {g : Rat} {s : Store} {e : Env1} (hb : Both 94 p.1 g) (hc : Sz 70 p.2) (e5 : e[5]? = some (some (fq p.1))) (e3 : e[3]? = some (some (fq g))) (e6 : e[6]? = some (some (fq p.2))) (hlen : e.length = 9) :
    xLc (xiSeq (xCall F__law_neighbour_throw (xCons (xVar 5) (xCons (xVar 3) xNil)))) (xgTup 2 (xgsCons (xgName 7) (xgsCons (xgName 8) xgsNil))) [7, 8] xYes (xCall tupT (xCons (xVar 7) (xCons (xCall S__law_times (xCons (xVar 6) (xCons (xVar 8) xNil))) xNil))) e s = some (.ref s.length, s ++ [.lst (((nbT p.1 g).map fun q => (q.1, p.2 * q.2)).map fun e => pr e)]) := by
  have hnb := nbt_law hb s
  have hl2 : (nbT p.1 g).length ≤ 2 := by unfold nbT; split <;> simp
  have hsz : ∀ q ∈ nbT p.1 g, Sz 480 q.2 := nb_all (fun _ => Sz.one.up (by decide)) (fun _ => hb.dn.up (by decide)) (fun _ => hb.up.up (by decide))
  obtain ⟨acc, s2, h1, h2, h3, _⟩ := lc_inv (it := fun _ => some ((nbT p.1 g).map fun q => pr q)) (fi := xiSeq (xCall F__law_neighbour_throw (xCons (xVar 5) (xCons (xVar 3) xNil)))) (g := xgTup 2 (xgsCons (xgName 7) (xgsCons (xgName 8) xgsNil))) (vs := [7, 8]) (tt := xYes) (te := xCall tupT (xCons (xVar 7) (xCons (xCall S__law_times (xCons (xVar 6) (xCons (xVar 8) xNil))) xNil))) (ts := (nbT p.1 g).map fun q => pr q) (e := e) (st := s) (s1 := s)
    (fun k acc s2 => acc = (((nbT p.1 g).take k).map fun q => (q.1, p.2 * q.2)).map (fun e => pr e) ∧ s2 = s ++ [.lst acc] ∧ k ≤ (nbT p.1 g).length)
    (by simp [xiSeq, e5, e3, hnb]) (fun k acc s2 h => by
      obtain ⟨rfl, rfl, h3⟩ := h
      exact ⟨last_get, by simp; omega⟩) (fun k acc s2 h => rfl) (by simp; omega) ⟨by simp, rfl, Nat.zero_le _⟩
    (fun k acc s2 x hx h => by
      obtain ⟨rfl, rfl, h3⟩ := h
      rw [List.getElem?_map] at hx
      cases hqi : (nbT p.1 g)[k]? with
      | none => rw [hqi] at hx; cases hx
      | some q =>
        rw [hqi] at hx
        cases hx
        have hlt := (List.getElem?_eq_some_iff.mp hqi).1
        have hm : ∀ s, S__law_times [fq p.2, fq q.2] s = some (fq (p.2 * q.2), s) := fun s => q_times (hc.up (by decide)) (hsz q (List.mem_of_getElem? hqi)) (by decide)
        match e, hlen, e5, e3, e6 with
        | [a0, a1, a2, a3, a4, a5, a6, a7, a8], _, e5, e3, e6 =>
          simp only [List.getElem?_cons_succ, List.getElem?_cons_zero, Option.some.injEq] at e5 e3 e6
          subst e5 e3 e6
          refine ⟨[a0, a1, a2, some (fq g), a4, some (fq p.1), some (fq p.2), some (fq q.1), some (fq q.2)], _, _, _, pr (q.1, p.2 * q.2), by simp [wipeE, xgTup, xgsCons, xgsNil] <;> rfl, rfl, by simp [hm] <;> rfl, last_get, ?_, ?_, by omega⟩
          · rw [take_snoc hqi]; simp
          · rw [last_set])
  rw [h1, h3, h2, List.length_map, List.take_length]
theorem lawin_ok {st : Store} {ps : Thr} {x g : Rat} {gs : List Rat} {r : Nat} {o5 o6 o7 o8 : Option T} (hb : ∀ p ∈ ps, Both 94 p.1 g) (hc : ∀ p ∈ ps, Sz 70 p.2) (hl : ps.length ≤ 16) (hr : st[r]? = some (.lst (ps.map fun p => pr p))) :
    ∃ o5' o6' o7' o8' R, lawIn [some (fq x), some (grs gs), some (.ref r), some (fq g), some (.ref st.length), o5, o6, o7, o8] (st ++ [.lst []]) = some (.nx [some (fq x), some (grs gs), some (.ref r), some (fq g), some (.ref st.length), o5', o6', o7', o8'] (st ++ (.lst ((endsQ ps g).map fun e => pr e) :: R))) := by
  have hrl := (List.getElem?_eq_some_iff.mp hr).1
  obtain ⟨e', s', g1, g2⟩ := for_inv (fi := xiSeq (xVar 2)) (g := xgTup 2 (xgsCons (xgName 5) (xgsCons (xgName 6) xgsNil))) (b := (xsExpr (xMeth "list" extendT (xVar 4) (xCons (xLc (xiSeq (xCall F__law_neighbour_throw (xCons (xVar 5) (xCons (xVar 3) xNil)))) (xgTup 2 (xgsCons (xgName 7) (xgsCons (xgName 8) xgsNil))) [7, 8] xYes (xCall tupT (xCons (xVar 7) (xCons (xCall S__law_times (xCons (xVar 6) (xCons (xVar 8) xNil))) xNil)))) xNil)))) (ts := ps.map fun p => pr p) (it := fun s => match s[r]? with
      | some (.lst ts) => some ts
      | _ => none) (s1 := st ++ [.lst []]) (st := st ++ [.lst []])
    (e := [some (fq x), some (grs gs), some (.ref r), some (fq g), some (.ref st.length), o5, o6, o7, o8])
    (fun i e s => i ≤ ps.length ∧ (∃ R, s = st ++ (.lst ((endsQ (ps.take i) g).map fun e => pr e) :: R)) ∧ ∃ o5 o6 o7 o8, e = [some (fq x), some (grs gs), some (.ref r), some (fq g), some (.ref st.length), o5, o6, o7, o8])
    (by simp [xiSeq, getA hr] <;> rfl) (fun i e s hh => by obtain ⟨_, ⟨R, rfl⟩, _⟩ := hh; simp only [getA hr]) ⟨Nat.zero_le _, ⟨[], by simp [endsQ]⟩, _, _, _, _, rfl⟩
    (fun i e s y hy hh => by
      obtain ⟨hi, ⟨R, rfl⟩, o5, o6, o7, o8, rfl⟩ := hh
      rw [List.getElem?_map] at hy
      cases hqi : ps[i]? with
      | none => rw [hqi] at hy; cases hy
      | some p =>
        rw [hqi] at hy
        cases hy
        have hm := List.mem_of_getElem? hqi
        have hlt := (List.getElem?_eq_some_iff.mp hqi).1
        have hq : (st ++ (Ob.lst ((endsQ (ps.take i) g).map fun e => pr e) :: R))[st.length]? = some (.lst ((endsQ (ps.take i) g).map fun e => pr e)) := by rw [List.getElem?_append_right (Nat.le_refl _)]; simp
        have hlc := lc_nb (s := st ++ (Ob.lst ((endsQ (ps.take i) g).map fun e => pr e) :: R)) (e := [some (fq x), some (grs gs), some (.ref r), some (fq g), some (.ref st.length), some (fq p.1), some (fq p.2), o7, o8]) (hb p hm) (hc p hm) rfl rfl rfl rfl
        have hel : (endsQ (ps.take i) g).length + ((nbT p.1 g).map fun q => (q.1, p.2 * q.2)).length ≤ sizeLine := by
          refine Nat.le_of_lt (small1000 ?_)
          have h1 := ends_len g (ps.take i)
          have h2 : (ps.take i).length ≤ ps.length := by rw [List.length_take]; omega
          have h3 : (nbT p.1 g).length ≤ 2 := by unfold nbT; split <;> simp
          rw [List.length_map]
          omega
        have hq2 := getA (g := [Ob.lst (((nbT p.1 g).map fun q => (q.1, p.2 * q.2)).map fun e => pr e)]) hq
        have hty : isTy "list" (.ref st.length) (st ++ (Ob.lst ((endsQ (ps.take i) g).map fun e => pr e) :: R)) = true := by
          simp only [isTy, hq]; decide +kernel
        have hset : (st ++ (Ob.lst ((endsQ (ps.take i) g).map fun e => pr e) :: R) ++ [Ob.lst (((nbT p.1 g).map fun q => (q.1, p.2 * q.2)).map fun e => pr e)]).set st.length (.lst ((endsQ (ps.take (i + 1)) g).map fun e => pr e)) = st ++ (.lst ((endsQ (ps.take (i + 1)) g).map fun e => pr e) :: (R ++ [Ob.lst (((nbT p.1 g).map fun q => (q.1, p.2 * q.2)).map fun e => pr e)])) := by
          rw [List.append_assoc, List.set_append_right _ _ (Nat.le_refl _)]
          simp
        have hex : extendT (.ref st.length) [.ref (st ++ (Ob.lst ((endsQ (ps.take i) g).map fun e => pr e) :: R)).length] (st ++ (Ob.lst ((endsQ (ps.take i) g).map fun e => pr e) :: R) ++ [Ob.lst (((nbT p.1 g).map fun q => (q.1, p.2 * q.2)).map fun e => pr e)]) = some (.non, st ++ (.lst ((endsQ (ps.take (i + 1)) g).map fun e => pr e) :: (R ++ [Ob.lst (((nbT p.1 g).map fun q => (q.1, p.2 * q.2)).map fun e => pr e)]))) := by
          have hel2 : ((endsQ (ps.take i) g).map fun e => pr e).length + (((nbT p.1 g).map fun q => (q.1, p.2 * q.2)).map fun e => pr e).length ≤ sizeLine := by rw [List.length_map, List.length_map]; exact hel
          simp only [extendT, hq2, last_get, hel2, if_true]
          rw [← hset, take_snoc hqi, ends_snoc, List.map_append]
        refine ⟨[some (fq x), some (grs gs), some (.ref r), some (fq g), some (.ref st.length), some (fq p.1), some (fq p.2), o7, o8], _, _, [some (fq x), some (grs gs), some (.ref r), some (fq g), some (.ref st.length), some (fq p.1), some (fq p.2), o7, o8], st ++ (.lst ((endsQ (ps.take (i + 1)) g).map fun e => pr e) :: (R ++ [Ob.lst (((nbT p.1 g).map fun q => (q.1, p.2 * q.2)).map fun e => pr e)])), by simp [xgTup, xgsCons, xgsNil] <;> rfl, ?_, .inl rfl, by omega, ⟨_, rfl⟩, _, _, _, _, rfl⟩
        simp only [r_xsExpr, xMeth, r_xVar, List.getElem?_cons_succ, List.getElem?_cons_zero, Option.bind_some, hty, if_true, r_xCons, hlc, r_xNil, hex, Option.map_some])
  obtain ⟨_, ⟨R, rfl⟩, o5', o6', o7', o8', rfl⟩ := g2
  rw [List.length_map, List.take_length] at g1
  exact ⟨o5', o6', o7', o8', R, g1⟩
theorem again_law {x : Rat} {gs : List Rat} {st : Store} (hx : Sz 30 x) (hg : ∀ g ∈ gs, Gr g) (hl : gs.length ≤ 4) : ∃ g, F__law_again [fq x, grs gs] st = some (thr (againQ x gs), st ++ g) := by
  obtain ⟨e', s', g1, g2⟩ := for_inv (fi := xiSeq (xVar 1)) (g := xgName 3) (b := (xsSeq (xsSet 4 (xCall lstT xNil))
    (xsSeq lawIn
    (xsSet 2 (xCall listDT (xCons (xCall F__law_law_of (xCons (xVar 4) xNil)) xNil)))))) (ts := gs.map fun q => fq q) (it := fun _ => some (gs.map fun q => fq q)) (s1 := st ++ [.lst [pr (x, 1)]]) (st := st ++ [.lst [pr (x, 1)]])
    (e := [some (fq x), some (grs gs), some (.ref st.length), none, none, none, none, none, none])
    (fun i e s => i ≤ gs.length ∧ (∃ g, s = st ++ g) ∧ ∃ r o3 o4 o5 o6 o7 o8, e = [some (fq x), some (grs gs), some (.ref r), o3, o4, o5, o6, o7, o8] ∧ s[r]? = some (.lst (((gs.take i).foldl stepQ [(x, 1)]).map fun p => pr p)))
    rfl (fun i e s hh => rfl) ⟨Nat.zero_le _, ⟨_, rfl⟩, _, _, _, _, _, _, _, rfl, by simp⟩
    (fun i e s y hy hh => by
      obtain ⟨hi, ⟨g, rfl⟩, r, o3, o4, o5, o6, o7, o8, rfl, hr⟩ := hh
      rw [List.getElem?_map] at hy
      cases hqi : gs[i]? with
      | none => rw [hqi] at hy; cases hy
      | some q =>
        rw [hqi] at hy
        cases hy
        have hlt := (List.getElem?_eq_some_iff.mp hqi).1
        obtain ⟨a1, a2, ⟨M, K, a3, a3'⟩, a4, _⟩ := stg_step (stg_fold hx hg hl i (by omega)) (hg q (List.mem_of_getElem? hqi)) (by omega)
        obtain ⟨o5', o6', o7', o8', R, f1⟩ := lawin_ok (x := x) (gs := gs) (o5 := o5) (o6 := o6) (o7 := o7) (o8 := o8) a1 a2 a4 hr
        generalize hps : (gs.take i).foldl stepQ [(x, 1)] = ps at *
        have hget : ((st ++ g) ++ (Ob.lst ((endsQ ps q).map fun e => pr e) :: R))[(st ++ g).length]? = some (.lst ((endsQ ps q).map fun e => pr e)) := by rw [List.getElem?_append_right (Nat.le_refl _)]; simp
        obtain ⟨gg, f2⟩ := law_of_ok a3 (by decide) a3' hget
        have hfold : (gs.take (i + 1)).foldl stepQ [(x, 1)] = stepQ ps q := by rw [take_snoc hqi, List.foldl_append, hps]; rfl
        refine ⟨_, _, _, [some (fq x), some (grs gs), some (.ref (((st ++ g) ++ (Ob.lst ((endsQ ps q).map fun e => pr e) :: R)) ++ gg).length), some (fq q), some (.ref (st ++ g).length), o5', o6', o7', o8'], (((st ++ g) ++ (Ob.lst ((endsQ ps q).map fun e => pr e) :: R)) ++ gg) ++ [.lst ((stepQ ps q).map fun p => pr p)], rfl, ?_, .inl rfl, by omega, ⟨g ++ (Ob.lst ((endsQ ps q).map fun e => pr e) :: R) ++ gg ++ [.lst ((stepQ ps q).map fun p => pr p)], by simp⟩, _, _, _, _, _, _, _, rfl, by rw [hfold]; exact last_get⟩
        refine sq (e' := [some (fq x), some (grs gs), some (.ref r), some (fq q), some (.ref (st ++ g).length), o5, o6, o7, o8]) (st' := (st ++ g) ++ [.lst []]) (by simp) ?_
        refine sq f1 ?_
        have hls : listDT [thr (lawOf (endsQ ps q))] (((st ++ g) ++ (Ob.lst ((endsQ ps q).map fun e => pr e) :: R)) ++ gg) = some (.ref (((st ++ g) ++ (Ob.lst ((endsQ ps q).map fun e => pr e) :: R)) ++ gg).length, (((st ++ g) ++ (Ob.lst ((endsQ ps q).map fun e => pr e) :: R)) ++ gg) ++ [.lst ((lawOf (endsQ ps q)).map fun p => pr p)]) := rfl
        simp only [r_xsSet, r_xCall, r_xCons, r_xNil, r_xVar, List.getElem?_cons_succ, List.getElem?_cons_zero, Option.bind_some, f2, hls, Option.map_some, List.set_cons_succ, List.set_cons_zero]
        rfl)
  obtain ⟨_, ⟨g, rfl⟩, r, o3, o4, o5, o6, o7, o8, rfl, hr⟩ := g2
  rw [List.length_map, List.take_length] at hr
  refine ⟨g, fn_ret rfl ?_⟩
  refine sq (e' := [some (fq x), some (grs gs), some (.ref st.length), none, none, none, none, none, none]) (st' := st ++ [.lst [pr (x, 1)]]) (by simp) ?_
  refine sq g1 ?_
  have ht : tupleT [.ref r] (st ++ g) = some (thr (againQ x gs), st ++ g) := by simp only [tupleT, hr, againQ]
  simp [ht]
end
end K29
/-! P11 -/
set_option Elab.async false
set_option linter.all false
set_option maxRecDepth 100000
set_option maxHeartbeats 4000000
set_option exponentiation.threshold 4000
namespace K29
open PySem PySem.Spec PyProof.Rows L2 TL LamX
noncomputable section
variable [Tb]
structure Gd (g : Rat) : Prop where
  sz : Sz 3 g
  pos : 0 < g
theorem Gd.gr {g : Rat} (h : Gd g) : Gr g := ⟨h.sz.up (by decide), h.pos⟩
theorem grain_ok {N : Nat} {st : Store} {l m : Nat} (h : BagAt N st l m) (hN : N + 1 ≤ 1000000) : ∃ g st', F__law_grain [.ref l] st = some (fq g, st') ∧ Gd g ∧ More l st st' ∧ BagAt (N + 1) st' l m := by
  have hl := h.lt
  obtain ⟨x, s1, f1, hx, o1, b1⟩ := some_list (j := st.length) (ts := [.tup [.int 1, .int 1], .tup [.int 1, .int 2], .tup [.int 2, .int 1], .tup [.int 1, .int 3], .tup [.int 3, .int 2], .tup [.int 1, .int 4], .tup [.int 5, .int 7]]) (h.more [.lst [.tup [.int 1, .int 1], .tup [.int 1, .int 2], .tup [.int 2, .int 1], .tup [.int 1, .int 3], .tup [.int 3, .int 2], .tup [.int 1, .int 4], .tup [.int 5, .int 7]]]) (by omega) last_get (by omega) (by simp) (by simp)
  have s7 : (7 : Nat) ≤ sizeLine := by decide
  have hq : ∃ g : Rat, x = fq g ∧ Gd g := by
    simp only [List.mem_cons, List.not_mem_nil, or_false] at hx
    rcases hx with rfl | rfl | rfl | rfl | rfl | rfl | rfl
    · exact ⟨⟨1, 1, by decide, by decide⟩, rfl, ⟨by decide, by decide⟩, by decide⟩
    · exact ⟨⟨1, 2, by decide, by decide⟩, rfl, ⟨by decide, by decide⟩, by decide⟩
    · exact ⟨⟨2, 1, by decide, by decide⟩, rfl, ⟨by decide, by decide⟩, by decide⟩
    · exact ⟨⟨1, 3, by decide, by decide⟩, rfl, ⟨by decide, by decide⟩, by decide⟩
    · exact ⟨⟨3, 2, by decide, by decide⟩, rfl, ⟨by decide, by decide⟩, by decide⟩
    · exact ⟨⟨1, 4, by decide, by decide⟩, rfl, ⟨by decide, by decide⟩, by decide⟩
    · exact ⟨⟨5, 7, by decide, by decide⟩, rfl, ⟨by decide, by decide⟩, by decide⟩
  obtain ⟨g, rfl, hg⟩ := hq
  refine ⟨g, s1, ?_, hg, (More.app l st _).trans o1.more, b1⟩
  simp [F__law_grain, B__law_grain, fnF, s7, f1]
theorem int_sz {c : Int} {k : Nat} (h : c.natAbs < 2 ^ k) (hk : 1 ≤ k) : Sz k (c : Rat) := ⟨by rw [Rat.num_intCast]; exact h, by rw [Rat.den_intCast]; exact Nat.one_lt_two_pow (by omega)⟩
theorem pow4 {s : Store} : powT (.int 10) (.int 4) s = some (.int 10000, s) := by
  rw [r_pow, if_pos ⟨by decide, by decide, by decide⟩]
  rfl
theorem number_ok {N : Nat} {st : Store} {l m : Nat} {g : Rat} (h : BagAt N st l m) (hN : N + 6 ≤ 1000000) (hg : Gr g) : ∃ x st', F__law_number [.ref l, fq g] st = some (fq x, st') ∧ Sz 30 x ∧ More l st st' ∧ BagAt (N + 4) st' l m := by
  have hl := h.lt
  obtain ⟨x, s1, f1, hx, o1, b1⟩ := some_list (j := st.length) (ts := ([0, 1, -1, 2, 7, -12, 10000] : List Int).map T.int) (h.more [.lst (([0, 1, -1, 2, 7, -12, 10000] : List Int).map T.int)]) (by omega) last_get (by omega) (by simp) (by decide)
  obtain ⟨c, hc, rfl⟩ := ints_mem hx
  simp only [List.map_cons, List.map_nil] at f1
  have hc1 : c.natAbs < 2 ^ 14 := by
    simp at hc
    rcases hc with rfl | rfl | rfl | rfl | rfl | rfl | rfl <;> decide
  have zc := int_sz hc1 (by decide)
  have t1 : ∀ s, S__law_times [.tup [.int c, .int 1], fq g] s = some (fq ((c : Rat) * g), s) := fun s => q_times (k := 14) zc (hg.sz.up (by decide)) (by decide)
  have z1 : Sz 19 ((c : Rat) * g) := zc.mul hg.sz
  obtain ⟨q1, s2, f2, z2, o2, b2⟩ := fraction_ok b1 (by omega)
  have hl2 := b2.lt
  obtain ⟨y, s3, f3, hy, o3, b3⟩ := some_list (j := s2.length) (ts := [.tup [.int 0, .int 1], .tup [.int 1, .int 7], .tup [.int (-1), .int 100], .tup [.int 1, .int 2], fq q1, .tup [.int 1, .int 997]]) (b2.more [.lst [.tup [.int 0, .int 1], .tup [.int 1, .int 7], .tup [.int (-1), .int 100], .tup [.int 1, .int 2], fq q1, .tup [.int 1, .int 997]]]) (by omega) last_get (by omega) (by simp) (by simp)
  have hq : ∃ q : Rat, y = fq q ∧ Sz 10 q := by
    simp only [List.mem_cons, List.not_mem_nil, or_false] at hy
    rcases hy with rfl | rfl | rfl | rfl | rfl | rfl
    · exact ⟨⟨0, 1, by decide, by decide⟩, rfl, by decide, by decide⟩
    · exact ⟨⟨1, 7, by decide, by decide⟩, rfl, by decide, by decide⟩
    · exact ⟨⟨-1, 100, by decide, by decide⟩, rfl, by decide, by decide⟩
    · exact ⟨⟨1, 2, by decide, by decide⟩, rfl, by decide, by decide⟩
    · exact ⟨_, rfl, z2.up (by decide)⟩
    · exact ⟨⟨1, 997, by decide, by decide⟩, rfl, by decide, by decide⟩
  obtain ⟨q, rfl, zq⟩ := hq
  have t2 : ∀ s, S__law_added [fq ((c : Rat) * g), fq q] s = some (fq ((c : Rat) * g + q), s) := fun s => q_added (k := 19) z1 (zq.up (by decide)) (by decide)
  have s7 : (7 : Nat) ≤ sizeLine := by decide
  have s6 : (6 : Nat) ≤ sizeLine := by decide
  refine ⟨_, s3, ?_, z1.add zq, (((More.app l st _).trans o1.more).trans o2.more).trans ((More.app l s2 _).trans o3.more), b3.up (by omega)⟩
  simp [F__law_number, B__law_number, fnF, s7, s6, -r_pow, pow4, f1, t1, f2, f3, t2]
theorem div_pos {n d : Int} (hn : 0 < n) (hd : 0 < d) : 0 < Rat.divInt n d := by
  rw [Rat.divInt_eq_div, Rat.div_def]
  exact Rat.mul_pos (Rat.intCast_pos.mpr hn) (Rat.inv_pos.mpr (Rat.intCast_pos.mpr hd))
theorem grains_ok {N : Nat} {st : Store} {l m : Nat} (h : BagAt N st l m) (hN : N + 20 ≤ 1000000) : ∃ gs G st', F__law_grains [.ref l] st = some (grs (gs ++ [G]), st') ∧ gs.length ≤ 3 ∧ (∀ g ∈ gs, Gr g) ∧ Gr G ∧ More l st st' ∧ BagAt (N + 12) st' l m := by
  obtain ⟨G, s1, f1, hG, m1, b1⟩ := grain_ok h (by omega)
  obtain ⟨v, s2, f2, v0, v1, o2, b2⟩ := take_ok (many := 4) (b1.more [.lst []]) (by omega) (by decide) (by decide)
  obtain ⟨c, rfl⟩ := Int.eq_ofNat_of_zero_le v0
  have hp2 : s2[s1.length]? = some (.lst (([] : List Rat).map fun q => fq q)) := o2.get last_get (by have := b1.lt; omega)
  have hl1 := b1.lt
  have hm1 := b1.ltm
  have hn0 := num_pos hG.pos
  have hd0 : (0 : Int) < G.den := by have := G.den_nz; omega
  obtain ⟨e', s', g1, g2⟩ := for_inv (fi := xiRange1 (xCall S__law_take (xCons (xVar 0) (xCons (xC (.int 4)) xNil)))) (g := xgName 3) (b := (xsSeq (xsSet 4 (xCall S__law_over (xCons (xBin ixA (xVar 1) (xC (.int 0))) (xCons (xBin mulT (xBin ixA (xVar 1) (xC (.int 1))) (xCall F__law_some (xCons (xVar 0) (xCons (xCall lstT (xCons (xC (.int 1)) (xCons (xC (.int 2)) (xCons (xC (.int 3)) (xCons (xC (.int 4)) xNil))))) xNil)))) xNil))))
    (xsExpr (xMeth "list" appendT (xVar 2) (xCons (xIf (xBl (xBin gtT (xCall S__law_take (xCons (xVar 0) (xCons (xC (.int 4)) xNil))) (xC (.int 0)))) (xVar 4) (xCall F__law_grain (xCons (xVar 0) xNil))) xNil))))) (ts := rngs 0 c)
    (fun i e s => i ≤ c ∧ BagAt (N + 2 + 3 * i) s l m ∧ More l s1 s ∧ ∃ (gs : List Rat) (o3 o4 : Option T), e = [some (.ref l), some (fq G), some (.ref s1.length), o3, o4] ∧ s[s1.length]? = some (.lst (gs.map fun q => fq q)) ∧ gs.length = i ∧ ∀ g ∈ gs, Gr g)
    (range_it (c := c) (s1 := s2) (st := s1 ++ [.lst []]) (e := [some (.ref l), some (fq G), some (.ref s1.length), none, none]) (by simp [f2]) (by omega)) (fun i e s hh => rfl) ⟨Nat.zero_le _, b2.up (by omega), (More.app l s1 _).trans o2.more, [], none, none, rfl, hp2, rfl, fun g (hg : g ∈ []) => absurd hg List.not_mem_nil⟩
    (fun i e s y hy hh => by
      obtain ⟨hi, hb, hmo, gs, o3, o4, rfl, hs, hgl, hgr⟩ := hh
      obtain ⟨hlt, rfl⟩ := rngs_get hy
      have hsl := (List.getElem?_eq_some_iff.mp hs).1
      obtain ⟨x, s3, f3, hx, o3', b3⟩ := some_list (j := s.length) (ts := ([1, 2, 3, 4] : List Int).map T.int) (hb.more [.lst (([1, 2, 3, 4] : List Int).map T.int)]) (by omega) last_get (by omega) (by simp) (by decide)
      obtain ⟨z, hz, rfl⟩ := ints_mem hx
      simp only [List.map_cons, List.map_nil] at f3
      have hz1 : 0 < z ∧ z.natAbs ≤ 4 := by
        simp at hz
        rcases hz with rfl | rfl | rfl | rfl <;> decide
      have hs3 := o3'.get (getA (g := [Ob.lst (([1, 2, 3, 4] : List Int).map T.int)]) hs) (by omega)
      have kb : bitsOk (G.den : Int) z = true := bits_of (k := 5) (natAbs_den (hG.sz.up (by decide))) (by omega) (by decide)
      have hdz : (0 : Int) < (G.den : Int) * z := Int.mul_pos hd0 hz1.1
      have hdn : ((G.den : Int) * z).natAbs < 2 ^ 5 := by
        rw [Int.natAbs_mul, Int.natAbs_natCast]
        have h1 := hG.sz.d
        have h2 : G.den * z.natAbs ≤ 7 * 4 := Nat.mul_le_mul (by omega) hz1.2
        omega
      have hov : ∀ s, S__law_over [.int G.num, .int ((G.den : Int) * z)] s = some (fq (Rat.divInt G.num ((G.den : Int) * z)), s) := fun s => over_int (by omega) (by have := log2_of hdn; omega)
      have hGr : Gr (Rat.divInt G.num ((G.den : Int) * z)) := ⟨sz_div hdz (Nat.lt_of_lt_of_le hG.sz.n (by decide)) hdn, div_pos hn0 hdz⟩
      generalize Rat.divInt G.num ((G.den : Int) * z) = P at *
      obtain ⟨w, s4, f4, w0, w1, o4', b4⟩ := take_ok (many := 4) b3 (by omega) (by decide) (by decide)
      have hs4 := o4'.get hs3 (by omega)
      have s4z : (4 : Nat) ≤ sizeLine := by decide
      have hm4 : More l s1 s4 := (hmo.trans ((More.app l s _).trans o3'.more)).trans o4'.more
      have hlz : gs.length < sizeLine := small1000 (by omega)
      have fin : ∀ (q : Rat) (s5 : Store), Gr q → s5[s1.length]? = some (.lst (gs.map fun q => fq q)) → More l s1 s5 → BagAt (N + 2 + 3 * (i + 1)) s5 l m →
          appendT (.ref s1.length) [fq q] s5 = some (.non, s5.set s1.length (.lst ((gs ++ [q]).map fun q => fq q))) ∧ (s5.set s1.length (.lst ((gs ++ [q]).map fun q => fq q)))[s1.length]? = some (.lst ((gs ++ [q]).map fun q => fq q)) ∧ More l s1 (s5.set s1.length (.lst ((gs ++ [q]).map fun q => fq q))) ∧ BagAt (N + 2 + 3 * (i + 1)) (s5.set s1.length (.lst ((gs ++ [q]).map fun q => fq q))) l m := fun q s5 hq h5 hm5 hb5 => by
        refine ⟨?_, List.getElem?_set_self (List.getElem?_eq_some_iff.mp h5).1, ⟨by rw [List.length_set]; exact hm5.len, fun j hj hjl => ?_⟩, hb5.set (by omega) (by omega)⟩
        · simp only [appendT, h5, List.length_map, hlz, if_true, List.map_append, List.map_cons, List.map_nil]
        · rw [List.getElem?_set_ne (by omega)]; exact hm5.at_ j hj hjl
      have hty : isTy "list" (.ref s1.length) s3 = true := by simp only [isTy, hs3]; decide +kernel
      by_cases hw : 0 < w
      · obtain ⟨a1, a2, a3, a4⟩ := fin P s4 hGr hs4 hm4 (b4.up (by omega))
        refine ⟨_, _, _, [some (.ref l), some (fq G), some (.ref s1.length), some (.int (0 + (i : Int))), some (fq P)], s4.set s1.length (.lst ((gs ++ [P]).map fun q => fq q)), rfl, ?_, .inl rfl, by omega, a4, a3, gs ++ [P], _, _, rfl, a2, by simp [hgl], fun g hg => ?_⟩
        · refine sq (e' := [some (.ref l), some (fq G), some (.ref s1.length), some (.int (0 + (i : Int))), some (fq P)]) (st' := s3) ?_ ?_
          · simp [s4z, f3, kb, hov]
          · simp only [List.map_append, List.map_cons, List.map_nil] at a1 ⊢
            simp [xMeth, hty, f4, hw, a1]
        · rcases List.mem_append.mp hg with hg | hg
          · exact hgr g hg
          · rw [List.mem_singleton.mp hg]; exact hGr
      · obtain ⟨G2, s5, f5, hG2, m5, b5⟩ := grain_ok b4 (by omega)
        have hs5 := m5.get hs4 (by omega)
        obtain ⟨a1, a2, a3, a4⟩ := fin G2 s5 hG2.gr hs5 (hm4.trans m5) (b5.up (by omega))
        refine ⟨_, _, _, [some (.ref l), some (fq G), some (.ref s1.length), some (.int (0 + (i : Int))), some (fq P)], s5.set s1.length (.lst ((gs ++ [G2]).map fun q => fq q)), rfl, ?_, .inl rfl, by omega, a4, a3, gs ++ [G2], _, _, rfl, a2, by simp [hgl], fun g hg => ?_⟩
        · refine sq (e' := [some (.ref l), some (fq G), some (.ref s1.length), some (.int (0 + (i : Int))), some (fq P)]) (st' := s3) ?_ ?_
          · simp [s4z, f3, kb, hov]
          · simp only [List.map_append, List.map_cons, List.map_nil] at a1 ⊢
            simp [xMeth, hty, f4, hw, f5, a1]
        · rcases List.mem_append.mp hg with hg | hg
          · exact hgr g hg
          · rw [List.mem_singleton.mp hg]; exact hG2.gr)
  obtain ⟨_, hb, hmo, gs, o3, o4, rfl, hs, hgl, hgr⟩ := g2
  rw [rngs_len] at hb hgl
  refine ⟨gs, G, s', fn_ret rfl ?_, by omega, hgr, hG.gr, m1.trans hmo, hb.up (by omega)⟩
  refine sq (e' := [some (.ref l), some (fq G), none, none, none]) (st' := s1) (by simp [f1]) ?_
  refine sq (e' := [some (.ref l), some (fq G), some (.ref s1.length), none, none]) (st' := s1 ++ [.lst []]) (by simp) ?_
  refine sq g1 ?_
  have ht := tup_row hs
  have hlz : gs.length + 1 ≤ sizeLine := Nat.le_of_lt (small1000 (by omega))
  simp [ht, addT, hlz]
end
end K29
/-! P12 -/
set_option Elab.async false
set_option linter.all false
set_option maxRecDepth 100000
set_option maxHeartbeats 4000000
set_option exponentiation.threshold 4000
namespace TL
open PySem L2
section
variable {it : Its1} {g : XG} {tt : XT} {te : XE} {ts : List T} {fi : XI} {e : Env1} {st s1 : Store} {vs : List Nat} {l : Nat}
theorem lcL_none (P : Nat → Store → Prop) (hit : ∀ k s, P k s → it s = some ts)
    (hs : ∀ k s x, ts[k]? = some x → P k s → ∃ e1 s2 s3, g x e s = some (e1, s2) ∧ tt e1 s2 = some (false, s3) ∧ P (k + 1) s3) :
    ∀ (n k : Nat) (s : Store), P k s → k ≤ ts.length → ts.length - k < n → ∃ s', lcL it g tt te l n k e s = some s' ∧ P ts.length s'
  | 0, k, s, _, _, h => by omega
  | n + 1, k, s, hP, hk, hn => by
    unfold lcL
    rw [hit k s hP]
    simp only [Option.bind_some]
    cases hx : ts[k]? with
    | none =>
      have : ts.length ≤ k := List.getElem?_eq_none_iff.mp hx
      have hkk : k = ts.length := by omega
      subst hkk
      exact ⟨s, by simp, hP⟩
    | some x =>
      have hlt := (List.getElem?_eq_some_iff.mp hx).1
      obtain ⟨e1, s2, s3, h1, h2, h3⟩ := hs k s x hx hP
      obtain ⟨s', h4, h5⟩ := lcL_none P hit hs n (k + 1) s3 h3 (by omega) (by omega)
      refine ⟨s', ?_, h5⟩
      simp only [h1, Option.bind_some, h2, Bool.false_eq_true, if_false]
      exact h4
theorem lc_none (P : Nat → Store → Prop) (hfi : fi e st = some (it, s1)) (hit : ∀ k s, P k s → it s = some ts) (h0 : P 0 (s1 ++ [.lst []]))
    (hs : ∀ k s x, ts[k]? = some x → P k s → ∃ e1 s2 s3, g x (wipeE e vs) s = some (e1, s2) ∧ tt e1 s2 = some (false, s3) ∧ P (k + 1) s3) :
    ∃ s, xLc fi g vs tt te e st = some (.ref s1.length, s) ∧ P ts.length s := by
  obtain ⟨s, h1, h2⟩ := lcL_none (te := te) (l := s1.length) P hit hs (ts.length + 1) 0 _ h0 (Nat.zero_le _) (by omega)
  refine ⟨s, ?_, h2⟩
  unfold xLc
  simp only [hfi, Option.bind_some, hit 0 _ h0, h1, Option.map_some]
end
end TL
namespace K29
open PySem PySem.Spec PyProof.Rows L2 TL LamX
noncomputable section
variable [Tb]
/-! ### throws as data -/
abbrev dpr (p : Rat × Rat) : PyData := .tuple [dq p.1, dq p.2]
structure SzT (K L : Nat) (ps : Thr) : Prop where
  v : ∀ p ∈ ps, Sz K p.1
  c : ∀ p ∈ ps, Sz K p.2
  len : ps.length ≤ L
theorem toD_pr {p : Rat × Rat} {st : Store} {n : Nat} : toD st (n + 2) (pr p) = some (dpr p) := by
  show (optAll (toD st (n + 1)) [fq p.1, fq p.2]).map PyData.tuple = _
  have h1 : toD st (n + 1) (fq p.1) = some (dq p.1) := toD_fq
  have h2 : toD st (n + 1) (fq p.2) = some (dq p.2) := toD_fq
  simp only [optAll, h1, h2, Option.map_some]
theorem toD_thr {ps : Thr} {st : Store} {n : Nat} : toD st (n + 3) (thr ps) = some (.tuple (ps.map dpr)) := by
  show (optAll (toD st (n + 2)) (ps.map fun p => pr p)).map PyData.tuple = _
  have h : optAll (toD st (n + 2)) (ps.map fun p => pr p) = some (ps.map dpr) := optAll_map fun p _ => toD_pr
  rw [h]; rfl
theorem nic_thr {K L : Nat} {ps : Thr} (h : SzT K L ps) (hK : K ≤ 1900) : Nic 3 (L * (4 * (K + 2) + 3)) (.tuple (ps.map dpr)) := by
  have h1 : NicAll 2 (ps.length * ((2 * (K + 2) + 1 + (2 * (K + 2) + 1 + 0)) + 1)) (ps.map dpr) := NicAll.map dpr ps fun p hp => (NicAll.cons (nic_dq (h.v p hp) hK) (NicAll.cons (nic_dq (h.c p hp) hK) NicAll.nil)).tuple
  refine h1.tuple.up (Nat.le_refl _) ?_
  have e : (2 * (K + 2) + 1 + (2 * (K + 2) + 1 + 0)) + 1 = 4 * (K + 2) + 3 := by omega
  rw [e]
  exact Nat.mul_le_mul_right _ h.len
theorem eqv_pr (p q : Rat × Rat) : PyData.eqv (dpr p) (dpr q) = decide (p = q) := by
  have h1 := eqv_dq p.1 q.1
  have h2 := eqv_dq p.2 q.2
  show PyData.eqvAll [dq p.1, dq p.2] [dq q.1, dq q.2] = _
  simp only [PyData.eqvAll, Bool.and_true, h1, h2]
  rw [Bool.eq_iff_iff]
  simp only [Bool.and_eq_true, decide_eq_true_eq]
  constructor
  · rintro ⟨a, b⟩; exact Prod.ext a b
  · rintro rfl; exact ⟨rfl, rfl⟩
theorem eqv_prs : ∀ a b : Thr, PyData.eqvAll (a.map dpr) (b.map dpr) = decide (a = b)
  | [], [] => rfl
  | [], _ :: _ => rfl
  | _ :: _, [] => rfl
  | p :: a, q :: b => by
    have h1 := eqv_pr p q
    have h2 := eqv_prs a b
    show (PyData.eqv (dpr p) (dpr q) && PyData.eqvAll (a.map dpr) (b.map dpr)) = _
    rw [h1, h2, Bool.eq_iff_iff]
    simp only [Bool.and_eq_true, decide_eq_true_eq, List.cons.injEq]
theorem eqd_thr {neg : Bool} {a b : Thr} {K L : Nat} {st : Store} (ha : SzT K L a) (hb : SzT K L b) (hK : K ≤ 1900) : eqdT neg (thr a) (thr b) st = some (.bl (if neg then !decide (a = b) else decide (a = b)), st) := by
  have s1 := (nic_thr ha hK).shaped (by decide)
  have s2 := (nic_thr hb hK).shaped (by decide)
  have e : PyData.eqv (.tuple (a.map dpr)) (.tuple (b.map dpr)) = decide (a = b) := eqv_prs a b
  unfold eqdT
  rw [show dpth = 9 + 3 from rfl, toD_thr, toD_thr]
  simp only [s1, s2, Bool.and_self, if_true, e]
theorem eq_thr {a b : Thr} {K L : Nat} {st : Store} (ha : SzT K L a) (hb : SzT K L b) (hK : K ≤ 1900) : TL.eqT (thr a) (thr b) st = some (.bl (decide (a = b)), st) := by
  have := eqd_thr (neg := false) (st := st) ha hb hK
  exact this
theorem ne_thr {a b : Thr} {K L : Nat} {st : Store} (ha : SzT K L a) (hb : SzT K L b) (hK : K ≤ 1900) : neT (thr a) (thr b) st = some (.bl (!decide (a = b)), st) := by
  have := eqd_thr (neg := true) (st := st) ha hb hK
  exact this
theorem alike_thr {a : Thr} {K L : Nat} {st : Store} (ha : SzT K L a) (hK : K ≤ 1900) (hw : L * (4 * (K + 2) + 3) ≤ 25000) : F__law_alike [thr a, thr a] st = some (.bl true, st) :=
  nic_alike (nic_thr ha hK) rfl rfl toD_thr toD_thr (by decide) hw
theorem stg_sz {i : Nat} {ps : Thr} (h : Stg i ps) (hi : i ≤ 4) : SzT 94 16 ps := by
  obtain ⟨E, M, ht, hE, hM, hb⟩ := h
  have hM70 : M < 2 ^ 70 := by
    have h1 : M ≤ M * E := Nat.le_mul_of_pos_right _ hE
    have h2 : 2 ^ (30 + 10 * i) ≤ 2 ^ 70 := Nat.pow_le_pow_right (by decide) (by omega)
    omega
  have hpow : 2 ^ i ≤ 2 ^ 4 := Nat.pow_le_pow_right (by decide) hi
  exact ⟨fun p hp => (ht.k p hp).up (by omega), fun p hp => (ht.sz hM hM70 p hp).up (by decide), by have := ht.len; omega⟩
theorem again_sz {x : Rat} {gs : List Rat} (hx : Sz 30 x) (hg : ∀ g ∈ gs, Gr g) (hl : gs.length ≤ 4) : SzT 94 16 (againQ x gs) := by
  have h := stg_fold hx hg hl gs.length (Nat.le_refl _)
  rw [List.take_length] at h
  exact stg_sz h hl
theorem nb_szT {x g : Rat} {k : Nat} (h : Both k x g) : SzT (5 * k + 3) 2 (nbT x g) := by
  refine ⟨nb_all (fun _ => h.sx.up (by omega)) (fun _ => h.lo.up (by omega)) (fun _ => h.hi.up (by omega)), nb_all (fun _ => Sz.one.up (by omega)) (fun _ => h.dn) (fun _ => h.up.up (by omega)), ?_⟩
  unfold nbT
  split <;> simp
theorem SzT.up {K L K2 L2 : Nat} {ps : Thr} (h : SzT K L ps) (hK : K ≤ K2) (hL : L ≤ L2) : SzT K2 L2 ps := ⟨fun p hp => (h.v p hp).up hK, fun p hp => (h.c p hp).up hK, Nat.le_trans h.len hL⟩
/-! ### multiples, once -/
theorem mult_ok {G g : Rat} (hG : Gr G) (hg : Gr g) (st : Store) : F__law_is_multiple [fq G, fq g] st = some (.bl (decide (loQ G g = G)), st) := by
  have hb : Both 5 G g := ⟨hG.sz, hg.sz, hg.pos, by decide, by decide⟩
  have e1 := floor_law hb
  have zq : Sz 10 (G / g) := by
    have := hG.sz.quo hg.sz (ne_of_pos hg.pos)
    rw [quo_div (ne_of_pos hg.pos)] at this; exact this
  have e2 : ∀ s, S__law_times [.tup [.int (G / g).floor, .int 1], fq g] s = some (fq (loQ G g), s) := fun s => q_times (floor_sz zq (by decide)) (hg.sz.up (by decide)) (by decide)
  have e3 : ∀ s, TL.eqT (fq (loQ G g)) (fq G) s = some (.bl (decide (loQ G g = G)), s) := fun s => eq_fq
  simp [F__law_is_multiple, B__law_is_multiple, fnF, e1, e2, e3]
theorem den_one {G g : Rat} (h : 0 < g) : ((G / g).den : Int) = 1 ↔ loQ G g = G := by
  have hc := Rat.div_mul_cancel (a := G) (ne_of_pos h)
  constructor
  · intro hd
    have hd1 : (G / g).den = 1 := by omega
    have e : (G / g) = ((G / g).num : Rat) := by
      refine Rat.ext ?_ ?_
      · rw [Rat.num_intCast]
      · rw [Rat.den_intCast]; exact hd1
    refine lo_of_mul h ⟨(G / g).num, ?_⟩
    rw [← e, hc]
  · intro e
    unfold loQ at e
    have e2 : G / g = ((G / g).floor : Rat) := by
      have h3 : ((G / g).floor : Rat) * g = (G / g) * g := by rw [hc]; exact e
      have := ne_of_pos h
      grind
    rw [e2, Rat.den_intCast]; rfl
def onceB (G : Rat) (gs : List Rat) : Bool := gs.all fun g => decide (loQ G g = G)
theorem bls_map (f : Rat → Bool) : ∀ gs : List Rat, blsOf (gs.map fun g => T.bl (f g)) = some (gs.map f)
  | [] => rfl
  | g :: gs => by
    have h := bls_map f gs
    unfold blsOf at h ⊢
    simp only [List.map_cons, optAll, h]
theorem last_ix {gs : List Rat} {G : Rat} {st : Store} : ixA (grs (gs ++ [G])) (.int (-1)) st = some (fq G, st) := by
  have : atI ((gs ++ [G]).map fun q => fq q) (-1) = some (fq G) := by rw [List.map_append]; exact atI_last _ _
  simp only [r_ixTup, this, Option.map_some]
theorem once_ok {gs : List Rat} {G : Rat} {st : Store} (hG : Gr G) (hg : ∀ g ∈ gs ++ [G], Gr g) (hl : gs.length ≤ 3) : ∃ g, F_is_once [grs (gs ++ [G])] st = some (.bl (onceB G (gs ++ [G])), st ++ g) := by
  have hlc := lc_map (vs := [1]) (i := 1) (e := [some (grs (gs ++ [G])), none]) (fi := xiSeq (xVar 0)) (st := st) (s1 := st) (it := fun _ => some ((gs ++ [G]).map fun q => fq q)) (te := xBin eqT (xBin ixA (xCall S_over (xCons (xBin ixA (xVar 0) (xUn negT (xC (.int 1)))) (xCons (xVar 1) xNil))) (xC (.int 1))) (xC (.int 1))) (ts := (gs ++ [G]).map fun q => fq q)
    (fun t => match t with
      | .tup [.int n, .int d] => .bl (decide (loQ G (Rat.divInt n d) = G))
      | _ => .non) rfl (fun acc => rfl) (by simp; omega) (fun y hy acc => by
      obtain ⟨q, hq, rfl⟩ := List.mem_map.mp hy
      have hgq := hg q hq
      have h1 : ∀ s, S_over [fq G, fq q] s = some (fq (G / q), s) := fun s => by
        have := q_over (st := s) hG.sz hgq.sz (by decide) (ne_of_pos hgq.pos)
        rw [quo_div (ne_of_pos hgq.pos)] at this; exact this
      have h2 : Rat.divInt q.num (q.den : Int) = q := Rat.num_divInt_den q
      have h3 : ∀ s : Store, TL.eqT (.int ((G / q).den : Int)) (.int 1) s = some (.bl (decide (loQ G q = G)), s) := fun s => by
        rw [r_eq]
        congr 3
        rw [decide_eq_decide]
        exact den_one hgq.pos
      have h4 : ∀ s, ixA (.tup ((gs ++ [G]).map fun q => fq q)) (.int (-1)) s = some (fq G, s) := fun s => last_ix
      show _ = some (T.bl (decide (loQ G (Rat.divInt q.num (q.den : Int)) = G)), _)
      rw [h2]
      simp only [wipeE, r_xBin, r_xCall, r_xCons, r_xNil, r_xVar, r_xC, r_xUn, r_neg, List.set_cons_succ, List.set_cons_zero, List.getElem?_cons_succ, List.getElem?_cons_zero, Option.bind_some, h4, h1, r_ixTup, r_at1, Option.map_some, h3])
  have hfin : ((gs ++ [G]).map fun q => fq q).map (fun t => match t with
      | .tup [.int n, .int d] => T.bl (decide (loQ G (Rat.divInt n d) = G))
      | _ => .non) = (gs ++ [G]).map fun g => T.bl (decide (loQ G g = G)) := by
    rw [List.map_map]
    refine List.map_congr_left fun q _ => ?_
    show T.bl (decide (loQ G (Rat.divInt q.num (q.den : Int)) = G)) = _
    rw [Rat.num_divInt_den]
  rw [hfin] at hlc
  have hall : allT [.ref st.length] (st ++ [.lst ((gs ++ [G]).map fun g => T.bl (decide (loQ G g = G)))]) = some (.bl (onceB G (gs ++ [G])), st ++ [.lst ((gs ++ [G]).map fun g => T.bl (decide (loQ G g = G)))]) := by
    simp only [allT, last_get, bls_map, Option.map_some]
    unfold onceB
    rw [List.all_map]; rfl
  refine ⟨[.lst ((gs ++ [G]).map fun g => T.bl (decide (loQ G g = G)))], fn_ret rfl ?_⟩
  simp only [B_is_once, r_xsRet, r_xCall, r_xCons, r_xNil]
  rw [show ([grs (gs ++ [G])].map some ++ List.replicate (2 - 1) none : Env1) = [some (grs (gs ++ [G])), none] from rfl, hlc]
  simp only [Option.bind_some, hall, Option.map_some]
theorem parting_ok {gs : List Rat} {G : Rat} {st : Store} (hG : Gr G) (hg : ∀ g ∈ gs ++ [G], Gr g) (hl : gs.length ≤ 3) : ∃ g, F_once_parting [grs (gs ++ [G])] st = some (if onceB G (gs ++ [G]) then .non else fq G, st ++ g) := by
  obtain ⟨g, h1⟩ := once_ok (st := st) hG hg hl
  have h4 : ∀ s, ixA (.tup ((gs ++ [G]).map fun q => fq q)) (.int (-1)) s = some (fq G, s) := fun s => last_ix
  refine ⟨g, fn_ret rfl ?_⟩
  cases hb : onceB G (gs ++ [G]) with
  | true =>
    rw [hb] at h1
    refine sqr (if_yes (st' := st ++ g) ?_ rfl)
    simp only [r_xTru, r_xCall, r_xCons, r_xNil, r_xVar, List.map_cons, List.map_nil, List.cons_append, List.getElem?_cons_zero, Option.bind_some, h1, truT, Option.map_some]
  | false =>
    rw [hb] at h1
    refine sq (e' := [some (grs (gs ++ [G]))]) (st' := st ++ g) (if_no (st' := st ++ g) ?_ rfl) ?_
    · simp only [r_xTru, r_xCall, r_xCons, r_xNil, r_xVar, List.map_cons, List.map_nil, List.cons_append, List.getElem?_cons_zero, Option.bind_some, h1, truT, Option.map_some]
    · simp only [r_xsRet, r_xBin, r_xVar, r_xUn, r_xC, r_neg, List.getElem?_cons_zero, Option.bind_some, h4, Option.map_some]
      rfl
theorem frac_ok (q : Rat) (st : Store) : F__law_is_frac [fq q] st = some (.bl true, st) := by
  have hd : 0 < q.den := Nat.pos_of_ne_zero q.den_nz
  have hr : Nat.gcd q.num.natAbs q.den = 1 := q.reduced
  have hdv : ∀ s, F__law_divisor [.int ((q.num.natAbs : Nat) : Int), .int ((q.den : Nat) : Int)] s = some (.int 1, s) := fun s => by
    have := run_div q.num.natAbs q.den s
    rw [hr] at this; exact this
  have hi : ∀ (z : Int) (s : Store), F__law_is_int [.int z] s = some (.bl true, s) := fun z s => by
    simp [F__law_is_int, B__law_is_int, fnF, xIsi, kindT, xAnd, xNot, truT]
  have h2 : ∀ s : Store, lenT [.tup [T.int q.num, .int q.den]] s = some (.int 2, s) := fun s => rfl
  refine fn_ret rfl ?_
  refine sq (e' := [some (fq q)]) (st' := st) (if_no (st' := st) ?_ rfl) ?_
  · have hn : ∀ s : Store, TL.neT (.int 2) (.int 2) s = some (.bl false, s) := fun s => rfl
    simp [xIsi, kindT, truT, h2, hn, hi]
  · rw [← abs_nat] at hdv
    have hp : (0 : Int) < (q.den : Int) := by omega
    simp [xAnd, hdv, hp, hd, truT]
end
end K29
/-! P13 -/
set_option Elab.async false
set_option linter.all false
set_option maxRecDepth 100000
set_option maxHeartbeats 4000000
set_option exponentiation.threshold 4000
namespace K29
open PySem PySem.Spec PyProof.Rows L2 TL LamX
noncomputable section
variable [Tb]
theorem len_two {α : Type} : ∀ l : List α, l.length = 2 → ∃ a b, l = [a, b]
  | [a, b], _ => ⟨a, b, rfl⟩
  | [], h => by simp at h
  | [_], h => by simp at h
  | _ :: _ :: _ :: _, h => by simp at h
/-! ### the mean, and what a throw is -/
theorem mean_ok {ps : Thr} {K : Nat} {st : Store} (h : SzT K 2 ps) (hK : K ≤ 900) : ∃ g, F__law_mean_of [thr ps] st = some (fq (wT id ps), st ++ g) := by
  have hlen := h.len
  obtain ⟨acc, s2, h1, h2, h3, _⟩ := lc_inv (it := fun _ => some (ps.map fun p => pr p)) (fi := xiSeq (xVar 0)) (g := xgTup 2 (xgsCons (xgName 1) (xgsCons (xgName 2) xgsNil))) (vs := [1, 2]) (tt := xYes) (te := xCall S__law_times (xCons (xVar 1) (xCons (xVar 2) xNil))) (ts := ps.map fun p => pr p) (e := [some (thr ps), none, none]) (st := st) (s1 := st)
    (fun k acc s2 => acc = ((ps.take k).map fun p => p.1 * p.2).map (fun q => fq q) ∧ s2 = st ++ [.lst acc] ∧ k ≤ ps.length)
    rfl (fun k acc s2 h => by
      obtain ⟨rfl, rfl, h3⟩ := h
      exact ⟨last_get, by simp; omega⟩) (fun k acc s2 h => rfl) (by simp; omega) ⟨by simp, rfl, Nat.zero_le _⟩
    (fun k acc s2 x hx hh => by
      obtain ⟨rfl, rfl, h3⟩ := hh
      rw [List.getElem?_map] at hx
      cases hqi : ps[k]? with
      | none => rw [hqi] at hx; cases hx
      | some p =>
        rw [hqi] at hx
        cases hx
        have hlt := (List.getElem?_eq_some_iff.mp hqi).1
        have hm := List.mem_of_getElem? hqi
        have ht : ∀ s, S__law_times [fq p.1, fq p.2] s = some (fq (p.1 * p.2), s) := fun s => q_times (h.v p hm) (h.c p hm) (by omega)
        refine ⟨[some (thr ps), some (fq p.1), some (fq p.2)], _, _, _, fq (p.1 * p.2), by simp [wipeE, xgTup, xgsCons, xgsNil] <;> rfl, rfl, by simp [ht] <;> rfl, last_get, ?_, ?_, by omega⟩
        · rw [take_snoc hqi]; simp
        · rw [last_set])
  rw [h3, h2, List.length_map, List.take_length] at h1
  have hrow : Row (.ref st.length) (st ++ [.lst ((ps.map fun p => p.1 * p.2).map fun q => fq q)]) (ps.map fun p => p.1 * p.2) := .inr ⟨_, rfl, last_get⟩
  have ht := total_law (k := 2 * K) (fun a b => hrow.xi _) hrow.it (fun q hq => by
    obtain ⟨p, hp, rfl⟩ := List.mem_map.mp hq
    exact ((h.v p hp).mul (h.c p hp)).up (by omega)) (by
    rw [List.length_map]
    have : ps.length * (2 * K + 1) ≤ 2 * (2 * K + 1) := Nat.mul_le_mul_right _ hlen
    omega)
  have hw : sumQ (ps.map fun p => p.1 * p.2) = wT id ps := by rw [sumQ_sum]; rfl
  rw [hw] at ht
  refine ⟨[.lst ((ps.map fun p => p.1 * p.2).map fun q => fq q)], fn_ret rfl ?_⟩
  simp only [B__law_mean_of, r_xsRet, r_xCall, r_xCons, r_xNil]
  rw [show ([thr ps].map some ++ List.replicate (3 - 1) none : Env1) = [some (thr ps), none, none] from rfl, h1]
  simp only [Option.bind_some, ht, Option.map_some]
theorem ref_empty {a b : Nat} {st : Store} {neg : Bool} (ha : st[a]? = some (.lst [])) (hb : st[b]? = some (.lst [])) : eqdT neg (.ref a) (.ref b) st = some (.bl (!neg), st) := by
  have h1 : ∀ j, st[j]? = some (.lst []) → toD st dpth (.ref j) = some (.list []) := fun j hj => by
    show toD st (11 + 1) _ = _
    unfold toD
    rw [hj]
    rfl
  have s1 : SeqAt.shaped (.list []) = true := by decide +kernel
  have s2 : PyData.eqv (.list []) (.list []) = true := by decide +kernel
  unfold eqdT
  simp only [h1 a ha, h1 b hb, s1, s2, Bool.and_self, if_true]
  cases neg <;> rfl
theorem pfr_ok (p : Rat × Rat) (st : Store) : ∃ g, F__law_are_fracs [pr p] st = some (.bl true, st ++ g) := by
  have hlc := lc_fm (vs := [1]) (i := 1) (e := [some (pr p), none]) (fi := xiSeq (xVar 0)) (st := st) (s1 := st) (it := fun _ => some [fq p.1, fq p.2]) (tt := xNotT (xTru (xCall F__law_is_frac (xCons (xVar 1) xNil)))) (te := xVar 1) (ts := [fq p.1, fq p.2])
    (fun _ => false) id rfl (fun acc => rfl) (by simp) (fun y hy acc => by
      simp only [List.mem_cons, List.not_mem_nil, or_false] at hy
      rcases hy with rfl | rfl
      · have := frac_ok p.1 (st ++ [.lst acc])
        simp [wipeE, this, truT]
      · have := frac_ok p.2 (st ++ [.lst acc])
        simp [wipeE, this, truT]) (fun y hy hf => by cases hf)
  have hf : ([fq p.1, fq p.2].filter fun _ => false).map id = [] := rfl
  rw [hf] at hlc
  have he : TL.eqT (.ref st.length) (.ref (st.length + 1)) (st ++ [.lst [], .lst []]) = some (.bl true, st ++ [.lst [], .lst []]) := ref_empty (neg := false) (by simp) (by simp)
  refine ⟨[.lst [], .lst []], fn_ret rfl ?_⟩
  show B__law_are_fracs [some (pr p), none] st = _
  have hlc2 := hlc
  simp [B__law_are_fracs, xAnd, xIsi, kindT, truT, hlc2, he]
theorem throw_ok {x g : Rat} {k : Nat} {st : Store} (h : Both k x g) : ∃ gg, F__law_is_throw [thr (nbT x g)] st = some (.bl true, st ++ gg) := by
  have hsz := nb_szT h
  have hk := h.le
  have hlen := hsz.len
  have hpos := nb_pos (x := x) h.pos
  have hw := (nb_w (x := x) h.pos).1
  have hne : nbT x g ≠ [] := by unfold nbT; split <;> simp
  have hasc : ∀ p q, nbT x g = [p, q] → p.1 < q.1 := by
    intro p q e
    unfold nbT at e
    split at e
    · cases e
    · simp only [List.cons.injEq, and_true] at e
      obtain ⟨rfl, rfl⟩ := e
      show loQ x g < loQ x g + g
      have := h.pos
      grind
  generalize hps : nbT x g = ps at *
  have q1 : ∀ s, TL.eqT (thr ps) (.tup []) s = some (.bl false, s) := fun s => by
    have := eq_thr (st := s) hsz (⟨fun p (hp : p ∈ []) => absurd hp List.not_mem_nil, fun p (hp : p ∈ []) => absurd hp List.not_mem_nil, Nat.zero_le _⟩ : SzT (5 * k + 3) 2 []) (by omega)
    rw [decide_eq_false hne] at this
    exact this
  obtain ⟨s1, f1, hP1⟩ := lc_none (vs := [1]) (g := xgName 1) (e := [some (thr ps), none, none, none, none]) (fi := xiSeq (xVar 0)) (st := st) (s1 := st) (it := fun _ => some (ps.map fun p => pr p)) (tt := xOrT (xNotT (xTru (xCall F__law_are_fracs (xCons (xVar 1) xNil)))) (xOrT (xBl (xBin neT (xCall lenT (xCons (xVar 1) xNil)) (xC (.int 2)))) (xBl (xBin leT (xBin ixA (xBin ixA (xVar 1) (xC (.int 1))) (xC (.int 0))) (xC (.int 0)))))) (te := xVar 1) (ts := ps.map fun p => pr p)
    (fun i s => ∃ R, s = st ++ (.lst [] :: R)) rfl (fun i s hh => rfl) ⟨[], rfl⟩ (fun i s y hy hh => by
      obtain ⟨R, rfl⟩ := hh
      rw [List.getElem?_map] at hy
      cases hqi : ps[i]? with
      | none => rw [hqi] at hy; cases hy
      | some p =>
        rw [hqi] at hy
        cases hy
        have hm := List.mem_of_getElem? hqi
        obtain ⟨g2, f2⟩ := pfr_ok p (st ++ (.lst [] :: R))
        have hn : ¬ p.2.num ≤ 0 := by have := num_pos (hpos p hm); omega
        have hne2 : ∀ s : Store, TL.neT (.int 2) (.int 2) s = some (.bl false, s) := fun s => rfl
        refine ⟨_, _, st ++ (.lst [] :: (R ++ g2)), rfl, ?_, R ++ g2, rfl⟩
        have hl2 : ∀ s : Store, lenT [pr p] s = some (.int 2, s) := fun s => rfl
        simp only [r_xOrT, r_xNotT, r_xTru, r_xCall, r_xCons, r_xNil, r_xVar, wipeE, List.set_cons_succ, List.set_cons_zero, List.getElem?_cons_succ, List.getElem?_cons_zero, Option.bind_some, f2, truT, Option.map_some, Bool.not_true, Bool.false_eq_true, if_false, r_xBl, r_xBin, hl2, r_xC, hne2, r_ixTup, r_at1, r_at0, r_le, decide_eq_false hn]
        simp)
  obtain ⟨R1, rfl⟩ := hP1
  have e1 : TL.neT (.ref st.length) (.ref (st ++ (Ob.lst [] :: R1)).length) ((st ++ (Ob.lst [] :: R1)) ++ [.lst []]) = some (.bl false, (st ++ (Ob.lst [] :: R1)) ++ [.lst []]) := ref_empty (neg := true) (by rw [List.append_assoc, List.getElem?_append_right (Nat.le_refl _)]; simp) last_get
  generalize hs2 : (st ++ (Ob.lst [] :: R1)) ++ [Ob.lst []] = s2 at *
  have hlz : ps.length - 1 ≤ 1 := by omega
  have hpl : 0 < ps.length := List.length_pos_iff.mpr hne
  have hlt : lenT [thr ps] s2 = some (.int (((ps.map fun p => pr p).length : Nat) : Int), s2) := rfl
  have hri : xiRange1 (xBin subT (xCall lenT (xCons (xVar 0) xNil)) (xC (.int 1))) [some (thr ps), none, none, none, none] s2 = some (fun _ => some (rngs 0 (ps.length - 1)), s2) := by
    refine range_it (c := ps.length - 1) ?_ (by omega)
    have e : ((ps.length : Nat) : Int) - 1 = ((ps.length - 1 : Nat) : Int) := by omega
    simp only [r_xBin, r_xCall, r_xCons, r_xNil, r_xVar, List.getElem?_cons_zero, Option.bind_some, hlt, r_xC, r_sub, List.length_map]
    rw [e]
  obtain ⟨s3, f3, hP3⟩ := lc_none (vs := [2]) (g := xgName 2) (e := [some (thr ps), none, none, none, none]) (fi := xiRange1 (xBin subT (xCall lenT (xCons (xVar 0) xNil)) (xC (.int 1)))) (st := s2) (s1 := s2) (it := fun _ => some (rngs 0 (ps.length - 1))) (tt := xNotT (xTru (xCall S__law_is_less (xCons (xBin ixA (xBin ixA (xVar 0) (xVar 2)) (xC (.int 0))) (xCons (xBin ixA (xBin ixA (xVar 0) (xBin addT (xVar 2) (xC (.int 1)))) (xC (.int 0))) xNil))))) (te := xVar 2) (ts := rngs 0 (ps.length - 1))
    (fun i s => s = s2 ++ [.lst []]) hri (fun i s hh => rfl) rfl (fun i s y hy hh => by
      subst hh
      obtain ⟨hlt3, rfl⟩ := rngs_get hy
      have hi0 : i = 0 := by omega
      subst hi0
      obtain ⟨p, q, hpq⟩ := len_two ps (by omega)
      have hl : ∀ s, S__law_is_less [fq p.1, fq q.1] s = some (.bl true, s) := fun s => by
        rw [less_ok (hsz.v p (by rw [hpq]; simp)) (hsz.v q (by rw [hpq]; simp)) (by omega), decide_eq_true (hasc p q hpq)]
      have i0 : ∀ s : Store, ixA (thr ps) (.int 0) s = some (pr p, s) := fun s => by rw [hpq]; rfl
      have i1 : ∀ s : Store, ixA (thr ps) (.int 1) s = some (pr q, s) := fun s => by rw [hpq]; rfl
      refine ⟨_, _, s2 ++ [.lst []], rfl, ?_, rfl⟩
      have e0 : (0 : Int) + ((0 : Nat) : Int) = 0 := rfl
      have e1' : (0 : Int) + 1 = 1 := rfl
      simp only [r_xNotT, r_xTru, r_xCall, r_xCons, r_xNil, r_xBin, r_xVar, r_xC, wipeE, List.set_cons_succ, List.set_cons_zero, List.getElem?_cons_succ, List.getElem?_cons_zero, Option.bind_some, e0, r_add, e1', i0, i1, r_ixTup, r_at0, Option.map_some, hl, truT, Bool.not_true])
  subst hP3
  have e3 : TL.neT (.ref s2.length) (.ref (s2 ++ [Ob.lst []]).length) ((s2 ++ [Ob.lst []]) ++ [.lst []]) = some (.bl false, (s2 ++ [Ob.lst []]) ++ [.lst []]) := ref_empty (neg := true) (getA last_get) last_get
  generalize hs4 : (s2 ++ [Ob.lst []]) ++ [Ob.lst []] = s4 at *
  obtain ⟨acc, s5, h1, h2, h3, _⟩ := lc_inv (it := fun _ => some (ps.map fun p => pr p)) (fi := xiSeq (xVar 0)) (g := xgTup 2 (xgsCons (xgName 3) (xgsCons (xgName 4) xgsNil))) (vs := [3, 4]) (tt := xYes) (te := xVar 4) (ts := ps.map fun p => pr p) (e := [some (thr ps), none, none, none, none]) (st := s4) (s1 := s4)
    (fun k acc s2 => acc = ((ps.take k).map fun p => p.2).map (fun q => fq q) ∧ s2 = s4 ++ [.lst acc] ∧ k ≤ ps.length)
    rfl (fun k acc s2 h => by
      obtain ⟨rfl, rfl, h3⟩ := h
      exact ⟨last_get, by simp; omega⟩) (fun k acc s2 h => rfl) (by simp; omega) ⟨by simp, rfl, Nat.zero_le _⟩
    (fun k acc s2 x hx hh => by
      obtain ⟨rfl, rfl, h3⟩ := hh
      rw [List.getElem?_map] at hx
      cases hqi : ps[k]? with
      | none => rw [hqi] at hx; cases hx
      | some p =>
        rw [hqi] at hx
        cases hx
        have hlt := (List.getElem?_eq_some_iff.mp hqi).1
        refine ⟨[some (thr ps), none, none, some (fq p.1), some (fq p.2)], _, _, _, fq p.2, by simp [wipeE, xgTup, xgsCons, xgsNil] <;> rfl, rfl, rfl, last_get, ?_, ?_, by omega⟩
        · rw [take_snoc hqi]; simp
        · rw [last_set])
  rw [h3, h2, List.length_map, List.take_length] at h1
  have hrow : Row (.ref s4.length) (s4 ++ [.lst ((ps.map fun p => p.2).map fun q => fq q)]) (ps.map fun p => p.2) := .inr ⟨_, rfl, last_get⟩
  have ht := total_law (k := 5 * k + 3) (fun a b => hrow.xi _) hrow.it (fun q hq => by
    obtain ⟨p, hp, rfl⟩ := List.mem_map.mp hq
    exact hsz.c p hp) (by
    rw [List.length_map]
    have : ps.length * (5 * k + 3 + 1) ≤ 2 * (5 * k + 3 + 1) := Nat.mul_le_mul_right _ hlen
    omega)
  have hw2 : sumQ (ps.map fun p => p.2) = 1 := by
    rw [sumQ_sum, ← hw]
    unfold wT
    congr 1
    exact List.map_congr_left fun p _ => (Rat.one_mul _).symm
  rw [hw2] at ht
  have e5 : ∀ s, TL.eqT (fq 1) (.tup [.int 1, .int 1]) s = some (.bl true, s) := fun s => by
    have := eq_fq (p := 1) (q := 1) (st := s)
    rw [decide_eq_true rfl] at this
    exact this
  have hend : s4 ++ [Ob.lst ((ps.map fun p => p.2).map fun q => fq q)] = st ++ ((Ob.lst [] :: R1) ++ ([Ob.lst []] ++ ([Ob.lst []] ++ ([Ob.lst []] ++ [Ob.lst ((ps.map fun p => p.2).map fun q => fq q)])))) := by rw [← hs4, ← hs2]; simp only [List.append_assoc]
  refine ⟨(Ob.lst [] :: R1) ++ ([Ob.lst []] ++ ([Ob.lst []] ++ ([Ob.lst []] ++ [Ob.lst ((ps.map fun p => p.2).map fun q => fq q)]))), fn_ret rfl ?_⟩
  refine sq (e' := [some (thr ps), none, none, none, none]) (st' := st) (if_no (st' := st) ?_ rfl) ?_
  · simp [xIsi, kindT, truT, q1]
  refine sq (e' := [some (thr ps), none, none, none, none]) (st' := s2) (if_no (st' := s2) ?_ rfl) ?_
  · simp only [List.length_append] at e1
    simp only [r_xBl, r_xBin, f1, Option.bind_some, r_xCall, r_xNil, r_lst, List.length_nil, sz0, if_true, List.length_append]
    rw [hs2, e1]
    rfl
  refine sq (e' := [some (thr ps), none, none, none, none]) (st' := s4) (if_no (st' := s4) ?_ rfl) ?_
  · simp only [List.length_append] at e3
    simp only [r_xBl, r_xBin, f3, Option.bind_some, r_xCall, r_xNil, r_lst, List.length_nil, sz0, if_true, List.length_append]
    rw [hs4, e3]
    rfl
  rw [← hend]
  simp only [r_xsRet, r_xBin, r_xCall, r_xCons, r_xNil, h1, Option.bind_some, ht, r_xC, r_tup, List.length_cons, List.length_nil, sz2, if_true, e5, Option.map_some]
end
end K29
/-! P14 -/
set_option Elab.async false
set_option linter.all false
set_option maxRecDepth 100000
set_option maxHeartbeats 4000000
set_option exponentiation.threshold 4000
namespace K29
open PySem PySem.Spec PyProof.Rows L2 TL LamX
noncomputable section
variable [Tb]
def numB : XS := (xsSeq (xsSet 5 (xCall F__law_number (xCons (xVar 0) (xCons (xCall F__law_some (xCons (xVar 0) (xCons (xCall listDT (xCons (xVar 1) xNil)) xNil))) xNil))))
    (xsSeq (xsSet 6 (xCall F__law_again (xCons (xVar 5) (xCons (xVar 1) xNil))))
    (xsSeq (xsIf (xNotT (xTru (xCall F__law_alike (xCons (xCall F_again_throw (xCons (xVar 5) (xCons (xVar 1) xNil))) (xCons (xVar 6) xNil)))))
    (xsRet (xC (.bl false)))
    xsNil)
    (xsIf (xAndT (xTru (xVar 2)) (xBl (xBin neT (xVar 6) (xCall F__law_neighbour_throw (xCons (xVar 5) (xCons (xBin ixA (xVar 1) (xUn negT (xC (.int 1)))) xNil))))))
    (xsRet (xC (.bl false)))
    xsNil))))
theorem row_empty {F : List Rat} {a b : Nat} {st : Store} {k : Nat} (hF : ∀ q ∈ F, Sz k q) (hk : k ≤ 1900) (ha : st[a]? = some (.lst (F.map fun q => fq q))) (hb : st[b]? = some (.lst [])) : TL.eqT (.ref a) (.ref b) st = some (.bl (decide (F = [])), st) := by
  show eqdT false _ _ _ = _
  have t1 : toD st (10 + 2) (.ref a) = some (.list (F.map dq)) := toD_rowL ha
  have t2 : toD st (10 + 2) (.ref b) = some (.list (([] : List Rat).map dq)) := toD_rowL hb
  unfold eqdT
  rw [show dpth = 10 + 2 from rfl, t1, t2]
  have sh1 := (nic_dqs hF hk).list.shaped (by decide)
  have sh2 : SeqAt.shaped (.list (([] : List Rat).map dq)) = true := by decide +kernel
  simp only [sh1, sh2, Bool.and_self, if_true]
  cases F with
  | nil => rfl
  | cons h t => rfl
theorem turns_ok {N : Nat} {st : Store} {l m : Nat} {gs : List Rat} {G : Rat} {ob : Bool} {v3 : T} {o4 o5 o6 o7 : Option T} (h : BagAt N st l m) (hN : N + 100 ≤ 1000000) (hg : ∀ g ∈ gs ++ [G], Gr g) (hl : gs.length ≤ 3) (hob : ob = true → ∀ x, againQ x (gs ++ [G]) = nbT x G) :
    ∃ o4' o5' o6' st', xsFor (xiRange1 (xC (.int 3))) (xgName 4) numB [some (.ref l), some (grs (gs ++ [G])), some (.bl ob), some v3, o4, o5, o6, o7] st = some (.nx [some (.ref l), some (grs (gs ++ [G])), some (.bl ob), some v3, o4', o5', o6', o7] st') ∧ More l st st' ∧ BagAt (N + 15) st' l m := by
  have hl4 : (gs ++ [G]).length ≤ 4 := by simp; omega
  have hG : Gr G := hg G (by simp)
  obtain ⟨e', s', g1, g2⟩ := for_inv (g := xgName 4) (b := numB) (ts := rngs 0 3)
    (fun i e s => i ≤ 3 ∧ BagAt (N + 5 * i) s l m ∧ More l st s ∧ ∃ o4 o5 o6, e = [some (.ref l), some (grs (gs ++ [G])), some (.bl ob), some v3, o4, o5, o6, o7])
    (range_it (f := xC (.int ((3 : Nat) : Int))) (e := [some (.ref l), some (grs (gs ++ [G])), some (.bl ob), some v3, o4, o5, o6, o7]) (st := st) rfl (by omega)) (fun i e s hh => rfl) ⟨Nat.zero_le _, h, More.refl _ _, _, _, _, rfl⟩
    (fun i e s y hy hh => by
      obtain ⟨hi, hb, hmo, o4, o5, o6, rfl⟩ := hh
      obtain ⟨hlt, rfl⟩ := rngs_get hy
      have hls : listDT [grs (gs ++ [G])] s = some (.ref s.length, s ++ [.lst ((gs ++ [G]).map fun q => fq q)]) := rfl
      have hbl := hb.lt
      obtain ⟨x, s1, f1, hx, o1, b1⟩ := some_list (j := s.length) (ts := (gs ++ [G]).map fun q => fq q) (hb.more [.lst ((gs ++ [G]).map fun q => fq q)]) (by omega) last_get (by omega) (by simp) (by simp; omega)
      obtain ⟨g, hgm, rfl⟩ := List.mem_map.mp hx
      obtain ⟨x, s2, f2, zx, m2, b2⟩ := number_ok b1 (by omega) (hg g hgm)
      obtain ⟨ga, f3⟩ := again_law (st := s2) zx hg hl4
      obtain ⟨gb, f4⟩ := again_prog (st := s2 ++ ga) zx hg hl4
      have hsz := again_sz zx hg hl4
      have f5 := alike_thr (st := s2 ++ ga ++ gb) hsz (by decide) (by decide)
      have hbo : Both 30 x G := ⟨zx, hG.sz.up (by decide), hG.pos, by decide, by decide⟩
      have f6 := nbt_law hbo (s2 ++ ga ++ gb)
      have f7 := ne_thr (st := s2 ++ ga ++ gb) (hsz.up (by decide : 94 ≤ 5 * 30 + 3) (Nat.le_refl 16)) ((nb_szT hbo).up (Nat.le_refl _) (by decide : 2 ≤ 16)) (by decide)
      have h4 : ∀ s, ixA (.tup ((gs ++ [G]).map fun q => fq q)) (.int (-1)) s = some (fq G, s) := fun s => last_ix
      have hm3 : More l st (s2 ++ ga ++ gb) := (((hmo.trans (More.app l s _)).trans o1.more).trans m2).trans ((More.app l s2 ga).trans (More.app l _ gb))
      refine ⟨_, s, _, [some (.ref l), some (grs (gs ++ [G])), some (.bl ob), some v3, some (.int (0 + (i : Int))), some (fq x), some (thr (againQ x (gs ++ [G]))), o7], s2 ++ ga ++ gb, rfl, ?_, .inl rfl, by omega, ((b2.more ga).more gb).up (by omega), hm3, _, _, _, rfl⟩
      refine sq (e' := [some (.ref l), some (grs (gs ++ [G])), some (.bl ob), some v3, some (.int (0 + (i : Int))), some (fq x), o6, o7]) (st' := s2) ?_ ?_
      · simp only [r_xsSet, r_xCall, r_xCons, r_xNil, r_xVar, List.set_cons_succ, List.set_cons_zero, List.getElem?_cons_succ, List.getElem?_cons_zero, Option.bind_some, hls, f1, f2, Option.map_some]
      refine sq (e' := [some (.ref l), some (grs (gs ++ [G])), some (.bl ob), some v3, some (.int (0 + (i : Int))), some (fq x), some (thr (againQ x (gs ++ [G]))), o7]) (st' := s2 ++ ga) ?_ ?_
      · simp only [r_xsSet, r_xCall, r_xCons, r_xNil, r_xVar, List.set_cons_succ, List.set_cons_zero, List.getElem?_cons_succ, List.getElem?_cons_zero, Option.bind_some, f3, Option.map_some]
      refine sq (e' := [some (.ref l), some (grs (gs ++ [G])), some (.bl ob), some v3, some (.int (0 + (i : Int))), some (fq x), some (thr (againQ x (gs ++ [G]))), o7]) (st' := s2 ++ ga ++ gb) (if_no (st' := s2 ++ ga ++ gb) ?_ rfl) ?_
      · simp only [r_xNotT, r_xTru, r_xCall, r_xCons, r_xNil, r_xVar, List.getElem?_cons_succ, List.getElem?_cons_zero, Option.bind_some, f4, f5, truT, Option.map_some, Bool.not_true]
      cases ob with
      | false => simp only [r_xsIf, r_xAndT, r_xTru, r_xVar, List.getElem?_cons_succ, List.getElem?_cons_zero, Option.bind_some, truT, Option.map_some, Bool.false_eq_true, if_false, r_xsNil]
      | true =>
        rw [decide_eq_true (hob rfl x)] at f7
        simp only [r_xsIf, r_xAndT, r_xTru, r_xVar, r_xBl, r_xBin, r_xCall, r_xCons, r_xNil, r_xUn, r_xC, r_neg, List.getElem?_cons_succ, List.getElem?_cons_zero, Option.bind_some, truT, Option.map_some, if_true, h4, f6, f7, Bool.not_true, Bool.false_eq_true, if_false, r_xsNil])
  obtain ⟨_, hb, hmo, o4', o5', o6', rfl⟩ := g2
  rw [rngs_len] at hb
  exact ⟨o4', o5', o6', s', g1, hmo, hb⟩
theorem again_right_ok {N : Nat} {st : Store} {l m : Nat} (h : BagAt N st l m) (hN : N + 200 ≤ 1000000) : ∃ st', F__law_is_again_right [.ref l] st = some (.bl true, st') ∧ More l st st' ∧ BagAt (N + 30) st' l m := by
  obtain ⟨gs, G, s1, f1, hl, hg0, hG, m1, b1⟩ := grains_ok h (by omega)
  have hg : ∀ g ∈ gs ++ [G], Gr g := fun g hm => by
    rcases List.mem_append.mp hm with hm | hm
    · exact hg0 g hm
    · rw [List.mem_singleton.mp hm]; exact hG
  have h4 : ∀ s, ixA (.tup ((gs ++ [G]).map fun q => fq q)) (.int (-1)) s = some (fq G, s) := fun s => last_ix
  have hl4 : (gs ++ [G]).length ≤ 4 := by simp; omega
  have hlc := lc_fm (vs := [7]) (i := 7) (e := [some (.ref l), some (grs (gs ++ [G])), none, none, none, none, none, none]) (fi := xiSeq (xVar 1)) (st := s1) (s1 := s1) (it := fun _ => some ((gs ++ [G]).map fun q => fq q)) (tt := xNotT (xTru (xCall F__law_is_multiple (xCons (xBin ixA (xVar 1) (xUn negT (xC (.int 1)))) (xCons (xVar 7) xNil))))) (te := xVar 7) (ts := (gs ++ [G]).map fun q => fq q)
    (fun t => match t with
      | .tup [.int n, .int d] => !decide (loQ G (Rat.divInt n d) = G)
      | _ => false) id rfl (fun acc => rfl) (by rw [List.length_map]; omega) (fun y hy acc => by
      obtain ⟨q, hq, rfl⟩ := List.mem_map.mp hy
      have hmu := mult_ok hG (hg q hq) (s1 ++ [.lst acc])
      have h2 : Rat.divInt q.num (q.den : Int) = q := Rat.num_divInt_den q
      show _ = some (!decide (loQ G (Rat.divInt q.num (q.den : Int)) = G), _)
      rw [h2]
      simp only [r_xNotT, r_xTru, r_xCall, r_xCons, r_xNil, r_xBin, r_xVar, r_xUn, r_xC, r_neg, wipeE, List.set_cons_succ, List.set_cons_zero, List.getElem?_cons_succ, List.getElem?_cons_zero, Option.bind_some, h4, hmu, truT, Option.map_some]) (fun y hy _ acc => by
      obtain ⟨q, hq, rfl⟩ := List.mem_map.mp hy
      simp [wipeE])
  have hflt : (((gs ++ [G]).map fun q => fq q).filter (fun t => match t with
      | .tup [.int n, .int d] => !decide (loQ G (Rat.divInt n d) = G)
      | _ => false)).map id = ((gs ++ [G]).filter fun g => !decide (loQ G g = G)).map fun q => fq q := by
    rw [List.map_id, List.filter_map]
    congr 1
    refine List.filter_congr fun q _ => ?_
    show (!decide (loQ G (Rat.divInt q.num (q.den : Int)) = G)) = _
    rw [Rat.num_divInt_den]
  rw [hflt] at hlc
  have hob1 : decide (((gs ++ [G]).filter fun g => !decide (loQ G g = G)) = []) = onceB G (gs ++ [G]) := by
    unfold onceB
    rw [Bool.eq_iff_iff, decide_eq_true_eq, List.filter_eq_nil_iff, List.all_eq_true]
    constructor
    · intro hh g hgm
      have := hh g hgm
      simpa using this
    · intro hh g hgm
      have := hh g hgm
      simpa using this
  have hFz : ∀ q ∈ ((gs ++ [G]).filter fun g => !decide (loQ G g = G)), Sz 5 q := fun q hq => (hg q (List.mem_filter.mp hq).1).sz
  have heq := row_empty (a := s1.length) (b := (s1 ++ [Ob.lst (((gs ++ [G]).filter fun g => !decide (loQ G g = G)).map fun q => fq q)]).length) (st := (s1 ++ [Ob.lst (((gs ++ [G]).filter fun g => !decide (loQ G g = G)).map fun q => fq q)]) ++ [.lst []]) hFz (by decide) (getA last_get) last_get
  rw [hob1] at heq
  generalize hF : Ob.lst (((gs ++ [G]).filter fun g => !decide (loQ G g = G)).map fun q => fq q) = FF at *
  have hm2 : More l st ((s1 ++ [FF]) ++ [.lst []]) := m1.trans ((More.app l s1 _).trans (More.app l _ _))
  have b2 := (b1.more [FF]).more [Ob.lst []]
  have st2 : xsSet 2 (xBin eqT (xLc (xiSeq (xVar 1)) (xgName 7) [7] (xNotT (xTru (xCall F__law_is_multiple (xCons (xBin ixA (xVar 1) (xUn negT (xC (.int 1)))) (xCons (xVar 7) xNil))))) (xVar 7)) (xCall lstT xNil)) [some (.ref l), some (grs (gs ++ [G])), none, none, none, none, none, none] s1 = some (.nx [some (.ref l), some (grs (gs ++ [G])), some (.bl (onceB G (gs ++ [G]))), none, none, none, none, none] ((s1 ++ [FF]) ++ [.lst []])) := by
    simp only [r_xsSet, r_xBin, hlc, Option.bind_some, r_xCall, r_xNil, r_lst, List.length_nil, sz0, if_true, heq, Option.map_some, List.set_cons_succ, List.set_cons_zero]
  generalize (s1 ++ [FF]) ++ [Ob.lst []] = s2 at *
  obtain ⟨ga, p1⟩ := parting_ok (st := s2) hG hg hl
  obtain ⟨gb, p2⟩ := once_ok (st := s2 ++ ga) hG hg hl
  have hsz5 : Nic 1 (2 * (5 + 2)) (dq G) := nic_dq hG.sz (by decide)
  have hm3 : More l st (s2 ++ ga ++ gb) := hm2.trans ((More.app l s2 ga).trans (More.app l _ gb))
  have b3 := (b2.more ga).more gb
  have hpos : ∀ g ∈ gs ++ [G], 0 < g := fun g hm => (hg g hm).pos
  cases ho : onceB G (gs ++ [G]) with
  | true =>
    rw [ho] at st2 p1 p2
    simp only [if_true] at p1
    have hall : ∀ g ∈ gs ++ [G], loQ G g = G := fun g hm => by
      unfold onceB at ho
      exact of_decide_eq_true (List.all_eq_true.mp ho g hm)
    have hob : ∀ x, againQ x (gs ++ [G]) = nbT x G := fun x => once_same hG.pos (fun g hm => hpos g (by simp [hm])) fun g hm => by
      have h1 := hall g (by simp [hm])
      exact ⟨(G / g).floor, h1.symm⟩
    obtain ⟨gc, p3⟩ := parting_ok (st := s2 ++ ga ++ gb) hG hg hl
    rw [ho] at p3
    simp only [if_true] at p3
    obtain ⟨o4', o5', o6', s5, f5, m5, b5⟩ := turns_ok (v3 := .non) (o4 := none) (o5 := none) (o6 := none) (o7 := none) (ob := true) (b3.more gc) (by omega) hg hl (fun _ => hob)
    refine ⟨s5, fn_ret rfl ?_, (hm3.trans (More.app l _ gc)).trans m5, b5.up (by omega)⟩
    refine sq (e' := [some (.ref l), some (grs (gs ++ [G])), none, none, none, none, none, none]) (st' := s1) (by simp [f1]) ?_
    refine sq st2 ?_
    refine sq (e' := [some (.ref l), some (grs (gs ++ [G])), some (.bl true), some .non, none, none, none, none]) (st' := s2 ++ ga) (by simp [p1]) ?_
    have a1 := alike_b true (s2 ++ ga ++ gb)
    have a2 := alike_n (s2 ++ ga ++ gb ++ gc)
    have n1 : ∀ s : Store, isNT false .non .non s = some (.bl true, s) := fun s => rfl
    have n2 : ∀ s : Store, TL.neT (.bl true) (.bl true) s = some (.bl false, s) := fun s => rfl
    refine sq (e' := [some (.ref l), some (grs (gs ++ [G])), some (.bl true), some .non, none, none, none, none]) (st' := s2 ++ ga ++ gb) (if_no (st' := s2 ++ ga ++ gb) ?_ rfl) ?_
    · simp only [r_xOrT, r_xNotT, r_xTru, r_xBl, r_xBin, r_xC, r_xCall, r_xCons, r_xNil, r_xVar, List.getElem?_cons_succ, List.getElem?_cons_zero, Option.bind_some, p2, a1, truT, Option.map_some, Bool.not_true, Bool.false_eq_true, if_false, n1, n2]
    refine sq (e' := [some (.ref l), some (grs (gs ++ [G])), some (.bl true), some .non, none, none, none, none]) (st' := s2 ++ ga ++ gb) (if_no (st' := s2 ++ ga ++ gb) ?_ rfl) ?_
    · simp only [r_xAndT, r_xNotT, r_xTru, r_xVar, List.getElem?_cons_succ, List.getElem?_cons_zero, Option.bind_some, truT, Option.map_some, Bool.not_true, Bool.false_eq_true, if_false]
    refine sq (e' := [some (.ref l), some (grs (gs ++ [G])), some (.bl true), some .non, none, none, none, none]) (st' := s2 ++ ga ++ gb) (if_no (st' := s2 ++ ga ++ gb) ?_ rfl) ?_
    · simp only [r_xAndT, r_xNotT, r_xTru, r_xVar, List.getElem?_cons_succ, List.getElem?_cons_zero, Option.bind_some, truT, Option.map_some, Bool.not_true, Bool.false_eq_true, if_false]
    refine sq (e' := [some (.ref l), some (grs (gs ++ [G])), some (.bl true), some .non, none, none, none, none]) (st' := s2 ++ ga ++ gb ++ gc) (if_no (st' := s2 ++ ga ++ gb ++ gc) ?_ rfl) ?_
    · simp only [r_xNotT, r_xTru, r_xCall, r_xCons, r_xNil, r_xVar, List.getElem?_cons_succ, List.getElem?_cons_zero, Option.bind_some, p3, a2, truT, Option.map_some, Bool.not_true]
    refine sq f5 rfl
  | false =>
    rw [ho] at st2 p1 p2
    simp only [Bool.false_eq_true, if_false] at p1
    have hex : ∃ g ∈ gs ++ [G], loQ G g ≠ G := by
      unfold onceB at ho
      have := List.all_eq_false.mp ho
      obtain ⟨g, hgm, hh⟩ := this
      exact ⟨g, hgm, fun z => hh (decide_eq_true z)⟩
    have hno := not_once hpos hG.pos hex
    have zG : Sz 30 G := hG.sz.up (by decide)
    obtain ⟨gd, r1⟩ := again_law (st := s2 ++ ga ++ gb) zG hg hl4
    have hbo : Both 30 G G := ⟨zG, zG, hG.pos, by decide, by decide⟩
    have r2 := nbt_law hbo (s2 ++ ga ++ gb ++ gd)
    have r3 := eq_thr (st := s2 ++ ga ++ gb ++ gd) ((again_sz zG hg hl4).up (by decide : 94 ≤ 5 * 30 + 3) (Nat.le_refl 16)) ((nb_szT hbo).up (Nat.le_refl _) (by decide : 2 ≤ 16)) (by decide)
    rw [decide_eq_false hno] at r3
    have r0 := frac_ok G (s2 ++ ga ++ gb)
    obtain ⟨gc, p3⟩ := parting_ok (st := s2 ++ ga ++ gb ++ gd) hG hg hl
    rw [ho] at p3
    simp only [Bool.false_eq_true, if_false] at p3
    obtain ⟨o4', o5', o6', s5, f5, m5, b5⟩ := turns_ok (v3 := fq G) (o4 := none) (o5 := none) (o6 := none) (o7 := none) (ob := false) ((b3.more gd).more gc) (by omega) hg hl (fun z => by cases z)
    refine ⟨s5, fn_ret rfl ?_, (hm3.trans ((More.app l _ gd).trans (More.app l _ gc))).trans m5, b5.up (by omega)⟩
    refine sq (e' := [some (.ref l), some (grs (gs ++ [G])), none, none, none, none, none, none]) (st' := s1) (by simp [f1]) ?_
    refine sq st2 ?_
    refine sq (e' := [some (.ref l), some (grs (gs ++ [G])), some (.bl false), some (fq G), none, none, none, none]) (st' := s2 ++ ga) (by simp [p1]) ?_
    have a1 := alike_b false (s2 ++ ga ++ gb)
    have a2 : F__law_alike [fq G, fq G] (s2 ++ ga ++ gb ++ gd ++ gc) = some (.bl true, s2 ++ ga ++ gb ++ gd ++ gc) := nic_alike hsz5 rfl rfl (toD_fq (n := 11)) (toD_fq (n := 11))
    have n1 : ∀ s : Store, isNT false (fq G) .non s = some (.bl false, s) := fun s => rfl
    have n2 : ∀ s : Store, TL.neT (.bl false) (.bl false) s = some (.bl false, s) := fun s => rfl
    refine sq (e' := [some (.ref l), some (grs (gs ++ [G])), some (.bl false), some (fq G), none, none, none, none]) (st' := s2 ++ ga ++ gb) (if_no (st' := s2 ++ ga ++ gb) ?_ rfl) ?_
    · simp only [r_xOrT, r_xNotT, r_xTru, r_xBl, r_xBin, r_xC, r_xCall, r_xCons, r_xNil, r_xVar, List.getElem?_cons_succ, List.getElem?_cons_zero, Option.bind_some, p2, a1, truT, Option.map_some, Bool.not_true, Bool.false_eq_true, if_false, n1, n2]
    refine sq (e' := [some (.ref l), some (grs (gs ++ [G])), some (.bl false), some (fq G), none, none, none, none]) (st' := s2 ++ ga ++ gb) (if_no (st' := s2 ++ ga ++ gb) ?_ rfl) ?_
    · simp only [r_xAndT, r_xNotT, r_xTru, r_xCall, r_xCons, r_xNil, r_xVar, List.getElem?_cons_succ, List.getElem?_cons_zero, Option.bind_some, truT, Option.map_some, Bool.not_false, if_true, r0, Bool.not_true]
    refine sq (e' := [some (.ref l), some (grs (gs ++ [G])), some (.bl false), some (fq G), none, none, none, none]) (st' := s2 ++ ga ++ gb ++ gd) (if_no (st' := s2 ++ ga ++ gb ++ gd) ?_ rfl) ?_
    · simp only [r_xAndT, r_xNotT, r_xTru, r_xBl, r_xBin, r_xUn, r_xC, r_neg, r_xCall, r_xCons, r_xNil, r_xVar, List.getElem?_cons_succ, List.getElem?_cons_zero, Option.bind_some, truT, Option.map_some, Bool.not_false, if_true, r1, h4, r2, r3]
    refine sq (e' := [some (.ref l), some (grs (gs ++ [G])), some (.bl false), some (fq G), none, none, none, none]) (st' := s2 ++ ga ++ gb ++ gd ++ gc) (if_no (st' := s2 ++ ga ++ gb ++ gd ++ gc) ?_ rfl) ?_
    · simp only [r_xNotT, r_xTru, r_xCall, r_xCons, r_xNil, r_xVar, List.getElem?_cons_succ, List.getElem?_cons_zero, Option.bind_some, p3, a2, truT, Option.map_some, Bool.not_true]
    refine sq f5 rfl
end
end K29
/-! P15 -/
set_option Elab.async false
set_option linter.all false
set_option maxRecDepth 100000
set_option maxHeartbeats 4000000
set_option exponentiation.threshold 4000
namespace K29
open PySem PySem.Spec PyProof.Rows L2 TL LamX
noncomputable section
variable [Tb]
def turnB : XS := (xsSeq (xsSet 3 (xCall F__law_grain (xCons (xVar 1) xNil)))
    (xsSeq (xsSet 4 (xCall F__law_number (xCons (xVar 1) (xCons (xVar 3) xNil))))
    (xsSeq (xsIf (xBl (xBin eqT (xVar 2) (xC (.int 0))))
    (xsSeq (xsSet 3 (xCall F__law_some (xCons (xVar 1) (xCons (xCall lstT (xCons (xCall tupT (xCons (xBin powT (xC (.int 10)) (xC (.int 6))) (xCons (xC (.int 1)) xNil))) (xCons (xCall tupT (xCons (xC (.int 1)) (xCons (xBin powT (xC (.int 10)) (xC (.int 6))) xNil))) (xCons (xCall tupT (xCons (xC (.int 999999937)) (xCons (xC (.int 7)) xNil))) (xCons (xCall tupT (xCons (xC (.int 3)) (xCons (xC (.int 999999929)) xNil))) xNil))))) xNil))))
    (xsSet 4 (xCall F__law_some (xCons (xVar 1) (xCons (xCall lstT (xCons (xCall tupT (xCons (xC (.int 123456789)) (xCons (xC (.int 1000)) xNil))) (xCons (xCall tupT (xCons (xUn negT (xC (.int 999999937))) (xCons (xC (.int 999999929)) xNil))) (xCons (xCall tupT (xCons (xC (.int 0)) (xCons (xC (.int 1)) xNil))) (xCons (xCall tupT (xCons (xUn negT (xC (.int 5))) (xCons (xC (.int 1)) xNil))) (xCons (xCall tupT (xCons (xBin addT (xBin powT (xC (.int 10)) (xC (.int 30))) (xC (.int 7))) (xCons (xC (.int 3)) xNil))) xNil)))))) xNil)))))
    xsNil)
    (xsSeq (xsSet 5 (xCall lstT (xCons (xCall F__law_neighbours (xCons (xVar 4) (xCons (xVar 3) xNil))) (xCons (xCall F__law_neighbour_throw (xCons (xVar 4) (xCons (xVar 3) xNil))) xNil))))
    (xsSeq (xsIf (xNotT (xTru (xCall F__law_alike (xCons (xCall lstT (xCons (xCall F_neighbours_of (xCons (xVar 4) (xCons (xVar 3) xNil))) (xCons (xCall F_neighbour_throw (xCons (xVar 4) (xCons (xVar 3) xNil))) xNil))) (xCons (xVar 5) xNil)))))
    (xsRet (xC (.bl false)))
    xsNil)
    (xsIf (xOrT (xBl (xBin neT (xCall F__law_mean_of (xCons (xBin ixA (xVar 5) (xC (.int 1))) xNil)) (xVar 4))) (xOrT (xNotT (xTru (xCall F__law_is_throw (xCons (xBin ixA (xVar 5) (xC (.int 1))) xNil)))) (xNotT (xTru (xCall F__law_is_again_right (xCons (xVar 1) xNil))))))
    (xsRet (xC (.bl false)))
    xsNil))))))
theorem pow6 {s : Store} : powT (.int 10) (.int 6) s = some (.int 1000000, s) := by
  rw [r_pow, if_pos ⟨by decide, by decide, by decide⟩]
  rfl
theorem pow30 {s : Store} : powT (.int 10) (.int 30) s = some (.int 1000000000000000000000000000000, s) := by
  rw [r_pow, if_pos ⟨by decide, by decide, by decide⟩]
  rfl
/-- the number and the grain of a turn -/
theorem drawn_ok {N : Nat} {st : Store} {l m : Nat} {i : Int} (h : BagAt N st l m) (hN : N + 20 ≤ 1000000) {r o3 o4 o5 : Option T} :
    ∃ g x s', (xsSeq (xsSet 3 (xCall F__law_grain (xCons (xVar 1) xNil)))
    (xsSeq (xsSet 4 (xCall F__law_number (xCons (xVar 1) (xCons (xVar 3) xNil))))
    (xsIf (xBl (xBin eqT (xVar 2) (xC (.int 0))))
    (xsSeq (xsSet 3 (xCall F__law_some (xCons (xVar 1) (xCons (xCall lstT (xCons (xCall tupT (xCons (xBin powT (xC (.int 10)) (xC (.int 6))) (xCons (xC (.int 1)) xNil))) (xCons (xCall tupT (xCons (xC (.int 1)) (xCons (xBin powT (xC (.int 10)) (xC (.int 6))) xNil))) (xCons (xCall tupT (xCons (xC (.int 999999937)) (xCons (xC (.int 7)) xNil))) (xCons (xCall tupT (xCons (xC (.int 3)) (xCons (xC (.int 999999929)) xNil))) xNil))))) xNil))))
    (xsSet 4 (xCall F__law_some (xCons (xVar 1) (xCons (xCall lstT (xCons (xCall tupT (xCons (xC (.int 123456789)) (xCons (xC (.int 1000)) xNil))) (xCons (xCall tupT (xCons (xUn negT (xC (.int 999999937))) (xCons (xC (.int 999999929)) xNil))) (xCons (xCall tupT (xCons (xC (.int 0)) (xCons (xC (.int 1)) xNil))) (xCons (xCall tupT (xCons (xUn negT (xC (.int 5))) (xCons (xC (.int 1)) xNil))) (xCons (xCall tupT (xCons (xBin addT (xBin powT (xC (.int 10)) (xC (.int 30))) (xC (.int 7))) (xCons (xC (.int 3)) xNil))) xNil)))))) xNil)))))
    xsNil))) [r, some (.ref l), some (.int i), o3, o4, o5] st = some (.nx [r, some (.ref l), some (.int i), some (fq g), some (fq x), o5] s') ∧ Both 101 x g ∧ BagAt (N + 10) s' l m := by
  obtain ⟨g, s1, f1, hg, m1, b1⟩ := grain_ok h (by omega)
  obtain ⟨x, s2, f2, zx, m2, b2⟩ := number_ok b1 (by omega) hg.gr
  by_cases hi : i = 0
  · have hl2 := b2.lt
    obtain ⟨y, s3, f3, hy, o3', b3⟩ := some_list (j := s2.length) (ts := [.tup [.int 1000000, .int 1], .tup [.int 1, .int 1000000], .tup [.int 999999937, .int 7], .tup [.int 3, .int 999999929]]) (b2.more [.lst [.tup [.int 1000000, .int 1], .tup [.int 1, .int 1000000], .tup [.int 999999937, .int 7], .tup [.int 3, .int 999999929]]]) (by omega) last_get (by omega) (by simp) (by simp)
    have hl3 := b3.lt
    obtain ⟨w, s4, f4, hw, o4', b4⟩ := some_list (j := s3.length) (ts := [.tup [.int 123456789, .int 1000], .tup [.int (-999999937), .int 999999929], .tup [.int 0, .int 1], .tup [.int (-5), .int 1], .tup [.int 1000000000000000000000000000007, .int 3]]) (b3.more [.lst [.tup [.int 123456789, .int 1000], .tup [.int (-999999937), .int 999999929], .tup [.int 0, .int 1], .tup [.int (-5), .int 1], .tup [.int 1000000000000000000000000000007, .int 3]]]) (by omega) last_get (by omega) (by simp) (by simp)
    have hy2 : ∃ q : Rat, y = fq q ∧ Sz 101 q ∧ 0 < q := by
      simp only [List.mem_cons, List.not_mem_nil, or_false] at hy
      rcases hy with rfl | rfl | rfl | rfl
      · exact ⟨⟨1000000, 1, by decide, by decide⟩, rfl, ⟨by decide, by decide⟩, by decide +kernel⟩
      · exact ⟨⟨1, 1000000, by decide, by decide⟩, rfl, ⟨by decide, by decide⟩, by decide +kernel⟩
      · exact ⟨⟨999999937, 7, by decide, by decide +kernel⟩, rfl, ⟨by decide, by decide⟩, by decide +kernel⟩
      · exact ⟨⟨3, 999999929, by decide, by decide +kernel⟩, rfl, ⟨by decide, by decide⟩, by decide +kernel⟩
    have hw2 : ∃ q : Rat, w = fq q ∧ Sz 101 q := by
      simp only [List.mem_cons, List.not_mem_nil, or_false] at hw
      rcases hw with rfl | rfl | rfl | rfl | rfl
      · exact ⟨⟨123456789, 1000, by decide, by decide +kernel⟩, rfl, ⟨by decide, by decide⟩⟩
      · exact ⟨⟨-999999937, 999999929, by decide, by decide +kernel⟩, rfl, ⟨by decide, by decide⟩⟩
      · exact ⟨⟨0, 1, by decide, by decide⟩, rfl, ⟨by decide, by decide⟩⟩
      · exact ⟨⟨-5, 1, by decide, by decide⟩, rfl, ⟨by decide, by decide⟩⟩
      · exact ⟨⟨1000000000000000000000000000007, 3, by decide, by decide +kernel⟩, rfl, ⟨by decide, by decide⟩⟩
    obtain ⟨g2, rfl, zg2, pg2⟩ := hy2
    obtain ⟨x2, rfl, zx2⟩ := hw2
    have s4z : (4 : Nat) ≤ sizeLine := by decide
    have s5z : (5 : Nat) ≤ sizeLine := by decide
    have hsum : (1000000000000000000000000000000 : Int) + 7 = 1000000000000000000000000000007 := by decide
    refine ⟨g2, x2, s4, ?_, ⟨zx2, zg2, pg2, by decide, by decide⟩, b4.up (by omega)⟩
    refine sq (e' := [r, some (.ref l), some (.int i), some (fq g), o4, o5]) (st' := s1) (by simp [f1]) ?_
    refine sq (e' := [r, some (.ref l), some (.int i), some (fq g), some (fq x), o5]) (st' := s2) (by simp [f2]) ?_
    refine if_yes (st' := s2) (by simp [hi]) ?_
    refine sq (e' := [r, some (.ref l), some (.int i), some (fq g2), some (fq x), o5]) (st' := s3) ?_ ?_
    · simp only [r_xsSet, r_xCall, r_xCons, r_xNil, r_xVar, r_xC, r_xBin, r_tup, r_lst, pow6, List.length_cons, List.length_nil, sz2, if_true, List.getElem?_cons_succ, List.getElem?_cons_zero, Option.bind_some, List.set_cons_succ, List.set_cons_zero]
      rw [if_pos s4z]
      simp only [Option.bind_some, f3, Option.map_some]
    · simp only [r_xsSet, r_xCall, r_xCons, r_xNil, r_xVar, r_xC, r_xBin, r_xUn, r_neg, r_tup, r_lst, pow30, r_add, hsum, List.length_cons, List.length_nil, sz2, if_true, List.getElem?_cons_succ, List.getElem?_cons_zero, Option.bind_some, List.set_cons_succ, List.set_cons_zero]
      rw [if_pos s5z]
      simp only [Option.bind_some, f4, Option.map_some]
  · refine ⟨g, x, s2, ?_, ⟨zx.up (by decide), hg.sz.up (by decide), hg.pos, by decide, by decide⟩, b2.up (by omega)⟩
    refine sq (e' := [r, some (.ref l), some (.int i), some (fq g), o4, o5]) (st' := s1) (by simp [f1]) ?_
    refine sq (e' := [r, some (.ref l), some (.int i), some (fq g), some (fq x), o5]) (st' := s2) (by simp [f2]) ?_
    exact if_no (st' := s2) (by simp [hi]) rfl
theorem seq_assoc (a b c : XS) : xsSeq (xsSeq a b) c = xsSeq a (xsSeq b c) := by
  funext e st
  simp only [r_xsSeq]
  cases a e st with
  | none => rfl
  | some o => cases o <;> rfl
theorem sq3 {a b c d : XS} {e e' : Env1} {st st' : Store} {r : Option Out} (h : xsSeq a (xsSeq b c) e st = some (.nx e' st')) (h2 : d e' st' = r) : xsSeq a (xsSeq b (xsSeq c d)) e st = r := by
  rw [← seq_assoc b c d, ← seq_assoc a (xsSeq b c) d]
  exact sq h h2
theorem nbr_ok {x g : Rat} {k : Nat} (h : Both k x g) : Sz (5 * k + 3) (hiQ x g) := by
  unfold hiQ
  split
  · exact h.lo.up (by omega)
  · exact h.hi.up (by omega)
theorem turn_ok {N : Nat} {st : Store} {l m : Nat} {i : Int} (h : BagAt N st l m) (hN : N + 300 ≤ 1000000) {r o3 o4 o5 : Option T} :
    ∃ e' s', turnB [r, some (.ref l), some (.int i), o3, o4, o5] st = some (.nx e' s') ∧ BagAt (N + 100) s' l m ∧ ∃ o3 o4 o5, e' = [r, some (.ref l), some (.int i), o3, o4, o5] := by
  obtain ⟨g, x, s1, f1, hb, b1⟩ := drawn_ok (i := i) h (by omega) (r := r) (o3 := o3) (o4 := o4) (o5 := o5)
  have e1 := nb_law hb
  have e2 := nbt_law hb
  have e3 := nb_prog hb
  have e4 := nbt_prog hb
  have hsz := nb_szT hb
  have nn : Nic 4 25000 (.list [.tuple [dq (loQ x g), dq (hiQ x g)], .tuple ((nbT x g).map dpr)]) := by
    have n1 : Nic 3 _ (.tuple [dq (loQ x g), dq (hiQ x g)]) := (NicAll.cons (nic_dq (hb.lo.up (by decide : 3 * 101 ≤ 5 * 101 + 3)) (by decide)) (NicAll.cons (nic_dq (nbr_ok hb) (by decide)) NicAll.nil)).tuple.up (by decide : 2 ≤ 3) (Nat.le_refl _)
    have n2 := nic_thr hsz (by decide)
    exact (NicAll.cons n1 (NicAll.cons n2 NicAll.nil)).list.up (Nat.le_refl _) (by decide)
  have td : ∀ (s : Store) (a : Nat), s[a]? = some (.lst [.tup [fq (loQ x g), fq (hiQ x g)], thr (nbT x g)]) → toD s dpth (.ref a) = some (.list [.tuple [dq (loQ x g), dq (hiQ x g)], .tuple ((nbT x g).map dpr)]) := fun s a hs => by
    show toD s (11 + 1) _ = _
    unfold toD
    rw [hs]
    have t1 : toD s (9 + 2) (.tup [fq (loQ x g), fq (hiQ x g)]) = some (.tuple [dq (loQ x g), dq (hiQ x g)]) := toD_pr (p := (loQ x g, hiQ x g))
    have t2 : toD s (8 + 3) (thr (nbT x g)) = some (.tuple ((nbT x g).map dpr)) := toD_thr
    show (optAll (toD s 11) [.tup [fq (loQ x g), fq (hiQ x g)], thr (nbT x g)]).map PyData.list = _
    simp only [optAll, t1, t2, Option.map_some]
  have al : F__law_alike [.ref (s1.length + 1), .ref s1.length] (s1 ++ [.lst [.tup [fq (loQ x g), fq (hiQ x g)], thr (nbT x g)], .lst [.tup [fq (loQ x g), fq (hiQ x g)], thr (nbT x g)]]) = some (.bl true, s1 ++ [.lst [.tup [fq (loQ x g), fq (hiQ x g)], thr (nbT x g)], .lst [.tup [fq (loQ x g), fq (hiQ x g)], thr (nbT x g)]]) := nic_alike nn rfl rfl (td _ _ (by simp)) (td _ _ (by simp))
  have hg1 : (s1 ++ [Ob.lst [.tup [fq (loQ x g), fq (hiQ x g)], thr (nbT x g)], Ob.lst [.tup [fq (loQ x g), fq (hiQ x g)], thr (nbT x g)]])[s1.length]? = some (.lst [.tup [fq (loQ x g), fq (hiQ x g)], thr (nbT x g)]) := by simp
  have b2 := b1.more [Ob.lst [.tup [fq (loQ x g), fq (hiQ x g)], thr (nbT x g)], Ob.lst [.tup [fq (loQ x g), fq (hiQ x g)], thr (nbT x g)]]
  have hix : ∀ gg, ixA (.ref s1.length) (.int 1) ((s1 ++ [Ob.lst [.tup [fq (loQ x g), fq (hiQ x g)], thr (nbT x g)], Ob.lst [.tup [fq (loQ x g), fq (hiQ x g)], thr (nbT x g)]]) ++ gg) = some (thr (nbT x g), (s1 ++ [Ob.lst [.tup [fq (loQ x g), fq (hiQ x g)], thr (nbT x g)], Ob.lst [.tup [fq (loQ x g), fq (hiQ x g)], thr (nbT x g)]]) ++ gg) := fun gg => by
    rw [r_ixLst (getA hg1)]; simp
  have hix0 := hix []
  rw [List.append_nil] at hix0
  generalize hs2 : s1 ++ [Ob.lst [.tup [fq (loQ x g), fq (hiQ x g)], thr (nbT x g)], Ob.lst [.tup [fq (loQ x g), fq (hiQ x g)], thr (nbT x g)]] = s2 at *
  obtain ⟨ga, m1⟩ := mean_ok (st := s2) hsz (by decide)
  rw [(nb_w (x := x) hb.pos).2] at m1
  obtain ⟨gb, t1⟩ := throw_ok (st := s2 ++ ga) hb
  obtain ⟨s3, r1, _, b3⟩ := again_right_ok ((b2.more ga).more gb) (by omega)
  have q1 : ∀ s, TL.neT (fq x) (fq x) s = some (.bl false, s) := fun s => by
    rw [ne_fq, decide_eq_true rfl]; rfl
  have ix2 := hix ga
  refine ⟨[r, some (.ref l), some (.int i), some (fq g), some (fq x), some (.ref s1.length)], s3, ?_, b3.up (by omega), _, _, _, rfl⟩
  refine sq3 f1 ?_
  refine sq (e' := [r, some (.ref l), some (.int i), some (fq g), some (fq x), some (.ref s1.length)]) (st' := s1 ++ [.lst [.tup [fq (loQ x g), fq (hiQ x g)], thr (nbT x g)]]) ?_ ?_
  · simp only [r_xsSet, r_xCall, r_xCons, r_xNil, r_xVar, List.getElem?_cons_succ, List.getElem?_cons_zero, Option.bind_some, e1, e2, r_lst, List.length_cons, List.length_nil, sz2, if_true, Option.map_some, List.set_cons_succ, List.set_cons_zero]
  refine sq (e' := [r, some (.ref l), some (.int i), some (fq g), some (fq x), some (.ref s1.length)]) (st' := s2) (if_no (st' := s2) ?_ rfl) ?_
  · simp only [r_xNotT, r_xTru, r_xCall, r_xCons, r_xNil, r_xVar, List.getElem?_cons_succ, List.getElem?_cons_zero, Option.bind_some, e3, e4, r_lst, List.length_cons, List.length_nil, sz2, if_true, List.length_append, List.append_assoc, List.cons_append, List.nil_append, hs2, al, truT, Option.map_some, Bool.not_true]
  refine if_no (st' := s3) ?_ rfl
  simp only [r_xOrT, r_xNotT, r_xTru, r_xBl, r_xBin, r_xC, r_xCall, r_xCons, r_xNil, r_xVar, List.getElem?_cons_succ, List.getElem?_cons_zero, Option.bind_some, hix0, m1, q1, Bool.false_eq_true, if_false, ix2, t1, truT, Option.map_some, Bool.not_true, r1]
theorem math (ns : List Int) (h : ns.length ≤ 63) (hb : ∀ z ∈ ns, Builtin.Int.intBits z ≤ 1048576) : ∃ st, F_law [.rdl ns] [] = some (.bl true, st) := by
  obtain ⟨g, f1, b1⟩ := bag_ok ns []
  obtain ⟨e', s', g1, g2⟩ := for_inv (g := xgName 2) (b := turnB) (ts := rngs 0 10)
    (fun i e s => i ≤ 10 ∧ BagAt (1000 * i) s (0 + 2) (0 + 1) ∧ ∃ o2 o3 o4 o5, e = [some (.rdl ns), some (.ref (0 + 2)), o2, o3, o4, o5])
    (range_it (f := xC (.int ((10 : Nat) : Int))) (e := [some (.rdl ns), some (.ref (0 + 2)), none, none, none, none]) (st := [] ++ g) rfl (by omega)) (fun i e s h => rfl) ⟨Nat.zero_le _, b1, _, _, _, _, rfl⟩
    (fun i e s y hy hh => by
      obtain ⟨hi, hbg, o2, o3, o4, o5, rfl⟩ := hh
      obtain ⟨hlt, rfl⟩ := rngs_get hy
      obtain ⟨e', s', t1, t2, o3', o4', o5', t3⟩ := turn_ok (i := 0 + (i : Int)) hbg (by omega) (r := some (.rdl ns)) (o3 := o3) (o4 := o4) (o5 := o5)
      exact ⟨_, s, _, e', s', rfl, t1, .inl rfl, by omega, t2.up (by omega), _, _, _, _, t3⟩)
  obtain ⟨_, _, o2, o3, o4, o5, rfl⟩ := g2
  refine ⟨s', fn_ret rfl ?_⟩
  refine sq (e' := [some (.rdl ns), some (.ref (0 + 2)), none, none, none, none]) (st' := [] ++ g) ?_ ?_
  · have f1' := f1
    simp only [List.length_nil] at f1'
    simp [f1']
  exact sq g1 rfl
end
end K29
/-! O29 -/
set_option Elab.async false
set_option linter.all false
set_option maxRecDepth 100000
set_option maxHeartbeats 4000000
namespace K29
open PySem PySem.Spec PyProof.Rows L2 TL LamX
noncomputable section
variable [Tb]
section
variable {P : Program} {w : World} {K : PySem.W.Frag} {mg : Str → Option Value} {base : Heap}
theorem ok_reduced (T : Txt mg) (L : Place K mg "reduced" s_reduced P_reduced) : DefAt P w K mg base 1 "reduced" P_reduced F_reduced :=
  DefAt.of L sc_reduced fun f cdv A outer s H hr hg => by
  have nd := sc_reduced.nd
  exact (ss_cons (st_if (tt_cmp (ot_eq hr.units) (et_var 1) et_int (nomark _))
    (ss_one st_never)
    ss_nil)
    (ss_cons (st_set (i := 2) nd (et_callF ct_gcd (at_cons (et_var 0) (at_cons (et_var 1) at_nil)) T.gcd))
    (ss_cons (st_if (tt_cmp ot_lt (et_var 1) et_int (nomark _))
    (ss_one (st_set (i := 2) nd (et_un ut_neg (et_var 2))))
    ss_nil)
    (ss_one (st_ret (et_tup (at_cons (et_bin ot_fdiv (et_var 0) (et_var 2)) (at_cons (et_bin ot_fdiv (et_var 1) (et_var 2)) at_nil))))))))
theorem ok_added (T : Txt mg) (L : Place K mg "added" s_added P_added) (d_reduced : DefAt P w K mg base 1 "reduced" P_reduced S_reduced) : DefAt P w K mg base 2 "added" P_added F_added :=
  DefAt.of L sc_added fun f cdv A outer s H hr hg => by
  have nd := sc_added.nd
  exact (ss_one (st_ret (et_callD d_reduced hr hg (at_cons (et_bin ot_add (et_bin ot_mul (et_ix (xt_ixA (room65 hr)) (et_var 0) et_int) (et_ix (xt_ixA (room65 hr)) (et_var 1) et_int)) (et_bin ot_mul (et_ix (xt_ixA (room65 hr)) (et_var 1) et_int) (et_ix (xt_ixA (room65 hr)) (et_var 0) et_int))) (at_cons (et_bin ot_mul (et_ix (xt_ixA (room65 hr)) (et_var 0) et_int) (et_ix (xt_ixA (room65 hr)) (et_var 1) et_int)) at_nil)))))
theorem ok_lessened (T : Txt mg) (L : Place K mg "lessened" s_lessened P_lessened) (d_reduced : DefAt P w K mg base 1 "reduced" P_reduced S_reduced) : DefAt P w K mg base 2 "lessened" P_lessened F_lessened :=
  DefAt.of L sc_lessened fun f cdv A outer s H hr hg => by
  have nd := sc_lessened.nd
  exact (ss_one (st_ret (et_callD d_reduced hr hg (at_cons (et_bin ot_sub (et_bin ot_mul (et_ix (xt_ixA (room65 hr)) (et_var 0) et_int) (et_ix (xt_ixA (room65 hr)) (et_var 1) et_int)) (et_bin ot_mul (et_ix (xt_ixA (room65 hr)) (et_var 1) et_int) (et_ix (xt_ixA (room65 hr)) (et_var 0) et_int))) (at_cons (et_bin ot_mul (et_ix (xt_ixA (room65 hr)) (et_var 0) et_int) (et_ix (xt_ixA (room65 hr)) (et_var 1) et_int)) at_nil)))))
theorem ok_times (T : Txt mg) (L : Place K mg "times" s_times P_times) (d_reduced : DefAt P w K mg base 1 "reduced" P_reduced S_reduced) : DefAt P w K mg base 2 "times" P_times F_times :=
  DefAt.of L sc_times fun f cdv A outer s H hr hg => by
  have nd := sc_times.nd
  exact (ss_one (st_ret (et_callD d_reduced hr hg (at_cons (et_bin ot_mul (et_ix (xt_ixA (room65 hr)) (et_var 0) et_int) (et_ix (xt_ixA (room65 hr)) (et_var 1) et_int)) (at_cons (et_bin ot_mul (et_ix (xt_ixA (room65 hr)) (et_var 0) et_int) (et_ix (xt_ixA (room65 hr)) (et_var 1) et_int)) at_nil)))))
theorem ok_over (T : Txt mg) (L : Place K mg "over" s_over P_over) (d_reduced : DefAt P w K mg base 1 "reduced" P_reduced S_reduced) : DefAt P w K mg base 2 "over" P_over F_over :=
  DefAt.of L sc_over fun f cdv A outer s H hr hg => by
  have nd := sc_over.nd
  exact (ss_one (st_ret (et_callD d_reduced hr hg (at_cons (et_bin ot_mul (et_ix (xt_ixA (room65 hr)) (et_var 0) et_int) (et_ix (xt_ixA (room65 hr)) (et_var 1) et_int)) (at_cons (et_bin ot_mul (et_ix (xt_ixA (room65 hr)) (et_var 0) et_int) (et_ix (xt_ixA (room65 hr)) (et_var 1) et_int)) at_nil)))))
theorem ok_total_of (T : Txt mg) (L : Place K mg "total_of" s_total_of P_total_of) (d_reduced : DefAt P w K mg base 1 "reduced" P_reduced S_reduced) : DefAt P w K mg base 2 "total_of" P_total_of F_total_of :=
  DefAt.of L sc_total_of fun f cdv A outer s H hr hg => by
  have nd := sc_total_of.nd
  exact (ss_cons (st_set (i := 1) nd et_int)
    (ss_cons (st_for PassesOwn.never rfl (it_seq (et_var 0)) (gt_tup rfl (gs_cons (gt_name (i := 2) nd) (gs_cons (gt_name (i := 3) nd) gs_nil)))
    (ss_one (st_set (i := 1) nd (et_callF ct_lcm (at_cons (et_var 1) (at_cons (et_var 3) at_nil)) T.lcm))))
    (ss_one (st_ret (et_callD d_reduced hr hg (at_cons (et_callB (ct_sum rfl) (at_cons (et_lc (own := [("num", 4), ("den", 3)]) rfl nd (blkOk_by (own := [("num", 4), ("den", 3)]) (N := N_total_of) (sc := defScope s_total_of) (by decide +kernel)) (it_seq (et_var 0)) (fun _ _ _ _ _ => (gt_tup rfl (gs_cons (gt_name (i := 4) nd) (gs_cons (gt_name (i := 3) nd) gs_nil)))) (fun _ _ _ _ _ => pt_nil) (fun _ _ _ _ _ => (et_bin ot_mul (et_var 4) (et_bin ot_fdiv (et_var 1) (et_var 3))))) at_nil) T.sum) (at_cons (et_var 1) at_nil)))))))
theorem ok_whole_below (T : Txt mg) (L : Place K mg "whole_below" s_whole_below P_whole_below) : DefAt P w K mg base 1 "whole_below" P_whole_below F_whole_below :=
  DefAt.of L sc_whole_below fun f cdv A outer s H hr hg => by
  have nd := sc_whole_below.nd
  exact (ss_one (st_ret (et_bin ot_fdiv (et_ix (xt_ixA (room65 hr)) (et_var 0) et_int) (et_ix (xt_ixA (room65 hr)) (et_var 0) et_int))))
theorem ok_in_order (T : Txt mg) (L : Place K mg "in_order" s_in_order P_in_order) : DefAt P w K mg base 1 "in_order" P_in_order F_in_order :=
  DefAt.of L sc_in_order fun f cdv A outer s H hr hg => by
  have nd := sc_in_order.nd
  exact (ss_cons (st_set (i := 1) nd (et_maxD rfl hr.units (et_lc (own := [("one", 6)]) rfl nd (blkOk_by (own := [("one", 6)]) (N := N_in_order) (sc := defScope s_in_order) (by decide +kernel)) (it_seq (et_var 0)) (fun _ _ _ _ _ => (gt_name (i := 6) nd)) (fun _ _ _ _ _ => pt_nil) (fun _ _ _ _ _ => (et_bin ot_mul (et_ix (xt_ixA (room65 hr)) (et_var 6) et_int) (et_ix (xt_ixA (room65 hr)) (et_var 6) et_int)))) et_int T.max))
    (ss_cons (st_set (i := 2) nd (et_dcK (own := [("num", 3), ("den", 4)]) rfl nd (blkOk_by (own := [("num", 3), ("den", 4)]) (N := N_in_order) (sc := defScope s_in_order) (by decide +kernel)) (it_seq (et_var 0)) (fun _ _ _ _ _ => (gt_tup rfl (gs_cons (gt_name (i := 3) nd) (gs_cons (gt_name (i := 4) nd) gs_nil)))) (fun _ _ _ _ _ => pt_nil) (fun _ _ _ _ _ => (et_bin ot_fdiv (et_bin ot_mul (et_var 3) (et_var 1)) (et_var 4))) (fun _ _ _ _ _ => (et_tup (at_cons (et_var 3) (at_cons (et_var 4) at_nil))))))
    (ss_one (st_ret (et_lc (own := [("whole", 5)]) rfl nd (blkOk_by (own := [("whole", 5)]) (N := N_in_order) (sc := defScope s_in_order) (by decide +kernel)) (it_seq (et_callB (ct_sorted rfl) (at_cons (et_var 2) at_nil) T.sorted)) (fun _ _ _ _ _ => (gt_name (i := 5) nd)) (fun _ _ _ _ _ => pt_nil) (fun _ _ _ _ _ => (et_ix (xt_ixA (room65 hr)) (et_var 2) (et_var 5))))))))
theorem ok_sure_throw (T : Txt mg) (L : Place K mg "sure_throw" s_sure_throw P_sure_throw) : DefAt P w K mg base 1 "sure_throw" P_sure_throw F_sure_throw :=
  DefAt.of L sc_sure_throw fun f cdv A outer s H hr hg => by
  have nd := sc_sure_throw.nd
  exact (ss_one (st_ret (et_tup (at_cons (et_tup (at_cons (et_var 0) (at_cons (et_tup (at_cons et_int (at_cons et_int at_nil))) at_nil))) at_nil))))
theorem ok_two_throw (T : Txt mg) (L : Place K mg "two_throw" s_two_throw P_two_throw) (d_sure_throw : DefAt P w K mg base 1 "sure_throw" P_sure_throw F_sure_throw) (d_lessened : DefAt P w K mg base 2 "lessened" P_lessened S_lessened) (d_over : DefAt P w K mg base 2 "over" P_over S_over) : DefAt P w K mg base 3 "two_throw" P_two_throw F_two_throw :=
  DefAt.of L sc_two_throw fun f cdv A outer s H hr hg => by
  have nd := sc_two_throw.nd
  exact (ss_cons (st_if (tt_w (tw_or (tt_cmp (ot_eq hr.units) (et_var 1) (et_var 0) (nomark _)) (tw_or1 (tt_cmp (ot_eq hr.units) (et_var 1) (et_var 2) (nomark _)))))
    (ss_one (st_ret (et_callD d_sure_throw hr hg (at_cons (et_var 1) at_nil))))
    ss_nil)
    (ss_cons (st_set (i := 3) nd (et_callD d_over hr hg (at_cons (et_callD d_lessened hr hg (at_cons (et_var 1) (at_cons (et_var 0) at_nil))) (at_cons (et_callD d_lessened hr hg (at_cons (et_var 2) (at_cons (et_var 0) at_nil))) at_nil))))
    (ss_one (st_ret (et_tup (at_cons (et_tup (at_cons (et_var 0) (at_cons (et_callD d_lessened hr hg (at_cons (et_tup (at_cons et_int (at_cons et_int at_nil))) (at_cons (et_var 3) at_nil))) at_nil))) (at_cons (et_tup (at_cons (et_var 2) (at_cons (et_var 3) at_nil))) at_nil)))))))
theorem ok_neighbours_of (T : Txt mg) (L : Place K mg "neighbours_of" s_neighbours_of P_neighbours_of) (d_over : DefAt P w K mg base 2 "over" P_over S_over) (d_whole_below : DefAt P w K mg base 1 "whole_below" P_whole_below F_whole_below) (d_times : DefAt P w K mg base 2 "times" P_times S_times) (d_added : DefAt P w K mg base 2 "added" P_added S_added) : DefAt P w K mg base 3 "neighbours_of" P_neighbours_of F_neighbours_of :=
  DefAt.of L sc_neighbours_of fun f cdv A outer s H hr hg => by
  have nd := sc_neighbours_of.nd
  exact (ss_cons (st_set (i := 2) nd (et_callD d_times hr hg (at_cons (et_tup (at_cons (et_callD d_whole_below hr hg (at_cons (et_callD d_over hr hg (at_cons (et_var 0) (at_cons (et_var 1) at_nil))) at_nil)) (at_cons et_int at_nil))) (at_cons (et_var 1) at_nil))))
    (ss_cons (st_if (tt_cmp (ot_eq hr.units) (et_var 2) (et_var 0) (nomark _))
    (ss_one (st_ret (et_tup (at_cons (et_var 2) (at_cons (et_var 2) at_nil)))))
    ss_nil)
    (ss_one (st_ret (et_tup (at_cons (et_var 2) (at_cons (et_callD d_added hr hg (at_cons (et_var 2) (at_cons (et_var 1) at_nil))) at_nil)))))))
theorem ok_neighbour_throw (T : Txt mg) (L : Place K mg "neighbour_throw" s_neighbour_throw P_neighbour_throw) (d_neighbours_of : DefAt P w K mg base 3 "neighbours_of" P_neighbours_of F_neighbours_of) (d_two_throw : DefAt P w K mg base 3 "two_throw" P_two_throw F_two_throw) : DefAt P w K mg base 4 "neighbour_throw" P_neighbour_throw F_neighbour_throw :=
  DefAt.of L sc_neighbour_throw fun f cdv A outer s H hr hg => by
  have nd := sc_neighbour_throw.nd
  exact (ss_cons (st_asg (et_callD d_neighbours_of hr hg (at_cons (et_var 0) (at_cons (et_var 1) at_nil))) (gt_tup rfl (gs_cons (gt_name (i := 2) nd) (gs_cons (gt_name (i := 3) nd) gs_nil))))
    (ss_one (st_ret (et_callD d_two_throw hr hg (at_cons (et_var 2) (at_cons (et_var 0) (at_cons (et_var 3) at_nil)))))))
theorem ok_rounded_throw (T : Txt mg) (L : Place K mg "rounded_throw" s_rounded_throw P_rounded_throw) (d_neighbour_throw : DefAt P w K mg base 4 "neighbour_throw" P_neighbour_throw F_neighbour_throw) (d_times : DefAt P w K mg base 2 "times" P_times S_times) (d_in_order : DefAt P w K mg base 1 "in_order" P_in_order F_in_order) (d_total_of : DefAt P w K mg base 2 "total_of" P_total_of S_total_of) : DefAt P w K mg base 5 "rounded_throw" P_rounded_throw F_rounded_throw :=
  DefAt.of L sc_rounded_throw fun f cdv A outer s H hr hg => by
  have nd := sc_rounded_throw.nd
  exact (ss_cons (st_set (i := 2) nd et_dictN)
    (ss_cons (st_for PassesOwn.never rfl (it_seq (et_var 0)) (gt_tup rfl (gs_cons (gt_name (i := 3) nd) (gs_cons (gt_name (i := 4) nd) gs_nil)))
    (ss_one (st_for PassesOwn.never rfl (it_seq (et_callD d_neighbour_throw hr hg (at_cons (et_var 3) (at_cons (et_var 1) at_nil)))) (gt_tup rfl (gs_cons (gt_name (i := 5) nd) (gs_cons (gt_name (i := 6) nd) gs_nil)))
    (ss_one (st_expr (et_meth PySem.F.plainAttrs_list PySem.F.slot_list_append PySem.F.type_list_append mm_append (et_methX PySem.F.plainAttrs_dict PySem.F.slot_dict_setdefault PySem.F.type_dict_setdefault (mm_setdef (room65 hr)) (et_var 2) (at_cons (et_var 5) (at_cons (et_lst at_nil) at_nil))) (at_cons (et_callD d_times hr hg (at_cons (et_var 4) (at_cons (et_var 6) at_nil))) at_nil)))))))
    (ss_one (st_ret (et_callTy ct_tuple (at_cons (et_lc (own := [("value", 5)]) rfl nd (blkOk_by (own := [("value", 5)]) (N := N_rounded_throw) (sc := defScope s_rounded_throw) (by decide +kernel)) (it_seq (et_callD d_in_order hr hg (at_cons (et_callTy (ct_listD rfl) (at_cons (et_var 2) at_nil) T.list) at_nil))) (fun _ _ _ _ _ => (gt_name (i := 5) nd)) (fun _ _ _ _ _ => pt_nil) (fun _ _ _ _ _ => (et_tup (at_cons (et_var 5) (at_cons (et_callD d_total_of hr hg (at_cons (et_ix (xt_ixA (room65 hr)) (et_var 2) (et_var 5)) at_nil)) at_nil))))) at_nil) T.tuple)))))
theorem ok_again_throw (T : Txt mg) (L : Place K mg "again_throw" s_again_throw P_again_throw) (d_sure_throw : DefAt P w K mg base 1 "sure_throw" P_sure_throw F_sure_throw) (d_rounded_throw : DefAt P w K mg base 5 "rounded_throw" P_rounded_throw F_rounded_throw) : DefAt P w K mg base 6 "again_throw" P_again_throw F_again_throw :=
  DefAt.of L sc_again_throw fun f cdv A outer s H hr hg => by
  have nd := sc_again_throw.nd
  exact (ss_cons (st_set (i := 2) nd (et_callD d_sure_throw hr hg (at_cons (et_var 0) at_nil)))
    (ss_cons (st_for PassesOwn.never rfl (it_seq (et_var 1)) (gt_name (i := 3) nd)
    (ss_one (st_set (i := 2) nd (et_callD d_rounded_throw hr hg (at_cons (et_var 2) (at_cons (et_var 3) at_nil))))))
    (ss_one (st_ret (et_var 2)))))
theorem ok_is_once (T : Txt mg) (L : Place K mg "is_once" s_is_once P_is_once) (d_over : DefAt P w K mg base 2 "over" P_over S_over) : DefAt P w K mg base 3 "is_once" P_is_once F_is_once :=
  DefAt.of L sc_is_once fun f cdv A outer s H hr hg => by
  have nd := sc_is_once.nd
  exact (ss_one (st_ret (et_callB (ct_all rfl) (at_cons (et_lc (own := [("grain", 1)]) rfl nd (blkOk_by (own := [("grain", 1)]) (N := N_is_once) (sc := defScope s_is_once) (by decide +kernel)) (it_seq (et_var 0)) (fun _ _ _ _ _ => (gt_name (i := 1) nd)) (fun _ _ _ _ _ => pt_nil) (fun _ _ _ _ _ => (et_cmp (ot_eq hr.units) (et_ix (xt_ixA (room65 hr)) (et_callD d_over hr hg (at_cons (et_ix (xt_ixA (room65 hr)) (et_var 0) (et_un ut_neg et_int)) (at_cons (et_var 1) at_nil))) et_int) et_int (nomark _)))) at_nil) T.all)))
theorem ok_once_parting (T : Txt mg) (L : Place K mg "once_parting" s_once_parting P_once_parting) (d_is_once : DefAt P w K mg base 3 "is_once" P_is_once F_is_once) : DefAt P w K mg base 4 "once_parting" P_once_parting F_once_parting :=
  DefAt.of L sc_once_parting fun f cdv A outer s H hr hg => by
  have nd := sc_once_parting.nd
  exact (ss_cons (st_if (tt_val (et_callD d_is_once hr hg (at_cons (et_var 0) at_nil)))
    (ss_one (st_ret et_non))
    ss_nil)
    (ss_one (st_ret (et_ix (xt_ixA (room65 hr)) (et_var 0) (et_un ut_neg et_int)))))
theorem ok__law_bag (T : Txt mg) (L : Place K mg "_law_bag" s__law_bag P__law_bag) : DefAt P w K mg base 1 "_law_bag" P__law_bag F__law_bag :=
  DefAt.of L sc__law_bag fun f cdv A outer s H hr hg => by
  have nd := sc__law_bag.nd
  exact (ss_one (st_ret (et_lst (by (refine at_cons ?_ ?_); (exact et_int); (refine at_cons ?_ ?_); (exact et_int); (refine at_cons ?_ ?_); (exact et_int); (refine at_cons ?_ ?_); (exact (et_lc (own := [("_law_cell", 1)]) rfl nd (blkOk_by (own := [("_law_cell", 1)]) (N := N__law_bag) (sc := defScope s__law_bag) (by decide +kernel)) (it_seq (et_sl (et_var 0) ot_none (ot_some et_int))) (fun _ _ _ _ _ => (gt_name (i := 1) nd)) (fun _ _ _ _ _ => pt_nil) (fun _ _ _ _ _ => (et_callB ct_abs (at_cons (et_var 1) at_nil) T.abs)))); (exact at_nil)))))
theorem ok__law_take (T : Txt mg) (L : Place K mg "_law_take" s__law_take P__law_take) : DefAt P w K mg base 1 "_law_take" P__law_take F__law_take :=
  DefAt.of L sc__law_take fun f cdv A outer s H hr hg => by
  have nd := sc__law_take.nd
  exact (ss_cons (st_if (tt_cmp (ot_eq hr.units) (et_ix (xt_ixA (room65 hr)) (et_var 0) et_int) et_int (nomark _))
    (ss_cons (st_set (i := 2) nd (et_ix (xt_ixA (room65 hr)) (et_bin ot_add (et_sl (et_ix (xt_ixA (room65 hr)) (et_var 0) et_int) (ot_some (et_ix (xt_ixA (room65 hr)) (et_var 0) et_int)) ot_none) (et_lst (at_cons et_int at_nil))) et_int))
    (ss_cons (st_augS (et_var 0) et_int et_int ot_iadd)
    (ss_cons (st_if (tt_cmp ot_ge (et_var 2) (et_bin ot_pow et_int et_int) (nomark _))
    (ss_one (st_asg (et_var 2) (gt_subA (room65 hr) (et_var 0) et_int)))
    ss_nil)
    (ss_cons (st_set (i := 3) nd (et_bin ot_add (et_bin ot_add (et_bin ot_mul (et_ix (xt_ixA (room65 hr)) (et_var 0) et_int) et_int) (et_bin ot_mod (et_callTy ct_int (at_cons (et_var 2) at_nil) T.int) et_int)) (et_bin ot_mul et_int (et_ix (xt_ixA (room65 hr)) (et_var 0) et_int))))
    (ss_one (st_asg (et_bin ot_mod (et_callTy ct_int (at_cons (et_var 3) at_nil) T.int) et_int) (gt_subA (room65 hr) (et_var 0) et_int)))))))
    ss_nil)
    (ss_cons (st_if (tt_cmp ot_gt (et_ix (xt_ixA (room65 hr)) (et_var 0) et_int) et_int (nomark _))
    (ss_cons (st_set (i := 4) nd (et_bin ot_mod (et_callTy ct_int (at_cons (et_ix (xt_ixA (room65 hr)) (et_var 0) et_int) at_nil) T.int) (et_var 1)))
    (ss_cons (st_asg (et_bin ot_fdiv (et_callTy ct_int (at_cons (et_ix (xt_ixA (room65 hr)) (et_var 0) et_int) at_nil) T.int) (et_var 1)) (gt_subA (room65 hr) (et_var 0) et_int))
    (ss_one (st_ret (et_var 4)))))
    ss_nil)
    (ss_cons (st_set (i := 5) nd (et_bin ot_mod (et_callTy ct_int (at_cons (et_bin ot_mul (et_bin ot_add (et_ix (xt_ixA (room65 hr)) (et_var 0) et_int) et_int) et_int) at_nil) T.int) et_int))
    (ss_cons (st_set (i := 6) nd (et_bin ot_mod (et_callTy ct_int (at_cons (et_bin ot_mul (et_bin ot_mod (et_callTy ct_int (at_cons (et_bin ot_mul (et_var 5) (et_var 5)) at_nil) T.int) et_int) et_int) at_nil) T.int) et_int))
    (ss_one (st_ret (et_bin ot_mod (et_callTy ct_int (at_cons (et_bin ot_fdiv (et_var 6) et_int) at_nil) T.int) (et_var 1))))))))
theorem ok__law_some (T : Txt mg) (L : Place K mg "_law_some" s__law_some P__law_some) (d__law_take : DefAt P w K mg base 1 "_law_take" P__law_take S__law_take) : DefAt P w K mg base 2 "_law_some" P__law_some F__law_some :=
  DefAt.of L sc__law_some fun f cdv A outer s H hr hg => by
  have nd := sc__law_some.nd
  exact (ss_one (st_ret (et_ix (xt_ixA (room65 hr)) (et_var 1) (et_callD d__law_take hr hg (at_cons (et_var 0) (at_cons (et_callB ct_len (at_cons (et_var 1) at_nil) T.len) at_nil))))))
theorem ok__law_alike (T : Txt mg) (L : Place K mg "_law_alike" s__law_alike P__law_alike) : DefAt P w K mg base 1 "_law_alike" P__law_alike F__law_alike :=
  DefAt.of L sc__law_alike fun f cdv A outer s H hr hg => by
  have nd := sc__law_alike.nd
  exact (ss_one (st_ret (et_and (et_cmp (ot_eq hr.units) (et_var 0) (et_var 1) (nomark _)) (et_one (et_cmp (ot_eq hr.units) (et_callB (ct_reprU hr.units hg) (at_cons (et_var 0) at_nil) T.repr) (et_callB (ct_reprU hr.units hg) (at_cons (et_var 1) at_nil) T.repr) (nomark _))))))
theorem ok__law_is_int (T : Txt mg) (L : Place K mg "_law_is_int" s__law_is_int P__law_is_int) : DefAt P w K mg base 1 "_law_is_int" P__law_is_int F__law_is_int :=
  DefAt.of L sc__law_is_int fun f cdv A outer s H hr hg => by
  have nd := sc__law_is_int.nd
  exact (ss_one (st_ret (et_and (et_isi (et_var 0) T.isinstance T.int (by decide +kernel)) (et_one (et_not (et_isi (et_var 0) T.isinstance T.bool (by decide +kernel)))))))
theorem ok__law_divisor (T : Txt mg) (L : Place K mg "_law_divisor" s__law_divisor P__law_divisor) : DefAt P w K mg base 1 "_law_divisor" P__law_divisor F__law_divisor :=
  DefAt.of L sc__law_divisor fun f cdv A outer s H hr hg => by
  have nd := sc__law_divisor.nd
  exact (ss_cons (st_while PassesOwn.never (tt_cmp ot_gt (et_var 1) et_int (nomark _))
    (ss_one (st_par (i := 0) (j := 1) rfl nd (at_cons (et_var 1) (at_cons (et_bin ot_mod (et_callTy ct_int (at_cons (et_var 0) at_nil) T.int) (et_callTy ct_int (at_cons (et_var 1) at_nil) T.int)) at_nil)))))
    (ss_one (st_ret (et_var 0))))
theorem ok__law_over (T : Txt mg) (L : Place K mg "_law_over" s__law_over P__law_over) (d__law_divisor : DefAt P w K mg base 1 "_law_divisor" P__law_divisor F__law_divisor) : DefAt P w K mg base 2 "_law_over" P__law_over F__law_over :=
  DefAt.of L sc__law_over fun f cdv A outer s H hr hg => by
  have nd := sc__law_over.nd
  exact (ss_cons (st_set (i := 2) nd (et_callD d__law_divisor hr hg (at_cons (et_callB ct_abs (at_cons (et_var 0) at_nil) T.abs) (at_cons (et_callB ct_abs (at_cons (et_var 1) at_nil) T.abs) at_nil))))
    (ss_cons (st_set (i := 2) nd (et_if (tt_cmp ot_gt (et_var 1) et_int (nomark _)) (et_var 2) (et_un ut_neg (et_var 2))))
    (ss_one (st_ret (et_tup (at_cons (et_bin ot_fdiv (et_var 0) (et_var 2)) (at_cons (et_bin ot_fdiv (et_var 1) (et_var 2)) at_nil)))))))
theorem ok__law_added (T : Txt mg) (L : Place K mg "_law_added" s__law_added P__law_added) (d__law_over : DefAt P w K mg base 2 "_law_over" P__law_over S__law_over) : DefAt P w K mg base 3 "_law_added" P__law_added F__law_added :=
  DefAt.of L sc__law_added fun f cdv A outer s H hr hg => by
  have nd := sc__law_added.nd
  exact (ss_one (st_ret (et_callD d__law_over hr hg (at_cons (et_bin ot_add (et_bin ot_mul (et_ix (xt_ixA (room65 hr)) (et_var 0) et_int) (et_ix (xt_ixA (room65 hr)) (et_var 1) et_int)) (et_bin ot_mul (et_ix (xt_ixA (room65 hr)) (et_var 1) et_int) (et_ix (xt_ixA (room65 hr)) (et_var 0) et_int))) (at_cons (et_bin ot_mul (et_ix (xt_ixA (room65 hr)) (et_var 0) et_int) (et_ix (xt_ixA (room65 hr)) (et_var 1) et_int)) at_nil)))))
theorem ok__law_less (T : Txt mg) (L : Place K mg "_law_less" s__law_less P__law_less) (d__law_over : DefAt P w K mg base 2 "_law_over" P__law_over S__law_over) : DefAt P w K mg base 3 "_law_less" P__law_less F__law_less :=
  DefAt.of L sc__law_less fun f cdv A outer s H hr hg => by
  have nd := sc__law_less.nd
  exact (ss_one (st_ret (et_callD d__law_over hr hg (at_cons (et_bin ot_sub (et_bin ot_mul (et_ix (xt_ixA (room65 hr)) (et_var 0) et_int) (et_ix (xt_ixA (room65 hr)) (et_var 1) et_int)) (et_bin ot_mul (et_ix (xt_ixA (room65 hr)) (et_var 1) et_int) (et_ix (xt_ixA (room65 hr)) (et_var 0) et_int))) (at_cons (et_bin ot_mul (et_ix (xt_ixA (room65 hr)) (et_var 0) et_int) (et_ix (xt_ixA (room65 hr)) (et_var 1) et_int)) at_nil)))))
theorem ok__law_times (T : Txt mg) (L : Place K mg "_law_times" s__law_times P__law_times) (d__law_over : DefAt P w K mg base 2 "_law_over" P__law_over S__law_over) : DefAt P w K mg base 3 "_law_times" P__law_times F__law_times :=
  DefAt.of L sc__law_times fun f cdv A outer s H hr hg => by
  have nd := sc__law_times.nd
  exact (ss_one (st_ret (et_callD d__law_over hr hg (at_cons (et_bin ot_mul (et_ix (xt_ixA (room65 hr)) (et_var 0) et_int) (et_ix (xt_ixA (room65 hr)) (et_var 1) et_int)) (at_cons (et_bin ot_mul (et_ix (xt_ixA (room65 hr)) (et_var 0) et_int) (et_ix (xt_ixA (room65 hr)) (et_var 1) et_int)) at_nil)))))
theorem ok__law_is_less (T : Txt mg) (L : Place K mg "_law_is_less" s__law_is_less P__law_is_less) : DefAt P w K mg base 1 "_law_is_less" P__law_is_less F__law_is_less :=
  DefAt.of L sc__law_is_less fun f cdv A outer s H hr hg => by
  have nd := sc__law_is_less.nd
  exact (ss_one (st_ret (et_cmp ot_lt (et_bin ot_mul (et_ix (xt_ixA (room65 hr)) (et_var 0) et_int) (et_ix (xt_ixA (room65 hr)) (et_var 1) et_int)) (et_bin ot_mul (et_ix (xt_ixA (room65 hr)) (et_var 1) et_int) (et_ix (xt_ixA (room65 hr)) (et_var 0) et_int)) (nomark _))))
theorem ok__law_total (T : Txt mg) (L : Place K mg "_law_total" s__law_total P__law_total) (d__law_added : DefAt P w K mg base 3 "_law_added" P__law_added S__law_added) : DefAt P w K mg base 4 "_law_total" P__law_total F__law_total :=
  DefAt.of L sc__law_total fun f cdv A outer s H hr hg => by
  have nd := sc__law_total.nd
  exact (ss_cons (st_set (i := 1) nd (et_tup (at_cons et_int (at_cons et_int at_nil))))
    (ss_cons (st_for PassesOwn.never rfl (it_seq (et_var 0)) (gt_name (i := 2) nd)
    (ss_one (st_set (i := 1) nd (et_callD d__law_added hr hg (at_cons (et_var 1) (at_cons (et_var 2) at_nil))))))
    (ss_one (st_ret (et_var 1)))))
theorem ok__law_sorted (T : Txt mg) (L : Place K mg "_law_sorted" s__law_sorted P__law_sorted) (d__law_is_less : DefAt P w K mg base 1 "_law_is_less" P__law_is_less S__law_is_less) : DefAt P w K mg base 2 "_law_sorted" P__law_sorted F__law_sorted :=
  DefAt.of L sc__law_sorted fun f cdv A outer s H hr hg => by
  have nd := sc__law_sorted.nd
  exact (ss_cons (st_set (i := 1) nd (et_lst at_nil))
    (ss_cons (st_for PassesOwn.never rfl (it_seq (et_var 0)) (gt_name (i := 2) nd)
    (ss_cons (st_set (i := 3) nd (et_callB ct_len (at_cons (et_lc (own := [("_law_other", 4)]) rfl nd (blkOk_by (own := [("_law_other", 4)]) (N := N__law_sorted) (sc := defScope s__law_sorted) (by decide +kernel)) (it_seq (et_var 1)) (fun _ _ _ _ _ => (gt_name (i := 4) nd)) (fun _ _ _ _ _ => (pt_one (tt_val (et_callD d__law_is_less hr hg (at_cons (et_var 4) (at_cons (et_var 2) at_nil)))))) (fun _ _ _ _ _ => (et_var 4))) at_nil) T.len))
    (ss_one (st_if (tt_cmp (ot_notinF (room65 hr)) (et_var 2) (et_var 1) (by rfl))
    (ss_one (st_expr (et_meth PySem.F.plainAttrs_list PySem.F.slot_list_insert PySem.F.type_list_insert mm_insert (et_var 1) (at_cons (et_var 3) (at_cons (et_var 2) at_nil)))))
    ss_nil))))
    (ss_one (st_ret (et_var 1)))))
theorem ok__law_fraction (T : Txt mg) (L : Place K mg "_law_fraction" s__law_fraction P__law_fraction) (d__law_some : DefAt P w K mg base 2 "_law_some" P__law_some F__law_some) (d__law_over : DefAt P w K mg base 2 "_law_over" P__law_over S__law_over) : DefAt P w K mg base 3 "_law_fraction" P__law_fraction F__law_fraction :=
  DefAt.of L sc__law_fraction fun f cdv A outer s H hr hg => by
  have nd := sc__law_fraction.nd
  exact (ss_one (st_ret (et_callD d__law_over hr hg (at_cons (et_callD d__law_some hr hg (at_cons (et_var 0) (at_cons (et_lst (at_cons et_int (at_cons et_int (at_cons (et_un ut_neg et_int) (at_cons et_int (at_cons et_int (at_cons (et_un ut_neg et_int) (at_cons et_int (at_cons (et_un ut_neg et_int) (at_cons et_int (at_cons et_int at_nil))))))))))) at_nil))) (at_cons (et_callD d__law_some hr hg (at_cons (et_var 0) (at_cons (et_lst (at_cons et_int (at_cons et_int (at_cons et_int (at_cons et_int (at_cons et_int (at_cons et_int at_nil))))))) at_nil))) at_nil)))))
theorem ok__law_two_throw (T : Txt mg) (L : Place K mg "_law_two_throw" s__law_two_throw P__law_two_throw) (d__law_less : DefAt P w K mg base 3 "_law_less" P__law_less S__law_less) (d__law_over : DefAt P w K mg base 2 "_law_over" P__law_over S__law_over) : DefAt P w K mg base 4 "_law_two_throw" P__law_two_throw F__law_two_throw :=
  DefAt.of L sc__law_two_throw fun f cdv A outer s H hr hg => by
  have nd := sc__law_two_throw.nd
  exact (ss_cons (st_if (tt_w (tw_or (tt_cmp (ot_eq hr.units) (et_var 0) (et_var 1) (nomark _)) (tw_or1 (tt_cmp (ot_eq hr.units) (et_var 2) (et_var 1) (nomark _)))))
    (ss_one (st_ret (et_tup (at_cons (et_tup (at_cons (et_var 1) (at_cons (et_tup (at_cons et_int (at_cons et_int at_nil))) at_nil))) at_nil))))
    ss_nil)
    (ss_cons (st_set (i := 3) nd (et_callD d__law_less hr hg (at_cons (et_var 2) (at_cons (et_var 0) at_nil))))
    (ss_cons (st_set (i := 4) nd (et_callD d__law_over hr hg (at_cons (et_bin ot_mul (et_ix (xt_ixA (room65 hr)) (et_callD d__law_less hr hg (at_cons (et_var 1) (at_cons (et_var 0) at_nil))) et_int) (et_ix (xt_ixA (room65 hr)) (et_var 3) et_int)) (at_cons (et_bin ot_mul (et_ix (xt_ixA (room65 hr)) (et_callD d__law_less hr hg (at_cons (et_var 1) (at_cons (et_var 0) at_nil))) et_int) (et_ix (xt_ixA (room65 hr)) (et_var 3) et_int)) at_nil))))
    (ss_one (st_ret (et_tup (at_cons (et_tup (at_cons (et_var 0) (at_cons (et_callD d__law_less hr hg (at_cons (et_tup (at_cons et_int (at_cons et_int at_nil))) (at_cons (et_var 4) at_nil))) at_nil))) (at_cons (et_tup (at_cons (et_var 2) (at_cons (et_var 4) at_nil))) at_nil))))))))
theorem ok__law_is_frac (T : Txt mg) (L : Place K mg "_law_is_frac" s__law_is_frac P__law_is_frac) (d__law_is_int : DefAt P w K mg base 1 "_law_is_int" P__law_is_int F__law_is_int) (d__law_divisor : DefAt P w K mg base 1 "_law_divisor" P__law_divisor F__law_divisor) : DefAt P w K mg base 2 "_law_is_frac" P__law_is_frac F__law_is_frac :=
  DefAt.of L sc__law_is_frac fun f cdv A outer s H hr hg => by
  have nd := sc__law_is_frac.nd
  exact (ss_cons (st_if (tt_w (tw_or (tt_not (tt_val (et_isi (et_var 0) T.isinstance T.tuple (by decide +kernel)))) (tw_or (tt_cmp (ot_ne hr.units) (et_callB ct_len (at_cons (et_var 0) at_nil) T.len) et_int (nomark _)) (tw_or (tt_not (tt_val (et_callD d__law_is_int hr hg (at_cons (et_ix (xt_ixA (room65 hr)) (et_var 0) et_int) at_nil)))) (tw_or1 (tt_not (tt_val (et_callD d__law_is_int hr hg (at_cons (et_ix (xt_ixA (room65 hr)) (et_var 0) et_int) at_nil)))))))))
    (ss_one (st_ret et_bl))
    ss_nil)
    (ss_one (st_ret (et_and (et_cmp ot_gt (et_ix (xt_ixA (room65 hr)) (et_var 0) et_int) et_int (nomark _)) (et_one (et_cmp (ot_eq hr.units) (et_callD d__law_divisor hr hg (at_cons (et_callB ct_abs (at_cons (et_ix (xt_ixA (room65 hr)) (et_var 0) et_int) at_nil) T.abs) (at_cons (et_ix (xt_ixA (room65 hr)) (et_var 0) et_int) at_nil))) et_int (nomark _)))))))
theorem ok__law_are_fracs (T : Txt mg) (L : Place K mg "_law_are_fracs" s__law_are_fracs P__law_are_fracs) (d__law_is_frac : DefAt P w K mg base 2 "_law_is_frac" P__law_is_frac F__law_is_frac) : DefAt P w K mg base 3 "_law_are_fracs" P__law_are_fracs F__law_are_fracs :=
  DefAt.of L sc__law_are_fracs fun f cdv A outer s H hr hg => by
  have nd := sc__law_are_fracs.nd
  exact (ss_one (st_ret (et_and (et_isi (et_var 0) T.isinstance T.tuple (by decide +kernel)) (et_one (et_cmp (ot_eq hr.units) (et_lc (own := [("_law_one", 1)]) rfl nd (blkOk_by (own := [("_law_one", 1)]) (N := N__law_are_fracs) (sc := defScope s__law_are_fracs) (by decide +kernel)) (it_seq (et_var 0)) (fun _ _ _ _ _ => (gt_name (i := 1) nd)) (fun _ _ _ _ _ => (pt_one (tt_not (tt_val (et_callD d__law_is_frac hr hg (at_cons (et_var 1) at_nil)))))) (fun _ _ _ _ _ => (et_var 1))) (et_lst at_nil) (nomark _))))))
theorem ok__law_is_throw (T : Txt mg) (L : Place K mg "_law_is_throw" s__law_is_throw P__law_is_throw) (d__law_are_fracs : DefAt P w K mg base 3 "_law_are_fracs" P__law_are_fracs F__law_are_fracs) (d__law_is_less : DefAt P w K mg base 1 "_law_is_less" P__law_is_less S__law_is_less) (d__law_total : DefAt P w K mg base 4 "_law_total" P__law_total F__law_total) : DefAt P w K mg base 5 "_law_is_throw" P__law_is_throw F__law_is_throw :=
  DefAt.of L sc__law_is_throw fun f cdv A outer s H hr hg => by
  have nd := sc__law_is_throw.nd
  exact (ss_cons (st_if (tt_w (tw_or (tt_not (tt_val (et_isi (et_var 0) T.isinstance T.tuple (by decide +kernel)))) (tw_or1 (tt_cmp (ot_eq hr.units) (et_var 0) (et_tup at_nil) (nomark _)))))
    (ss_one (st_ret et_bl))
    ss_nil)
    (ss_cons (st_if (tt_cmp (ot_ne hr.units) (et_lc (own := [("_law_one", 1)]) rfl nd (blkOk_by (own := [("_law_one", 1)]) (N := N__law_is_throw) (sc := defScope s__law_is_throw) (by decide +kernel)) (it_seq (et_var 0)) (fun _ _ _ _ _ => (gt_name (i := 1) nd)) (fun _ _ _ _ _ => (pt_one (tt_w (tw_or (tt_not (tt_val (et_callD d__law_are_fracs hr hg (at_cons (et_var 1) at_nil)))) (tw_or (tt_cmp (ot_ne hr.units) (et_callB ct_len (at_cons (et_var 1) at_nil) T.len) et_int (nomark _)) (tw_or1 (tt_cmp ot_le (et_ix (xt_ixA (room65 hr)) (et_ix (xt_ixA (room65 hr)) (et_var 1) et_int) et_int) et_int (nomark _)))))))) (fun _ _ _ _ _ => (et_var 1))) (et_lst at_nil) (nomark _))
    (ss_one (st_ret et_bl))
    ss_nil)
    (ss_cons (st_if (tt_cmp (ot_ne hr.units) (et_lc (own := [("_law_at", 2)]) rfl nd (blkOk_by (own := [("_law_at", 2)]) (N := N__law_is_throw) (sc := defScope s__law_is_throw) (by decide +kernel)) (it_range1 (et_bin ot_sub (et_callB ct_len (at_cons (et_var 0) at_nil) T.len) et_int) T.range) (fun _ _ _ _ _ => (gt_name (i := 2) nd)) (fun _ _ _ _ _ => (pt_one (tt_not (tt_val (et_callD d__law_is_less hr hg (at_cons (et_ix (xt_ixA (room65 hr)) (et_ix (xt_ixA (room65 hr)) (et_var 0) (et_var 2)) et_int) (at_cons (et_ix (xt_ixA (room65 hr)) (et_ix (xt_ixA (room65 hr)) (et_var 0) (et_bin ot_add (et_var 2) et_int)) et_int) at_nil))))))) (fun _ _ _ _ _ => (et_var 2))) (et_lst at_nil) (nomark _))
    (ss_one (st_ret et_bl))
    ss_nil)
    (ss_one (st_ret (et_cmp (ot_eq hr.units) (et_callD d__law_total hr hg (at_cons (et_lc (own := [("_law_value", 3), ("_law_chance", 4)]) rfl nd (blkOk_by (own := [("_law_value", 3), ("_law_chance", 4)]) (N := N__law_is_throw) (sc := defScope s__law_is_throw) (by decide +kernel)) (it_seq (et_var 0)) (fun _ _ _ _ _ => (gt_tup rfl (gs_cons (gt_name (i := 3) nd) (gs_cons (gt_name (i := 4) nd) gs_nil)))) (fun _ _ _ _ _ => pt_nil) (fun _ _ _ _ _ => (et_var 4))) at_nil)) (et_tup (at_cons et_int (at_cons et_int at_nil))) (nomark _)))))))
theorem ok__law_mean_of (T : Txt mg) (L : Place K mg "_law_mean_of" s__law_mean_of P__law_mean_of) (d__law_times : DefAt P w K mg base 3 "_law_times" P__law_times S__law_times) (d__law_total : DefAt P w K mg base 4 "_law_total" P__law_total F__law_total) : DefAt P w K mg base 5 "_law_mean_of" P__law_mean_of F__law_mean_of :=
  DefAt.of L sc__law_mean_of fun f cdv A outer s H hr hg => by
  have nd := sc__law_mean_of.nd
  exact (ss_one (st_ret (et_callD d__law_total hr hg (at_cons (et_lc (own := [("_law_value", 1), ("_law_chance", 2)]) rfl nd (blkOk_by (own := [("_law_value", 1), ("_law_chance", 2)]) (N := N__law_mean_of) (sc := defScope s__law_mean_of) (by decide +kernel)) (it_seq (et_var 0)) (fun _ _ _ _ _ => (gt_tup rfl (gs_cons (gt_name (i := 1) nd) (gs_cons (gt_name (i := 2) nd) gs_nil)))) (fun _ _ _ _ _ => pt_nil) (fun _ _ _ _ _ => (et_callD d__law_times hr hg (at_cons (et_var 1) (at_cons (et_var 2) at_nil))))) at_nil))))
theorem ok__law_law_of (T : Txt mg) (L : Place K mg "_law_law_of" s__law_law_of P__law_law_of) (d__law_added : DefAt P w K mg base 3 "_law_added" P__law_added S__law_added) (d__law_sorted : DefAt P w K mg base 2 "_law_sorted" P__law_sorted F__law_sorted) : DefAt P w K mg base 4 "_law_law_of" P__law_law_of F__law_law_of :=
  DefAt.of L sc__law_law_of fun f cdv A outer s H hr hg => by
  have nd := sc__law_law_of.nd
  exact (ss_cons (st_set (i := 1) nd et_dictN)
    (ss_cons (st_for PassesOwn.never rfl (it_seq (et_var 0)) (gt_tup rfl (gs_cons (gt_name (i := 2) nd) (gs_cons (gt_name (i := 3) nd) gs_nil)))
    (ss_one (st_asg (et_callD d__law_added hr hg (at_cons (et_methX PySem.F.plainAttrs_dict PySem.F.slot_dict_get PySem.F.type_dict_get (mm_getOr (room65 hr)) (et_var 1) (at_cons (et_var 2) (at_cons (et_tup (at_cons et_int (at_cons et_int at_nil))) at_nil))) (at_cons (et_var 3) at_nil))) (gt_subA (room65 hr) (et_var 1) (et_var 2)))))
    (ss_one (st_ret (et_callTy ct_tuple (at_cons (et_lc (own := [("_law_value", 2)]) rfl nd (blkOk_by (own := [("_law_value", 2)]) (N := N__law_law_of) (sc := defScope s__law_law_of) (by decide +kernel)) (it_seq (et_callD d__law_sorted hr hg (at_cons (et_callTy (ct_listD rfl) (at_cons (et_var 1) at_nil) T.list) at_nil))) (fun _ _ _ _ _ => (gt_name (i := 2) nd)) (fun _ _ _ _ _ => pt_nil) (fun _ _ _ _ _ => (et_tup (at_cons (et_var 2) (at_cons (et_ix (xt_ixA (room65 hr)) (et_var 1) (et_var 2)) at_nil))))) at_nil) T.tuple)))))
theorem ok__law_floor (T : Txt mg) (L : Place K mg "_law_floor" s__law_floor P__law_floor) : DefAt P w K mg base 1 "_law_floor" P__law_floor F__law_floor :=
  DefAt.of L sc__law_floor fun f cdv A outer s H hr hg => by
  have nd := sc__law_floor.nd
  exact (ss_one (st_ret (et_bin ot_fdiv (et_bin ot_mul (et_ix (xt_ixA (room65 hr)) (et_var 0) et_int) (et_ix (xt_ixA (room65 hr)) (et_var 1) et_int)) (et_bin ot_mul (et_ix (xt_ixA (room65 hr)) (et_var 0) et_int) (et_ix (xt_ixA (room65 hr)) (et_var 1) et_int)))))
theorem ok__law_neighbours (T : Txt mg) (L : Place K mg "_law_neighbours" s__law_neighbours P__law_neighbours) (d__law_floor : DefAt P w K mg base 1 "_law_floor" P__law_floor F__law_floor) (d__law_times : DefAt P w K mg base 3 "_law_times" P__law_times S__law_times) : DefAt P w K mg base 4 "_law_neighbours" P__law_neighbours F__law_neighbours :=
  DefAt.of L sc__law_neighbours fun f cdv A outer s H hr hg => by
  have nd := sc__law_neighbours.nd
  exact (ss_cons (st_set (i := 2) nd (et_callD d__law_floor hr hg (at_cons (et_var 0) (at_cons (et_var 1) at_nil))))
    (ss_cons (st_par (i := 2) (j := 3) rfl nd (at_cons (et_callD d__law_times hr hg (at_cons (et_tup (at_cons (et_var 2) (at_cons et_int at_nil))) (at_cons (et_var 1) at_nil))) (at_cons (et_callD d__law_times hr hg (at_cons (et_tup (at_cons (et_bin ot_add (et_var 2) et_int) (at_cons et_int at_nil))) (at_cons (et_var 1) at_nil))) at_nil)))
    (ss_one (st_ret (et_tup (at_cons (et_var 2) (at_cons (et_if (tt_cmp (ot_eq hr.units) (et_var 2) (et_var 0) (nomark _)) (et_var 2) (et_var 3)) at_nil)))))))
theorem ok__law_neighbour_throw (T : Txt mg) (L : Place K mg "_law_neighbour_throw" s__law_neighbour_throw P__law_neighbour_throw) (d__law_neighbours : DefAt P w K mg base 4 "_law_neighbours" P__law_neighbours F__law_neighbours) (d__law_two_throw : DefAt P w K mg base 4 "_law_two_throw" P__law_two_throw F__law_two_throw) : DefAt P w K mg base 5 "_law_neighbour_throw" P__law_neighbour_throw F__law_neighbour_throw :=
  DefAt.of L sc__law_neighbour_throw fun f cdv A outer s H hr hg => by
  have nd := sc__law_neighbour_throw.nd
  exact (ss_cons (st_asg (et_callD d__law_neighbours hr hg (at_cons (et_var 0) (at_cons (et_var 1) at_nil))) (gt_tup rfl (gs_cons (gt_name (i := 2) nd) (gs_cons (gt_name (i := 3) nd) gs_nil))))
    (ss_one (st_ret (et_if (tt_cmp (ot_ne hr.units) (et_var 2) (et_var 3) (nomark _)) (et_callD d__law_two_throw hr hg (at_cons (et_var 2) (at_cons (et_var 0) (at_cons (et_var 3) at_nil)))) (et_tup (at_cons (et_tup (at_cons (et_var 0) (at_cons (et_tup (at_cons et_int (at_cons et_int at_nil))) at_nil))) at_nil))))))
theorem ok__law_grain (T : Txt mg) (L : Place K mg "_law_grain" s__law_grain P__law_grain) (d__law_some : DefAt P w K mg base 2 "_law_some" P__law_some F__law_some) : DefAt P w K mg base 3 "_law_grain" P__law_grain F__law_grain :=
  DefAt.of L sc__law_grain fun f cdv A outer s H hr hg => by
  have nd := sc__law_grain.nd
  exact (ss_one (st_ret (et_callD d__law_some hr hg (by (refine at_cons ?_ ?_); (exact (et_var 0)); (refine at_cons ?_ ?_); (refine et_lst ?_); (refine at_cons ?_ ?_); (refine et_tup ?_); (refine at_cons ?_ ?_); (exact et_int); (refine at_cons ?_ ?_); (exact et_int); (exact at_nil); (refine at_cons ?_ ?_); (refine et_tup ?_); (refine at_cons ?_ ?_); (exact et_int); (refine at_cons ?_ ?_); (exact et_int); (exact at_nil); (refine at_cons ?_ ?_); (refine et_tup ?_); (refine at_cons ?_ ?_); (exact et_int); (refine at_cons ?_ ?_); (exact et_int); (exact at_nil); (refine at_cons ?_ ?_); (refine et_tup ?_); (refine at_cons ?_ ?_); (exact et_int); (refine at_cons ?_ ?_); (exact et_int); (exact at_nil); (refine at_cons ?_ ?_); (refine et_tup ?_); (refine at_cons ?_ ?_); (exact et_int); (refine at_cons ?_ ?_); (exact et_int); (exact at_nil); (refine at_cons ?_ ?_); (refine et_tup ?_); (refine at_cons ?_ ?_); (exact et_int); (refine at_cons ?_ ?_); (exact et_int); (exact at_nil); (refine at_cons ?_ ?_); (refine et_tup ?_); (refine at_cons ?_ ?_); (exact et_int); (refine at_cons ?_ ?_); (exact et_int); (exact at_nil); (exact at_nil); (exact at_nil)))))
theorem ok__law_number (T : Txt mg) (L : Place K mg "_law_number" s__law_number P__law_number) (d__law_some : DefAt P w K mg base 2 "_law_some" P__law_some F__law_some) (d__law_times : DefAt P w K mg base 3 "_law_times" P__law_times S__law_times) (d__law_fraction : DefAt P w K mg base 3 "_law_fraction" P__law_fraction S__law_fraction) (d__law_added : DefAt P w K mg base 3 "_law_added" P__law_added S__law_added) : DefAt P w K mg base 4 "_law_number" P__law_number F__law_number :=
  DefAt.of L sc__law_number fun f cdv A outer s H hr hg => by
  have nd := sc__law_number.nd
  exact (ss_cons (st_set (i := 2) nd (et_callD d__law_times hr hg (by (refine at_cons ?_ ?_); (refine et_tup ?_); (refine at_cons ?_ ?_); (exact (et_callD d__law_some hr hg (by (refine at_cons ?_ ?_); (exact (et_var 0)); (refine at_cons ?_ ?_); (refine et_lst ?_); (refine at_cons ?_ ?_); (exact et_int); (refine at_cons ?_ ?_); (exact et_int); (refine at_cons ?_ ?_); (exact (et_un ut_neg et_int)); (refine at_cons ?_ ?_); (exact et_int); (refine at_cons ?_ ?_); (exact et_int); (refine at_cons ?_ ?_); (exact (et_un ut_neg et_int)); (refine at_cons ?_ ?_); (exact (et_bin ot_pow et_int et_int)); (exact at_nil); (exact at_nil)))); (refine at_cons ?_ ?_); (exact et_int); (exact at_nil); (refine at_cons ?_ ?_); (exact (et_var 1)); (exact at_nil))))
    (ss_one (st_ret (et_callD d__law_added hr hg (by (refine at_cons ?_ ?_); (exact (et_var 2)); (refine at_cons ?_ ?_); (exact (et_callD d__law_some hr hg (by (refine at_cons ?_ ?_); (exact (et_var 0)); (refine at_cons ?_ ?_); (refine et_lst ?_); (refine at_cons ?_ ?_); (refine et_tup ?_); (refine at_cons ?_ ?_); (exact et_int); (refine at_cons ?_ ?_); (exact et_int); (exact at_nil); (refine at_cons ?_ ?_); (refine et_tup ?_); (refine at_cons ?_ ?_); (exact et_int); (refine at_cons ?_ ?_); (exact et_int); (exact at_nil); (refine at_cons ?_ ?_); (refine et_tup ?_); (refine at_cons ?_ ?_); (exact (et_un ut_neg et_int)); (refine at_cons ?_ ?_); (exact et_int); (exact at_nil); (refine at_cons ?_ ?_); (refine et_tup ?_); (refine at_cons ?_ ?_); (exact et_int); (refine at_cons ?_ ?_); (exact et_int); (exact at_nil); (refine at_cons ?_ ?_); (exact (et_callD d__law_fraction hr hg (at_cons (et_var 0) at_nil))); (refine at_cons ?_ ?_); (refine et_tup ?_); (refine at_cons ?_ ?_); (exact et_int); (refine at_cons ?_ ?_); (exact et_int); (exact at_nil); (exact at_nil); (exact at_nil)))); (exact at_nil))))))
theorem ok__law_again (T : Txt mg) (L : Place K mg "_law_again" s__law_again P__law_again) (d__law_neighbour_throw : DefAt P w K mg base 5 "_law_neighbour_throw" P__law_neighbour_throw F__law_neighbour_throw) (d__law_times : DefAt P w K mg base 3 "_law_times" P__law_times S__law_times) (d__law_law_of : DefAt P w K mg base 4 "_law_law_of" P__law_law_of F__law_law_of) : DefAt P w K mg base 6 "_law_again" P__law_again F__law_again :=
  DefAt.of L sc__law_again fun f cdv A outer s H hr hg => by
  have nd := sc__law_again.nd
  exact (ss_cons (st_set (i := 2) nd (et_lst (at_cons (et_tup (at_cons (et_var 0) (at_cons (et_tup (at_cons et_int (at_cons et_int at_nil))) at_nil))) at_nil)))
    (ss_cons (st_for PassesOwn.never rfl (it_seq (et_var 1)) (gt_name (i := 3) nd)
    (ss_cons (st_set (i := 4) nd (et_lst at_nil))
    (ss_cons (st_for PassesOwn.never rfl (it_seq (et_var 2)) (gt_tup rfl (gs_cons (gt_name (i := 5) nd) (gs_cons (gt_name (i := 6) nd) gs_nil)))
    (ss_one (st_expr (et_meth PySem.F.plainAttrs_list PySem.F.slot_list_extend PySem.F.type_list_extend mm_extend (et_var 4) (at_cons (et_lc (own := [("_law_one", 7), ("_law_more", 8)]) rfl nd (blkOk_by (own := [("_law_one", 7), ("_law_more", 8)]) (N := N__law_again) (sc := defScope s__law_again) (by decide +kernel)) (it_seq (et_callD d__law_neighbour_throw hr hg (at_cons (et_var 5) (at_cons (et_var 3) at_nil)))) (fun _ _ _ _ _ => (gt_tup rfl (gs_cons (gt_name (i := 7) nd) (gs_cons (gt_name (i := 8) nd) gs_nil)))) (fun _ _ _ _ _ => pt_nil) (fun _ _ _ _ _ => (et_tup (at_cons (et_var 7) (at_cons (et_callD d__law_times hr hg (at_cons (et_var 6) (at_cons (et_var 8) at_nil))) at_nil))))) at_nil)))))
    (ss_one (st_set (i := 2) nd (et_callTy (ct_listD rfl) (at_cons (et_callD d__law_law_of hr hg (at_cons (et_var 4) at_nil)) at_nil) T.list))))))
    (ss_one (st_ret (et_callTy ct_tuple (at_cons (et_var 2) at_nil) T.tuple)))))
theorem ok__law_is_multiple (T : Txt mg) (L : Place K mg "_law_is_multiple" s__law_is_multiple P__law_is_multiple) (d__law_floor : DefAt P w K mg base 1 "_law_floor" P__law_floor F__law_floor) (d__law_times : DefAt P w K mg base 3 "_law_times" P__law_times S__law_times) : DefAt P w K mg base 4 "_law_is_multiple" P__law_is_multiple F__law_is_multiple :=
  DefAt.of L sc__law_is_multiple fun f cdv A outer s H hr hg => by
  have nd := sc__law_is_multiple.nd
  exact (ss_one (st_ret (et_cmp (ot_eq hr.units) (et_callD d__law_times hr hg (at_cons (et_tup (at_cons (et_callD d__law_floor hr hg (at_cons (et_var 0) (at_cons (et_var 1) at_nil))) (at_cons et_int at_nil))) (at_cons (et_var 1) at_nil))) (et_var 0) (nomark _))))
theorem ok__law_grains (T : Txt mg) (L : Place K mg "_law_grains" s__law_grains P__law_grains) (d__law_grain : DefAt P w K mg base 3 "_law_grain" P__law_grain F__law_grain) (d__law_take : DefAt P w K mg base 1 "_law_take" P__law_take S__law_take) (d__law_some : DefAt P w K mg base 2 "_law_some" P__law_some F__law_some) (d__law_over : DefAt P w K mg base 2 "_law_over" P__law_over S__law_over) : DefAt P w K mg base 4 "_law_grains" P__law_grains F__law_grains :=
  DefAt.of L sc__law_grains fun f cdv A outer s H hr hg => by
  have nd := sc__law_grains.nd
  exact (ss_cons (st_set (i := 1) nd (et_callD d__law_grain hr hg (at_cons (et_var 0) at_nil)))
    (ss_cons (st_set (i := 2) nd (et_lst at_nil))
    (ss_cons (st_for PassesOwn.never rfl (it_range1 (et_callD d__law_take hr hg (at_cons (et_var 0) (at_cons et_int at_nil))) T.range) (gt_name (i := 3) nd)
    (ss_cons (st_set (i := 4) nd (et_callD d__law_over hr hg (at_cons (et_ix (xt_ixA (room65 hr)) (et_var 1) et_int) (at_cons (et_bin ot_mul (et_ix (xt_ixA (room65 hr)) (et_var 1) et_int) (et_callD d__law_some hr hg (at_cons (et_var 0) (at_cons (et_lst (at_cons et_int (at_cons et_int (at_cons et_int (at_cons et_int at_nil))))) at_nil)))) at_nil))))
    (ss_one (st_expr (et_meth PySem.F.plainAttrs_list PySem.F.slot_list_append PySem.F.type_list_append mm_append (et_var 2) (at_cons (et_if (tt_cmp ot_gt (et_callD d__law_take hr hg (at_cons (et_var 0) (at_cons et_int at_nil))) et_int (nomark _)) (et_var 4) (et_callD d__law_grain hr hg (at_cons (et_var 0) at_nil))) at_nil))))))
    (ss_one (st_ret (et_bin ot_add (et_callTy ct_tuple (at_cons (et_var 2) at_nil) T.tuple) (et_tup (at_cons (et_var 1) at_nil))))))))
theorem ok__law_is_again_right (T : Txt mg) (L : Place K mg "_law_is_again_right" s__law_is_again_right P__law_is_again_right) (d__law_grains : DefAt P w K mg base 4 "_law_grains" P__law_grains F__law_grains) (d__law_is_multiple : DefAt P w K mg base 4 "_law_is_multiple" P__law_is_multiple F__law_is_multiple) (d_once_parting : DefAt P w K mg base 4 "once_parting" P_once_parting F_once_parting) (d_is_once : DefAt P w K mg base 3 "is_once" P_is_once F_is_once) (d__law_alike : DefAt P w K mg base 1 "_law_alike" P__law_alike F__law_alike) (d__law_is_frac : DefAt P w K mg base 2 "_law_is_frac" P__law_is_frac F__law_is_frac) (d__law_again : DefAt P w K mg base 6 "_law_again" P__law_again F__law_again) (d__law_neighbour_throw : DefAt P w K mg base 5 "_law_neighbour_throw" P__law_neighbour_throw F__law_neighbour_throw) (d__law_some : DefAt P w K mg base 2 "_law_some" P__law_some F__law_some) (d__law_number : DefAt P w K mg base 4 "_law_number" P__law_number F__law_number) (d_again_throw : DefAt P w K mg base 6 "again_throw" P_again_throw F_again_throw) : DefAt P w K mg base 7 "_law_is_again_right" P__law_is_again_right F__law_is_again_right :=
  DefAt.of L sc__law_is_again_right fun f cdv A outer s H hr hg => by
  have nd := sc__law_is_again_right.nd
  exact (ss_cons (st_set (i := 1) nd (et_callD d__law_grains hr hg (at_cons (et_var 0) at_nil)))
    (ss_cons (st_set (i := 2) nd (et_cmp (ot_eq hr.units) (et_lc (own := [("_law_grain_here", 7)]) rfl nd (blkOk_by (own := [("_law_grain_here", 7)]) (N := N__law_is_again_right) (sc := defScope s__law_is_again_right) (by decide +kernel)) (it_seq (et_var 1)) (fun _ _ _ _ _ => (gt_name (i := 7) nd)) (fun _ _ _ _ _ => (pt_one (tt_not (tt_val (et_callD d__law_is_multiple hr hg (at_cons (et_ix (xt_ixA (room65 hr)) (et_var 1) (et_un ut_neg et_int)) (at_cons (et_var 7) at_nil))))))) (fun _ _ _ _ _ => (et_var 7))) (et_lst at_nil) (nomark _)))
    (ss_cons (st_set (i := 3) nd (et_callD d_once_parting hr hg (at_cons (et_var 1) at_nil)))
    (ss_cons (st_if (tt_w (tw_or (tt_not (tt_val (et_callD d__law_alike hr hg (at_cons (et_callD d_is_once hr hg (at_cons (et_var 1) at_nil)) (at_cons (et_var 2) at_nil))))) (tw_or1 (tt_cmp (ot_ne hr.units) (et_cmp ot_is (et_var 3) et_non (nomark _)) (et_var 2) (nomark _)))))
    (ss_one (st_ret et_bl))
    ss_nil)
    (ss_cons (st_if (tt_w (tw_and (tt_not (tt_val (et_var 2))) (tw_and1 (tt_not (tt_val (et_callD d__law_is_frac hr hg (at_cons (et_var 3) at_nil)))))))
    (ss_one (st_ret et_bl))
    ss_nil)
    (ss_cons (st_if (tt_w (tw_and (tt_not (tt_val (et_var 2))) (tw_and1 (tt_cmp (ot_eq hr.units) (et_callD d__law_again hr hg (at_cons (et_var 3) (at_cons (et_var 1) at_nil))) (et_callD d__law_neighbour_throw hr hg (at_cons (et_var 3) (at_cons (et_ix (xt_ixA (room65 hr)) (et_var 1) (et_un ut_neg et_int)) at_nil))) (nomark _)))))
    (ss_one (st_ret et_bl))
    ss_nil)
    (ss_cons (st_if (tt_not (tt_val (et_callD d__law_alike hr hg (at_cons (et_callD d_once_parting hr hg (at_cons (et_var 1) at_nil)) (at_cons (et_var 3) at_nil)))))
    (ss_one (st_ret et_bl))
    ss_nil)
    (ss_cons (st_for PassesOwn.never rfl (it_range1 et_int T.range) (gt_name (i := 4) nd)
    (ss_cons (st_set (i := 5) nd (et_callD d__law_number hr hg (at_cons (et_var 0) (at_cons (et_callD d__law_some hr hg (at_cons (et_var 0) (at_cons (et_callTy (ct_listD rfl) (at_cons (et_var 1) at_nil) T.list) at_nil))) at_nil))))
    (ss_cons (st_set (i := 6) nd (et_callD d__law_again hr hg (at_cons (et_var 5) (at_cons (et_var 1) at_nil))))
    (ss_cons (st_if (tt_not (tt_val (et_callD d__law_alike hr hg (at_cons (et_callD d_again_throw hr hg (at_cons (et_var 5) (at_cons (et_var 1) at_nil))) (at_cons (et_var 6) at_nil)))))
    (ss_one (st_ret et_bl))
    ss_nil)
    (ss_one (st_if (tt_w (tw_and (tt_val (et_var 2)) (tw_and1 (tt_cmp (ot_ne hr.units) (et_var 6) (et_callD d__law_neighbour_throw hr hg (at_cons (et_var 5) (at_cons (et_ix (xt_ixA (room65 hr)) (et_var 1) (et_un ut_neg et_int)) at_nil))) (nomark _)))))
    (ss_one (st_ret et_bl))
    ss_nil))))))
    (ss_one (st_ret et_bl))))))))))
theorem ok_law (T : Txt mg) (L : Place K mg "law" s_law P_law) (d__law_bag : DefAt P w K mg base 1 "_law_bag" P__law_bag F__law_bag) (d__law_grain : DefAt P w K mg base 3 "_law_grain" P__law_grain F__law_grain) (d__law_number : DefAt P w K mg base 4 "_law_number" P__law_number F__law_number) (d__law_some : DefAt P w K mg base 2 "_law_some" P__law_some F__law_some) (d__law_neighbour_throw : DefAt P w K mg base 5 "_law_neighbour_throw" P__law_neighbour_throw F__law_neighbour_throw) (d__law_neighbours : DefAt P w K mg base 4 "_law_neighbours" P__law_neighbours F__law_neighbours) (d_neighbour_throw : DefAt P w K mg base 4 "neighbour_throw" P_neighbour_throw F_neighbour_throw) (d_neighbours_of : DefAt P w K mg base 3 "neighbours_of" P_neighbours_of F_neighbours_of) (d__law_alike : DefAt P w K mg base 1 "_law_alike" P__law_alike F__law_alike) (d__law_mean_of : DefAt P w K mg base 5 "_law_mean_of" P__law_mean_of F__law_mean_of) (d__law_is_throw : DefAt P w K mg base 5 "_law_is_throw" P__law_is_throw F__law_is_throw) (d__law_is_again_right : DefAt P w K mg base 7 "_law_is_again_right" P__law_is_again_right F__law_is_again_right) : DefAt P w K mg base 8 "law" P_law F_law :=
  DefAt.of L sc_law fun f cdv A outer s H hr hg => by
  have nd := sc_law.nd
  exact (ss_cons (st_set (i := 1) nd (et_callD d__law_bag hr hg (at_cons (et_var 0) at_nil)))
    (ss_cons (st_for PassesOwn.never rfl (it_range1 et_int T.range) (gt_name (i := 2) nd)
    (ss_cons (st_set (i := 3) nd (et_callD d__law_grain hr hg (at_cons (et_var 1) at_nil)))
    (ss_cons (st_set (i := 4) nd (et_callD d__law_number hr hg (at_cons (et_var 1) (at_cons (et_var 3) at_nil))))
    (ss_cons (st_if (tt_cmp (ot_eq hr.units) (et_var 2) et_int (nomark _))
    (ss_cons (st_set (i := 3) nd (et_callD d__law_some hr hg (by (refine at_cons ?_ ?_); (exact (et_var 1)); (refine at_cons ?_ ?_); (refine et_lst ?_); (refine at_cons ?_ ?_); (refine et_tup ?_); (refine at_cons ?_ ?_); (exact (et_bin ot_pow et_int et_int)); (refine at_cons ?_ ?_); (exact et_int); (exact at_nil); (refine at_cons ?_ ?_); (refine et_tup ?_); (refine at_cons ?_ ?_); (exact et_int); (refine at_cons ?_ ?_); (exact (et_bin ot_pow et_int et_int)); (exact at_nil); (refine at_cons ?_ ?_); (refine et_tup ?_); (refine at_cons ?_ ?_); (exact et_int); (refine at_cons ?_ ?_); (exact et_int); (exact at_nil); (refine at_cons ?_ ?_); (refine et_tup ?_); (refine at_cons ?_ ?_); (exact et_int); (refine at_cons ?_ ?_); (exact et_int); (exact at_nil); (exact at_nil); (exact at_nil))))
    (ss_one (st_set (i := 4) nd (et_callD d__law_some hr hg (by (refine at_cons ?_ ?_); (exact (et_var 1)); (refine at_cons ?_ ?_); (refine et_lst ?_); (refine at_cons ?_ ?_); (refine et_tup ?_); (refine at_cons ?_ ?_); (exact et_int); (refine at_cons ?_ ?_); (exact et_int); (exact at_nil); (refine at_cons ?_ ?_); (refine et_tup ?_); (refine at_cons ?_ ?_); (exact (et_un ut_neg et_int)); (refine at_cons ?_ ?_); (exact et_int); (exact at_nil); (refine at_cons ?_ ?_); (refine et_tup ?_); (refine at_cons ?_ ?_); (exact et_int); (refine at_cons ?_ ?_); (exact et_int); (exact at_nil); (refine at_cons ?_ ?_); (refine et_tup ?_); (refine at_cons ?_ ?_); (exact (et_un ut_neg et_int)); (refine at_cons ?_ ?_); (exact et_int); (exact at_nil); (refine at_cons ?_ ?_); (refine et_tup ?_); (refine at_cons ?_ ?_); (exact (et_bin ot_add (et_bin ot_pow et_int et_int) et_int)); (refine at_cons ?_ ?_); (exact et_int); (exact at_nil); (exact at_nil); (exact at_nil))))))
    ss_nil)
    (ss_cons (st_set (i := 5) nd (et_lst (at_cons (et_callD d__law_neighbours hr hg (at_cons (et_var 4) (at_cons (et_var 3) at_nil))) (at_cons (et_callD d__law_neighbour_throw hr hg (at_cons (et_var 4) (at_cons (et_var 3) at_nil))) at_nil))))
    (ss_cons (st_if (tt_not (tt_val (et_callD d__law_alike hr hg (at_cons (et_lst (at_cons (et_callD d_neighbours_of hr hg (at_cons (et_var 4) (at_cons (et_var 3) at_nil))) (at_cons (et_callD d_neighbour_throw hr hg (at_cons (et_var 4) (at_cons (et_var 3) at_nil))) at_nil))) (at_cons (et_var 5) at_nil)))))
    (ss_one (st_ret et_bl))
    ss_nil)
    (ss_one (st_if (tt_w (tw_or (tt_cmp (ot_ne hr.units) (et_callD d__law_mean_of hr hg (at_cons (et_ix (xt_ixA (room65 hr)) (et_var 5) et_int) at_nil)) (et_var 4) (nomark _)) (tw_or (tt_not (tt_val (et_callD d__law_is_throw hr hg (at_cons (et_ix (xt_ixA (room65 hr)) (et_var 5) et_int) at_nil)))) (tw_or1 (tt_not (tt_val (et_callD d__law_is_again_right hr hg (at_cons (et_var 1) at_nil))))))))
    (ss_one (st_ret et_bl))
    ss_nil))))))))
    (ss_one (st_ret et_bl))))
end
end
end K29
/-! E29 -/
set_option Elab.async false
set_option linter.all false
set_option maxRecDepth 100000
set_option maxHeartbeats 4000000
namespace K29
open PySem PySem.Spec PyProof.Rows L2 TL LamX
def makers : List TL.Maker := []
instance tb : Tb := ⟨[], fun x => (([] : List (Str × Addr)).lookup x).getD 0⟩
def clsInit : Stmt → Stmt
  | .ClassDef (body := b :: _) .. => b
  | s => s
structure All (K : PySem.W.Frag) (mg : Str → Option Value) : Prop where
  T : Txt mg
  p_reduced : Place K mg "reduced" s_reduced P_reduced
  p_added : Place K mg "added" s_added P_added
  p_lessened : Place K mg "lessened" s_lessened P_lessened
  p_times : Place K mg "times" s_times P_times
  p_over : Place K mg "over" s_over P_over
  p_total_of : Place K mg "total_of" s_total_of P_total_of
  p_whole_below : Place K mg "whole_below" s_whole_below P_whole_below
  p_in_order : Place K mg "in_order" s_in_order P_in_order
  p_sure_throw : Place K mg "sure_throw" s_sure_throw P_sure_throw
  p_two_throw : Place K mg "two_throw" s_two_throw P_two_throw
  p_neighbours_of : Place K mg "neighbours_of" s_neighbours_of P_neighbours_of
  p_neighbour_throw : Place K mg "neighbour_throw" s_neighbour_throw P_neighbour_throw
  p_rounded_throw : Place K mg "rounded_throw" s_rounded_throw P_rounded_throw
  p_again_throw : Place K mg "again_throw" s_again_throw P_again_throw
  p_is_once : Place K mg "is_once" s_is_once P_is_once
  p_once_parting : Place K mg "once_parting" s_once_parting P_once_parting
  p__law_bag : Place K mg "_law_bag" s__law_bag P__law_bag
  p__law_take : Place K mg "_law_take" s__law_take P__law_take
  p__law_some : Place K mg "_law_some" s__law_some P__law_some
  p__law_alike : Place K mg "_law_alike" s__law_alike P__law_alike
  p__law_is_int : Place K mg "_law_is_int" s__law_is_int P__law_is_int
  p__law_divisor : Place K mg "_law_divisor" s__law_divisor P__law_divisor
  p__law_over : Place K mg "_law_over" s__law_over P__law_over
  p__law_added : Place K mg "_law_added" s__law_added P__law_added
  p__law_less : Place K mg "_law_less" s__law_less P__law_less
  p__law_times : Place K mg "_law_times" s__law_times P__law_times
  p__law_is_less : Place K mg "_law_is_less" s__law_is_less P__law_is_less
  p__law_total : Place K mg "_law_total" s__law_total P__law_total
  p__law_sorted : Place K mg "_law_sorted" s__law_sorted P__law_sorted
  p__law_fraction : Place K mg "_law_fraction" s__law_fraction P__law_fraction
  p__law_two_throw : Place K mg "_law_two_throw" s__law_two_throw P__law_two_throw
  p__law_is_frac : Place K mg "_law_is_frac" s__law_is_frac P__law_is_frac
  p__law_are_fracs : Place K mg "_law_are_fracs" s__law_are_fracs P__law_are_fracs
  p__law_is_throw : Place K mg "_law_is_throw" s__law_is_throw P__law_is_throw
  p__law_mean_of : Place K mg "_law_mean_of" s__law_mean_of P__law_mean_of
  p__law_law_of : Place K mg "_law_law_of" s__law_law_of P__law_law_of
  p__law_floor : Place K mg "_law_floor" s__law_floor P__law_floor
  p__law_neighbours : Place K mg "_law_neighbours" s__law_neighbours P__law_neighbours
  p__law_neighbour_throw : Place K mg "_law_neighbour_throw" s__law_neighbour_throw P__law_neighbour_throw
  p__law_grain : Place K mg "_law_grain" s__law_grain P__law_grain
  p__law_number : Place K mg "_law_number" s__law_number P__law_number
  p__law_again : Place K mg "_law_again" s__law_again P__law_again
  p__law_is_multiple : Place K mg "_law_is_multiple" s__law_is_multiple P__law_is_multiple
  p__law_grains : Place K mg "_law_grains" s__law_grains P__law_grains
  p__law_is_again_right : Place K mg "_law_is_again_right" s__law_is_again_right P__law_is_again_right
  p_law : Place K mg "law" s_law P_law
section
variable {P : Program} {w : World} {K : PySem.W.Frag} {mg : Str → Option Value} {base : Heap}
theorem law_at (A : All K mg) (hm : ∀ m ∈ makers, TabB base mg m.c m.P) : DefAt P w K mg base 8 "law" P_law F_law := by
  have d_reduced := (ok_reduced (P := P) (w := w) (K := K) (mg := mg) (base := base) A.T A.p_reduced).as cut_reduced
  have d_added := (ok_added (P := P) (w := w) (K := K) (mg := mg) (base := base) A.T A.p_added d_reduced).as cut_added
  have d_lessened := (ok_lessened (P := P) (w := w) (K := K) (mg := mg) (base := base) A.T A.p_lessened d_reduced).as cut_lessened
  have d_times := (ok_times (P := P) (w := w) (K := K) (mg := mg) (base := base) A.T A.p_times d_reduced).as cut_times
  have d_over := (ok_over (P := P) (w := w) (K := K) (mg := mg) (base := base) A.T A.p_over d_reduced).as cut_over
  have d_total_of := (ok_total_of (P := P) (w := w) (K := K) (mg := mg) (base := base) A.T A.p_total_of d_reduced).as cut_total_of
  have d_whole_below := ok_whole_below (P := P) (w := w) (K := K) (mg := mg) (base := base) A.T A.p_whole_below
  have d_in_order := ok_in_order (P := P) (w := w) (K := K) (mg := mg) (base := base) A.T A.p_in_order
  have d_sure_throw := ok_sure_throw (P := P) (w := w) (K := K) (mg := mg) (base := base) A.T A.p_sure_throw
  have d_two_throw := ok_two_throw (P := P) (w := w) (K := K) (mg := mg) (base := base) A.T A.p_two_throw d_sure_throw d_lessened d_over
  have d_neighbours_of := ok_neighbours_of (P := P) (w := w) (K := K) (mg := mg) (base := base) A.T A.p_neighbours_of d_over d_whole_below d_times d_added
  have d_neighbour_throw := ok_neighbour_throw (P := P) (w := w) (K := K) (mg := mg) (base := base) A.T A.p_neighbour_throw d_neighbours_of d_two_throw
  have d_rounded_throw := ok_rounded_throw (P := P) (w := w) (K := K) (mg := mg) (base := base) A.T A.p_rounded_throw d_neighbour_throw d_times d_in_order d_total_of
  have d_again_throw := ok_again_throw (P := P) (w := w) (K := K) (mg := mg) (base := base) A.T A.p_again_throw d_sure_throw d_rounded_throw
  have d_is_once := ok_is_once (P := P) (w := w) (K := K) (mg := mg) (base := base) A.T A.p_is_once d_over
  have d_once_parting := ok_once_parting (P := P) (w := w) (K := K) (mg := mg) (base := base) A.T A.p_once_parting d_is_once
  have d__law_bag := ok__law_bag (P := P) (w := w) (K := K) (mg := mg) (base := base) A.T A.p__law_bag
  have d__law_take := (ok__law_take (P := P) (w := w) (K := K) (mg := mg) (base := base) A.T A.p__law_take).as cut__law_take
  have d__law_some := ok__law_some (P := P) (w := w) (K := K) (mg := mg) (base := base) A.T A.p__law_some d__law_take
  have d__law_alike := ok__law_alike (P := P) (w := w) (K := K) (mg := mg) (base := base) A.T A.p__law_alike
  have d__law_is_int := ok__law_is_int (P := P) (w := w) (K := K) (mg := mg) (base := base) A.T A.p__law_is_int
  have d__law_divisor := ok__law_divisor (P := P) (w := w) (K := K) (mg := mg) (base := base) A.T A.p__law_divisor
  have d__law_over := (ok__law_over (P := P) (w := w) (K := K) (mg := mg) (base := base) A.T A.p__law_over d__law_divisor).as cut__law_over
  have d__law_added := (ok__law_added (P := P) (w := w) (K := K) (mg := mg) (base := base) A.T A.p__law_added d__law_over).as cut__law_added
  have d__law_less := (ok__law_less (P := P) (w := w) (K := K) (mg := mg) (base := base) A.T A.p__law_less d__law_over).as cut__law_less
  have d__law_times := (ok__law_times (P := P) (w := w) (K := K) (mg := mg) (base := base) A.T A.p__law_times d__law_over).as cut__law_times
  have d__law_is_less := (ok__law_is_less (P := P) (w := w) (K := K) (mg := mg) (base := base) A.T A.p__law_is_less).as cut__law_is_less
  have d__law_total := ok__law_total (P := P) (w := w) (K := K) (mg := mg) (base := base) A.T A.p__law_total d__law_added
  have d__law_sorted := ok__law_sorted (P := P) (w := w) (K := K) (mg := mg) (base := base) A.T A.p__law_sorted d__law_is_less
  have d__law_fraction := (ok__law_fraction (P := P) (w := w) (K := K) (mg := mg) (base := base) A.T A.p__law_fraction d__law_some d__law_over).as cut__law_fraction
  have d__law_two_throw := ok__law_two_throw (P := P) (w := w) (K := K) (mg := mg) (base := base) A.T A.p__law_two_throw d__law_less d__law_over
  have d__law_is_frac := ok__law_is_frac (P := P) (w := w) (K := K) (mg := mg) (base := base) A.T A.p__law_is_frac d__law_is_int d__law_divisor
  have d__law_are_fracs := ok__law_are_fracs (P := P) (w := w) (K := K) (mg := mg) (base := base) A.T A.p__law_are_fracs d__law_is_frac
  have d__law_is_throw := ok__law_is_throw (P := P) (w := w) (K := K) (mg := mg) (base := base) A.T A.p__law_is_throw d__law_are_fracs d__law_is_less d__law_total
  have d__law_mean_of := ok__law_mean_of (P := P) (w := w) (K := K) (mg := mg) (base := base) A.T A.p__law_mean_of d__law_times d__law_total
  have d__law_law_of := ok__law_law_of (P := P) (w := w) (K := K) (mg := mg) (base := base) A.T A.p__law_law_of d__law_added d__law_sorted
  have d__law_floor := ok__law_floor (P := P) (w := w) (K := K) (mg := mg) (base := base) A.T A.p__law_floor
  have d__law_neighbours := ok__law_neighbours (P := P) (w := w) (K := K) (mg := mg) (base := base) A.T A.p__law_neighbours d__law_floor d__law_times
  have d__law_neighbour_throw := ok__law_neighbour_throw (P := P) (w := w) (K := K) (mg := mg) (base := base) A.T A.p__law_neighbour_throw d__law_neighbours d__law_two_throw
  have d__law_grain := ok__law_grain (P := P) (w := w) (K := K) (mg := mg) (base := base) A.T A.p__law_grain d__law_some
  have d__law_number := ok__law_number (P := P) (w := w) (K := K) (mg := mg) (base := base) A.T A.p__law_number d__law_some d__law_times d__law_fraction d__law_added
  have d__law_again := ok__law_again (P := P) (w := w) (K := K) (mg := mg) (base := base) A.T A.p__law_again d__law_neighbour_throw d__law_times d__law_law_of
  have d__law_is_multiple := ok__law_is_multiple (P := P) (w := w) (K := K) (mg := mg) (base := base) A.T A.p__law_is_multiple d__law_floor d__law_times
  have d__law_grains := ok__law_grains (P := P) (w := w) (K := K) (mg := mg) (base := base) A.T A.p__law_grains d__law_grain d__law_take d__law_some d__law_over
  have d__law_is_again_right := ok__law_is_again_right (P := P) (w := w) (K := K) (mg := mg) (base := base) A.T A.p__law_is_again_right d__law_grains d__law_is_multiple d_once_parting d_is_once d__law_alike d__law_is_frac d__law_again d__law_neighbour_throw d__law_some d__law_number d_again_throw
  have d_law := ok_law (P := P) (w := w) (K := K) (mg := mg) (base := base) A.T A.p_law d__law_bag d__law_grain d__law_number d__law_some d__law_neighbour_throw d__law_neighbours d_neighbour_throw d_neighbours_of d__law_alike d__law_mean_of d__law_is_throw d__law_is_again_right
  exact d_law
theorem ends {l : PySem.W.OpenLaw} {w : World} {K : PySem.W.Frag} {mg : Str → Option Value} {fa : Addr} (hfa : mg "law" = some (.ref fa)) (A : All K mg) (base : Heap) (hm : ∀ m ∈ makers, TabB base mg m.c m.P) : ∃ fd, L2.Binds K fd ["_law_script"] [] ∧ FnT l.prog w K mg base 8 fa fd ["_law_script"] F_law := (law_at A hm).fn hfa
theorem fin {l : PySem.W.OpenLaw} {w : World} {K : PySem.W.Frag} {mg : Str → Option Value} {fa : Addr} (hfa : mg "law" = some (.ref fa)) (A : All K mg) : ∀ base : Heap, K.In base → base.Ns mainGlobals mg → (∀ m ∈ makers, TabB base mg m.c m.P) → ∃ fd, L2.Binds K fd ["_law_script"] [] ∧ FnT l.prog w K mg base 8 fa fd ["_law_script"] F_law := fun base _ _ hm => ends hfa A base hm
end
end K29
/-! END29 -/
set_option Elab.async false
set_option linter.all false
set_option maxRecDepth 100000
open PySem PySem.W PyProof.Rows
set_option maxHeartbeats 0 in
theorem PySem.Challenge.cw_chancegrain_k29_neighbours_of_numbers_holds : PySem.Challenge.rw_chancegrain_k29_neighbours_of_numbers.Holds := by
  w_on; o_law; k_head; (case hw => w_witness2)
  k_fill
  refine TL.walkT (l := PySem.Challenge.rw_chancegrain_k29_neighbours_of_numbers) (n := 63) (k := 8) (x := "_law_script") (Fl := K29.F_law) (ms := K29.makers) rfl (by decide) rfl ⟨rfl, by decide, by decide⟩ (fun w h Y => by first | exact PySem.W.km_in_of Y | exact PySem.W.kIn_of Y) ?M1 ?B1 ?F1 K29.math
  case M1 =>
    intro w h Y
    exact ⟨fun m hm => absurd hm List.not_mem_nil, fun m hm => absurd hm List.not_mem_nil, fun m hm => absurd hm List.not_mem_nil⟩
  case B1 => decide +kernel
  case F1 =>
    intro w mg fa h KX G hmg
    refine K29.fin hmg ?A2
    case A2 =>
      constructor
      · constructor
        · exact PySem.W.mg_none_of KX G (by k_is)
        · exact PySem.W.mg_none_of KX G (by k_is)
        · exact PySem.W.mg_none_of KX G (by k_is)
        · exact PySem.W.mg_of KX G (by k_is)
        · exact PySem.W.mg_none_of KX G (by k_is)
        · exact PySem.W.mg_none_of KX G (by k_is)
        · exact PySem.W.mg_of KX G (by k_is)
        · exact PySem.W.mg_none_of KX G (by k_is)
        · exact PySem.W.mg_none_of KX G (by k_is)
        · exact PySem.W.mg_none_of KX G (by k_is)
        · exact PySem.W.mg_none_of KX G (by k_is)
        · exact PySem.W.mg_none_of KX G (by k_is)
        · exact PySem.W.mg_none_of KX G (by k_is)
        · exact PySem.W.mg_none_of KX G (by k_is)
        · exact PySem.W.mg_none_of KX G (by k_is)
      · refine' TL.place_mk KX G (fun _ _ _ _ _ _ us hl => match us, hl with | [_, _], _ => rfl) ?a_reduced ?l_reduced ?c_reduced ?k_reduced
        (case' a_reduced => k_is); (case' l_reduced => k_is); (case' c_reduced => k_is); (case' k_reduced => k_is)
      · refine' TL.place_mk KX G (fun _ _ _ _ _ _ us hl => match us, hl with | [_, _], _ => rfl) ?a_added ?l_added ?c_added ?k_added
        (case' a_added => k_is); (case' l_added => k_is); (case' c_added => k_is); (case' k_added => k_is)
      · refine' TL.place_mk KX G (fun _ _ _ _ _ _ us hl => match us, hl with | [_, _], _ => rfl) ?a_lessened ?l_lessened ?c_lessened ?k_lessened
        (case' a_lessened => k_is); (case' l_lessened => k_is); (case' c_lessened => k_is); (case' k_lessened => k_is)
      · refine' TL.place_mk KX G (fun _ _ _ _ _ _ us hl => match us, hl with | [_, _], _ => rfl) ?a_times ?l_times ?c_times ?k_times
        (case' a_times => k_is); (case' l_times => k_is); (case' c_times => k_is); (case' k_times => k_is)
      · refine' TL.place_mk KX G (fun _ _ _ _ _ _ us hl => match us, hl with | [_, _], _ => rfl) ?a_over ?l_over ?c_over ?k_over
        (case' a_over => k_is); (case' l_over => k_is); (case' c_over => k_is); (case' k_over => k_is)
      · refine' TL.place_mk KX G (fun _ _ _ _ _ _ us hl => match us, hl with | [_], _ => rfl) ?a_total_of ?l_total_of ?c_total_of ?k_total_of
        (case' a_total_of => k_is); (case' l_total_of => k_is); (case' c_total_of => k_is); (case' k_total_of => k_is)
      · refine' TL.place_mk KX G (fun _ _ _ _ _ _ us hl => match us, hl with | [_], _ => rfl) ?a_whole_below ?l_whole_below ?c_whole_below ?k_whole_below
        (case' a_whole_below => k_is); (case' l_whole_below => k_is); (case' c_whole_below => k_is); (case' k_whole_below => k_is)
      · refine' TL.place_mk KX G (fun _ _ _ _ _ _ us hl => match us, hl with | [_], _ => rfl) ?a_in_order ?l_in_order ?c_in_order ?k_in_order
        (case' a_in_order => k_is); (case' l_in_order => k_is); (case' c_in_order => k_is); (case' k_in_order => k_is)
      · refine' TL.place_mk KX G (fun _ _ _ _ _ _ us hl => match us, hl with | [_], _ => rfl) ?a_sure_throw ?l_sure_throw ?c_sure_throw ?k_sure_throw
        (case' a_sure_throw => k_is); (case' l_sure_throw => k_is); (case' c_sure_throw => k_is); (case' k_sure_throw => k_is)
      · refine' TL.place_mk KX G (fun _ _ _ _ _ _ us hl => match us, hl with | [_, _, _], _ => rfl) ?a_two_throw ?l_two_throw ?c_two_throw ?k_two_throw
        (case' a_two_throw => k_is); (case' l_two_throw => k_is); (case' c_two_throw => k_is); (case' k_two_throw => k_is)
      · refine' TL.place_mk KX G (fun _ _ _ _ _ _ us hl => match us, hl with | [_, _], _ => rfl) ?a_neighbours_of ?l_neighbours_of ?c_neighbours_of ?k_neighbours_of
        (case' a_neighbours_of => k_is); (case' l_neighbours_of => k_is); (case' c_neighbours_of => k_is); (case' k_neighbours_of => k_is)
      · refine' TL.place_mk KX G (fun _ _ _ _ _ _ us hl => match us, hl with | [_, _], _ => rfl) ?a_neighbour_throw ?l_neighbour_throw ?c_neighbour_throw ?k_neighbour_throw
        (case' a_neighbour_throw => k_is); (case' l_neighbour_throw => k_is); (case' c_neighbour_throw => k_is); (case' k_neighbour_throw => k_is)
      · refine' TL.place_mk KX G (fun _ _ _ _ _ _ us hl => match us, hl with | [_, _], _ => rfl) ?a_rounded_throw ?l_rounded_throw ?c_rounded_throw ?k_rounded_throw
        (case' a_rounded_throw => k_is); (case' l_rounded_throw => k_is); (case' c_rounded_throw => k_is); (case' k_rounded_throw => k_is)
      · refine' TL.place_mk KX G (fun _ _ _ _ _ _ us hl => match us, hl with | [_, _], _ => rfl) ?a_again_throw ?l_again_throw ?c_again_throw ?k_again_throw
        (case' a_again_throw => k_is); (case' l_again_throw => k_is); (case' c_again_throw => k_is); (case' k_again_throw => k_is)
      · refine' TL.place_mk KX G (fun _ _ _ _ _ _ us hl => match us, hl with | [_], _ => rfl) ?a_is_once ?l_is_once ?c_is_once ?k_is_once
        (case' a_is_once => k_is); (case' l_is_once => k_is); (case' c_is_once => k_is); (case' k_is_once => k_is)
      · refine' TL.place_mk KX G (fun _ _ _ _ _ _ us hl => match us, hl with | [_], _ => rfl) ?a_once_parting ?l_once_parting ?c_once_parting ?k_once_parting
        (case' a_once_parting => k_is); (case' l_once_parting => k_is); (case' c_once_parting => k_is); (case' k_once_parting => k_is)
      · refine' TL.place_mk KX G (fun _ _ _ _ _ _ us hl => match us, hl with | [_], _ => rfl) ?a__law_bag ?l__law_bag ?c__law_bag ?k__law_bag
        (case' a__law_bag => k_is); (case' l__law_bag => k_is); (case' c__law_bag => k_is); (case' k__law_bag => k_is)
      · refine' TL.place_mk KX G (fun _ _ _ _ _ _ us hl => match us, hl with | [_, _], _ => rfl) ?a__law_take ?l__law_take ?c__law_take ?k__law_take
        (case' a__law_take => k_is); (case' l__law_take => k_is); (case' c__law_take => k_is); (case' k__law_take => k_is)
      · refine' TL.place_mk KX G (fun _ _ _ _ _ _ us hl => match us, hl with | [_, _], _ => rfl) ?a__law_some ?l__law_some ?c__law_some ?k__law_some
        (case' a__law_some => k_is); (case' l__law_some => k_is); (case' c__law_some => k_is); (case' k__law_some => k_is)
      · refine' TL.place_mk KX G (fun _ _ _ _ _ _ us hl => match us, hl with | [_, _], _ => rfl) ?a__law_alike ?l__law_alike ?c__law_alike ?k__law_alike
        (case' a__law_alike => k_is); (case' l__law_alike => k_is); (case' c__law_alike => k_is); (case' k__law_alike => k_is)
      · refine' TL.place_mk KX G (fun _ _ _ _ _ _ us hl => match us, hl with | [_], _ => rfl) ?a__law_is_int ?l__law_is_int ?c__law_is_int ?k__law_is_int
        (case' a__law_is_int => k_is); (case' l__law_is_int => k_is); (case' c__law_is_int => k_is); (case' k__law_is_int => k_is)
      · refine' TL.place_mk KX G (fun _ _ _ _ _ _ us hl => match us, hl with | [_, _], _ => rfl) ?a__law_divisor ?l__law_divisor ?c__law_divisor ?k__law_divisor
        (case' a__law_divisor => k_is); (case' l__law_divisor => k_is); (case' c__law_divisor => k_is); (case' k__law_divisor => k_is)
      · refine' TL.place_mk KX G (fun _ _ _ _ _ _ us hl => match us, hl with | [_, _], _ => rfl) ?a__law_over ?l__law_over ?c__law_over ?k__law_over
        (case' a__law_over => k_is); (case' l__law_over => k_is); (case' c__law_over => k_is); (case' k__law_over => k_is)
      · refine' TL.place_mk KX G (fun _ _ _ _ _ _ us hl => match us, hl with | [_, _], _ => rfl) ?a__law_added ?l__law_added ?c__law_added ?k__law_added
        (case' a__law_added => k_is); (case' l__law_added => k_is); (case' c__law_added => k_is); (case' k__law_added => k_is)
      · refine' TL.place_mk KX G (fun _ _ _ _ _ _ us hl => match us, hl with | [_, _], _ => rfl) ?a__law_less ?l__law_less ?c__law_less ?k__law_less
        (case' a__law_less => k_is); (case' l__law_less => k_is); (case' c__law_less => k_is); (case' k__law_less => k_is)
      · refine' TL.place_mk KX G (fun _ _ _ _ _ _ us hl => match us, hl with | [_, _], _ => rfl) ?a__law_times ?l__law_times ?c__law_times ?k__law_times
        (case' a__law_times => k_is); (case' l__law_times => k_is); (case' c__law_times => k_is); (case' k__law_times => k_is)
      · refine' TL.place_mk KX G (fun _ _ _ _ _ _ us hl => match us, hl with | [_, _], _ => rfl) ?a__law_is_less ?l__law_is_less ?c__law_is_less ?k__law_is_less
        (case' a__law_is_less => k_is); (case' l__law_is_less => k_is); (case' c__law_is_less => k_is); (case' k__law_is_less => k_is)
      · refine' TL.place_mk KX G (fun _ _ _ _ _ _ us hl => match us, hl with | [_], _ => rfl) ?a__law_total ?l__law_total ?c__law_total ?k__law_total
        (case' a__law_total => k_is); (case' l__law_total => k_is); (case' c__law_total => k_is); (case' k__law_total => k_is)
      · refine' TL.place_mk KX G (fun _ _ _ _ _ _ us hl => match us, hl with | [_], _ => rfl) ?a__law_sorted ?l__law_sorted ?c__law_sorted ?k__law_sorted
        (case' a__law_sorted => k_is); (case' l__law_sorted => k_is); (case' c__law_sorted => k_is); (case' k__law_sorted => k_is)
      · refine' TL.place_mk KX G (fun _ _ _ _ _ _ us hl => match us, hl with | [_], _ => rfl) ?a__law_fraction ?l__law_fraction ?c__law_fraction ?k__law_fraction
        (case' a__law_fraction => k_is); (case' l__law_fraction => k_is); (case' c__law_fraction => k_is); (case' k__law_fraction => k_is)
      · refine' TL.place_mk KX G (fun _ _ _ _ _ _ us hl => match us, hl with | [_, _, _], _ => rfl) ?a__law_two_throw ?l__law_two_throw ?c__law_two_throw ?k__law_two_throw
        (case' a__law_two_throw => k_is); (case' l__law_two_throw => k_is); (case' c__law_two_throw => k_is); (case' k__law_two_throw => k_is)
      · refine' TL.place_mk KX G (fun _ _ _ _ _ _ us hl => match us, hl with | [_], _ => rfl) ?a__law_is_frac ?l__law_is_frac ?c__law_is_frac ?k__law_is_frac
        (case' a__law_is_frac => k_is); (case' l__law_is_frac => k_is); (case' c__law_is_frac => k_is); (case' k__law_is_frac => k_is)
      · refine' TL.place_mk KX G (fun _ _ _ _ _ _ us hl => match us, hl with | [_], _ => rfl) ?a__law_are_fracs ?l__law_are_fracs ?c__law_are_fracs ?k__law_are_fracs
        (case' a__law_are_fracs => k_is); (case' l__law_are_fracs => k_is); (case' c__law_are_fracs => k_is); (case' k__law_are_fracs => k_is)
      · refine' TL.place_mk KX G (fun _ _ _ _ _ _ us hl => match us, hl with | [_], _ => rfl) ?a__law_is_throw ?l__law_is_throw ?c__law_is_throw ?k__law_is_throw
        (case' a__law_is_throw => k_is); (case' l__law_is_throw => k_is); (case' c__law_is_throw => k_is); (case' k__law_is_throw => k_is)
      · refine' TL.place_mk KX G (fun _ _ _ _ _ _ us hl => match us, hl with | [_], _ => rfl) ?a__law_mean_of ?l__law_mean_of ?c__law_mean_of ?k__law_mean_of
        (case' a__law_mean_of => k_is); (case' l__law_mean_of => k_is); (case' c__law_mean_of => k_is); (case' k__law_mean_of => k_is)
      · refine' TL.place_mk KX G (fun _ _ _ _ _ _ us hl => match us, hl with | [_], _ => rfl) ?a__law_law_of ?l__law_law_of ?c__law_law_of ?k__law_law_of
        (case' a__law_law_of => k_is); (case' l__law_law_of => k_is); (case' c__law_law_of => k_is); (case' k__law_law_of => k_is)
      · refine' TL.place_mk KX G (fun _ _ _ _ _ _ us hl => match us, hl with | [_, _], _ => rfl) ?a__law_floor ?l__law_floor ?c__law_floor ?k__law_floor
        (case' a__law_floor => k_is); (case' l__law_floor => k_is); (case' c__law_floor => k_is); (case' k__law_floor => k_is)
      · refine' TL.place_mk KX G (fun _ _ _ _ _ _ us hl => match us, hl with | [_, _], _ => rfl) ?a__law_neighbours ?l__law_neighbours ?c__law_neighbours ?k__law_neighbours
        (case' a__law_neighbours => k_is); (case' l__law_neighbours => k_is); (case' c__law_neighbours => k_is); (case' k__law_neighbours => k_is)
      · refine' TL.place_mk KX G (fun _ _ _ _ _ _ us hl => match us, hl with | [_, _], _ => rfl) ?a__law_neighbour_throw ?l__law_neighbour_throw ?c__law_neighbour_throw ?k__law_neighbour_throw
        (case' a__law_neighbour_throw => k_is); (case' l__law_neighbour_throw => k_is); (case' c__law_neighbour_throw => k_is); (case' k__law_neighbour_throw => k_is)
      · refine' TL.place_mk KX G (fun _ _ _ _ _ _ us hl => match us, hl with | [_], _ => rfl) ?a__law_grain ?l__law_grain ?c__law_grain ?k__law_grain
        (case' a__law_grain => k_is); (case' l__law_grain => k_is); (case' c__law_grain => k_is); (case' k__law_grain => k_is)
      · refine' TL.place_mk KX G (fun _ _ _ _ _ _ us hl => match us, hl with | [_, _], _ => rfl) ?a__law_number ?l__law_number ?c__law_number ?k__law_number
        (case' a__law_number => k_is); (case' l__law_number => k_is); (case' c__law_number => k_is); (case' k__law_number => k_is)
      · refine' TL.place_mk KX G (fun _ _ _ _ _ _ us hl => match us, hl with | [_, _], _ => rfl) ?a__law_again ?l__law_again ?c__law_again ?k__law_again
        (case' a__law_again => k_is); (case' l__law_again => k_is); (case' c__law_again => k_is); (case' k__law_again => k_is)
      · refine' TL.place_mk KX G (fun _ _ _ _ _ _ us hl => match us, hl with | [_, _], _ => rfl) ?a__law_is_multiple ?l__law_is_multiple ?c__law_is_multiple ?k__law_is_multiple
        (case' a__law_is_multiple => k_is); (case' l__law_is_multiple => k_is); (case' c__law_is_multiple => k_is); (case' k__law_is_multiple => k_is)
      · refine' TL.place_mk KX G (fun _ _ _ _ _ _ us hl => match us, hl with | [_], _ => rfl) ?a__law_grains ?l__law_grains ?c__law_grains ?k__law_grains
        (case' a__law_grains => k_is); (case' l__law_grains => k_is); (case' c__law_grains => k_is); (case' k__law_grains => k_is)
      · refine' TL.place_mk KX G (fun _ _ _ _ _ _ us hl => match us, hl with | [_], _ => rfl) ?a__law_is_again_right ?l__law_is_again_right ?c__law_is_again_right ?k__law_is_again_right
        (case' a__law_is_again_right => k_is); (case' l__law_is_again_right => k_is); (case' c__law_is_again_right => k_is); (case' k__law_is_again_right => k_is)
      · refine' TL.place_mk KX G (fun _ _ _ _ _ _ us hl => match us, hl with | [_], _ => rfl) ?a_law ?l_law ?c_law ?k_law
        (case' a_law => k_is); (case' l_law => k_is); (case' c_law => k_is); (case' k_law => k_is)
