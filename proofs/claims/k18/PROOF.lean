import PyProof.Rows.All
import Wide.All
import OpenK.AllK
import Wide.FinOn
import HandS.ForMost
import HandS.ForExc
import HandS.Nested
import KE.KeyNested
import KE.KDictKeyed
import HandS.TupAny
import HandS.IsInst
import HandS.Wide
import HandS.Conv
import HandS.StrMore
import HandS.TupMul
import KE.GoesNew
import KE.GoesMore
import KE.GoesEnum
import HandS.TryMany
import HandS.Small
import HandS.SortInts
import KE.KRevSl
import PyProof.ListStr
import HandS.ExcInit
import HandS.ExcField
import HandS.DictComp
import HandS.Property
import HandS.Gcd
import KE.KMathGC
import HandS.ExcIs
import HandS.EndTab
import PyProof.StrOps2
import KE.KDictCopyH
import KE.SortKeyHeap
import KE.SortData
import KE.KDictZip
import HandS.SortKw
import KE.KDictDisplayH
import HandS.Deep
import PyProof.P3Eq
import PySem.Challenge.RW_stretchprices_k18_whole_places_by_own_ru
set_option Elab.async false
set_option linter.all false
set_option maxRecDepth 100000
set_option maxHeartbeats 4000000
/-! DD1: a value layer over HandS: data D, a store of mutable objects, readings as total functions. -/
namespace DD
open PySem L2 LamX

/-- the tables of code objects that are followed, each with the name that its code objects bear -/
class NMs where
  T : PySem.W.Frag → List (Addr × Str)
  w : Option World := none
/-- the words of a lambda, and the names that it captures -/
structure LW where
  qual : Str
  params : Arguments
  body : Expr
  scope : Scope
  fr : List Str
abbrev LW.obj (W : LW) (cl : List (Str × Addr)) (pm : Value) (c' : Addr) (ctv : Value) : Obj := PySem.W.kla_obj "<lambda>" W.qual W.params W.body W.scope cl pm c' ctv
/-- a known object, for ever as it is -/
def Kn (o : Obj) : HO := .frz o (.ext fun _ => True)
theorem kn_inj {o o' : Obj} (h : Kn o = Kn o') : o = o' := by unfold Kn at h; cases h; rfl
/-- they are there, tracked -/
def Held (L : List (Addr × Obj)) (H : Hp) : Prop := ∀ b o, L.lookup b = some o → H b = some (Kn o)
/-- what a handed lambda is: its object, its code object, its cells with what they hold -/
structure LamAt (L : List (Addr × Obj)) (H : Hp) (f : Addr) (W : LW) (xs : List V) : Prop where
  ob : ∃ cl pm c' ctv, H f = some (Kn (W.obj cl pm c' ctv)) ∧ H c' = some (CodeO c' W.qual) ∧ (∀ y c, cl.lookup y = some c → ∃ o v, L.lookup c = some o ∧ o.data = .cell v) ∧ (∀ x y c, cl.lookup x = some c → cl.lookup y = some c → x = y) ∧
    ∀ (i : Nat) (y : Str), W.fr[i]? = some y → ∃ c o u x, cl.lookup y = some c ∧ L.lookup c = some o ∧ o.data = .cell (some u) ∧ xs[i]? = some x ∧ RelV x u
  held : Held L H
  cel : ∀ c o, L.lookup c = some o → ∃ v, o.data = .cell v
  len : xs.length = W.fr.length
/-- what such a lambda leans on stays -/
theorem LamAt.keep {L : List (Addr × Obj)} {H H' : Hp} {f : Addr} {W : LW} {xs : List V} (h : LamAt L H f W xs) (k : ∀ b o, (∃ ob, o = Kn ob) ∨ (∃ c q, o = CodeO c q) → H b = some o → H' b = some o) : LamAt L H' f W xs := by
  obtain ⟨⟨cl, pm, c', ctv, h1, h2, h3, h4, h5⟩, hh, hc, hl⟩ := h
  exact ⟨⟨cl, pm, c', ctv, k _ _ (.inl ⟨_, rfl⟩) h1, k _ _ (.inr ⟨_, _, rfl⟩) h2, h3, h4, h5⟩, fun b o e => k _ _ (.inl ⟨_, rfl⟩) (hh b o e), hc, hl⟩
/-- data: what never changes by value, mutable objects by their place in the store -/
inductive D where
  | non | bl (b : Bool) | int (i : Int) | str (x : Str) | tup (ds : List D) | fz (ds : List D) | sc (ds : List D) | fd (ks : List Key) (ds : List D) | obj (c : Str) (ns : List Str) (ds : List D) | ref (n : Nat) | ty (n : String) | lam (k : Nat) (W : LW) (ds : List D)
  deriving Inhabited
/-- what stands in the store -/
inductive O where
  | lst (ds : List D)
  | ins (c : Str) (ns : List Str) (ds : List D)
  | dct (ks : List Key) (ds : List D)
  | dkt (ks : List D) (ds : List D)
abbrev Sto := List O
abbrev Env := List (Option D)
/-- an error: its class's name, its field -/
abbrev Xc := Str × Option (Str × D)
inductive Res (α : Type) where
  | ok (a : α) (st : Sto)
  | exc (x : Xc) (st : Sto)
  | bad
def Res.bind {α β : Type} (r : Res α) (f : α → Sto → Res β) : Res β := match r with
  | .ok a st => f a st
  | .exc x st => .exc x st
  | .bad => .bad
@[simp] theorem Res.bind_ok {α β : Type} (a : α) (st : Sto) (f : α → Sto → Res β) : (Res.ok a st).bind f = f a st := rfl
@[simp] theorem Res.bind_exc {α β : Type} (x : Xc) (st : Sto) (f : α → Sto → Res β) : (Res.exc x st : Res α).bind f = .exc x st := rfl
@[simp] theorem Res.bind_bad {α β : Type} (f : α → Sto → Res β) : (Res.bad : Res α).bind f = .bad := rfl
inductive ResS where
  | nx (env : Env) (st : Sto)
  | rt (x : D) (st : Sto)
  | bk (env : Env) (st : Sto)
  | ct (env : Env) (st : Sto)
  | exc (x : Xc) (env : Env) (st : Sto)
  | bad
abbrev DE := Env → Sto → Res D
abbrev DT := Env → Sto → Res Bool
abbrev DA := Env → Sto → Res (List D)
abbrev DS := Env → Sto → ResS
abbrev M := List D → Sto → Res D

/-! ### relations -/
/-- the written part, the module's names, addresses that are set aside -/
structure Bs where
  K : PySem.W.Frag
  mg : Str → Option Value
  ρ : List Addr
def Bs.more (B : Bs) (p : Addr) : Bs := ⟨B.K, B.mg, p :: B.ρ⟩
/-- a list, a tuple that never changes any more -/
def ScL (B : Bs) (H : Hp) (ι : List Addr) (a : Addr) (xs : List V) : Prop :=
  (Rd H a (.lst xs) ∧ a ∉ ι ∧ a ∉ B.ρ) ∨ ∃ (o : Obj) (its : Array Value) (n : Nat), B.K.lookup a = some o ∧ o.cls = .type "list" ∧ o.dict = none ∧ o.data = .seq its n ∧ its.size ≤ sizeLine ∧ Vals xs its.toList
def FzT (B : Bs) (H : Hp) (ι : List Addr) (a : Addr) (xs : List V) : Prop :=
  (Rd H a (.tup xs) ∧ a ∉ ι ∧ a ∉ B.ρ) ∨ ∃ (o : Obj) (its : Array Value) (n : Nat), B.K.lookup a = some o ∧ o.cls = .type "tuple" ∧ o.data = .seq its n ∧ its.size ≤ sizeLine ∧ Vals xs its.toList
theorem ScL.sq {B H ι a xs} (h : ScL B H ι a xs) : SqL B.K H a xs := h.elim (fun x => .inl x.1) .inr
theorem FzT.sq {B H ι a xs} (h : FzT B H ι a xs) : SqT B.K H a xs := h.elim (fun x => .inl x.1) .inr
/-- the heap but the store and what is set aside -/
def offH (B : Bs) (ι : List Addr) (H : Hp) : Hp := fun b => if b ∈ ι ∨ b ∈ B.ρ then none else H b
theorem offH_iff {B : Bs} {ι : List Addr} {H : Hp} {b : Addr} {o : HO} : offH B ι H b = some o ↔ b ∉ ι ∧ b ∉ B.ρ ∧ H b = some o := by
  unfold offH
  by_cases h : b ∈ ι ∨ b ∈ B.ρ
  · rw [if_pos h]
    exact ⟨fun z => (nomatch z), fun z => absurd h (fun y => y.elim z.1 z.2.1)⟩
  · rw [if_neg h]
    exact ⟨fun z => ⟨fun y => h (.inl y), fun y => h (.inr y), z⟩, fun z => z.2.2⟩
theorem LamAt.to {L : List (Addr × Obj)} {B : Bs} {ι : List Addr} {H : Hp} {f : Addr} {W : LW} {xs : List V} (h : LamAt L (offH B ι H) f W xs) : LamAt L H f W xs := h.keep fun b o _ e => (offH_iff.mp e).2.2
mutual
def VR (B : Bs) (H : Hp) (ι : List Addr) : D → V → Prop
  | .non, v => v = .non
  | .bl b, v => v = .bl b
  | .int i, v => v = .int i
  | .str x, v => v = .str x
  | .ty n, v => v = .ty n
  | .ref n, v => ∃ a, ι[n]? = some a ∧ v = .ref a
  | .tup ds, v => ∃ a xs, v = .ref a ∧ FzT B H ι a xs ∧ VRs B H ι ds xs
  | .fz ds, v => ∃ a xs, v = .ref a ∧ H a = some (.lst xs) ∧ (a ∉ ι ∧ a ∉ B.ρ) ∧ VRs B H ι ds xs
  | .sc ds, v => ∃ a xs, v = .ref a ∧ ScL B H ι a xs ∧ VRs B H ι ds xs
  | .fd ks ds, v => ∃ a od kvs xs, v = .ref a ∧ H a = some (.frz od (.dK kvs)) ∧ (a ∉ ι ∧ a ∉ B.ρ) ∧ kvs = ks.zip xs ∧ ks.length = xs.length ∧ VRs B H ι ds xs
  | .obj c ns ds, v => ∃ a C dx fs xs, v = .ref a ∧ B.mg c = some (.ref C) ∧ H a = some (.ins C dx fs) ∧ (a ∉ ι ∧ a ∉ B.ρ) ∧ fs = ns.zip xs ∧ ns.length = xs.length ∧ VRs B H ι ds xs
  | .lam _ W ds, v => ∃ f L xs, v = .ref f ∧ LamAt L (offH B ι H) f W xs ∧ VRs B H ι ds xs
def VRs (B : Bs) (H : Hp) (ι : List Addr) : List D → List V → Prop
  | [], xs => xs = []
  | d :: ds, xs => ∃ x r, xs = x :: r ∧ VR B H ι d x ∧ VRs B H ι ds r
end
mutual
/-- a thing as a key -/
def nkD : D → Option NestedKey
  | .non => some .none
  | .bl b => some (.num (if b then 1 else 0))
  | .int i => some (.num i)
  | .str x => some (.text x)
  | .tup ds => (nkDs ds).map .tup
  | _ => none
def nkDs : List D → Option (List NestedKey)
  | [] => some []
  | d :: ds => match nkD d, nkDs ds with
    | some k, some ks => some (k :: ks)
    | _, _ => none
end
/-- a dict with tuples as keys: its keys, where they stand, what it holds -/
def DkO (w : World) (a : Addr) (ks : List NestedKey) (bs : List Addr) (xs : List V) : Heap → Prop := fun h =>
  (a == sysModules) = false ∧ ks.length ≤ sizeLine ∧ ks.Nodup ∧ (∀ k ∈ ks, k.depth ≤ 8) ∧ bs.length = ks.length ∧ ∃ us, Vals xs us ∧ us.length = ks.length ∧ ∃ o es ep, h.get? a = some o ∧ o.ExactDict ∧ o.data = .dict es ep ∧ es.toList = (ks.zip (bs.zip us)).map fun x => ⟨NestedKey.hash w x.1, .ref x.2.1, x.2.2⟩
theorem dkO_ne {w : World} {a c : Addr} {ks : List NestedKey} {bs : List Addr} {xs : List V} {q : Str} : HO.ext (DkO w a ks bs xs) ≠ CodeO c q := fun z => by
  unfold CodeO at z
  injection z with z
  obtain ⟨ob, eo⟩ : ∃ ob : Obj, ob = { cls := .none, data := .fields #[.none, .str q 0] } := ⟨_, rfl⟩
  obtain ⟨h, eh⟩ : ∃ h : Heap, h = { objs := Array.replicate (c + 1) ob } := ⟨_, rfl⟩
  have get : ∀ b o, h.get? b = some o → o = ob := fun b o e => by
    subst eh
    unfold Heap.get? at e
    by_cases hb : b < c + 1
    · rw [Array.getElem?_replicate, if_pos hb, eo] at e
      simp only [] at e
      rw [eo]; exact (Option.some.inj e).symm
    · rw [Array.getElem?_replicate, if_neg hb] at e
      cases e
  have hc : h.get? c = some ob := by
    subst eh
    unfold Heap.get?
    rw [Array.getElem?_replicate, if_pos (Nat.lt_succ_self c), eo]
  have p : DkO w a ks bs xs h := by
    rw [z]
    exact ⟨ob, #[.none, .str q 0], 0, hc, by rw [eo], rfl⟩
  obtain ⟨_, _, _, _, _, us, _, _, o, es, ep, g, _, d, _⟩ := p
  rw [get a o g, eo] at d
  cases d
def OR [NMs] (B : Bs) (H : Hp) (ι : List Addr) (a : Addr) : O → Prop
  | .lst ds => ∃ xs, H a = some (.lst xs) ∧ VRs B H ι ds xs
  | .ins c ns ds => ∃ C dx fs xs, B.mg c = some (.ref C) ∧ H a = some (.ins C dx fs) ∧ fs = ns.zip xs ∧ ns.length = xs.length ∧ VRs B H ι ds xs
  | .dct ks ds => ∃ kvs xs, H a = some (.dK kvs) ∧ kvs = ks.zip xs ∧ ks.length = xs.length ∧ VRs B H ι ds xs
  | .dkt ks ds => ∃ w nks bs xs, NMs.w = some w ∧ nkDs ks = some nks ∧ H a = some (.ext (DkO w a nks bs xs)) ∧ VRs B H ι ks (bs.map .ref) ∧ VRs B H ι ds xs
theorem tabs_keep {T : List (Addr × Str)} {H H' : Hp} (h : Tabs T H) (k : ∀ b o, ((∃ ps, o = .tbl ps) ∨ ∃ c q, o = CodeO c q) → H b = some o → H' b = some o) : Tabs T H' := fun p hp => by
  obtain ⟨ps, h1, h2, h3⟩ := h p hp
  refine ⟨ps, k _ _ (.inl ⟨_, rfl⟩) h1, h2, fun pos cv hc => ?_⟩
  obtain ⟨c, e1, e2⟩ := h3 pos cv hc
  exact ⟨c, e1, k _ _ (.inr ⟨_, _, rfl⟩) e2⟩
/-- neither a table nor a thing told by what is true of it -/
def Pl : HO → Prop
  | .tbl _ => False
  | .ext _ => False
  | _ => True
theorem Pl.nt {o : HO} (h : Pl o) : ∀ ps, o ≠ .tbl ps := fun ps z => by subst z; exact h
theorem Pl.nc {o : HO} (h : Pl o) : ∀ c q, o ≠ CodeO c q := fun c q z => by subst z; exact h
variable [NMs]
structure Sim (B : Bs) (H : Hp) (ι : List Addr) (st : Sto) : Prop where
  len : ι.length = st.length
  nd : ι.Nodup
  ob : ∀ (n : Nat) (o : O), st[n]? = some o → ∃ a, ι[n]? = some a ∧ OR B H ι a o
  rs : ∀ a ∈ B.ρ, (∃ o, H a = some o) ∧ a ∉ ι
  tab : Tabs (NMs.T B.K) H
  rp : ∀ a ∈ B.ρ, ∀ o, H a = some o → Pl o
/-- nothing but perhaps a table stands there -/
def NoH (H : Hp) (a : Addr) : Prop := ∀ o, H a = some o → ∃ ps, o = .tbl ps
theorem noH {H : Hp} {a : Addr} (h : H a = none) : NoH H a := fun o e => by rw [h] at e; cases e
structure Step (ι : List Addr) (H : Hp) (ι' : List Addr) (H' : Hp) : Prop where
  pre : ∃ more, ι' = ι ++ more ∧ ∀ a ∈ more, NoH H a ∧ a ∉ ι
  rest0 : ∀ a o, a ∉ ι → (∀ ps, o ≠ .tbl ps) → H a = some o → H' a = some o
def VEnv (B : Bs) (H : Hp) (ι : List Addr) (env : Env) (σ : L2.St) : Prop :=
  σ.length = env.length ∧ ∀ (i : Nat) (d : D), env[i]? = some (some d) → ∃ v, σ[i]? = some (some v) ∧ VR B H ι d v

section
variable {B : Bs} {H H' H1 H2 : Hp} {ι ι' ι1 ι2 : List Addr} {st st' : Sto} {env : Env} {σ : L2.St} {a : Addr} {xs : List V}
theorem Step.refl (ι : List Addr) (H : Hp) : Step ι H ι H := ⟨⟨[], by simp, by simp⟩, fun _ _ _ _ h => h⟩
theorem Step.rest (s : Step ι H ι' H') (a : Addr) (o : HO) (hn : a ∉ ι) (h : H a = some o) (nt : ∀ ps, o ≠ .tbl ps := by intro ps z; cases z) : H' a = some o := s.rest0 a o hn nt h
theorem tbl_or (o : HO) : (∃ ps, o = .tbl ps) ∨ ∀ ps, o ≠ .tbl ps := by
  cases o <;> first | exact .inl ⟨_, rfl⟩ | exact .inr (fun ps z => by cases z)
theorem NoH.back (s : Step ι H ι' H') {a : Addr} (hn : a ∉ ι) (n : NoH H' a) : NoH H a := fun o e => by
  rcases tbl_or o with z | z
  · exact z
  · exact n o (s.rest0 a o hn z e)
theorem Step.ix (s : Step ι H ι' H') {n : Nat} {a : Addr} (h : ι[n]? = some a) : ι'[n]? = some a := by
  obtain ⟨more, rfl, _⟩ := s.pre
  rw [List.getElem?_append_left (List.getElem?_eq_some_iff.mp h).1]
  exact h
theorem Step.mem (s : Step ι H ι' H') {a : Addr} (h : a ∈ ι) : a ∈ ι' := by
  obtain ⟨more, rfl, _⟩ := s.pre
  exact List.mem_append_left _ h
theorem Step.notMem (s : Step ι H ι' H') {a : Addr} {o : HO} (h : a ∉ ι) (e : H a = some o) (nt : ∀ ps, o ≠ .tbl ps := by intro ps z; cases z) : a ∉ ι' := by
  obtain ⟨more, rfl, f⟩ := s.pre
  intro z
  rcases List.mem_append.mp z with z | z
  · exact h z
  · obtain ⟨ps, y⟩ := (f a z).1 o e; exact nt ps y
theorem Step.trans (s : Step ι H ι1 H1) (t : Step ι1 H1 ι2 H2) : Step ι H ι2 H2 := by
  obtain ⟨m1, e1, f1⟩ := s.pre
  obtain ⟨m2, e2, f2⟩ := t.pre
  refine ⟨⟨m1 ++ m2, by rw [e2, e1, List.append_assoc], fun a ha => ?_⟩, fun a o hn nt h => ?_⟩
  · rcases List.mem_append.mp ha with h | h
    · exact f1 a h
    · have hm : a ∉ ι := fun z => (f2 a h).2 (s.mem z)
      exact ⟨NoH.back s hm (f2 a h).1, hm⟩
  · exact t.rest0 a o (s.notMem hn h nt) nt (s.rest0 a o hn nt h)
theorem Step.rd (s : Step ι H ι' H') {o : HO} (h : Rd H a o) (hn : a ∉ ι) (nt : ∀ ps, o ≠ .tbl ps := by intro ps z; cases z) : Rd H' a o ∧ a ∉ ι' := by
  rcases h with h | ⟨u, h⟩
  · exact ⟨.inl (s.rest a _ hn h nt), s.notMem hn h nt⟩
  · exact ⟨.inr ⟨u, s.rest a _ hn h⟩, s.notMem hn h⟩
theorem kn_nt (o : Obj) : ∀ ps, Kn o ≠ .tbl ps := fun ps z => by unfold Kn at z; cases z
theorem LamAt.step (s : Step ι H ι' H') {L : List (Addr × Obj)} {f : Addr} {W : LW} (h : LamAt L (offH B ι H) f W xs) : LamAt L (offH B ι' H') f W xs := h.keep fun b o k e => by
  obtain ⟨h1, h2, h3⟩ := offH_iff.mp e
  have nt : ∀ ps, o ≠ .tbl ps := by
    rcases k with ⟨ob, rfl⟩ | ⟨c, q, rfl⟩
    · exact kn_nt ob
    · exact fun ps => codeO_ne ps
  exact offH_iff.mpr ⟨s.notMem h1 h3 nt, h2, s.rest0 b o h1 nt h3⟩
theorem ScL.step (s : Step ι H ι' H') (h : ScL B H ι a xs) : ScL B H' ι' a xs := h.elim (fun x => .inl ⟨(s.rd x.1 x.2.1).1, (s.rd x.1 x.2.1).2, x.2.2⟩) .inr
theorem FzT.step (s : Step ι H ι' H') (h : FzT B H ι a xs) : FzT B H' ι' a xs := h.elim (fun x => .inl ⟨(s.rd x.1 x.2.1).1, (s.rd x.1 x.2.1).2, x.2.2⟩) .inr
mutual
theorem VR.step (s : Step ι H ι' H') : ∀ {d : D} {v : V}, VR B H ι d v → VR B H' ι' d v
  | .non, _, h => h
  | .bl _, _, h => h
  | .int _, _, h => h
  | .str _, _, h => h
  | .ty _, _, h => h
  | .ref _, _, ⟨a, h, e⟩ => ⟨a, s.ix h, e⟩
  | .tup _, _, ⟨a, xs, e, h, r⟩ => ⟨a, xs, e, h.step s, VRs.step s r⟩
  | .fz _, _, ⟨a, xs, e, h, n, r⟩ => ⟨a, xs, e, s.rest _ _ n.1 h, ⟨s.notMem n.1 h, n.2⟩, VRs.step s r⟩
  | .sc _, _, ⟨a, xs, e, h, r⟩ => ⟨a, xs, e, h.step s, VRs.step s r⟩
  | .fd _ _, _, ⟨a, od, fs, xs, e, h, n, e2, l, r⟩ => ⟨a, od, fs, xs, e, s.rest _ _ n.1 h, ⟨s.notMem n.1 h, n.2⟩, e2, l, VRs.step s r⟩
  | .obj _ _ _, _, ⟨a, C, dx, fs, xs, e, c, h, n, e2, l, r⟩ => ⟨a, C, dx, fs, xs, e, c, s.rest _ _ n.1 h, ⟨s.notMem n.1 h, n.2⟩, e2, l, VRs.step s r⟩
  | .lam _ _ _, _, ⟨f, L, xs, e, h, r⟩ => ⟨f, L, xs, e, h.step s, VRs.step s r⟩
theorem VRs.step (s : Step ι H ι' H') : ∀ {ds : List D} {vs : List V}, VRs B H ι ds vs → VRs B H' ι' ds vs
  | [], _, h => h
  | _ :: _, _, ⟨x, r, e, h, t⟩ => ⟨x, r, e, VR.step s h, VRs.step s t⟩
end
/-- one more address set aside: what stood before does not hang on it -/
theorem ScL.more {p : Addr} (n : H p = none) (h : ScL B H ι a xs) : ScL (B.more p) H ι a xs := h.elim (fun x => .inl ⟨x.1, x.2.1, fun z => by
  rcases List.mem_cons.mp z with z | z
  · subst z
    rcases x.1 with q | ⟨_, q⟩ <;> (rw [n] at q; cases q)
  · exact x.2.2 z⟩) .inr
theorem FzT.more {p : Addr} (n : H p = none) (h : FzT B H ι a xs) : FzT (B.more p) H ι a xs := h.elim (fun x => .inl ⟨x.1, x.2.1, fun z => by
  rcases List.mem_cons.mp z with z | z
  · subst z
    rcases x.1 with q | ⟨_, q⟩ <;> (rw [n] at q; cases q)
  · exact x.2.2 z⟩) .inr
mutual
theorem VR.more {p : Addr} (n : H p = none) : ∀ {d : D} {v : V}, VR B H ι d v → VR (B.more p) H ι d v
  | .non, _, h => h
  | .bl _, _, h => h
  | .int _, _, h => h
  | .str _, _, h => h
  | .ty _, _, h => h
  | .ref _, _, h => h
  | .tup _, _, ⟨a, xs, e, h, r⟩ => ⟨a, xs, e, h.more n, VRs.more n r⟩
  | .sc _, _, ⟨a, xs, e, h, r⟩ => ⟨a, xs, e, h.more n, VRs.more n r⟩
  | .fz _, _, ⟨a, xs, e, h, m, r⟩ => ⟨a, xs, e, h, ⟨m.1, fun z => by
      rcases List.mem_cons.mp z with z | z
      · subst z; rw [n] at h; cases h
      · exact m.2 z⟩, VRs.more n r⟩
  | .fd _ _, _, ⟨a, od, fs, xs, e, h, m, e2, l, r⟩ => ⟨a, od, fs, xs, e, h, ⟨m.1, fun z => by
      rcases List.mem_cons.mp z with z | z
      · subst z; rw [n] at h; cases h
      · exact m.2 z⟩, e2, l, VRs.more n r⟩
  | .obj _ _ _, _, ⟨a, C, dx, fs, xs, e, c, h, m, e2, l, r⟩ => ⟨a, C, dx, fs, xs, e, c, h, ⟨m.1, fun z => by
      rcases List.mem_cons.mp z with z | z
      · subst z; rw [n] at h; cases h
      · exact m.2 z⟩, e2, l, VRs.more n r⟩
  | .lam _ _ _, _, ⟨f, L, xs, e, h, r⟩ => ⟨f, L, xs, e, h.keep (fun b o _ e => by
      obtain ⟨h1, h2, h3⟩ := offH_iff.mp e
      exact offH_iff.mpr ⟨h1, fun z => by
        rcases List.mem_cons.mp z with z | z
        · subst z; rw [n] at h3; cases h3
        · exact h2 z, h3⟩), VRs.more n r⟩
theorem VRs.more {p : Addr} (n : H p = none) : ∀ {ds : List D} {vs : List V}, VRs B H ι ds vs → VRs (B.more p) H ι ds vs
  | [], _, h => h
  | _ :: _, _, ⟨x, r, e, h, t⟩ => ⟨x, r, e, VR.more n h, VRs.more n t⟩
end
/-- an address set aside is free again, or goes into the store -/
theorem ScL.less {p : Addr} (h : ScL (B.more p) H ι a xs) : ScL B H ι a xs ∧ ScL B H (ι ++ [p]) a xs := by
  rcases h with x | x
  · have h1 : a ∉ B.ρ := fun z => x.2.2 (List.mem_cons_of_mem _ z)
    exact ⟨.inl ⟨x.1, x.2.1, h1⟩, .inl ⟨x.1, fun z => by
      rcases List.mem_append.mp z with z | z
      · exact x.2.1 z
      · have : a = p := by simpa using z
        exact x.2.2 (by rw [this]; exact List.mem_cons_self), h1⟩⟩
  · exact ⟨.inr x, .inr x⟩
theorem FzT.less {p : Addr} (h : FzT (B.more p) H ι a xs) : FzT B H ι a xs ∧ FzT B H (ι ++ [p]) a xs := by
  rcases h with x | x
  · have h1 : a ∉ B.ρ := fun z => x.2.2 (List.mem_cons_of_mem _ z)
    exact ⟨.inl ⟨x.1, x.2.1, h1⟩, .inl ⟨x.1, fun z => by
      rcases List.mem_append.mp z with z | z
      · exact x.2.1 z
      · have : a = p := by simpa using z
        exact x.2.2 (by rw [this]; exact List.mem_cons_self), h1⟩⟩
  · exact ⟨.inr x, .inr x⟩
mutual
theorem VR.less {p : Addr} : ∀ {d : D} {v : V}, VR (B.more p) H ι d v → VR B H ι d v ∧ VR B H (ι ++ [p]) d v
  | .non, _, h => ⟨h, h⟩
  | .bl _, _, h => ⟨h, h⟩
  | .int _, _, h => ⟨h, h⟩
  | .str _, _, h => ⟨h, h⟩
  | .ty _, _, h => ⟨h, h⟩
  | .ref _, _, ⟨a, h, e⟩ => ⟨⟨a, h, e⟩, ⟨a, by rw [List.getElem?_append_left (List.getElem?_eq_some_iff.mp h).1]; exact h, e⟩⟩
  | .tup _, _, ⟨a, xs, e, h, r⟩ => ⟨⟨a, xs, e, h.less.1, (VRs.less r).1⟩, ⟨a, xs, e, h.less.2, (VRs.less r).2⟩⟩
  | .sc _, _, ⟨a, xs, e, h, r⟩ => ⟨⟨a, xs, e, h.less.1, (VRs.less r).1⟩, ⟨a, xs, e, h.less.2, (VRs.less r).2⟩⟩
  | .fz _, _, ⟨a, xs, e, h, m, r⟩ => by
    have h1 : a ∉ B.ρ := fun z => m.2 (List.mem_cons_of_mem _ z)
    refine ⟨⟨a, xs, e, h, ⟨m.1, h1⟩, (VRs.less r).1⟩, ⟨a, xs, e, h, ⟨fun z => ?_, h1⟩, (VRs.less r).2⟩⟩
    rcases List.mem_append.mp z with z | z
    · exact m.1 z
    · have : a = p := by simpa using z
      exact m.2 (by rw [this]; exact List.mem_cons_self)
  | .fd _ _, _, ⟨a, od, fs, xs, e, h, m, e2, l, r⟩ => by
    have h1 : a ∉ B.ρ := fun z => m.2 (List.mem_cons_of_mem _ z)
    refine ⟨⟨a, od, fs, xs, e, h, ⟨m.1, h1⟩, e2, l, (VRs.less r).1⟩, ⟨a, od, fs, xs, e, h, ⟨fun z => ?_, h1⟩, e2, l, (VRs.less r).2⟩⟩
    rcases List.mem_append.mp z with z | z
    · exact m.1 z
    · have : a = p := by simpa using z
      exact m.2 (by rw [this]; exact List.mem_cons_self)
  | .obj _ _ _, _, ⟨a, C, dx, fs, xs, e, c, h, m, e2, l, r⟩ => by
    have h1 : a ∉ B.ρ := fun z => m.2 (List.mem_cons_of_mem _ z)
    refine ⟨⟨a, C, dx, fs, xs, e, c, h, ⟨m.1, h1⟩, e2, l, (VRs.less r).1⟩, ⟨a, C, dx, fs, xs, e, c, h, ⟨fun z => ?_, h1⟩, e2, l, (VRs.less r).2⟩⟩
    rcases List.mem_append.mp z with z | z
    · exact m.1 z
    · have : a = p := by simpa using z
      exact m.2 (by rw [this]; exact List.mem_cons_self)
  | .lam _ _ _, _, ⟨f, L, xs, e, h, r⟩ => by
    refine ⟨⟨f, L, xs, e, h.keep (fun b o _ e => ?_), (VRs.less r).1⟩, ⟨f, L, xs, e, h.keep (fun b o _ e => ?_), (VRs.less r).2⟩⟩
    · obtain ⟨h1, h2, h3⟩ := offH_iff.mp e
      exact offH_iff.mpr ⟨h1, fun z => h2 (List.mem_cons_of_mem _ z), h3⟩
    · obtain ⟨h1, h2, h3⟩ := offH_iff.mp e
      exact offH_iff.mpr ⟨fun z => by
        rcases List.mem_append.mp z with z | z
        · exact h1 z
        · have : b = p := by simpa using z
          exact h2 (by rw [this]; exact List.mem_cons_self), fun z => h2 (List.mem_cons_of_mem _ z), h3⟩
theorem VRs.less {p : Addr} : ∀ {ds : List D} {vs : List V}, VRs (B.more p) H ι ds vs → VRs B H ι ds vs ∧ VRs B H (ι ++ [p]) ds vs
  | [], _, h => ⟨h, h⟩
  | _ :: _, _, ⟨x, r, e, h, t⟩ => ⟨⟨x, r, e, (VR.less h).1, (VRs.less t).1⟩, ⟨x, r, e, (VR.less h).2, (VRs.less t).2⟩⟩
end
theorem VRs.length : ∀ {ds : List D} {vs : List V}, VRs B H ι ds vs → ds.length = vs.length
  | [], _, h => by cases h; rfl
  | _ :: _, _, ⟨x, r, e, _, t⟩ => by subst e; simp [VRs.length t]
theorem VRs.get : ∀ {ds : List D} {vs : List V} {i : Nat} {d : D}, VRs B H ι ds vs → ds[i]? = some d → ∃ v, vs[i]? = some v ∧ VR B H ι d v
  | [], _, _, _, _, e => by simp at e
  | _ :: _, _, 0, _, ⟨x, r, e, h, _⟩, q => by subst e; simp at q; subst q; exact ⟨x, rfl, h⟩
  | _ :: _, _, i + 1, d, ⟨x, r, e, _, t⟩, q => by
    subst e
    obtain ⟨v, h1, h2⟩ := VRs.get (i := i) (d := d) t (by simpa using q)
    exact ⟨v, by simpa using h1, h2⟩
theorem VRs.append : ∀ {ds es : List D} {vs ws : List V}, VRs B H ι ds vs → VRs B H ι es ws → VRs B H ι (ds ++ es) (vs ++ ws)
  | [], _, _, _, h, k => by cases h; exact k
  | _ :: _, _, _, _, ⟨x, r, e, h, t⟩, k => by subst e; exact ⟨x, r ++ _, rfl, h, VRs.append t k⟩
theorem VRs.take : ∀ {ds : List D} {vs : List V} (n : Nat), VRs B H ι ds vs → VRs B H ι (ds.take n) (vs.take n)
  | _, _, 0, _ => rfl
  | [], _, _ + 1, h => by cases h; rfl
  | _ :: _, _, n + 1, ⟨x, r, e, h, t⟩ => by subst e; exact ⟨x, r.take n, rfl, h, VRs.take n t⟩
theorem VRs.drop : ∀ {ds : List D} {vs : List V} (n : Nat), VRs B H ι ds vs → VRs B H ι (ds.drop n) (vs.drop n)
  | _, _, 0, h => h
  | [], _, _ + 1, h => by cases h; rfl
  | _ :: _, _, n + 1, ⟨x, r, e, h, t⟩ => by subst e; exact VRs.drop n t
theorem VRs.set {d : D} {v : V} (hd : VR B H ι d v) : ∀ {ds : List D} {vs : List V} (n : Nat), VRs B H ι ds vs → VRs B H ι (ds.set n d) (vs.set n v)
  | [], _, _, h => by cases h; rfl
  | _ :: _, _, 0, ⟨x, r, e, h, t⟩ => by subst e; exact ⟨v, r, rfl, hd, t⟩
  | _ :: _, _, n + 1, ⟨x, r, e, h, t⟩ => by subst e; exact ⟨x, r.set n v, rfl, h, VRs.set hd n t⟩
theorem VRs.ints : ∀ (ns : List Int), VRs B H ι (ns.map D.int) (ns.map V.int)
  | [] => rfl
  | n :: ns => ⟨.int n, ns.map V.int, rfl, rfl, VRs.ints ns⟩
theorem VRs.one {d : D} {v : V} (h : VR B H ι d v) : VRs B H ι [d] [v] := ⟨v, [], rfl, h, rfl⟩
theorem VEnv.step (s : Step ι H ι' H') (h : VEnv B H ι env σ) : VEnv B H' ι' env σ :=
  ⟨h.1, fun i d e => let ⟨v, a, b⟩ := h.2 i d e; ⟨v, a, b.step s⟩⟩
theorem VEnv.set {i : Nat} {d : D} {v : V} (h : VEnv B H ι env σ) (r : VR B H ι d v) : VEnv B H ι (env.set i (some d)) (σ.set i (some v)) := by
  refine ⟨by simp [h.1], fun j e q => ?_⟩
  by_cases hj : i = j
  · subst hj
    by_cases hl : i < env.length
    · rw [List.getElem?_set_self hl] at q
      cases q
      exact ⟨v, by rw [List.getElem?_set_self (by rw [h.1]; exact hl)], r⟩
    · rw [List.getElem?_eq_none (by simpa using hl)] at q; cases q
  · rw [List.getElem?_set_ne hj] at q
    rw [List.getElem?_set_ne hj]
    exact h.2 j e q
/-- a slot that is forgotten -/
theorem VEnv.forget {i : Nat} (h : VEnv B H ι env σ) : VEnv B H ι (env.set i none) σ := by
  refine ⟨by simp [h.1], fun j e q => ?_⟩
  by_cases hj : i = j
  · subst hj
    by_cases hl : i < env.length
    · rw [List.getElem?_set_self hl] at q; cases q
    · rw [List.getElem?_eq_none (by simpa using hl)] at q; cases q
  · rw [List.getElem?_set_ne hj] at q
    exact h.2 j e q
theorem VEnv.gone {i : Nat} (h : VEnv B H ι env σ) : VEnv B H ι (env.set i none) (σ.set i none) := by
  refine ⟨by simp [h.1], fun j e q => ?_⟩
  by_cases hj : i = j
  · subst hj
    by_cases hl : i < env.length
    · rw [List.getElem?_set_self hl] at q; cases q
    · rw [List.getElem?_eq_none (by simpa using hl)] at q; cases q
  · rw [List.getElem?_set_ne hj] at q
    rw [List.getElem?_set_ne hj]
    exact h.2 j e q
theorem VEnv.wipe {vs : List Nat} (h : VEnv B H ι env σ) : VEnv B H ι (vs.foldr (fun i e => e.set i none) env) (L2.wipe σ vs) := by
  induction vs with
  | nil => exact h
  | cons v vs ih => exact VEnv.gone ih
theorem VEnv.start {vs : List V} {ds : List D} (N : List Str) (h : VRs B H ι ds vs) : VEnv B H ι (ds.map some ++ List.replicate (N.length - ds.length) none) (L2.start N vs) := by
  have hl := h.length
  refine ⟨by simp [L2.start, hl], fun i d e => ?_⟩
  by_cases hi : i < ds.length
  · rw [List.getElem?_append_left (by simpa using hi), List.getElem?_map] at e
    cases q : ds[i]? with
    | none => rw [q] at e; cases e
    | some d' =>
      rw [q] at e; cases e
      obtain ⟨v, h1, h2⟩ := h.get q
      refine ⟨v, ?_, h2⟩
      unfold L2.start
      rw [List.getElem?_append_left (by simpa [← hl] using hi), List.getElem?_map, h1]
      rfl
  · rw [List.getElem?_append_right (by simpa using hi), List.getElem?_replicate] at e
    split at e <;> cases e
/-- everything that is in the store is known to the heap -/
theorem Sim.there (S : Sim B H ι st) (h : a ∈ ι) : ∃ o, H a = some o := by
  obtain ⟨n, hn, rfl⟩ := List.mem_iff_getElem.mp h
  have hs : n < st.length := by rw [← S.len]; exact hn
  obtain ⟨b, hb, o⟩ := S.ob n st[n] (List.getElem?_eq_getElem hs)
  rw [List.getElem?_eq_getElem hn] at hb
  cases hb
  cases e : st[n] with
  | lst ds => rw [e] at o; obtain ⟨_, h, _⟩ := o; exact ⟨_, h⟩
  | ins c ns ds => rw [e] at o; obtain ⟨_, _, _, _, _, h, _⟩ := o; exact ⟨_, h⟩
  | dct ks ds => rw [e] at o; obtain ⟨_, _, h, _⟩ := o; exact ⟨_, h⟩
  | dkt ks ds => rw [e] at o; obtain ⟨_, _, _, _, _, _, h, _⟩ := o; exact ⟨_, h⟩
theorem Sim.fresh (S : Sim B H ι st) (h : H a = none) : a ∉ ι := fun z => by
  obtain ⟨o, e⟩ := S.there z
  rw [h] at e; cases e
theorem OR.stays {b : Addr} {o : O} (e : ∀ u, H b = some u → H' b = some u) (hv : ∀ ds xs, VRs B H ι ds xs → VRs B H' ι' ds xs) (h : OR B H ι b o) : OR B H' ι' b o := by
  cases o with
  | lst ds => obtain ⟨xs, h, r⟩ := h; exact ⟨xs, e _ h, hv _ _ r⟩
  | ins c ns ds => obtain ⟨C, dx, fs, xs, c, h, q, l, r⟩ := h; exact ⟨C, dx, fs, xs, c, e _ h, q, l, hv _ _ r⟩
  | dct ks ds => obtain ⟨kvs, xs, h, q, l, r⟩ := h; exact ⟨kvs, xs, e _ h, q, l, hv _ _ r⟩
  | dkt ks ds => obtain ⟨w, nks, bs, xs, ew, ek, h, rk, r⟩ := h; exact ⟨w, nks, bs, xs, ew, ek, e _ h, hv _ _ rk, hv _ _ r⟩
theorem OR.stays2 {B' : Bs} (hm : B'.mg = B.mg) {b : Addr} {o : O} (hv : ∀ ds xs, VRs B H ι ds xs → VRs B' H ι' ds xs) (h : OR B H ι b o) : OR B' H ι' b o := by
  cases o with
  | lst ds => obtain ⟨xs, h, r⟩ := h; exact ⟨xs, h, hv _ _ r⟩
  | ins c ns ds => obtain ⟨C, dx, fs, xs, c, h, q, l, r⟩ := h; exact ⟨C, dx, fs, xs, by rw [hm]; exact c, h, q, l, hv _ _ r⟩
  | dct ks ds => obtain ⟨kvs, xs, h, q, l, r⟩ := h; exact ⟨kvs, xs, h, q, l, hv _ _ r⟩
  | dkt ks ds => obtain ⟨w, nks, bs, xs, ew, ek, h, rk, r⟩ := h; exact ⟨w, nks, bs, xs, ew, ek, h, hv _ _ rk, hv _ _ r⟩
/-- what the store has is no table -/
theorem or_tbl {ob : O} (q : OR B H ι a ob) : ∀ ps, H a ≠ some (.tbl ps) := fun ps z => by
  cases ob with
  | lst ds => obtain ⟨_, h, _⟩ := q; rw [h] at z; cases z
  | ins c ns ds => obtain ⟨_, _, _, _, _, h, _⟩ := q; rw [h] at z; cases z
  | dct ks ds => obtain ⟨_, _, h, _⟩ := q; rw [h] at z; cases z
  | dkt ks ds => obtain ⟨_, _, _, _, _, _, h, _⟩ := q; rw [h] at z; cases z
theorem or_nt {o : HO} {ob : O} (q : OR B (upd H a o) ι a ob) : ∀ ps, o ≠ .tbl ps := fun ps z => or_tbl q ps (by rw [upd_same, z])
theorem or_code {ob : O} (q : OR B H ι a ob) : ∀ c n, H a ≠ some (CodeO c n) := fun c n z => by
  cases ob with
  | lst ds => obtain ⟨_, h, _⟩ := q; rw [h] at z; cases z
  | ins c ns ds => obtain ⟨_, _, _, _, _, h, _⟩ := q; rw [h] at z; cases z
  | dct ks ds => obtain ⟨_, _, h, _⟩ := q; rw [h] at z; cases z
  | dkt ks ds => obtain ⟨_, _, _, _, _, _, h, _⟩ := q; rw [h] at z; exact dkO_ne (Option.some.inj z)
/-- a new object that is not of the store -/
theorem Step.new {o : HO} (S : Sim B H ι st) (h : H a = none) : Step ι H ι (upd H a o) :=
  ⟨⟨[], by simp, by simp⟩, fun b u _ _ e => by rw [upd_ne (ne_of_none e h)]; exact e⟩
theorem tab_upd {o : HO} (S : Sim B H ι st) (h : H a = none) : Tabs (NMs.T B.K) (upd H a o) := S.tab.ext fun b u e => by rw [upd_ne (ne_of_none e h)]; exact e
theorem Sim.new {o : HO} (S : Sim B H ι st) (h : H a = none) : Sim B (upd H a o) ι st := by
  have s : Step ι H ι (upd H a o) := Step.new S h
  have t1 := tab_upd (o := o) S h
  refine ⟨S.len, S.nd, fun n ob e => ?_, fun b hb => ?_, t1, fun b hb o' e => ?_⟩
  rotate_left 2
  · have nb : b ≠ a := fun z => by subst z; obtain ⟨⟨o1, e1⟩, _⟩ := S.rs b hb; rw [h] at e1; cases e1
    rw [upd_ne nb] at e; exact S.rp b hb o' e
  · obtain ⟨b, hb, q⟩ := S.ob n ob e
    exact ⟨b, hb, q.stays (fun u z => by rw [upd_ne (ne_of_none z h)]; exact z) fun ds xs r => r.step s⟩
  · obtain ⟨⟨o, e⟩, m⟩ := S.rs b hb
    exact ⟨⟨o, by rw [upd_ne (ne_of_none e h)]; exact e⟩, m⟩
/-- a new object, set aside -/
theorem Sim.reserve {o : HO} (S : Sim B H ι st) (h : H a = none) (pl : Pl o := by trivial) : Sim (B.more a) (upd H a o) ι st := by
  have s : Step ι H ι (upd H a o) := Step.new S h
  have t1 := tab_upd (o := o) S h
  refine ⟨S.len, S.nd, fun n ob e => ?_, fun b hb => ?_, t1, fun b hb o' e => ?_⟩
  rotate_left 2
  · rcases List.mem_cons.mp hb with z | z
    · subst z; rw [upd_same] at e; cases e; exact pl
    · have nb : b ≠ a := fun y => by subst y; obtain ⟨⟨o1, e1⟩, _⟩ := S.rs b z; rw [h] at e1; cases e1
      rw [upd_ne nb] at e; exact S.rp b z o' e
  · obtain ⟨b, hb, q⟩ := S.ob n ob e
    refine ⟨b, hb, ?_⟩
    have q1 : OR (B.more a) H ι b ob := OR.stays2 (B := B) (B' := B.more a) rfl (fun _ _ r => r.more h) q
    exact q1.stays (fun u z => by rw [upd_ne (ne_of_none z h)]; exact z) fun ds xs r => r.step s
  · rcases List.mem_cons.mp hb with z | z
    · subst z; exact ⟨⟨o, upd_same⟩, S.fresh h⟩
    · obtain ⟨⟨o', e⟩, m⟩ := S.rs b z
      exact ⟨⟨o', by rw [upd_ne (ne_of_none e h)]; exact e⟩, m⟩
theorem Sim.fr (S : Sim B H ι st) (h : H a = none) : a ∉ B.ρ := fun z => by
  obtain ⟨⟨o, e⟩, _⟩ := S.rs a z
  rw [h] at e; cases e
/-- a new object of the store -/
theorem Step.alloc {o : HO} (S : Sim B H ι st) (h : H a = none) : Step ι H (ι ++ [a]) (upd H a o) :=
  ⟨⟨[a], rfl, fun b hb => by have e : b = a := by simpa using hb
                             subst e; exact ⟨noH h, S.fresh h⟩⟩, fun b u _ _ e => by rw [upd_ne (ne_of_none e h)]; exact e⟩
theorem Sim.alloc {o : HO} {ob : O} (S : Sim B H ι st) (h : H a = none) (hq : OR B (upd H a o) (ι ++ [a]) a ob) : Sim B (upd H a o) (ι ++ [a]) (st ++ [ob]) := by
  have s : Step ι H (ι ++ [a]) (upd H a o) := Step.alloc S h
  have t1 := tab_upd (o := o) S h
  refine ⟨by simp [S.len], ?_, fun n ob' e => ?_, fun b hb => ?_, t1, fun b hb o' e => ?_⟩
  rotate_left 3
  · have nb : b ≠ a := fun z => by subst z; obtain ⟨⟨o1, e1⟩, _⟩ := S.rs b hb; rw [h] at e1; cases e1
    rw [upd_ne nb] at e; exact S.rp b hb o' e
  rotate_left 2
  · obtain ⟨⟨o', e⟩, m⟩ := S.rs b hb
    refine ⟨⟨o', by rw [upd_ne (ne_of_none e h)]; exact e⟩, fun z => ?_⟩
    rcases List.mem_append.mp z with z | z
    · exact m z
    · have : b = a := by simpa using z
      subst this; rw [h] at e; cases e
  · rw [List.nodup_append]
    refine ⟨S.nd, by simp, fun x hx y hy => ?_⟩
    have : y = a := by simpa using hy
    subst this
    rintro rfl
    exact S.fresh h hx
  · by_cases hn : n < st.length
    · rw [List.getElem?_append_left hn] at e
      obtain ⟨b, hb, q⟩ := S.ob n ob' e
      exact ⟨b, s.ix hb, q.stays (fun u z => by rw [upd_ne (ne_of_none z h)]; exact z) fun ds xs r => r.step s⟩
    · have hn' : n = st.length := by
        have := (List.getElem?_eq_some_iff.mp e).1
        simp at this
        omega
      subst hn'
      rw [List.getElem?_append_right (by omega)] at e
      simp at e
      subst e
      exact ⟨a, by rw [← S.len, List.getElem?_append_right (by omega)]; simp, hq⟩
theorem Sim.less {p : Addr} (S : Sim (B.more p) H ι st) : Sim B H ι st :=
  ⟨S.len, S.nd, fun n' o e => let ⟨a, h, q⟩ := S.ob n' o e; ⟨a, h, OR.stays2 (B := B.more p) (B' := B) rfl (fun _ _ r => r.less.1) q⟩, fun a ha => S.rs a (List.mem_cons_of_mem _ ha), S.tab, fun a ha => S.rp a (List.mem_cons_of_mem _ ha)⟩
theorem VEnv.more {p : Addr} (h : VEnv B H ι env σ) (n : H p = none) : VEnv (B.more p) H ι env σ :=
  ⟨h.1, fun i d e => let ⟨v, a, b⟩ := h.2 i d e; ⟨v, a, b.more n⟩⟩
theorem VEnv.less {p : Addr} (h : VEnv (B.more p) H ι env σ) : VEnv B H ι env σ :=
  ⟨h.1, fun i d e => let ⟨v, a, b⟩ := h.2 i d e; ⟨v, a, b.less.1⟩⟩
/-- a list that was set aside goes into the store -/
theorem Sim.take {p : Addr} {ds : List D} {xs : List V} (S : Sim (B.more p) H ι st) (hb : p ∉ B.ρ) (hp : H p = some (.lst xs)) (r : VRs (B.more p) H ι ds xs) : Sim B H (ι ++ [p]) (st ++ [.lst ds]) := by
  have h : p ∉ ι := (S.rs p List.mem_cons_self).2
  refine ⟨by simp [S.len], ?_, fun n ob' e => ?_, fun b hb' => ⟨(S.rs b (List.mem_cons_of_mem _ hb')).1, fun z => ?_⟩, S.tab, fun b hb' => S.rp b (List.mem_cons_of_mem _ hb')⟩
  rotate_left 2
  · rcases List.mem_append.mp z with z | z
    · exact (S.rs b (List.mem_cons_of_mem _ hb')).2 z
    · have : b = p := by simpa using z
      subst this; exact hb hb'
  · rw [List.nodup_append]
    refine ⟨S.nd, by simp, fun x hx y hy => ?_⟩
    have : y = p := by simpa using hy
    subst this
    rintro rfl
    exact h hx
  · by_cases hn : n < st.length
    · rw [List.getElem?_append_left hn] at e
      obtain ⟨b, hb, q⟩ := S.ob n ob' e
      exact ⟨b, by rw [List.getElem?_append_left (List.getElem?_eq_some_iff.mp hb).1]; exact hb, OR.stays2 (B := B.more p) (B' := B) rfl (fun _ _ r => r.less.2) q⟩
    · have hn' : n = st.length := by
        have := (List.getElem?_eq_some_iff.mp e).1
        simp at this
        omega
      subst hn'
      rw [List.getElem?_append_right (by omega)] at e
      simp at e
      subst e
      exact ⟨p, by rw [← S.len, List.getElem?_append_right (by omega)]; simp, xs, hp, r.less.2⟩
/-- an object of the store changes -/
theorem Step.write {o : HO} {n : Nat} (h : ι[n]? = some a) : Step ι H ι (upd H a o) :=
  ⟨⟨[], by simp, by simp⟩, fun b u hb _ e => by rw [upd_ne (fun z => hb (by rw [z]; exact List.mem_of_getElem? h))]; exact e⟩
theorem Sim.write {o : HO} {ob : O} {n : Nat} (S : Sim B H ι st) (h : ι[n]? = some a) (hq : OR B (upd H a o) ι a ob) : Sim B (upd H a o) ι (st.set n ob) := by
  have s : Step ι H ι (upd H a o) := Step.write h
  obtain ⟨o0, h0⟩ : ∃ o0, st[n]? = some o0 := ⟨_, List.getElem?_eq_getElem (by rw [← S.len]; exact (List.getElem?_eq_some_iff.mp h).1)⟩
  have q0 : OR B H ι a o0 := by
    obtain ⟨b, hb, q⟩ := S.ob n o0 h0
    rw [h] at hb; cases hb; exact q
  have t1 : Tabs (NMs.T B.K) (upd H a o) := tabs_keep S.tab fun b u k e => by
    have nb : b ≠ a := fun z => by
      subst z
      rcases k with ⟨ps, rfl⟩ | ⟨c, q, rfl⟩
      · exact or_tbl q0 _ e
      · exact or_code q0 _ _ e
    rw [upd_ne nb]; exact e
  refine ⟨by simp [S.len], S.nd, fun m ob' e => ?_, fun b hb => ⟨?_, (S.rs b hb).2⟩, t1, fun b hb o' e => by
    rw [upd_ne (fun z => (S.rs b hb).2 (by rw [z]; exact List.mem_of_getElem? h))] at e; exact S.rp b hb o' e⟩
  rotate_left 1
  · obtain ⟨⟨o', e⟩, m⟩ := S.rs b hb
    exact ⟨o', by rw [upd_ne (fun z => m (by rw [z]; exact List.mem_of_getElem? h))]; exact e⟩
  by_cases hm : n = m
  · subst hm
    have hl : n < st.length := by rw [← S.len]; exact (List.getElem?_eq_some_iff.mp h).1
    rw [List.getElem?_set_self hl] at e
    cases e
    exact ⟨a, h, hq⟩
  · rw [List.getElem?_set_ne hm] at e
    obtain ⟨b, hb, q⟩ := S.ob m ob' e
    have nb : b ≠ a := fun z => by
      subst z
      obtain ⟨l1, e1⟩ := List.getElem?_eq_some_iff.mp h
      obtain ⟨l2, e2⟩ := List.getElem?_eq_some_iff.mp hb
      exact hm ((List.getElem_inj S.nd).mp (e1.trans e2.symm))
    exact ⟨b, hb, q.stays (fun u z => by rw [upd_ne nb]; exact z) fun ds xs r => r.step s⟩
theorem Sim.look (S : Sim B H ι st) {n : Nat} {o : O} (h : st[n]? = some o) {a : Addr} (ha : ι[n]? = some a) : OR B H ι a o := by
  obtain ⟨b, hb, q⟩ := S.ob n o h
  rw [ha] at hb; cases hb
  exact q
end
end DD

/-! DD2: readings by total functions; expressions. -/
namespace DD
open PySem L2
variable [NMs]

/-- how a result is seen: from the start (H, ι) to now (H', ι', the store) -/
structure Rel (α β : Type) where
  r : Bs → Hp → List Addr → Hp → List Addr → Sto → α → β → Prop
  back : ∀ {B ι H ι1 H1 H2 ι2 st a b}, Step ι H ι1 H1 → r B H1 ι1 H2 ι2 st a b → r B H ι H2 ι2 st a b
def relV : Rel D V := ⟨fun B _ _ H ι _ d v => VR B H ι d v, fun _ h => h⟩
def relA : Rel (List D) (List V) := ⟨fun B _ _ H ι _ d v => VRs B H ι d v, fun _ h => h⟩
def relB : Rel Bool Bool := ⟨fun _ _ _ _ _ _ d v => v = d, fun _ h => h⟩
/-- a new list, which nothing else hangs on -/
def relL : Rel (List D) V := ⟨fun B H ι H' ι' st ds v => ∃ p xs, v = .ref p ∧ H' p = some (.lst xs) ∧ NoH H p ∧ p ∉ ι ∧ p ∉ B.ρ ∧ VRs (B.more p) H' ι' ds xs ∧ Sim (B.more p) H' ι' st, by
  rintro B ι H ι1 H1 H2 ι2 st a b s ⟨p, xs, e, h, n, m, r⟩
  have m0 : p ∉ ι := fun z => m (s.mem z)
  exact ⟨p, xs, e, h, NoH.back s m0 n, m0, r⟩⟩

def ExcR (B : Bs) (H : Hp) (ι : List Addr) (x : Xc) (cls : Value) (dd : Option Addr) : Prop :=
  ∃ C, cls = .ref C ∧ B.mg x.1 = some (.ref C) ∧ match x.2 with
    | none => dd = none
    | some (f, d) => ∃ p v, dd = some p ∧ H p = some (.xd [(f, v)]) ∧ VR B H ι d v

def Post {α β : Type} (B : Bs) (R : Rel α β) (W : WX) (σ : L2.St) (ι : List Addr) (H : Hp) (r : Res α) (Q : β → Hp → Prop) : Prop := match r with
  | .ok a st' => ∀ ι' H' b, Step ι H ι' H' → Sim B H' ι' st' → R.r B H ι H' ι' st' a b → Q b H'
  | .exc x st' => ∀ ι' H' cls dd, Step ι H ι' H' → Sim B H' ι' st' → ExcR B H' ι' x cls dd → W cls dd σ H'
  | .bad => False
/-- the base of a context -/
abbrev bs (X : Cx) (ρ : List Addr) : Bs := ⟨X.K, X.mg, ρ⟩
def tG {α β : Type} (K : PySem.W.Frag) (mg : Str → Option Value) (R : Rel α β) (W : WX) (d : Env → Sto → Res α) : L2.St → Hp → (β → Hp → Prop) → Prop := fun σ H Q =>
  ∃ ρ ι st env, Sim ⟨K, mg, ρ⟩ H ι st ∧ VEnv ⟨K, mg, ρ⟩ H ι env σ ∧ Post ⟨K, mg, ρ⟩ R W σ ι H (d env st) Q

section
variable {α β γ δ : Type} {B : Bs} {R : Rel α β} {R' : Rel γ δ} {W : WX} {H H' : Hp} {ι ι' : List Addr} {st st' : Sto} {env : Env} {σ : L2.St} {Q : β → Hp → Prop} {Q' : δ → Hp → Prop}
theorem Post.step (s : Step ι H ι' H') {r : Res α} (h : Post B R W σ ι H r Q) : Post B R W σ ι' H' r Q := by
  cases r with
  | ok a st' => exact fun ι2 H2 b s2 S2 r2 => h ι2 H2 b (s.trans s2) S2 (R.back s r2)
  | exc x st' => exact fun ι2 H2 c d s2 S2 r2 => h ι2 H2 c d (s.trans s2) S2 r2
  | bad => exact h
/-- one thing, then another -/
theorem Post.bind {r : Res α} {f : α → Sto → Res γ} {G : β → Hp → Prop} (h : Post B R' W σ ι H (r.bind f) Q')
    (hk : ∀ a st1 ι1 H1 b, Step ι H ι1 H1 → Sim B H1 ι1 st1 → R.r B H ι H1 ι1 st1 a b → Post B R' W σ ι1 H1 (f a st1) Q' → G b H1) : Post B R W σ ι H r G := by
  cases r with
  | ok a st' => exact fun ι1 H1 b s S q => hk a st' ι1 H1 b s S q (Post.step s h)
  | exc x st' => exact h
  | bad => exact h
/-- .. where the second begins elsewhere -/
theorem Post.bind0 {r : Res α} {f : α → Sto → Res γ} {G : β → Hp → Prop} (h : Post B R' W σ ι H (r.bind f) Q')
    (hk : ∀ a st1 ι1 H1 b, Step ι H ι1 H1 → Sim B H1 ι1 st1 → R.r B H ι H1 ι1 st1 a b → Post B R' W σ ι H (f a st1) Q' → G b H1) : Post B R W σ ι H r G := by
  cases r with
  | ok a st' => exact fun ι1 H1 b s S q => hk a st' ι1 H1 b s S q h
  | exc x st' => exact h
  | bad => exact h
theorem Post.ok {a : α} {b : β} (h : Post B R W σ ι H (.ok a st) Q) (S : Sim B H ι st) (r : R.r B H ι H ι st a b) : Q b H := h ι H b (Step.refl _ _) S r
/-- the result lies in a new heap -/
theorem Post.ok' {a : α} {b : β} (h : Post B R W σ ι H (.ok a st) Q) (s : Step ι H ι' H') (S : Sim B H' ι' st) (r : R.r B H ι H' ι' st a b) : Q b H' := h ι' H' b s S r
end

def PEd (X : Cx) (W : WX) (e : Expr) (d : DE) : Prop := PE X e (tG X.K X.mg relV W d)
def PTd (X : Cx) (W : WX) (e : Expr) (d : DT) : Prop := PT X e (tG X.K X.mg relB W d)
def PWd (X : Cx) (W : WX) (e : Expr) (d : DT) : Prop := PW X e (tG X.K X.mg relB W d)
def PAd (X : Cx) (W : WX) (es : List Expr) (d : DA) : Prop := PA X es (tG X.K X.mg relA W d)
/-- an expression that gives a new list -/
def PLd (X : Cx) (W : WX) (e : Expr) (d : DA) : Prop := PE X e (tG X.K X.mg relL W d)

section
variable {X : Cx} {W : WX} {e a b c : Expr} {es : List Expr} {da db dc : DE} {ds : DA} {t t' : TE} {u u' : TT} {v v' : TA}
theorem PE.mono (h : PE X e t) (k : ∀ σ H Q, t' σ H Q → t σ H Q) : PE X e t' := ⟨fun p s σ H Q I q => h.run p s σ H Q I (k σ H Q q)⟩
theorem PT.mono (h : PT X e u) (k : ∀ σ H Q, u' σ H Q → u σ H Q) : PT X e u' := ⟨fun p s σ H Q I q => h.run p s σ H Q I (k σ H Q q)⟩
theorem PW.mono (h : PW X e u) (k : ∀ σ H Q, u' σ H Q → u σ H Q) : PW X e u' := ⟨fun w p s σ H Q I q => h.run w p s σ H Q I (k σ H Q q)⟩
theorem PA.mono (h : PA X es v) (k : ∀ σ H Q, v' σ H Q → v σ H Q) : PA X es v' := ⟨fun po p s σ H Q I q => h.run po p s σ H Q I (k σ H Q q)⟩
theorem PWd.pt {u : DT} (h : PWd X W e u) : PTd X W e u := PW.pt h

/-! ### names, constants -/
def dVar (i : Nat) : DE := fun env st => match env[i]? with
  | some (some d) => .ok d st
  | _ => .bad
def dC (d : D) : DE := fun _ st => .ok d st
theorem pd_var {i : Nat} {x : Expr} (h : PE X x (tVar i)) : PEd X W x (dVar i) := PE.mono h fun σ H Q ⟨ρ, ι, st, env, S, ve, p⟩ => by
  unfold dVar at p
  cases q : env[i]? with
  | none => rw [q] at p; exact p.elim
  | some o => cases o with
    | none => rw [q] at p; exact p.elim
    | some d =>
      rw [q] at p
      obtain ⟨v, h1, h2⟩ := ve.2 i d q
      exact ⟨v, h1, p.ok S h2⟩
/-- what is one and the same value in every heap -/
def Flat : D → V → Prop
  | .non, v => v = .non
  | .bl b, v => v = .bl b
  | .int i, v => v = .int i
  | .str x, v => v = .str x
  | .ty n, v => v = .ty n
  | _, _ => False
theorem Flat.vr {B H ι} {d : D} {v : V} (h : Flat d v) : VR B H ι d v := by
  cases d <;> first | exact h | exact h.elim
theorem pd_c {d : D} {v : V} (h : PE X e (tC v)) (f : Flat d v) : PEd X W e (dC d) := PE.mono h fun σ H Q ⟨ρ, ι, st, env, S, ve, p⟩ => p.ok S f.vr
theorem pd_int {i j pos} : PEd X W (.Constant (.int i) j pos) (dC (.int i)) := pd_c pe_int rfl
theorem pd_bl {i j pos} : PEd X W (.Constant (.bool i) j pos) (dC (.bl i)) := pd_c pe_bl rfl
theorem pd_non {j pos} : PEd X W (.Constant .none j pos) (dC .non) := pd_c pe_non rfl
theorem pd_str {i j pos} : PEd X W (.Constant (.str i) j pos) (dC (.str i)) := pd_c pe_str rfl

/-! ### operators -/
abbrev F2 := D → D → Sto → Res D
/-- a rule by values is answered by a function of data -/
def RD (K : PySem.W.Frag) (mg : Str → Option Value) (r : R2) (f : F2) : Prop :=
  ∀ {ρ ι H st x y v u W σ} {Q : VK}, Sim ⟨K, mg, ρ⟩ H ι st → VR ⟨K, mg, ρ⟩ H ι x v → VR ⟨K, mg, ρ⟩ H ι y u → Post ⟨K, mg, ρ⟩ relV W σ ι H (f x y st) Q → r v u H Q
def dBin (f : F2) (da db : DE) : DE := fun env st => (da env st).bind fun x st1 => (db env st1).bind fun y st2 => f x y st2
theorem bin_read {r : R2} {f : F2} {K : PySem.W.Frag} {mg : Str → Option Value} (hr : RD K mg r f) {σ : L2.St} {H : Hp} {Q : VK} (h : tG K mg relV W (dBin f da db) σ H Q) : tOp r (tG K mg relV W da) (tG K mg relV W db) σ H Q := by
  obtain ⟨ρ, ι, st, env, S, ve, p⟩ := h
  refine ⟨ρ, ι, st, env, S, ve, Post.bind p fun x st1 ι1 H1 v s1 S1 rx p1 => ?_⟩
  refine ⟨ρ, ι1, st1, env, S1, ve.step s1, Post.bind p1 fun y st2 ι2 H2 u s2 S2 ry p2 => ?_⟩
  exact hr S2 (rx.step s2) ry p2
theorem pd_op {op : Operator} {r : R2} {f : F2} {pos : Pos} (ho : OpR X (binaryOp op) r) (hr : RD X.K X.mg r f) (ha : PEd X W a da) (hb : PEd X W b db) : PEd X W (.BinOp a op b pos) (dBin f da db) :=
  PE.mono (pe_op ho ha hb) fun _ _ _ h => bin_read hr h
theorem pd_cmp {op : CmpOp} {r : R2} {f : F2} {pos : Pos} (ho : OpR X (compareOp op) r) (hr : RD X.K X.mg r f) (ha : PEd X W a da) (hb : PEd X W b db) (hm : behindInMarks op b = false) : PEd X W (.Compare a [op] [b] pos) (dBin f da db) :=
  PE.mono (pe_cmpR ho ha hb hm) fun _ _ _ h => bin_read hr h
theorem pd_ix {r : R2} {f : F2} {pos : Pos} (ho : IxR X r) (hr : RD X.K X.mg r f) (ha : PEd X W a da) (hb : PEd X W b db) (hs : PlainIx b := by exact fun _ _ => rfl) : PEd X W (.Subscript a b pos) (dBin f da db) :=
  PE.mono (pe_ix ho ha hb hs) fun _ _ _ h => bin_read hr h
theorem OpR.or {f : Value → Value → Sem Value} {r1 r2 : R2} (h1 : OpR X f r1) (h2 : OpR X f r2) : OpR X f (fun x y H Q => r1 x y H Q ∨ r2 x y H Q) := fun pins s σ H x y v u Q I rx ry h => h.elim (h1 pins s σ H x y v u Q I rx ry) (h2 pins s σ H x y v u Q I rx ry)
/-- one place -/
abbrev F1 := D → Sto → Res D
def RU1 (K : PySem.W.Frag) (mg : Str → Option Value) (r : V → Hp → VK → Prop) (f : F1) : Prop :=
  ∀ {ρ ι H st x v W σ} {Q : VK}, Sim ⟨K, mg, ρ⟩ H ι st → VR ⟨K, mg, ρ⟩ H ι x v → Post ⟨K, mg, ρ⟩ relV W σ ι H (f x st) Q → r v H Q
def dUn (f : F1) (da : DE) : DE := fun env st => (da env st).bind fun x st1 => f x st1
theorem pd_un {op : UnaryOp} {r : V → Hp → VK → Prop} {f : F1} {pos : Pos} (ho : UnR X (unaryOp op) r) (hr : RU1 X.K X.mg r f) (ha : PEd X W a da) : PEd X W (.UnaryOp op a pos) (dUn f da) :=
  PE.mono (pe_un ho ha) fun _ _ _ ⟨ρ, ι, st, env, S, ve, p⟩ => ⟨ρ, ι, st, env, S, ve, Post.bind p fun x st1 ι1 H1 v s1 S1 rx p1 => hr S1 rx p1⟩

/-! ### arguments, tuples, lists -/
def dNil : DA := fun _ st => .ok [] st
def dCons (da : DE) (ds : DA) : DA := fun env st => (da env st).bind fun x st1 => (ds env st1).bind fun xs st2 => .ok (x :: xs) st2
theorem pad_nil : PAd X W [] dNil := PA.mono pa_nil fun σ H Q ⟨ρ, ι, st, env, S, ve, p⟩ => p.ok S rfl
theorem cons_read {K : PySem.W.Frag} {mg : Str → Option Value} {σ : L2.St} {H : Hp} {Q : List V → Hp → Prop} (h : tG K mg relA W (dCons da ds) σ H Q) : tCons (tG K mg relV W da) (tG K mg relA W ds) σ H Q := by
  obtain ⟨ρ, ι, st, env, S, ve, p⟩ := h
  refine ⟨ρ, ι, st, env, S, ve, Post.bind p fun x st1 ι1 H1 v s1 S1 rx p1 => ?_⟩
  refine ⟨ρ, ι1, st1, env, S1, ve.step s1, Post.bind p1 fun y st2 ι2 H2 u s2 S2 ry p2 => ?_⟩
  exact p2.ok S2 ⟨v, u, rfl, rx.step s2, ry⟩
theorem pad_cons (ha : PEd X W e da) (hr : PAd X W es ds) (hs : starEach (e :: es) X.env = (false, eval e X.env) :: starEach es X.env := by rfl) : PAd X W (e :: es) (dCons da ds) :=
  PA.mono (pa_cons ha hr hs) fun _ _ _ h => cons_read h
def bigLine : Nat := 1000000
theorem big_le {n : Nat} (h : n ≤ bigLine) : n ≤ sizeLine := Nat.le_trans h (by decide)
theorem big_lt {n : Nat} (h : n ≤ bigLine) : n < sizeLine := Nat.lt_of_le_of_lt h (by decide)
def dTup (ds : DA) : DE := fun env st => (ds env st).bind fun xs st1 => if xs.length ≤ bigLine then .ok (.tup xs) st1 else .bad
theorem pd_tup {x1 pos} (h : PAd X W es ds) : PEd X W (.Tuple es x1 pos) (dTup ds) := PE.mono (pe_tup h) fun σ H Q ⟨ρ, ι, st, env, S, ve, p⟩ => by
  refine ⟨ρ, ι, st, env, S, ve, Post.bind p fun xs st1 ι1 H1 vs s1 S1 rx p1 => ?_⟩
  have rx : VRs (bs X ρ) H1 ι1 xs vs := rx
  by_cases hl : xs.length ≤ bigLine
  · rw [if_pos hl] at p1
    refine ⟨by rw [← rx.length]; exact big_le hl, fun q hq => ?_⟩
    exact p1.ok' (Step.new S1 hq) (S1.new hq) ⟨q, vs, rfl, .inl ⟨.inl upd_same, S1.fresh hq, S1.fr hq⟩, rx.step (Step.new S1 hq)⟩
  · rw [if_neg hl] at p1; exact p1.elim
def dLst (ds : DA) : DA := fun env st => (ds env st).bind fun xs st1 => if xs.length ≤ bigLine then .ok xs st1 else .bad
theorem pld_lst {pos} (h : PAd X W es ds) : PLd X W (.List es pos) (dLst ds) := PE.mono (pe_lst h) fun σ H Q ⟨ρ, ι, st, env, S, ve, p⟩ => by
  refine ⟨ρ, ι, st, env, S, ve, Post.bind p fun xs st1 ι1 H1 vs s1 S1 rx p1 => ?_⟩
  have rx : VRs (bs X ρ) H1 ι1 xs vs := rx
  by_cases hl : xs.length ≤ bigLine
  · rw [if_pos hl] at p1
    refine ⟨by rw [← rx.length]; exact big_le hl, fun q hq => ?_⟩
    exact p1.ok' (Step.new S1 hq) (S1.new hq) ⟨q, vs, rfl, upd_same, noH hq, S1.fresh hq, S1.fr hq, (rx.more hq).step (Step.new S1 hq), S1.reserve hq⟩
  · rw [if_neg hl] at p1; exact p1.elim
/-- a new list that will not change: by value -/
def dFz (ds : DA) : DE := fun env st => (ds env st).bind fun xs st1 => .ok (.fz xs) st1
theorem pd_fz (h : PLd X W e ds) : PEd X W e (dFz ds) := PE.mono h fun σ H Q ⟨ρ, ι, st, env, S, ve, p⟩ => by
  refine ⟨ρ, ι, st, env, S, ve, Post.bind p fun xs st1 ι1 H1 v s1 S1 rx p1 => ?_⟩
  obtain ⟨q, ys, rfl, h1, h2, m, m', r, S2⟩ := rx
  exact p1.ok S1 ⟨q, ys, rfl, h1, ⟨(S2.rs q List.mem_cons_self).2, m'⟩, r.less.1⟩
/-- a new list that goes into the store -/
def dNew (ds : DA) : DE := fun env st => (ds env st).bind fun xs st1 => .ok (.ref st1.length) (st1 ++ [.lst xs])
theorem pd_new (h : PLd X W e ds) : PEd X W e (dNew ds) := PE.mono h fun σ H Q ⟨ρ, ι, st, env, S, ve, p⟩ => by
  refine ⟨ρ, ι, st, env, S, ve, Post.bind0 p fun xs st1 ι1 H1 v s1 S1 rx p1 => ?_⟩
  obtain ⟨q, ys, rfl, h1, h2, m, m', r, S2⟩ := rx
  obtain ⟨more, e1, f1⟩ := id s1.pre
  have sT : Step ι H (ι1 ++ [q]) H1 := ⟨⟨more ++ [q], by rw [e1, List.append_assoc], fun a ha => by
    rcases List.mem_append.mp ha with z | z
    · exact f1 a z
    · have : a = q := by simpa using z
      subst this
      exact ⟨h2, m⟩⟩, s1.rest0⟩
  exact p1.ok' sT (S2.take m' h1 r) ⟨q, by rw [← S1.len, List.getElem?_append_right (by omega)]; simp, rfl⟩
end
end DD

/-! DD3: operations on data. -/
namespace DD
open PySem L2 PyProof.Rows
variable [NMs]

section
variable {K : PySem.W.Frag} {mg : Str → Option Value}
/-! ### + -/
def fAdd : F2 := fun x y st => match x, y with
  | .int i, .int j => .ok (.int (i + j)) st
  | .str a, .str b => if a.length + b.length ≤ bigLine then .ok (.str (a ++ b)) st else .bad
  | .tup a, .tup b => if a.length + b.length ≤ bigLine then .ok (.tup (a ++ b)) st else .bad
  | .fz a, .fz b => if a.length + b.length ≤ bigLine then .ok (.fz (a ++ b)) st else .bad
  | .int i, .bl k => .ok (.int (i + b2i k)) st
  | _, _ => .bad
def rAddAll (K : PySem.W.Frag) : R2 := fun x y H Q => (∃ i j, x = .int i ∧ y = .int j ∧ Q (.int (i + j)) H) ∨ (∃ i j, x = .str i ∧ y = .str j ∧ i.length + j.length ≤ sizeLine ∧ Q (.str (i ++ j)) H) ∨ rCatA K x y H Q ∨ rCat x y H Q ∨ (∃ i k, x = .int i ∧ y = .bl k ∧ Q (.int (i + b2i k)) H)
theorem op_addAll {X : Cx} : OpR X (binaryOp .Add) (rAddAll X.K) := OpR.or op_add (OpR.or op_add_str (OpR.or op_catA (OpR.or op_cat op_add_ib)))
theorem rd_add : RD K mg (rAddAll K) fAdd := by
  intro ρ ι H st x y v u W σ Q S rx ry p
  unfold fAdd at p
  cases x <;> cases y <;> (try exact p.elim)
  · cases rx; cases ry; exact .inr (.inr (.inr (.inr ⟨_, _, rfl, rfl, p.ok S rfl⟩)))
  · cases rx; cases ry; exact .inl ⟨_, _, rfl, rfl, p.ok S rfl⟩
  · cases rx; cases ry
    rename_i a b
    by_cases hl : a.length + b.length ≤ bigLine
    · simp only [hl, if_true] at p
      exact .inr (.inl ⟨_, _, rfl, rfl, big_le hl, p.ok S rfl⟩)
    · simp only [hl, if_false] at p; exact p.elim
  · rename_i a b
    by_cases hl : a.length + b.length ≤ bigLine
    · simp only [hl, if_true] at p
      obtain ⟨q1, xs, rfl, h1, r1⟩ := id rx
      obtain ⟨q2, ys, rfl, h2, r2⟩ := id ry
      have l1 := r1.length
      have l2 := r2.length
      refine .inr (.inr (.inl ⟨q1, q2, xs, ys, rfl, rfl, h1.sq, h2.sq, by rw [← l1, ← l2]; exact big_le hl, fun e => ?_, fun _ e => ?_, fun _ _ q hq => ?_⟩))
      · subst e
        have : a = [] := List.length_eq_zero_iff.mp l1
        subst this
        exact p.ok S ry
      · subst e
        have : b = [] := List.length_eq_zero_iff.mp l2
        subst this
        rw [List.append_nil] at p
        exact p.ok S rx
      · have s := Step.new S hq (o := .tup (xs ++ ys))
        exact p.ok' s (S.new hq) ⟨q, xs ++ ys, rfl, .inl ⟨.inl upd_same, S.fresh hq, S.fr hq⟩, (r1.append r2).step s⟩
    · simp only [hl, if_false] at p; exact p.elim
  · rename_i a b
    by_cases hl : a.length + b.length ≤ bigLine
    · simp only [hl, if_true] at p
      obtain ⟨q1, xs, rfl, h1, n1, r1⟩ := id rx
      obtain ⟨q2, ys, rfl, h2, n2, r2⟩ := id ry
      have l1 := r1.length
      have l2 := r2.length
      refine .inr (.inr (.inr (.inl ⟨q1, q2, xs, ys, rfl, rfl, h1, h2, by rw [← l1, ← l2]; exact big_le hl, fun q hq => ?_⟩)))
      have s := Step.new S hq (o := .lst (xs ++ ys))
      exact p.ok' s (S.new hq) ⟨q, xs ++ ys, rfl, upd_same, ⟨S.fresh hq, S.fr hq⟩, (r1.append r2).step s⟩
    · simp only [hl, if_false] at p; exact p.elim
/-! ### ints -/
/-- two ints under a condition -/
def fI (C : Int → Int → Bool) (g : Int → Int → D) : F2 := fun x y st => match x, y with
  | .int i, .int j => if C i j = true then .ok (g i j) st else .bad
  | _, _ => .bad
theorem rd_I {C : Int → Int → Bool} {C' : Int → Int → Prop} {g : Int → Int → D} {g' : Int → Int → V} (h : ∀ i j, C i j = true → C' i j ∧ Flat (g i j) (g' i j)) : RD K mg (rI C' g') (fI C g) := by
  intro ρ ι H st x y v u W σ Q S rx ry p
  unfold fI at p
  cases x <;> cases y <;> (try exact p.elim)
  cases rx; cases ry
  rename_i i j
  by_cases hc : C i j = true
  · simp only [hc, if_true] at p
    exact ⟨_, _, rfl, rfl, (h i j hc).1, p.ok S (h i j hc).2.vr⟩
  · simp only [hc, if_false] at p; exact p.elim
theorem rd_I0 {g : Int → Int → D} {g' : Int → Int → V} (h : ∀ i j, Flat (g i j) (g' i j)) : RD K mg (rI0 g') (fI (fun _ _ => true) g) := by
  intro ρ ι H st x y v u W σ Q S rx ry p
  unfold fI at p
  cases x <;> cases y <;> (try exact p.elim)
  cases rx; cases ry
  exact ⟨_, _, rfl, rfl, p.ok S (h _ _).vr⟩
def fSub : F2 := fI (fun _ _ => true) fun i j => .int (i - j)
theorem rd_sub : RD K mg (rI0 fun i j => .int (i - j)) fSub := by unfold fSub; exact rd_I0 (by intro i j; exact rfl)
def cMul0 (i j : Int) : Bool := (decide (-(2 ^ 64) < i) && decide (i < 2 ^ 64)) || (decide (-(2 ^ 64) < j) && decide (j < 2 ^ 64))
/-- sealed: the kernel is not to reckon with 2 ^ 64 -/
theorem x_cMul : ∃ f : Int → Int → Bool, f = cMul0 := ⟨_, rfl⟩
noncomputable def cMul : Int → Int → Bool := x_cMul.choose
theorem cMul_e : cMul = cMul0 := x_cMul.choose_spec
noncomputable def fMul : F2 := fI cMul fun i j => .int (i * j)
theorem rd_mul : RD K mg (rI CMul fun i j => .int (i * j)) fMul := rd_I fun i j h => by
  rw [cMul_e] at h
  unfold cMul0 at h
  simp only [Bool.or_eq_true, Bool.and_eq_true, decide_eq_true_eq] at h
  exact ⟨h, rfl⟩
def fMod : F2 := fI (fun _ j => decide (0 < j)) fun i j => .int (i % j)
theorem rd_mod : RD K mg (rI (fun _ j => 0 < j) fun i j => .int (i % j)) fMod := by unfold fMod; exact rd_I (by intro i j h; exact ⟨of_decide_eq_true h, rfl⟩)
theorem x_cDiv : ∃ f : Int → Bool, f = fun j => decide (0 < j) && decide (j < 1073741824) := ⟨_, rfl⟩
noncomputable def cDiv : Int → Bool := x_cDiv.choose
theorem cDiv_e : cDiv = fun j => decide (0 < j) && decide (j < 1073741824) := x_cDiv.choose_spec
theorem cDiv_to {j : Int} (h : 0 < j ∧ j < 1073741824) : cDiv j = true := by rw [cDiv_e]; simp [h.1, h.2]
noncomputable def fDiv : F2 := fI (fun _ j => cDiv j) fun i j => .int (i / j)
theorem rd_div : RD K mg (rI CDiv fun i j => .int (i / j)) fDiv := rd_I fun i j h => by
  rw [cDiv_e] at h
  simp only [Bool.and_eq_true, decide_eq_true_eq] at h
  exact ⟨h, rfl⟩
def fPow : F2 := fI (fun i j => decide (0 ≤ j) && decide (j ≤ 1000) && decide (i.natAbs < 1000)) fun i j => .int (i ^ j.toNat)
theorem rd_pow : RD K mg (rI CPow fun i j => .int (i ^ j.toNat)) fPow := rd_I fun i j h => by
  simp only [Bool.and_eq_true, decide_eq_true_eq] at h
  exact ⟨⟨h.1.1, by omega, Nat.lt_trans h.2 (by decide)⟩, rfl⟩
def fLt : F2 := fI (fun _ _ => true) fun i j => .bl (decide (i < j))
def fLe : F2 := fI (fun _ _ => true) fun i j => .bl (decide (i ≤ j))
def fGt : F2 := fI (fun _ _ => true) fun i j => .bl (decide (j < i))
def fGe : F2 := fI (fun _ _ => true) fun i j => .bl (decide (j ≤ i))
theorem rd_lt : RD K mg (rI0 fun i j => .bl (decide (i < j))) fLt := by unfold fLt; exact rd_I0 (by intro i j; exact rfl)
theorem rd_le : RD K mg (rI0 fun i j => .bl (decide (i ≤ j))) fLe := by unfold fLe; exact rd_I0 (by intro i j; exact rfl)
theorem rd_gt : RD K mg (rI0 fun i j => .bl (decide (j < i))) fGt := by unfold fGt; exact rd_I0 (by intro i j; exact rfl)
theorem rd_ge : RD K mg (rI0 fun i j => .bl (decide (j ≤ i))) fGe := by unfold fGe; exact rd_I0 (by intro i j; exact rfl)
/-- < of ints and of texts -/
def fLtS : F2 := fun x y st => match x, y with
  | .int i, .int j => .ok (.bl (decide (i < j))) st
  | .str a, .str b => .ok (.bl (decide (a.cps.toList < b.cps.toList))) st
  | _, _ => .bad
def rLtS : R2 := fun x y H Q => (∃ i j, x = .int i ∧ y = .int j ∧ Q (.bl (decide (i < j))) H) ∨ (∃ i j, x = .str i ∧ y = .str j ∧ Q (.bl (decide (i.cps.toList < j.cps.toList))) H)
theorem op_ltS {X : Cx} : OpR X (compareOp .Lt) rLtS := OpR.or op_lt op_lt_str
theorem rd_ltS : RD K mg rLtS fLtS := by
  intro ρ ι H st x y v u W σ Q S rx ry p
  unfold fLtS at p
  cases x <;> cases y <;> (try exact p.elim)
  · cases rx; cases ry; exact .inl ⟨_, _, rfl, rfl, p.ok S rfl⟩
  · cases rx; cases ry; exact .inr ⟨_, _, rfl, rfl, p.ok S rfl⟩
def fNeg : F1 := fun x st => match x with
  | .int i => .ok (.int (-i)) st
  | _ => .bad
theorem rd_neg : RU1 K mg (rU fun i => .int (-i)) fNeg := by
  intro ρ ι H st x v W σ Q S rx p
  cases x <;> (try exact p.elim)
  cases rx
  exact ⟨_, rfl, p.ok S rfl⟩
/-! ### an item -/
def fIx : F2 := fun x y st => match x, y with
  | .tup ds, .int i => match atI ds i with
    | some d => .ok d st
    | none => .bad
  | .fz ds, .int i => match atI ds i with
    | some d => .ok d st
    | none => .bad
  | .sc ds, .int i => match atI ds i with
    | some d => .ok d st
    | none => .bad
  | .ref n, .int i => match st[n]? with
    | some (.lst ds) => match atI ds i with
      | some d => .ok d st
      | none => .bad
    | _ => .bad
  | .str z, .int i => match atI z.cps.toList i with
    | some c => if z.length ≤ bigLine then .ok (.str ⟨#[c]⟩) st else .bad
    | none => .bad
  | _, _ => .bad
theorem VRs.atI {B H ι} {ds : List D} {vs : List V} {i : Int} {d : D} (h : VRs B H ι ds vs) (e : L2.atI ds i = some d) : ∃ v, L2.atI vs i = some v ∧ VR B H ι d v := by
  unfold L2.atI at e ⊢
  rw [← h.length]
  cases q : ixN ds.length i with
  | none => rw [q] at e; cases e
  | some j =>
    rw [q] at e
    exact h.get e
theorem rd_ix : RD K mg (rIx K) fIx := by
  intro ρ ι H st x y v u W σ Q S rx ry p
  unfold fIx at p
  cases x <;> cases y <;> (try exact p.elim)
  · cases rx; cases ry
    rename_i z i
    simp only [] at p
    split at p
    · rename_i c e
      split at p
      · rename_i hl
        exact .inr (.inr ⟨_, _, _, rfl, rfl, big_le hl, e, p.ok S rfl⟩)
      · exact p.elim
    · exact p.elim
  · cases ry
    obtain ⟨q1, xs, rfl, h1, r1⟩ := id rx
    simp only [] at p
    split at p
    · rename_i d e
      obtain ⟨w, e1, e2⟩ := r1.atI e
      exact .inr (.inl ⟨_, _, _, _, rfl, rfl, h1.sq, e1, p.ok S e2⟩)
    · exact p.elim
  · cases ry
    obtain ⟨q1, xs, rfl, h1, n1, r1⟩ := id rx
    simp only [] at p
    split at p
    · rename_i d e
      obtain ⟨w, e1, e2⟩ := r1.atI e
      exact .inl ⟨_, _, _, _, rfl, rfl, SqL.of h1, e1, p.ok S e2⟩
    · exact p.elim
  · cases ry
    obtain ⟨q1, xs, rfl, h1, r1⟩ := id rx
    simp only [] at p
    split at p
    · rename_i d e
      obtain ⟨w, e1, e2⟩ := r1.atI e
      exact .inl ⟨_, _, _, _, rfl, rfl, h1.sq, e1, p.ok S e2⟩
    · exact p.elim
  · cases ry
    obtain ⟨a, ha, rfl⟩ := id rx
    simp only [] at p
    split at p
    · rename_i ds hs
      obtain ⟨xs, h1, r1⟩ := S.look hs ha
      split at p
      · rename_i d e
        obtain ⟨w, e1, e2⟩ := r1.atI e
        exact .inl ⟨_, _, _, _, rfl, rfl, SqL.of h1, e1, p.ok S e2⟩
      · exact p.elim
    · exact p.elim
/-! ### in -/
def flatD : D → Bool
  | .non => true | .bl _ => true | .int _ => true | .str _ => true | _ => false
def toV : D → V
  | .non => .non | .bl b => .bl b | .int i => .int i | .str x => .str x | _ => .non
theorem toV_of {B H ι} {d : D} {v : V} (f : flatD d = true) (r : VR B H ι d v) : v = toV d ∧ flatV v = true := by
  cases d <;> (try cases f) <;> (cases r; exact ⟨rfl, rfl⟩)
def inD (d : D) (ds : List D) : Bool := inV (toV d) (ds.map toV)
theorem toVs_of {B H ι} : ∀ {ds : List D} {vs : List V}, ds.all flatD = true → VRs B H ι ds vs → vs = ds.map toV ∧ vs.all flatV = true
  | [], _, _, r => by cases r; exact ⟨rfl, rfl⟩
  | d :: ds, _, f, ⟨x, r, e, h, t⟩ => by
    rw [List.all_cons, Bool.and_eq_true] at f
    obtain ⟨e1, f1⟩ := toV_of f.1 h
    obtain ⟨e2, f2⟩ := toVs_of f.2 t
    subst e
    exact ⟨by rw [List.map_cons, ← e1, ← e2], by rw [List.all_cons, f1, f2]; rfl⟩
/-- x in y: a text in a text (one sign), a flat thing in a list or tuple -/
def fIn (neg : Bool) : F2 := fun x y st => match x, y with
  | .str a, .str z => match a.cps.toList with
    | [c] => .ok (.bl (if neg then !decide (c ∈ z.cps.toList) else decide (c ∈ z.cps.toList))) st
    | _ => .bad
  | x, .tup ds => if flatD x && ds.all flatD then .ok (.bl (if neg then !inD x ds else inD x ds)) st else .bad
  | x, .fz ds => if flatD x && ds.all flatD then .ok (.bl (if neg then !inD x ds else inD x ds)) st else .bad
  | _, _ => .bad
def rInAll (K : PySem.W.Frag) (neg : Bool) : R2 := fun x y H Q => (∃ (c : Nat) (z : Str), x = .str ⟨#[c]⟩ ∧ y = .str z ∧ Q (.bl (if neg then !decide (c ∈ z.cps.toList) else decide (c ∈ z.cps.toList))) H) ∨ rIn K neg x y H Q
theorem op_inAll {X : Cx} : OpR X (compareOp .In) (rInAll X.K false) := OpR.or op_in_sign op_in_seq
theorem op_notInAll {X : Cx} : OpR X (compareOp .NotIn) (rInAll X.K true) := OpR.or op_notIn_sign op_notIn_seq
theorem rd_in {neg : Bool} : RD K mg (rInAll K neg) (fIn neg) := by
  intro ρ ι H st x y v u W σ Q S rx ry p
  have tup : ∀ ds, y = .tup ds → (Post ⟨K, mg, ρ⟩ relV W σ ι H (if flatD x && ds.all flatD then .ok (.bl (if neg then !inD x ds else inD x ds)) st else .bad) Q) → rInAll K neg v u H Q := by
    rintro ds rfl p
    split at p
    · rename_i f
      rw [Bool.and_eq_true] at f
      obtain ⟨q1, xs, rfl, h1, r1⟩ := id ry
      obtain ⟨e1, f1⟩ := toV_of f.1 rx
      obtain ⟨e2, f2⟩ := toVs_of f.2 r1
      refine .inr ⟨q1, xs, rfl, .inr h1.sq, f1, f2, ?_⟩
      rw [e1, e2]
      exact p.ok S rfl
    · exact p.elim
  have fz : ∀ ds, y = .fz ds → (Post ⟨K, mg, ρ⟩ relV W σ ι H (if flatD x && ds.all flatD then .ok (.bl (if neg then !inD x ds else inD x ds)) st else .bad) Q) → rInAll K neg v u H Q := by
    rintro ds rfl p
    split at p
    · rename_i f
      rw [Bool.and_eq_true] at f
      obtain ⟨q1, xs, rfl, h1, n1, r1⟩ := id ry
      obtain ⟨e1, f1⟩ := toV_of f.1 rx
      obtain ⟨e2, f2⟩ := toVs_of f.2 r1
      refine .inr ⟨q1, xs, rfl, .inl (SqL.of h1), f1, f2, ?_⟩
      rw [e1, e2]
      exact p.ok S rfl
    · exact p.elim
  unfold fIn at p
  split at p
  · cases rx; cases ry
    rename_i a z
    split at p
    · rename_i c e
      refine .inl ⟨c, z, ?_, rfl, p.ok S rfl⟩
      obtain ⟨arr⟩ := a
      have : arr = #[c] := by
        apply Array.ext'
        simpa using e
      rw [this]
    · exact p.elim
  · exact tup _ rfl p
  · exact fz _ rfl p
  · exact p.elim
/-! ### is None -/
def isNon : D → Bool
  | .non => true | _ => false
def fIs (neg : Bool) : F2 := fun x y st => match y with
  | .non => .ok (.bl (if neg then !isNon x else isNon x)) st
  | _ => .bad
theorem isNon_of {B H ι} {d : D} {v : V} (r : VR B H ι d v) : decide (v = .non) = isNon d := by
  cases d with
  | non => cases r; rfl
  | bl _ => cases r; rfl
  | int _ => cases r; rfl
  | str _ => cases r; rfl
  | ty _ => cases r; rfl
  | tup _ => obtain ⟨_, _, rfl, _⟩ := r; rfl
  | fz _ => obtain ⟨_, _, rfl, _⟩ := r; rfl
  | sc _ => obtain ⟨_, _, rfl, _⟩ := r; rfl
  | fd _ _ => obtain ⟨_, _, _, _, rfl, _⟩ := r; rfl
  | obj _ _ _ => obtain ⟨_, _, _, _, _, rfl, _⟩ := r; rfl
  | lam _ _ _ => obtain ⟨_, _, _, rfl, _⟩ := r; rfl
  | ref _ => obtain ⟨_, _, rfl⟩ := r; rfl
theorem rd_is : RD K mg (fun x y H Q => y = .non ∧ Q (.bl (decide (x = .non))) H) (fIs false) := by
  intro ρ ι H st x y v u W σ Q S rx ry p
  unfold fIs at p
  cases y <;> (try exact p.elim)
  cases ry
  refine ⟨rfl, ?_⟩
  rw [isNon_of rx]
  exact p.ok S rfl
theorem rd_isNot : RD K mg (fun x y H Q => y = .non ∧ Q (.bl (!decide (x = .non))) H) (fIs true) := by
  intro ρ ι H st x y v u W σ Q S rx ry p
  unfold fIs at p
  cases y <;> (try exact p.elim)
  cases ry
  refine ⟨rfl, ?_⟩
  rw [isNon_of rx]
  exact p.ok S rfl
end
end DD

/-! DD4: tests, calls, fields. -/
namespace DD
open PySem L2 PyProof.Rows
variable [NMs]

section
variable {X : Cx} {W : WX} {e a b c o : Expr} {es : List Expr} {da db dc : DE} {ds : DA} {t u : DT} {pos : Pos}
/-! ### truth -/
def tru : D → Sto → Option Bool
  | .non, _ => some false
  | .bl b, _ => some b
  | .int i, _ => some (i != 0)
  | .str x, _ => if x.length ≤ bigLine then some ((x.length : Int) != 0) else none
  | .tup ds, _ => some (!ds.isEmpty)
  | .fz ds, _ => some (!ds.isEmpty)
  | .sc ds, _ => some (!ds.isEmpty)
  | .ref n, st => match st[n]? with
    | some (.lst ds) => some (!ds.isEmpty)
    | some (.dct ks _) => some (!ks.isEmpty)
    | _ => none
  | _, _ => none
theorem VRs.isEmpty {B H ι} {ds : List D} {vs : List V} (h : VRs B H ι ds vs) : vs.isEmpty = ds.isEmpty := by
  have := h.length
  cases ds <;> cases vs <;> first | rfl | (simp at this)
theorem zip_isEmpty {α β : Type} {ks : List α} {xs : List β} (h : ks.length = xs.length) : (ks.zip xs).isEmpty = ks.isEmpty := by
  cases ks <;> cases xs <;> first | rfl | (simp at h)
theorem tru_of {B : Bs} {H ι st} {d : D} {v : V} {k : Bool} (S : Sim B H ι st) (r : VR B H ι d v) (h : tru d st = some k) : TruV B.K v H k := by
  cases d with
  | non => cases r; cases h; rfl
  | bl _ => cases r; cases h; rfl
  | int _ => cases r; cases h; rfl
  | str x =>
    cases r
    simp only [tru] at h
    split at h
    · rename_i hl; cases h; exact ⟨big_le hl, rfl⟩
    · cases h
  | tup ds =>
    obtain ⟨a, xs, rfl, h1, r1⟩ := r
    cases h
    exact .inr (.inl ⟨xs, h1.sq, by rw [r1.isEmpty]⟩)
  | fz ds =>
    obtain ⟨a, xs, rfl, h1, n1, r1⟩ := r
    cases h
    exact .inl ⟨xs, SqL.of h1, by rw [r1.isEmpty]⟩
  | sc ds =>
    obtain ⟨a, xs, rfl, h1, r1⟩ := r
    cases h
    exact .inl ⟨xs, h1.sq, by rw [r1.isEmpty]⟩
  | fd ks ds => cases h
  | ref n =>
    obtain ⟨a, ha, rfl⟩ := r
    simp only [tru] at h
    split at h
    · rename_i ds e
      cases h
      obtain ⟨xs, h1, r1⟩ := S.look e ha
      exact .inl ⟨xs, SqL.of h1, by rw [r1.isEmpty]⟩
    · rename_i ks ds e
      cases h
      obtain ⟨kvs, xs, h1, e, l, r1⟩ := S.look e ha
      exact .inr (.inr ⟨kvs, h1, by rw [e, zip_isEmpty l]⟩)
    · cases h
  | ty _ => cases h
  | obj _ _ _ => cases h
  | lam _ _ _ => cases h
def dTru (da : DE) : DT := fun env st => (da env st).bind fun x st1 => match tru x st1 with
  | some k => .ok k st1
  | none => .bad
theorem ptd_truth (ha : PEd X W a da) (he : ∀ whole, isTrue a X.env whole = (do let v ← whole; standAt a.pos; holding [v] (truthy v)) := by intro _; rfl) : PTd X W a (dTru da) :=
  PT.mono (pt_truth ha he) fun σ H Q ⟨ρ, ι, st, env, S, ve, p⟩ => ⟨ρ, ι, st, env, S, ve, Post.bind p fun x st1 ι1 H1 v s1 S1 rx p1 => by
    cases q : tru x st1 with
    | none => simp only [q] at p1; exact p1.elim
    | some k => simp only [q] at p1; exact ⟨k, tru_of S1 rx q, p1.ok S1 rfl⟩⟩
/-- a value that is a flag -/
def dTst (da : DE) : DT := fun env st => (da env st).bind fun x st1 => match x with
  | .bl k => .ok k st1
  | _ => .bad
theorem ptd_cmp {op : CmpOp} {r : R2} {f : F2} (ho : OpR X (compareOp op) r) (hr : RD X.K X.mg r f) (ha : PEd X W a da) (hb : PEd X W b db) (hm : behindInMarks op b = false) : PTd X W (.Compare a [op] [b] pos) (dTst (dBin f da db)) :=
  PT.mono (pt_cmpR ho ha hb hm) fun σ H Q ⟨ρ, ι, st, env, S, ve, p⟩ => bin_read hr ⟨ρ, ι, st, env, S, ve, Post.bind p fun x st1 ι1 H1 v s1 S1 rx p1 => by
    cases x <;> (try exact p1.elim)
    cases rx
    exact ⟨_, rfl, p1.ok S1 rfl⟩⟩
/-- a < b < c -/
def dChain (f g : F2) (da db dc : DE) : DE := fun env st => (da env st).bind fun x st1 => (db env st1).bind fun y st2 => (f x y st2).bind fun z st3 => match z with
  | .bl true => (dc env st3).bind fun w st4 => g y w st4
  | .bl false => .ok (.bl false) st3
  | _ => .bad
theorem chain_read {K : PySem.W.Frag} {mg : Str → Option Value} {r r' : R2} {f g : F2} (hr : RD K mg r f) (hr' : RD K mg r' g) {σ : L2.St} {H : Hp} {Q : VK} (h : tG K mg relV W (dChain f g da db dc) σ H Q) :
    tChain r r' (tG K mg relV W da) (tG K mg relV W db) (tG K mg relV W dc) σ H Q := by
  obtain ⟨ρ, ι, st, env, S, ve, p⟩ := h
  refine ⟨ρ, ι, st, env, S, ve, Post.bind p fun x st1 ι1 H1 v s1 S1 rx p1 => ?_⟩
  refine ⟨ρ, ι1, st1, env, S1, ve.step s1, Post.bind p1 fun y st2 ι2 H2 u s2 S2 ry p2 => ?_⟩
  refine hr S2 (rx.step s2) ry (Post.bind (R := relV) p2 fun z st3 ι3 H3 w s3 S3 rz p3 => ?_)
  cases z <;> (try exact p3.elim)
  rename_i k
  cases rz
  refine ⟨k, rfl, ?_⟩
  cases k with
  | true => exact iteT ⟨ρ, ι3, st3, env, S3, ((ve.step s1).step s2).step s3, Post.bind p3 fun w st4 ι4 H4 z s4 S4 rw p4 => hr' S4 ((VR.step s3 ry).step s4) rw p4⟩
  | false => exact iteF (p3.ok S3 rfl)
theorem pd_chain {op op' : CmpOp} {r r' : R2} {f g : F2} (ho : OpR X (compareOp op) r) (ho' : OpR X (compareOp op') r') (hr : RD X.K X.mg r f) (hr' : RD X.K X.mg r' g) (ha : PEd X W a da) (hb : PEd X W b db) (hc : PEd X W c dc)
    (h1 : lastMarks [op, op'] [b, c] = false := by rfl) : PEd X W (.Compare a [op, op'] [b, c] pos) (dChain f g da db dc) :=
  PE.mono (pe_chain ho ho' ha hb hc h1) fun _ _ _ h => chain_read hr hr' h
theorem ptd_chain {op op' : CmpOp} {r r' : R2} {f g : F2} (ho : OpR X (compareOp op) r) (ho' : OpR X (compareOp op') r') (hr : RD X.K X.mg r f) (hr' : RD X.K X.mg r' g) (ha : PEd X W a da) (hb : PEd X W b db) (hc : PEd X W c dc)
    (h1 : lastMarks [op, op'] [b, c] = false := by rfl) : PTd X W (.Compare a [op, op'] [b, c] pos) (dTst (dChain f g da db dc)) :=
  PT.mono (pt_chain ho ho' ha hb hc h1) fun σ H Q ⟨ρ, ι, st, env, S, ve, p⟩ => chain_read hr hr' ⟨ρ, ι, st, env, S, ve, Post.bind p fun x st1 ι1 H1 v s1 S1 rx p1 => by
    cases x <;> (try exact p1.elim)
    cases rx
    exact ⟨_, rfl, p1.ok S1 rfl⟩⟩
/-! ### and, or, not, if -/
def dAnd (t u : DT) : DT := fun env st => (t env st).bind fun k st1 => if k = true then u env st1 else .ok false st1
def dOr (t u : DT) : DT := fun env st => (t env st).bind fun k st1 => if k = true then .ok true st1 else u env st1
def dNot (t : DT) : DT := fun env st => (t env st).bind fun k st1 => .ok (!k) st1
theorem pwd_and1 (h : PTd X W a t) : PWd X W (.BoolOp .And [a] pos) t := pw_and1 h
theorem pwd_or1 (h : PTd X W a t) : PWd X W (.BoolOp .Or [a] pos) t := pw_or1 h
theorem pwd_and {rest : List Expr} (ha : PTd X W a t) (hb : PWd X W (.BoolOp .And (b :: rest) pos) u) : PWd X W (.BoolOp .And (a :: b :: rest) pos) (dAnd t u) :=
  PW.mono (pw_and ha hb) fun σ H Q ⟨ρ, ι, st, env, S, ve, p⟩ => ⟨ρ, ι, st, env, S, ve, Post.bind p fun k st1 ι1 H1 v s1 S1 rx p1 => by
    cases rx
    cases k with
    | true => exact iteT ⟨ρ, ι1, st1, env, S1, ve.step s1, p1⟩
    | false => exact iteF (p1.ok S1 rfl)⟩
theorem pwd_or {rest : List Expr} (ha : PTd X W a t) (hb : PWd X W (.BoolOp .Or (b :: rest) pos) u) : PWd X W (.BoolOp .Or (a :: b :: rest) pos) (dOr t u) :=
  PW.mono (pw_or ha hb) fun σ H Q ⟨ρ, ι, st, env, S, ve, p⟩ => ⟨ρ, ι, st, env, S, ve, Post.bind p fun k st1 ι1 H1 v s1 S1 rx p1 => by
    cases rx
    cases k with
    | true => exact iteT (p1.ok S1 rfl)
    | false => exact iteF ⟨ρ, ι1, st1, env, S1, ve.step s1, p1⟩⟩
theorem ptd_w {t : DT} (h : PWd X W e t) : PTd X W e t := PW.pt h
theorem ptd_not (ha : PTd X W a t) : PTd X W (.UnaryOp .Not a pos) (dNot t) :=
  PT.mono (pt_not ha) fun σ H Q ⟨ρ, ι, st, env, S, ve, p⟩ => ⟨ρ, ι, st, env, S, ve, Post.bind p fun k st1 ι1 H1 v s1 S1 rx p1 => by
    cases rx
    exact p1.ok S1 rfl⟩
def dIf (t : DT) (da db : DE) : DE := fun env st => (t env st).bind fun k st1 => if k = true then da env st1 else db env st1
theorem pd_if (hc : PTd X W c t) (ha : PEd X W a da) (hb : PEd X W b db) : PEd X W (.IfExp c a b pos) (dIf t da db) :=
  PE.mono (pe_ifExp hc ha hb) fun σ H Q ⟨ρ, ι, st, env, S, ve, p⟩ => ⟨ρ, ι, st, env, S, ve, Post.bind p fun k st1 ι1 H1 v s1 S1 rx p1 => by
    cases rx
    cases k with
    | true => exact iteT ⟨ρ, ι1, st1, env, S1, ve.step s1, p1⟩
    | false => exact iteF ⟨ρ, ι1, st1, env, S1, ve.step s1, p1⟩⟩
/-- as values: all but the last are flags -/
def dAndV (da db : DE) : DE := fun env st => (da env st).bind fun x st1 => match x with
  | .bl true => db env st1
  | .bl false => .ok (.bl false) st1
  | _ => .bad
def dOrV (da db : DE) : DE := fun env st => (da env st).bind fun x st1 => match x with
  | .bl true => .ok (.bl true) st1
  | .bl false => db env st1
  | _ => .bad
def dNotV (da : DE) : DE := fun env st => (da env st).bind fun x st1 => match x with
  | .bl k => .ok (.bl (!k)) st1
  | _ => .bad
theorem pd_one {op} (h : PEd X W a da) : PEd X W (.BoolOp op [a] pos) da := pe_one h
theorem pd_and {rest : List Expr} (ha : PEd X W a da) (hb : PEd X W (.BoolOp .And (b :: rest) pos) db) : PEd X W (.BoolOp .And (a :: b :: rest) pos) (dAndV da db) :=
  PE.mono (pe_and ha hb) fun σ H Q ⟨ρ, ι, st, env, S, ve, p⟩ => ⟨ρ, ι, st, env, S, ve, Post.bind p fun x st1 ι1 H1 v s1 S1 rx p1 => by
    cases x <;> (try exact p1.elim)
    rename_i k
    cases rx
    cases k with
    | true => exact ⟨_, rfl, iteT ⟨ρ, ι1, st1, env, S1, ve.step s1, p1⟩⟩
    | false => exact ⟨_, rfl, iteF (p1.ok S1 rfl)⟩⟩
theorem pd_or {rest : List Expr} (ha : PEd X W a da) (hb : PEd X W (.BoolOp .Or (b :: rest) pos) db) : PEd X W (.BoolOp .Or (a :: b :: rest) pos) (dOrV da db) :=
  PE.mono (pe_or ha hb) fun σ H Q ⟨ρ, ι, st, env, S, ve, p⟩ => ⟨ρ, ι, st, env, S, ve, Post.bind p fun x st1 ι1 H1 v s1 S1 rx p1 => by
    cases x <;> (try exact p1.elim)
    rename_i k
    cases rx
    cases k with
    | true => exact ⟨_, rfl, iteT (p1.ok S1 rfl)⟩
    | false => exact ⟨_, rfl, iteF ⟨ρ, ι1, st1, env, S1, ve.step s1, p1⟩⟩⟩
theorem pd_not (ha : PEd X W a da) : PEd X W (.UnaryOp .Not a pos) (dNotV da) :=
  PE.mono (pe_not ha) fun σ H Q ⟨ρ, ι, st, env, S, ve, p⟩ => ⟨ρ, ι, st, env, S, ve, Post.bind p fun x st1 ι1 H1 v s1 S1 rx p1 => by
    cases x <;> (try exact p1.elim)
    cases rx
    exact ⟨_, rfl, p1.ok S1 rfl⟩⟩

/-! ### calls by values -/
abbrev FC := List D → Sto → Res D
def RC (K : PySem.W.Frag) (mg : Str → Option Value) (r : List V → Hp → VK → Prop) (f : FC) : Prop :=
  ∀ {ρ ι H st xs vs W σ} {Q : VK}, Sim ⟨K, mg, ρ⟩ H ι st → VRs ⟨K, mg, ρ⟩ H ι xs vs → Post ⟨K, mg, ρ⟩ relV W σ ι H (f xs st) Q → r vs H Q
/-- .. whose answer is a new list -/
abbrev FL := List D → Sto → Res (List D)
def RCL (K : PySem.W.Frag) (mg : Str → Option Value) (r : List V → Hp → VK → Prop) (f : FL) : Prop :=
  ∀ {ρ ι H st xs vs W σ} {Q : VK}, Sim ⟨K, mg, ρ⟩ H ι st → VRs ⟨K, mg, ρ⟩ H ι xs vs → Post ⟨K, mg, ρ⟩ relL W σ ι H (f xs st) Q → r vs H Q
def dCall (f : FC) (ds : DA) : DE := fun env st => (ds env st).bind fun xs st1 => f xs st1
def dCallL (f : FL) (ds : DA) : DA := fun env st => (ds env st).bind fun xs st1 => f xs st1
variable {x id T : Str} {p : Pos} {r : List V → Hp → VK → Prop} {f : FC} {fl : FL}
theorem pd_callB {id : String} (hc : CallR X (.builtin id) r) (hr : RC X.K X.mg r f) (hg : Gl X x) (hm : X.mg x = none) (hv : bootBuiltins x = some (.builtin id)) (ha : PAd X W (e :: es) ds) (hn : x ≠ "__name__" := by decide) (hdb : (x == ("__debug__" : Str)) = false := by decide)
    (he : starEach (e :: es) X.env = (false, eval e X.env) :: starEach es X.env := by rfl) (hpl : (backTo pos (starEach es X.env)).any (·.1) = false := by rfl) : PEd X W (.Call (.Name x p) (e :: es) [] pos) (dCall f ds) :=
  PE.mono (pe_callB hc hg hm hv ha hn hdb he hpl) fun σ H Q ⟨ρ, ι, st, env, S, ve, p⟩ => ⟨ρ, ι, st, env, S, ve, Post.bind p fun xs st1 ι1 H1 vs s1 S1 rx p1 => hr S1 rx p1⟩
theorem pd_callTy {T : String} (hc : CallR X (.type T) r) (hr : RC X.K X.mg r f) (hg : Gl X x) (hm : X.mg x = none) (hv : bootBuiltins x = some (.type T)) (ha : PAd X W (e :: es) ds) (hn : x ≠ "__name__" := by decide) (hdb : (x == ("__debug__" : Str)) = false := by decide)
    (he : starEach (e :: es) X.env = (false, eval e X.env) :: starEach es X.env := by rfl) (hpl : (backTo pos (starEach es X.env)).any (·.1) = false := by rfl) : PEd X W (.Call (.Name x p) (e :: es) [] pos) (dCall f ds) :=
  PE.mono (pe_callTy hc hg hm hv ha hn hdb he hpl) fun σ H Q ⟨ρ, ι, st, env, S, ve, p⟩ => ⟨ρ, ι, st, env, S, ve, Post.bind p fun xs st1 ι1 H1 vs s1 S1 rx p1 => hr S1 rx p1⟩
theorem pld_callB {id : String} (hc : CallR X (.builtin id) r) (hr : RCL X.K X.mg r fl) (hg : Gl X x) (hm : X.mg x = none) (hv : bootBuiltins x = some (.builtin id)) (ha : PAd X W (e :: es) ds) (hn : x ≠ "__name__" := by decide) (hdb : (x == ("__debug__" : Str)) = false := by decide)
    (he : starEach (e :: es) X.env = (false, eval e X.env) :: starEach es X.env := by rfl) (hpl : (backTo pos (starEach es X.env)).any (·.1) = false := by rfl) : PLd X W (.Call (.Name x p) (e :: es) [] pos) (dCallL fl ds) :=
  PE.mono (pe_callB hc hg hm hv ha hn hdb he hpl) fun σ H Q ⟨ρ, ι, st, env, S, ve, p⟩ => ⟨ρ, ι, st, env, S, ve, Post.bind p fun xs st1 ι1 H1 vs s1 S1 rx p1 => hr S1 rx p1⟩
theorem pld_callTy {T : String} (hc : CallR X (.type T) r) (hr : RCL X.K X.mg r fl) (hg : Gl X x) (hm : X.mg x = none) (hv : bootBuiltins x = some (.type T)) (ha : PAd X W (e :: es) ds) (hn : x ≠ "__name__" := by decide) (hdb : (x == ("__debug__" : Str)) = false := by decide)
    (he : starEach (e :: es) X.env = (false, eval e X.env) :: starEach es X.env := by rfl) (hpl : (backTo pos (starEach es X.env)).any (·.1) = false := by rfl) : PLd X W (.Call (.Name x p) (e :: es) [] pos) (dCallL fl ds) :=
  PE.mono (pe_callTy hc hg hm hv ha hn hdb he hpl) fun σ H Q ⟨ρ, ι, st, env, S, ve, p⟩ => ⟨ρ, ι, st, env, S, ve, Post.bind p fun xs st1 ι1 H1 vs s1 S1 rx p1 => hr S1 rx p1⟩
end
/-! ### calls of own defs -/
/-- what a def promises: its answer is m of its arguments -/
def spD (K : PySem.W.Frag) (mg : Str → Option Value) (m : M) (n : Nat) : Sp := fun vs H Q E => vs.length = n ∧ ∃ ρ ι st ds, Sim ⟨K, mg, ρ⟩ H ι st ∧ VRs ⟨K, mg, ρ⟩ H ι ds vs ∧
  Post ⟨K, mg, ρ⟩ relV (fun c d _ H => E c d H) [] ι H (m ds st) Q
/-- an error of a callee reaches what is wished here -/
def Lets (X : Cx) (W : WX) : Prop := ∀ σ, PassesAt (L2.CX X.prog X.w) X σ (WE W σ)
theorem lets_of {X : Cx} {W : WX} (tk : Takes X W) : Lets X W := passAt tk
def W0 : WX := fun _ _ _ _ => False
theorem lets0 {X : Cx} : Lets X W0 := fun σ pins H s e s' I h => by
  obtain ⟨_, _, _, _, _, _, _, _, _, _, _, _, z⟩ := h
  exact z.elim
def dOwn (m : M) (n : Nat) (ds : DA) : DE := fun env st => (ds env st).bind fun xs st1 => if xs.length = n then m xs st1 else .bad
section
variable {X : Cx} {W : WX} {e : Expr} {es : List Expr} {ds : DA} {pos p : Pos} {k : Nat} {f : Addr} {fd : FuncData} {ps : List Str} {m : M} {n : Nat} {x : Str}
theorem Post.wish {B : Bs} {W : WX} {σ : L2.St} {ι : List Addr} {H : Hp} {r : Res D} {Q : VK} (h : Post B relV W σ ι H r Q) : Post B relV (fun c d _ H => WE W σ c d H) [] ι H r Q := by
  cases r <;> exact h
theorem pd_own (F : FnOk X.prog X.w X.K X.mg X.base (L2.CX X.prog X.w) k f fd ps (spD X.K X.mg m n)) (hr : Room k X.A) (hg : Gl X x) (hm : X.mg x = some (.ref f)) (hk : PySem.W.keepIn X.K (.ref f) = true) (hb : Binds X.K fd ps []) (hx : Lets X W)
    (ha : PAd X W (e :: es) ds) (hdb : (x == ("__debug__" : Str)) = false := by decide) (he : starEach (e :: es) X.env = (false, eval e X.env) :: starEach es X.env := by rfl) (hpl : (backTo pos (starEach es X.env)).any (·.1) = false := by rfl) :
    PEd X W (.Call (.Name x p) (e :: es) [] pos) (dOwn m n ds) :=
  PE.mono (pe_callS (E := fun σ => WE W σ) F hr hg hm hk hb hx ha hdb he hpl) fun σ H Q ⟨ρ, ι, st, env, S, ve, p⟩ => ⟨ρ, ι, st, env, S, ve, Post.bind p fun xs st1 ι1 H1 vs s1 S1 rx p1 => by
    have rx : VRs ⟨X.K, X.mg, ρ⟩ H1 ι1 xs vs := rx
    by_cases hl : xs.length = n
    · simp only [hl, if_true] at p1
      exact ⟨by rw [← rx.length, hl], ρ, ι1, st1, xs, S1, rx, Post.wish p1⟩
    · simp only [hl, if_false] at p1; exact p1.elim⟩
end
end DD

/-! DD5: statements, defs. -/
namespace DD
open PySem L2 PyProof.Rows
variable [NMs]

def PostS (B : Bs) (W : WX) (E : Ends) (σ : L2.St) (ι : List Addr) (H : Hp) (r : ResS) : Prop := match r with
  | .nx env' st' => ∀ ι' H' σ', Step ι H ι' H' → Sim B H' ι' st' → VEnv B H' ι' env' σ' → E.nx σ' H'
  | .bk env' st' => ∀ ι' H' σ', Step ι H ι' H' → Sim B H' ι' st' → VEnv B H' ι' env' σ' → E.bk σ' H'
  | .ct env' st' => ∀ ι' H' σ', Step ι H ι' H' → Sim B H' ι' st' → VEnv B H' ι' env' σ' → E.ct σ' H'
  | .rt x st' => ∀ ι' H' v, Step ι H ι' H' → Sim B H' ι' st' → VR B H' ι' x v → E.rt v H'
  | .exc x env' st' => ∀ ι' H' σ' cls dd, Step ι H ι' H' → Sim B H' ι' st' → VEnv B H' ι' env' σ' → ExcR B H' ι' x cls dd → W cls dd σ' H'
  | .bad => False
def tSd (K : PySem.W.Frag) (mg : Str → Option Value) (W : WX) (d : DS) : TS := fun E σ H =>
  ∃ ρ ι st env, Sim ⟨K, mg, ρ⟩ H ι st ∧ VEnv ⟨K, mg, ρ⟩ H ι env σ ∧ PostS ⟨K, mg, ρ⟩ W E σ ι H (d env st)
def PSd (X : Cx) (W : WX) (s : Stmt) (d : DS) : Prop := PS X s (tSd X.K X.mg W d)
def PSsd (X : Cx) (W : WX) (s : List Stmt) (d : DS) : Prop := PSs X s (tSd X.K X.mg W d)
theorem PS.mono {X : Cx} {s : Stmt} {t t' : TS} (h : PS X s t) (k : ∀ D σ H, t' D σ H → t D σ H) : PS X s t' := ⟨fun p s σ H D I q => h.run p s σ H D I (k D σ H q)⟩
theorem PSs.mono {X : Cx} {s : List Stmt} {t t' : TS} (h : PSs X s t) (k : ∀ D σ H, t' D σ H → t D σ H) : PSs X s t' := ⟨fun p s σ H D I q => h.run p s σ H D I (k D σ H q)⟩
section
variable {B : Bs} {W : WX} {E : Ends} {σ σ' : L2.St} {ι ι' : List Addr} {H H' : Hp} {env : Env}
theorem PostS.step (s : Step ι H ι' H') {r : ResS} (h : PostS B W E σ ι H r) : PostS B W E σ' ι' H' r := by
  cases r with
  | nx e st => exact fun ι2 H2 σ2 s2 => h ι2 H2 σ2 (s.trans s2)
  | bk e st => exact fun ι2 H2 σ2 s2 => h ι2 H2 σ2 (s.trans s2)
  | ct e st => exact fun ι2 H2 σ2 s2 => h ι2 H2 σ2 (s.trans s2)
  | rt x st => exact fun ι2 H2 v s2 => h ι2 H2 v (s.trans s2)
  | exc x e st => exact fun ι2 H2 σ2 c d s2 => h ι2 H2 σ2 c d (s.trans s2)
  | bad => exact h
/-- an expression, then a statement -/
def Res.bindS {α : Type} (r : Res α) (env : Env) (f : α → Sto → ResS) : ResS := match r with
  | .ok a st => f a st
  | .exc x st => .exc x env st
  | .bad => .bad
@[simp] theorem Res.bindS_ok {α : Type} (a : α) (st : Sto) (env : Env) (f : α → Sto → ResS) : (Res.ok a st).bindS env f = f a st := rfl
@[simp] theorem Res.bindS_exc {α : Type} (x : Xc) (st : Sto) (env : Env) (f : α → Sto → ResS) : (Res.exc x st : Res α).bindS env f = .exc x env st := rfl
@[simp] theorem Res.bindS_bad {α : Type} (env : Env) (f : α → Sto → ResS) : (Res.bad : Res α).bindS env f = .bad := rfl
theorem PostS.bind {α β : Type} {R : Rel α β} {r : Res α} {f : α → Sto → ResS} {G : β → Hp → Prop} (ve : VEnv B H ι env σ) (h : PostS B W E σ ι H (r.bindS env f))
    (hk : ∀ a st1 ι1 H1 b, Step ι H ι1 H1 → Sim B H1 ι1 st1 → R.r B H ι H1 ι1 st1 a b → PostS B W E σ ι1 H1 (f a st1) → G b H1) : Post B R W σ ι H r G := by
  cases r with
  | ok a st' => exact fun ι1 H1 b s S q => hk a st' ι1 H1 b s S q (PostS.step s h)
  | exc x st' => exact fun ι1 H1 c d s S q => h ι1 H1 σ c d s S (ve.step s) q
  | bad => exact h
end
section
variable {X : Cx} {W : WX} {s : Stmt} {rest : List Stmt} {d d1 d2 : DS} {e c : Expr} {da : DE} {t : DT} {pos : Pos}
def dNext : DS := fun env st => .nx env st
def dSeq (d1 d2 : DS) : DS := fun env st => match d1 env st with
  | .nx env1 st1 => d2 env1 st1
  | r => r
theorem pssd_nil : PSsd X W [] dNext := PSs.mono pss_nil fun D σ H ⟨ρ, ι, st, env, S, ve, p⟩ => p ι H σ (Step.refl _ _) S ve
theorem pssd_one (h : PSd X W s d) : PSsd X W [s] d := pss_one h
theorem pssd_cons (h1 : PSd X W s d1) (h2 : PSsd X W rest d2) : PSsd X W (s :: rest) (dSeq d1 d2) := PSs.mono (pss_cons h1 h2) fun E σ H ⟨ρ, ι, st, env, S, ve, p⟩ => by
  refine ⟨ρ, ι, st, env, S, ve, ?_⟩
  unfold dSeq at p
  cases q : d1 env st with
  | nx env1 st1 =>
    simp only [q] at p
    exact fun ι1 H1 σ1 s1 S1 ve1 => ⟨ρ, ι1, st1, env1, S1, ve1, PostS.step s1 p⟩
  | rt x st1 => simp only [q] at p; exact p
  | bk e st1 => simp only [q] at p; exact p
  | ct e st1 => simp only [q] at p; exact p
  | exc x e st1 => simp only [q] at p; exact p
  | bad => simp only [q] at p; exact p
theorem psd_pass : PSd X W (.Pass pos) dNext := PS.mono ps_pass fun D σ H ⟨ρ, ι, st, env, S, ve, p⟩ => p ι H σ (Step.refl _ _) S ve
def dBreak : DS := fun env st => .bk env st
def dCont : DS := fun env st => .ct env st
theorem psd_break : PSd X W (.Break pos) dBreak := PS.mono ps_break fun D σ H ⟨ρ, ι, st, env, S, ve, p⟩ => p ι H σ (Step.refl _ _) S ve
theorem psd_cont : PSd X W (.Continue pos) dCont := PS.mono ps_continue fun D σ H ⟨ρ, ι, st, env, S, ve, p⟩ => p ι H σ (Step.refl _ _) S ve
def dExpr (da : DE) : DS := fun env st => (da env st).bindS env fun _ st1 => .nx env st1
theorem psd_expr (he : PEd X W e da) (hs : swapsWith e none pos.line X.env = pure false := by rfl) : PSd X W (.Expr e pos) (dExpr da) := PS.mono (ps_expr he hs) fun E σ H ⟨ρ, ι, st, env, S, ve, p⟩ =>
  ⟨ρ, ι, st, env, S, ve, PostS.bind ve p fun x st1 ι1 H1 v s1 S1 rx p1 => p1 ι1 H1 σ (Step.refl _ _) S1 (ve.step s1)⟩
def dRet (da : DE) : DS := fun env st => (da env st).bindS env fun x st1 => .rt x st1
theorem psd_ret (he : PEd X W e da) : PSd X W (.Return (some e) pos) (dRet da) := PS.mono (ps_ret he) fun E σ H ⟨ρ, ι, st, env, S, ve, p⟩ =>
  ⟨ρ, ι, st, env, S, ve, PostS.bind ve p fun x st1 ι1 H1 v s1 S1 rx p1 => p1 ι1 H1 v (Step.refl _ _) S1 rx⟩
def dRetN : DS := fun _ st => .rt .non st
theorem psd_retN : PSd X W (.Return none pos) dRetN := PS.mono ps_retN fun E σ H ⟨ρ, ι, st, env, S, ve, p⟩ => p ι H .non (Step.refl _ _) S rfl
def dIfS (t : DT) (d1 d2 : DS) : DS := fun env st => (t env st).bindS env fun k st1 => if k = true then d1 env st1 else d2 env st1
theorem psd_if {a b : List Stmt} (hc : PTd X W c t) (ha : PSsd X W a d1) (hb : PSsd X W b d2) : PSd X W (.If c a b pos) (dIfS t d1 d2) := PS.mono (ps_if hc ha hb) fun E σ H ⟨ρ, ι, st, env, S, ve, p⟩ =>
  ⟨ρ, ι, st, env, S, ve, PostS.bind ve p fun k st1 ι1 H1 v s1 S1 rx p1 => by
    cases rx
    cases k with
    | true => exact iteT ⟨ρ, ι1, st1, env, S1, ve.step s1, p1⟩
    | false => exact iteF ⟨ρ, ι1, st1, env, S1, ve.step s1, p1⟩⟩
def dSet (i : Nat) (da : DE) : DS := fun env st => (da env st).bindS env fun x st1 => .nx (env.set i (some x)) st1
theorem psd_set {i : Nat} {x : Str} {pos' : Pos} (hN : X.N.Nodup) (hi : X.N[i]? = some x) (hx : Loc X.env.scope x) (he : PEd X W e da) (hs : swapsWith e (some (.Name x pos')) pos.line X.env = pure false := by rfl) (hf : X.fn x = true ∨ X.env.scope.names.lookup x = some .local := by first | exact .inl rfl | exact .inr rfl) :
    PSd X W (.Assign [.Name x pos'] e pos) (dSet i da) := PS.mono (ps_set hN hi hx he hs hf) fun E σ H ⟨ρ, ι, st, env, S, ve, p⟩ =>
  ⟨ρ, ι, st, env, S, ve, PostS.bind ve p fun x st1 ι1 H1 v s1 S1 rx p1 => p1 ι1 H1 _ (Step.refl _ _) S1 ((ve.step s1).set rx)⟩
/-! ### targets -/
/-- a target: how the environment changes -/
abbrev DG := D → Env → Option Env
def Off (ix : List Nat) (σ σ' : L2.St) : Prop := σ'.length = σ.length ∧ ∀ j : Nat, j ∉ ix → σ'[j]? = σ[j]?
def GS (K : PySem.W.Frag) (mg : Str → Option Value) (G : TG) (ix : List Nat) (g : DG) : Prop := ∀ {ρ ι H st env σ x v env'} {Q : L2.St → Hp → Prop}, Sim ⟨K, mg, ρ⟩ H ι st → VEnv ⟨K, mg, ρ⟩ H ι env σ → VR ⟨K, mg, ρ⟩ H ι x v → g x env = some env' →
  (∀ σ', VEnv ⟨K, mg, ρ⟩ H ι env' σ' → Off ix σ σ' → Q σ' H) → G v σ H Q
def gdName (i : Nat) : DG := fun x env => some (env.set i (some x))
theorem gs_name {K mg} (i : Nat) : GS K mg (gName i) [i] (gdName i) :=
  fun S ve r e k => by cases e; exact k _ (ve.set r) ⟨by simp, fun j hj => by rw [List.getElem?_set_ne (fun z => hj (by simp [z]))]⟩
abbrev DGs := List D → Env → Option Env
def GSs (K : PySem.W.Frag) (mg : Str → Option Value) (G : TGs) (ix : List Nat) (g : DGs) : Prop := ∀ {ρ ι H st env σ xs vs env'} {Q : L2.St → Hp → Prop}, Sim ⟨K, mg, ρ⟩ H ι st → VEnv ⟨K, mg, ρ⟩ H ι env σ → VRs ⟨K, mg, ρ⟩ H ι xs vs → g xs env = some env' →
  (∀ σ', VEnv ⟨K, mg, ρ⟩ H ι env' σ' → Off ix σ σ' → Q σ' H) → G vs σ H Q
def gdNil : DGs := fun xs env => match xs with
  | [] => some env
  | _ => none
def gdCons (g : DG) (gs : DGs) : DGs := fun xs env => match xs with
  | x :: r => (g x env).bind fun env1 => gs r env1
  | _ => none
theorem gss_nil {K mg} : GSs K mg gNil [] gdNil := fun {ρ ι H st env σ xs vs env'} {Q} S ve r e k => by
  cases xs with
  | nil => cases r; cases e; exact ⟨rfl, k _ ve ⟨rfl, fun _ _ => rfl⟩⟩
  | cons x r => cases e
theorem gss_cons {K mg} {g : DG} {gs : DGs} {G : TG} {Gs : TGs} {ix ixs : List Nat} (h1 : GS K mg G ix g) (h2 : GSs K mg Gs ixs gs) : GSs K mg (gCons G Gs) (ix ++ ixs) (gdCons g gs) := fun {ρ ι H st env σ xs vs env'} {Q} S ve r e k => by
  cases xs with
  | nil => cases e
  | cons x xr =>
    obtain ⟨v, vr, rfl, h, t⟩ := r
    have e' : (g x env).bind (fun env1 => gs xr env1) = some env' := e
    cases q : g x env with
    | none => rw [q] at e'; cases e'
    | some env1 =>
      rw [q] at e'
      exact ⟨v, vr, rfl, h1 S ve h q fun σ' ve' o1 => h2 S ve' t e' fun σ2 ve2 o2 => k σ2 ve2 ⟨o2.1.trans o1.1, fun j hj => by
        rw [List.mem_append, not_or] at hj
        rw [o2.2 j hj.2, o1.2 j hj.1]⟩⟩
def gdTup (n : Nat) (gs : DGs) : DG := fun x env => match x with
  | .tup ds => if ds.length = n then gs ds env else none
  | _ => none
theorem gs_tup {K mg} {gs : DGs} {Gs : TGs} {ix : List Nat} (n : Nat) (h : GSs K mg Gs ix gs) : GS K mg (gTup K n Gs) ix (gdTup n gs) := fun {ρ ι H st env σ x v env'} {Q} S ve r e kk => by
  cases x <;> (try (cases e))
  rename_i ds
  obtain ⟨a, xs, rfl, h1, r1⟩ := r
  have e : (if ds.length = n then gs ds env else none) = some env' := e
  by_cases hl : ds.length = n
  · rw [if_pos hl] at e
    exact ⟨a, xs, rfl, h1.sq, by rw [← r1.length, hl], h S ve r1 e kk⟩
  · rw [if_neg hl] at e; cases e
def dAsg (da : DE) (g : DG) : DS := fun env st => (da env st).bindS env fun x st1 => match g x env with
  | some env1 => .nx env1 st1
  | none => .bad
theorem psd_asg {tg : Expr} {g : DG} {G : TG} {ix : List Nat} (he : PEd X W e da) (pg : PG X tg G) (k : GS X.K X.mg G ix g) (hs : swapsWithSole [tg] e pos.line X.env = pure false := by rfl) (hw : swappedStores [tg] e X.env = pure none := by rfl)
    (h1 : (assignEach [tg] X.env).map (·.2) = [assign tg X.env] := by rfl) : PSd X W (.Assign [tg] e pos) (dAsg da g) := by
  refine PS.mono (ps_asg he pg hs hw h1) fun E σ H ⟨ρ, ι, st, env, S, ve, p⟩ => ⟨ρ, ι, st, env, S, ve, PostS.bind ve p fun x st1 ι1 H1 v s1 S1 rx p1 => ?_⟩
  cases q : g x env with
  | none => simp only [q] at p1; exact p1.elim
  | some env1 =>
    simp only [q] at p1
    exact k S1 (ve.step s1) rx q fun σ' ve' _ => p1 ι1 H1 σ' (Step.refl _ _) S1 ve'
/-- name += int -/
def dAug (i : Nat) (f : Int → Int → Int) (da : DE) : DS := fun env st => match env[i]? with
  | some (some (.int a)) => (da env st).bindS env fun y st1 => match y with
    | .int b => .nx (env.set i (some (.int (f a b)))) st1
    | _ => .bad
  | _ => .bad
theorem psd_aug {i : Nat} {x : Str} {op : Operator} {f : Int → Int → Int} {pos' : Pos} (hN : X.N.Nodup) (hi : X.N[i]? = some x) (hx : Loc X.env.scope x) (he : PEd X W e da) (ho : PIp X op (ipI f)) (hf : X.fn x = true ∨ X.env.scope.names.lookup x = some .local := by first | exact .inl rfl | exact .inr rfl) :
    PSd X W (.AugAssign (.Name x pos') op e pos) (dAug i f da) := PS.mono (ps_aug hN hi hx he ho hf) fun E σ H ⟨ρ, ι, st, env, S, ve, p⟩ => by
  unfold dAug at p
  split at p
  · rename_i a q
    obtain ⟨v, h1, h2⟩ := ve.2 i _ q
    cases h2
    refine ⟨_, h1, ρ, ι, st, env, S, ve, PostS.bind ve p fun y st1 ι1 H1 v s1 S1 rx p1 => ?_⟩
    cases y <;> (try exact p1.elim)
    cases rx
    exact ⟨_, _, rfl, rfl, p1 ι1 H1 _ (Step.refl _ _) S1 (VEnv.set (d := .int _) (ve.step s1) rfl)⟩
  · exact p.elim
/-- xs[k] = e, a list of the store -/
def dSetItem (da dx dk : DE) : DS := fun env st => (da env st).bindS env fun x st1 => (dx env st1).bindS env fun o st2 => (dk env st2).bindS env fun i st3 => match o, i with
  | .ref n, .int k => match st3[n]? with
    | some (.lst ds) => match ixN ds.length k with
      | some j => .nx env (st3.set n (.lst (ds.set j x)))
      | none => .bad
    | _ => .bad
  | _, _ => .bad
theorem psd_setItem {o i : Expr} {dx dk : DE} {p' : Pos} (he : PEd X W e da) (ho : PEd X W o dx) (hi : PEd X W i dk) (hs : swapsWithSole [Expr.Subscript o i p'] e pos.line X.env = pure false := by rfl) (hw : swappedStores [Expr.Subscript o i p'] e X.env = pure none := by rfl)
    (h1 : (assignEach [Expr.Subscript o i p'] X.env).map (·.2) = [assign (Expr.Subscript o i p') X.env] := by rfl)
    (ha : ∀ v, assign (.Subscript o i p') X.env v = (do
      let ov ← holding [v] (eval o X.env)
      let iv ← holding [v, ov] (eval i X.env)
      standAt p'
      holding [v, ov, iv] (setItem ov iv v)
      release [v, ov, iv] []) := by intro _; rfl) : PSd X W (.Assign [.Subscript o i p'] e pos) (dSetItem da dx dk) :=
  PS.mono (ps_asg he (pg_sub ho hi set_list ha) hs hw h1) fun E σ H ⟨ρ, ι, st, env, S, ve, p⟩ => ⟨ρ, ι, st, env, S, ve, PostS.bind ve p fun x st1 ι1 H1 v s1 S1 rx p1 =>
    ⟨ρ, ι1, st1, env, S1, ve.step s1, PostS.bind (ve.step s1) p1 fun o st2 ι2 H2 w s2 S2 ro p2 => ⟨ρ, ι2, st2, env, S2, (ve.step s1).step s2, PostS.bind ((ve.step s1).step s2) p2 fun i st3 ι3 H3 z s3 S3 ri p3 => by
      cases o <;> cases i <;> (try exact p3.elim)
      cases ri
      obtain ⟨a, ha, rfl⟩ := VR.step s3 ro
      simp only [] at p3
      split at p3
      · rename_i ds q
        obtain ⟨xs, h1, r1⟩ := S3.look q ha
        split at p3
        · rename_i j ej
          refine ⟨a, xs, _, j, rfl, rfl, h1, by rw [← r1.length]; exact ej, ?_⟩
          have sw : Step ι3 H3 ι3 (upd H3 a (.lst (xs.set j v))) := Step.write ha
          exact p3 ι3 _ σ sw (S3.write ha ⟨_, upd_same, (r1.set ((VR.step s2 rx).step s3) j).step sw⟩) ((((ve.step s1).step s2).step s3).step sw)
        · exact p3.elim
      · exact p3.elim⟩⟩⟩
end

/-! ### a def -/
def mOf (d : DS) (N : Nat) : M := fun ds st => match d (ds.map some ++ List.replicate (N - ds.length) none) st with
  | .nx _ st' => .ok .non st'
  | .rt x st' => .ok x st'
  | .exc x _ st' => .exc x st'
  | _ => .bad
section
variable {P : Program} {w : World} {K : PySem.W.Frag} {mg : Str → Option Value} {base : Heap}
theorem fn_d {x qual : Str} {st : Stmt} {f : Addr} {fd : FuncData} {N ps : List Str} {k : Nat} {d : DS} (F : Fun K x qual st f fd) (S : FnScope N ps (defScope st))
    (body : ∀ (cdv : Value) (A : Around) (outer : List PySem.Env) (s : Shared) (H : Hp) (E : XK), Room k (A.deeper (envOfC qual (defScope st) s.heap.objs.size f cdv)) →
      Takes (cxOf (L2.CX P w) P w K mg base N qual (defScope st) f cdv A outer s H E) (fun c dd _ H => E c dd H) → Lets (cxOf (L2.CX P w) P w K mg base N qual (defScope st) f cdv A outer s H E) (fun c dd _ H => E c dd H) →
      PSsd (cxOf (L2.CX P w) P w K mg base N qual (defScope st) f cdv A outer s H E) (fun c dd _ H => E c dd H) (defBody st) d) : FnOk P w K mg base (L2.CX P w) (k + 1) f fd ps (spD K mg (mOf d N.length) ps.length) := by
  refine F.okX S (fun vs H Q E h => h.1) (fun cdv A outer s H vs Q E hr h => ?_)
  have tk : Takes (cxOf (L2.CX P w) P w K mg base N qual (defScope st) f cdv A outer s H E) (fun c dd _ H => E c dd H) := takes_of rfl rfl rfl rfl
  refine ⟨_, body cdv A outer s H E hr tk (lets_of tk), ?_⟩
  obtain ⟨hl, ρ, ι, st0, ds, S0, r, p⟩ := h
  refine ⟨ρ, ι, st0, _, S0, VEnv.start N r, ?_⟩
  unfold mOf at p
  cases q : d (ds.map some ++ List.replicate (N.length - ds.length) none) st0 with
  | nx env1 st1 => simp only [q] at p; exact fun ι1 H1 σ1 s1 S1 _ => p ι1 H1 .non s1 S1 rfl
  | rt x st1 => simp only [q] at p; exact fun ι1 H1 v s1 S1 rx => p ι1 H1 v s1 S1 rx
  | exc x e st1 => simp only [q] at p; exact fun ι1 H1 σ1 c dd s1 S1 _ ex => p ι1 H1 c dd s1 S1 ex
  | bk e st1 => simp only [q] at p; exact p.elim
  | ct e st1 => simp only [q] at p; exact p.elim
  | bad => simp only [q] at p; exact p.elim
end
end DD

/-! DD6: what is walked, for, while, comprehensions. -/
namespace DD
open PySem L2 PyProof.Rows
variable [NMs]

/-! ### the same under other reserved addresses -/
def Fine (H : Hp) (ρ ρ' : List Addr) : Prop := ∀ a ∈ ρ', a ∈ ρ ∨ H a = none
theorem Fine.refl (H : Hp) (ρ : List Addr) : Fine H ρ ρ := fun _ h => .inl h
theorem Fine.no {H : Hp} {ρ ρ' : List Addr} (f : Fine H ρ ρ') {a : Addr} {o : HO} (e : H a = some o) (h : a ∉ ρ) : a ∉ ρ' := fun z => by
  rcases f a z with z | z
  · exact h z
  · rw [e] at z; cases z
section
variable {K : PySem.W.Frag} {mg : Str → Option Value} {ρ ρ' ι ι' : List Addr} {H H' : Hp}
theorem ScL.fine {a xs} (f : Fine H ρ ρ') (h : ScL ⟨K, mg, ρ⟩ H ι a xs) : ScL ⟨K, mg, ρ'⟩ H ι a xs := by
  rcases h with ⟨r, m, n⟩ | h
  · refine .inl ⟨r, m, ?_⟩
    rcases id r with r | ⟨_, r⟩ <;> exact f.no r n
  · exact .inr h
theorem FzT.fine {a xs} (f : Fine H ρ ρ') (h : FzT ⟨K, mg, ρ⟩ H ι a xs) : FzT ⟨K, mg, ρ'⟩ H ι a xs := by
  rcases h with ⟨r, m, n⟩ | h
  · refine .inl ⟨r, m, ?_⟩
    rcases id r with r | ⟨_, r⟩ <;> exact f.no r n
  · exact .inr h
mutual
theorem VR.fine (f : Fine H ρ ρ') : ∀ {d : D} {v : V}, VR ⟨K, mg, ρ⟩ H ι d v → VR ⟨K, mg, ρ'⟩ H ι d v
  | .non, _, h => h
  | .bl _, _, h => h
  | .int _, _, h => h
  | .str _, _, h => h
  | .ty _, _, h => h
  | .ref _, _, h => h
  | .tup _, _, ⟨a, xs, e, h, r⟩ => ⟨a, xs, e, h.fine f, VRs.fine f r⟩
  | .sc _, _, ⟨a, xs, e, h, r⟩ => ⟨a, xs, e, h.fine f, VRs.fine f r⟩
  | .fz _, _, ⟨a, xs, e, h, m, r⟩ => ⟨a, xs, e, h, ⟨m.1, f.no h m.2⟩, VRs.fine f r⟩
  | .fd _ _, _, ⟨a, od, fs, xs, e, h, m, e2, l, r⟩ => ⟨a, od, fs, xs, e, h, ⟨m.1, f.no h m.2⟩, e2, l, VRs.fine f r⟩
  | .obj _ _ _, _, ⟨a, C, dx, fs, xs, e, c, h, m, e2, l, r⟩ => ⟨a, C, dx, fs, xs, e, c, h, ⟨m.1, f.no h m.2⟩, e2, l, VRs.fine f r⟩
  | .lam _ _ _, _, ⟨g, L, xs, e, h, r⟩ => ⟨g, L, xs, e, h.keep (fun b o _ e => by
      obtain ⟨h1, h2, h3⟩ := offH_iff.mp e
      exact offH_iff.mpr ⟨h1, f.no h3 h2, h3⟩), VRs.fine f r⟩
theorem VRs.fine (f : Fine H ρ ρ') : ∀ {ds : List D} {vs : List V}, VRs ⟨K, mg, ρ⟩ H ι ds vs → VRs ⟨K, mg, ρ'⟩ H ι ds vs
  | [], _, h => h
  | _ :: _, _, ⟨x, r, e, h, t⟩ => ⟨x, r, e, VR.fine f h, VRs.fine f t⟩
end
theorem VEnv.fine {env σ} (f : Fine H ρ ρ') (h : VEnv ⟨K, mg, ρ⟩ H ι env σ) : VEnv ⟨K, mg, ρ'⟩ H ι env σ :=
  ⟨h.1, fun i d e => let ⟨v, a, b⟩ := h.2 i d e; ⟨v, a, b.fine f⟩⟩
/-- what is set aside changes -/
theorem Step.scr {p : Addr} {o : HO} (s : Step ι H ι' H') (n : H p = none) : Step ι H ι' (upd H' p o) :=
  ⟨s.pre, fun a u m nt e => by rw [upd_ne (ne_of_none e n)]; exact s.rest0 a u m nt e⟩
end
section
variable {B : Bs} {ι : List Addr} {H : Hp} {st : Sto} {p : Addr} {o : HO}
theorem ScL.scr {a xs} (h : ScL (B.more p) H ι a xs) : ScL (B.more p) (upd H p o) ι a xs := by
  rcases h with ⟨r, m, n⟩ | h
  · have ne : a ≠ p := fun z => n (by rw [z]; exact List.mem_cons_self)
    refine .inl ⟨?_, m, n⟩
    rcases r with r | ⟨u, r⟩
    · exact .inl (by rw [upd_ne ne]; exact r)
    · exact .inr ⟨u, by rw [upd_ne ne]; exact r⟩
  · exact .inr h
theorem FzT.scr {a xs} (h : FzT (B.more p) H ι a xs) : FzT (B.more p) (upd H p o) ι a xs := by
  rcases h with ⟨r, m, n⟩ | h
  · have ne : a ≠ p := fun z => n (by rw [z]; exact List.mem_cons_self)
    refine .inl ⟨?_, m, n⟩
    rcases r with r | ⟨u, r⟩
    · exact .inl (by rw [upd_ne ne]; exact r)
    · exact .inr ⟨u, by rw [upd_ne ne]; exact r⟩
  · exact .inr h
theorem nep {a : Addr} (n : a ∉ (B.more p).ρ) : a ≠ p := fun z => n (by rw [z]; exact List.mem_cons_self)
mutual
theorem VR.scr : ∀ {d : D} {v : V}, VR (B.more p) H ι d v → VR (B.more p) (upd H p o) ι d v
  | .non, _, h => h
  | .bl _, _, h => h
  | .int _, _, h => h
  | .str _, _, h => h
  | .ty _, _, h => h
  | .ref _, _, h => h
  | .tup _, _, ⟨a, xs, e, h, r⟩ => ⟨a, xs, e, h.scr, VRs.scr r⟩
  | .sc _, _, ⟨a, xs, e, h, r⟩ => ⟨a, xs, e, h.scr, VRs.scr r⟩
  | .fz _, _, ⟨a, xs, e, h, m, r⟩ => ⟨a, xs, e, by rw [upd_ne (nep m.2)]; exact h, m, VRs.scr r⟩
  | .fd _ _, _, ⟨a, od, fs, xs, e, h, m, e2, l, r⟩ => ⟨a, od, fs, xs, e, by rw [upd_ne (nep m.2)]; exact h, m, e2, l, VRs.scr r⟩
  | .obj _ _ _, _, ⟨a, C, dx, fs, xs, e, c, h, m, e2, l, r⟩ => ⟨a, C, dx, fs, xs, e, c, by rw [upd_ne (nep m.2)]; exact h, m, e2, l, VRs.scr r⟩
  | .lam _ _ _, _, ⟨g, L, xs, e, h, r⟩ => ⟨g, L, xs, e, h.keep (fun b o _ e => by
      obtain ⟨h1, h2, h3⟩ := offH_iff.mp e
      exact offH_iff.mpr ⟨h1, h2, by rw [upd_ne (nep h2)]; exact h3⟩), VRs.scr r⟩
theorem VRs.scr : ∀ {ds : List D} {vs : List V}, VRs (B.more p) H ι ds vs → VRs (B.more p) (upd H p o) ι ds vs
  | [], _, h => h
  | _ :: _, _, ⟨x, r, e, h, t⟩ => ⟨x, r, e, VR.scr h, VRs.scr t⟩
end
theorem Sim.scr (S : Sim (B.more p) H ι st) (pl : Pl o := by trivial) : Sim (B.more p) (upd H p o) ι st := by
  refine ⟨S.len, S.nd, fun n ob e => ?_, fun b hb => ?_, tabs_keep S.tab fun b u k e => ?_, fun b hb o' e => ?_⟩
  rotate_left 2
  · rw [upd_ne (fun z => ?_)]
    · exact e
    · subst z
      rcases k with ⟨ps, rfl⟩ | ⟨c, q, rfl⟩
      · exact (S.rp b List.mem_cons_self _ e).elim
      · exact absurd rfl ((S.rp b List.mem_cons_self _ e).nc c q)
  · by_cases hp : b = p
    · subst hp; rw [upd_same] at e; cases e; exact pl
    · rw [upd_ne hp] at e; exact S.rp b hb o' e
  · obtain ⟨b, hb, q⟩ := S.ob n ob e
    have nb : b ≠ p := fun z => (S.rs p List.mem_cons_self).2 (by rw [← z]; exact List.mem_of_getElem? hb)
    exact ⟨b, hb, q.stays (fun u z => by rw [upd_ne nb]; exact z) fun ds xs r => r.scr⟩
  · by_cases hp : b = p
    · subst hp; exact ⟨⟨o, upd_same⟩, (S.rs b hb).2⟩
    · exact ⟨by rw [upd_ne hp]; exact (S.rs b hb).1, (S.rs b hb).2⟩
end

/-! ### what is walked -/
structure ItOk (B : Bs) (J : It) (ι1 : List Addr) (H1 : Hp) (keep : Sto → Bool) (ds : List D) : Prop where
  go : ∀ ρ' (i : Nat) ι' H' st', Fine H1 B.ρ ρ' → Step ι1 H1 ι' H' → Sim ⟨B.K, B.mg, ρ'⟩ H' ι' st' → keep st' = true → i < ds.length → J.go i H'
  yld : ∀ ρ' (i : Nat) d ι' H' st' v H'', Fine H1 B.ρ ρ' → Step ι1 H1 ι' H' → Sim ⟨B.K, B.mg, ρ'⟩ H' ι' st' → keep st' = true → ds[i]? = some d → J.yld i H' v H'' → Step ι' H' ι' H'' ∧ Sim ⟨B.K, B.mg, ρ'⟩ H'' ι' st' ∧ VR ⟨B.K, B.mg, ρ'⟩ H'' ι' d v
  stop : ∀ ρ' (i : Nat) ι' H' st', Fine H1 B.ρ ρ' → Step ι1 H1 ι' H' → Sim ⟨B.K, B.mg, ρ'⟩ H' ι' st' → keep st' = true → ds.length ≤ i → J.stop i H'
abbrev DI := Env → Sto → Res (List D × (Sto → Bool))
/-- an iterator over the items that stand there now; what was said of it is told from the heap where it is made -/
def relI : Rel (List D × (Sto → Bool)) It := ⟨fun B _ _ H ι st a J => ItOk B J ι H a.2 a.1 ∧ a.2 st = true, fun _ h => h⟩
def PId (X : Cx) (W : WX) (tg it : Expr) (di : DI) : Prop := PI X tg it (tG X.K X.mg relI W di)
theorem PI.mono {X : Cx} {tg it : Expr} {w w' : TI} (h : PI X tg it w) (k : ∀ σ H R, w' σ H R → w σ H R) : PI X tg it w' := ⟨fun p s σ H R I q => h.run p s σ H R I (k σ H R q)⟩
def yes : Sto → Bool := fun _ => true
section
variable {X : Cx} {W : WX} {tg e : Expr} {es : List Expr} {da : DE} {ds : DA} {pos p : Pos}
/-- over a list or tuple -/
def dItems (da : DE) : DI := fun env st => (da env st).bind fun x st1 => match x with
  | .fz ds => .ok (ds, yes) st1
  | .sc ds => .ok (ds, yes) st1
  | _ => .bad
def dItemsT (da : DE) : DI := fun env st => (da env st).bind fun x st1 => match x with
  | .tup ds => .ok (ds, yes) st1
  | _ => .bad
theorem itl_ok {B : Bs} {ι1 : List Addr} {H1 : Hp} {a : Addr} {xs : List V} {ds : List D} (h : ScL B H1 ι1 a xs ∨ (H1 a = some (.lst xs) ∧ a ∉ ι1 ∧ a ∉ B.ρ)) (r : VRs B H1 ι1 ds xs) : ItOk B (Itl B.K a) ι1 H1 yes ds := by
  have key : ∀ ι' H', Step ι1 H1 ι' H' → SqL B.K H' a xs := fun ι' H' s => by
    rcases h with h | ⟨h, m, _⟩
    · exact (h.step s).sq
    · exact SqL.of (s.rest _ _ m h)
  have l := r.length
  refine ⟨fun ρ' i ι' H' st' f s S k hi => ?_, fun ρ' i d ι' H' st' v H'' f s S k hd y => ?_, fun ρ' i ι' H' st' f s S k hi => ⟨xs, key ι' H' s, by omega⟩⟩
  · obtain ⟨v, hv, _⟩ := r.get (List.getElem?_eq_getElem hi)
    exact ⟨xs, v, key ι' H' s, hv⟩
  · obtain ⟨e, y⟩ := y
    subst e
    obtain ⟨w, hw, vr⟩ := r.get hd
    have : v = w := Option.some.inj ((y xs (key ι' _ s)).symm.trans hw)
    subst this
    exact ⟨Step.refl _ _, S, (vr.fine f).step s⟩
theorem pid_list (ha : PEd X W e da) : PId X W tg e (dItems da) := PI.mono (pi_list ha) fun σ H R ⟨ρ, ι, st, env, S, ve, p⟩ => ⟨ρ, ι, st, env, S, ve, Post.bind p fun x st1 ι1 H1 v s1 S1 rx p1 => by
  cases x <;> (try exact p1.elim)
  · obtain ⟨a, xs, rfl, h, m, r⟩ := rx
    exact ⟨a, rfl, ⟨xs, SqL.of h⟩, p1.ok S1 ⟨itl_ok (B := ⟨X.K, X.mg, ρ⟩) (.inr ⟨h, m⟩) r, rfl⟩⟩
  · obtain ⟨a, xs, rfl, h, r⟩ := rx
    exact ⟨a, rfl, ⟨xs, h.sq⟩, p1.ok S1 ⟨itl_ok (B := ⟨X.K, X.mg, ρ⟩) (.inl h) r, rfl⟩⟩⟩
theorem itt_ok {B : Bs} {ι1 : List Addr} {H1 : Hp} {a : Addr} {xs : List V} {ds : List D} (h : FzT B H1 ι1 a xs) (r : VRs B H1 ι1 ds xs) : ItOk B (Itt B.K a) ι1 H1 yes ds := by
  have key : ∀ ι' H', Step ι1 H1 ι' H' → SqT B.K H' a xs := fun ι' H' s => (h.step s).sq
  have l := r.length
  refine ⟨fun ρ' i ι' H' st' f s S k hi => ?_, fun ρ' i d ι' H' st' v H'' f s S k hd y => ?_, fun ρ' i ι' H' st' f s S k hi => ⟨xs, key ι' H' s, by omega⟩⟩
  · obtain ⟨v, hv, _⟩ := r.get (List.getElem?_eq_getElem hi)
    exact ⟨xs, v, key ι' H' s, hv⟩
  · obtain ⟨e, y⟩ := y
    subst e
    obtain ⟨w, hw, vr⟩ := r.get hd
    have : v = w := Option.some.inj ((y xs (key ι' _ s)).symm.trans hw)
    subst this
    exact ⟨Step.refl _ _, S, (vr.fine f).step s⟩
theorem pid_tup (ha : PEd X W e da) : PId X W tg e (dItemsT da) := PI.mono (pi_tup ha) fun σ H R ⟨ρ, ι, st, env, S, ve, p⟩ => ⟨ρ, ι, st, env, S, ve, Post.bind p fun x st1 ι1 H1 v s1 S1 rx p1 => by
  cases x <;> (try exact p1.elim)
  obtain ⟨a, xs, rfl, h, r⟩ := rx
  exact ⟨a, rfl, ⟨xs, h.sq⟩, p1.ok S1 ⟨itt_ok (B := ⟨X.K, X.mg, ρ⟩) h r, rfl⟩⟩⟩
/-- the signs of a text -/
def signs (x : Str) : List D := x.cps.toList.map fun c => .str ⟨#[c]⟩
def dSigns (da : DE) : DI := fun env st => (da env st).bind fun x st1 => match x with
  | .str x => .ok (signs x, yes) st1
  | _ => .bad
theorem its_ok {B : Bs} {ι1 : List Addr} {H1 : Hp} {x : Str} : ItOk B (Its x) ι1 H1 yes (signs x) := by
  refine ⟨fun ρ' i ι' H' st' f s S k hi => ?_, fun ρ' i d ι' H' st' v H'' f s S k hd y => ?_, fun ρ' i ι' H' st' f s S k hi => ?_⟩
  · show i < x.cps.size
    simpa [signs] using hi
  · obtain ⟨e, c, hc, rfl⟩ := y
    subst e
    have : d = .str ⟨#[c]⟩ := by
      unfold signs at hd
      rw [List.getElem?_map] at hd
      rw [Array.getElem?_toList, hc] at hd
      cases hd; rfl
    subst this
    exact ⟨Step.refl _ _, S, rfl⟩
  · show x.cps.size ≤ i
    simpa [signs] using hi
theorem pid_str (ha : PEd X W e da) : PId X W tg e (dSigns da) := PI.mono (pi_str ha) fun σ H R ⟨ρ, ι, st, env, S, ve, p⟩ => ⟨ρ, ι, st, env, S, ve, Post.bind p fun x st1 ι1 H1 v s1 S1 rx p1 => by
  cases x <;> (try exact p1.elim)
  cases rx
  exact ⟨_, rfl, p1.ok S1 ⟨its_ok, rfl⟩⟩⟩
/-- range -/
def intsD (lo : Int) (n : Nat) : List D := (List.range n).map fun i => .int (lo + (i : Nat))
/-- sealed: the kernel is not to reckon with 2 ^ 62 -/
theorem x_rg62 : ∃ f : Int → Bool, f = fun j => decide (-(2 ^ 62) ≤ j ∧ j < 2 ^ 62) := ⟨_, rfl⟩
noncomputable def rg62 : Int → Bool := x_rg62.choose
theorem rg62_of {j : Int} (h : rg62 j = true) : -(2 ^ 62) ≤ j ∧ j < 2 ^ 62 := by
  have e : rg62 = fun j => decide (-(2 ^ 62) ≤ j ∧ j < 2 ^ 62) := x_rg62.choose_spec
  rw [e] at h; exact of_decide_eq_true h
theorem rg62_to {j : Int} (h : -(2 ^ 62) ≤ j ∧ j < 2 ^ 62) : rg62 j = true := by
  have e : rg62 = fun j => decide (-(2 ^ 62) ≤ j ∧ j < 2 ^ 62) := x_rg62.choose_spec
  rw [e]; exact decide_eq_true h
noncomputable def dRange1 (ds : DA) : DI := fun env st => (ds env st).bind fun xs st1 => match xs with
  | [.int j] => if rg62 j = true then .ok (intsD 0 j.toNat, yes) st1 else .bad
  | _ => .bad
noncomputable def dRange2 (ds : DA) : DI := fun env st => (ds env st).bind fun xs st1 => match xs with
  | [.int i, .int j] => if rg62 i = true ∧ rg62 j = true then .ok (intsD i (j - i).toNat, yes) st1 else .bad
  | _ => .bad
theorem itr_ok {B : Bs} {ι1 : List Addr} {H1 : Hp} {lo : Int} {n : Nat} : ItOk B (Itr lo n) ι1 H1 yes (intsD lo n) := by
  refine ⟨fun ρ' i ι' H' st' f s S k hi => ?_, fun ρ' i d ι' H' st' v H'' f s S k hd y => ?_, fun ρ' i ι' H' st' f s S k hi => ?_⟩
  · show i < n
    simpa [intsD] using hi
  · obtain ⟨e, rfl⟩ := y
    subst e
    have : d = .int (lo + (i : Nat)) := by
      unfold intsD at hd
      rw [List.getElem?_map] at hd
      have hi : i < n := by
        have := (List.getElem?_eq_some_iff (l := List.map (fun i => D.int (lo + (i : Nat))) (List.range n))).mp (by rw [List.getElem?_map]; exact hd)
        obtain ⟨h, _⟩ := this
        simpa using h
      rw [List.getElem?_range hi] at hd
      cases hd; rfl
    subst this
    exact ⟨Step.refl _ _, S, rfl⟩
  · show n ≤ i
    simpa [intsD] using hi
theorem vr1 {B H ι} {d : D} {vs : List V} (h : VRs B H ι [d] vs) : ∃ v, vs = [v] ∧ VR B H ι d v := by
  obtain ⟨x, r, rfl, h, t⟩ := h
  cases t
  exact ⟨x, rfl, h⟩
theorem vr2 {B H ι} {d e : D} {vs : List V} (h : VRs B H ι [d, e] vs) : ∃ v w, vs = [v, w] ∧ VR B H ι d v ∧ VR B H ι e w := by
  obtain ⟨x, r, rfl, h, t⟩ := h
  obtain ⟨w, rfl, k⟩ := vr1 t
  exact ⟨x, w, rfl, h, k⟩
theorem pid_range1 {a : Expr} (hg : Gl X "range") (hm : X.mg "range" = none) (ha : PAd X W [a] ds) (hs : starEach [a] X.env = [(false, eval a X.env)] := by rfl) : PId X W tg (.Call (.Name "range" p) [a] [] pos) (dRange1 ds) :=
  PI.mono (pi_range1 hg hm ha hs) fun σ H R ⟨ρ, ι, st, env, S, ve, p⟩ => ⟨ρ, ι, st, env, S, ve, Post.bind p fun xs st1 ι1 H1 v s1 S1 rx p1 => by
    split at p1
    · rename_i j
      split at p1
      · rename_i hb
        obtain ⟨v, rfl, h⟩ := vr1 rx
        cases h
        exact ⟨j, rfl, (rg62_of hb).1, (rg62_of hb).2, p1.ok S1 ⟨itr_ok, rfl⟩⟩
      · exact p1.elim
    · exact p1.elim⟩
theorem pid_range2 {a b : Expr} (hg : Gl X "range") (hm : X.mg "range" = none) (ha : PAd X W [a, b] ds) (hs : starEach [a, b] X.env = [(false, eval a X.env), (false, eval b X.env)] := by rfl) (hs2 : starEach [b] X.env = [(false, eval b X.env)] := by rfl) : PId X W tg (.Call (.Name "range" p) [a, b] [] pos) (dRange2 ds) :=
  PI.mono (pi_range2 hg hm ha hs hs2) fun σ H R ⟨ρ, ι, st, env, S, ve, p⟩ => ⟨ρ, ι, st, env, S, ve, Post.bind p fun xs st1 ι1 H1 v s1 S1 rx p1 => by
    split at p1
    · rename_i i j
      split at p1
      · rename_i hb
        obtain ⟨v, w, rfl, h, k⟩ := vr2 rx
        cases h
        cases k
        exact ⟨i, j, rfl, ⟨(rg62_of hb.1).1, (rg62_of hb.1).2, (rg62_of hb.2).1, (rg62_of hb.2).2⟩, p1.ok S1 ⟨itr_ok, rfl⟩⟩
      · exact p1.elim
    · exact p1.elim⟩
end

/-! ### for -/
def loop (g : DG) (d : DS) (keep : Sto → Bool) : List D → Env → Sto → ResS
  | [], env, st => if keep st = true then .nx env st else .bad
  | x :: r, env, st => if keep st = true then (match g x env with
    | none => .bad
    | some env1 => match d env1 st with
      | .nx env2 st2 => loop g d keep r env2 st2
      | .ct env2 st2 => loop g d keep r env2 st2
      | .bk env2 st2 => .nx env2 st2
      | res => res) else .bad
def dFor (di : DI) (g : DG) (d : DS) : DS := fun env st => (di env st).bindS env fun a st1 => loop g d a.2 a.1 env st1
theorem psd_for {X : Cx} {W : WX} {tg iter : Expr} {body : List Stmt} {di : DI} {g : DG} {G : TG} {ix : List Nat} {d : DS} {pos : Pos} (hp : PassesOwn (model X.prog X.w) X.A X.env X.xe) (hc : X.calm = true) (hi : PId X W tg iter di) (hg : PG X tg G) (gs : GS X.K X.mg G ix g) (hb : PSsd X W body d)
    (hs : ∀ x, foldedSetIterable iter X.env x = pure x := by intro _; rfl) : PSd X W (.For tg iter body [] pos) (dFor di g d) := by
  refine PS.mono (ps_for hp hc hi hg hb hs) fun E σ H ⟨ρ, ι, st, env, S, ve, p⟩ => ⟨ρ, ι, st, env, S, ve, PostS.bind ve p fun a st1 ι1 H1 J s1 S1 rx p1 => ?_⟩
  obtain ⟨ds, keep⟩ := a
  obtain ⟨io, k0⟩ := rx
  refine ⟨fun i m σ' H' => i + m = ds.length ∧ ∃ ι' st' env', Step ι1 H1 ι' H' ∧ Sim ⟨X.K, X.mg, ρ⟩ H' ι' st' ∧ VEnv ⟨X.K, X.mg, ρ⟩ H' ι' env' σ' ∧ PostS ⟨X.K, X.mg, ρ⟩ W E σ' ι' H' (loop g d keep (ds.drop i) env' st'),
    ⟨ds.length, by omega, ι1, st1, env, Step.refl _ _, S1, ve.step s1, p1⟩, ?_⟩
  rintro i m σ' H' ⟨em, ι', st', env', s', S', ve', p'⟩
  by_cases hi : i < ds.length
  · rw [List.drop_eq_getElem_cons hi] at p'
    unfold loop at p'
    by_cases hk : keep st' = true
    · simp only [hk, if_true] at p'
      refine .inr ⟨io.go ρ i ι' H' st' (Fine.refl _ _) s' S' hk hi, fun σ2 H2 => ∃ ι2 st2 env2, Step ι1 H1 ι2 H2 ∧ Sim ⟨X.K, X.mg, ρ⟩ H2 ι2 st2 ∧ VEnv ⟨X.K, X.mg, ρ⟩ H2 ι2 env2 σ2 ∧ PostS ⟨X.K, X.mg, ρ⟩ W E σ2 ι2 H2 (loop g d keep (ds.drop (i + 1)) env2 st2),
        fun σ2 H2 ⟨ι2, st2, env2, s2, S2, ve2, p2⟩ => ⟨m - 1, by omega, by omega, ι2, st2, env2, s2, S2, ve2, p2⟩, fun x H'' hy => ?_⟩
      obtain ⟨s3, S3, vr⟩ := io.yld ρ i ds[i] ι' H' st' x H'' (Fine.refl _ _) s' S' hk (List.getElem?_eq_getElem hi) hy
      have S3 : Sim ⟨X.K, X.mg, ρ⟩ H'' ι' st' := S3
      cases q : g ds[i] env' with
      | none => rw [q] at p'; exact p'.elim
      | some env1 =>
        rw [q] at p'
        simp only [] at p'
        refine gs S3 (ve'.step s3) vr q fun σ4 ve4 _ => ⟨ρ, ι', st', env1, S3, ve4, ?_⟩
        have s4 := s'.trans s3
        have p' := PostS.step (σ' := σ4) s3 p'
        cases q2 : d env1 st' with
        | nx e2 st2 =>
          rw [q2] at p'
          exact fun ι5 H5 σ5 s5 S5 ve5 => ⟨ι5, st2, e2, s4.trans s5, S5, ve5, PostS.step s5 p'⟩
        | ct e2 st2 =>
          rw [q2] at p'
          exact fun ι5 H5 σ5 s5 S5 ve5 => ⟨ι5, st2, e2, s4.trans s5, S5, ve5, PostS.step s5 p'⟩
        | bk e2 st2 => rw [q2] at p'; exact p'
        | rt y st2 => rw [q2] at p'; exact p'
        | exc y e2 st2 => rw [q2] at p'; exact p'
        | bad => rw [q2] at p'; exact p'
    · simp only [hk, if_false] at p'; exact p'.elim
  · have e : ds.drop i = [] := List.drop_eq_nil_of_le (by omega)
    rw [e] at p'
    unfold loop at p'
    by_cases hk : keep st' = true
    · simp only [hk, if_true] at p'
      exact .inl ⟨io.stop ρ i ι' H' st' (Fine.refl _ _) s' S' hk (Nat.le_of_not_lt hi), p' ι' H' σ' (Step.refl _ _) S' ve'⟩
    · simp only [hk, if_false] at p'; exact p'.elim
end DD

/-! DD7: comprehensions, while. -/
namespace DD
open PySem L2 PyProof.Rows
variable [NMs]

theorem wipe_get {σ : L2.St} : ∀ {vs : List Nat} {j : Nat}, (wipe σ vs)[j]? = if j ∈ vs then (if j < σ.length then some none else none) else σ[j]?
  | [], j => by simp [wipe]
  | v :: vs, j => by
    unfold wipe
    by_cases h : v = j
    · subst h
      simp only [List.mem_cons_self, if_true]
      by_cases hl : v < σ.length
      · rw [List.getElem?_set_self (by rw [wipe_length]; exact hl), if_pos hl]
      · rw [List.getElem?_eq_none (by rw [List.length_set, wipe_length]; omega), if_neg hl]
    · rw [List.getElem?_set_ne h, wipe_get]
      have : j ∈ v :: vs ↔ j ∈ vs := by simp [show ¬ j = v from fun z => h z.symm]
      by_cases hm : j ∈ vs
      · rw [if_pos hm, if_pos (this.mpr hm)]
      · rw [if_neg hm, if_neg (fun z => hm (this.mp z))]
theorem wipe_off {σ σ' : L2.St} {vs ix : List Nat} (o : Off ix (wipe σ vs) σ') (h : ∀ j ∈ ix, j ∈ vs) : wipe σ' vs = wipe σ vs := by
  apply List.ext_getElem?
  intro j
  rw [wipe_get, wipe_get]
  have hl : σ'.length = σ.length := by rw [o.1, wipe_length]
  by_cases hm : j ∈ vs
  · rw [if_pos hm, if_pos hm, hl]
  · rw [if_neg hm, if_neg hm, o.2 j (fun z => hm (h j z)), wipe_get, if_neg hm]
def wipeE (vs : List Nat) (env : Env) : Env := vs.foldr (fun i e => e.set i none) env
/-- the turns of a comprehension -/
def lcLoop (g : DG) (t : DT) (de : DE) (keep : Sto → Bool) (env : Env) : List D → Sto → Res (List D)
  | [], st => if keep st = true then .ok [] st else .bad
  | x :: r, st => if keep st = true then (match g x env with
    | none => .bad
    | some env1 => match t env1 st with
      | .ok true st1 => match de env1 st1 with
        | .ok y st2 => (lcLoop g t de keep env r st2).bind fun ys st3 => .ok (y :: ys) st3
        | _ => .bad
      | .ok false st1 => lcLoop g t de keep env r st1
      | _ => .bad) else .bad
def dLc (di : DI) (g : DG) (t : DT) (de : DE) (vs : List Nat) : DA := fun env st => (di env st).bind fun a st1 => if a.1.length ≤ bigLine then lcLoop g t de a.2 (wipeE vs env) a.1 st1 else .bad
def dYes : DT := fun _ st => .ok true st
theorem Post.ok_id {α β : Type} {B : Bs} {R : Rel α β} {W : WX} {σ ι H Q} {r : Res α} (h : Post B R W σ ι H r Q) : Post B R W σ ι H (r.bind fun a st => .ok a st) Q := by
  cases r <;> exact h
theorem bind_assoc {α β γ : Type} (r : Res α) (f : α → Sto → Res β) (g : β → Sto → Res γ) : (r.bind f).bind g = r.bind fun a st => (f a st).bind g := by cases r <;> rfl
theorem lc_read {K : PySem.W.Frag} {mg : Str → Option Value} {W : WX} {g : DG} {G : TG} {ix vs : List Nat} {t : DT} {de : DE} {di : DI} (gs : GS K mg G ix g) (hix : ∀ j ∈ ix, j ∈ vs) {σ : L2.St} {H : Hp} {Q : VK} (h : tG K mg relL W (dLc di g t de vs) σ H Q) :
    tLc (tG K mg relI W di) G (tG K mg relB W0 t) (tG K mg relV W0 de) vs σ H Q := by
  obtain ⟨ρ, ι, st, env, S, ve, p⟩ := h
  refine ⟨ρ, ι, st, env, S, ve, Post.bind0 p fun a st1 ι1 H1 J s1 S1 rx p1 => ?_⟩
  obtain ⟨ds, keep⟩ := a
  obtain ⟨io, k0⟩ := rx
  intro Dd hD
  by_cases hz : ds.length ≤ bigLine
  case neg => simp only [hz, if_false] at p1; exact p1.elim
  simp only [hz, if_true] at p1
  have m1 : Dd ∉ ι1 := S1.fresh hD
  have hρ : Dd ∉ ρ := S1.fr hD
  have fine : Fine H1 ρ (Dd :: ρ) := fun a ha => by
    rcases List.mem_cons.mp ha with z | z
    · subst z; exact .inr hD
    · exact .inl z
  have hD0 : NoH H Dd ∧ Dd ∉ ι := by
    have m0 : Dd ∉ ι := fun z => m1 (s1.mem z)
    exact ⟨NoH.back s1 m0 (noH hD), m0⟩
  refine ⟨fun i m H' => i + m = ds.length ∧ ∃ ι' st' acc vs', Step ι1 H1 ι' H' ∧ Sim ((⟨K, mg, ρ⟩ : Bs).more Dd) H' ι' st' ∧ H' Dd = some (.lst vs') ∧ VRs ((⟨K, mg, ρ⟩ : Bs).more Dd) H' ι' acc vs' ∧ acc.length ≤ i ∧
      Post ⟨K, mg, ρ⟩ relL W σ ι H ((lcLoop g t de keep (wipeE vs env) (ds.drop i) st').bind fun ys st => .ok (acc ++ ys) st) Q,
    ⟨ds.length, by omega, ι1, st1, [], [], Step.new S1 hD, S1.reserve hD, upd_same, rfl, Nat.le_refl _, Post.ok_id p1⟩, ?_⟩
  rintro i m H' ⟨em, ι', st', acc, vs', s', S', hl, ra, la, p'⟩
  have ve0 : VEnv ((⟨K, mg, ρ⟩ : Bs).more Dd) H' ι' (wipeE vs env) (wipe σ vs) := VEnv.wipe (VEnv.step s' (VEnv.fine (K := K) (mg := mg) fine (ve.step s1)))
  by_cases hi : i < ds.length
  · rw [List.drop_eq_getElem_cons hi] at p'
    unfold lcLoop at p'
    by_cases hk : keep st' = true
    case neg => simp only [hk, if_false] at p'; exact p'.elim
    simp only [hk, if_true] at p'
    refine .inr ⟨io.go (Dd :: ρ) i ι' H' st' fine s' S' hk hi, fun H2 => ∃ ι2 st2 acc2 vs2, Step ι1 H1 ι2 H2 ∧ Sim ((⟨K, mg, ρ⟩ : Bs).more Dd) H2 ι2 st2 ∧ H2 Dd = some (.lst vs2) ∧ VRs ((⟨K, mg, ρ⟩ : Bs).more Dd) H2 ι2 acc2 vs2 ∧ acc2.length ≤ i + 1 ∧
      Post ⟨K, mg, ρ⟩ relL W σ ι H ((lcLoop g t de keep (wipeE vs env) (ds.drop (i + 1)) st2).bind fun ys st => .ok (acc2 ++ ys) st) Q,
      fun H2 ⟨ι2, st2, acc2, vs2, s2, S2, h2, r2, l2, p2⟩ => ⟨m - 1, by omega, by omega, ι2, st2, acc2, vs2, s2, S2, h2, r2, l2, p2⟩, fun x H'' hy => ?_⟩
    obtain ⟨s3, S3, vr⟩ := io.yld (Dd :: ρ) i ds[i] ι' H' st' x H'' fine s' S' hk (List.getElem?_eq_getElem hi) hy
    have S3 : Sim ⟨K, mg, Dd :: ρ⟩ H'' ι' st' := S3
    have mD : Dd ∉ ι' := (S'.rs Dd List.mem_cons_self).2
    have hl3 : H'' Dd = some (.lst vs') := s3.rest _ _ mD hl
    cases q : g ds[i] (wipeE vs env) with
    | none => rw [q] at p'; exact p'.elim
    | some env1 =>
      rw [q] at p'
      simp only [] at p'
      refine gs S3 (ve0.step s3) vr q fun σ4 ve4 off => ⟨wipe_off off hix, Dd :: ρ, ι', st', env1, S3, ve4, ?_⟩
      cases q2 : t env1 st' with
      | bad => rw [q2] at p'; exact p'.elim
      | exc y st2 => rw [q2] at p'; exact p'.elim
      | ok b st2 =>
        rw [q2] at p'
        intro ι5 H5 b' s5 S5 eb
        cases eb
        have s15 := (s'.trans s3).trans s5
        cases b with
        | false =>
          refine iteF ⟨ι5, st2, acc, vs', s15, S5, s5.rest _ _ mD hl3, (ra.step s3).step s5, by omega, p'⟩
        | true =>
          refine iteT ⟨Dd :: ρ, ι5, st2, env1, S5, ve4.step s5, ?_⟩
          simp only [] at p'
          cases q3 : de env1 st2 with
          | bad => rw [q3] at p'; exact p'.elim
          | exc y st3 => rw [q3] at p'; exact p'.elim
          | ok y st3 =>
            rw [q3] at p'
            intro ι6 H6 v6 s6 S6 r6
            have m5 : Dd ∉ ι5 := (S5.rs Dd List.mem_cons_self).2
            have hl6 : H6 Dd = some (.lst vs') := s6.rest _ _ m5 (s5.rest _ _ mD hl3)
            have ra6 := ((ra.step s3).step s5).step s6
            have lv := ra6.length
            have S6 : Sim ((⟨K, mg, ρ⟩ : Bs).more Dd) H6 ι6 st3 := S6
            refine ⟨vs', hl6, Nat.lt_of_le_of_lt (by omega : vs'.length ≤ ds.length) (big_lt hz), ι6, st3, acc ++ [y], vs' ++ [v6], (s15.trans s6).scr hD, S6.scr, upd_same, (ra6.append (VRs.one (B := (⟨K, mg, ρ⟩ : Bs).more Dd) r6)).scr, by simp; omega, ?_⟩
            simp only [bind_assoc, Res.bind_ok] at p'
            simpa only [List.append_assoc, List.singleton_append] using p'
  · have e : ds.drop i = [] := List.drop_eq_nil_of_le (by omega)
    rw [e] at p'
    unfold lcLoop at p'
    by_cases hk : keep st' = true
    case neg => simp only [hk, if_false] at p'; exact p'.elim
    simp only [hk, if_true, Res.bind_ok, List.append_nil] at p'
    refine .inl ⟨io.stop (Dd :: ρ) i ι' H' st' fine s' S' hk (Nat.le_of_not_lt hi), ?_⟩
    exact p' ι' H' (.ref Dd) (s1.trans s') S'.less ⟨Dd, vs', rfl, hl, hD0.1, hD0.2, hρ, ra, S'⟩
section
variable {X : Cx} {W : WX} {elt tg iter : Expr} {ifs : List Expr} {scope : Scope} {own : List (Str × Nat)} {pos spos : Pos} {g : DG} {G : TG} {ix : List Nat} {t : DT} {de : DE} {di : DI}
def PTsd (X : Cx) (W : WX) (ifs : List Expr) (t : DT) : Prop := PTs X ifs (tG X.K X.mg relB W t)
theorem ptsd_nil {X : Cx} {W : WX} : PTsd X W [] dYes := ⟨fun pins s σ H Q I ⟨ρ, ι, st, env, S, ve, p⟩ => pts_nil.run pins s σ H Q I (p.ok S rfl)⟩
theorem ptsd_one {X : Cx} {W : WX} {c : Expr} {t : DT} (h : PTd X W c t) : PTsd X W [c] t := pts_one h
theorem pld_lc0 (hc : X.calm = true) (hN : X.N.Nodup) (hi : PId X W tg iter di) (ok : BlkOk X.N X.env.scope scope own) (gs : GS X.K X.mg G ix g) (hix : ∀ j ∈ ix, j ∈ own.map (·.2))
    (hg : ∀ (s : Shared) (H : Hp) (C : Addr) (cl : List (Str × Addr)) (fp : List Addr), PG (X.blk s H scope (compEnvC scope cl C X.env) fp) tg G) (ht : ∀ (s : Shared) (H : Hp) (C : Addr) (cl : List (Str × Addr)) (fp : List Addr), PTsd (X.blk s H scope (compEnvC scope cl C X.env) fp) W0 ifs t)
    (he : ∀ (s : Shared) (H : Hp) (C : Addr) (cl : List (Str × Addr)) (fp : List Addr), PEd (X.blk s H scope (compEnvC scope cl C X.env) fp) W0 elt de) (hs : ∀ x, foldedSetIterable iter X.env x = pure x := by intro _; rfl) :
    PLd X W (.ListComp elt [⟨tg, iter, ifs, 0⟩] scope pos) (dLc di g t de (own.map (·.2))) :=
  PE.mono (pe_lc (tt := tG X.K X.mg relB W0 t) (te := tG X.K X.mg relV W0 de) hc hN hi ok hg ht he hs) fun _ _ _ h => lc_read gs hix h
theorem pld_lc {ixs : List Nat} (hc : X.calm = true) (hN : X.N.Nodup) (hi : PId X W tg iter di) (ok : BlkOk X.N X.env.scope scope own) (gs : GS X.K X.mg G ix g) (hix : ∀ j ∈ ix, j ∈ own.map (·.2))
    (hg : ∀ (s : Shared) (H : Hp) (C : Addr) (cl : List (Str × Addr)) (fp : List Addr), PG (X.blk s H scope (compEnvC scope cl C X.env) fp) tg G) (ht : ∀ (s : Shared) (H : Hp) (C : Addr) (cl : List (Str × Addr)) (fp : List Addr), PTsd (X.blk s H scope (compEnvC scope cl C X.env) fp) W0 ifs t)
    (he : ∀ (s : Shared) (H : Hp) (C : Addr) (cl : List (Str × Addr)) (fp : List Addr), PEd (X.blk s H scope (compEnvC scope cl C X.env) fp) W0 elt de) (hox : own.map (·.2) = ixs := by rfl) (hs : ∀ x, foldedSetIterable iter X.env x = pure x := by intro _; rfl) :
    PLd X W (.ListComp elt [⟨tg, iter, ifs, 0⟩] scope pos) (dLc di g t de ixs) := by subst hox; exact pld_lc0 hc hN hi ok gs hix hg ht he hs
/-- y = [..]: by value, or into the store -/
theorem psd_setLcFz0 {i : Nat} {y : Str} {py : Pos} (hy : X.N[i]? = some y) (hyl : X.env.scope.names.lookup y = some .local) (hsw : swapsWith (.ListComp elt [⟨tg, iter, ifs, 0⟩] scope pos) (some (.Name y py)) spos.line X.env = pure true)
    (hc : X.calm = true) (hN : X.N.Nodup) (hi : PId X W tg iter di) (ok : BlkOk X.N X.env.scope scope own) (gs : GS X.K X.mg G ix g) (hix : ∀ j ∈ ix, j ∈ own.map (·.2))
    (hg : ∀ (s : Shared) (H : Hp) (C : Addr) (cl : List (Str × Addr)) (fp : List Addr), PG (X.blk s H scope (compEnvC scope cl C X.env) fp) tg G) (ht : ∀ (s : Shared) (H : Hp) (C : Addr) (cl : List (Str × Addr)) (fp : List Addr), PTsd (X.blk s H scope (compEnvC scope cl C X.env) fp) W0 ifs t)
    (he : ∀ (s : Shared) (H : Hp) (C : Addr) (cl : List (Str × Addr)) (fp : List Addr), PEd (X.blk s H scope (compEnvC scope cl C X.env) fp) W0 elt de) (hs : ∀ x, foldedSetIterable iter X.env x = pure x := by intro _; rfl) :
    PSd X W (.Assign [.Name y py] (.ListComp elt [⟨tg, iter, ifs, 0⟩] scope pos) spos) (dSet i (dFz (dLc di g t de (own.map (·.2))))) :=
  PS.mono (ps_setLc (i := i) (tt := tG X.K X.mg relB W0 t) (te := tG X.K X.mg relV W0 de) hc hN hy hyl hsw hi ok hg ht he hs) fun E σ H ⟨ρ, ι, st, env, S, ve, p⟩ => lc_read gs hix ⟨ρ, ι, st, env, S, ve, by
    have p : PostS ⟨X.K, X.mg, ρ⟩ W E σ ι H ((dFz (dLc di g t de (own.map (·.2))) env st).bindS env fun x st1 => .nx (env.set i (some x)) st1) := p
    unfold dFz at p
    cases q : dLc di g t de (own.map (·.2)) env st with
    | bad => rw [q] at p; exact p.elim
    | exc x st1 => rw [q] at p; exact fun ι1 H1 c d s S1 ex => p ι1 H1 σ c d s S1 (ve.step s) ex
    | ok xs st1 =>
      rw [q] at p
      intro ι1 H1 v s S1 rx
      obtain ⟨a, ys, rfl, h1, h2, m, m', r, S2⟩ := rx
      exact p ι1 H1 _ s S1 (VEnv.set (d := .fz xs) (ve.step s) ⟨a, ys, rfl, h1, ⟨(S2.rs a List.mem_cons_self).2, m'⟩, r.less.1⟩)⟩
theorem psd_setLcFz {ixs : List Nat} {i : Nat} {y : Str} {py : Pos} (hy : X.N[i]? = some y) (hyl : X.env.scope.names.lookup y = some .local) (hsw : swapsWith (.ListComp elt [⟨tg, iter, ifs, 0⟩] scope pos) (some (.Name y py)) spos.line X.env = pure true)
    (hc : X.calm = true) (hN : X.N.Nodup) (hi : PId X W tg iter di) (ok : BlkOk X.N X.env.scope scope own) (gs : GS X.K X.mg G ix g) (hix : ∀ j ∈ ix, j ∈ own.map (·.2))
    (hg : ∀ (s : Shared) (H : Hp) (C : Addr) (cl : List (Str × Addr)) (fp : List Addr), PG (X.blk s H scope (compEnvC scope cl C X.env) fp) tg G) (ht : ∀ (s : Shared) (H : Hp) (C : Addr) (cl : List (Str × Addr)) (fp : List Addr), PTsd (X.blk s H scope (compEnvC scope cl C X.env) fp) W0 ifs t)
    (he : ∀ (s : Shared) (H : Hp) (C : Addr) (cl : List (Str × Addr)) (fp : List Addr), PEd (X.blk s H scope (compEnvC scope cl C X.env) fp) W0 elt de) (hox : own.map (·.2) = ixs := by rfl) (hs : ∀ x, foldedSetIterable iter X.env x = pure x := by intro _; rfl) :
    PSd X W (.Assign [.Name y py] (.ListComp elt [⟨tg, iter, ifs, 0⟩] scope pos) spos) (dSet i (dFz (dLc di g t de ixs))) := by subst hox; exact psd_setLcFz0 hy hyl hsw hc hN hi ok gs hix hg ht he hs
theorem psd_setLcNew0 {i : Nat} {y : Str} {py : Pos} (hy : X.N[i]? = some y) (hyl : X.env.scope.names.lookup y = some .local) (hsw : swapsWith (.ListComp elt [⟨tg, iter, ifs, 0⟩] scope pos) (some (.Name y py)) spos.line X.env = pure true)
    (hc : X.calm = true) (hN : X.N.Nodup) (hi : PId X W tg iter di) (ok : BlkOk X.N X.env.scope scope own) (gs : GS X.K X.mg G ix g) (hix : ∀ j ∈ ix, j ∈ own.map (·.2))
    (hg : ∀ (s : Shared) (H : Hp) (C : Addr) (cl : List (Str × Addr)) (fp : List Addr), PG (X.blk s H scope (compEnvC scope cl C X.env) fp) tg G) (ht : ∀ (s : Shared) (H : Hp) (C : Addr) (cl : List (Str × Addr)) (fp : List Addr), PTsd (X.blk s H scope (compEnvC scope cl C X.env) fp) W0 ifs t)
    (he : ∀ (s : Shared) (H : Hp) (C : Addr) (cl : List (Str × Addr)) (fp : List Addr), PEd (X.blk s H scope (compEnvC scope cl C X.env) fp) W0 elt de) (hs : ∀ x, foldedSetIterable iter X.env x = pure x := by intro _; rfl) :
    PSd X W (.Assign [.Name y py] (.ListComp elt [⟨tg, iter, ifs, 0⟩] scope pos) spos) (dSet i (dNew (dLc di g t de (own.map (·.2))))) :=
  PS.mono (ps_setLc (i := i) (tt := tG X.K X.mg relB W0 t) (te := tG X.K X.mg relV W0 de) hc hN hy hyl hsw hi ok hg ht he hs) fun E σ H ⟨ρ, ι, st, env, S, ve, p⟩ => lc_read gs hix ⟨ρ, ι, st, env, S, ve, by
    have p : PostS ⟨X.K, X.mg, ρ⟩ W E σ ι H ((dNew (dLc di g t de (own.map (·.2))) env st).bindS env fun x st1 => .nx (env.set i (some x)) st1) := p
    unfold dNew at p
    cases q : dLc di g t de (own.map (·.2)) env st with
    | bad => rw [q] at p; exact p.elim
    | exc x st1 => rw [q] at p; exact fun ι1 H1 c d s S1 ex => p ι1 H1 σ c d s S1 (ve.step s) ex
    | ok xs st1 =>
      rw [q] at p
      intro ι1 H1 v s S1 rx
      obtain ⟨a, ys, rfl, h1, h2, m, m', r, S2⟩ := rx
      obtain ⟨more, e1, f1⟩ := id s.pre
      have sT : Step ι H (ι1 ++ [a]) H1 := ⟨⟨more ++ [a], by rw [e1, List.append_assoc], fun b hb => by
        rcases List.mem_append.mp hb with z | z
        · exact f1 b z
        · have : b = a := by simpa using z
          subst this
          exact ⟨h2, m⟩⟩, s.rest0⟩
      exact p (ι1 ++ [a]) H1 _ sT (S2.take m' h1 r) (VEnv.set (d := .ref st1.length) (ve.step sT) ⟨a, by rw [← S1.len, List.getElem?_append_right (by omega)]; simp, rfl⟩)⟩
theorem psd_setLcNew {ixs : List Nat} {i : Nat} {y : Str} {py : Pos} (hy : X.N[i]? = some y) (hyl : X.env.scope.names.lookup y = some .local) (hsw : swapsWith (.ListComp elt [⟨tg, iter, ifs, 0⟩] scope pos) (some (.Name y py)) spos.line X.env = pure true)
    (hc : X.calm = true) (hN : X.N.Nodup) (hi : PId X W tg iter di) (ok : BlkOk X.N X.env.scope scope own) (gs : GS X.K X.mg G ix g) (hix : ∀ j ∈ ix, j ∈ own.map (·.2))
    (hg : ∀ (s : Shared) (H : Hp) (C : Addr) (cl : List (Str × Addr)) (fp : List Addr), PG (X.blk s H scope (compEnvC scope cl C X.env) fp) tg G) (ht : ∀ (s : Shared) (H : Hp) (C : Addr) (cl : List (Str × Addr)) (fp : List Addr), PTsd (X.blk s H scope (compEnvC scope cl C X.env) fp) W0 ifs t)
    (he : ∀ (s : Shared) (H : Hp) (C : Addr) (cl : List (Str × Addr)) (fp : List Addr), PEd (X.blk s H scope (compEnvC scope cl C X.env) fp) W0 elt de) (hox : own.map (·.2) = ixs := by rfl) (hs : ∀ x, foldedSetIterable iter X.env x = pure x := by intro _; rfl) :
    PSd X W (.Assign [.Name y py] (.ListComp elt [⟨tg, iter, ifs, 0⟩] scope pos) spos) (dSet i (dNew (dLc di g t de ixs))) := by subst hox; exact psd_setLcNew0 hy hyl hsw hc hN hi ok gs hix hg ht he hs
/-- while: at most so many turns -/
def whileN (t : DT) (d : DS) : Nat → Env → Sto → ResS
  | 0, _, _ => .bad
  | n + 1, env, st => (t env st).bindS env fun k st1 => if k = true then (match d env st1 with
    | .nx env2 st2 => whileN t d n env2 st2
    | .ct env2 st2 => whileN t d n env2 st2
    | .bk env2 st2 => .nx env2 st2
    | r => r) else .nx env st1
theorem psd_while (n : Nat) {c : Expr} {body : List Stmt} {d : DS} (hp : PassesOwn (model X.prog X.w) X.A X.env X.xe) (hc : PTd X W c t) (hb : PSsd X W body d) : PSd X W (.While c body [] pos) (whileN t d n) :=
  PS.mono (ps_while hp hc hb) fun E σ H ⟨ρ, ι, st, env, S, ve, p⟩ => by
    refine ⟨fun m σ' H' => ∃ ι' st' env', Step ι H ι' H' ∧ Sim ⟨X.K, X.mg, ρ⟩ H' ι' st' ∧ VEnv ⟨X.K, X.mg, ρ⟩ H' ι' env' σ' ∧ PostS ⟨X.K, X.mg, ρ⟩ W E σ' ι' H' (whileN t d m env' st'), ⟨n, ι, st, env, Step.refl _ _, S, ve, p⟩, ?_⟩
    rintro m σ' H' ⟨ι', st', env', s', S', ve', p'⟩
    cases m with
    | zero => exact p'.elim
    | succ m =>
      refine ⟨ρ, ι', st', env', S', ve', PostS.bind ve' p' fun k st1 ι1 H1 v s1 S1 rx p1 => ?_⟩
      cases rx
      cases k with
      | false => exact iteF (p1 ι1 H1 σ' (Step.refl _ _) S1 (ve'.step s1))
      | true =>
        refine iteT ⟨fun σ2 H2 => ∃ ι2 st2 env2, Step ι H ι2 H2 ∧ Sim ⟨X.K, X.mg, ρ⟩ H2 ι2 st2 ∧ VEnv ⟨X.K, X.mg, ρ⟩ H2 ι2 env2 σ2 ∧ PostS ⟨X.K, X.mg, ρ⟩ W E σ2 ι2 H2 (whileN t d m env2 st2), fun σ2 H2 h => ⟨m, by omega, h⟩, ρ, ι1, st1, env', S1, ve'.step s1, ?_⟩
        simp only [if_true] at p1
        have s4 := s'.trans s1
        cases q2 : d env' st1 with
        | nx e2 st2 =>
          rw [q2] at p1
          exact fun ι5 H5 σ5 s5 S5 ve5 => ⟨ι5, st2, e2, s4.trans s5, S5, ve5, PostS.step s5 p1⟩
        | ct e2 st2 =>
          rw [q2] at p1
          exact fun ι5 H5 σ5 s5 S5 ve5 => ⟨ι5, st2, e2, s4.trans s5, S5, ve5, PostS.step s5 p1⟩
        | bk e2 st2 => rw [q2] at p1; exact p1
        | rt y st2 => rw [q2] at p1; exact p1
        | exc y e2 st2 => rw [q2] at p1; exact p1
        | bad => rw [q2] at p1; exact p1
end
end DD

/-! DD8: built-ins, methods, slices, fields, objects made, == of data. -/
namespace DD
open PySem L2 PyProof.Rows
variable [NMs]

section
variable {K : PySem.W.Frag} {mg : Str → Option Value}
/-! ### len -/
def lenD : D → Sto → Option Nat
  | .str x, _ => if x.length ≤ bigLine then some x.length else none
  | .tup ds, _ => some ds.length
  | .fz ds, _ => some ds.length
  | .sc ds, _ => some ds.length
  | .ref n, st => match st[n]? with
    | some (.lst ds) => some ds.length
    | _ => none
  | _, _ => none
def fLen : FC := fun xs st => match xs with
  | [x] => match lenD x st with
    | some n => .ok (.int n) st
    | none => .bad
  | _ => .bad
theorem rc_len : RC K mg (fun xs H Q => ∃ x n, xs = [x] ∧ LenV K x H n ∧ Q (.int n) H) fLen := by
  intro ρ ι H st xs vs W σ Q S r p
  unfold fLen at p
  split at p
  · rename_i x
    obtain ⟨v, rfl, h⟩ := vr1 r
    split at p
    · rename_i n e
      refine ⟨v, n, rfl, ?_, p.ok S rfl⟩
      cases x with
      | str x =>
        cases h
        simp only [lenD] at e
        split at e
        · rename_i hl; cases e; exact ⟨big_le hl, rfl⟩
        · cases e
      | tup ds => obtain ⟨a, ys, rfl, h1, r1⟩ := h; cases e; exact .inr ⟨ys, h1.sq, r1.length⟩
      | fz ds => obtain ⟨a, ys, rfl, h1, n1, r1⟩ := h; cases e; exact .inl ⟨ys, SqL.of h1, r1.length⟩
      | sc ds => obtain ⟨a, ys, rfl, h1, r1⟩ := h; cases e; exact .inl ⟨ys, h1.sq, r1.length⟩
      | ref m =>
        obtain ⟨a, ha, rfl⟩ := h
        simp only [lenD] at e
        split at e
        · rename_i ds q
          cases e
          obtain ⟨ys, h1, r1⟩ := S.look q ha
          exact .inl ⟨ys, SqL.of h1, r1.length⟩
        · cases e
      | _ => cases e
    · exact p.elim
  · exact p.elim
/-! ### isinstance of a built-in type -/
def tyName : D → Sto → Option String
  | .non, _ => some "NoneType"
  | .bl _, _ => some "bool"
  | .int _, _ => some "int"
  | .str _, _ => some "str"
  | .tup _, _ => some "tuple"
  | .fz _, _ => some "list"
  | .sc _, _ => some "list"
  | .fd _ _, _ => some "dict"
  | .ref n, st => match st[n]? with
    | some (.lst _) => some "list"
    | some (.dct _ _) => some "dict"
    | _ => none
  | _, _ => none
theorem tyX_of {B : Bs} {H ι st} {d : D} {v : V} {T : String} (S : Sim B H ι st) (r : VR B H ι d v) (h : tyName d st = some T) : TyX B.K H v (.type T) := by
  cases d with
  | non => cases r; cases h; exact .base .non
  | bl _ => cases r; cases h; exact .base (.bl _)
  | int _ => cases r; cases h; exact .base (.int _)
  | str _ => cases r; cases h; exact .base (.str _)
  | tup ds =>
    obtain ⟨a, xs, rfl, h1, r1⟩ := r
    cases h
    rcases h1 with ⟨h1 | ⟨o, h1⟩, _⟩ | ⟨o, its, n, k, c, _⟩
    · exact .base (.tup h1)
    · exact .fTuple h1
    · exact .kTuple k c
  | fz ds => obtain ⟨a, xs, rfl, h1, n1, r1⟩ := r; cases h; exact .base (.lst h1)
  | sc ds =>
    obtain ⟨a, xs, rfl, h1, r1⟩ := r
    cases h
    rcases h1 with ⟨h1 | ⟨o, h1⟩, _⟩ | ⟨o, its, n, k, c, _⟩
    · exact .base (.lst h1)
    · exact .base (.frz h1)
    · exact .kList k c
  | fd ks ds => obtain ⟨a, od, kvs, xs, rfl, h1, n1, e, l, r1⟩ := r; cases h; exact .fDict h1
  | ref n =>
    obtain ⟨a, ha, rfl⟩ := r
    simp only [tyName] at h
    split at h
    · rename_i ds e; cases h; obtain ⟨xs, h1, r1⟩ := S.look e ha; exact .base (.lst h1)
    · rename_i ks ds e; cases h; obtain ⟨kvs, xs, h1, _⟩ := S.look e ha; exact .base (.dK h1)
    · cases h
  | _ => cases h
def fIsi : FC := fun xs st => match xs with
  | [x, .ty T] => match tyName x st with
    | some n => match kitB n T with
      | some b => .ok (.bl b) st
      | none => .bad
    | none => .bad
  | _ => .bad
theorem rc_isi : RC K mg (rIsi K) fIsi := by
  intro ρ ι H st xs vs W σ Q S r p
  unfold fIsi at p
  split at p
  · rename_i x T
    obtain ⟨v, w, rfl, h, k⟩ := vr2 r
    cases k
    split at p
    · rename_i n e
      split at p
      · rename_i b eb
        exact ⟨v, .ty T, .type n, .type T, b, rfl, .ty T, tyX_of S h e, kit_ty eb, p.ok S rfl⟩
      · exact p.elim
    · exact p.elim
  · exact p.elim
/-! ### all, any -/
def blsOf : List D → Option (List Bool)
  | [] => some []
  | .bl b :: r => (blsOf r).map (b :: ·)
  | _ => none
theorem bls_of {B H ι} : ∀ {ds : List D} {bs : List Bool} {vs : List V}, blsOf ds = some bs → VRs B H ι ds vs → vs = bs.map V.bl
  | [], bs, vs, e, r => by cases e; cases r; rfl
  | d :: ds, bs, vs, e, ⟨x, t, e1, h, r⟩ => by
    subst e1
    cases d <;> (try (cases e))
    rename_i b
    cases h
    have e' : (blsOf ds).map (b :: ·) = some bs := e
    cases q : blsOf ds with
    | none => rw [q] at e'; cases e'
    | some cs => rw [q] at e'; cases e'; rw [bls_of q r]; rfl
def fAll : FC := fun xs st => match xs with
  | [.fz ds] => match blsOf ds with
    | some bs => .ok (.bl (bs.all id)) st
    | none => .bad
  | _ => .bad
def fAny : FC := fun xs st => match xs with
  | [.fz ds] => match blsOf ds with
    | some bs => .ok (.bl (bs.any id)) st
    | none => .bad
  | _ => .bad
theorem rc_all : RC K mg (rAll K) fAll := by
  intro ρ ι H st xs vs W σ Q S r p
  unfold fAll at p
  split at p
  · rename_i ds
    obtain ⟨v, rfl, a, ys, rfl, h1, n1, r1⟩ := vr1 r
    split at p
    · rename_i bs e
      have := bls_of e r1
      subst this
      exact ⟨a, bs, rfl, SqL.of h1, p.ok S rfl⟩
    · exact p.elim
  · exact p.elim
theorem rc_any : RC K mg (rAny K) fAny := by
  intro ρ ι H st xs vs W σ Q S r p
  unfold fAny at p
  split at p
  · rename_i ds
    obtain ⟨v, rfl, a, ys, rfl, h1, n1, r1⟩ := vr1 r
    split at p
    · rename_i bs e
      have := bls_of e r1
      subst this
      exact ⟨a, bs, rfl, SqL.of h1, p.ok S rfl⟩
    · exact p.elim
  · exact p.elim
/-! ### tuple(..), list(..) -/
def fTuple : FC := fun xs st => match xs with
  | [.fz ds] => .ok (.tup ds) st
  | [.sc ds] => .ok (.tup ds) st
  | [.tup ds] => .ok (.tup ds) st
  | [.ref n] => match st[n]? with
    | some (.lst ds) => .ok (.tup ds) st
    | _ => .bad
  | _ => .bad
def rTuple (K : PySem.W.Frag) : List V → Hp → VK → Prop := fun xs H Q => ∃ p ys, xs = [.ref p] ∧ ((SqL K H p ys ∧ ∀ l, H l = none → Q (.ref l) (upd H l (.tup ys))) ∨ (SqT K H p ys ∧ Q (.ref p) H))
theorem new_tup {B : Bs} {H ι st W σ Q} {ds : List D} {ys : List V} (S : Sim B H ι st) (r : VRs B H ι ds ys) (p : Post B relV W σ ι H (.ok (.tup ds) st) Q) : ∀ l, H l = none → Q (.ref l) (upd H l (.tup ys)) := fun l hl =>
  p.ok' (Step.new S hl) (S.new hl) ⟨l, ys, rfl, .inl ⟨.inl upd_same, S.fresh hl, S.fr hl⟩, r.step (Step.new S hl)⟩
theorem rc_tuple : RC K mg (rTuple K) fTuple := by
  intro ρ ι H st xs vs W σ Q S r p
  unfold fTuple at p
  split at p
  · obtain ⟨v, rfl, a, ys, rfl, h1, n1, r1⟩ := vr1 r
    exact ⟨a, ys, rfl, .inl ⟨SqL.of h1, new_tup S r1 p⟩⟩
  · obtain ⟨v, rfl, a, ys, rfl, h1, r1⟩ := vr1 r
    exact ⟨a, ys, rfl, .inl ⟨h1.sq, new_tup S r1 p⟩⟩
  · obtain ⟨v, rfl, h⟩ := vr1 r
    obtain ⟨a, ys, rfl, h1, r1⟩ := id h
    exact ⟨a, ys, rfl, .inr ⟨h1.sq, p.ok S h⟩⟩
  · obtain ⟨v, rfl, a, ha, rfl⟩ := vr1 r
    split at p
    · rename_i n ds e
      obtain ⟨ys, h1, r1⟩ := S.look e ha
      exact ⟨a, ys, rfl, .inl ⟨SqL.of h1, new_tup S r1 p⟩⟩
    · exact p.elim
  · exact p.elim
def itemsD : D → Sto → Option (List D)
  | .fz ds, _ => some ds
  | .sc ds, _ => some ds
  | .tup ds, _ => some ds
  | .ref n, st => match st[n]? with
    | some (.lst ds) => some ds
    | _ => none
  | _, _ => none
theorem items_of {B : Bs} {H ι st} {d : D} {v : V} {ds : List D} (S : Sim B H ι st) (r : VR B H ι d v) (h : itemsD d st = some ds) : ∃ a ys, v = .ref a ∧ (SqL B.K H a ys ∨ SqT B.K H a ys) ∧ VRs B H ι ds ys := by
  cases d with
  | fz ds => obtain ⟨a, ys, rfl, h1, n1, r1⟩ := r; cases h; exact ⟨a, ys, rfl, .inl (SqL.of h1), r1⟩
  | sc ds => obtain ⟨a, ys, rfl, h1, r1⟩ := r; cases h; exact ⟨a, ys, rfl, .inl h1.sq, r1⟩
  | tup ds => obtain ⟨a, ys, rfl, h1, r1⟩ := r; cases h; exact ⟨a, ys, rfl, .inr h1.sq, r1⟩
  | ref n =>
    obtain ⟨a, ha, rfl⟩ := r
    simp only [itemsD] at h
    split at h
    · rename_i ds e
      cases h
      obtain ⟨ys, h1, r1⟩ := S.look e ha
      exact ⟨a, ys, rfl, .inl (SqL.of h1), r1⟩
    · cases h
  | _ => cases h
theorem new_lst {B : Bs} {H ι st W σ Q} {ds : List D} {ys : List V} (S : Sim B H ι st) (r : VRs B H ι ds ys) (p : Post B relL W σ ι H (.ok ds st) Q) : ∀ l, H l = none → Q (.ref l) (upd H l (.lst ys)) := fun l hl =>
  p.ok' (Step.new S hl) (S.new hl) ⟨l, ys, rfl, upd_same, noH hl, S.fresh hl, S.fr hl, (r.more hl).step (Step.new S hl), S.reserve hl⟩
def fList : FL := fun xs st => match xs with
  | [x] => match itemsD x st with
    | some ds => .ok ds st
    | none => .bad
  | _ => .bad
theorem rcl_list : RCL K mg (fun xs H Q => ∃ p ys, xs = [.ref p] ∧ (SqL K H p ys ∨ SqT K H p ys) ∧ ∀ l, H l = none → Q (.ref l) (upd H l (.lst ys))) fList := by
  intro ρ ι H st xs vs W σ Q S r p
  unfold fList at p
  split at p
  · rename_i x
    obtain ⟨v, rfl, h⟩ := vr1 r
    split at p
    · rename_i ds e
      obtain ⟨a, ys, rfl, hs, r1⟩ := items_of S h e
      exact ⟨a, ys, rfl, hs, new_lst S r1 p⟩
    · exact p.elim
  · exact p.elim
/-! ### int, abs -/
def fInt : FC := fun xs st => match xs with
  | [.int i] => .ok (.int i) st
  | [.bl k] => .ok (.int (if k then 1 else 0)) st
  | _ => .bad
theorem rc_int : RC K mg (fun xs H Q => (∃ i, xs = [.int i] ∧ Q (.int i) H) ∨ ∃ k, xs = [.bl k] ∧ Q (.int (if k then 1 else 0)) H) fInt := by
  intro ρ ι H st xs vs W σ Q S r p
  unfold fInt at p
  split at p
  · obtain ⟨v, rfl, h⟩ := vr1 r; cases h; exact .inl ⟨_, rfl, p.ok S rfl⟩
  · obtain ⟨v, rfl, h⟩ := vr1 r; cases h; exact .inr ⟨_, rfl, p.ok S rfl⟩
  · exact p.elim
def fAbs : FC := fun xs st => match xs with
  | [.int i] => .ok (.int (if i < 0 then -i else i)) st
  | _ => .bad
theorem rc_abs : RC K mg (fun xs H Q => ∃ i, xs = [.int i] ∧ Q (.int (if i < 0 then -i else i)) H) fAbs := by
  intro ρ ι H st xs vs W σ Q S r p
  unfold fAbs at p
  split at p
  · obtain ⟨v, rfl, h⟩ := vr1 r; cases h; exact ⟨_, rfl, p.ok S rfl⟩
  · exact p.elim
end

/-! ### methods of built-in values -/
section
variable {X : Cx} {W : WX} {o e : Expr} {es : List Expr} {dx : DE} {ds : DA} {apos cpos : Pos} {T id : String} {name : Str} {r : V → List V → Hp → VK → Prop}
abbrev FM := D → List D → Sto → Res D
/-- a method by values: that the value is of the type is told, too -/
def RM (K : PySem.W.Frag) (mg : Str → Option Value) (T : String) (r : V → List V → Hp → VK → Prop) (f : FM) (ok : D → Sto → Bool) : Prop :=
  (∀ {ρ ι H st x v}, Sim ⟨K, mg, ρ⟩ H ι st → VR ⟨K, mg, ρ⟩ H ι x v → ok x st = true → tyV K T v H) ∧
  ∀ {ρ ι H st x v xs vs W σ} {Q : VK}, Sim ⟨K, mg, ρ⟩ H ι st → VR ⟨K, mg, ρ⟩ H ι x v → VRs ⟨K, mg, ρ⟩ H ι xs vs → Post ⟨K, mg, ρ⟩ relV W σ ι H (f x xs st) Q → r v vs H Q
def dMeth (ok : D → Sto → Bool) (f : FM) (dx : DE) (ds : DA) : DE := fun env st => (dx env st).bind fun x st1 => if ok x st1 = true then (ds env st1).bind fun xs st2 => f x xs st2 else .bad
theorem pd_bm {f : FM} {ok : D → Sto → Bool} (pa : PlainAttrs T) (slot : Slot T name id) (hty : typeOf (.builtin id) = pure (.type "method_descriptor")) (hm : MtR X id r) (hr : RM X.K X.mg T r f ok) (ho : PEd X W o dx) (ha : PAd X W (e :: es) ds)
    (hbase : attributeBase o name X.env (eval o X.env) = eval o X.env := by rfl)
    (hfew : ((backTo cpos (starEach (e :: es) X.env)).all (fun x => !x.1) && (backToKw cpos (keywordEach [] X.env)).all (fun x => x.1.isSome)
      && decide ((e :: es).length + ([] : List Keyword).length + (if ([] : List Keyword).isEmpty then 0 else 1) < 30)) = true := by rfl)
    (hline : (apos.endLine == cpos.line) = true := by rfl) (hs : starEach (e :: es) X.env = (false, eval e X.env) :: starEach es X.env := by rfl) (hplain : (backTo cpos (starEach es X.env)).any (·.1) = false := by rfl) :
    PEd X W (.Call (.Attribute o name apos) (e :: es) [] cpos) (dMeth ok f dx ds) :=
  PE.mono (pe_bm pa slot hty hm ho ha hbase hfew hline hs hplain) fun σ H Q ⟨ρ, ι, st, env, S, ve, p⟩ => ⟨ρ, ι, st, env, S, ve, Post.bind p fun x st1 ι1 H1 v s1 S1 rx p1 => by
    by_cases hk : ok x st1 = true
    · simp only [hk, if_true] at p1
      exact ⟨hr.1 S1 rx hk, ρ, ι1, st1, env, S1, ve.step s1, Post.bind p1 fun xs st2 ι2 H2 vs s2 S2 rxs p2 => hr.2 S2 (VR.step s2 rx) rxs p2⟩
    · simp only [hk, if_false] at p1; exact p1.elim⟩
theorem pd_bm0 {f : FM} {ok : D → Sto → Bool} (pa : PlainAttrs T) (slot : Slot T name id) (hty : typeOf (.builtin id) = pure (.type "method_descriptor")) (hm : MtR X id r) (hr : RM X.K X.mg T r f ok) (ho : PEd X W o dx)
    (hbase : attributeBase o name X.env (eval o X.env) = eval o X.env := by rfl) (hline : (apos.endLine == cpos.line) = true := by rfl) : PEd X W (.Call (.Attribute o name apos) [] [] cpos) (dMeth ok f dx dNil) :=
  PE.mono (pe_bm0 pa slot hty hm ho hbase hline) fun σ H Q ⟨ρ, ι, st, env, S, ve, p⟩ => ⟨ρ, ι, st, env, S, ve, Post.bind p fun x st1 ι1 H1 v s1 S1 rx p1 => by
    by_cases hk : ok x st1 = true
    · simp only [hk, if_true] at p1
      exact ⟨hr.1 S1 rx hk, hr.2 (xs := []) (vs := []) S1 rx rfl p1⟩
    · simp only [hk, if_false] at p1; exact p1.elim⟩
def isStr : D → Sto → Bool
  | .str _, _ => true
  | _, _ => false
theorem isStr_ty {K : PySem.W.Frag} {mg ρ ι H st} {x : D} {v : V} (S : Sim ⟨K, mg, ρ⟩ H ι st) (r : VR ⟨K, mg, ρ⟩ H ι x v) (h : isStr x st = true) : tyV K "str" v H := by
  cases x <;> (try (cases h))
  cases r
  rfl
def isLst : D → Sto → Bool
  | .ref n, st => match st[n]? with
    | some (.lst _) => true
    | _ => false
  | _, _ => false
theorem isLst_ty {K : PySem.W.Frag} {mg ρ ι H st} {x : D} {v : V} (S : Sim ⟨K, mg, ρ⟩ H ι st) (r : VR ⟨K, mg, ρ⟩ H ι x v) (h : isLst x st = true) : tyV K "list" v H := by
  cases x <;> (try (cases h))
  obtain ⟨a, ha, rfl⟩ := r
  simp only [isLst] at h
  split at h
  · rename_i n ds e
    obtain ⟨ys, h1, r1⟩ := S.look e ha
    exact .inl ⟨rfl, ys, SqL.of h1⟩
  · cases h
/-- xs.append(x) -/
def fAppend : FM := fun x xs st => match x, xs with
  | .ref n, [y] => match st[n]? with
    | some (.lst ds) => if ds.length ≤ bigLine then .ok .non (st.set n (.lst (ds ++ [y]))) else .bad
    | _ => .bad
  | _, _ => .bad
theorem rm_append : RM X.K X.mg "list" rAppend fAppend isLst := ⟨fun S r h => isLst_ty S r h, fun {ρ ι H st x v xs vs W σ} {Q} S r rs p => by
  unfold fAppend at p
  split at p
  · rename_i n y
    obtain ⟨a, ha, rfl⟩ := r
    obtain ⟨w, rfl, hw⟩ := vr1 rs
    split at p
    · rename_i ds e
      obtain ⟨ys, h1, r1⟩ := S.look e ha
      split at p
      · rename_i hl
        have s := Step.write ha (H := H) (o := .lst (ys ++ [w]))
        exact ⟨a, ys, w, rfl, rfl, h1, by rw [← r1.length]; exact big_lt hl, p.ok' s (S.write ha ⟨_, upd_same, (r1.append (VRs.one hw)).step s⟩) rfl⟩
      · exact p.elim
    · exact p.elim
  · exact p.elim⟩
def fClear : FM := fun x xs st => match x, xs with
  | .ref n, [] => match st[n]? with
    | some (.lst _) => .ok .non (st.set n (.lst []))
    | _ => .bad
  | _, _ => .bad
theorem rm_clear : RM X.K X.mg "list" rClear fClear isLst := ⟨fun S r h => isLst_ty S r h, fun {ρ ι H st x v xs vs W σ} {Q} S r rs p => by
  unfold fClear at p
  split at p
  · rename_i n
    obtain ⟨a, ha, rfl⟩ := r
    cases rs
    split at p
    · rename_i ds e
      obtain ⟨ys, h1, r1⟩ := S.look e ha
      have s := Step.write ha (H := H) (o := .lst [])
      exact ⟨a, ys, rfl, rfl, h1, p.ok' s (S.write ha ⟨[], upd_same, rfl⟩) rfl⟩
    · exact p.elim
  · exact p.elim⟩
/-- xs.extend(ys), ys another list -/
def fExtend : FM := fun x xs st => match x, xs with
  | .ref n, [.fz es] => match st[n]? with
    | some (.lst ds) => if ds.length + es.length ≤ bigLine then .ok .non (st.set n (.lst (ds ++ es))) else .bad
    | _ => .bad
  | _, _ => .bad
theorem rm_extend : RM X.K X.mg "list" rExtend fExtend isLst := ⟨fun S r h => isLst_ty S r h, fun {ρ ι H st x v xs vs W σ} {Q} S r rs p => by
  unfold fExtend at p
  split at p
  · rename_i n es
    obtain ⟨a, ha, rfl⟩ := r
    obtain ⟨w, rfl, b, zs, rfl, h2, m2, r2⟩ := vr1 rs
    split at p
    · rename_i ds e
      obtain ⟨ys, h1, r1⟩ := S.look e ha
      split at p
      · rename_i hl
        have s := Step.write ha (H := H) (o := .lst (ys ++ zs))
        exact ⟨a, b, ys, zs, rfl, rfl, h1, h2, by rw [← r1.length, ← r2.length]; exact big_le hl, p.ok' s (S.write ha ⟨_, upd_same, (r1.append r2).step s⟩) rfl⟩
      · exact p.elim
    · exact p.elim
  · exact p.elim⟩
/-- sep.join(xs) -/
def strsOf : List D → Option (List Str)
  | [] => some []
  | .str b :: r => (strsOf r).map (b :: ·)
  | _ => none
theorem strs_of {B H ι} : ∀ {ds : List D} {bs : List Str} {vs : List V}, strsOf ds = some bs → VRs B H ι ds vs → vs = bs.map V.str
  | [], bs, vs, e, r => by cases e; cases r; rfl
  | d :: ds, bs, vs, e, ⟨x, t, e1, h, r⟩ => by
    subst e1
    cases d <;> (try (cases e))
    rename_i b
    cases h
    have e' : (strsOf ds).map (b :: ·) = some bs := e
    cases q : strsOf ds with
    | none => rw [q] at e'; cases e'
    | some cs => rw [q] at e'; cases e'; rw [strs_of q r]; rfl
def fJoin : FM := fun x xs st => match x, xs with
  | .str a, [y] => match itemsD y st with
    | some ds => match strsOf ds with
      | some ys => if (ys.map (·.length)).sum + ys.length * a.length ≤ bigLine then .ok (.str (Txt.join a ys)) st else .bad
      | none => .bad
    | none => .bad
  | _, _ => .bad
theorem rm_join : RM X.K X.mg "str" (fun x xs H Q => ∃ a p, ∃ ys : List Str, x = .str a ∧ xs = [.ref p] ∧ (SqL X.K H p (ys.map V.str) ∨ SqT X.K H p (ys.map V.str)) ∧ (ys.map (·.length)).sum + ys.length * a.length ≤ 16777216 ∧ Q (.str (Txt.join a ys)) H) fJoin isStr :=
  ⟨fun S r h => isStr_ty S r h, fun {ρ ι H st x v xs vs W σ} {Q} S r rs p => by
  unfold fJoin at p
  split at p
  · rename_i a y
    cases r
    obtain ⟨w, rfl, hw⟩ := vr1 rs
    split at p
    · rename_i ds e
      obtain ⟨q, zs, rfl, hs, r1⟩ := items_of S hw e
      split at p
      · rename_i ys e2
        have := strs_of e2 r1
        subst this
        split at p
        · rename_i hl
          exact ⟨a, q, ys, rfl, rfl, hs, Nat.le_trans hl (by decide), p.ok S rfl⟩
        · exact p.elim
      · exact p.elim
    · exact p.elim
  · exact p.elim⟩
def fFind : FM := fun x xs st => match x, xs with
  | .str a, [.str b] => .ok (.int (Txt.find a b)) st
  | _, _ => .bad
theorem rm_find : RM X.K X.mg "str" (fun x xs H Q => ∃ a b, x = .str a ∧ xs = [.str b] ∧ Q (.int (Txt.find a b)) H) fFind isStr :=
  ⟨fun S r h => isStr_ty S r h, fun {ρ ι H st x v xs vs W σ} {Q} S r rs p => by
  unfold fFind at p
  split at p
  · cases r
    obtain ⟨w, rfl, hw⟩ := vr1 rs
    cases hw
    exact ⟨_, _, rfl, rfl, p.ok S rfl⟩
  · exact p.elim⟩
def fUpper : FM := fun x xs st => match x, xs with
  | .str a, [] => if a.length ≤ bigLine then .ok (.str (Txt.upper a)) st else .bad
  | _, _ => .bad
theorem rm_upper : RM X.K X.mg "str" (fun x xs H Q => ∃ a, x = .str a ∧ xs = [] ∧ a.length ≤ 5592405 ∧ Q (.str (Txt.upper a)) H) fUpper isStr :=
  ⟨fun S r h => isStr_ty S r h, fun {ρ ι H st x v xs vs W σ} {Q} S r rs p => by
  unfold fUpper at p
  split at p
  · cases r
    cases rs
    split at p
    · rename_i hl; exact ⟨_, rfl, rfl, Nat.le_trans hl (by decide), p.ok S rfl⟩
    · exact p.elim
  · exact p.elim⟩
end
end DD

/-! DD9: slices, fields, objects made, == of data. -/
namespace DD
open PySem L2 PyProof.Rows
variable [NMs]

/-! ### slices -/
def relO : Rel (Option Int) (Option Int) := ⟨fun _ _ _ _ _ _ d v => v = d, fun _ h => h⟩
abbrev DO := Env → Sto → Res (Option Int)
def POd (X : Cx) (W : WX) (e : Option Expr) (d : DO) : Prop := PO X e (tG X.K X.mg relO W d)
theorem PO.mono {X : Cx} {e : Option Expr} {t t' : TO} (h : PO X e t) (k : ∀ σ H Q, t' σ H Q → t σ H Q) : PO X e t' := ⟨fun p s σ H Q I q => h.run p s σ H Q I (k σ H Q q)⟩
def dNoPart : DO := fun _ st => .ok none st
def dPart (da : DE) : DO := fun env st => (da env st).bind fun x st1 => match x with
  | .int i => .ok (some i) st1
  | _ => .bad
section
variable {X : Cx} {W : WX} {e : Expr} {lo hi : Option Expr} {da : DE} {dl dh : DO} {pos p2 : Pos}
theorem pod_none : POd X W none dNoPart := PO.mono po_none fun σ H Q ⟨ρ, ι, st, env, S, ve, p⟩ => p.ok S rfl
theorem pod_some (h : PEd X W e da) : POd X W (some e) (dPart da) := PO.mono (po_some h) fun σ H Q ⟨ρ, ι, st, env, S, ve, p⟩ => ⟨ρ, ι, st, env, S, ve, Post.bind p fun x st1 ι1 H1 v s1 S1 rx p1 => by
  cases x <;> (try exact p1.elim)
  cases rx
  exact ⟨_, rfl, p1.ok S1 rfl⟩⟩
def cutL {α : Type} (xs : List α) (lo hi : Option Int) : List α := (xs.drop (HT.sIx xs.length 0 lo)).take (HT.sIx xs.length xs.length hi - HT.sIx xs.length 0 lo)
def fSl (x : D) (lo hi : Option Int) (st : Sto) : Res D := match x with
  | .str z => if z.length ≤ bigLine then .ok (.str (cutS z lo hi)) st else .bad
  | .tup ds => .ok (.tup (cutL ds lo hi)) st
  | .fz ds => .ok (.fz (cutL ds lo hi)) st
  | .sc ds => .ok (.fz (cutL ds lo hi)) st
  | .ref n => match st[n]? with
    | some (.lst ds) => .ok (.fz (cutL ds lo hi)) st
    | _ => .bad
  | _ => .bad
theorem cut_vr {B H ι} {ds : List D} {vs : List V} {lo hi : Option Int} (r : VRs B H ι ds vs) : VRs B H ι (cutL ds lo hi) (cutV vs lo hi) := by
  unfold cutL cutV
  rw [r.length]
  exact (r.drop _).take _
def rSl3 (K : PySem.W.Frag) : V → Option Int → Option Int → Hp → VK → Prop := fun x lo hi H Q => rSlS x lo hi H Q ∨ (rSlA K x lo hi H Q ∨ rSlL K x lo hi H Q)
def dSl (da : DE) (dl dh : DO) : DE := fun env st => (da env st).bind fun x st1 => (dl env st1).bind fun l st2 => (dh env st2).bind fun u st3 => fSl x l u st3
theorem cut_whole {ds : List D} {lo hi : Option Int} (h : HT.sIx ds.length 0 lo = 0 ∧ HT.sIx ds.length ds.length hi = ds.length) : cutL ds lo hi = ds := by
  unfold cutL
  rw [h.1, h.2, List.drop_zero, Nat.sub_zero, List.take_length]
theorem new_fz {B : Bs} {H ι st W σ Q} {ds : List D} {ys : List V} (S : Sim B H ι st) (r : VRs B H ι ds ys) (p : Post B relV W σ ι H (.ok (.fz ds) st) Q) : ∀ l, H l = none → Q (.ref l) (upd H l (.lst ys)) := fun l hl =>
  p.ok' (Step.new S hl) (S.new hl) ⟨l, ys, rfl, upd_same, ⟨S.fresh hl, S.fr hl⟩, r.step (Step.new S hl)⟩
theorem pd_slice (he : PEd X W e da) (hl : POd X W lo dl) (hu : POd X W hi dh) : PEd X W (.Subscript e (.Slice lo hi none p2) pos) (dSl da dl dh) :=
  PE.mono (pe_slice (SlR.or sl_str (SlR.or sl_tupA sl_list)) he hl hu) fun σ H Q ⟨ρ, ι, st, env, S, ve, p⟩ =>
    ⟨ρ, ι, st, env, S, ve, Post.bind p fun x st1 ι1 H1 v s1 S1 rx p1 => ⟨ρ, ι1, st1, env, S1, ve.step s1, Post.bind p1 fun l st2 ι2 H2 l' s2 S2 rl p2 => ⟨ρ, ι2, st2, env, S2, (ve.step s1).step s2, Post.bind p2 fun u st3 ι3 H3 u' s3 S3 ru p3 => by
      cases rl
      cases ru
      have rx3 : VR ⟨X.K, X.mg, ρ⟩ H3 ι3 x v := (VR.step s2 rx).step s3
      cases x with
      | str z =>
        cases rx3
        simp only [fSl] at p3
        split at p3
        · rename_i hz; exact .inl ⟨z, rfl, big_le hz, p3.ok S3 rfl⟩
        · exact p3.elim
      | tup ds =>
        obtain ⟨a, xs, rfl, h1, r1⟩ := id rx3
        simp only [fSl] at p3
        have hl := r1.length
        refine .inr (.inl ⟨a, xs, rfl, h1.sq, fun hw => ?_, fun hw q hq => ?_⟩)
        · rw [← hl] at hw
          rw [cut_whole hw] at p3
          exact p3.ok S3 rx3
        · exact new_tup S3 (cut_vr r1) p3 q hq
      | fz ds =>
        obtain ⟨a, xs, rfl, h1, m, r1⟩ := id rx3
        exact .inr (.inr ⟨a, xs, rfl, SqL.of h1, new_fz S3 (cut_vr r1) p3⟩)
      | sc ds =>
        obtain ⟨a, xs, rfl, h1, r1⟩ := id rx3
        exact .inr (.inr ⟨a, xs, rfl, h1.sq, new_fz S3 (cut_vr r1) p3⟩)
      | ref n =>
        obtain ⟨a, ha, rfl⟩ := id rx3
        simp only [fSl] at p3
        split at p3
        · rename_i ds q
          obtain ⟨xs, h1, r1⟩ := S3.look q ha
          exact .inr (.inr ⟨a, xs, rfl, SqL.of h1, new_fz S3 (cut_vr r1) p3⟩)
        · exact p3.elim
      | _ => exact p3.elim⟩⟩⟩
end

/-! ### fields -/
/-- what is known of the classes with these names, for a field -/
def FldOk (K : PySem.W.Frag) (mg : Str → Option Value) (cs : List Str) (f : Str) : Prop := ∀ c ∈ cs, ∀ C, mg c = some (.ref C) → Cls K C ∧ NoAttr K C f
def fFld (cs : List Str) (f : Str) : F1 := fun x st => match x with
  | .obj c ns ds => if c ∈ cs then (match (ns.zip ds).lookup f with
    | some d => .ok d st
    | none => .bad) else .bad
  | .ref n => match st[n]? with
    | some (.ins c ns ds) => if c ∈ cs then (match (ns.zip ds).lookup f with
      | some d => .ok d st
      | none => .bad) else .bad
    | _ => .bad
  | _ => .bad
theorem lookup_vr {B H ι} {f : Str} {d : D} : ∀ {ns : List Str} {ds : List D} {xs : List V}, VRs B H ι ds xs → (ns.zip ds).lookup f = some d → ∃ v, (ns.zip xs).lookup f = some v ∧ VR B H ι d v
  | [], _, _, _, e => by simp at e
  | _ :: _, [], _, _, e => by simp at e
  | n :: ns, d' :: ds, _, ⟨x, r, e1, h, t⟩, e => by
    subst e1
    simp only [List.zip_cons_cons, List.lookup_cons] at e ⊢
    cases q : f == n with
    | true => rw [q] at e; cases e; exact ⟨x, rfl, h⟩
    | false => rw [q] at e; exact lookup_vr t e
section
variable {X : Cx} {W : WX} {e o : Expr} {es : List Expr} {da dv : DE} {ds : DA} {pos pos' p : Pos} {f : Str}
theorem pd_fld {cs : List Str} (hf : FldOk X.K X.mg cs f) (he : PEd X W e da) (hb : attributeBase e f X.env (eval e X.env) = eval e X.env := by rfl) : PEd X W (.Attribute e f pos) (dUn (fFld cs f) da) :=
  PE.mono (pe_fld he hb) fun σ H Q ⟨ρ, ι, st, env, S, ve, p⟩ => ⟨ρ, ι, st, env, S, ve, Post.bind p fun x st1 ι1 H1 v s1 S1 rx p1 => by
    unfold fFld at p1
    split at p1
    · rename_i c ns ds
      obtain ⟨a, C, dx, fs, xs, rfl, hC, h1, m, e1, l, r1⟩ := rx
      split at p1
      · rename_i hc
        split at p1
        · rename_i d q
          obtain ⟨v, h2, r2⟩ := lookup_vr r1 q
          obtain ⟨k1, k2⟩ := hf c hc C hC
          exact ⟨a, C, dx, fs, v, rfl, h1, k1, k2, by rw [e1]; exact h2, p1.ok S1 r2⟩
        · exact p1.elim
      · exact p1.elim
    · rename_i n
      obtain ⟨a, ha, rfl⟩ := rx
      split at p1
      · rename_i c ns ds q0
        obtain ⟨C, dx, fs, xs, hC, h1, e1, l, r1⟩ := S1.look q0 ha
        split at p1
        · rename_i hc
          split at p1
          · rename_i d q
            obtain ⟨v, h2, r2⟩ := lookup_vr r1 q
            obtain ⟨k1, k2⟩ := hf c hc C hC
            exact ⟨a, C, dx, fs, v, rfl, h1, k1, k2, by rw [e1]; exact h2, p1.ok S1 r2⟩
          · exact p1.elim
        · exact p1.elim
      · exact p1.elim
    · exact p1.elim⟩
/-- o.f = e, an object of the store -/
def putD (f : Str) (d : D) : List Str → List D → List Str × List D
  | n :: ns, x :: xs => if n = f then (n :: ns, d :: xs) else let r := putD f d ns xs; (n :: r.1, x :: r.2)
  | _, _ => ([f], [d])
theorem put_vr {B H ι} {d : D} {v : V} (hd : VR B H ι d v) : ∀ {ns : List Str} {ds : List D} {xs : List V}, ns.length = xs.length → VRs B H ι ds xs → ∃ ys, putF f v (ns.zip xs) = (putD f d ns ds).1.zip ys ∧ (putD f d ns ds).1.length = ys.length ∧ VRs B H ι (putD f d ns ds).2 ys
  | [], ds, xs, l, r => by
    have hx : xs = [] := List.length_eq_zero_iff.mp l.symm
    subst hx
    have : ds = [] := List.length_eq_zero_iff.mp r.length
    subst this
    exact ⟨[v], rfl, rfl, VRs.one hd⟩
  | n :: ns, [], xs, l, r => by
    cases r
    simp at l
  | n :: ns, x :: ds, _, l, ⟨y, r, e1, h, t⟩ => by
    subst e1
    simp only [List.length_cons, Nat.add_right_cancel_iff] at l
    by_cases hn : n = f
    · subst hn
      refine ⟨v :: r, ?_, ?_, ?_⟩
      · simp [putD, putF]
      · simp [putD, l]
      · simp only [putD, if_true]; exact ⟨v, r, rfl, hd, t⟩
    · obtain ⟨ys, e2, l2, r2⟩ := put_vr hd l t
      refine ⟨y :: ys, ?_, ?_, ?_⟩
      · simp only [putD, if_neg hn, List.zip_cons_cons, putF, e2]
      · simp only [putD, if_neg hn, List.length_cons, l2]
      · simp only [putD, if_neg hn]; exact ⟨y, ys, rfl, h, r2⟩
def dSetFld (cs : List Str) (f : Str) (dv da : DE) : DS := fun env st => (dv env st).bindS env fun y st1 => (da env st1).bindS env fun x st2 => match x with
  | .ref n => match st2[n]? with
    | some (.ins c ns ds) => if c ∈ cs ∧ ns.length ≤ 900 then .nx env (st2.set n (.ins c (putD f y ns ds).1 (putD f y ns ds).2)) else .bad
    | _ => .bad
  | _ => .bad
theorem psd_setFld {cs : List Str} {value : Expr} (hf : FldOk X.K X.mg cs f) (ho : PEd X W o da) (hv : PEd X W value dv) (hs : swapsWith value (some (.Attribute o f pos')) pos.line X.env = pure false := by rfl) : PSd X W (.Assign [.Attribute o f pos'] value pos) (dSetFld cs f dv da) :=
  PS.mono (ps_fld ho hv hs) fun E σ H ⟨ρ, ι, st, env, S, ve, p⟩ => ⟨ρ, ι, st, env, S, ve, PostS.bind ve p fun y st1 ι1 H1 v s1 S1 ry p1 => ⟨ρ, ι1, st1, env, S1, ve.step s1, PostS.bind (ve.step s1) p1 fun x st2 ι2 H2 w s2 S2 rx p2 => by
    split at p2
    · rename_i n
      obtain ⟨a, ha, rfl⟩ := rx
      split at p2
      · rename_i c ns ds q
        obtain ⟨C, dx, fs, xs, hC, h1, e1, l, r1⟩ := S2.look q ha
        split at p2
        · rename_i hc
          obtain ⟨k1, k2⟩ := hf c hc.1 C hC
          refine ⟨a, C, dx, fs, rfl, h1, k1, k2, ?_, ?_⟩
          · rw [e1, List.length_zip, ← l, Nat.min_self]; omega
          · obtain ⟨ys, e2, l2, r2⟩ := put_vr (f := f) (VR.step s2 ry) l r1
            have sw : Step ι2 H2 ι2 (upd H2 a (.ins C dx (putF f v fs))) := Step.write ha
            exact p2 ι2 _ σ sw (S2.write ha ⟨C, dx, putF f v fs, ys, hC, upd_same, by rw [e1]; exact e2, l2, r2.step sw⟩) (((ve.step s1).step s2).step sw)
        · exact p2.elim
      · exact p2.elim
    · exact p2.elim⟩⟩
end

/-! ### objects made -/
mutual
/-- all places of the store that it names are below n -/
def below (n : Nat) : D → Bool
  | .ref m => decide (m < n)
  | .tup ds => belows n ds
  | .fz ds => belows n ds
  | .sc ds => belows n ds
  | .fd _ ds => belows n ds
  | .obj _ _ ds => belows n ds
  | .lam _ _ ds => belows n ds
  | _ => true
def belows (n : Nat) : List D → Bool
  | [] => true
  | d :: ds => below n d && belows n ds
end
def belowO (n : Nat) : O → Bool
  | .lst ds => belows n ds
  | .ins _ _ ds => belows n ds
  | .dct _ ds => belows n ds
  | .dkt ks ds => belows n ks && belows n ds
theorem notin_of {ι : List Addr} {x : List Addr} {a : Addr} (h : a ∉ ι ++ x) : a ∉ ι := fun z => h (List.mem_append_left _ z)
mutual
theorem VR.cut {B H} {ι : List Addr} {x : List Addr} : ∀ {d : D} {v : V}, below ι.length d = true → VR B H (ι ++ x) d v → VR B H ι d v
  | .non, _, _, h => h
  | .bl _, _, _, h => h
  | .int _, _, _, h => h
  | .str _, _, _, h => h
  | .ty _, _, _, h => h
  | .ref m, _, b, ⟨a, h, e⟩ => ⟨a, by rw [List.getElem?_append_left (of_decide_eq_true b)] at h; exact h, e⟩
  | .tup _, _, b, ⟨a, xs, e, h, r⟩ => ⟨a, xs, e, h.elim (fun z => .inl ⟨z.1, notin_of z.2.1, z.2.2⟩) .inr, VRs.cut b r⟩
  | .sc _, _, b, ⟨a, xs, e, h, r⟩ => ⟨a, xs, e, h.elim (fun z => .inl ⟨z.1, notin_of z.2.1, z.2.2⟩) .inr, VRs.cut b r⟩
  | .fz _, _, b, ⟨a, xs, e, h, m, r⟩ => ⟨a, xs, e, h, ⟨notin_of m.1, m.2⟩, VRs.cut b r⟩
  | .fd _ _, _, b, ⟨a, od, fs, xs, e, h, m, e2, l, r⟩ => ⟨a, od, fs, xs, e, h, ⟨notin_of m.1, m.2⟩, e2, l, VRs.cut b r⟩
  | .obj _ _ _, _, b, ⟨a, C, dx, fs, xs, e, c, h, m, e2, l, r⟩ => ⟨a, C, dx, fs, xs, e, c, h, ⟨notin_of m.1, m.2⟩, e2, l, VRs.cut b r⟩
  | .lam _ _ _, _, b, ⟨g, L, xs, e, h, r⟩ => ⟨g, L, xs, e, h.keep (fun b o _ e => by
      obtain ⟨h1, h2, h3⟩ := offH_iff.mp e
      exact offH_iff.mpr ⟨notin_of h1, h2, h3⟩), VRs.cut b r⟩
theorem VRs.cut {B H} {ι : List Addr} {x : List Addr} : ∀ {ds : List D} {vs : List V}, belows ι.length ds = true → VRs B H (ι ++ x) ds vs → VRs B H ι ds vs
  | [], _, _, h => h
  | _ :: _, _, b, ⟨y, r, e, h, t⟩ => by
    have b' := Bool.and_eq_true_iff.mp b
    exact ⟨y, r, e, VR.cut b'.1 h, VRs.cut b'.2 t⟩
end
theorem Sim.cut {B H} {ι : List Addr} {x : List Addr} {st : Sto} {o : Sto} (hl : ι.length = st.length) (hb : st.all (belowO ι.length) = true) (S : Sim B H (ι ++ x) (st ++ o)) : Sim B H ι st := by
  refine ⟨hl, (List.nodup_append.mp S.nd).1, fun n ob e => ?_, fun a ha => ⟨(S.rs a ha).1, notin_of (S.rs a ha).2⟩, S.tab, S.rp⟩
  have hn : n < st.length := (List.getElem?_eq_some_iff.mp e).1
  obtain ⟨a, h, q⟩ := S.ob n ob (by rw [List.getElem?_append_left hn]; exact e)
  rw [List.getElem?_append_left (by omega)] at h
  have b := List.all_eq_true.mp hb ob (List.mem_of_getElem? e)
  refine ⟨a, h, ?_⟩
  cases ob with
  | lst ds => obtain ⟨xs, h, r⟩ := q; exact ⟨xs, h, r.cut b⟩
  | ins c ns ds => obtain ⟨C, dx, fs, xs, c, h, e, l, r⟩ := q; exact ⟨C, dx, fs, xs, c, h, e, l, r.cut b⟩
  | dct ks ds => obtain ⟨kvs, xs, h, e, l, r⟩ := q; exact ⟨kvs, xs, h, e, l, r.cut b⟩
  | dkt ks ds =>
    obtain ⟨w, nks, bs, xs, ew, ek, h, rk, r⟩ := q
    have b' := Bool.and_eq_true_iff.mp b
    exact ⟨w, nks, bs, xs, ew, ek, h, rk.cut b'.1, r.cut b'.2⟩
theorem take_rest {st2 : Sto} {n : Nat} {o : O} (e : st2[n]? = some o) : st2 = st2.take n ++ st2.drop n ∧ (st2.take n).length = n := by
  have := (List.getElem?_eq_some_iff.mp e).1
  exact ⟨(List.take_append_drop n st2).symm, by rw [List.length_take]; omega⟩
/-- C(..): made in the store, given out by value -/
def dMake (c : Str) (m : M) (n : Nat) (ds : DA) : DE := fun env st => (ds env st).bind fun xs st1 => if xs.length + 1 = n then (match m (.ref st1.length :: xs) (st1 ++ [.ins c [] []]) with
  | .ok .non st2 => (match st2[st1.length]? with
    | some (.ins c' ns ds) => if c' = c ∧ belows st1.length ds = true ∧ (st2.take st1.length).all (belowO st1.length) = true then .ok (.obj c ns ds) (st2.take st1.length) else .bad
    | _ => .bad)
  | .exc (k, none) st2 => (match st2[st1.length]? with
    | some o => if (st2.take st1.length).all (belowO st1.length) = true then .exc (k, none) (st2.take st1.length) else .bad
    | _ => .bad)
  | .exc (k, some (f, d)) st2 => (match st2[st1.length]? with
    | some o => if below st1.length d = true ∧ (st2.take st1.length).all (belowO st1.length) = true then .exc (k, some (f, d)) (st2.take st1.length) else .bad
    | _ => .bad)
  | _ => .bad) else .bad
section
variable {X : Cx} {W : WX} {e : Expr} {es : List Expr} {ds : DA} {pos p : Pos} {CX : CXT} {k : Nat} {f C : Addr} {fd : FuncData} {ps : List Str} {sp : Sp} {x : Str} {E : L2.St → XK} {t : TA}
theorem run_makeS {pins : List (Addr × Obj)} {σ : L2.St} {H : Hp} {s : Shared} {Q : VK} {us : List Value} {vs : List V} (M : Mk X.K C f) (F : FnOk X.prog X.w X.K X.mg X.base CX k f fd ps sp) (hr : Room (k + 1) X.A) (hb : Binds X.K fd ps [])
    (hx : PassesAt CX X σ (E σ)) (I : Inv X pins σ H s) (r : Vals vs us)
    (h : ∀ x dx, H x = none → H dx = none → dx ≠ x → sp (.ref x :: vs) (upd (upd H dx (.own x)) x (.ins C dx [])) (fun v H2 => v = .non ∧ Q (.ref x) H2) (E σ)) :
    wpAny (model X.prog X.w) X.A (call (.ref C) us) (EP X pins σ Q) X.xe s := by
  have hq := h (s.heap.objs.size + 1) s.heap.objs.size (I.hok.fresh (Nat.le_succ _)) (I.hok.fresh (Nat.le_refl _)) (Nat.ne_of_lt (Nat.lt_succ_self _))
  have I2 := Inv.made (C := C) I
  have r2 : Vals (V.ref (s.heap.objs.size + 1) :: vs) (Value.ref (s.heap.objs.size + 1) :: us) := .cons rfl r
  have hl : (Value.ref (s.heap.objs.size + 1) :: us).length = ps.length := by
    have e := r2.length
    rw [F.len _ _ _ _ hq] at e
    exact e.symm
  have b := hb _ (Value.ref (s.heap.objs.size + 1) :: us) I2.kIn (by rw [List.append_nil]; exact hl)
  rw [List.append_nil] at b
  refine wpAny_call (make_map (f := f) I.kIn M.makes M.init (beq_iff_eq.mp M.fn) (codeAny_mono (F.run _ X.stack _ _ ⟨Value.ref (s.heap.objs.size + 1) :: us, []⟩ (Value.ref (s.heap.objs.size + 1) :: us) _ _ (E σ) (hr.make C us [])
    (I2.env0.make C us []) b r2 hq) fun r s' hq' => ?_))
  cases r with
  | error e => exact hx pins _ _ e s' I2 hq'
  | ok fl =>
    cases fl with
    | ret u =>
      obtain ⟨v, H', I3, rv, ev, q3⟩ := I2.after hq'
      subst ev
      exact ⟨rv, ⟨V.ref (s.heap.objs.size + 1), H', I3, rfl, q3⟩⟩
    | next => exact False.elim hq'
    | brk => exact False.elim hq'
    | cont => exact False.elim hq'
def tMakeS (C : Addr) (sp : Sp) (E : L2.St → XK) (t : TA) : TE := fun σ H Q => t σ H fun vs H1 => ∀ x dx, H1 x = none → H1 dx = none → dx ≠ x → sp (.ref x :: vs) (upd (upd H1 dx (.own x)) x (.ins C dx [])) (fun v H2 => v = .non ∧ Q (.ref x) H2) (E σ)
theorem pe_makeS (M : Mk X.K C f) (F : FnOk X.prog X.w X.K X.mg X.base CX k f fd ps sp) (hr : Room (k + 1) X.A) (hg : Gl X x) (hm : X.mg x = some (.ref C)) (hb : Binds X.K fd ps []) (hx : ∀ σ, PassesAt CX X σ (E σ))
    (ha : PA X (e :: es) t) (hdb : (x == ("__debug__" : Str)) = false := by decide) (he : starEach (e :: es) X.env = (false, eval e X.env) :: starEach es X.env := by rfl) (hpl : (backTo pos (starEach es X.env)).any (·.1) = false := by rfl) :
    PE X (.Call (.Name x p) (e :: es) [] pos) (tMakeS C sp E t) := by
  refine ⟨fun pins s σ H Q I h => ?_⟩
  refine wpAny_Call_Name_kw (ld_glob I hg hm ?_ hdb)
  refine PySem.W.callWith_K (h₀ := X.base) I.ok.mod.kin M.kp (thn (ha.run pos pins s σ H _ I h) fun us s1 ⟨vs, H1, I1, r, q⟩ => ⟨I1.kIn, ?_⟩) he hpl
  exact run_makeS M F hr hb (hx σ) I1 r q
theorem pd_make {m : M} {n : Nat} (M : Mk X.K C f) (F : FnOk X.prog X.w X.K X.mg X.base (L2.CX X.prog X.w) k f fd ps (spD X.K X.mg m n)) (hr : Room (k + 1) X.A) (hg : Gl X x) (hm : X.mg x = some (.ref C)) (hb : Binds X.K fd ps []) (hx : Lets X W)
    (ha : PAd X W (e :: es) ds) (hdb : (x == ("__debug__" : Str)) = false := by decide) (he : starEach (e :: es) X.env = (false, eval e X.env) :: starEach es X.env := by rfl) (hpl : (backTo pos (starEach es X.env)).any (·.1) = false := by rfl) :
    PEd X W (.Call (.Name x p) (e :: es) [] pos) (dMake x m n ds) :=
  PE.mono (pe_makeS (E := fun σ => WE W σ) M F hr hg hm hb hx ha hdb he hpl) fun σ H Q ⟨ρ, ι, st, env, S, ve, p⟩ => ⟨ρ, ι, st, env, S, ve, Post.bind p fun xs st1 ι1 H1 vs s1 S1 rx p1 => by
    have rx : VRs ⟨X.K, X.mg, ρ⟩ H1 ι1 xs vs := rx
    intro y dx hy hdx hne
    by_cases hn : xs.length + 1 = n
    case neg => simp only [hn, if_false] at p1; exact p1.elim
    simp only [hn, if_true] at p1
    have sd : Step ι1 H1 ι1 (upd H1 dx (.own y)) := Step.new S1 hdx
    have Sd : Sim ⟨X.K, X.mg, ρ⟩ (upd H1 dx (.own y)) ι1 st1 := S1.new hdx
    have hy' : (upd H1 dx (.own y)) y = none := by rw [upd_ne (Ne.symm hne)]; exact hy
    have sa : Step ι1 (upd H1 dx (.own y)) (ι1 ++ [y]) (upd (upd H1 dx (.own y)) y (.ins C dx [])) := Step.alloc Sd hy'
    have Sa : Sim ⟨X.K, X.mg, ρ⟩ (upd (upd H1 dx (.own y)) y (.ins C dx [])) (ι1 ++ [y]) (st1 ++ [.ins x [] []]) := Sd.alloc hy' ⟨C, dx, [], [], hm, upd_same, rfl, rfl, rfl⟩
    have ra : VRs ⟨X.K, X.mg, ρ⟩ (upd (upd H1 dx (.own y)) y (.ins C dx [])) (ι1 ++ [y]) (.ref st1.length :: xs) (.ref y :: vs) := ⟨_, _, rfl, ⟨y, by rw [← S1.len, List.getElem?_append_right (by omega)]; simp, rfl⟩, (rx.step sd).step sa⟩
    refine ⟨by rw [List.length_cons, ← rx.length, hn], ρ, ι1 ++ [y], st1 ++ [.ins x [] []], .ref st1.length :: xs, Sa, ra, ?_⟩
    have s0 : Step ι1 H1 (ι1 ++ [y]) (upd (upd H1 dx (.own y)) y (.ins C dx [])) := sd.trans sa
    have back : ∀ {ι2 H2}, Step (ι1 ++ [y]) (upd (upd H1 dx (.own y)) y (.ins C dx [])) ι2 H2 → (∃ more, ι2 = ι1 ++ (y :: more)) ∧ Step ι1 H1 ι1 H2 := fun {ι2 H2} s => by
      obtain ⟨more, e, _⟩ := s.pre
      exact ⟨⟨more, by rw [e]; simp⟩, ⟨[], by simp, by simp⟩, (s0.trans s).rest0⟩
    cases q : m (.ref st1.length :: xs) (st1 ++ [.ins x [] []]) with
    | bad => simp only [q] at p1; exact p1.elim
    | ok d st2 =>
      simp only [q] at p1
      cases d <;> (try exact p1.elim)
      intro ι2 H2 v s2 S2 rv
      cases rv
      refine ⟨rfl, ?_⟩
      simp only [] at p1
      split at p1
      · rename_i c' ns ds q2
        split at p1
        · rename_i hc
          obtain ⟨rfl, hb1, hb2⟩ := hc
          obtain ⟨⟨more, e3⟩, s3⟩ := back s2
          subst e3
          obtain ⟨tk, tl⟩ := take_rest q2
          have ha : (ι1 ++ (y :: more))[st1.length]? = some y := by rw [← S1.len, List.getElem?_append_right (by omega)]; simp
          obtain ⟨C2, dx2, fs2, ys, hC2, h2, e4, l2, r2⟩ := S2.look q2 ha
          rw [tk] at S2
          rw [← S1.len] at hb1 hb2 tl
          rw [← S1.len] at S2 p1
          refine p1.ok' s3 (S2.cut tl.symm hb2) ⟨y, C2, dx2, fs2, ys, rfl, hC2, h2, ⟨S1.fresh hy, S1.fr hy⟩, e4, l2, r2.cut hb1⟩
        · exact p1.elim
      · exact p1.elim
    | exc ex st2 =>
      simp only [q] at p1
      obtain ⟨kk, o⟩ := ex
      intro ι2 H2 c dd s2 S2 rex
      cases o with
      | none =>
        simp only [] at p1
        split at p1
        · rename_i ob q2
          split at p1
          · rename_i hc
            have hb2 := hc
            obtain ⟨⟨more, e3⟩, s3⟩ := back s2
            subst e3
            obtain ⟨tk, tl⟩ := take_rest q2
            rw [tk] at S2
            rw [← S1.len] at hb2 S2 p1 tl
            exact p1 ι1 H2 c dd s3 (S2.cut tl.symm hb2) rex
          · exact p1.elim
        · exact p1.elim
      | some fd =>
        obtain ⟨ff, d⟩ := fd
        simp only [] at p1
        split at p1
        · rename_i ob q2
          split at p1
          · rename_i hc
            obtain ⟨hb1, hb2⟩ := hc
            obtain ⟨⟨more, e3⟩, s3⟩ := back s2
            subst e3
            obtain ⟨tk, tl⟩ := take_rest q2
            rw [tk] at S2
            rw [← S1.len] at hb1 hb2 S2 p1 tl
            obtain ⟨C2, c1, c2, pp, vv, c3, c4, c5⟩ := rex
            exact p1 ι1 H2 c dd s3 (S2.cut tl.symm hb2) ⟨C2, c1, c2, pp, vv, c3, c4, c5.cut hb1⟩
          · exact p1.elim
        · exact p1.elim⟩
end
end DD

/-! DD10: zip of lists, tuples and texts in any mix. -/
namespace DD
open PySem L2 PyProof.Rows
variable [NMs]

inductive Sq where
  | L (a : Addr) (xs : List V)
  | T (a : Addr) (xs : List V)
  | S (x : Str)
namespace Sq
def holds (K : PySem.W.Frag) (H : Hp) : Sq → Prop
  | L a xs => SqL K H a xs
  | T a xs => SqT K H a xs
  | S _ => True
def ads : Sq → List Addr
  | L a _ => [a]
  | T a _ => [a]
  | S _ => []
def n : Sq → Nat
  | L _ xs => xs.length
  | T _ xs => xs.length
  | S x => x.cps.size
def at' : Sq → Nat → Option V
  | L _ xs, i => xs[i]?
  | T _ xs, i => xs[i]?
  | S x, i => x.cps[i]?.map fun c => .str ⟨#[c]⟩
def is : Sq → V → Prop
  | L a _, v => v = .ref a
  | T a _, v => v = .ref a
  | S x, v => v = .str x
def st (it : Addr) (t : Tok) (i : Nat) (h : Heap) : Sq → Prop
  | L a _ => h.IsListIter it a i
  | T a _ => h.IsTupleIter it a i
  | S x => h.IsStrIter it (strIterType x) x t i
theorem st_at {it : Addr} {t : Tok} {i : Nat} {h h' : Heap} {q : Sq} (x : q.st it t i h) (k : ∀ o, h.get? it = some o → h'.get? it = some o) : q.st it t i h' := by
  cases q with
  | L a xs => exact Heap.IsListIter.at x k
  | T a xs => exact Heap.IsTupleIter.at x k
  | S y => obtain ⟨o, e, r⟩ := x; exact ⟨o, k o e, r⟩
theorem st_obj {it : Addr} {t : Tok} {i : Nat} {h : Heap} {q : Sq} (x : q.st it t i h) : ∃ o, h.get? it = some o ∧ ∀ v, o.data ≠ .cell v := by
  cases q with
  | L a xs => obtain ⟨o, e, _, d⟩ := x; exact ⟨o, e, fun v z => by rw [d] at z; cases z⟩
  | T a xs => obtain ⟨o, e, _, d⟩ := x; exact ⟨o, e, fun v z => by rw [d] at z; cases z⟩
  | S y => obtain ⟨o, e, _, d⟩ := x; exact ⟨o, e, fun v z => by rw [d] at z; cases z⟩
variable {X : Cx} {pins : List (Addr × Obj)} {σ : L2.St} {H : Hp} {s : Shared}
theorem pack {it : Addr} {t : Tok} (q : Sq) (hc : X.calm = true) (I : Inv X pins σ H s) (h : q.holds X.K H) (hne : ∀ a ∈ q.ads, a ≠ it) : ∃ (P : Nat → Value → Prop) (St : Nat → Heap → Prop), Draws X.prog X.w X.A.in1 it (it :: q.ads) q.n P St ∧
    (∀ i, q.st it t i s.heap → St i s.heap) ∧ (∀ i h', St i h' → q.st it t i h') ∧ (∀ i u, P i u → ∃ x, q.at' i = some x ∧ RelV x u) := by
  have hh : X.A.in1.handled = none := I.ok.hd hc
  cases q with
  | L a xs =>
    obtain ⟨its, r, p, hz⟩ := I.list h
    have D := Draws.list (prog := X.prog) (w := X.w) hh it a (hne a (by simp [ads])) its.toArray
    rw [show its.toArray.size = (Sq.L a xs).n by rw [List.size_toArray]; exact r.length.symm] at D
    refine ⟨_, _, D, fun i x => ⟨x, p.isList⟩, fun i h' x => x.1, fun i u hu => ?_⟩
    have hi : i < its.length := by
      have := (Array.getElem?_eq_some_iff.mp hu).1
      simpa using this
    have hx : i < xs.length := by rw [r.length]; exact hi
    obtain ⟨w, e1, e2⟩ := r.get (List.getElem?_eq_getElem hx)
    have : w = u := by
      have hu' : its[i]? = some u := by simpa using hu
      exact Option.some.inj (e1.symm.trans hu')
    subst this
    exact ⟨_, List.getElem?_eq_getElem hx, e2⟩
  | T a xs =>
    obtain ⟨its, r, p, hz⟩ := I.tuple h
    have D := Draws.tuple (prog := X.prog) (w := X.w) hh it a (hne a (by simp [ads])) its.toArray
    rw [show its.toArray.size = (Sq.T a xs).n by rw [List.size_toArray]; exact r.length.symm] at D
    refine ⟨_, _, D, fun i x => ⟨x, p⟩, fun i h' x => x.1, fun i u hu => ?_⟩
    have hi : i < its.length := by
      have := (Array.getElem?_eq_some_iff.mp hu).1
      simpa using this
    have hx : i < xs.length := by rw [r.length]; exact hi
    obtain ⟨w, e1, e2⟩ := r.get (List.getElem?_eq_getElem hx)
    have : w = u := by
      have hu' : its[i]? = some u := by simpa using hu
      exact Option.some.inj (e1.symm.trans hu')
    subst this
    exact ⟨_, List.getElem?_eq_getElem hx, e2⟩
  | S x =>
    refine ⟨_, _, Draws.text hh it x t, fun i x => x, fun i h' x => x, fun i u hu => ?_⟩
    obtain ⟨c, tk, e1, rfl⟩ := hu
    exact ⟨.str ⟨#[c]⟩, by show x.cps[i]?.map _ = _; rw [e1]; rfl, ⟨tk, rfl⟩⟩
end Sq
def Itz2 (K : PySem.W.Frag) (q1 q2 : Sq) : It :=
  ⟨fun i H => q1.holds K H ∧ q2.holds K H ∧ i < q1.n ∧ i < q2.n, fun i H v H' => ∃ T x y, v = .ref T ∧ H T = none ∧ H' = upd H T (.tup [x, y]) ∧ q1.at' i = some x ∧ q2.at' i = some y,
    fun i H => q1.holds K H ∧ q2.holds K H ∧ (q1.n ≤ i ∨ q2.n ≤ i)⟩
theorem turn_zip2 {P : Program} {w : World} {K : PySem.W.Frag} {elts : List Expr} {kk : Nat} {tpos : Pos} {q1 q2 : Sq} {z TI TO i1 i2 : Addr} {t1 t2 : Tok} (D : ZipSep2 z TI TO i1 i2 (i1 :: q1.ads) (i2 :: q2.ads)) (n1 : ∀ a ∈ q1.ads, a ≠ i1) (n2 : ∀ a ∈ q2.ads, a ≠ i2) :
    Turn P w K (.Tuple elts kk tpos) (Itz2 K q1 q2) [z, TI, TO, i1, i2] z (fun i h => IsZip h z TI TO .none ∧ IsTupOf2 h TI (.ref i1) (.ref i2) ∧ (∃ x y, IsTupOf2 h TO x y) ∧ q1.st i1 t1 i h ∧ q2.st i2 t2 i h ∧ i ≤ q1.n ∧ i ≤ q2.n) where
  mem := by simp
  obj := fun i h st c hc => by
    obtain ⟨hz, hTI, ⟨x, y, hTO⟩, h1, h2, _⟩ := st
    have e' : c = z ∨ c = TI ∨ c = TO ∨ c = i1 ∨ c = i2 := by simpa using hc
    rcases e' with q | q | q | q | q
    · rw [q]; exact ⟨_, hz, fun v q => nomatch q⟩
    · rw [q]; exact ⟨_, hTI, fun v q => nomatch q⟩
    · rw [q]; exact ⟨_, hTO, fun v q => nomatch q⟩
    · rw [q]; exact Sq.st_obj h1
    · rw [q]; exact Sq.st_obj h2
  keep := fun i h h' st k => by
    obtain ⟨hz, hTI, ⟨x, y, hTO⟩, h1, h2, b1, b2⟩ := st
    exact ⟨k z (by simp) _ hz, k TI (by simp) _ hTI, ⟨x, y, k TO (by simp) _ hTO⟩, Sq.st_at h1 fun o q => k i1 (by simp) o q, Sq.st_at h2 fun o q => k i2 (by simp) o q, b1, b2⟩
  item := by
    intro X hP hw hK hc i pins s σ H E I hf st hg
    subst hP hw hK
    obtain ⟨hz, hTI, ⟨x0, y0, hTO⟩, h1, h2, b1, b2⟩ := st
    obtain ⟨g1, g2, l1, l2⟩ := hg
    obtain ⟨P1, St1, D1, in1, out1, ok1⟩ := Sq.pack (t := t1) q1 hc I g1 n1
    obtain ⟨P2, St2, D2, in2, out2, ok2⟩ := Sq.pack (t := t2) q2 hc I g2 n2
    have hzl : z < s.heap.objs.size := Heap.lt_size hz
    refine wpAny_pyNext_zipD2_item D D1 D2 hz hTI hTO (in1 i h1) (in2 i h2) l1 l2 fun u1 u2 h' tk p1 p2 z' TO' h1' h2' hT hsz hk => ?_
    obtain ⟨x, e1, r1⟩ := ok1 i u1 p1
    obtain ⟨y, e2, r2⟩ := ok2 i u2 p2
    refine ⟨_, rfl, wpAny_letOwnedTupleGo_zip (s := { s with heap := h', toks := tk }) z' fun h'' z'' sb => ?_⟩
    have hT2 : h''.get? s.heap.objs.size = some { cls := .type "tuple", data := .seq #[u1, u2] } := (sb.2 _ (Nat.ne_of_gt hzl)).trans hT
    have new : ObjOk X.prog X.w (upd H s.heap.objs.size (.tup [x, y])) h'' s.heap.objs.size (.tup [x, y]) :=
      ⟨by show 2 ≤ sizeLine; decide, [u1, u2], .cons r1 (.cons r2 .nil), ⟨_, hT2, rfl, _, rfl⟩⟩
    have I1 : Inv X pins σ (upd H s.heap.objs.size (.tup [x, y])) { s with heap := h'', toks := tk } :=
      I.turnedNew (t' := tk) (ch := [z, TI, TO, i1, i2]) (fun c o hb q => (sb.2 c (fun q' => hb (by simp [q']))).trans (hk c o (fun q' => hb (by simp [q'])) (fun q' => hb (by simp [q'])) (fun q' => hb (by simp [q'])) (fun q' => hb (by simp [q'])) q)) hf (Nat.le_refl _) new
    have ni1 : i1 ≠ z := fun e => D.zf1 (by rw [← e]; exact List.mem_cons_self)
    have ni2 : i2 ≠ z := fun e => D.zf2 (by rw [← e]; exact List.mem_cons_self)
    refine ⟨.ref s.heap.objs.size, _, I1, rfl, ⟨_, x, y, rfl, I.hok.fresh (Nat.le_refl _), rfl, e1, e2⟩, ⟨z'', ?_, ⟨u1, u2, ?_⟩, ?_, ?_, l1, l2⟩, fun c hcm => ?_⟩
    · exact (sb.2 _ D.TIz).trans (hk _ _ D.TIz D.TITO D.TIi1 D.TIi2 hTI)
    · exact (sb.2 _ D.TOz).trans TO'
    · exact Sq.st_at (out1 _ _ h1') fun o q => (sb.2 _ ni1).trans q
    · exact Sq.st_at (out2 _ _ h2') fun o q => (sb.2 _ ni2).trans q
    · have hlt : c < s.heap.objs.size := by
        have e' : c = z ∨ c = TI ∨ c = TO ∨ c = i1 ∨ c = i2 := by simpa using hcm
        rcases e' with q | q | q | q | q
        · rw [q]; exact hzl
        · rw [q]; exact Heap.lt_size hTI
        · rw [q]; exact Heap.lt_size hTO
        · rw [q]; obtain ⟨_, e1, _⟩ := Sq.st_obj h1; exact Heap.lt_size e1
        · rw [q]; obtain ⟨_, e2, _⟩ := Sq.st_obj h2; exact Heap.lt_size e2
      rw [upd_ne (Nat.ne_of_lt hlt)]
      exact (hf c hcm).1
  done := by
    intro X hP hw hK hc i pins s σ H E I hf st hg
    subst hP hw hK
    obtain ⟨hz, hTI, ⟨x0, y0, hTO⟩, h1, h2, b1, b2⟩ := st
    obtain ⟨g1, g2, hend⟩ := hg
    obtain ⟨P1, St1, D1, in1, out1, ok1⟩ := Sq.pack (t := t1) q1 hc I g1 n1
    obtain ⟨P2, St2, D2, in2, out2, ok2⟩ := Sq.pack (t := t2) q2 hc I g2 n2
    exact wpAny_pyNext_zipD2_end D D1 D2 hz hTI hTO (in1 i h1) (in2 i h2) b1 b2 (by omega) fun h' tk hk => ⟨rfl, I.turnedL (t' := tk) (ch := [z, TI, TO, i1, i2]) (fun c o hb q =>
      hk c o (fun q' => hb (by simp [q'])) (fun q' => hb (by simp [q'])) (fun q' => hb (by simp [q'])) (fun q' => hb (by simp [q'])) q) hf⟩
  self := fun A i s Q E st h => wpAny_pyIter_zip st.1 h
/-! ### the rule -/
section
variable {X : Cx} {W : WX} {e e2 : Expr} {p pos tpos : Pos} {elts : List Expr} {kk : Nat} {ta : TA} {ds : DA}
def iZip2 (K : PySem.W.Frag) (ta : TA) : TI := fun σ H R => ta σ H fun vs H1 => ∃ (v1 v2 : V) (q1 q2 : Sq), vs = [v1, v2] ∧ q1.is v1 ∧ q2.is v2 ∧ q1.holds K H1 ∧ q2.holds K H1 ∧ R (Itz2 K q1 q2) H1
/-- how an iterator over it begins -/
theorem Sq.begins {pins : List (Addr × Obj)} {σ : L2.St} {H : Hp} {s : Shared} (q : Sq) (I : Inv X pins σ H s) (h : q.holds X.K H) {v : V} {u : Value} (hv : q.is v) (r : RelV v u) :
    ∃ (o : Obj) (Hh : Heap → Prop) (t : Tok), Begins u o Hh ∧ Hh s.heap ∧ (∀ it h', h'.get? it = some o → q.st it t 0 h') ∧ ∀ a ∈ q.ads, a < s.heap.objs.size := by
  cases q with
  | L a xs =>
    cases (show v = .ref a from hv)
    cases r
    obtain ⟨its, r, p, hz⟩ := I.list h
    exact ⟨_, _, 0, begins_list a its.toArray, p.isList, fun it h' e => ⟨_, e, rfl, rfl⟩, fun b hb => by
      have : b = a := by simpa [Sq.ads] using hb
      rw [this]; exact p.lt⟩
  | T a xs =>
    cases (show v = .ref a from hv)
    cases r
    obtain ⟨its, r, p, hz⟩ := I.tuple h
    exact ⟨_, _, 0, begins_tuple a its.toArray, p, fun it h' e => ⟨_, e, rfl, rfl⟩, fun b hb => by
      have : b = a := by simpa [Sq.ads] using hb
      rw [this]; exact p.lt⟩
  | S x =>
    cases (show v = .str x from hv)
    obtain ⟨t, rfl⟩ := r
    exact ⟨_, _, t, begins_text x t, trivial, fun it h' e => ⟨_, e, rfl, rfl⟩, fun b hb => by cases hb⟩
theorem pi_zip2 (hg : Gl X "zip") (hm : X.mg "zip" = none) (ha : PA X [e, e2] ta)
    (hs : starEach [e, e2] X.env = (false, eval e X.env) :: starEach [e2] X.env := by rfl) (hpl : (backTo pos (starEach [e2] X.env)).any (·.1) = false := by rfl) :
    PI X (.Tuple elts kk tpos) (.Call (.Name "zip" p) [e, e2] [] pos) (iZip2 X.K ta) := by
  refine ⟨fun pins s σ H R I h => ?_⟩
  refine Call_ (ld_blt I hg hm PyProof.Rows.boot_zip (PyProof.Rows.callWith_type1 (thn (ha.run pos pins s σ H _ I h) fun us s1 ⟨vs, H1, I1, r1, q1⟩ => ?_) hs hpl))
  obtain ⟨v1, v2, s1', s2', ev, i1, i2, g1, g2, q⟩ := q1
  subst ev
  cases r1 with
  | cons r rr =>
    cases rr with
    | cons r' rr =>
      cases rr
      obtain ⟨o1, Hh1, t1, B1, b1, st1, a1⟩ := Sq.begins s1' I1 g1 i1 r
      obtain ⟨o2, Hh2, t2, B2, b2, st2, a2⟩ := Sq.begins s2' I1 g2 i2 r'
      refine zip_begins2 B1 B2 b1 b2 fun h' hz hTI hTO e1 e2 hsz hk => wpAny_pyIter_zip hz ?_
      have I2 : Inv X pins σ H1 { s1 with heap := h' } := I1.kept (t' := s1.toks) hk
      refine ⟨s1.heap.objs.size + 4, [s1.heap.objs.size + 4, s1.heap.objs.size + 2, s1.heap.objs.size + 3, s1.heap.objs.size, s1.heap.objs.size + 1], _, _, H1, rfl, I2,
        turn_zip2 (t1 := t1) (t2 := t2) (zip_sep2 a1 a2) (fun a ha => Nat.ne_of_lt (a1 a ha)) (fun a ha => Nat.ne_of_lt (Nat.lt_succ_of_lt (a2 a ha))), ⟨hz, hTI, ⟨_, _, hTO⟩, st1 _ _ e1, st2 _ _ e2, Nat.zero_le _, Nat.zero_le _⟩, fun c hcm => ?_, q⟩
      have e' : c = s1.heap.objs.size + 4 ∨ c = s1.heap.objs.size + 2 ∨ c = s1.heap.objs.size + 3 ∨ c = s1.heap.objs.size ∨ c = s1.heap.objs.size + 1 := by simpa using hcm
      have hle : s1.heap.objs.size ≤ c := by
        rcases e' with z | z | z | z | z
        · rw [z]; exact Nat.le_add_right _ _
        · rw [z]; exact Nat.le_add_right _ _
        · rw [z]; exact Nat.le_add_right _ _
        · rw [z]; exact Nat.le_refl _
        · rw [z]; exact Nat.le_add_right _ _
      exact I1.fpOk hle (I1.hok.fresh hle)
/-- what zip goes over -/
def seqD : D → Option (List D)
  | .fz ds => some ds
  | .sc ds => some ds
  | .tup ds => some ds
  | .str x => some (signs x)
  | _ => none
def pairsD : List D → List D → List D
  | x :: xs, y :: ys => .tup [x, y] :: pairsD xs ys
  | _, _ => []
theorem pairs_length : ∀ (xs ys : List D), (pairsD xs ys).length = min xs.length ys.length
  | [], _ => by simp [pairsD]
  | _ :: _, [] => by simp [pairsD]
  | _ :: xs, _ :: ys => by simp [pairsD, pairs_length xs ys]
theorem pairs_get : ∀ {xs ys : List D} {i : Nat} {d : D}, (pairsD xs ys)[i]? = some d → ∃ x y, xs[i]? = some x ∧ ys[i]? = some y ∧ d = .tup [x, y]
  | [], _, _, _, e => by simp [pairsD] at e
  | _ :: _, [], _, _, e => by simp [pairsD] at e
  | x :: xs, y :: ys, 0, d, e => by simp [pairsD] at e; exact ⟨x, y, rfl, rfl, e.symm⟩
  | x :: xs, y :: ys, i + 1, d, e => by
    simp only [pairsD, List.getElem?_cons_succ] at e
    obtain ⟨a, b, h1, h2, h3⟩ := pairs_get e
    exact ⟨a, b, by simpa using h1, by simpa using h2, h3⟩
def dZip (ds : DA) : DI := fun env st => (ds env st).bind fun xs st1 => match xs with
  | [x, y] => match seqD x, seqD y with
    | some as, some bs => .ok (pairsD as bs, yes) st1
    | _, _ => .bad
  | _ => .bad
/-- the source of a thing by value, good for all time -/
theorem sq_of_seq {B : Bs} {H : Hp} {ι : List Addr} {d : D} {v : V} {ds : List D} (r : VR B H ι d v) (h : seqD d = some ds) : ∃ q : Sq, q.is v ∧ q.n = ds.length ∧ (∀ ι' H', Step ι H ι' H' → q.holds B.K H') ∧
    (∀ i d', ds[i]? = some d' → ∃ x, q.at' i = some x ∧ VR B H ι d' x) := by
  cases d with
  | str x =>
    cases r; cases h
    refine ⟨.S x, rfl, by simp [Sq.n, signs], fun _ _ _ => trivial, fun i d' e => ?_⟩
    unfold signs at e
    rw [List.getElem?_map, Array.getElem?_toList] at e
    cases q : x.cps[i]? with
    | none => rw [q] at e; cases e
    | some c => rw [q] at e; cases e; exact ⟨.str ⟨#[c]⟩, by show x.cps[i]?.map _ = _; rw [q]; rfl, rfl⟩
  | tup es =>
    obtain ⟨a, xs, rfl, h1, r1⟩ := r; cases h
    exact ⟨.T a xs, rfl, r1.length.symm, fun _ _ s => (h1.step s).sq, fun i d' e => r1.get e⟩
  | fz es =>
    obtain ⟨a, xs, rfl, h1, m, r1⟩ := r; cases h
    exact ⟨.L a xs, rfl, r1.length.symm, fun _ _ s => SqL.of (s.rest _ _ m.1 h1), fun i d' e => r1.get e⟩
  | sc es =>
    obtain ⟨a, xs, rfl, h1, r1⟩ := r; cases h
    exact ⟨.L a xs, rfl, r1.length.symm, fun _ _ s => (h1.step s).sq, fun i d' e => r1.get e⟩
  | _ => cases h
theorem pid_zip (hg : Gl X "zip") (hm : X.mg "zip" = none) (ha : PAd X W [e, e2] ds)
    (hs : starEach [e, e2] X.env = (false, eval e X.env) :: starEach [e2] X.env := by rfl) (hpl : (backTo pos (starEach [e2] X.env)).any (·.1) = false := by rfl) :
    PId X W (.Tuple elts kk tpos) (.Call (.Name "zip" p) [e, e2] [] pos) (dZip ds) :=
  PI.mono (pi_zip2 hg hm ha hs hpl) fun σ H R ⟨ρ, ι, st, env, S, ve, p⟩ => ⟨ρ, ι, st, env, S, ve, Post.bind p fun xs st1 ι1 H1 vs s1 S1 rx p1 => by
    split at p1
    · rename_i x y
      obtain ⟨v, w, rfl, h1, h2⟩ := vr2 rx
      split at p1
      · rename_i as bs e1 e2
        obtain ⟨q1, is1, l1, g1, k1⟩ := sq_of_seq h1 e1
        obtain ⟨q2, is2, l2, g2, k2⟩ := sq_of_seq h2 e2
        refine ⟨v, w, q1, q2, rfl, is1, is2, g1 _ _ (Step.refl _ _), g2 _ _ (Step.refl _ _), p1.ok S1 ⟨?_, rfl⟩⟩
        refine ⟨fun ρ' i ι' H' st' f s S k hi => ?_, fun ρ' i d ι' H' st' v H'' f s S k hd hy => ?_, fun ρ' i ι' H' st' f s S k hi => ?_⟩
        · have hi : i < (pairsD as bs).length := hi
          rw [pairs_length] at hi
          exact ⟨g1 _ _ s, g2 _ _ s, by omega, by omega⟩
        · obtain ⟨T, a, b, rfl, hT, rfl, ha, hb⟩ := hy
          obtain ⟨d1, d2, c1, c2, rfl⟩ := pairs_get hd
          obtain ⟨a', ea, ra⟩ := k1 i d1 c1
          obtain ⟨b', eb, rb⟩ := k2 i d2 c2
          rw [ha] at ea; cases ea
          rw [hb] at eb; cases eb
          have sn : Step ι' H' ι' (upd H' T (.tup [a, b])) := Step.new S hT
          exact ⟨sn, S.new hT, T, [a, b], rfl, .inl ⟨.inl upd_same, S.fresh hT, S.fr hT⟩, ⟨a, [b], rfl, ((ra.fine f).step s).step sn, b, [], rfl, ((rb.fine f).step s).step sn, rfl⟩⟩
        · have hi : (pairsD as bs).length ≤ i := hi
          rw [pairs_length] at hi
          exact ⟨g1 _ _ s, g2 _ _ s, by omega⟩
      · exact p1.elim
    · exact p1.elim⟩
end
end DD

/-! DD11: == of data; text methods that may fail; statements never reached. -/
namespace DD
open PySem L2 PyProof.Rows
variable [NMs]

mutual
/-- a thing as data, without the store -/
def toPy0 : D → Option PyData
  | .non => some .none
  | .bl b => some (.bool b)
  | .int i => some (.int i)
  | .str x => some (.str x)
  | .tup ds => (toPys0 ds).map .tuple
  | .fz ds => (toPys0 ds).map .list
  | .sc ds => (toPys0 ds).map .list
  | _ => none
def toPys0 : List D → Option (List PyData)
  | [] => some []
  | d :: ds => match toPy0 d, toPys0 ds with
    | some x, some xs => some (x :: xs)
    | _, _ => none
end
mutual
def toPy (st : Sto) : D → Option PyData
  | .non => some .none
  | .bl b => some (.bool b)
  | .int i => some (.int i)
  | .str x => some (.str x)
  | .tup ds => (toPys st ds).map .tuple
  | .fz ds => (toPys st ds).map .list
  | .sc ds => (toPys st ds).map .list
  | .ref n => match st[n]? with
    | some (.lst ds) => (toPys0 ds).map .list
    | _ => none
  | _ => none
def toPys (st : Sto) : List D → Option (List PyData)
  | [] => some []
  | d :: ds => match toPy st d, toPys st ds with
    | some x, some xs => some (x :: xs)
    | _, _ => none
end
section
variable {B : Bs} {H : Hp} {ι : List Addr} {st : Sto}
mutual
theorem dp0 : ∀ {d : D} {v : V} {p : PyData}, VR B H ι d v → toPy0 d = some p → Dp B.K H v p
  | .non, _, _, h, e => by cases h; cases e; exact .non
  | .bl _, _, _, h, e => by cases h; cases e; exact .bl _
  | .int _, _, _, h, e => by cases h; cases e; exact .int _
  | .str _, _, _, h, e => by cases h; cases e; exact .str _
  | .tup ds, _, _, ⟨a, xs, e1, h, r⟩, e => by
    subst e1
    simp only [toPy0, Option.map_eq_some_iff] at e
    obtain ⟨ps, e2, rfl⟩ := e
    exact .tup h.sq (dps0 r e2)
  | .fz ds, _, _, ⟨a, xs, e1, h, m, r⟩, e => by
    subst e1
    simp only [toPy0, Option.map_eq_some_iff] at e
    obtain ⟨ps, e2, rfl⟩ := e
    exact .lst (SqL.of h) (dps0 r e2)
  | .sc ds, _, _, ⟨a, xs, e1, h, r⟩, e => by
    subst e1
    simp only [toPy0, Option.map_eq_some_iff] at e
    obtain ⟨ps, e2, rfl⟩ := e
    exact .lst h.sq (dps0 r e2)
  | .fd _ _, _, _, _, e => nomatch e
  | .obj _ _ _, _, _, _, e => nomatch e
  | .lam _ _ _, _, _, _, e => nomatch e
  | .ty _, _, _, _, e => nomatch e
  | .ref _, _, _, _, e => nomatch e
theorem dps0 : ∀ {ds : List D} {vs : List V} {ps : List PyData}, VRs B H ι ds vs → toPys0 ds = some ps → DpAll B.K H vs ps
  | [], _, _, h, e => by cases h; cases e; exact .nil
  | d :: ds, _, _, ⟨x, r, e1, h, t⟩, e => by
    subst e1
    simp only [toPys0] at e
    split at e
    · rename_i y ys q1 q2
      cases e
      exact .cons (dp0 h q1) (dps0 t q2)
    · cases e
end
mutual
theorem dp (S : Sim B H ι st) : ∀ {d : D} {v : V} {p : PyData}, VR B H ι d v → toPy st d = some p → Dp B.K H v p
  | .non, _, _, h, e => by cases h; cases e; exact .non
  | .bl _, _, _, h, e => by cases h; cases e; exact .bl _
  | .int _, _, _, h, e => by cases h; cases e; exact .int _
  | .str _, _, _, h, e => by cases h; cases e; exact .str _
  | .tup ds, _, _, ⟨a, xs, e1, h, r⟩, e => by
    subst e1
    simp only [toPy, Option.map_eq_some_iff] at e
    obtain ⟨ps, e2, rfl⟩ := e
    exact .tup h.sq (dps S r e2)
  | .fz ds, _, _, ⟨a, xs, e1, h, m, r⟩, e => by
    subst e1
    simp only [toPy, Option.map_eq_some_iff] at e
    obtain ⟨ps, e2, rfl⟩ := e
    exact .lst (SqL.of h) (dps S r e2)
  | .sc ds, _, _, ⟨a, xs, e1, h, r⟩, e => by
    subst e1
    simp only [toPy, Option.map_eq_some_iff] at e
    obtain ⟨ps, e2, rfl⟩ := e
    exact .lst h.sq (dps S r e2)
  | .ref n, _, _, ⟨a, ha, e1⟩, e => by
    subst e1
    simp only [toPy] at e
    split at e
    · rename_i ds q
      simp only [Option.map_eq_some_iff] at e
      obtain ⟨ps, e2, rfl⟩ := e
      obtain ⟨xs, h, r⟩ := S.look q ha
      exact .lst (SqL.of h) (dps0 r e2)
    · cases e
  | .fd _ _, _, _, _, e => nomatch e
  | .obj _ _ _, _, _, _, e => nomatch e
  | .lam _ _ _, _, _, _, e => nomatch e
  | .ty _, _, _, _, e => nomatch e
theorem dps (S : Sim B H ι st) : ∀ {ds : List D} {vs : List V} {ps : List PyData}, VRs B H ι ds vs → toPys st ds = some ps → DpAll B.K H vs ps
  | [], _, _, h, e => by cases h; cases e; exact .nil
  | d :: ds, _, _, ⟨x, r, e1, h, t⟩, e => by
    subst e1
    simp only [toPys] at e
    split at e
    · rename_i y ys q1 q2
      cases e
      exact .cons (dp S h q1) (dps S t q2)
    · cases e
end
end
section
variable {K : PySem.W.Frag} {mg : Str → Option Value}
def fEq (neg : Bool) : F2 := fun x y st => match toPy st x, toPy st y with
  | some p, some q => if SeqAt.shaped p = true ∧ SeqAt.shaped q = true then .ok (.bl (if neg then !PyData.eqv p q else PyData.eqv p q)) st else .bad
  | _, _ => .bad
theorem rd_eq : RD K mg (rEqD K) (fEq false) := by
  intro ρ ι H st x y v u W σ Q S rx ry p
  unfold fEq at p
  split at p
  · rename_i a b e1 e2
    split at p
    · rename_i h
      exact ⟨a, b, dp S rx e1, dp S ry e2, h.1, h.2, p.ok S rfl⟩
    · exact p.elim
  · exact p.elim
theorem rd_ne : RD K mg (rNeD K) (fEq true) := by
  intro ρ ι H st x y v u W σ Q S rx ry p
  unfold fEq at p
  split at p
  · rename_i a b e1 e2
    split at p
    · rename_i h
      exact ⟨a, b, dp S rx e1, dp S ry e2, h.1, h.2, p.ok S rfl⟩
    · exact p.elim
  · exact p.elim
end
/-! ### a statement that is never reached -/
def dNever : DS := fun _ _ => .bad
theorem psd_never {X : Cx} {W : WX} {s : Stmt} : PSd X W s dNever := ⟨fun p s σ H D I ⟨ρ, ι, st, env, S, ve, q⟩ => q.elim⟩
/-! ### s.index(t), t is in it -/
section
variable {X : Cx} {W : WX} {o e : Expr} {dx : DE} {ds : DA} {apos cpos : Pos}
def fIndex : FM := fun x xs st => match x, xs with
  | .str a, [.str b] => match Txt.index0 a b with
    | some k => .ok (.int (k : Nat)) st
    | none => .bad
  | _, _ => .bad
theorem pd_index (hc : X.calm = true) (tk : Takes X W) (ho : PEd X W o dx) (ha : PAd X W [e] ds)
    (hbase : attributeBase o "index" X.env (eval o X.env) = eval o X.env := by rfl)
    (hfew : ((backTo cpos (starEach [e] X.env)).all (fun x => !x.1) && (backToKw cpos (keywordEach [] X.env)).all (fun x => x.1.isSome)
      && decide ([e].length + ([] : List Keyword).length + (if ([] : List Keyword).isEmpty then 0 else 1) < 30)) = true := by rfl)
    (hline : (apos.endLine == cpos.line) = true := by rfl) (hs : starEach [e] X.env = (false, eval e X.env) :: starEach [] X.env := by rfl) (hplain : (backTo cpos (starEach [] X.env)).any (·.1) = false := by rfl) :
    PEd X W (.Call (.Attribute o "index" apos) [e] [] cpos) (dMeth isStr fIndex dx ds) :=
  PE.mono (pe_bmS PySem.F.plainAttrs_str PySem.F.slot_str_index PySem.F.type_str_index (mt_indexX hc tk) ho ha hbase hfew hline hs hplain) fun σ H Q ⟨ρ, ι, st, env, S, ve, p⟩ => ⟨ρ, ι, st, env, S, ve, Post.bind p fun x st1 ι1 H1 v s1 S1 rx p1 => by
    by_cases hk : isStr x st1 = true
    · simp only [hk, if_true] at p1
      refine ⟨isStr_ty S1 rx hk, ρ, ι1, st1, env, S1, ve.step s1, Post.bind p1 fun xs st2 ι2 H2 vs s2 S2 rxs p2 => ?_⟩
      unfold fIndex at p2
      split at p2
      · rename_i a b
        cases rx
        obtain ⟨w, rfl, hw⟩ := vr1 rxs
        cases hw
        split at p2
        · rename_i k ek
          exact ⟨a, b, rfl, rfl, fun k' e' => by rw [ek] at e'; cases e'; exact p2.ok S2 rfl, fun e' => by rw [ek] at e'; cases e'⟩
        · exact p2.elim
      · exact p2.elim
    · simp only [hk, if_false] at p1; exact p1.elim⟩
end
end DD

/-! DD12: the end: a law that gives True for each list of integers. -/
namespace DD
open PySem L2 PyProof.Rows LamX
variable [NMs]
/-- the tables of code objects at the start -/
def Tb0 (K : PySem.W.Frag) (H : Hp) : Prop := Tabs (NMs.T K) H
def spLaw (K : PySem.W.Frag) : Sp := fun vs H Q _ => ∃ a, ∃ ns : List Int, vs = [.ref a] ∧ SqL K H a (ns.map V.int) ∧ ns.length ≤ 63 ∧ Tb0 K H ∧ ∀ H', Q (.bl true) H'
theorem vrs_ints {B : Bs} {H : Hp} {ι : List Addr} : ∀ ns : List Int, VRs B H ι (ns.map D.int) (ns.map V.int)
  | [] => rfl
  | n :: r => ⟨_, _, rfl, rfl, vrs_ints r⟩
theorem law_imp {K : PySem.W.Frag} {mg : Str → Option Value} {m : M} (ok : ∀ ns : List Int, ns.length ≤ 63 → ∃ st', m [.sc (ns.map .int)] [] = .ok (.bl true) st') {vs : List V} {H : Hp} {Q : VK} {E : XK} (h : spLaw K vs H Q E) : spD K mg m 1 vs H Q E := by
  obtain ⟨a, ns, rfl, hs, hl, tb, hq⟩ := h
  refine ⟨rfl, [], [], [], [.sc (ns.map .int)], ⟨rfl, List.nodup_nil, fun n o e => by simp at e, fun a ha => by simp at ha, tb, fun a ha => by simp at ha⟩, ⟨_, _, rfl, ⟨a, _, rfl, hs.elim (fun x => .inl ⟨x, by simp, by simp⟩) .inr, vrs_ints ns⟩, rfl⟩, ?_⟩
  obtain ⟨st', e⟩ := ok ns hl
  rw [e]
  intro ι1 H1 v s S q
  cases (show v = V.bl true from q)
  exact hq H1
theorem noExc {P : Program} {w : World} {H : Hp} {s : Shared} {e : Value} {s' : Shared} (h : L2.CX P w [] H s (fun _ _ _ => False) e s') : False := by
  obtain ⟨_, _, _, _, _, _, _, _, _, _, _, _, z⟩ := h
  exact z.elim
theorem walk_ofD {l : PySem.W.OpenLaw} {k : Nat} {q : Program} {loose : List Str} {XP : (Str → Option Value) → Heap → Prop} {YP : World → Heap → Prop} {d : DefRec} {K : Params → PySem.W.Frag}
    (hnd : ∀ K, NMs.T K = []) (hn : l.most = some 63) (hdf : d.params.defaults = []) (hr : Room k callerA)
    (hY : ∀ (w : World) (h : Heap), YP w h → (K w.params).In h)
    (F : ∀ (w : World) (mg : Str → Option Value) (fa : Addr) (h : Heap), (K w.params).In h → h.Ns mainGlobals mg → mg d.name = some (.ref fa) →
      ∃ fd : FuncData, (∀ (s : Shared) (u : Value), BindsTo s fd ⟨[u], []⟩ [("script", u)]) ∧
        ∀ base : Heap, (K w.params).In base → base.Ns mainGlobals mg → FnOk l.prog w (K w.params) mg base (L2.CX l.prog w) k fa fd ["script"] (spLaw (K w.params))) :
    PySem.W.WalkO q loose XP YP l.row.toRowW d [] (fun f vs => PySem.call f vs) :=
  walk_of (l := l) (n := 63) (k := k) (x := "script") (CX := fun w => L2.CX l.prog w) (sp := fun w => spLaw (K w.params)) hn (by decide) hdf hr hY F (fun w H a ns hl hO hS => ⟨a, ns, rfl, hS, hl, (by unfold Tb0; rw [hnd]; exact fun p hp => absurd hp (by simp)), fun _ => rfl⟩) (fun w _ s e s' h => noExc h)
end DD

/-! DD13: equations to run what a def means. -/
namespace DD
open PySem L2 PyProof.Rows
variable [NMs]
section
variable {da db dc : DE} {t u : DT} {ds : DA} {d1 d2 : DS} {env : Env} {st : Sto} {f g : F2} {i : Nat}
def ResS.andS (r : ResS) (d : DS) : ResS := match r with
  | .nx env1 st1 => d env1 st1
  | r => r
@[simp] theorem andS_nx {d : DS} : (ResS.nx env st).andS d = d env st := rfl
@[simp] theorem andS_rt {x : D} {d : DS} : (ResS.rt x st).andS d = .rt x st := rfl
@[simp] theorem andS_bk {d : DS} : (ResS.bk env st).andS d = .bk env st := rfl
@[simp] theorem andS_ct {d : DS} : (ResS.ct env st).andS d = .ct env st := rfl
@[simp] theorem andS_exc {x : Xc} {d : DS} : (ResS.exc x env st).andS d = .exc x env st := rfl
@[simp] theorem andS_bad {d : DS} : (ResS.bad).andS d = .bad := rfl
def ResS.fin (r : ResS) : Res D := match r with
  | .nx _ st' => .ok .non st'
  | .rt x st' => .ok x st'
  | .exc x _ st' => .exc x st'
  | _ => .bad
@[simp] theorem fin_nx : (ResS.nx env st).fin = .ok .non st := rfl
@[simp] theorem fin_rt {x : D} : (ResS.rt x st).fin = .ok x st := rfl
@[simp] theorem fin_exc {x : Xc} : (ResS.exc x env st).fin = .exc x st := rfl
@[simp] theorem fin_bad : (ResS.bad).fin = .bad := rfl
theorem mOf_e {d : DS} {N : Nat} {ds : List D} : mOf d N ds st = (d (ds.map some ++ List.replicate (N - ds.length) none) st).fin := by
  unfold mOf ResS.fin; cases d (ds.map some ++ List.replicate (N - ds.length) none) st <;> rfl
@[simp] theorem dSeq_e : dSeq d1 d2 env st = (d1 env st).andS d2 := rfl
@[simp] theorem dNext_e : dNext env st = .nx env st := rfl
@[simp] theorem dBreak_e : dBreak env st = .bk env st := rfl
@[simp] theorem dCont_e : dCont env st = .ct env st := rfl
@[simp] theorem dExpr_e : dExpr da env st = (da env st).bindS env fun _ st1 => .nx env st1 := rfl
@[simp] theorem dRet_e : dRet da env st = (da env st).bindS env fun x st1 => .rt x st1 := rfl
@[simp] theorem dRetN_e : dRetN env st = .rt .non st := rfl
@[simp] theorem dIfS_e : dIfS t d1 d2 env st = (t env st).bindS env fun k st1 => if k = true then d1 env st1 else d2 env st1 := rfl
@[simp] theorem dSet_e : dSet i da env st = (da env st).bindS env fun x st1 => .nx (env.set i (some x)) st1 := rfl
def gdRes (o : Option Env) (st : Sto) : ResS := match o with
  | some env1 => .nx env1 st
  | none => .bad
@[simp] theorem gdRes_some : gdRes (some env) st = .nx env st := rfl
@[simp] theorem dAsg_e {g : DG} : dAsg da g env st = (da env st).bindS env fun x st1 => gdRes (g x env) st1 := rfl
@[simp] theorem gdName_e {x : D} : gdName i x env = some (env.set i (some x)) := rfl
@[simp] theorem gdTup_e {n : Nat} {gs : DGs} {ds : List D} : gdTup n gs (.tup ds) env = if ds.length = n then gs ds env else none := rfl
@[simp] theorem gdNil_e : gdNil [] env = some env := rfl
@[simp] theorem gdCons_e {g : DG} {gs : DGs} {x : D} {r : List D} : gdCons g gs (x :: r) env = (g x env).bind fun env1 => gs r env1 := rfl
def opR (o : Option (Option D)) (st : Sto) : Res D := match o with
  | some (some d) => .ok d st
  | _ => .bad
@[simp] theorem opR_some {d : D} : opR (some (some d)) st = .ok d st := rfl
@[simp] theorem dVar_e : dVar i env st = opR env[i]? st := rfl
@[simp] theorem dC_e {d : D} : dC d env st = .ok d st := rfl
@[simp] theorem dBin_e : dBin f da db env st = (da env st).bind fun x st1 => (db env st1).bind fun y st2 => f x y st2 := rfl
@[simp] theorem dUn_e {f : F1} : dUn f da env st = (da env st).bind fun x st1 => f x st1 := rfl
@[simp] theorem dNil_e : dNil env st = .ok [] st := rfl
@[simp] theorem dCons_e : dCons da ds env st = (da env st).bind fun x st1 => (ds env st1).bind fun xs st2 => .ok (x :: xs) st2 := rfl
@[simp] theorem dTup_e : dTup ds env st = (ds env st).bind fun xs st1 => if xs.length ≤ bigLine then .ok (.tup xs) st1 else .bad := rfl
@[simp] theorem dLst_e : dLst ds env st = (ds env st).bind fun xs st1 => if xs.length ≤ bigLine then .ok xs st1 else .bad := rfl
@[simp] theorem dFz_e : dFz ds env st = (ds env st).bind fun xs st1 => .ok (.fz xs) st1 := rfl
@[simp] theorem dNew_e : dNew ds env st = (ds env st).bind fun xs st1 => .ok (.ref st1.length) (st1 ++ [.lst xs]) := rfl
def tstR (x : D) (st : Sto) : Res Bool := match x with
  | .bl k => .ok k st
  | _ => .bad
@[simp] theorem tstR_bl {k : Bool} : tstR (.bl k) st = .ok k st := rfl
@[simp] theorem dTst_e : dTst da env st = (da env st).bind tstR := rfl
def truR (o : Option Bool) (st : Sto) : Res Bool := match o with
  | some k => .ok k st
  | none => .bad
@[simp] theorem truR_some {k : Bool} : truR (some k) st = .ok k st := rfl
@[simp] theorem dTru_e : dTru da env st = (da env st).bind fun x st1 => truR (tru x st1) st1 := rfl
@[simp] theorem tru_bl {k : Bool} : tru (.bl k) st = some k := rfl
@[simp] theorem dAnd_e : dAnd t u env st = (t env st).bind fun k st1 => if k = true then u env st1 else .ok false st1 := rfl
@[simp] theorem dOr_e : dOr t u env st = (t env st).bind fun k st1 => if k = true then .ok true st1 else u env st1 := rfl
@[simp] theorem dNot_e : dNot t env st = (t env st).bind fun k st1 => .ok (!k) st1 := rfl
@[simp] theorem dIf_e : dIf t da db env st = (t env st).bind fun k st1 => if k = true then da env st1 else db env st1 := rfl
def andR (x : D) (r : Res D) (st : Sto) : Res D := match x with
  | .bl true => r
  | .bl false => .ok (.bl false) st
  | _ => .bad
@[simp] theorem andR_bl {k : Bool} {r : Res D} : andR (.bl k) r st = if k = true then r else .ok (.bl false) st := by cases k <;> rfl
@[simp] theorem dAndV_e : dAndV da db env st = (da env st).bind fun x st1 => andR x (db env st1) st1 := rfl
def orR (x : D) (r : Res D) (st : Sto) : Res D := match x with
  | .bl true => .ok (.bl true) st
  | .bl false => r
  | _ => .bad
@[simp] theorem orR_bl {k : Bool} {r : Res D} : orR (.bl k) r st = if k = true then .ok (.bl true) st else r := by cases k <;> rfl
@[simp] theorem dOrV_e : dOrV da db env st = (da env st).bind fun x st1 => orR x (db env st1) st1 := rfl
def notR (x : D) (st : Sto) : Res D := match x with
  | .bl k => .ok (.bl (!k)) st
  | _ => .bad
@[simp] theorem notR_bl {k : Bool} : notR (.bl k) st = .ok (.bl (!k)) st := rfl
@[simp] theorem dNotV_e : dNotV da env st = (da env st).bind notR := rfl
@[simp] theorem dChain_e : dChain f g da db dc env st = (da env st).bind fun x st1 => (db env st1).bind fun y st2 => (f x y st2).bind fun z st3 => andR z ((dc env st3).bind fun w st4 => g y w st4) st3 := rfl
@[simp] theorem dCall_e {f : FC} : dCall f ds env st = (ds env st).bind fun xs st1 => f xs st1 := rfl
@[simp] theorem dOwn_e {m : M} {n : Nat} : dOwn m n ds env st = (ds env st).bind fun xs st1 => if xs.length = n then m xs st1 else .bad := rfl
@[simp] theorem dMeth_e {ok : D → Sto → Bool} {f : FM} : dMeth ok f da ds env st = (da env st).bind fun x st1 => if ok x st1 = true then (ds env st1).bind fun xs st2 => f x xs st2 else .bad := rfl
@[simp] theorem dSl_e {dl dh : DO} : dSl da dl dh env st = (da env st).bind fun x st1 => (dl env st1).bind fun l st2 => (dh env st2).bind fun u st3 => fSl x l u st3 := rfl
@[simp] theorem dNoPart_e : dNoPart env st = .ok none st := rfl
def partR (x : D) (st : Sto) : Res (Option Int) := match x with
  | .int i => .ok (some i) st
  | _ => .bad
@[simp] theorem partR_int {i : Int} : partR (.int i) st = .ok (some i) st := rfl
@[simp] theorem dPart_e : dPart da env st = (da env st).bind partR := rfl
/-! ### operators -/
@[simp] theorem fAdd_int {a b : Int} : fAdd (.int a) (.int b) st = .ok (.int (a + b)) st := rfl
@[simp] theorem fAdd_str {a b : Str} : fAdd (.str a) (.str b) st = if a.length + b.length ≤ bigLine then .ok (.str (a ++ b)) st else .bad := rfl
@[simp] theorem fAdd_tup {a b : List D} : fAdd (.tup a) (.tup b) st = if a.length + b.length ≤ bigLine then .ok (.tup (a ++ b)) st else .bad := rfl
@[simp] theorem fI_int {C : Int → Int → Bool} {g : Int → Int → D} {a b : Int} : fI C g (.int a) (.int b) st = if C a b = true then .ok (g a b) st else .bad := rfl
@[simp] theorem fSub_int {a b : Int} : fSub (.int a) (.int b) st = .ok (.int (a - b)) st := rfl
@[simp] theorem fMul_int {a b : Int} : fMul (.int a) (.int b) st = if cMul a b = true then .ok (.int (a * b)) st else .bad := rfl
@[simp] theorem fMod_int {a b : Int} : fMod (.int a) (.int b) st = if 0 < b then .ok (.int (a % b)) st else .bad := by
  simp [fMod]
@[simp] theorem fDiv_int {a b : Int} : fDiv (.int a) (.int b) st = if cDiv b = true then .ok (.int (a / b)) st else .bad := rfl
@[simp] theorem cDiv_16 : cDiv 16 = true := cDiv_to (by omega)
@[simp] theorem cDiv_1009 : cDiv 1009 = true := cDiv_to (by omega)
@[simp] theorem cDiv_2003 : cDiv 2003 = true := cDiv_to (by omega)
@[simp] theorem fLe_int {a b : Int} : fLe (.int a) (.int b) st = .ok (.bl (decide (a ≤ b))) st := rfl
@[simp] theorem fGt_int {a b : Int} : fGt (.int a) (.int b) st = .ok (.bl (decide (b < a))) st := rfl
@[simp] theorem fGe_int {a b : Int} : fGe (.int a) (.int b) st = .ok (.bl (decide (b ≤ a))) st := rfl
@[simp] theorem fLtS_int {a b : Int} : fLtS (.int a) (.int b) st = .ok (.bl (decide (a < b))) st := rfl
@[simp] theorem fLtS_str {a b : Str} : fLtS (.str a) (.str b) st = .ok (.bl (decide (a.cps.toList < b.cps.toList))) st := rfl
@[simp] theorem fPow_18 : fPow (.int 10) (.int 18) st = .ok (.int 1000000000000000000) st := by
  have : (10 : Int) ^ (18 : Int).toNat = 1000000000000000000 := by decide
  simp [fPow, this]
def ofO (o : Option D) (st : Sto) : Res D := match o with
  | some d => .ok d st
  | none => .bad
@[simp] theorem ofO_some {d : D} : ofO (some d) st = .ok d st := rfl
@[simp] theorem fIx_tup {xs : List D} {i : Int} : fIx (.tup xs) (.int i) st = ofO (L2.atI xs i) st := by simp only [fIx]; cases L2.atI xs i <;> rfl
@[simp] theorem fIx_fz {xs : List D} {i : Int} : fIx (.fz xs) (.int i) st = ofO (L2.atI xs i) st := by simp only [fIx]; cases L2.atI xs i <;> rfl
@[simp] theorem fIx_sc {xs : List D} {i : Int} : fIx (.sc xs) (.int i) st = ofO (L2.atI xs i) st := by simp only [fIx]; cases L2.atI xs i <;> rfl
def lstO (o : Option O) (k : List D → Res D) : Res D := match o with
  | some (.lst ds) => k ds
  | _ => .bad
@[simp] theorem lstO_some {ds : List D} {k : List D → Res D} : lstO (some (.lst ds)) k = k ds := rfl
@[simp] theorem fIx_ref {n : Nat} {i : Int} : fIx (.ref n) (.int i) st = lstO st[n]? fun ds => ofO (L2.atI ds i) st := by
  simp only [fIx, lstO]; cases st[n]? with
  | none => rfl
  | some o => cases o <;> rfl
@[simp] theorem atI_nat {α : Type} {xs : List α} {n : Nat} : L2.atI xs (n : Int) = xs[n]? := by
  unfold L2.atI L2.ixN
  by_cases h : n < xs.length
  · simp [h]
  · simp [h, List.getElem?_eq_none (Nat.le_of_not_lt h)]
@[simp] theorem atI_lit {α : Type} {xs : List α} {n : Nat} : L2.atI xs (no_index (OfNat.ofNat n : Int)) = xs[(OfNat.ofNat n : Nat)]? := atI_nat (n := n)
@[simp] theorem atI_0 {α : Type} {xs : List α} : L2.atI xs 0 = xs[0]? := atI_nat (n := 0)
@[simp] theorem atI_1 {α : Type} {xs : List α} : L2.atI xs 1 = xs[1]? := atI_nat (n := 1)
def setR (o : Option O) (k : Int) (x : D) (n : Nat) (env : Env) (st : Sto) : ResS := match o with
  | some (.lst ds) => match L2.ixN ds.length k with
    | some j => .nx env (st.set n (.lst (ds.set j x)))
    | none => .bad
  | _ => .bad
theorem setR_nat {ds : List D} {j : Nat} {x : D} {n : Nat} (h : j < ds.length) : setR (some (.lst ds)) (j : Int) x n env st = .nx env (st.set n (.lst (ds.set j x))) := by
  simp [setR, L2.ixN, h]
@[simp] theorem setR_lit {ds : List D} {j : Nat} {x : D} {n : Nat} : setR (some (.lst ds)) (no_index (OfNat.ofNat j : Int)) x n env st = if (OfNat.ofNat j : Nat) < ds.length then .nx env (st.set n (.lst (ds.set (OfNat.ofNat j : Nat) x))) else .bad := by
  show setR (some (.lst ds)) (j : Int) x n env st = if j < ds.length then .nx env (st.set n (.lst (ds.set j x))) else .bad
  by_cases h : j < ds.length
  · rw [setR_nat h, if_pos h]
  · simp [setR, L2.ixN, h]
def setItR (o i : D) (x : D) (env : Env) (st : Sto) : ResS := match o, i with
  | .ref n, .int k => setR st[n]? k x n env st
  | _, _ => .bad
@[simp] theorem setItR_ref {n : Nat} {k : Int} {x : D} : setItR (.ref n) (.int k) x env st = setR st[n]? k x n env st := rfl
@[simp] theorem dSetItem_e : dSetItem da db dc env st = (da env st).bindS env fun x st1 => (db env st1).bindS env fun o st2 => (dc env st2).bindS env fun i st3 => setItR o i x env st3 := rfl
/-! ### calls -/
@[simp] theorem fLen_fz {xs : List D} : fLen [.fz xs] st = .ok (.int xs.length) st := rfl
@[simp] theorem fLen_sc {xs : List D} : fLen [.sc xs] st = .ok (.int xs.length) st := rfl
@[simp] theorem fLen_tup {xs : List D} : fLen [.tup xs] st = .ok (.int xs.length) st := rfl
theorem fLen_str {x : Str} (h : x.length ≤ bigLine) : fLen [.str x] st = .ok (.int x.length) st := by simp [fLen, lenD, h]
@[simp] theorem fInt_int {a : Int} : fInt [.int a] st = .ok (.int a) st := rfl
@[simp] theorem fAbs_int {a : Int} : fAbs [.int a] st = .ok (.int (if a < 0 then -a else a)) st := rfl
@[simp] theorem fTuple_fz {xs : List D} : fTuple [.fz xs] st = .ok (.tup xs) st := rfl
@[simp] theorem fTuple_sc {xs : List D} : fTuple [.sc xs] st = .ok (.tup xs) st := rfl
@[simp] theorem fTuple_tup {xs : List D} : fTuple [.tup xs] st = .ok (.tup xs) st := rfl
theorem fTuple_ref {n : Nat} {xs : List D} (h : st[n]? = some (.lst xs)) : fTuple [.ref n] st = .ok (.tup xs) st := by simp [fTuple, h]
/-! ### equality -/
theorem shaped_int {a : Int} : SeqAt.shaped (.int a) = true := by simp [SeqAt.shaped, PyData.canLay0, PyData.depth]
@[simp] theorem fEq_int {neg : Bool} {a b : Int} : fEq neg (.int a) (.int b) st = .ok (.bl (if neg then !decide (a = b) else decide (a = b))) st := by
  have h : (a == b) = decide (a = b) := by by_cases q : a = b <;> simp [q]
  simp [fEq, toPy, shaped_int, PyData.eqv, h]
@[simp] theorem fEq_tup2 {neg : Bool} {a b a' b' : Int} : fEq neg (.tup [.int a, .int b]) (.tup [.int a', .int b']) st = .ok (.bl (if neg then !decide (a = a' ∧ b = b') else decide (a = a' ∧ b = b'))) st := by
  have h : (PyData.eqv (.tuple [.int a, .int b]) (.tuple [.int a', .int b'])) = decide (a = a' ∧ b = b') := by
    simp only [PyData.eqv, PyData.eqvAll]
    by_cases q : a = a' <;> by_cases q' : b = b' <;> simp [q, q']
  have k (a b : Int) : SeqAt.shaped (.tuple [.int a, .int b]) = true := by simp [SeqAt.shaped, PyData.canLay0, PyData.canLayAll0, PyData.depth, PyData.depthAll]
  simp [fEq, toPy, toPys, k, h]
end
/-! ### the drawing -/
structure Hand where
  cells : List Int
  pos : Nat
  big : Int
  seed : Int
  turns : Int
def Hand.ds (h : Hand) : List D := [.fz (h.cells.map .int), .int (h.pos : Int), .int h.big, .int h.seed, .int h.turns]
noncomputable def dDraw1 : DS := (dIfS (dAnd (dTst (dBin (fEq false) (dBin fIx (dVar 0) (dC (.int 2))) (dC (.int 0)))) (dTst (dBin fLtS (dBin fIx (dVar 0) (dC (.int 1))) (dCall fLen (dCons (dBin fIx (dVar 0) (dC (.int 0))) dNil))))) (dSeq (dSet 2 (dBin fIx (dBin fIx (dVar 0) (dC (.int 0))) (dBin fIx (dVar 0) (dC (.int 1)))))
    (dSeq (dSetItem (dBin fAdd (dBin fIx (dVar 0) (dC (.int 1))) (dC (.int 1))) (dVar 0) (dC (.int 1)))
    (dSeq (dSetItem (dBin fMod (dCall fInt (dCons (dBin fAdd (dBin fAdd (dBin fMul (dBin fIx (dVar 0) (dC (.int 3))) (dC (.int 69621))) (dVar 2)) (dC (.int 11))) dNil)) (dC (.int 2147483629))) (dVar 0) (dC (.int 3)))
    (dIfS (dTst (dBin fGe (dVar 2) (dBin fPow (dC (.int 10)) (dC (.int 18))))) (dSetItem (dVar 2) (dVar 0) (dC (.int 2))) dNext)))) dNext)
noncomputable def dDraw2 : DS := (dSeq (dIfS (dTst (dBin fGt (dBin fIx (dVar 0) (dC (.int 2))) (dC (.int 0)))) (dSeq (dSet 3 (dBin fMod (dCall fInt (dCons (dBin fIx (dVar 0) (dC (.int 2))) dNil)) (dVar 1)))
    (dSeq (dSetItem (dBin fDiv (dBin fIx (dVar 0) (dC (.int 2))) (dVar 1)) (dVar 0) (dC (.int 2)))
    (dRet (dVar 3)))) dNext)
    (dSeq (dSetItem (dBin fAdd (dBin fIx (dVar 0) (dC (.int 4))) (dC (.int 1))) (dVar 0) (dC (.int 4)))
    (dSeq (dSet 4 (dBin fMod (dCall fInt (dCons (dBin fMul (dCall fInt (dCons (dBin fAdd (dBin fIx (dVar 0) (dC (.int 3))) (dBin fMul (dC (.int 7919)) (dBin fIx (dVar 0) (dC (.int 4))))) dNil)) (dC (.int 48271))) dNil)) (dC (.int 2147483647))))
    (dSeq (dSet 4 (dBin fMod (dCall fInt (dCons (dBin fMul (dVar 4) (dBin fAdd (dBin fDiv (dVar 4) (dC (.int 1009))) (dC (.int 69621)))) dNil)) (dC (.int 2147483647))))
    (dSeq (dSet 4 (dBin fMod (dCall fInt (dCons (dBin fMul (dVar 4) (dBin fAdd (dBin fDiv (dVar 4) (dC (.int 2003))) (dC (.int 40692)))) dNil)) (dC (.int 2147483399))))
    (dRet (dBin fMod (dCall fInt (dCons (dBin fDiv (dVar 4) (dC (.int 16))) dNil)) (dVar 1))))))))
noncomputable def dDraw : DS := dSeq dDraw1 dDraw2
theorem cMul_small {a b : Int} (h : -(2 ^ 64) < b ∧ b < 2 ^ 64) : cMul a b = true := by
  simp only [cMul_e, cMul0, Bool.or_eq_true, Bool.and_eq_true, decide_eq_true_eq]; exact .inr h
theorem cMul_small' {a b : Int} (h : -(2 ^ 64) < a ∧ a < 2 ^ 64) : cMul a b = true := by
  simp only [cMul_e, cMul0, Bool.or_eq_true, Bool.and_eq_true, decide_eq_true_eq]; exact .inl h
end DD

/-! DD14: the drawing, and what is told of lists. -/
namespace DD
open PySem L2 PyProof.Rows
variable [NMs]
theorem cMul_mod1 {x y : Int} : cMul (x % 2147483647) y = true := cMul_small' (by omega)
theorem cMul_mod2 {x y : Int} : cMul (x % 2147483399) y = true := cMul_small' (by omega)
theorem cMul_const1 {x : Int} : cMul x 69621 = true := cMul_small (by omega)
theorem cMul_const2 {x : Int} : cMul 7919 x = true := cMul_small' (by omega)
theorem cMul_const3 {x : Int} : cMul x 48271 = true := cMul_small (by omega)
theorem draw2 {st : Sto} {n : Nat} {h : Hand} {many : Int} {e2 : Option D} (hs : st[n]? = some (.lst h.ds)) (h1 : 0 < many) (h2 : many < 1073741824) :
    ∃ (h' : Hand) (d : Int), 0 ≤ d ∧ d < many ∧ (dDraw2 [some (.ref n), some (.int many), e2, none, none] st).fin = .ok (.int d) (st.set n (.lst h'.ds)) := by
  have hn : n < st.length := (List.getElem?_eq_some_iff.mp hs).1
  have hself : ∀ x : O, (st.set n x)[n]? = some x := fun x => by rw [List.getElem?_set_self hn]
  obtain ⟨cells, pos, big, seed, turns⟩ := h
  by_cases hb : 0 < big
  · refine ⟨⟨cells, pos, big / many, seed, turns⟩, big % many, Int.emod_nonneg _ (by omega), Int.emod_lt_of_pos _ h1, ?_⟩
    simp [dDraw2, hs, Hand.ds, hself, hb, h1, cDiv_to ⟨h1, h2⟩]
  · have : ∃ v : Int, (dDraw2 [some (.ref n), some (.int many), e2, none, none] st).fin = .ok (.int (v % many)) (st.set n (.lst (Hand.mk cells pos big seed (turns + 1)).ds)) := by
      simp [dDraw2, hs, Hand.ds, hself, hb, h1, h2, cMul_mod1, cMul_mod2, cMul_const1, cMul_const2, cMul_const3]
      exact ⟨_, rfl⟩
    obtain ⟨v, e⟩ := this
    exact ⟨_, _, Int.emod_nonneg _ (by omega), Int.emod_lt_of_pos _ h1, e⟩
theorem set_id {st : Sto} {n : Nat} {o : O} (hs : st[n]? = some o) : st.set n o = st := by
  obtain ⟨hn, e⟩ := List.getElem?_eq_some_iff.mp hs
  rw [← e]; exact List.set_getElem_self hn
theorem draw1 {st : Sto} {n : Nat} {h : Hand} {many : Int} (hs : st[n]? = some (.lst h.ds)) :
    ∃ (h' : Hand) (e2 : Option D), dDraw1 [some (.ref n), some (.int many), none, none, none] st = .nx [some (.ref n), some (.int many), e2, none, none] (st.set n (.lst h'.ds)) := by
  have hn : n < st.length := (List.getElem?_eq_some_iff.mp hs).1
  have hself : ∀ x : O, (st.set n x)[n]? = some x := fun x => by rw [List.getElem?_set_self hn]
  have hid := set_id hs
  obtain ⟨cells, pos, big, seed, turns⟩ := h
  by_cases hc : big = 0 ∧ pos < cells.length
  · by_cases hz : 1000000000000000000 ≤ cells[pos]
    · exact ⟨⟨cells, pos + 1, cells[pos], (seed * 69621 + cells[pos] + 11) % 2147483629, turns⟩, some (.int cells[pos]), by simp [dDraw1, hs, Hand.ds, hc, hself, cMul_const1, hz]⟩
    · exact ⟨⟨cells, pos + 1, 0, (seed * 69621 + cells[pos] + 11) % 2147483629, turns⟩, some (.int cells[pos]), by simp [dDraw1, hs, Hand.ds, hc, hself, cMul_const1, hz]⟩
  · refine ⟨⟨cells, pos, big, seed, turns⟩, none, ?_⟩
    rw [hid]
    by_cases hb : big = 0
    · have : ¬ pos < cells.length := fun h => hc ⟨hb, h⟩
      simp [dDraw1, hs, Hand.ds, hb, this]
    · simp [dDraw1, hs, Hand.ds, hb]
theorem draw_spec {st : Sto} {n : Nat} {h : Hand} {many : Int} (hs : st[n]? = some (.lst h.ds)) (h1 : 0 < many) (h2 : many < 1073741824) :
    ∃ (h' : Hand) (d : Int), 0 ≤ d ∧ d < many ∧ mOf dDraw 5 [.ref n, .int many] st = .ok (.int d) (st.set n (.lst h'.ds)) := by
  have hn : n < st.length := (List.getElem?_eq_some_iff.mp hs).1
  obtain ⟨h', e2, e⟩ := draw1 (many := many) hs
  obtain ⟨h3, d, d0, dm, e3⟩ := draw2 (e2 := e2) (st := st.set n (.lst h'.ds)) (n := n) (h := h') (by rw [List.getElem?_set_self hn]) h1 h2
  refine ⟨h3, d, d0, dm, ?_⟩
  rw [mOf_e, dDraw, dSeq_e]
  show ((dDraw1 [some (.ref n), some (.int many), none, none, none] st).andS dDraw2).fin = _
  rw [e, andS_nx, e3, List.set_set]
end DD

/-! DD15: loops and lists of the data side. -/
namespace DD
open PySem L2 PyProof.Rows
variable [NMs]
/-! ### what is gone over -/
section
variable {da : DE} {ds : DA} {env : Env} {st : Sto}
def itR (x : D) (st : Sto) : Res (List D × (Sto → Bool)) := match x with
  | .fz ds => .ok (ds, yes) st
  | .sc ds => .ok (ds, yes) st
  | _ => .bad
def ittR (x : D) (st : Sto) : Res (List D × (Sto → Bool)) := match x with
  | .tup ds => .ok (ds, yes) st
  | _ => .bad
def itsR (x : D) (st : Sto) : Res (List D × (Sto → Bool)) := match x with
  | .str x => .ok (signs x, yes) st
  | _ => .bad
noncomputable def rgR (xs : List D) (st : Sto) : Res (List D × (Sto → Bool)) := match xs with
  | [.int j] => if rg62 j = true then .ok (intsD 0 j.toNat, yes) st else .bad
  | _ => .bad
def zpR (xs : List D) (st : Sto) : Res (List D × (Sto → Bool)) := match xs with
  | [x, y] => match seqD x, seqD y with
    | some as, some bs => .ok (pairsD as bs, yes) st
    | _, _ => .bad
  | _ => .bad
@[simp] theorem dItems_e : dItems da env st = (da env st).bind itR := rfl
@[simp] theorem dItemsT_e : dItemsT da env st = (da env st).bind ittR := rfl
@[simp] theorem dSigns_e : dSigns da env st = (da env st).bind itsR := rfl
@[simp] theorem dRange1_e : dRange1 ds env st = (ds env st).bind rgR := rfl
@[simp] theorem dZip_e : dZip ds env st = (ds env st).bind zpR := rfl
@[simp] theorem itR_fz {xs : List D} : itR (.fz xs) st = .ok (xs, yes) st := rfl
@[simp] theorem itR_sc {xs : List D} : itR (.sc xs) st = .ok (xs, yes) st := rfl
@[simp] theorem ittR_tup {xs : List D} : ittR (.tup xs) st = .ok (xs, yes) st := rfl
@[simp] theorem itsR_str {x : Str} : itsR (.str x) st = .ok (signs x, yes) st := rfl
theorem rgR_ok {j : Int} {n : Nat} (e : j = n) (h : n < 1000000) : rgR [.int j] st = .ok (intsD 0 n, yes) st := by
  subst e
  have h1 : rg62 (n : Int) = true := rg62_to (by omega)
  unfold rgR
  simp only [h1, if_true, Int.toNat_natCast]
@[simp] theorem zpR_st {x y : Str} : zpR [.str x, .str y] st = .ok (pairsD (signs x) (signs y), yes) st := rfl
@[simp] theorem zpR_stt {x : Str} {ys : List D} : zpR [.str x, .tup ys] st = .ok (pairsD (signs x) ys, yes) st := rfl
@[simp] theorem dFor_e {di : DI} {g : DG} {d : DS} : dFor di g d env st = (di env st).bindS env fun a st1 => loop g d a.2 a.1 env st1 := rfl
@[simp] theorem dLc_e {di : DI} {g : DG} {t : DT} {de : DE} {vs : List Nat} : dLc di g t de vs env st = (di env st).bind fun a st1 => if a.1.length ≤ bigLine then lcLoop g t de a.2 (wipeE vs env) a.1 st1 else .bad := rfl
theorem intsD_length {lo : Int} {n : Nat} : (intsD lo n).length = n := by simp [intsD]
theorem intsD_get {lo : Int} {n i : Nat} {x : D} (h : (intsD lo n)[i]? = some x) : i < n ∧ x = .int (lo + (i : Nat)) := by
  simp only [intsD, List.getElem?_map, Option.map_eq_some_iff] at h
  obtain ⟨a, h1, rfl⟩ := h
  have h2 := List.getElem?_eq_some_iff.mp h1
  obtain ⟨h3, h4⟩ := h2
  simp at h3 h4
  exact ⟨h3, by rw [h4]⟩
theorem intsD_mem {n : Nat} {x : D} (h : x ∈ intsD 0 n) : ∃ i : Nat, i < n ∧ x = .int (i : Int) := by
  obtain ⟨i, hi⟩ := List.mem_iff_getElem?.mp h
  obtain ⟨h1, h2⟩ := intsD_get hi
  exact ⟨i, h1, by simpa using h2⟩
end
section
variable {g : DG} {de : DE} {env : Env} {d : DS}
theorem lc_map {st : Sto} {f : D → D} : ∀ xs : List D, (∀ x ∈ xs, ∃ env1, g x env = some env1 ∧ de env1 st = .ok (f x) st) → lcLoop g dYes de yes env xs st = .ok (xs.map f) st
  | [], _ => rfl
  | x :: r, h => by
    obtain ⟨env1, h1, h2⟩ := h x List.mem_cons_self
    have ih := lc_map r fun y hy => h y (List.mem_cons_of_mem _ hy)
    unfold lcLoop
    simp only [yes, if_true, h1, dYes, h2]
    rw [ih]; rfl
theorem lc_inv {I : Sto → Prop} {P : D → Prop} : ∀ (xs : List D) (st : Sto), I st → (∀ x ∈ xs, ∀ st, I st → ∃ env1 y st', g x env = some env1 ∧ de env1 st = .ok y st' ∧ I st' ∧ P y) →
    ∃ ys st', lcLoop g dYes de yes env xs st = .ok ys st' ∧ I st' ∧ ys.length = xs.length ∧ ∀ y ∈ ys, P y
  | [], st, i, _ => ⟨[], st, rfl, i, rfl, fun _ h => by cases h⟩
  | x :: r, st, i, h => by
    obtain ⟨env1, y, st1, h1, h2, i1, p1⟩ := h x List.mem_cons_self st i
    obtain ⟨ys, st2, e, i2, l, p2⟩ := lc_inv r st1 i1 fun z hz => h z (List.mem_cons_of_mem _ hz)
    refine ⟨y :: ys, st2, ?_, i2, by simp [l], fun z hz => ?_⟩
    · unfold lcLoop
      simp only [yes, if_true, h1, dYes, h2]
      rw [e]; rfl
    · rcases List.mem_cons.mp hz with z1 | z1
      · rw [z1]; exact p1
      · exact p2 z z1
theorem for_inv {I : Nat → Env → Sto → Prop} : ∀ (xs : List D) (k : Nat) (env : Env) (st : Sto), I k env st →
    (∀ i x env st, xs[i]? = some x → I (k + i) env st → ∃ env1 env2 st2, g x env = some env1 ∧ (d env1 st = .nx env2 st2 ∨ d env1 st = .ct env2 st2) ∧ I (k + i + 1) env2 st2) →
    ∃ env' st', loop g d yes xs env st = .nx env' st' ∧ I (k + xs.length) env' st'
  | [], k, env, st, i, _ => ⟨env, st, rfl, i⟩
  | x :: r, k, env, st, i, h => by
    obtain ⟨env1, env2, st2, h1, h2, i2⟩ := h 0 x env st rfl i
    obtain ⟨env3, st3, e, i3⟩ := for_inv r (k + 1) env2 st2 i2 fun j y env st hy hi => by
      have := h (j + 1) y env st (by simpa using hy) (by rw [show k + (j + 1) = k + 1 + j by omega]; exact hi)
      rw [show k + (j + 1) = k + 1 + j by omega] at this
      exact this
    refine ⟨env3, st3, ?_, by rw [List.length_cons, show k + (r.length + 1) = k + 1 + r.length by omega]; exact i3⟩
    unfold loop
    simp only [yes, if_true, h1]
    rcases h2 with h2 | h2 <;> simp only [h2, e]
end
theorem list_of {α : Type} {f : α → D} {Q : α → Prop} : ∀ ys : List D, (∀ y ∈ ys, ∃ a, y = f a ∧ Q a) → ∃ as : List α, ys = as.map f ∧ ∀ a ∈ as, Q a
  | [], _ => ⟨[], rfl, fun _ h => by cases h⟩
  | y :: r, h => by
    obtain ⟨a, e, q⟩ := h y List.mem_cons_self
    obtain ⟨as, e2, q2⟩ := list_of (f := f) (Q := Q) r fun z hz => h z (List.mem_cons_of_mem _ hz)
    refine ⟨a :: as, by rw [e, e2]; rfl, fun b hb => ?_⟩
    rcases List.mem_cons.mp hb with z | z
    · rw [z]; exact q
    · exact q2 b z
theorem bls_true : ∀ ys : List D, (∀ y ∈ ys, y = .bl true) → ∃ bs, blsOf ys = some bs ∧ bs.all id = true
  | [], _ => ⟨[], rfl, rfl⟩
  | y :: r, h => by
    obtain ⟨bs, e1, e2⟩ := bls_true r fun z hz => h z (List.mem_cons_of_mem _ hz)
    rw [h y List.mem_cons_self]
    exact ⟨true :: bs, by simp [blsOf, e1], by rw [List.all_cons, e2]; rfl⟩
theorem all_true {ys : List D} {st : Sto} (h : ∀ y ∈ ys, y = .bl true) : fAll [.fz ys] st = .ok (.bl true) st := by
  obtain ⟨bs, e1, e2⟩ := bls_true ys h
  simp only [fAll, e1, e2]
theorem lc_all {g : DG} {de : DE} {env : Env} {st : Sto} (xs : List D) (h : ∀ x ∈ xs, ∃ env1, g x env = some env1 ∧ de env1 st = .ok (.bl true) st) :
    ∃ ys, lcLoop g dYes de yes env xs st = .ok ys st ∧ fAll [.fz ys] st = .ok (.bl true) st := by
  refine ⟨_, lc_map (f := fun _ => .bl true) xs h, all_true fun y hy => ?_⟩
  obtain ⟨_, _, e⟩ := List.mem_map.mp hy
  exact e.symm
/-! ### the hand in the store -/
def HG (n : Nat) (st : Sto) : Prop := ∃ h : Hand, st[n]? = some (.lst h.ds)
def Dr (n : Nat) (st st' : Sto) : Prop := ∃ h : Hand, st' = st.set n (.lst h.ds)
section
variable {n : Nat} {st st' st2 : Sto}
theorem Dr.refl (h : HG n st) : Dr n st st := by obtain ⟨h, e⟩ := h; exact ⟨h, (set_id e).symm⟩
theorem Dr.trans (a : Dr n st st') (b : Dr n st' st2) : Dr n st st2 := by
  obtain ⟨h, rfl⟩ := a
  obtain ⟨h2, rfl⟩ := b
  exact ⟨h2, by rw [List.set_set]⟩
theorem Dr.hg (h : HG n st) (d : Dr n st st') : HG n st' := by
  obtain ⟨h, e⟩ := h
  obtain ⟨h2, rfl⟩ := d
  exact ⟨h2, by rw [List.getElem?_set_self (List.getElem?_eq_some_iff.mp e).1]⟩
theorem Dr.get {m : Nat} (d : Dr n st st') (hm : m ≠ n) : st'[m]? = st[m]? := by
  obtain ⟨h2, rfl⟩ := d
  rw [List.getElem?_set_ne (Ne.symm hm)]
theorem Dr.len (d : Dr n st st') : st'.length = st.length := by
  obtain ⟨h2, rfl⟩ := d
  simp
theorem HG.lt (h : HG n st) : n < st.length := by obtain ⟨h, e⟩ := h; exact (List.getElem?_eq_some_iff.mp e).1
theorem draw_ok {many : Int} (hg : HG n st) (h1 : 0 < many) (h2 : many < 1073741824) : ∃ (d : Nat) (st' : Sto), (d : Int) < many ∧ mOf dDraw 5 [.ref n, .int many] st = .ok (.int d) st' ∧ Dr n st st' := by
  obtain ⟨h, e⟩ := hg
  obtain ⟨h', d, d0, dm, e2⟩ := draw_spec e h1 h2
  exact ⟨d.toNat, _, by omega, by rw [e2, Int.toNat_of_nonneg d0], h', rfl⟩
end
/-! ### nothing in the store names a place -/
def NoRefO (o : O) : Prop := ∀ n, belowO n o = true
def NoRef (st : Sto) : Prop := ∀ o ∈ st, NoRefO o
theorem belows_ints {n : Nat} : ∀ xs : List Int, belows n (xs.map .int) = true
  | [] => rfl
  | _ :: r => by rw [List.map_cons]; unfold belows; rw [belows_ints r]; simp [below]
theorem noRef_hand (h : Hand) : NoRefO (.lst h.ds) := fun n => by
  simp [belowO, Hand.ds, belows, below, belows_ints]
theorem NoRef.set {st : Sto} {n : Nat} {o : O} (h : NoRef st) (ho : NoRefO o) : NoRef (st.set n o) := fun x hx => by
  rcases List.mem_or_eq_of_mem_set hx with z | z
  · exact h x z
  · rw [z]; exact ho
theorem NoRef.dr {st st' : Sto} {n : Nat} (h : NoRef st) (d : Dr n st st') : NoRef st' := by
  obtain ⟨h2, rfl⟩ := d
  exact h.set (noRef_hand h2)
theorem NoRef.app {st : Sto} {o : O} (h : NoRef st) (ho : NoRefO o) : NoRef (st ++ [o]) := fun x hx => by
  rcases List.mem_append.mp hx with z | z
  · exact h x z
  · rw [List.mem_singleton.mp z]; exact ho
/-! ### texts -/
theorem ix_of {x : Str} {c : Nat} (h : c ∈ x.cps.toList) : ∃ i : Nat, i < x.length ∧ Txt.index0 x ⟨#[c]⟩ = some i ∧ Txt.find x ⟨#[c]⟩ = (i : Int) := by
  have h1 := PyProof.Rows.empty_one x c
  cases q : PySem.Builtin.Str.occurrences x ⟨#[c]⟩ 0 x.length 1 with
  | nil => rw [q] at h1; simp [h] at h1
  | cons i r =>
    refine ⟨i, ?_, ?_, ?_⟩
    · have := (PySem.StrLaws.occ_spec x ⟨#[c]⟩ 0 x.length 1 i (by rw [q]; exact List.mem_cons_self)).1
      have : i + 1 ≤ x.length := this
      omega
    · simp [Txt.index0, q]
    · simp [Txt.find, q]
end DD

/-! DD16: machines as data. -/
namespace DD
open PySem L2 PyProof.Rows
variable [NMs]
section
variable {st : Sto}
@[simp] theorem fSl_sc {xs : List D} {lo hi : Option Int} : fSl (.sc xs) lo hi st = .ok (.fz (cutL xs lo hi)) st := rfl
@[simp] theorem fSl_fz {xs : List D} {lo hi : Option Int} : fSl (.fz xs) lo hi st = .ok (.fz (cutL xs lo hi)) st := rfl
@[simp] theorem fSl_tup {xs : List D} {lo hi : Option Int} : fSl (.tup xs) lo hi st = .ok (.tup (cutL xs lo hi)) st := rfl
theorem cut_map {α β : Type} (f : α → β) (xs : List α) (lo hi : Option Int) : cutL (xs.map f) lo hi = (cutL xs lo hi).map f := by
  simp [cutL, List.map_take, List.map_drop]
theorem cut_len {α : Type} (xs : List α) (lo hi : Option Int) : (cutL xs lo hi).length ≤ xs.length := by
  simp only [cutL, List.length_take, List.length_drop]; omega
/-- a text of these signs -/
def tx (cs : List Nat) : Str := ⟨cs.toArray⟩
@[simp] theorem tx_list {cs : List Nat} : (tx cs).cps.toList = cs := rfl
@[simp] theorem tx_length {cs : List Nat} : (tx cs).length = cs.length := rfl
@[simp] theorem tx_append {as bs : List Nat} : tx as ++ tx bs = tx (as ++ bs) := by
  show Str.mk (as.toArray ++ bs.toArray) = Str.mk (as ++ bs).toArray
  simp
@[simp] theorem signs_tx {cs : List Nat} : signs (tx cs) = cs.map fun c => .str (tx [c]) := rfl
theorem tx_nil : (Str.ofString "" : Str) = tx [] := by decide +kernel
theorem tx_letters : (Str.ofString "abcdefghijklmnopqrstuvwxyz" : Str) = tx (List.range' 97 26) := by decide +kernel
theorem fIx_str {z : Str} {i : Nat} {c : Nat} (hl : z.length ≤ bigLine) (h : z.cps.toList[i]? = some c) : fIx (.str z) (.int (i : Int)) st = .ok (.str (tx [c])) st := by
  simp only [fIx]
  have : L2.atI z.cps.toList (i : Int) = some c := by rw [atI_nat]; exact h
  simp only [this, hl, if_true]; rfl
theorem fSl_str_from {cs : List Nat} {i : Nat} (h : cs.length ≤ bigLine) : fSl (.str (tx cs)) (some (i : Int)) none st = .ok (.str (tx (cs.drop i))) st := by
  have hl : (tx cs).length ≤ bigLine := h
  simp only [fSl, hl, if_true]
  congr 2
  show Str.mk ((((tx cs).cps.toList.drop (HT.sIx (tx cs).length 0 (some (i : Int)))).take (HT.sIx (tx cs).length (tx cs).length none - HT.sIx (tx cs).length 0 (some (i : Int))))).toArray = tx (cs.drop i)
  rw [HT.sIx_nat, HT.sIx_none, tx_list, tx_length]
  unfold tx
  congr 2
  by_cases hi : i ≤ cs.length
  · rw [Nat.min_eq_left hi, List.take_of_length_le (by simp)]
  · rw [Nat.min_eq_right (by omega), List.drop_eq_nil_of_le (Nat.le_refl _), List.drop_eq_nil_of_le (by omega), List.take_nil]
@[simp] theorem fIsi_int_int {a : Int} : fIsi [.int a, .ty "int"] st = .ok (.bl true) st := by
  simp [fIsi, tyName, show kitB "int" "int" = some true by decide +kernel]
@[simp] theorem fIsi_int_bool {a : Int} : fIsi [.int a, .ty "bool"] st = .ok (.bl false) st := by
  simp [fIsi, tyName, show kitB "int" "bool" = some false by decide +kernel]
@[simp] theorem fIsi_tup_tup {a : List D} : fIsi [.tup a, .ty "tuple"] st = .ok (.bl true) st := by
  simp [fIsi, tyName, show kitB "tuple" "tuple" = some true by decide +kernel]
@[simp] theorem fIsi_str_str {a : Str} : fIsi [.str a, .ty "str"] st = .ok (.bl true) st := by
  simp [fIsi, tyName, show kitB "str" "str" = some true by decide +kernel]
@[simp] theorem fIn_sign {c : Nat} {z : Str} {neg : Bool} : fIn neg (.str (tx [c])) (.str z) st = .ok (.bl (if neg then !decide (c ∈ z.cps.toList) else decide (c ∈ z.cps.toList))) st := rfl
theorem strOk_tx {cs : List Nat} (h : ∀ c ∈ cs, c < 0x110000) : PyData.strOk (tx cs) = true := by
  simp only [PyData.strOk, tx]
  simpa using h
theorem shaped_str {a : Str} (h : PyData.strOk a = true) : SeqAt.shaped (.str a) = true := by simp [SeqAt.shaped, PyData.canLay0, PyData.depth, h]
theorem fEq_str {neg : Bool} {a b : Str} (ha : PyData.strOk a = true) (hb : PyData.strOk b = true) : fEq neg (.str a) (.str b) st = .ok (.bl (if neg then !decide (a = b) else decide (a = b))) st := by
  have h : (a == b) = decide (a = b) := by by_cases q : a = b <;> simp [q]
  simp [fEq, toPy, shaped_str ha, shaped_str hb, PyData.eqv, h]
end
/-! ### join of signs -/
theorem strs_signs : ∀ cs : List Nat, strsOf (cs.map fun c => D.str (tx [c])) = some (cs.map fun c => tx [c])
  | [] => rfl
  | c :: r => by
    show (strsOf (r.map fun c => D.str (tx [c]))).map (tx [c] :: ·) = _
    rw [strs_signs r]; rfl
theorem sum_ones : ∀ cs : List Nat, ((cs.map fun c => tx [c]).map (·.length)).sum = cs.length
  | [] => rfl
  | c :: r => by
    have := sum_ones r
    simp only [List.map_cons, List.sum_cons, List.length_cons, this]
    show 1 + r.length = r.length + 1
    omega
theorem join_signs : ∀ cs : List Nat, Str.join (tx []) (cs.map fun c => tx [c]) = tx cs
  | [] => rfl
  | [c] => rfl
  | c :: d :: r => by
    have ih := join_signs (d :: r)
    show tx [c] ++ tx [] ++ Str.join (tx []) ((d :: r).map fun c => tx [c]) = _
    rw [ih, tx_append, tx_append]; rfl
theorem fJoin_signs {st : Sto} {cs : List Nat} (h : cs.length ≤ bigLine) : fJoin (.str (tx [])) [.fz (cs.map fun c => D.str (tx [c]))] st = .ok (.str (tx cs)) st := by
  have e : Txt.join (tx []) (cs.map fun c => tx [c]) = tx cs := by
    rw [← join_signs cs]
    exact TL.join_eq _ _
  have z : (tx []).length = 0 := rfl
  simp only [fJoin, itemsD, strs_signs, sum_ones, e, z, Nat.mul_zero, Nat.add_zero, h, if_true]
/-! ### loops that stand in a goal -/
section
variable {g : DG} {d : DS} {de : DE} {xs : List D} {env : Env} {st : Sto}
theorem for_use {r : ResS} (I : Nat → Env → Sto → Prop) (h : loop g d yes xs env st = r) (h0 : I 0 env st)
    (hs : ∀ i x env st, xs[i]? = some x → I i env st → ∃ env1 env2 st2, g x env = some env1 ∧ (d env1 st = .nx env2 st2 ∨ d env1 st = .ct env2 st2) ∧ I (i + 1) env2 st2) :
    ∃ env' st', r = .nx env' st' ∧ I xs.length env' st' := by
  obtain ⟨env', st', e, i⟩ := for_inv (g := g) (d := d) (I := I) xs 0 env st h0 fun i x env st hx hi => by
    rw [Nat.zero_add] at hi ⊢
    exact hs i x env st hx hi
  rw [Nat.zero_add] at i
  exact ⟨env', st', by rw [← h, e], i⟩
theorem lc_use {r : Res (List D)} (I : Sto → Prop) (P : D → Prop) (h : lcLoop g dYes de yes env xs st = r) (h0 : I st)
    (hs : ∀ x ∈ xs, ∀ st, I st → ∃ env1 y st', g x env = some env1 ∧ de env1 st = .ok y st' ∧ I st' ∧ P y) :
    ∃ ys st', r = .ok ys st' ∧ I st' ∧ ys.length = xs.length ∧ ∀ y ∈ ys, P y := by
  obtain ⟨ys, st', e, i⟩ := lc_inv (I := I) (P := P) xs st h0 hs
  exact ⟨ys, st', by rw [← h, e], i⟩
theorem lcm_use {r : Res (List D)} (f : D → D) (h : lcLoop g dYes de yes env xs st = r) (hs : ∀ x ∈ xs, ∃ env1, g x env = some env1 ∧ de env1 st = .ok (f x) st) : r = .ok (xs.map f) st := by
  rw [← h]; exact lc_map xs hs
theorem lca_use {r : Res (List D)} (h : lcLoop g dYes de yes env xs st = r) (hs : ∀ x ∈ xs, ∃ env1, g x env = some env1 ∧ de env1 st = .ok (.bl true) st) : ∃ ys, r = .ok ys st ∧ fAll [.fz ys] st = .ok (.bl true) st := by
  obtain ⟨ys, e, h2⟩ := lc_all xs hs
  exact ⟨ys, by rw [← h, e], h2⟩
end
theorem ints_get {n i : Nat} {x : D} (h : (intsD 0 n)[i]? = some x) : i < n ∧ x = .int (i : Int) := by
  obtain ⟨h1, h2⟩ := intsD_get h
  exact ⟨h1, by simpa using h2⟩
/-! ### machines -/
structure Mach where
  rows : List Nat
  ans : Nat
  mv : List (List (List (Nat × Nat)))
def RowsOk (cs : List Nat) : Prop := cs.Pairwise (· < ·) ∧ (∀ c ∈ cs, 97 ≤ c ∧ c < 123) ∧ 1 ≤ cs.length ∧ cs.length ≤ 4
structure MachOk (w : Mach) : Prop where
  rows : RowsOk w.rows
  ans1 : 1 ≤ w.ans
  ans3 : w.ans ≤ 3
  mv1 : 1 ≤ w.mv.length
  mv12 : w.mv.length ≤ 12
  it : ∀ it ∈ w.mv, it.length = w.rows.length ∧ ∀ ps ∈ it, ps.length = w.ans ∧ ∀ p ∈ ps, 1 ≤ p.1 ∧ p.1 ≤ 99 ∧ p.2 < w.mv.length
def pD (p : Nat × Nat) : D := .tup [.int (p.1 : Int), .int (p.2 : Int)]
def psD (ps : List (Nat × Nat)) : D := .tup (ps.map pD)
def itD (it : List (List (Nat × Nat))) : D := .tup (it.map psD)
def mvD (mv : List (List (List (Nat × Nat)))) : D := .tup (mv.map itD)
def aD (a : Nat) : D := .int (a : Int)
def runD (ch as : List Nat) : D := .tup [.str (tx ch), .tup (as.map aD)]
def Mach.wD (w : Mach) : D := .tup [.str (tx w.rows), .int (w.ans : Int), mvD w.mv]
end DD

/-! DD17: own errors raised without arguments; try with several except clauses. -/
namespace DD
open PySem L2 PyProof.Rows
variable [NMs]
/-- X(), X an own exception class without own __init__ -/
theorem pmk_own0 {X : Cx} {pos : Pos} {C : Addr} {bmB : List Value} {B newId initId : String} {x : Str} {p : Pos} (F : ExcBaseFacts B newId initId bmB) (q : PySem.W.excIn X.K C bmB newId = true) (gC : X.mg x = some (.ref C))
    (kC : PySem.W.keepIn X.K (.ref C) = true) (r : Raises X (.ref C)) (hg : Gl X x) (hdb : (x == ("__debug__" : Str)) = false := by decide) :
    PMk X (.Call (.Name x p) [] [] pos) (fun _ H Q => Q (.ref C) none H) := by
  intro pins s σ H Q I h
  refine wpAny_Call_Name_kw (ld_glob I hg gC ?_ hdb)
  refine PySem.W.callWith_K0 (first := []) I.kIn kC ?_
  show wpAny _ _ (call (.ref C) []) _ _ _
  obtain ⟨bm, N, nm, qn, bs, hdct, sn, sub, ab, col, dd, k0, k1, k2, k3, k5, mN, hC, hN, hni, T⟩ := exc_obj I.kIn q
  refine wpAny_call_exc_subT F T hC hN hni (fun h' e hm => ?_) (Nat.zero_le _)
  exact mk_of I hm r h (I.hok.gone hm.new)
/-- what is written of an own error class without __init__ -/
structure ExcCls (K : PySem.W.Frag) (C : Addr) : Prop where
  q : PySem.W.excIn K C [.type "ValueError", .type "Exception", .type "BaseException", .type "object"] "ValueError.__new__" = true
  kC : PySem.W.keepIn K (.ref C) = true
  exC : PySem.W.subIn K (.ref C) (.type "BaseException") = some true
  tyC : PySem.W.typeIn K (.ref C) = some (.type "type")
/-- an except clause's class, from what is read of it -/
theorem exm_mk {K : PySem.W.Frag} {C D : Addr} {b : Bool} (h1 : PySem.W.subIn K (.ref D) (.type "BaseException") = some true) (h2 : PySem.W.isClsIn K D = true) (h3 : PySem.W.typeIn K (.ref D) = some (.type "type")) (h4 : PySem.W.subIn K (.ref C) (.ref D) = some b) :
    PySem.W.exmOne K (.ref C) (.ref D) = some b := by
  unfold PySem.W.exmOne
  have h2 : (PySem.W.clsIn K D).isSome = true := h2
  simp [h1, h2, h3, h4, PySem.W.kitCls]
/-- raise X() -/
def dRaise0 (c : Str) : DS := fun env st => .exc (c, none) env st
theorem psd_raise0 {X : Cx} {W : WX} {C : Addr} {x : Str} {p pos pos' : Pos} (hc : X.calm = true) (tk : Takes X W) (hE : ExcCls X.K C) (gC : X.mg x = some (.ref C)) (hg : Gl X x) (hdb : (x == ("__debug__" : Str)) = false := by decide) :
    PSd X W (.Raise (some (.Call (.Name x p) [] [] pos')) none pos) (dRaise0 x) :=
  PS.mono (ps_raise hc tk (pmk_own0 F.excBase_ValueError hE.q gC hE.kC (raises_own hE.exC hE.tyC) hg hdb)) fun D σ H ⟨ρ, ι, st, env, S, ve, p⟩ =>
    p ι H σ (.ref C) none (Step.refl _ _) S ve ⟨C, rfl, gC, rfl⟩
/-! ### try -/
def SubOk (K : PySem.W.Frag) (mg : Str → Option Value) (sub : Str → Str → Option Bool) : Prop :=
  ∀ x c b, sub x c = some b → ∀ C D, mg x = some (.ref C) → mg c = some (.ref D) → PySem.W.exmOne K (.ref C) (.ref D) = some b
theorem lookup_mem {α β : Type} [BEq α] [LawfulBEq α] {a : α} {b : β} : ∀ {l : List (α × β)}, l.lookup a = some b → (a, b) ∈ l
  | [], h => by simp at h
  | (x, y) :: r, h => by
    rw [List.lookup_cons] at h
    cases q : a == x with
    | true => rw [q] at h; cases h; rw [eq_of_beq q]; exact List.mem_cons_self
    | false => rw [q] at h; exact List.mem_cons_of_mem _ (lookup_mem h)
theorem subOk_of {K : PySem.W.Frag} {mg : Str → Option Value} {l : List ((Str × Str) × Bool)} (h : ∀ e ∈ l, ∀ C D, mg e.1.1 = some (.ref C) → mg e.1.2 = some (.ref D) → PySem.W.exmOne K (.ref C) (.ref D) = some e.2) : SubOk K mg fun x c => l.lookup (x, c) :=
  fun x c b hb C D h1 h2 => h ((x, c), b) (lookup_mem hb) C D h1 h2
def noExcR (r : ResS) : ResS := match r with
  | .exc _ _ _ => .bad
  | r => r
def hdR (sub : Str → Str → Option Bool) (x : Xc) (env : Env) (st : Sto) : List (Str × DS) → ResS
  | [] => .exc x env st
  | (c, d) :: r => match sub x.1 c with
    | some true => noExcR (d env st)
    | some false => hdR sub x env st r
    | none => .bad
def dTry (sub : Str → Str → Option Bool) (d : DS) (hs : List (Str × DS)) : DS := fun env st => match d env st with
  | .exc x env1 st1 => hdR sub x env1 st1 hs
  | r => r
inductive HdD (X : Cx) : List ExceptHandler → List (Str × DS) → Prop
  | nil : HdD X [] []
  | cons {x : Str} {C : Addr} {b₀ : Stmt} {suite : List Stmt} {np pos' : Pos} {hds : List ExceptHandler} {hs : List (Str × DS)} {dd : DS} (hm : X.mg x = some (.ref C)) (hc : Names X x (.ref C))
      (hsu : ∀ (a : Addr) (oe : Obj) (cls : Value) (d : Option Addr) (pn : List (Addr × Obj)), Zc cls d oe → (∃ vs, oe.data = .fields vs) → PSsd (X.suite a ((a, oe) :: pn)) W0 (b₀ :: suite) dd) (r : HdD X hds hs) :
      HdD X (.ExceptHandler (some (.Name x np)) none (b₀ :: suite) pos' :: hds) ((x, dd) :: hs)
theorem PostS.noExc {B : Bs} {W : WX} {E : Ends} {σ : L2.St} {ι : List Addr} {H : Hp} {r : ResS} (h : PostS B W E σ ι H (noExcR r)) : PostS B W0 E σ ι H r := by
  cases r with
  | exc x e st => exact h.elim
  | nx e st => exact h
  | bk e st => exact h
  | ct e st => exact h
  | rt x st => exact h
  | bad => exact h
theorem hd_list {X : Cx} {W : WX} {sub : Str → Str → Option Bool} (hsub : SubOk X.K X.mg sub) {hds : List ExceptHandler} {hs : List (Str × DS)} (h : HdD X hds hs) :
    ∃ l, HdsOk X hds l ∧ ∀ (D : Ends) (ρ ι : List Addr) (st : Sto) (env : Env) (σ : L2.St) (H : Hp) (x : Xc) (cls : Value) (dd : Option Addr), Sim ⟨X.K, X.mg, ρ⟩ H ι st → VEnv ⟨X.K, X.mg, ρ⟩ H ι env σ → ExcR ⟨X.K, X.mg, ρ⟩ H ι x cls dd →
      PostS ⟨X.K, X.mg, ρ⟩ W D σ ι H (hdR sub x env st hs) → wMany X.K W D l cls dd σ H := by
  induction h with
  | nil => exact ⟨[], .nil, fun D ρ ι st env σ H x cls dd S ve ex p => p ι H σ cls dd (Step.refl _ _) S ve ex⟩
  | @cons x C b₀ suite np pos' hds hs d hm hc hsu r ih =>
    obtain ⟨l, hl, k⟩ := ih
    refine ⟨(.ref C, fun _ _ _ => tSd X.K X.mg W0 d) :: l, .cons hc hsu hl, fun D ρ ι st env σ H y cls dd S ve ex p => ?_⟩
    obtain ⟨Cy, rfl, hy, hd⟩ := id ex
    unfold hdR at p
    cases q : sub y.1 x with
    | none => rw [q] at p; exact p.elim
    | some b =>
      rw [q] at p
      refine ⟨b, hsub _ _ _ q _ _ hy hm, fun hb a _ => ?_, fun hb => ?_⟩
      · subst hb
        exact ⟨ρ, ι, st, env, S, ve, PostS.noExc p⟩
      · subst hb
        exact k D ρ ι st env σ H y _ dd S ve ex p
theorem psd_try {X : Cx} {W : WX} {sub : Str → Str → Option Bool} {body : List Stmt} {h₀ : ExceptHandler} {hds : List ExceptHandler} {hs : List (Str × DS)} {d : DS} {pos : Pos} (hst : X.stack = X.env :: X.outer) (hf : X.env.frame = some X.env.locals) (tk : Takes X W) (hsub : SubOk X.K X.mg sub)
    (hb : ∀ (W' : WX) (pn : List (Addr × Obj)) (xe : Value → Shared → Prop), Takes (X.tr pn xe) W' → PassesOwn (model X.prog X.w) X.A X.env xe → PSsd (X.tr pn xe) W' body d) (hh : HdD X (h₀ :: hds) hs) :
    PSd X W (.Try body (h₀ :: hds) [] [] pos) (dTry sub d hs) := by
  obtain ⟨l, hl, k⟩ := hd_list (W := W) hsub hh
  refine PS.mono (ps_try_many (tb := fun W' => tSd X.K X.mg W' d) hst hf tk hb hl) fun D σ H ⟨ρ, ι, st, env, S, ve, p⟩ => ⟨ρ, ι, st, env, S, ve, ?_⟩
  unfold dTry at p
  cases q : d env st with
  | exc x env1 st1 =>
    rw [q] at p
    exact fun ι1 H1 σ1 cls dd s1 S1 ve1 ex => k D ρ ι1 st1 env1 σ1 H1 x cls dd S1 ve1 ex (PostS.step s1 p)
  | nx e st1 => rw [q] at p; exact p
  | bk e st1 => rw [q] at p; exact p
  | ct e st1 => rw [q] at p; exact p
  | rt x st1 => rw [q] at p; exact p
  | bad => rw [q] at p; exact p
end DD

/-! DD18: comprehensions with two fors. -/
namespace DD
open PySem L2 PyProof.Rows
variable [NMs]
def midLine : Nat := 1000
def lcLoop2 (g : DG) (t : DT) (di1 : DI) (g1 : DG) (t1 : DT) (de : DE) (vs1 : List Nat) (keep : Sto → Bool) (env : Env) : List D → Sto → Res (List D)
  | [], st => if keep st = true then .ok [] st else .bad
  | x :: r, st => if keep st = true then (match g x env with
    | none => .bad
    | some env1 => match t env1 st with
      | .ok true st1 => match di1 env1 st1 with
        | .ok a st2 => if a.1.length ≤ midLine then (lcLoop g1 t1 de a.2 (wipeE vs1 env1) a.1 st2).bind fun ys st3 => (lcLoop2 g t di1 g1 t1 de vs1 keep env r st3).bind fun zs st4 => .ok (ys ++ zs) st4 else .bad
        | _ => .bad
      | .ok false st1 => lcLoop2 g t di1 g1 t1 de vs1 keep env r st1
      | _ => .bad) else .bad
def dLc2 (di : DI) (g : DG) (t : DT) (di1 : DI) (g1 : DG) (t1 : DT) (de : DE) (vs vs1 : List Nat) : DA := fun env st => (di env st).bind fun a st1 => if a.1.length ≤ midLine then lcLoop2 g t di1 g1 t1 de vs1 a.2 (wipeE vs env) a.1 st1 else .bad
theorem mid_lt {i j n : Nat} (h : i < 1000) (h2 : j < 1000) (h3 : n ≤ i * 1000 + j) : n < sizeLine := by rw [sizeLine_eq]; omega
theorem Res.bind_id {α : Type} (r : Res α) : (r.bind fun a st => .ok a st) = r := by cases r <;> rfl
/-! ### an iterator inside another comprehension: what is set aside may change -/
structure ItW (B : Bs) (p : Addr) (J : It) (keep : Sto → Bool) (ds : List D) (Ok : List Addr → Hp → Prop) : Prop where
  st : ∀ ι H ι' H', Ok ι H → Step ι H ι' H' → Ok ι' H'
  sc : ∀ ι H o, Ok ι H → Ok ι (upd H p o)
  go : ∀ i ι H st, Ok ι H → Sim (B.more p) H ι st → keep st = true → i < ds.length → J.go i H
  yld : ∀ i d ι H st v H', Ok ι H → Sim (B.more p) H ι st → keep st = true → ds[i]? = some d → J.yld i H v H' → Step ι H ι H' ∧ Sim (B.more p) H' ι st ∧ VR (B.more p) H' ι d v
  stop : ∀ i ι H st, Ok ι H → Sim (B.more p) H ι st → keep st = true → ds.length ≤ i → J.stop i H
def relIw : Rel (List D × (Sto → Bool)) It := ⟨fun B _ _ H ι st a J => a.2 st = true ∧ ∀ B0 p, B = Bs.more B0 p → ∃ Ok, ItW B0 p J a.2 a.1 Ok ∧ Ok ι H, fun _ h => h⟩
def PIdw (X : Cx) (W : WX) (tg it : Expr) (di : DI) : Prop := PI X tg it (tG X.K X.mg relIw W di)
theorem itlw {B : Bs} {p a : Addr} {xs : List V} {ds : List D} {ι : List Addr} {H : Hp} (h : ScL (B.more p) H ι a xs) (r : VRs (B.more p) H ι ds xs) : ∃ Ok, ItW B p (Itl B.K a) yes ds Ok ∧ Ok ι H := by
  have l := r.length
  refine ⟨fun ι H => ScL (B.more p) H ι a xs ∧ VRs (B.more p) H ι ds xs, ⟨fun ι H ι' H' k s => ⟨k.1.step s, k.2.step s⟩, fun ι H o k => ⟨k.1.scr, k.2.scr⟩, fun i ι H st k S kk hi => ?_, fun i d ι H st v H' k S kk hd y => ?_, fun i ι H st k S kk hi => ⟨xs, k.1.sq, by omega⟩⟩, h, r⟩
  · obtain ⟨v, hv, _⟩ := k.2.get (List.getElem?_eq_getElem hi)
    exact ⟨xs, v, k.1.sq, hv⟩
  · obtain ⟨e, y⟩ := y
    subst e
    obtain ⟨w, hw, vr⟩ := k.2.get hd
    have : v = w := Option.some.inj ((y xs k.1.sq).symm.trans hw)
    subst this
    exact ⟨Step.refl _ _, S, vr⟩
theorem ittw {B : Bs} {p a : Addr} {xs : List V} {ds : List D} {ι : List Addr} {H : Hp} (h : FzT (B.more p) H ι a xs) (r : VRs (B.more p) H ι ds xs) : ∃ Ok, ItW B p (Itt B.K a) yes ds Ok ∧ Ok ι H := by
  have l := r.length
  refine ⟨fun ι H => FzT (B.more p) H ι a xs ∧ VRs (B.more p) H ι ds xs, ⟨fun ι H ι' H' k s => ⟨k.1.step s, k.2.step s⟩, fun ι H o k => ⟨k.1.scr, k.2.scr⟩, fun i ι H st k S kk hi => ?_, fun i d ι H st v H' k S kk hd y => ?_, fun i ι H st k S kk hi => ⟨xs, k.1.sq, by omega⟩⟩, h, r⟩
  · obtain ⟨v, hv, _⟩ := k.2.get (List.getElem?_eq_getElem hi)
    exact ⟨xs, v, k.1.sq, hv⟩
  · obtain ⟨e, y⟩ := y
    subst e
    obtain ⟨w, hw, vr⟩ := k.2.get hd
    have : v = w := Option.some.inj ((y xs k.1.sq).symm.trans hw)
    subst this
    exact ⟨Step.refl _ _, S, vr⟩
/-- iterators that look at no heap -/
theorem itw_free {B : Bs} {p : Addr} {J : It} {ds : List D} {ι : List Addr} {H : Hp} (h : ∀ (B : Bs) (ι : List Addr) (H : Hp), ItOk B J ι H yes ds) : ∃ Ok, ItW B p J yes ds Ok ∧ Ok ι H :=
  ⟨fun _ _ => True, ⟨fun _ _ _ _ _ _ => trivial, fun _ _ _ _ => trivial, fun i ι H st _ S kk hi => (h (B.more p) ι H).go (p :: B.ρ) i ι H st (Fine.refl _ _) (Step.refl _ _) S kk hi,
    fun i d ι H st v H' _ S kk hd y => (h (B.more p) ι H).yld (p :: B.ρ) i d ι H st v H' (Fine.refl _ _) (Step.refl _ _) S kk hd y, fun i ι H st _ S kk hi => (h (B.more p) ι H).stop (p :: B.ρ) i ι H st (Fine.refl _ _) (Step.refl _ _) S kk hi⟩, trivial⟩
section
variable {X : Cx} {W : WX} {tg e : Expr} {da : DE} {ds : DA} {pos p : Pos}
theorem pidw_list (ha : PEd X W e da) : PIdw X W tg e (dItems da) := PI.mono (pi_list ha) fun σ H R ⟨ρ, ι, st, env, S, ve, p⟩ => ⟨ρ, ι, st, env, S, ve, Post.bind p fun x st1 ι1 H1 v s1 S1 rx p1 => by
  cases x <;> (try exact p1.elim)
  · obtain ⟨a, xs, rfl, h, m, r⟩ := rx
    exact ⟨a, rfl, ⟨xs, SqL.of h⟩, p1.ok S1 ⟨rfl, fun B0 p e => by
      have hK : X.K = B0.K := congrArg Bs.K e
      rw [hK]; rw [e] at r m; exact itlw (.inl ⟨.inl h, m.1, m.2⟩) r⟩⟩
  · obtain ⟨a, xs, rfl, h, r⟩ := rx
    exact ⟨a, rfl, ⟨xs, h.sq⟩, p1.ok S1 ⟨rfl, fun B0 p e => by
      have hK : X.K = B0.K := congrArg Bs.K e
      rw [hK]; rw [e] at r h; exact itlw h r⟩⟩⟩
theorem pidw_tup (ha : PEd X W e da) : PIdw X W tg e (dItemsT da) := PI.mono (pi_tup ha) fun σ H R ⟨ρ, ι, st, env, S, ve, p⟩ => ⟨ρ, ι, st, env, S, ve, Post.bind p fun x st1 ι1 H1 v s1 S1 rx p1 => by
  cases x <;> (try exact p1.elim)
  obtain ⟨a, xs, rfl, h, r⟩ := rx
  exact ⟨a, rfl, ⟨xs, h.sq⟩, p1.ok S1 ⟨rfl, fun B0 p e => by
      have hK : X.K = B0.K := congrArg Bs.K e
      rw [hK]; rw [e] at r h; exact ittw h r⟩⟩⟩
theorem pidw_str (ha : PEd X W e da) : PIdw X W tg e (dSigns da) := PI.mono (pi_str ha) fun σ H R ⟨ρ, ι, st, env, S, ve, p⟩ => ⟨ρ, ι, st, env, S, ve, Post.bind p fun x st1 ι1 H1 v s1 S1 rx p1 => by
  cases x <;> (try exact p1.elim)
  cases rx
  exact ⟨_, rfl, p1.ok S1 ⟨rfl, fun B0 p e => itw_free fun _ _ _ => its_ok⟩⟩⟩
theorem pidw_range1 {a : Expr} (hg : Gl X "range") (hm : X.mg "range" = none) (ha : PAd X W [a] ds) (hs : starEach [a] X.env = [(false, eval a X.env)] := by rfl) : PIdw X W tg (.Call (.Name "range" p) [a] [] pos) (dRange1 ds) :=
  PI.mono (pi_range1 hg hm ha hs) fun σ H R ⟨ρ, ι, st, env, S, ve, p⟩ => ⟨ρ, ι, st, env, S, ve, Post.bind p fun xs st1 ι1 H1 v s1 S1 rx p1 => by
    split at p1
    · rename_i j
      split at p1
      · rename_i hb
        obtain ⟨v, rfl, h⟩ := vr1 rx
        cases h
        exact ⟨j, rfl, (rg62_of hb).1, (rg62_of hb).2, p1.ok S1 ⟨rfl, fun B0 p e => itw_free fun _ _ _ => itr_ok⟩⟩
      · exact p1.elim
    · exact p1.elim⟩
end
theorem VEnv.scr {K : PySem.W.Frag} {mg : Str → Option Value} {ρ : List Addr} {p : Addr} {H : Hp} {ι : List Addr} {env : Env} {σ : L2.St} {o : HO} (h : VEnv ⟨K, mg, p :: ρ⟩ H ι env σ) : VEnv ⟨K, mg, p :: ρ⟩ (upd H p o) ι env σ :=
  ⟨h.1, fun i d e => let ⟨v, a, b⟩ := h.2 i d e; ⟨v, a, VR.scr (B := ⟨K, mg, ρ⟩) b⟩⟩
theorem lc2_read {K : PySem.W.Frag} {mg : Str → Option Value} {W : WX} {g g1 : DG} {G G1 : TG} {ix ix1 vs vs1 : List Nat} {t t1 : DT} {de : DE} {di di1 : DI} (gs : GS K mg G ix g) (hix : ∀ j ∈ ix, j ∈ vs) (gs1 : GS K mg G1 ix1 g1) (hix1 : ∀ j ∈ ix1, j ∈ vs1)
    {σ : L2.St} {H : Hp} {Q : VK} (h : tG K mg relL W (dLc2 di g t di1 g1 t1 de vs vs1) σ H Q) :
    tLc2 (tG K mg relI W di) G (tG K mg relB W0 t) (tG K mg relIw W0 di1) G1 (tG K mg relB W0 t1) (tG K mg relV W0 de) vs vs1 σ H Q := by
  obtain ⟨ρ, ι, st, env, S, ve, p⟩ := h
  refine ⟨ρ, ι, st, env, S, ve, Post.bind0 p fun a st1 ι1 H1 J s1 S1 rx p1 => ?_⟩
  obtain ⟨ds, keep⟩ := a
  obtain ⟨io, k0⟩ := rx
  intro Dd hD
  by_cases hz : ds.length ≤ midLine
  case neg => simp only [hz, if_false] at p1; exact p1.elim
  simp only [hz, if_true] at p1
  have hz' : ds.length ≤ 1000 := hz
  have m1 : Dd ∉ ι1 := S1.fresh hD
  have hρ : Dd ∉ ρ := S1.fr hD
  have fine : Fine H1 ρ (Dd :: ρ) := fun a ha => by
    rcases List.mem_cons.mp ha with z | z
    · subst z; exact .inr hD
    · exact .inl z
  have hD0 : NoH H Dd ∧ Dd ∉ ι := by
    have m0 : Dd ∉ ι := fun z => m1 (s1.mem z)
    exact ⟨NoH.back s1 m0 (noH hD), m0⟩
  refine ⟨fun i m H' => i + m = ds.length ∧ ∃ ι' st' acc vs', Step ι1 H1 ι' H' ∧ Sim ((⟨K, mg, ρ⟩ : Bs).more Dd) H' ι' st' ∧ H' Dd = some (.lst vs') ∧ VRs ((⟨K, mg, ρ⟩ : Bs).more Dd) H' ι' acc vs' ∧ acc.length ≤ i * 1000 ∧
      Post ⟨K, mg, ρ⟩ relL W σ ι H ((lcLoop2 g t di1 g1 t1 de vs1 keep (wipeE vs env) (ds.drop i) st').bind fun ys st => .ok (acc ++ ys) st) Q,
    ⟨ds.length, by omega, ι1, st1, [], [], Step.new S1 hD, S1.reserve hD, upd_same, rfl, Nat.zero_le _, Post.ok_id p1⟩, ?_⟩
  rintro i m H' ⟨em, ι', st', acc, vs', s', S', hl, ra, la, p'⟩
  have ve0 : VEnv ((⟨K, mg, ρ⟩ : Bs).more Dd) H' ι' (wipeE vs env) (wipe σ vs) := VEnv.wipe (VEnv.step s' (VEnv.fine (K := K) (mg := mg) fine (ve.step s1)))
  by_cases hi : i < ds.length
  · rw [List.drop_eq_getElem_cons hi] at p'
    unfold lcLoop2 at p'
    by_cases hk : keep st' = true
    case neg => simp only [hk, if_false] at p'; exact p'.elim
    simp only [hk, if_true] at p'
    refine .inr ⟨io.go (Dd :: ρ) i ι' H' st' fine s' S' hk hi, fun H2 => ∃ ι2 st2 acc2 vs2, Step ι1 H1 ι2 H2 ∧ Sim ((⟨K, mg, ρ⟩ : Bs).more Dd) H2 ι2 st2 ∧ H2 Dd = some (.lst vs2) ∧ VRs ((⟨K, mg, ρ⟩ : Bs).more Dd) H2 ι2 acc2 vs2 ∧ acc2.length ≤ (i + 1) * 1000 ∧
      Post ⟨K, mg, ρ⟩ relL W σ ι H ((lcLoop2 g t di1 g1 t1 de vs1 keep (wipeE vs env) (ds.drop (i + 1)) st2).bind fun ys st => .ok (acc2 ++ ys) st) Q,
      fun H2 ⟨ι2, st2, acc2, vs2, s2, S2, h2, r2, l2, p2⟩ => ⟨m - 1, by omega, by omega, ι2, st2, acc2, vs2, s2, S2, h2, r2, l2, p2⟩, fun x H'' hy => ?_⟩
    obtain ⟨s3, S3, vr⟩ := io.yld (Dd :: ρ) i ds[i] ι' H' st' x H'' fine s' S' hk (List.getElem?_eq_getElem hi) hy
    have S3 : Sim ⟨K, mg, Dd :: ρ⟩ H'' ι' st' := S3
    have mD : Dd ∉ ι' := (S'.rs Dd List.mem_cons_self).2
    have hl3 : H'' Dd = some (.lst vs') := s3.rest _ _ mD hl
    cases q : g ds[i] (wipeE vs env) with
    | none => rw [q] at p'; exact p'.elim
    | some env1 =>
      rw [q] at p'
      simp only [] at p'
      refine gs S3 (ve0.step s3) vr q fun σ4 ve4 off => ⟨wipe_off off hix, Dd :: ρ, ι', st', env1, S3, ve4, ?_⟩
      cases q2 : t env1 st' with
      | bad => rw [q2] at p'; exact p'.elim
      | exc y st2 => rw [q2] at p'; exact p'.elim
      | ok b st2 =>
        rw [q2] at p'
        intro ι5 H5 b' s5 S5 eb
        cases eb
        have s15 := (s'.trans s3).trans s5
        cases b with
        | false =>
          exact iteF ⟨ι5, st2, acc, vs', s15, S5, s5.rest _ _ mD hl3, (ra.step s3).step s5, by omega, p'⟩
        | true =>
          refine iteT ⟨Dd :: ρ, ι5, st2, env1, S5, ve4.step s5, ?_⟩
          simp only [] at p'
          cases q3 : di1 env1 st2 with
          | bad => rw [q3] at p'; exact p'.elim
          | exc y st3 => rw [q3] at p'; exact p'.elim
          | ok a st3 =>
            rw [q3] at p'
            obtain ⟨ds1, keep1⟩ := a
            intro ι6 H6 J1 s6 S6 rx1
            obtain ⟨k1, io1⟩ := rx1
            obtain ⟨Ok, iw, ok6⟩ := io1 ⟨K, mg, ρ⟩ Dd rfl
            simp only [] at p'
            by_cases hz1 : ds1.length ≤ midLine
            case neg => simp only [hz1, if_false] at p'; exact p'.elim
            simp only [hz1, if_true] at p'
            have hz1' : ds1.length ≤ 1000 := hz1
            have m5 : Dd ∉ ι5 := (S5.rs Dd List.mem_cons_self).2
            have S6 : Sim ⟨K, mg, Dd :: ρ⟩ H6 ι6 st3 := S6
            have hl6 : H6 Dd = some (.lst vs') := s6.rest _ _ m5 (s5.rest _ _ mD hl3)
            have ra6 := ((ra.step s3).step s5).step s6
            have s16 := s15.trans s6
            have ve6 : VEnv ⟨K, mg, Dd :: ρ⟩ H6 ι6 env1 σ4 := (ve4.step s5).step s6
            refine ⟨fun j k H' => j + k = ds1.length ∧ ∃ ι' st' acc vs', (Ok ι' H' ∧ VEnv ⟨K, mg, Dd :: ρ⟩ H' ι' env1 σ4) ∧ Step ι1 H1 ι' H' ∧ Sim ⟨K, mg, Dd :: ρ⟩ H' ι' st' ∧ H' Dd = some (.lst vs') ∧ VRs ((⟨K, mg, ρ⟩ : Bs).more Dd) H' ι' acc vs' ∧ acc.length ≤ i * 1000 + j ∧
                Post ⟨K, mg, ρ⟩ relL W σ ι H ((lcLoop g1 t1 de keep1 (wipeE vs1 env1) (ds1.drop j) st').bind fun ys st3 => (lcLoop2 g t di1 g1 t1 de vs1 keep (wipeE vs env) (ds.drop (i + 1)) st3).bind fun zs st4 => .ok (acc ++ (ys ++ zs)) st4) Q,
              ⟨ds1.length, by omega, ι6, st3, acc, vs', ⟨ok6, ve6⟩, s16, S6, hl6, ra6, by omega, by simpa only [bind_assoc, Res.bind_ok, List.drop_zero] using p'⟩, ?_⟩
            rintro j k H7 ⟨ek, ι7, st7, acc7, vs7, ⟨ok7, vv7⟩, s17, S7, hl7, ra7, la7, p7⟩
            have ve7 : VEnv ⟨K, mg, Dd :: ρ⟩ H7 ι7 (wipeE vs1 env1) (wipe σ4 vs1) := VEnv.wipe vv7
            by_cases hj : j < ds1.length
            · rw [List.drop_eq_getElem_cons hj] at p7
              unfold lcLoop at p7
              by_cases hk1 : keep1 st7 = true
              case neg => simp only [hk1, if_false] at p7; exact p7.elim
              simp only [hk1, if_true] at p7
              refine .inr ⟨iw.go j ι7 H7 st7 ok7 S7 hk1 hj, fun H2 => ∃ ι2 st2 acc2 vs2, (Ok ι2 H2 ∧ VEnv ⟨K, mg, Dd :: ρ⟩ H2 ι2 env1 σ4) ∧ Step ι1 H1 ι2 H2 ∧ Sim ⟨K, mg, Dd :: ρ⟩ H2 ι2 st2 ∧ H2 Dd = some (.lst vs2) ∧ VRs ((⟨K, mg, ρ⟩ : Bs).more Dd) H2 ι2 acc2 vs2 ∧ acc2.length ≤ i * 1000 + (j + 1) ∧
                Post ⟨K, mg, ρ⟩ relL W σ ι H ((lcLoop g1 t1 de keep1 (wipeE vs1 env1) (ds1.drop (j + 1)) st2).bind fun ys st3 => (lcLoop2 g t di1 g1 t1 de vs1 keep (wipeE vs env) (ds.drop (i + 1)) st3).bind fun zs st4 => .ok (acc2 ++ (ys ++ zs)) st4) Q,
                fun H2 ⟨ι2, st2, acc2, vs2, s2, s2', S2, h2, r2, l2, p2⟩ => ⟨k - 1, by omega, by omega, ι2, st2, acc2, vs2, s2, s2', S2, h2, r2, l2, p2⟩, fun x8 H8 hy8 => ?_⟩
              obtain ⟨s8, S8, vr8⟩ := iw.yld j ds1[j] ι7 H7 st7 x8 H8 ok7 S7 hk1 (List.getElem?_eq_getElem hj) hy8
              have S8 : Sim ⟨K, mg, Dd :: ρ⟩ H8 ι7 st7 := S8
              have mD7 : Dd ∉ ι7 := (S7.rs Dd List.mem_cons_self).2
              have hl8 : H8 Dd = some (.lst vs7) := s8.rest _ _ mD7 hl7
              cases q8 : g1 ds1[j] (wipeE vs1 env1) with
              | none => rw [q8] at p7; exact p7.elim
              | some env8 =>
                rw [q8] at p7
                simp only [] at p7
                refine gs1 S8 (ve7.step s8) vr8 q8 fun σ9 ve9 off9 => ⟨wipe_off off9 hix1, Dd :: ρ, ι7, st7, env8, S8, ve9, ?_⟩
                cases q9 : t1 env8 st7 with
                | bad => rw [q9] at p7; exact p7.elim
                | exc y st2 => rw [q9] at p7; exact p7.elim
                | ok b st9 =>
                  rw [q9] at p7
                  intro ι9 H9 b9 s9 S9 eb9
                  cases eb9
                  have ok9 := iw.st _ _ _ _ (iw.st _ _ _ _ ok7 s8) s9
                  have vv9 : VEnv ⟨K, mg, Dd :: ρ⟩ H9 ι9 env1 σ4 := (vv7.step s8).step s9
                  have s19 := (s17.trans s8).trans s9
                  cases b with
                  | false => exact iteF ⟨ι9, st9, acc7, vs7, ⟨ok9, vv9⟩, s19, S9, s9.rest _ _ mD7 hl8, (ra7.step s8).step s9, by omega, p7⟩
                  | true =>
                    refine iteT ⟨Dd :: ρ, ι9, st9, env8, S9, ve9.step s9, ?_⟩
                    simp only [] at p7
                    cases q10 : de env8 st9 with
                    | bad => rw [q10] at p7; exact p7.elim
                    | exc y st3 => rw [q10] at p7; exact p7.elim
                    | ok y st10 =>
                      rw [q10] at p7
                      intro ι10 H10 v10 s10 S10 r10
                      have m9 : Dd ∉ ι9 := (S9.rs Dd List.mem_cons_self).2
                      have hl10 : H10 Dd = some (.lst vs7) := s10.rest _ _ m9 (s9.rest _ _ mD7 hl8)
                      have ra10 := ((ra7.step s8).step s9).step s10
                      have lv := ra10.length
                      have S10 : Sim ((⟨K, mg, ρ⟩ : Bs).more Dd) H10 ι10 st10 := S10
                      refine ⟨vs7, hl10, mid_lt (i := i) (j := j) (by omega) (by omega) (by omega), ι10, st10, acc7 ++ [y], vs7 ++ [v10], ⟨iw.sc _ _ _ (iw.st _ _ _ _ ok9 s10), VEnv.scr (vv9.step s10)⟩, (s19.trans s10).scr hD, S10.scr, upd_same, (ra10.append (VRs.one (B := (⟨K, mg, ρ⟩ : Bs).more Dd) r10)).scr, by simp; omega, ?_⟩
                      · simp only [bind_assoc, Res.bind_ok] at p7
                        simpa only [List.append_assoc, List.singleton_append, List.cons_append, List.nil_append] using p7
            · have e : ds1.drop j = [] := List.drop_eq_nil_of_le (by omega)
              rw [e] at p7
              unfold lcLoop at p7
              by_cases hk1 : keep1 st7 = true
              case neg => simp only [hk1, if_false] at p7; exact p7.elim
              simp only [hk1, if_true, Res.bind_ok, List.nil_append] at p7
              exact .inl ⟨iw.stop j ι7 H7 st7 ok7 S7 hk1 (Nat.le_of_not_lt hj), ι7, st7, acc7, vs7, s17, S7, hl7, ra7, by omega, p7⟩
  · have e : ds.drop i = [] := List.drop_eq_nil_of_le (by omega)
    rw [e] at p'
    unfold lcLoop2 at p'
    by_cases hk : keep st' = true
    case neg => simp only [hk, if_false] at p'; exact p'.elim
    simp only [hk, if_true, Res.bind_ok, List.append_nil] at p'
    refine .inl ⟨io.stop (Dd :: ρ) i ι' H' st' fine s' S' hk (Nat.le_of_not_lt hi), ?_⟩
    exact p' ι' H' (.ref Dd) (s1.trans s') S'.less ⟨Dd, vs', rfl, hl, hD0.1, hD0.2, hρ, ra, S'⟩
section
variable {X : Cx} {W : WX} {elt tg iter tg1 iter1 : Expr} {ifs ifs1 : List Expr} {scope : Scope} {own : List (Str × Nat)} {pos spos : Pos} {g g1 : DG} {G G1 : TG} {ix ix1 vs1 ixs : List Nat} {t t1 : DT} {de : DE} {di di1 : DI}
theorem pld_lc2 (hc : X.calm = true) (hN : X.N.Nodup) (hi : PId X W tg iter di) (ok : BlkOk X.N X.env.scope scope own) (hv : ∀ i ∈ vs1, i ∈ own.map (·.2)) (gs : GS X.K X.mg G ix g) (hix : ∀ j ∈ ix, j ∈ own.map (·.2)) (gs1 : GS X.K X.mg G1 ix1 g1) (hix1 : ∀ j ∈ ix1, j ∈ vs1)
    (hg : ∀ (s : Shared) (H : Hp) (C : Addr) (cl : List (Str × Addr)) (fp : List Addr), PG (X.blk s H scope (compEnvC scope cl C X.env) fp) tg G) (ht : ∀ (s : Shared) (H : Hp) (C : Addr) (cl : List (Str × Addr)) (fp : List Addr), PTsd (X.blk s H scope (compEnvC scope cl C X.env) fp) W0 ifs t)
    (hi1 : ∀ (s : Shared) (H : Hp) (C : Addr) (cl : List (Str × Addr)) (fp : List Addr), PIdw (X.blk s H scope (compEnvC scope cl C X.env) fp) W0 tg1 iter1 di1)
    (hg1 : ∀ (s : Shared) (H : Hp) (C : Addr) (cl : List (Str × Addr)) (fp : List Addr), PG (X.blk s H scope (compEnvC scope cl C X.env) fp) tg1 G1) (ht1 : ∀ (s : Shared) (H : Hp) (C : Addr) (cl : List (Str × Addr)) (fp : List Addr), PTsd (X.blk s H scope (compEnvC scope cl C X.env) fp) W0 ifs1 t1)
    (he : ∀ (s : Shared) (H : Hp) (C : Addr) (cl : List (Str × Addr)) (fp : List Addr), PEd (X.blk s H scope (compEnvC scope cl C X.env) fp) W0 elt de) (hox : own.map (·.2) = ixs := by rfl) (hs : ∀ x, foldedSetIterable iter X.env x = pure x := by intro _; rfl) (hs1 : ∀ env x, foldedSetIterable iter1 env x = pure x := by intro _ _; rfl) :
    PLd X W (.ListComp elt [⟨tg, iter, ifs, 0⟩, ⟨tg1, iter1, ifs1, 0⟩] scope pos) (dLc2 di g t di1 g1 t1 de ixs vs1) := by
  subst hox
  exact PE.mono (pe_lc2 (wi := tG X.K X.mg relI W di) (wi1 := tG X.K X.mg relIw W0 di1) (tt := tG X.K X.mg relB W0 t) (tt1 := tG X.K X.mg relB W0 t1) (te := tG X.K X.mg relV W0 de) hc hN hi ok hv hg ht hi1 hg1 ht1 he hs hs1) fun _ _ _ h => lc2_read gs hix gs1 hix1 h
theorem psd_setLc2Fz0 {i : Nat} {y : Str} {py : Pos} (hy : X.N[i]? = some y) (hyl : X.env.scope.names.lookup y = some .local) (hsw : swapsWith (.ListComp elt [⟨tg, iter, ifs, 0⟩, ⟨tg1, iter1, ifs1, 0⟩] scope pos) (some (.Name y py)) spos.line X.env = pure true)
    (hc : X.calm = true) (hN : X.N.Nodup) (hi : PId X W tg iter di) (ok : BlkOk X.N X.env.scope scope own) (hv : ∀ i ∈ vs1, i ∈ own.map (·.2)) (gs : GS X.K X.mg G ix g) (hix : ∀ j ∈ ix, j ∈ own.map (·.2)) (gs1 : GS X.K X.mg G1 ix1 g1) (hix1 : ∀ j ∈ ix1, j ∈ vs1)
    (hg : ∀ (s : Shared) (H : Hp) (C : Addr) (cl : List (Str × Addr)) (fp : List Addr), PG (X.blk s H scope (compEnvC scope cl C X.env) fp) tg G) (ht : ∀ (s : Shared) (H : Hp) (C : Addr) (cl : List (Str × Addr)) (fp : List Addr), PTsd (X.blk s H scope (compEnvC scope cl C X.env) fp) W0 ifs t)
    (hi1 : ∀ (s : Shared) (H : Hp) (C : Addr) (cl : List (Str × Addr)) (fp : List Addr), PIdw (X.blk s H scope (compEnvC scope cl C X.env) fp) W0 tg1 iter1 di1)
    (hg1 : ∀ (s : Shared) (H : Hp) (C : Addr) (cl : List (Str × Addr)) (fp : List Addr), PG (X.blk s H scope (compEnvC scope cl C X.env) fp) tg1 G1) (ht1 : ∀ (s : Shared) (H : Hp) (C : Addr) (cl : List (Str × Addr)) (fp : List Addr), PTsd (X.blk s H scope (compEnvC scope cl C X.env) fp) W0 ifs1 t1)
    (he : ∀ (s : Shared) (H : Hp) (C : Addr) (cl : List (Str × Addr)) (fp : List Addr), PEd (X.blk s H scope (compEnvC scope cl C X.env) fp) W0 elt de) (hs : ∀ x, foldedSetIterable iter X.env x = pure x := by intro _; rfl) (hs1 : ∀ env x, foldedSetIterable iter1 env x = pure x := by intro _ _; rfl) :
    PSd X W (.Assign [.Name y py] (.ListComp elt [⟨tg, iter, ifs, 0⟩, ⟨tg1, iter1, ifs1, 0⟩] scope pos) spos) (dSet i (dFz (dLc2 di g t di1 g1 t1 de (own.map (·.2)) vs1))) :=
  PS.mono (ps_setLc2 (i := i) (wi := tG X.K X.mg relI W di) (wi1 := tG X.K X.mg relIw W0 di1) (tt := tG X.K X.mg relB W0 t) (tt1 := tG X.K X.mg relB W0 t1) (te := tG X.K X.mg relV W0 de) hc hN hy hyl hsw hi ok hv hg ht hi1 hg1 ht1 he hs hs1) fun E σ H ⟨ρ, ι, st, env, S, ve, p⟩ => lc2_read gs hix gs1 hix1 ⟨ρ, ι, st, env, S, ve, by
    have p : PostS ⟨X.K, X.mg, ρ⟩ W E σ ι H ((dFz (dLc2 di g t di1 g1 t1 de (own.map (·.2)) vs1) env st).bindS env fun x st1 => .nx (env.set i (some x)) st1) := p
    unfold dFz at p
    cases q : dLc2 di g t di1 g1 t1 de (own.map (·.2)) vs1 env st with
    | bad => rw [q] at p; exact p.elim
    | exc x st1 => rw [q] at p; exact fun ι1 H1 c d s S1 ex => p ι1 H1 σ c d s S1 (ve.step s) ex
    | ok xs st1 =>
      rw [q] at p
      intro ι1 H1 v s S1 rx
      obtain ⟨a, ys, rfl, h1, h2, m, m', r, S2⟩ := rx
      exact p ι1 H1 _ s S1 (VEnv.set (d := .fz xs) (ve.step s) ⟨a, ys, rfl, h1, ⟨(S2.rs a List.mem_cons_self).2, m'⟩, r.less.1⟩)⟩
theorem psd_setLc2Fz {i : Nat} {y : Str} {py : Pos} (hy : X.N[i]? = some y) (hyl : X.env.scope.names.lookup y = some .local) (hsw : swapsWith (.ListComp elt [⟨tg, iter, ifs, 0⟩, ⟨tg1, iter1, ifs1, 0⟩] scope pos) (some (.Name y py)) spos.line X.env = pure true)
    (hc : X.calm = true) (hN : X.N.Nodup) (hi : PId X W tg iter di) (ok : BlkOk X.N X.env.scope scope own) (hv : ∀ i ∈ vs1, i ∈ own.map (·.2)) (gs : GS X.K X.mg G ix g) (hix : ∀ j ∈ ix, j ∈ own.map (·.2)) (gs1 : GS X.K X.mg G1 ix1 g1) (hix1 : ∀ j ∈ ix1, j ∈ vs1)
    (hg : ∀ (s : Shared) (H : Hp) (C : Addr) (cl : List (Str × Addr)) (fp : List Addr), PG (X.blk s H scope (compEnvC scope cl C X.env) fp) tg G) (ht : ∀ (s : Shared) (H : Hp) (C : Addr) (cl : List (Str × Addr)) (fp : List Addr), PTsd (X.blk s H scope (compEnvC scope cl C X.env) fp) W0 ifs t)
    (hi1 : ∀ (s : Shared) (H : Hp) (C : Addr) (cl : List (Str × Addr)) (fp : List Addr), PIdw (X.blk s H scope (compEnvC scope cl C X.env) fp) W0 tg1 iter1 di1)
    (hg1 : ∀ (s : Shared) (H : Hp) (C : Addr) (cl : List (Str × Addr)) (fp : List Addr), PG (X.blk s H scope (compEnvC scope cl C X.env) fp) tg1 G1) (ht1 : ∀ (s : Shared) (H : Hp) (C : Addr) (cl : List (Str × Addr)) (fp : List Addr), PTsd (X.blk s H scope (compEnvC scope cl C X.env) fp) W0 ifs1 t1)
    (he : ∀ (s : Shared) (H : Hp) (C : Addr) (cl : List (Str × Addr)) (fp : List Addr), PEd (X.blk s H scope (compEnvC scope cl C X.env) fp) W0 elt de) (hox : own.map (·.2) = ixs := by rfl) (hs : ∀ x, foldedSetIterable iter X.env x = pure x := by intro _; rfl) (hs1 : ∀ env x, foldedSetIterable iter1 env x = pure x := by intro _ _; rfl) :
    PSd X W (.Assign [.Name y py] (.ListComp elt [⟨tg, iter, ifs, 0⟩, ⟨tg1, iter1, ifs1, 0⟩] scope pos) spos) (dSet i (dFz (dLc2 di g t di1 g1 t1 de ixs vs1))) := by
  subst hox
  exact psd_setLc2Fz0 hy hyl hsw hc hN hi ok hv gs hix gs1 hix1 hg ht hi1 hg1 ht1 he hs hs1
theorem psd_setLc2New0 {i : Nat} {y : Str} {py : Pos} (hy : X.N[i]? = some y) (hyl : X.env.scope.names.lookup y = some .local) (hsw : swapsWith (.ListComp elt [⟨tg, iter, ifs, 0⟩, ⟨tg1, iter1, ifs1, 0⟩] scope pos) (some (.Name y py)) spos.line X.env = pure true)
    (hc : X.calm = true) (hN : X.N.Nodup) (hi : PId X W tg iter di) (ok : BlkOk X.N X.env.scope scope own) (hv : ∀ i ∈ vs1, i ∈ own.map (·.2)) (gs : GS X.K X.mg G ix g) (hix : ∀ j ∈ ix, j ∈ own.map (·.2)) (gs1 : GS X.K X.mg G1 ix1 g1) (hix1 : ∀ j ∈ ix1, j ∈ vs1)
    (hg : ∀ (s : Shared) (H : Hp) (C : Addr) (cl : List (Str × Addr)) (fp : List Addr), PG (X.blk s H scope (compEnvC scope cl C X.env) fp) tg G) (ht : ∀ (s : Shared) (H : Hp) (C : Addr) (cl : List (Str × Addr)) (fp : List Addr), PTsd (X.blk s H scope (compEnvC scope cl C X.env) fp) W0 ifs t)
    (hi1 : ∀ (s : Shared) (H : Hp) (C : Addr) (cl : List (Str × Addr)) (fp : List Addr), PIdw (X.blk s H scope (compEnvC scope cl C X.env) fp) W0 tg1 iter1 di1)
    (hg1 : ∀ (s : Shared) (H : Hp) (C : Addr) (cl : List (Str × Addr)) (fp : List Addr), PG (X.blk s H scope (compEnvC scope cl C X.env) fp) tg1 G1) (ht1 : ∀ (s : Shared) (H : Hp) (C : Addr) (cl : List (Str × Addr)) (fp : List Addr), PTsd (X.blk s H scope (compEnvC scope cl C X.env) fp) W0 ifs1 t1)
    (he : ∀ (s : Shared) (H : Hp) (C : Addr) (cl : List (Str × Addr)) (fp : List Addr), PEd (X.blk s H scope (compEnvC scope cl C X.env) fp) W0 elt de) (hs : ∀ x, foldedSetIterable iter X.env x = pure x := by intro _; rfl) (hs1 : ∀ env x, foldedSetIterable iter1 env x = pure x := by intro _ _; rfl) :
    PSd X W (.Assign [.Name y py] (.ListComp elt [⟨tg, iter, ifs, 0⟩, ⟨tg1, iter1, ifs1, 0⟩] scope pos) spos) (dSet i (dNew (dLc2 di g t di1 g1 t1 de (own.map (·.2)) vs1))) :=
  PS.mono (ps_setLc2 (i := i) (wi := tG X.K X.mg relI W di) (wi1 := tG X.K X.mg relIw W0 di1) (tt := tG X.K X.mg relB W0 t) (tt1 := tG X.K X.mg relB W0 t1) (te := tG X.K X.mg relV W0 de) hc hN hy hyl hsw hi ok hv hg ht hi1 hg1 ht1 he hs hs1) fun E σ H ⟨ρ, ι, st, env, S, ve, p⟩ => lc2_read gs hix gs1 hix1 ⟨ρ, ι, st, env, S, ve, by
    have p : PostS ⟨X.K, X.mg, ρ⟩ W E σ ι H ((dNew (dLc2 di g t di1 g1 t1 de (own.map (·.2)) vs1) env st).bindS env fun x st1 => .nx (env.set i (some x)) st1) := p
    unfold dNew at p
    cases q : dLc2 di g t di1 g1 t1 de (own.map (·.2)) vs1 env st with
    | bad => rw [q] at p; exact p.elim
    | exc x st1 => rw [q] at p; exact fun ι1 H1 c d s S1 ex => p ι1 H1 σ c d s S1 (ve.step s) ex
    | ok xs st1 =>
      rw [q] at p
      intro ι1 H1 v s S1 rx
      obtain ⟨a, ys, rfl, h1, h2, m, m', r, S2⟩ := rx
      obtain ⟨more, e1, f1⟩ := id s.pre
      have sT : Step ι H (ι1 ++ [a]) H1 := ⟨⟨more ++ [a], by rw [e1, List.append_assoc], fun b hb => by
        rcases List.mem_append.mp hb with z | z
        · exact f1 b z
        · have : b = a := by simpa using z
          subst this
          exact ⟨h2, m⟩⟩, s.rest0⟩
      exact p (ι1 ++ [a]) H1 _ sT (S2.take m' h1 r) (VEnv.set (d := .ref st1.length) (ve.step sT) ⟨a, by rw [← S1.len, List.getElem?_append_right (by omega)]; simp, rfl⟩)⟩
theorem psd_setLc2New {i : Nat} {y : Str} {py : Pos} (hy : X.N[i]? = some y) (hyl : X.env.scope.names.lookup y = some .local) (hsw : swapsWith (.ListComp elt [⟨tg, iter, ifs, 0⟩, ⟨tg1, iter1, ifs1, 0⟩] scope pos) (some (.Name y py)) spos.line X.env = pure true)
    (hc : X.calm = true) (hN : X.N.Nodup) (hi : PId X W tg iter di) (ok : BlkOk X.N X.env.scope scope own) (hv : ∀ i ∈ vs1, i ∈ own.map (·.2)) (gs : GS X.K X.mg G ix g) (hix : ∀ j ∈ ix, j ∈ own.map (·.2)) (gs1 : GS X.K X.mg G1 ix1 g1) (hix1 : ∀ j ∈ ix1, j ∈ vs1)
    (hg : ∀ (s : Shared) (H : Hp) (C : Addr) (cl : List (Str × Addr)) (fp : List Addr), PG (X.blk s H scope (compEnvC scope cl C X.env) fp) tg G) (ht : ∀ (s : Shared) (H : Hp) (C : Addr) (cl : List (Str × Addr)) (fp : List Addr), PTsd (X.blk s H scope (compEnvC scope cl C X.env) fp) W0 ifs t)
    (hi1 : ∀ (s : Shared) (H : Hp) (C : Addr) (cl : List (Str × Addr)) (fp : List Addr), PIdw (X.blk s H scope (compEnvC scope cl C X.env) fp) W0 tg1 iter1 di1)
    (hg1 : ∀ (s : Shared) (H : Hp) (C : Addr) (cl : List (Str × Addr)) (fp : List Addr), PG (X.blk s H scope (compEnvC scope cl C X.env) fp) tg1 G1) (ht1 : ∀ (s : Shared) (H : Hp) (C : Addr) (cl : List (Str × Addr)) (fp : List Addr), PTsd (X.blk s H scope (compEnvC scope cl C X.env) fp) W0 ifs1 t1)
    (he : ∀ (s : Shared) (H : Hp) (C : Addr) (cl : List (Str × Addr)) (fp : List Addr), PEd (X.blk s H scope (compEnvC scope cl C X.env) fp) W0 elt de) (hox : own.map (·.2) = ixs := by rfl) (hs : ∀ x, foldedSetIterable iter X.env x = pure x := by intro _; rfl) (hs1 : ∀ env x, foldedSetIterable iter1 env x = pure x := by intro _ _; rfl) :
    PSd X W (.Assign [.Name y py] (.ListComp elt [⟨tg, iter, ifs, 0⟩, ⟨tg1, iter1, ifs1, 0⟩] scope pos) spos) (dSet i (dNew (dLc2 di g t di1 g1 t1 de ixs vs1))) := by
  subst hox
  exact psd_setLc2New0 hy hyl hsw hc hN hi ok hv gs hix gs1 hix1 hg ht hi1 hg1 ht1 he hs hs1
end
end DD

/-! DD19: sorted of texts and of ints, any number of them. -/
namespace DD
open PySem L2 PyProof.Rows
variable [NMs]
theorem perm_sorted_eq {α : Type} {le : α → α → Prop} (anti : ∀ a b, le a b → le b a → a = b) : ∀ {l1 l2 : List α}, l1.Perm l2 → l1.Pairwise le → l2.Pairwise le → l1 = l2
  | [], l2, p, _, _ => p.nil_eq
  | a :: r1, [], p, _, _ => absurd p.length_eq (by simp)
  | a :: r1, b :: r2, p, h1, h2 => by
    have e : a = b := by
      have h1' := List.pairwise_cons.mp h1
      have h2' := List.pairwise_cons.mp h2
      rcases List.mem_cons.mp (p.mem_iff.mp List.mem_cons_self : a ∈ b :: r2) with z | z
      · exact z
      · rcases List.mem_cons.mp (p.mem_iff.mpr List.mem_cons_self : b ∈ a :: r1) with y | y
        · exact y.symm
        · exact anti a b (h1'.1 b y) (h2'.1 a z)
    subst e
    rw [perm_sorted_eq anti (List.Perm.cons_inv p) (List.pairwise_cons.mp h1).2 (List.pairwise_cons.mp h2).2]
def leS (a b : Str) : Prop := ¬ b.cps.toList < a.cps.toList
instance : DecidableRel leS := fun _ _ => inferInstanceAs (Decidable (¬ _))
theorem leS_anti (a b : Str) (h1 : leS a b) (h2 : leS b a) : a = b := by
  have e : a.cps.toList = b.cps.toList := List.le_antisymm (List.not_lt.mp h1) (List.not_lt.mp h2)
  cases a; cases b
  simp only [Str.mk.injEq]
  exact Array.toList_inj.mp e
theorem leS_trans (a b c : Str) (h1 : leS a b) (h2 : leS b c) : leS a c := List.not_lt.mpr (List.le_trans (List.not_lt.mp h1) (List.not_lt.mp h2))
theorem leS_total (a b : Str) : leS a b ∨ leS b a := by
  rcases List.le_total a.cps.toList b.cps.toList with h | h
  · exact .inl (List.not_lt.mpr h)
  · exact .inr (List.not_lt.mpr h)
def sortS (l : List Str) : List Str := l.mergeSort fun a b => decide (leS a b)
theorem sortS_perm (l : List Str) : (sortS l).Perm l := List.mergeSort_perm _ _
theorem sortS_sorted (l : List Str) : (sortS l).Pairwise leS := by
  have := List.pairwise_mergeSort (le := fun a b => decide (leS a b)) (fun a b c h1 h2 => decide_eq_true (leS_trans a b c (of_decide_eq_true h1) (of_decide_eq_true h2))) (fun a b => by
    rcases leS_total a b with h | h
    · simp [h]
    · simp [h]) l
  exact this.imp fun h => of_decide_eq_true h
theorem sortS_eq {l ys : List Str} (p : ys.Perm l) (h : ys.Pairwise leS) : ys = sortS l := perm_sorted_eq leS_anti (p.trans (sortS_perm l).symm) h (sortS_sorted l)
def sortI (l : List Int) : List Int := l.mergeSort fun a b => decide (a ≤ b)
theorem sortI_perm (l : List Int) : (sortI l).Perm l := List.mergeSort_perm _ _
theorem sortI_sorted (l : List Int) : (sortI l).Pairwise (· ≤ ·) := by
  have := List.pairwise_mergeSort (le := fun a b : Int => decide (a ≤ b)) (fun a b c h1 h2 => by simp at *; omega) (fun a b => by simp; omega) l
  exact this.imp fun h => of_decide_eq_true h
theorem sortI_eq {l ys : List Int} (p : ys.Perm l) (h : ys.Pairwise (· ≤ ·)) : ys = sortI l := perm_sorted_eq (fun a b h1 h2 => Int.le_antisymm h1 h2) (p.trans (sortI_perm l).symm) h (sortI_sorted l)
end DD
namespace SrtO
open PySem PyProof.Rows Srt
section
variable {prog : Program} {w : World} {A : Around} {E : Value → Shared → Prop} {s : Shared}
def sv : Value → PySem.Str
  | .str x _ => x
  | _ => ⟨#[]⟩
def ltSv (v u : Value) : Bool := decide ((sv v).cps.toList < (sv u).cps.toList)
theorem swo_str : Swo ltSv := by
  refine ⟨fun x y h => ?_, fun x y z h1 h2 => ?_⟩
  · exact decide_eq_false (List.lt_asymm (of_decide_eq_true (p := (sv x).cps.toList < (sv y).cps.toList) h))
  · exact decide_eq_false (List.not_lt.mpr (List.le_trans (List.not_lt.mp (of_decide_eq_false (p := (sv y).cps.toList < (sv x).cps.toList) h1)) (List.not_lt.mp (of_decide_eq_false (p := (sv z).cps.toList < (sv y).cps.toList) h2))))
theorem strs_mem : ∀ {vs : List Value} {ns : List PySem.Str}, StrsAre vs ns → ∀ v ∈ vs, ∃ i t, v = Value.str i t
  | _, _, .nil, v, h => absurd h (by simp)
  | _, _, .cons n t r, v, h => by
    rcases List.mem_cons.mp h with e | h
    · exact ⟨n, t, e⟩
    · exact strs_mem r v h
theorem strs_sv : ∀ {vs : List Value}, (∀ v ∈ vs, ∃ i t, v = Value.str i t) → StrsAre vs (vs.map sv)
  | [], _ => .nil
  | v :: vs, h => by
    obtain ⟨i, t, e⟩ := h v List.mem_cons_self
    subst e
    exact .cons i t (strs_sv fun u hu => h u (List.mem_cons_of_mem _ hu))
theorem sv_strs : ∀ {vs : List Value} {ns : List PySem.Str}, StrsAre vs ns → vs.map sv = ns
  | _, _, .nil => rfl
  | _, _, .cons n t r => congrArg (n :: ·) (sv_strs r)
theorem str_cmp {vs : List Value} {ns : List PySem.Str} (hI : StrsAre vs ns) : Cmp prog w A s oneType' (fun p => p.1 ∈ vs) (lt2 ltSv) := by
  intro p q hm hm'
  obtain ⟨a, t, e⟩ := strs_mem hI _ hm
  obtain ⟨b, u, e'⟩ := strs_mem hI _ hm'
  show wpAny (model prog w) A (keyLt' oneType' p.1 q.1) (fun r s' => s' = s ∧ r = ltSv p.1 q.1) (fun _ _ => False) s
  rw [e, e', keyLt'_oneType]
  exact oneLt_str ⟨rfl, rfl⟩
theorem strs_sortable {a : Addr} {vs : List Value} {ns : List PySem.Str} (hI : StrsAre vs ns) (h2 : 2 ≤ vs.length) : SortableO prog w A s a vs ltSv := by
  intro h' _
  refine ⟨oneType', fun Q E hq => ?_, str_cmp hI⟩
  match vs, hI, h2 with
  | v1 :: v2 :: rest, hI, _ =>
    rw [keyKind_strs hI]
    exact wpAny_pure hq
  | [], _, h => exact absurd h (by decide)
  | [v], _, h => exact absurd h (by simp)
theorem strs_out {vs out : List Value} {ns : List PySem.Str} (hI : StrsAre vs ns) (hs : Srtd ltSv out) (hb : Stb ltSv out vs) : StrsAre out (out.map sv) ∧ (out.map sv).Perm ns ∧ (out.map sv).Pairwise DD.leS := by
  refine ⟨strs_sv fun v hv => strs_mem hI v (hb.perm.mem_iff.mp hv), ?_, ?_⟩
  · have q := hb.perm.map sv
    rw [sv_strs hI] at q
    exact q
  · exact List.pairwise_map.mpr (hs.imp fun {x y} h => of_decide_eq_false (p := (sv y).cps.toList < (sv x).cps.toList) h)
end
end SrtO
namespace DD
open PySem L2 PyProof.Rows
variable [NMs]
def rSortedAny (K : PySem.W.Frag) : List V → Hp → VK → Prop := fun vs H Q => ∃ (a : Addr) (xs : List Str), vs = [V.ref a] ∧ SqL K H a (xs.map V.str) ∧
  ∀ p : Addr, H p = none → Q (.ref p) (upd H p (.lst ((sortS xs).map V.str)))
def rSortedAnyI (K : PySem.W.Frag) : List V → Hp → VK → Prop := fun vs H Q => ∃ (a : Addr) (xs : List Int), vs = [V.ref a] ∧ SqL K H a (xs.map V.int) ∧
  ∀ p : Addr, H p = none → Q (.ref p) (upd H p (.lst ((sortI xs).map V.int)))
section
variable {X : Cx}
theorem cr_sortedAnyS : CallR X (.builtin "sorted") (rSortedAny X.K) := by
  intro pins s σ H vs us Q I r h
  obtain ⟨a, ns, rfl, hs, q⟩ := h
  obtain ⟨its, rv, hl, hz⟩ := I.list hs
  rw [Vals.ref1 r]
  have hi := rv.strs
  refine SrtO.sorted_ord SrtO.swo_str hl.isList (by rw [← rv.length]; exact hz) (fun h2 h₁ a' _ _ => SrtO.strs_sortable hi h2) fun out h1 h2 => ?_
  obtain ⟨k1, k2, k3⟩ := SrtO.strs_out hi h1 h2
  obtain ⟨ep, he'⟩ := PyProof.Rows.sortedAll_at s.heap its out.toArray
  have hlen : ((out.map SrtO.sv).map V.str).length ≤ sizeLine := by
    rw [List.length_map, k2.length_eq]
    rw [List.length_map] at hz
    exact hz
  have e := sortS_eq k2 k3
  exact ⟨.ref _, upd H (s.heap.objs.size + 1) (.lst ((out.map SrtO.sv).map V.str)), I.laid (t' := s.toks) (fun _ _ => PyProof.Rows.sortedAll_old) (Nat.le_succ _) ⟨hlen, out, ep, vals_of_strs k1, he'⟩, rfl, by rw [e]; exact q _ (I.hok.fresh (Nat.le_succ _))⟩
theorem cr_sortedAny : CallR X (.builtin "sorted") (fun xs H Q => rSortedAny X.K xs H Q ∨ rSortedAnyI X.K xs H Q) := by
  intro pins s σ H vs us Q I r h
  rcases h with h | h
  · exact cr_sortedAnyS pins s σ H vs us Q I r h
  · obtain ⟨a, ns, e, hs, q⟩ := h
    exact cr_sortedI pins s σ H vs us Q I r ⟨a, ns, e, hs, fun ns' p k1 k2 hp => by rw [sortI_eq k1 k2]; exact q p hp⟩
end
def intsOf : List D → Option (List Int)
  | [] => some []
  | .int b :: r => (intsOf r).map (b :: ·)
  | _ => none
theorem ints_of {B H ι} : ∀ {ds : List D} {bs : List Int} {vs : List V}, intsOf ds = some bs → VRs B H ι ds vs → vs = bs.map V.int
  | [], bs, vs, e, r => by cases e; cases r; rfl
  | d :: ds, bs, vs, e, ⟨x, t, e1, h, r⟩ => by
    subst e1
    cases d <;> (try (cases e))
    rename_i b
    cases h
    have e' : (intsOf ds).map (b :: ·) = some bs := e
    cases q : intsOf ds with
    | none => rw [q] at e'; cases e'
    | some cs => rw [q] at e'; cases e'; rw [ints_of q r]; rfl
theorem vrs_strs {B : Bs} {H : Hp} {ι : List Addr} : ∀ ns : List Str, VRs B H ι (ns.map D.str) (ns.map V.str)
  | [] => rfl
  | n :: r => ⟨_, _, rfl, rfl, vrs_strs r⟩
def lstD : D → Sto → Option (List D)
  | .fz ds, _ => some ds
  | .sc ds, _ => some ds
  | .ref n, st => match st[n]? with
    | some (.lst ds) => some ds
    | _ => none
  | _, _ => none
theorem lst_of {B : Bs} {H ι st} {d : D} {v : V} {ds : List D} (S : Sim B H ι st) (r : VR B H ι d v) (h : lstD d st = some ds) : ∃ a ys, v = .ref a ∧ SqL B.K H a ys ∧ VRs B H ι ds ys := by
  cases d with
  | fz ds => obtain ⟨a, ys, rfl, h1, n1, r1⟩ := r; cases h; exact ⟨a, ys, rfl, SqL.of h1, r1⟩
  | sc ds => obtain ⟨a, ys, rfl, h1, r1⟩ := r; cases h; exact ⟨a, ys, rfl, h1.sq, r1⟩
  | ref n =>
    obtain ⟨a, ha, rfl⟩ := r
    simp only [lstD] at h
    split at h
    · rename_i ds e
      cases h
      obtain ⟨ys, h1, r1⟩ := S.look e ha
      exact ⟨a, ys, rfl, SqL.of h1, r1⟩
    · cases h
  | _ => cases h
def fSorted : FL := fun xs st => match xs with
  | [x] => match lstD x st with
    | some ds => match strsOf ds with
      | some ss => .ok ((sortS ss).map .str) st
      | none => match intsOf ds with
        | some ns => .ok ((sortI ns).map .int) st
        | none => .bad
    | none => .bad
  | _ => .bad
theorem rcl_sorted {K : PySem.W.Frag} {mg : Str → Option Value} : RCL K mg (fun xs H Q => rSortedAny K xs H Q ∨ rSortedAnyI K xs H Q) fSorted := by
  intro ρ ι H st xs vs W σ Q S r p
  unfold fSorted at p
  split at p
  · rename_i x
    obtain ⟨v, rfl, h⟩ := vr1 r
    split at p
    · rename_i ds e
      obtain ⟨a, ys, rfl, hs, r1⟩ := lst_of S h e
      split at p
      · rename_i ss e2
        have := strs_of e2 r1
        subst this
        exact .inl ⟨a, ss, rfl, hs, new_lst S (vrs_strs _) p⟩
      · split at p
        · rename_i ns e2
          have := ints_of e2 r1
          subst this
          exact .inr ⟨a, ns, rfl, hs, new_lst S (vrs_ints _) p⟩
        · exact p.elim
    · exact p.elim
  · exact p.elim
end DD

/-! DD20: dicts with ints and texts as keys, in the store; a list of the store gone over. -/
namespace DD
open PySem L2 PyProof.Rows
variable [NMs]
/-! ### a list of the store, gone over while it stays as it is -/
theorem x_keep (n : Nat) (ds : List D) : ∃ f : Sto → Bool, ∀ st, f st = true ↔ ∃ o, st[n]? = some o ∧ o = .lst ds := by
  classical
  exact ⟨fun st => decide (∃ o, st[n]? = some o ∧ o = .lst ds), fun st => by simp⟩
noncomputable def keepRef (n : Nat) (ds : List D) : Sto → Bool := (x_keep n ds).choose
theorem keepRef_iff {n : Nat} {ds : List D} {st : Sto} : keepRef n ds st = true ↔ st[n]? = some (.lst ds) := by
  rw [keepRef, (x_keep n ds).choose_spec st]
  exact ⟨fun ⟨o, h, e⟩ => by rw [h, e], fun h => ⟨_, h, rfl⟩⟩
theorem itl_ref {B : Bs} {ι1 : List Addr} {H1 : Hp} {a : Addr} {n : Nat} {ds : List D} (ha : ι1[n]? = some a) : ItOk B (Itl B.K a) ι1 H1 (keepRef n ds) ds := by
  have key : ∀ ρ' ι' H' st', Step ι1 H1 ι' H' → Sim ⟨B.K, B.mg, ρ'⟩ H' ι' st' → keepRef n ds st' = true → ∃ ys, H' a = some (.lst ys) ∧ VRs ⟨B.K, B.mg, ρ'⟩ H' ι' ds ys := fun ρ' ι' H' st' s S k => by
    obtain ⟨ys, h1, r1⟩ := S.look (keepRef_iff.mp k) (s.ix ha)
    exact ⟨ys, h1, r1⟩
  refine ⟨fun ρ' i ι' H' st' f s S k hi => ?_, fun ρ' i d ι' H' st' v H'' f s S k hd y => ?_, fun ρ' i ι' H' st' f s S k hi => ?_⟩
  · obtain ⟨ys, h1, r⟩ := key ρ' ι' H' st' s S k
    obtain ⟨v, hv, _⟩ := r.get (List.getElem?_eq_getElem hi)
    exact ⟨ys, v, SqL.of h1, hv⟩
  · obtain ⟨e, y⟩ := y
    subst e
    obtain ⟨ys, h1, r⟩ := key ρ' ι' _ st' s S k
    obtain ⟨w, hw, vr⟩ := r.get hd
    have : v = w := Option.some.inj ((y ys (SqL.of h1)).symm.trans hw)
    subst this
    exact ⟨Step.refl _ _, S, vr⟩
  · obtain ⟨ys, h1, r⟩ := key ρ' ι' H' st' s S k
    exact ⟨ys, SqL.of h1, by rw [← r.length]; exact hi⟩
noncomputable def dItemsR (da : DE) : DI := fun env st => (da env st).bind fun x st1 => match x with
  | .fz ds => .ok (ds, yes) st1
  | .sc ds => .ok (ds, yes) st1
  | .ref n => match st1[n]? with
    | some (.lst ds) => .ok (ds, keepRef n ds) st1
    | _ => .bad
  | _ => .bad
section
variable {X : Cx} {W : WX} {tg e : Expr} {da dx dk : DE} {pos p : Pos}
theorem pid_listR (ha : PEd X W e da) : PId X W tg e (dItemsR da) := PI.mono (pi_list ha) fun σ H R ⟨ρ, ι, st, env, S, ve, p⟩ => ⟨ρ, ι, st, env, S, ve, Post.bind p fun x st1 ι1 H1 v s1 S1 rx p1 => by
  cases x <;> (try exact p1.elim)
  · obtain ⟨a, xs, rfl, h, m, r⟩ := rx
    exact ⟨a, rfl, ⟨xs, SqL.of h⟩, p1.ok S1 ⟨itl_ok (B := ⟨X.K, X.mg, ρ⟩) (.inr ⟨h, m⟩) r, rfl⟩⟩
  · obtain ⟨a, xs, rfl, h, r⟩ := rx
    exact ⟨a, rfl, ⟨xs, h.sq⟩, p1.ok S1 ⟨itl_ok (B := ⟨X.K, X.mg, ρ⟩) (.inl h) r, rfl⟩⟩
  · rename_i n
    obtain ⟨a, ha', rfl⟩ := rx
    simp only [] at p1
    split at p1
    · rename_i ds q
      obtain ⟨ys, h1, r1⟩ := S1.look q ha'
      exact ⟨a, rfl, ⟨ys, SqL.of h1⟩, p1.ok S1 ⟨itl_ref (B := ⟨X.K, X.mg, ρ⟩) ha', keepRef_iff.mpr q⟩⟩
    · exact p1.elim⟩
/-! ### dicts -/
def dDictNew : DE := fun _ st => .ok (.ref st.length) (st ++ [.dct [] []])
theorem pd_dictNew : PEd X W (.Dict [] [] pos) dDictNew := PE.mono pe_dnewK fun σ H Q ⟨ρ, ι, st, env, S, ve, p⟩ => fun q hq =>
  p (ι ++ [q]) _ (.ref q) (Step.alloc S hq) (Sim.alloc S hq ⟨[], [], upd_same, rfl, rfl, rfl⟩) ⟨q, by rw [← S.len, List.getElem?_append_right (by omega)]; simp, rfl⟩
def keyD : D → Option Key
  | .int i => some (.inl i)
  | .str x => some (.inr x)
  | _ => none
theorem keyD_of {B H ι} {d : D} {v : V} {k : Key} (r : VR B H ι d v) (h : keyD d = some k) : v = kV k := by
  cases d <;> (try (cases h)) <;> (cases r; rfl)
def dK' (k : Key) : D := match k with
  | .inl i => .int i
  | .inr x => .str x
theorem vr_dK {B H ι} (k : Key) : VR B H ι (dK' k) (kV k) := by cases k <;> rfl
def repl {α β : Type} [DecidableEq α] (k : α) (d : β) : List α → List β → List β
  | k' :: ks, x :: xs => (if k' = k then d else x) :: repl k d ks xs
  | _, _ => []
def pkD (k : Key) (d : D) (ks : List Key) (ds : List D) : List Key × List D := if (ks.any fun k' => decide (k' = k)) = true then (ks, repl k d ks ds) else (ks ++ [k], ds ++ [d])
theorem repl_zip {α : Type} [DecidableEq α] (k : α) (v : V) : ∀ (ks : List α) (xs : List V), (ks.zip xs).map (fun kv => if kv.1 = k then (kv.1, v) else kv) = ks.zip (repl k v ks xs)
  | [], _ => rfl
  | _ :: _, [] => rfl
  | k' :: ks, x :: xs => by
    simp only [List.zip_cons_cons, List.map_cons, repl, repl_zip k v ks xs]
    by_cases h : k' = k <;> simp [h]
theorem any_zip {α : Type} [DecidableEq α] (k : α) : ∀ (ks : List α) (xs : List V), ks.length = xs.length → ((ks.zip xs).any fun kv => decide (kv.1 = k)) = ks.any fun k' => decide (k' = k)
  | [], _, _ => rfl
  | _ :: _, [], h => by simp at h
  | k' :: ks, x :: xs, h => by
    rw [List.zip_cons_cons, List.any_cons, List.any_cons, any_zip k ks xs (by simpa using h)]
theorem repl_len {α β : Type} [DecidableEq α] (k : α) (d : β) : ∀ (ks : List α) (xs : List β), ks.length = xs.length → (repl k d ks xs).length = xs.length
  | [], [], _ => rfl
  | [], _ :: _, h => by simp at h
  | _ :: _, [], h => by simp at h
  | _ :: ks, _ :: xs, h => by simp only [repl, List.length_cons, repl_len k d ks xs (by simpa using h)]
theorem repl_vr {B H ι} (k : Key) {d : D} {v : V} (hv : VR B H ι d v) : ∀ (ks : List Key) {ds : List D} {xs : List V}, VRs B H ι ds xs → VRs B H ι (repl k d ks ds) (repl k v ks xs)
  | [], _, _, _ => rfl
  | _ :: _, [], _, r => by cases r; rfl
  | k' :: ks, _ :: _, _, ⟨x, t, e, h, r⟩ => by
    subst e
    refine ⟨_, _, rfl, ?_, repl_vr k hv ks r⟩
    by_cases e : k' = k
    · simp only [e, if_true]; exact hv
    · simp only [e, if_false]; exact h
theorem pk_vr {B H ι} {k : Key} {d : D} {v : V} (hv : VR B H ι d v) {ks : List Key} {ds : List D} {xs : List V} (l : ks.length = xs.length) (r : VRs B H ι ds xs) :
    ∃ ys, putK (ks.zip xs) k v = (pkD k d ks ds).1.zip ys ∧ (pkD k d ks ds).1.length = ys.length ∧ VRs B H ι (pkD k d ks ds).2 ys := by
  unfold putK pkD
  rw [any_zip k ks xs l]
  by_cases h : (ks.any fun k' => decide (k' = k)) = true
  · refine ⟨repl k v ks xs, ?_, ?_, ?_⟩
    · simp only [h, if_true]; exact repl_zip k v ks xs
    · simp only [h, if_true]; rw [repl_len k v ks xs l]; exact l
    · simp only [h, if_true]; exact repl_vr k hv ks r
  · refine ⟨xs ++ [v], ?_, ?_, ?_⟩
    · rw [if_neg h, if_neg h, List.zip_append l]; rfl
    · rw [if_neg h]; simp [l]
    · rw [if_neg h]; exact r.append (VRs.one hv)
def setKeyR (o i x : D) (env : Env) (st : Sto) : ResS := match o, keyD i with
  | .ref n, some k => match st[n]? with
    | some (.dct ks ds) => if ks.length ≤ bigLine then .nx env (st.set n (.dct (pkD k x ks ds).1 (pkD k x ks ds).2)) else .bad
    | _ => .bad
  | _, _ => .bad
def dSetKey (da dx dk : DE) : DS := fun env st => (da env st).bindS env fun x st1 => (dx env st1).bindS env fun o st2 => (dk env st2).bindS env fun i st3 => setKeyR o i x env st3
theorem psd_setKey {o i : Expr} {p' : Pos} (hu : X.A.units + 1 < cLine) (he : PEd X W e da) (ho : PEd X W o dx) (hi : PEd X W i dk) (hs : swapsWithSole [Expr.Subscript o i p'] e pos.line X.env = pure false := by rfl) (hw : swappedStores [Expr.Subscript o i p'] e X.env = pure none := by rfl)
    (h1 : (assignEach [Expr.Subscript o i p'] X.env).map (·.2) = [assign (Expr.Subscript o i p') X.env] := by rfl)
    (ha : ∀ v, assign (.Subscript o i p') X.env v = (do
      let ov ← holding [v] (eval o X.env)
      let iv ← holding [v, ov] (eval i X.env)
      standAt p'
      holding [v, ov, iv] (setItem ov iv v)
      release [v, ov, iv] []) := by intro _; rfl) : PSd X W (.Assign [.Subscript o i p'] e pos) (dSetKey da dx dk) :=
  PS.mono (ps_asg he (pg_sub ho hi (set_dict hu) ha) hs hw h1) fun E σ H ⟨ρ, ι, st, env, S, ve, p⟩ => ⟨ρ, ι, st, env, S, ve, PostS.bind ve p fun x st1 ι1 H1 v s1 S1 rx p1 =>
    ⟨ρ, ι1, st1, env, S1, ve.step s1, PostS.bind (ve.step s1) p1 fun o st2 ι2 H2 w s2 S2 ro p2 => ⟨ρ, ι2, st2, env, S2, (ve.step s1).step s2, PostS.bind ((ve.step s1).step s2) p2 fun i st3 ι3 H3 z s3 S3 ri p3 => by
      unfold setKeyR at p3
      split at p3
      · rename_i n k ek
        obtain ⟨a, ha, rfl⟩ := VR.step s3 ro
        split at p3
        · rename_i ks ds q
          obtain ⟨kvs, xs, h1, e1, l, r1⟩ := S3.look q ha
          split at p3
          · rename_i hl
            have ez := keyD_of ri ek
            obtain ⟨ys, e2, l2, r2⟩ := pk_vr (k := k) ((VR.step s2 rx).step s3) l r1
            have sw : Step ι3 H3 ι3 (upd H3 a (.dK (putK kvs k v))) := Step.write ha
            refine ⟨a, _, rfl, ?_, p3 ι3 _ σ sw (S3.write ha ⟨putK kvs k v, ys, upd_same, by rw [e1]; exact e2, l2, r2.step sw⟩) ((((ve.step s1).step s2).step s3).step sw)⟩
            rw [ez]
            exact DPut.k h1 (by rw [e1, List.length_zip, ← l, Nat.min_self]; exact big_lt hl)
          · exact p3.elim
        · exact p3.elim
      · exact p3.elim⟩⟩⟩
/-- list(x), x a list, a tuple, or a dict: then its keys -/
def fListD : FL := fun xs st => match xs with
  | [.ref n] => match st[n]? with
    | some (.lst ds) => .ok ds st
    | some (.dct ks _) => .ok (ks.map dK') st
    | _ => .bad
  | [.fd ks _] => .ok (ks.map dK') st
  | xs => fList xs st
theorem vrs_keys {B : Bs} {H : Hp} {ι : List Addr} : ∀ (ks : List Key) (xs : List V), ks.length = xs.length → VRs B H ι (ks.map dK') ((ks.zip xs).map fun kv => kV kv.1)
  | [], _, _ => rfl
  | _ :: _, [], h => by simp at h
  | k :: ks, x :: xs, h => ⟨_, _, rfl, vr_dK k, vrs_keys ks xs (by simpa using h)⟩
/-- .. the dict locked -/
def rListF : List V → Hp → VK → Prop := fun xs H Q => ∃ p od kvs, xs = [.ref p] ∧ H p = some (.frz od (.dK kvs)) ∧ ∀ l, H l = none → Q (.ref l) (upd H l (.lst (kvs.map fun kv => kV kv.1)))
theorem cr_listF (hc : X.calm = true) : CallR X (.type "list") rListF := by
  rintro pins s σ H xs us Q I r ⟨p, od, kvs, rfl, hk, q⟩
  obtain ⟨u, rfl, rx⟩ := vals1 r
  cases rx
  obtain ⟨z, lo, vs, rk, hd⟩ := dk_rd I.hok (.inr ⟨od, hk⟩)
  obtain ⟨ep, hat⟩ := hd.dictAt
  have hlen := Paired.length rk
  have keys : ∀ (j : Nat) (k : Key) (y : Value), vs[j]? = some (k, y) → (kvs.map fun kv => kV kv.1)[j]? = some (kV k) := fun j k y e => by
    have := congrArg (fun l => (l.map kV)[j]?) (KV.keys rk)
    simp only [List.map_map, List.getElem?_map, e] at this
    rw [List.getElem?_map]
    exact this
  refine PySem.W.kdl_call (PySem.W.kdl_dict (knd := mixKind X.prog X.w) (kvs := vs) (ep := ep) lo) (I.ok.hd hc) hat (hlen ▸ z) ?_
  intro h' tk acc' c' hkeep hS hacc
  have ob : ObjOk X.prog X.w (upd H s.heap.objs.size (.lst (kvs.map fun kv => kV kv.1))) h' s.heap.objs.size (.lst (kvs.map fun kv => kV kv.1)) := by
    refine ⟨by rw [List.length_map]; exact z, acc'.toList, c', vals_of_at ?_ fun j x w h1 h2 => ?_, hS⟩
    · simp [hacc.1, hlen]
    · rw [Array.getElem?_toList] at h2
      obtain ⟨k, y, e, hi⟩ := hacc.2 j w h2
      cases (keys j k y e).symm.trans h1
      exact keyIs_rel hi
  exact ⟨.ref s.heap.objs.size, _, I.laid hkeep (Nat.le_refl _) ob, rfl, q _ (I.hok.fresh (Nat.le_refl _))⟩
def rListAny (K : PySem.W.Frag) : List V → Hp → VK → Prop := fun xs H Q => (∃ p ys, xs = [.ref p] ∧ (SqL K H p ys ∨ SqT K H p ys) ∧ ∀ l, H l = none → Q (.ref l) (upd H l (.lst ys))) ∨ rListD xs H Q ∨ rListF xs H Q
theorem cr_listAny (hc : X.calm = true) : CallR X (.type "list") (rListAny X.K) := by
  intro pins s σ H xs us Q I r h
  rcases h with h | h | h
  · exact call_list_of pins s σ H xs us Q I r h
  · exact call_list_dK hc pins s σ H xs us Q I r h
  · exact cr_listF hc pins s σ H xs us Q I r h
theorem rcl_listD {K : PySem.W.Frag} {mg : Str → Option Value} : RCL K mg (rListAny K) fListD := by
  intro ρ ι H st xs vs W σ Q S r p
  unfold fListD at p
  split at p
  · rename_i n
    obtain ⟨v, rfl, a, ha, rfl⟩ := vr1 r
    split at p
    · rename_i ds q
      obtain ⟨ys, h1, r1⟩ := S.look q ha
      exact .inl ⟨a, ys, rfl, .inl (SqL.of h1), new_lst S r1 p⟩
    · rename_i ks ds q
      obtain ⟨kvs, ys, h1, e1, l, r1⟩ := S.look q ha
      exact .inr (.inl ⟨a, kvs, rfl, h1, by rw [e1]; exact new_lst S (vrs_keys ks ys l) p⟩)
    · exact p.elim
  · rename_i ks ds
    obtain ⟨v, rfl, a, od, kvs, ys, rfl, h1, n1, e1, l, r1⟩ := vr1 r
    exact .inr (.inr ⟨a, od, kvs, rfl, h1, by rw [e1]; exact new_lst S (vrs_keys ks ys l) p⟩)
  · exact .inl (rcl_list S r p)
end
/-! ### dicts by value -/
section
variable {X : Cx} {W : WX} {pos : Pos} {k v : Expr} {dk dv : DE}
/-- what an expression gives is locked for ever -/
def tFreeze (t : TE) : TE := fun σ H Q => t σ H fun v H1 => ∃ d u, v = .ref d ∧ H1 d = some u ∧ Mut (some u) ∧ ∀ od, Q v (upd H1 d (.frz od u))
theorem pe_freeze {e : Expr} {t : TE} (h : PE X e t) : PE X e (tFreeze t) := by
  refine ⟨fun pins s σ H Q I hw => thn (h.run pins s σ H _ I hw) fun v s1 ⟨x, H1, I1, rx, d, u, ex, hd, mu, q⟩ => ?_⟩
  obtain ⟨od, I2⟩ := I1.lock hd mu
  exact ⟨x, _, I2, rx, q od⟩
theorem upd_upd {H : Hp} {a : Addr} {o o' : HO} : upd (upd H a o) a o' = upd H a o' := by
  funext b
  by_cases h : b = a
  · rw [h, upd_same, upd_same]
  · rw [upd_ne h, upd_ne h, upd_ne h]
/-- a new dict, locked -/
theorem new_fd {B : Bs} {H ι st W σ Q} {ks : List Key} {ds : List D} {xs : List V} (S : Sim B H ι st) (l : ks.length = xs.length) (r : VRs B H ι ds xs) (p : Post B relV W σ ι H (.ok (.fd ks ds) st) Q) : ∀ q, H q = none → ∃ d u, V.ref q = .ref d ∧ (upd H q (.dK (ks.zip xs))) d = some u ∧ Mut (some u) ∧ ∀ od, Q (.ref q) (upd (upd H q (.dK (ks.zip xs))) d (.frz od u)) := fun q hq =>
  ⟨q, _, rfl, upd_same, True.intro, fun od => by
    rw [upd_upd]
    exact p.ok' (Step.new S hq) (S.new hq) ⟨q, od, _, xs, rfl, upd_same, ⟨S.fresh hq, S.fr hq⟩, rfl, l, r.step (Step.new S hq)⟩⟩
def dFd0 : DE := fun _ st => .ok (.fd [] []) st
theorem pd_fd0 : PEd X W (.Dict [] [] pos) dFd0 := PE.mono (pe_freeze pe_dnewK) fun σ H Q ⟨ρ, ι, st, env, S, ve, p⟩ => fun q hq => new_fd S rfl (ds := []) (xs := []) rfl p q hq
def dFd1 (dk dv : DE) : DE := fun env st => match dk env st with
  | .ok k st1 => match dv env st1 with
    | .ok v st2 => match keyD k with
      | some kk => .ok (.fd [kk] [v]) st2
      | none => .bad
    | _ => .bad
  | _ => .bad
theorem pd_fd1 (hk : PEd X W0 k dk) (hv : PEd X W0 v dv) : PEd X W (.Dict [some k] [v] pos) (dFd1 dk dv) :=
  PE.mono (pe_freeze (pe_disp (pps_cons hk hv pps_nil) rfl rfl (by simp) (by simp))) fun σ H Q ⟨ρ, ι, st, env, S, ve, p⟩ => fun q hq => by
    have S0 : Sim ⟨X.K, X.mg, q :: ρ⟩ (upd H q (.dK [])) ι st := S.reserve hq
    have ve0 : VEnv ⟨X.K, X.mg, q :: ρ⟩ (upd H q (.dK [])) ι env σ := VEnv.step (Step.new S hq) (VEnv.more (B := ⟨X.K, X.mg, ρ⟩) ve hq)
    unfold dFd1 at p
    refine ⟨q :: ρ, ι, st, env, S0, ve0, ?_⟩
    cases e1 : dk env st with
    | bad => rw [e1] at p; exact p.elim
    | exc x st1 => rw [e1] at p; exact p.elim
    | ok kd st1 =>
      rw [e1] at p
      intro ι1 H1 x s1 S1 rx
      refine ⟨q :: ρ, ι1, st1, env, S1, ve0.step s1, ?_⟩
      simp only [] at p
      cases e2 : dv env st1 with
      | bad => rw [e2] at p; exact p.elim
      | exc x st1 => rw [e2] at p; exact p.elim
      | ok vd st2 =>
        rw [e2] at p
        intro ι2 H2 y s2 S2 ry
        simp only [] at p
        cases e3 : keyD kd with
        | none => rw [e3] at p; exact p.elim
        | some kk =>
          rw [e3] at p
          have ex := keyD_of rx e3
          have m2 : q ∉ ι2 := (S2.rs q List.mem_cons_self).2
          have m1 : q ∉ ι1 := (S1.rs q List.mem_cons_self).2
          have m0 : q ∉ ι := (S0.rs q List.mem_cons_self).2
          have h2 : H2 q = some (.dK []) := s2.rest _ _ m1 (s1.rest _ _ m0 upd_same)
          have S2' : Sim ((⟨X.K, X.mg, ρ⟩ : Bs).more q) H2 ι2 st2 := S2
          have ry' : VR ((⟨X.K, X.mg, ρ⟩ : Bs).more q) H2 ι2 vd y := ry
          refine ⟨h2, [(kk, y)], by rw [ex]; rfl, by simp, q, _, rfl, upd_same, True.intro, fun od => ?_⟩
          rw [upd_upd]
          exact p ι2 _ (.ref q) ((((Step.new S hq).trans s1).trans s2).scr hq) (S2'.scr.less) ⟨q, od, [(kk, y)], [y], rfl, upd_same, ⟨m2, S.fr hq⟩, rfl, rfl, VRs.one (ry'.scr.less.1)⟩
end
end DD

/-! DD21: equations for what DD17 to DD20 bring; slices of texts. -/
namespace DD
open PySem L2 PyProof.Rows
variable [NMs]
section
variable {da dx dk : DE} {ds : DA} {env : Env} {st : Sto}
@[simp] theorem dRaise0_e {c : Str} : dRaise0 c env st = .exc (c, none) env st := rfl
def tryR (sub : Str → Str → Option Bool) (hs : List (Str × DS)) (r : ResS) : ResS := match r with
  | .exc x env1 st1 => hdR sub x env1 st1 hs
  | r => r
@[simp] theorem tryR_nx {sub : Str → Str → Option Bool} {hs : List (Str × DS)} : tryR sub hs (.nx env st) = .nx env st := rfl
@[simp] theorem tryR_exc {sub : Str → Str → Option Bool} {hs : List (Str × DS)} {x : Xc} : tryR sub hs (.exc x env st) = hdR sub x env st hs := rfl
@[simp] theorem dTry_e {sub : Str → Str → Option Bool} {d : DS} {hs : List (Str × DS)} : dTry sub d hs env st = tryR sub hs (d env st) := rfl
@[simp] theorem dDictNew_e : dDictNew env st = .ok (.ref st.length) (st ++ [.dct [] []]) := rfl
@[simp] theorem dFd0_e : dFd0 env st = .ok (.fd [] []) st := rfl
@[simp] theorem dSetKey_e : dSetKey da dx dk env st = (da env st).bindS env fun x st1 => (dx env st1).bindS env fun o st2 => (dk env st2).bindS env fun i st3 => setKeyR o i x env st3 := rfl
@[simp] theorem dCallL_e {f : FL} : dCallL f ds env st = (ds env st).bind fun xs st1 => f xs st1 := rfl
@[simp] theorem dLc2_e {di di1 : DI} {g g1 : DG} {t t1 : DT} {de : DE} {vs vs1 : List Nat} : dLc2 di g t di1 g1 t1 de vs vs1 env st = (di env st).bind fun a st1 => if a.1.length ≤ midLine then lcLoop2 g t di1 g1 t1 de vs1 a.2 (wipeE vs env) a.1 st1 else .bad := rfl
noncomputable def itrR (x : D) (st : Sto) : Res (List D × (Sto → Bool)) := match x with
  | .fz ds => .ok (ds, yes) st
  | .sc ds => .ok (ds, yes) st
  | .ref n => match st[n]? with
    | some (.lst ds) => .ok (ds, keepRef n ds) st
    | _ => .bad
  | _ => .bad
@[simp] theorem dItemsR_e : dItemsR da env st = (da env st).bind itrR := rfl
theorem itrR_ref {n : Nat} {ds : List D} (h : st[n]? = some (.lst ds)) : itrR (.ref n) st = .ok (ds, keepRef n ds) st := by simp [itrR, h]
noncomputable def rg2R (xs : List D) (st : Sto) : Res (List D × (Sto → Bool)) := match xs with
  | [.int i, .int j] => if rg62 i = true ∧ rg62 j = true then .ok (intsD i (j - i).toNat, yes) st else .bad
  | _ => .bad
@[simp] theorem dRange2_e : dRange2 ds env st = (ds env st).bind rg2R := rfl
theorem rg2R_ok {i j : Int} {a b : Nat} (e : i = a) (e2 : j = b) (h : a < 1000000) (h2 : b < 1000000) : rg2R [.int i, .int j] st = .ok (intsD a (b - a), yes) st := by
  subst e e2
  have h1 : rg62 (a : Int) = true := rg62_to (by omega)
  have h3 : rg62 (b : Int) = true := rg62_to (by omega)
  have h4 : ((b : Int) - (a : Int)).toNat = b - a := by omega
  unfold rg2R
  simp only [h1, h3, and_self, if_true, h4]
theorem fSl_str_to {cs : List Nat} {i : Nat} (h : cs.length ≤ bigLine) (hi : i ≤ cs.length) : fSl (.str (tx cs)) none (some (i : Int)) st = .ok (.str (tx (cs.take i))) st := by
  have hl : (tx cs).length ≤ bigLine := h
  simp only [fSl, hl, if_true]
  congr 2
  show Str.mk ((((tx cs).cps.toList.drop (HT.sIx (tx cs).length 0 none)).take (HT.sIx (tx cs).length (tx cs).length (some (i : Int)) - HT.sIx (tx cs).length 0 none))).toArray = tx (cs.take i)
  rw [HT.sIx_nat, HT.sIx_none, tx_list, tx_length, Nat.min_eq_left hi]
  rfl
theorem fSl_str_mid {cs : List Nat} {a b : Nat} (h : cs.length ≤ bigLine) (hab : a ≤ b) (hb : b ≤ cs.length) : fSl (.str (tx cs)) (some (a : Int)) (some (b : Int)) st = .ok (.str (tx ((cs.drop a).take (b - a)))) st := by
  have hl : (tx cs).length ≤ bigLine := h
  simp only [fSl, hl, if_true]
  congr 2
  show Str.mk ((((tx cs).cps.toList.drop (HT.sIx (tx cs).length 0 (some (a : Int)))).take (HT.sIx (tx cs).length (tx cs).length (some (b : Int)) - HT.sIx (tx cs).length 0 (some (a : Int))))).toArray = tx ((cs.drop a).take (b - a))
  rw [HT.sIx_nat, HT.sIx_nat, tx_list, tx_length, Nat.min_eq_left hb, Nat.min_eq_left (Nat.le_trans hab hb)]
  rfl
end
theorem app_get {s : Sto} {o : O} : (s ++ [o])[s.length]? = some o := by simp
theorem app_set {s : Sto} {o o' : O} : (s ++ [o]).set s.length o' = s ++ [o'] := by simp [List.set_append]
theorem isLst_at {st : Sto} {k : Nat} {ds : List D} (h : st[k]? = some (.lst ds)) : isLst (.ref k) st = true := by simp [isLst, h]
theorem fAppend_at {st : Sto} {k : Nat} {ds : List D} {y : D} (h : st[k]? = some (.lst ds)) (hl : ds.length ≤ bigLine) : fAppend (.ref k) [y] st = .ok .non (st.set k (.lst (ds ++ [y]))) := by
  simp [fAppend, h, hl]
theorem tx_hat : (Str.ofString "^" : Str) = tx [94] := by decide +kernel
theorem tx_a : (Str.ofString "a" : Str) = tx [97] := by decide +kernel
def strD (c : List Nat) : D := .str (tx c)
/-- the stretch that ends behind e rows -/
def cutN (ch : List Nat) (w e : Nat) : List Nat := if e < w then 94 :: ch.take e else (ch.drop (e - w)).take w
def dueN (ch : List Nat) (w : Nat) : List (List Nat) := (List.range ch.length).map fun k => cutN ch w (k + 1)
end DD

/-! DD22: texts and lists turned round, list of a text, own errors with a field, told by the clause that catches them. -/
namespace DD
open PySem L2 PyProof.Rows
variable [NMs]
/-! ### x[::-1] -/
def revS (z : Str) : Str := ⟨z.cps.toList.reverse.toArray⟩
theorem picks_back (z : Str) : (Builtin.Str.strSliceIndices none none (-1) z.length).filterMap (z.cps[·]?) = z.cps.toList.reverse := by
  have h : Builtin.Str.strSliceIndices none none (-1) z.length = (List.range z.cps.size).reverse := by
    rw [← PySem.W.krv_range, ← PySem.W.krv_sliceRange]; rfl
  rw [h, List.filterMap_reverse, PySem.W.krv_all]
theorem revS_length (z : Str) : (revS z).length = z.length := by
  show (z.cps.toList.reverse.toArray).size = z.cps.size
  simp
def tBack (K : PySem.W.Frag) (te : TE) : TE := fun σ H Q => te σ H fun x H1 => (∃ z, x = .str z ∧ z.length ≤ bigLine ∧ Q (.str (revS z)) H1) ∨
  ∃ a xs, x = .ref a ∧ SqL K H1 a xs ∧ ∀ p, H1 p = none → Q (.ref p) (upd H1 p (.lst xs.reverse))
theorem pe_back {X : Cx} {e : Expr} {te : TE} {k : Nat} {p1 p2 p3 pos : Pos} (he : PE X e te) : PE X (.Subscript e (.Slice none none (some (.UnaryOp .USub (.Constant (.int 1) k p1) p2)) p3) pos) (tBack X.K te) := by
  constructor
  intro pins s σ H Q I h
  apply Subscript_
  refine thn (he.run pins s σ H _ I h) ?_
  rintro v s1 ⟨x, H1, I1, r1, q1⟩
  have back : PO X (some (.UnaryOp .USub (.Constant (.int 1) k p1) p2)) _ := po_some (pe_un un_neg pe_int)
  apply wpAny_Slice
  refine thn (po_none.run pins s1 σ H1 (fun o G => o = none ∧ G = H1) I1 ⟨rfl, rfl⟩) ?_
  rintro vl s2 ⟨l, H2, I2, pl, rfl, rfl⟩
  refine thn (po_none.run pins s2 σ H2 (fun o G => o = none ∧ G = H2) I2 ⟨rfl, rfl⟩) ?_
  rintro vu s3 ⟨u, H3, I3, pu, rfl, rfl⟩
  refine thn (back.run pins s3 σ H3 (fun o G => o = some (-1) ∧ G = H3) I3 ⟨1, rfl, -1, rfl, rfl, rfl⟩) ?_
  rintro vs s4 ⟨o, H4, I4, ps, rfl, rfl⟩
  have sl := Heap.IsSliceOf.new s4.heap vl vu vs
  have J : Inv X pins σ H4 { s4 with heap := s4.heap.push { cls := .type "slice", data := .fields #[vl, vu, vs] } } :=
    I4.kept (t' := s4.toks) fun b ob q => Heap.get?_push_of_some _ q
  generalize hs5 : ({ s4 with heap := s4.heap.push { cls := .type "slice", data := .fields #[vl, vu, vs] } } : Shared) = s5 at J
  have sl5 : s5.heap.IsSliceOf s4.heap.objs.size vl vu vs := by rw [← hs5]; exact sl
  rcases q1 with ⟨z, rfl, hz, q⟩ | ⟨a, xs, rfl, hx, q⟩
  · obtain ⟨t, rfl⟩ := r1
    show wpAny _ _ (subscriptTail _ _ _ _) _ _ _
    refine tail_any (T := "str") (ops := [.ref s4.heap.objs.size, .str z t]) (typeIs_str _ _ _) F.slot_str_getitem.lookup ?_ (by with_unfolding_all rfl)
    obtain ⟨os, h1, h2, h3⟩ := sl5
    obtain ⟨l', e1, e2⟩ := IsPart.raw pl
    obtain ⟨u', e3, e4⟩ := IsPart.raw pu
    obtain ⟨m', e5, e6⟩ := IsPart.raw ps
    subst e1 e3 e5
    have f1 : l' = none := Option.map_eq_none_iff.mp e2
    have f2 : u' = none := Option.map_eq_none_iff.mp e4
    subst f1 f2
    refine wpAny_getItem_str_slice (l := none) (u := none) (st := m') ⟨os, h1, h2, h3⟩ (by rw [e6]; decide) ?_
    unfold sliceMade slicePicked
    rw [e6]
    show Made.post (if ((-1 : Int) == 1 && _) = true then _ else Made.str ⟨((Builtin.Str.strSliceIndices none none (-1) z.length).filterMap (z.cps[·]?)).toArray⟩) _ _
    rw [picks_back, show ((-1 : Int) == 1) = false from rfl, Bool.false_and, if_neg Bool.false_ne_true]
    have hl : (revS z).length ≤ sizeLine := by rw [revS_length]; exact big_le hz
    exact ⟨hl, .str (revS z), H4, J.tok _, ⟨_, rfl⟩, q⟩
  · cases r1
    obtain ⟨its, r, ht, hn⟩ := J.list hx
    have hlen := r.length
    show wpAny _ _ (subscriptTail _ _ _ _) _ _ _
    refine tail_any (ops := [.ref a, .ref s4.heap.objs.size]) ht.isList.typeIs (PySem.slot_list_getitem.lookup) ?_ (by with_unfolding_all rfl)
    refine wpAny_getItem_list_slice ht.isList sl5 pl pu ps (by decide) ?_ (by rw [List.size_toArray]; omega)
    rw [PySem.W.krv_pick]
    refine ⟨.ref _, _, J.laid (t' := s5.toks) (o := .lst xs.reverse) (fun b ob q => Heap.get?_push_of_some _ q) (Nat.le_refl _) ⟨?_, _, 0, r.reverse, Heap.get?_push_size _ rfl⟩, rfl, q _ (J.hok.fresh (Nat.le_refl _))⟩
    rw [List.length_reverse]; exact hn

theorem VRs.rev {B : Bs} {H : Hp} {ι : List Addr} : ∀ {ds : List D} {vs : List V}, VRs B H ι ds vs → VRs B H ι ds.reverse vs.reverse
  | [], _, h => by cases h; rfl
  | _ :: _, _, ⟨x, r, e, h, t⟩ => by
    subst e
    rw [List.reverse_cons, List.reverse_cons]
    exact (VRs.rev t).append (VRs.one h)
def dBack (da : DE) : DE := fun env st => (da env st).bind fun x st1 => match x with
  | .str z => if z.length ≤ bigLine then .ok (.str (revS z)) st1 else .bad
  | .fz ds => .ok (.fz ds.reverse) st1
  | .sc ds => .ok (.fz ds.reverse) st1
  | .ref n => match st1[n]? with
    | some (.lst ds) => .ok (.fz ds.reverse) st1
    | _ => .bad
  | _ => .bad
section
variable {X : Cx} {W : WX} {e : Expr} {da : DE} {k : Nat} {p1 p2 p3 pos : Pos}
theorem pd_back (he : PEd X W e da) : PEd X W (.Subscript e (.Slice none none (some (.UnaryOp .USub (.Constant (.int 1) k p1) p2)) p3) pos) (dBack da) :=
  PE.mono (pe_back he) fun σ H Q ⟨ρ, ι, st, env, S, ve, p⟩ => ⟨ρ, ι, st, env, S, ve, Post.bind p fun x st1 ι1 H1 v s1 S1 rx q => by
    cases x with
    | str z =>
      cases rx
      simp only [] at q
      split at q
      · rename_i hz; exact .inl ⟨z, rfl, hz, q.ok S1 rfl⟩
      · exact q.elim
    | fz ds =>
      obtain ⟨a, xs, rfl, h1, m, r1⟩ := rx
      exact .inr ⟨a, xs, rfl, SqL.of h1, new_fz S1 r1.rev q⟩
    | sc ds =>
      obtain ⟨a, xs, rfl, h1, r1⟩ := rx
      exact .inr ⟨a, xs, rfl, h1.sq, new_fz S1 r1.rev q⟩
    | ref n =>
      obtain ⟨a, ha, rfl⟩ := rx
      simp only [] at q
      split at q
      · rename_i ds q0
        obtain ⟨xs, h1, r1⟩ := S1.look q0 ha
        exact .inr ⟨a, xs, rfl, SqL.of h1, new_fz S1 r1.rev q⟩
      · exact q.elim
    | _ => exact q.elim⟩
end
/-! ### list of a text -/
def rListS : List V → Hp → VK → Prop := fun xs H Q => ∃ z : Str, xs = [.str z] ∧ z.length ≤ bigLine ∧ ∀ l, H l = none → Q (.ref l) (upd H l (.lst (z.cps.toList.map fun c => V.str ⟨#[c]⟩)))
theorem cr_listS {X : Cx} (hc : X.calm = true) : CallR X (.type "list") rListS := by
  intro pins s σ H xs us Q I r h
  obtain ⟨z, rfl, hz, q⟩ := h
  obtain ⟨u, rfl, rx⟩ := vals1 r
  obtain ⟨t, rfl⟩ := rx
  refine PySem.call_list_str (I.ok.hd hc) z t (fun h' tk acc' c' hk hS hacc => ?_) (big_le hz)
  refine ⟨.ref s.heap.objs.size, _, I.laid hk (Nat.le_refl _) (show ObjOk X.prog X.w _ _ _ (.lst (z.cps.toList.map fun c => V.str ⟨#[c]⟩)) from ⟨?_, acc'.toList, c', ?_, hS⟩), rfl, q _ (I.hok.fresh (Nat.le_refl _))⟩
  · rw [List.length_map, Array.length_toList]; exact big_le hz
  · refine vals_of_at (by rw [List.length_map, Array.length_toList, Array.length_toList, hacc.1]) fun j x w h1 h2 => ?_
    obtain ⟨c, u, hcc, e⟩ := hacc.2 j w (by rw [← Array.getElem?_toList]; exact h2)
    rw [List.getElem?_map, Array.getElem?_toList, hcc] at h1
    cases h1
    exact ⟨u, e⟩
def rListAll (K : PySem.W.Frag) : List V → Hp → VK → Prop := fun xs H Q => rListAny K xs H Q ∨ rListS xs H Q
theorem cr_listAll {X : Cx} (hc : X.calm = true) : CallR X (.type "list") (rListAll X.K) := by
  intro pins s σ H xs us Q I r h
  rcases h with h | h
  · exact cr_listAny hc pins s σ H xs us Q I r h
  · exact cr_listS hc pins s σ H xs us Q I r h
def fListAll : FL := fun xs st => match xs with
  | [.str z] => if z.length ≤ bigLine then .ok (signs z) st else .bad
  | xs => fListD xs st
theorem vrs_signs {B : Bs} {H : Hp} {ι : List Addr} : ∀ cs : List Nat, VRs B H ι (cs.map fun c => D.str ⟨#[c]⟩) (cs.map fun c => V.str ⟨#[c]⟩)
  | [] => rfl
  | _ :: r => ⟨_, _, rfl, rfl, vrs_signs r⟩
theorem rcl_listAll {K : PySem.W.Frag} {mg : Str → Option Value} : RCL K mg (rListAll K) fListAll := by
  intro ρ ι H st xs vs W σ Q S r p
  unfold fListAll at p
  split at p
  · rename_i z
    obtain ⟨v, rfl, h⟩ := vr1 r
    cases h
    split at p
    · rename_i hz
      exact .inr ⟨z, rfl, hz, new_lst S (vrs_signs _) p⟩
    · exact p.elim
  · exact .inl (rcl_listD S r p)
/-! ### tuple * int -/
theorem VRs.rep {B : Bs} {H : Hp} {ι : List Addr} {ds : List D} {vs : List V} (r : VRs B H ι ds vs) : ∀ n : Nat, VRs B H ι (List.replicate n ds).flatten (List.replicate n vs).flatten
  | 0 => rfl
  | n + 1 => by
    rw [List.replicate_succ, List.replicate_succ, List.flatten_cons, List.flatten_cons]
    exact r.append (VRs.rep r n)
def fRepT : F2 := fun x y st => match x, y with
  | .tup ds, .int k => if ds ≠ [] ∧ 2 ≤ k ∧ k ≤ 1000 ∧ ds.length ≤ 1000 then .ok (.tup (List.replicate k.toNat ds).flatten) st else .bad
  | _, _ => .bad
theorem rd_repT {K : PySem.W.Frag} {mg : Str → Option Value} : RD K mg (rRepT K) fRepT := by
  intro ρ ι H st x y v u W σ Q S rx ry p
  unfold fRepT at p
  split at p
  · rename_i ds k
    split at p
    · rename_i c
      obtain ⟨a, xs, rfl, h1, r1⟩ := id rx
      cases ry
      have hl := r1.length
      refine ⟨a, k, xs, rfl, rfl, h1.sq, fun z => c.1 ?_, c.2.1, c.2.2.1, by rw [← hl]; exact c.2.2.2, fun q hq => ?_⟩
      · subst z; exact List.length_eq_zero_iff.mp hl
      · exact new_tup S (r1.rep k.toNat) p q hq
    · exact p.elim
  · exact p.elim
/-! ### own errors with one field -/
/-- __init__ of such a class: def __init__(self, f): self.f = f -/
def spX (K : PySem.W.Frag) (f : Str) : Sp := fun vs H Q _ => ∃ (a C : Addr) (v : V), vs = [.ref a, v] ∧ OexC K C ∧ PySem.W.findIn K (.ref C) f = some none ∧ H a = some (exo a C none) ∧
  ∀ d, H d = none → d ≠ a → Q .non (upd (upd H d (exd d [(f, v)])) a (exo a C (some d)))
/-- what is written of such a class -/
structure ExcFld (K : PySem.W.Frag) (C fI : Addr) (f : Str) : Prop where
  o : OexC K C
  i : PySem.W.findIn K (.ref C) "__init__" = some (some (.ref fI))
  t : PySem.W.typeIn K (.ref fI) = some (.type "function")
  n : PySem.W.findIn K (.ref C) f = some none
  x : XfC K C
theorem passes0 {X : Cx} : Passes (L2.CX X.prog X.w) X (fun _ _ _ => False) := fun pins σ H s e s' I h => by
  obtain ⟨_, _, _, _, _, _, _, _, _, _, _, _, z⟩ := h
  exact z.elim
def dRaiseX (c f : Str) (da : DE) : DS := fun env st => (da env st).bindS env fun v st1 => .exc (c, some (f, v)) env st1
theorem psd_raiseX {X : Cx} {W : WX} {C fI : Addr} {x f : Str} {g0 g1 : Str} {fd : FuncData} {k : Nat} {e : Expr} {da : DE} {p pos pos' : Pos} (hc : X.calm = true) (tk : Takes X W) (T : ExcFld X.K C fI f)
    (F : FnOk X.prog X.w X.K X.mg X.base (L2.CX X.prog X.w) k fI fd [g0, g1] (spX X.K f)) (hr : Room (k + 1) X.A) (hb : Binds X.K fd [g0, g1] []) (gC : X.mg x = some (.ref C)) (hg : Gl X x) (he : PEd X W e da)
    (hdb : (x == ("__debug__" : Str)) = false := by decide) (hs : starEach (e :: []) X.env = (false, eval e X.env) :: starEach [] X.env := by rfl) (hpl : (backTo pos' (starEach [] X.env)).any (·.1) = false := by rfl) :
    PSd X W (.Raise (some (.Call (.Name x p) [e] [] pos')) none pos) (dRaiseX x f da) :=
  PS.mono (ps_raise hc tk (pmk_oex (dvs := []) T.o T.i T.t F hr hb .nil passes0 hg gC (pa_cons he pa_nil hs) hdb hs hpl)) fun E σ H ⟨ρ, ι, st, env, S, ve, q⟩ => by
    refine ⟨ρ, ι, st, env, S, ve, PostS.bind ve q fun y st1 ι1 H1 v s1 S1 ry q1 => ?_⟩
    refine ⟨Nat.le_of_ble_eq_true rfl, fun a ha => ⟨a, C, v, rfl, T.o, T.n, upd_same, fun d hd hne => ⟨rfl, d, [(f, v)], upd_same, ?_, ?_, ?_⟩⟩⟩
    · rw [upd_ne hne, upd_same]
    · rw [upd_ne hne] at hd; exact hd
    · have hd1 : H1 d = none := by rw [upd_ne hne] at hd; exact hd
      have eq : upd (del (upd (upd (upd H1 a (exo a C none)) d (exd d [(f, v)])) a (exo a C (some d))) a) d (.xd [(f, v)]) = upd H1 d (.xd [(f, v)]) := by
        funext b
        by_cases hbd : b = d
        · rw [hbd, upd_same, upd_same]
        · rw [upd_ne hbd, upd_ne hbd]
          by_cases hba : b = a
          · rw [hba, del_same, ha]
          · rw [del_ne hba, upd_ne hba, upd_ne hbd, upd_ne hba]
      rw [eq]
      have sn : Step ι1 H1 ι1 (upd H1 d (.xd [(f, v)])) := Step.new S1 hd1
      exact q1 ι1 _ σ (.ref C) (some d) sn (S1.new hd1) ((ve.step s1).step sn) ⟨C, rfl, gC, d, v, rfl, upd_same, ry.step sn⟩
/-! ### try: .. except X as n: m = n.f -/
def dTryF (sub : Str → Str → Option Bool) (d : DS) (c : Str) (i j : Nat) (f : Str) : DS := fun env st => match d env st with
  | .exc x env1 st1 => if x.1 = c then (match x.2 with
      | some (g, v) => if g = f ∧ i < env1.length then .nx (((env1.set i none).set j (some v)).set i none) st1 else .bad
      | none => .bad)
    else match sub x.1 c with
      | some false => .exc x env1 st1
      | _ => .bad
  | r => r
theorem VEnv.lose {B : Bs} {H : Hp} {ι : List Addr} {env : Env} {σ : L2.St} {i : Nat} {v : V} (h : VEnv B H ι env σ) : VEnv B H ι (env.set i none) (σ.set i (some v)) := by
  refine ⟨by simp [h.1], fun j d e => ?_⟩
  by_cases hj : i = j
  · subst hj
    by_cases hl : i < env.length
    · rw [List.getElem?_set_self hl] at e; cases e
    · rw [List.getElem?_eq_none (by simpa using hl)] at e; cases e
  · rw [List.getElem?_set_ne hj] at e ⊢
    exact h.2 j d e
theorem psd_tryF {X : Cx} {W : WX} {sub : Str → Str → Option Bool} {body : List Stmt} {x n m f : Str} {C fI : Addr} {i j : Nat} {np pos pos' p1 p2 p3 p4 : Pos} {d : DS} (hst : X.stack = X.env :: X.outer) (hf : X.env.frame = some X.env.locals) (hN : X.N.Nodup)
    (hi : X.N[i]? = some n) (hln : X.env.kindOf n = some .local) (hj : X.N[j]? = some m) (hlm : Loc X.env.scope m) (hc : Names X x (.ref C)) (gC : X.mg x = some (.ref C)) (tk : Takes X W) (T : ExcFld X.K C fI f) (hsub : SubOk X.K X.mg sub) (hself : sub x x = some true)
    (hb : ∀ (W' : WX) (pn : List (Addr × Obj)) (xe : Value → Shared → Prop), Takes (X.tr pn xe) W' → PassesOwn (model X.prog X.w) X.A X.env xe → PSsd (X.tr pn xe) W' body d)
    (hvn : ∀ (a : Addr) (pn : List (Addr × Obj)), PE (X.suite a pn) (.Name n p2) (tVar i)) (hba : attributeBase (.Name n p2) f X.env (eval (.Name n p2) X.env) = eval (.Name n p2) X.env := by rfl)
    (hsw : swapsWith (.Attribute (.Name n p2) f p3) (some (.Name m p1)) p4.line X.env = pure false := by rfl) (hfm : X.fn m = true ∨ X.env.scope.names.lookup m = some .local := by first | exact .inl rfl | exact .inr rfl) :
    PSd X W (.Try body [.ExceptHandler (some (.Name x np)) (some n) [.Assign [.Name m p1] (.Attribute (.Name n p2) f p3) p4] pos'] [] [] pos) (dTryF sub d x i j f) := by
  refine PS.mono (ps_try_as (i := i) (tb := fun W' => tSd X.K X.mg W' d) hst hf hN hi hln hc tk hb
    (fun a oe cls dd pn hz hfl => pss_one (ps_set (X := X.suite a ((a, oe) :: pn)) (i := j) hN hj hlm (pe_xf T.x T.n hz hfl (hvn a _) hba) hsw hfm))) fun E σ H ⟨ρ, ι, st, env, S, ve, p⟩ => ⟨ρ, ι, st, env, S, ve, ?_⟩
  unfold dTryF at p
  cases q : d env st with
  | exc y env1 st1 =>
    rw [q] at p
    intro ι1 H1 σ1 cls dd s1 S1 ve1 ex
    obtain ⟨Cy, rfl, hy, hd⟩ := id ex
    simp only [] at p
    split at p
    · rename_i ey
      rw [ey] at hy
      have hC : Cy = C := by
        have z := hy.symm.trans gC
        cases z; rfl
      subst hC
      refine ⟨true, hsub _ _ _ hself _ _ gC gC, fun _ a ha => ?_, fun z => Bool.noConfusion z⟩
      split at p
      · rename_i g v e2
        split at p
        · rename_i eg
          obtain ⟨eg, hlen⟩ := eg
          subst eg
          rw [e2] at hd
          obtain ⟨ed, u, rfl, hed, ru⟩ := hd
          rw [← ve1.1] at hlen
          refine ⟨_, List.getElem?_set_self hlen, rfl, rfl, ed, [(g, u)], u, rfl, hed, by simp [List.lookup], ?_⟩
          exact p ι1 H1 _ s1 S1 (VEnv.gone ((VEnv.lose ve1).set ru))
        · exact p.elim
      · exact p.elim
    · rename_i ne
      split at p
      · rename_i e2
        refine ⟨false, hsub _ _ _ e2 _ _ hy gC, fun z => Bool.noConfusion z, fun _ => p ι1 H1 σ1 (.ref Cy) dd s1 S1 ve1 ex⟩
      · exact p.elim
  | nx e st1 => rw [q] at p; exact p
  | bk e st1 => rw [q] at p; exact p
  | ct e st1 => rw [q] at p; exact p
  | rt x st1 => rw [q] at p; exact p
  | bad => rw [q] at p; exact p.elim
end DD

/-! DD23: what judges need: kinds of values, comprehensions with an if, loops that search, menus. -/
namespace DD
open PySem L2 PyProof.Rows
variable [NMs]
/-! ### >= of texts -/
def fGeS : F2 := fun x y st => match x, y with
  | .int i, .int j => .ok (.bl (decide (j ≤ i))) st
  | .str a, .str b => .ok (.bl (!decide (a.cps.toList < b.cps.toList))) st
  | _, _ => .bad
def rGeS : R2 := fun x y H Q => rI0 (fun i j => .bl (decide (j ≤ i))) x y H Q ∨ (∃ i j, x = .str i ∧ y = .str j ∧ Q (.bl (!decide (i.cps.toList < j.cps.toList))) H)
theorem op_geS {X : Cx} : OpR X (compareOp .GtE) rGeS := OpR.or op_ge op_ge_str
theorem rd_geS {K : PySem.W.Frag} {mg : Str → Option Value} : RD K mg rGeS fGeS := by
  intro ρ ι H st x y v u W σ Q S rx ry p
  unfold fGeS at p
  cases x <;> cases y <;> (try exact p.elim)
  · exact .inl (rd_ge S rx ry p)
  · cases rx; cases ry; exact .inr ⟨_, _, rfl, rfl, p.ok S rfl⟩
@[simp] theorem fGeS_str {a b : Str} {st : Sto} : fGeS (.str a) (.str b) st = .ok (.bl (!decide (a.cps.toList < b.cps.toList))) st := rfl
@[simp] theorem fGeS_int {a b : Int} {st : Sto} : fGeS (.int a) (.int b) st = .ok (.bl (decide (b ≤ a))) st := rfl
/-! ### kinds -/
def Val : D → Bool
  | .non => true | .bl _ => true | .int _ => true | .str _ => true | .tup _ => true | .fz _ => true | .sc _ => true | .fd _ _ => true | _ => false
def isIntD : D → Bool
  | .int _ => true | _ => false
def isStrD : D → Bool
  | .str _ => true | _ => false
def isTupD : D → Bool
  | .tup _ => true | _ => false
def isFdD : D → Bool
  | .fd _ _ => true | _ => false
def isBlD : D → Bool
  | .bl _ => true | _ => false
section
variable {st : Sto} {d : D}
theorem fIsi_int (h : Val d = true) : fIsi [d, .ty "int"] st = .ok (.bl (isIntD d || isBlD d)) st := by
  cases d <;> first | (cases h; done) | (simp only [fIsi, tyName]; rfl)
theorem fIsi_bool (h : Val d = true) : fIsi [d, .ty "bool"] st = .ok (.bl (isBlD d)) st := by
  cases d <;> first | (cases h; done) | (simp only [fIsi, tyName]; rfl)
theorem fIsi_str (h : Val d = true) : fIsi [d, .ty "str"] st = .ok (.bl (isStrD d)) st := by
  cases d <;> first | (cases h; done) | (simp only [fIsi, tyName]; rfl)
theorem fIsi_tuple (h : Val d = true) : fIsi [d, .ty "tuple"] st = .ok (.bl (isTupD d)) st := by
  cases d <;> first | (cases h; done) | (simp only [fIsi, tyName]; rfl)
theorem fIsi_dict (h : Val d = true) : fIsi [d, .ty "dict"] st = .ok (.bl (isFdD d)) st := by
  cases d <;> first | (cases h; done) | (simp only [fIsi, tyName]; rfl)
end
/-- an integer between two -/
def numD (lo hi : Int) : D → Bool
  | .int i => decide (lo ≤ i) && decide (i ≤ hi)
  | _ => false
def tupJ (n : Int) (J : D → Bool) : D → Bool
  | .tup l => decide ((l.length : Int) = n) && l.all J
  | _ => false
/-- values down to a depth -/
def TT : Nat → D → Prop
  | 0, d => Val d = true
  | n + 1, d => Val d = true ∧ ∀ l, d = .tup l → l.length ≤ 1000 ∧ ∀ x ∈ l, TT n x
theorem TT.val : ∀ {n : Nat} {d : D}, TT n d → Val d = true
  | 0, _, h => h
  | _ + 1, _, h => h.1
theorem TT.tup {n : Nat} {l : List D} (h : TT (n + 1) (.tup l)) : l.length ≤ 1000 ∧ ∀ x ∈ l, TT n x := h.2 l rfl
theorem TT.mk {n : Nat} {l : List D} (h : l.length ≤ 1000) (k : ∀ x ∈ l, TT n x) : TT (n + 1) (.tup l) := ⟨rfl, fun l' e => by cases e; exact ⟨h, k⟩⟩
theorem TT.other {n : Nat} {d : D} (h : Val d = true) (k : isTupD d = false) : TT n d := by
  cases n with
  | zero => exact h
  | succ n => exact ⟨h, fun l e => by subst e; cases k⟩
def TxOk (z : Str) : Prop := z.length ≤ 1000 ∧ ∀ c ∈ z.cps.toList, c < 0x110000
/-! ### menus -/
theorem menu {l : List D} {P : D → Prop} {a : Nat} (h : ∀ x ∈ l, P x) (ha : a < l.length) : ∃ x, l[a]? = some x ∧ P x := ⟨l[a], List.getElem?_eq_getElem ha, h _ (List.getElem_mem ha)⟩
/-! ### comprehensions -/
theorem bls_map {α : Type} (f : α → Bool) : ∀ l : List α, blsOf (l.map fun c => .bl (f c)) = some (l.map f)
  | [] => rfl
  | c :: r => by
    show (blsOf (r.map fun c => .bl (f c))).map (f c :: ·) = _
    rw [bls_map f r]; rfl
theorem fAll_map {α : Type} {f : α → Bool} {l : List α} {st : Sto} : fAll [.fz (l.map fun c => .bl (f c))] st = .ok (.bl (l.all f)) st := by
  simp only [fAll, bls_map, List.all_map]
  rfl
section
variable {g : DG} {t : DT} {de : DE} {d : DS} {env : Env} {st : Sto}
theorem lc_filter {P : D → Bool} {f : D → D} : ∀ xs : List D, (∀ x ∈ xs, ∃ env1, g x env = some env1 ∧ t env1 st = .ok (P x) st ∧ (P x = true → de env1 st = .ok (f x) st)) → lcLoop g t de yes env xs st = .ok ((xs.filter P).map f) st
  | [], _ => rfl
  | x :: r, h => by
    obtain ⟨env1, h1, h2, h3⟩ := h x List.mem_cons_self
    have ih := lc_filter r fun y hy => h y (List.mem_cons_of_mem _ hy)
    unfold lcLoop
    simp only [yes, if_true, h1, h2]
    cases q : P x with
    | true => simp only [h3 q, ih, List.filter_cons_of_pos q, List.map_cons]; rfl
    | false =>
      have nq : ¬ P x = true := by rw [q]; exact Bool.false_ne_true
      simp only [ih, List.filter_cons_of_neg nq]
theorem lcf_use {r : Res (List D)} {xs : List D} (P : D → Bool) (f : D → D) (h : lcLoop g t de yes env xs st = r) (hs : ∀ x ∈ xs, ∃ env1, g x env = some env1 ∧ t env1 st = .ok (P x) st ∧ (P x = true → de env1 st = .ok (f x) st)) : r = .ok ((xs.filter P).map f) st := by
  rw [← h]; exact lc_filter xs hs
/-- a loop that gives False at the first one that is not as told -/
theorem for_all {J : D → Bool} {I : Env → Prop} {y : D} : ∀ (xs : List D) (env : Env), I env → (∀ x ∈ xs, ∀ env, I env → ∃ env1, g x env = some env1 ∧ (if J x = true then ∃ env2, d env1 st = .nx env2 st ∧ I env2 else d env1 st = .rt y st)) →
    if xs.all J = true then ∃ env', loop g d yes xs env st = .nx env' st ∧ I env' else loop g d yes xs env st = .rt y st
  | [], env, i, _ => ⟨env, rfl, i⟩
  | x :: r, env, i, h => by
    obtain ⟨env1, h1, h2⟩ := h x List.mem_cons_self env i
    cases q : J x with
    | true =>
      rw [q, if_pos rfl] at h2
      obtain ⟨env2, e2, i2⟩ := h2
      have ih := for_all r env2 i2 fun y hy => h y (List.mem_cons_of_mem _ hy)
      simp only [List.all_cons, q, Bool.true_and]
      unfold loop
      simp only [yes, if_true, h1, e2]
      exact ih
    | false =>
      rw [q, if_neg Bool.false_ne_true] at h2
      simp only [List.all_cons, q, Bool.false_and, if_neg Bool.false_ne_true]
      unfold loop
      simp only [yes, if_true, h1, h2]
theorem fora_use {r : ResS} {xs : List D} (J : D → Bool) (I : Env → Prop) (y : D) (h : loop g d yes xs env st = r) (i : I env) (hs : ∀ x ∈ xs, ∀ env, I env → ∃ env1, g x env = some env1 ∧ (if J x = true then ∃ env2, d env1 st = .nx env2 st ∧ I env2 else d env1 st = .rt y st)) :
    (xs.all J = true ∧ ∃ env', r = .nx env' st ∧ I env') ∨ (xs.all J = false ∧ r = .rt y st) := by
  have := for_all xs env i hs
  rw [h] at this
  cases q : xs.all J with
  | true => rw [q, if_pos rfl] at this; exact .inl ⟨rfl, this⟩
  | false => rw [q, if_neg Bool.false_ne_true] at this; exact .inr ⟨rfl, this⟩
end
/-! ### texts -/
theorem tx_eta (z : Str) : z = tx z.cps.toList := by cases z; simp [tx]
theorem rev_tx (cs : List Nat) : revS (tx cs) = tx cs.reverse := by simp [revS, tx]
@[simp] theorem dBack_e {da : DE} {env : Env} {st : Sto} : dBack da env st = (da env st).bind fun x st1 => match x with
  | .str z => if z.length ≤ bigLine then .ok (.str (revS z)) st1 else .bad
  | .fz ds => .ok (.fz ds.reverse) st1
  | .sc ds => .ok (.fz ds.reverse) st1
  | .ref n => match st1[n]? with
    | some (.lst ds) => .ok (.fz ds.reverse) st1
    | _ => .bad
  | _ => .bad := rfl
@[simp] theorem dRaiseX_e {c f : Str} {da : DE} {env : Env} {st : Sto} : dRaiseX c f da env st = (da env st).bindS env fun v st1 => .exc (c, some (f, v)) env st1 := rfl
def tryFR (sub : Str → Str → Option Bool) (c : Str) (i j : Nat) (f : Str) (r : ResS) : ResS := match r with
  | .exc x env1 st1 => if x.1 = c then (match x.2 with
      | some (g, v) => if g = f ∧ i < env1.length then .nx (((env1.set i none).set j (some v)).set i none) st1 else .bad
      | none => .bad)
    else match sub x.1 c with
      | some false => .exc x env1 st1
      | _ => .bad
  | r => r
@[simp] theorem dTryF_e {sub : Str → Str → Option Bool} {d : DS} {c : Str} {i j : Nat} {f : Str} {env : Env} {st : Sto} : dTryF sub d c i j f env st = tryFR sub c i j f (d env st) := by
  unfold dTryF tryFR
  cases d env st <;> rfl
@[simp] theorem tryFR_nx {sub : Str → Str → Option Bool} {c : Str} {i j : Nat} {f : Str} {env : Env} {st : Sto} : tryFR sub c i j f (.nx env st) = .nx env st := rfl
@[simp] theorem tryFR_exc {sub : Str → Str → Option Bool} {c : Str} {i j : Nat} {f : Str} {env : Env} {st : Sto} {v : D} : tryFR sub c i j f (.exc (c, some (f, v)) env st) = if i < env.length then .nx (((env.set i none).set j (some v)).set i none) st else .bad := by
  simp [tryFR]
/-! ### equal to itself -/
/-- integers and tuples of such -/
def IntT : Nat → D → Prop
  | 0, d => ∃ i, d = .int i
  | n + 1, d => ∃ l, d = .tup l ∧ ∀ x ∈ l, IntT n x
theorem intT_py {st : Sto} : ∀ (n : Nat) (d : D), IntT n d → ∃ p, toPy st d = some p ∧ p.canLay0 = true ∧ p.depth ≤ n ∧ PyData.eqv p p = true
  | 0, _, ⟨i, e⟩ => by
    subst e
    exact ⟨.int i, rfl, by simp [PyData.canLay0], by simp [PyData.depth], by simp [PyData.eqv]⟩
  | n + 1, _, ⟨l, e, h⟩ => by
    subst e
    have all : ∀ l : List D, (∀ x ∈ l, IntT n x) → ∃ ps, toPys st l = some ps ∧ PyData.canLayAll0 ps = true ∧ PyData.depthAll ps ≤ n ∧ PyData.eqvAll ps ps = true := by
      intro l
      induction l with
      | nil => intro _; exact ⟨[], rfl, by simp [PyData.canLayAll0], by simp [PyData.depthAll], by simp [PyData.eqvAll]⟩
      | cons x r ih =>
        intro h
        obtain ⟨p, e1, c1, d1, q1⟩ := intT_py (st := st) n x (h x List.mem_cons_self)
        obtain ⟨ps, e2, c2, d2, q2⟩ := ih fun y hy => h y (List.mem_cons_of_mem _ hy)
        refine ⟨p :: ps, ?_, ?_, ?_, ?_⟩
        · show (match toPy st x, toPys st r with | some x, some xs => some (x :: xs) | _, _ => none) = _
          rw [e1, e2]
        · simp [PyData.canLayAll0, c1, c2]
        · simp only [PyData.depthAll]; omega
        · simp [PyData.eqvAll, q1, q2]
    obtain ⟨ps, e, c, dd, q⟩ := all l h
    refine ⟨.tuple ps, ?_, ?_, ?_, ?_⟩
    · show (toPys st l).map PyData.tuple = _
      rw [e]; rfl
    · simp [PyData.canLay0, c]
    · simp only [PyData.depth]; omega
    · simp [PyData.eqv, q]
theorem fEq_self {neg : Bool} {n : Nat} {d : D} {st : Sto} (h : IntT n d) (hn : n ≤ 64) : fEq neg d d st = .ok (.bl (!neg)) st := by
  obtain ⟨p, e, c, dd, q⟩ := intT_py (st := st) n d h
  have s : SeqAt.shaped p = true := by
    unfold SeqAt.shaped
    rw [c, decide_eq_true (Nat.le_trans dd hn)]; rfl
  simp only [fEq, e, s, and_self, if_true, q]
  cases neg <;> rfl
end DD

/-! DD24: dicts read, gone over, made by comprehensions and from others; properties; gcd, lcm, sum. -/
namespace DD
open PySem L2 PyProof.Rows
variable [NMs]
/-! ### reading a dict -/
def lookD (k : Key) : List Key → List D → Option D
  | k' :: ks, d :: ds => if k' = k then some d else lookD k ks ds
  | _, _ => none
theorem look_vr {B : Bs} {H : Hp} {ι : List Addr} (k : Key) : ∀ (ks : List Key) {ds : List D} {xs : List V}, ks.length = xs.length → VRs B H ι ds xs →
    (lookD k ks ds = none ∧ valV (ks.zip xs) k = none) ∨ ∃ d v, lookD k ks ds = some d ∧ valV (ks.zip xs) k = some v ∧ VR B H ι d v
  | [], _, _, _, _ => .inl ⟨rfl, rfl⟩
  | _ :: _, [], _, l, r => by cases r; simp at l
  | k' :: ks, d :: ds, _, l, ⟨x, t, e, h, r⟩ => by
    subst e
    by_cases hk : k' = k
    · exact .inr ⟨d, x, by simp [lookD, hk], by simp [valV, hk], h⟩
    · have ih := look_vr k ks (ds := ds) (xs := t) (by simpa using l) r
      have e1 : lookD k (k' :: ks) (d :: ds) = lookD k ks ds := by simp [lookD, hk]
      have e2 : valV ((k', x) :: ks.zip t) k = valV (ks.zip t) k := by simp [valV, hk]
      rw [List.zip_cons_cons, e1, e2]
      exact ih
/-- the pairs of a dict: by value, or in the store -/
def dctOf (x : D) (st : Sto) : Option (List Key × List D) := match x with
  | .fd ks ds => some (ks, ds)
  | .ref n => match st[n]? with
    | some (.dct ks ds) => some (ks, ds)
    | _ => none
  | _ => none
theorem dct_of {B : Bs} {H : Hp} {ι : List Addr} {st : Sto} {x : D} {v : V} {ks : List Key} {ds : List D} (S : Sim B H ι st) (r : VR B H ι x v) (h : dctOf x st = some (ks, ds)) : ∃ a xs, v = .ref a ∧ Rd H a (.dK (ks.zip xs)) ∧ ks.length = xs.length ∧ VRs B H ι ds xs := by
  unfold dctOf at h
  split at h
  · cases h
    obtain ⟨a, od, kvs, xs, rfl, h1, m, e, l, r1⟩ := r
    subst e
    exact ⟨a, xs, rfl, .inr ⟨od, h1⟩, l, r1⟩
  · rename_i n
    obtain ⟨a, ha, rfl⟩ := r
    split at h
    · rename_i ks' ds' q
      cases h
      obtain ⟨kvs, xs, h1, e, l, r1⟩ := S.look q ha
      subst e
      exact ⟨a, xs, rfl, .inl h1, l, r1⟩
    · cases h
  · cases h
def getR (x k : D) (st : Sto) : Res D := match dctOf x st, keyD k with
  | some (ks, ds), some k => match lookD k ks ds with
    | some d => .ok d st
    | none => .bad
  | _, _ => .bad
def dDGet (da dk : DE) : DE := fun env st => (da env st).bind fun x st1 => (dk env st1).bind fun k st2 => getR x k st2
def hasR (neg : Bool) (k x : D) (st : Sto) : Res D := match dctOf x st, keyD k with
  | some (ks, ds), some k => .ok (.bl (if neg then !(lookD k ks ds).isSome else (lookD k ks ds).isSome)) st
  | _, _ => .bad
def dDHas (neg : Bool) (dk da : DE) : DE := fun env st => (dk env st).bind fun k st1 => (da env st1).bind fun x st2 => hasR neg k x st2
section
variable {X : Cx} {W : WX} {o i e a b : Expr} {es : List Expr} {da dk : DE} {ds : DA} {pos p : Pos}
theorem pd_dget (hu : X.A.units + 1 < cLine) (ho : PEd X W o da) (hi : PEd X W i dk) (hs : NoSl i := by exact fun _ _ => rfl) : PEd X W (.Subscript o i pos) (dDGet da dk) :=
  PE.mono (pe_dget hu ho hi hs) fun σ H Q ⟨ρ, ι, st, env, S, ve, q⟩ => ⟨ρ, ι, st, env, S, ve, Post.bind q fun x st1 ι1 H1 v s1 S1 rx q1 => ⟨ρ, ι1, st1, env, S1, ve.step s1, Post.bind q1 fun k st2 ι2 H2 w s2 S2 rk q2 => by
    unfold getR at q2
    split at q2
    · rename_i ks ds kk e1 e2
      obtain ⟨a, xs, rfl, h1, l, r1⟩ := dct_of S2 (VR.step s2 rx) e1
      have ew := keyD_of rk e2
      rcases look_vr kk ks l r1 with ⟨e3, _⟩ | ⟨d, u, e3, e4, ru⟩
      · rw [e3] at q2; exact q2.elim
      · rw [e3] at q2
        exact ⟨a, u, rfl, .inl ⟨_, kk, h1, ew, e4.symm⟩, q2.ok S2 ru⟩
    · exact q2.elim⟩⟩
theorem has_read {neg : Bool} {K : PySem.W.Frag} {mg : Str → Option Value} {σ : L2.St} {H : Hp} {Q : VK} (h : tG K mg relV W (dDHas neg dk da) σ H Q) : (tG K mg relV W dk) σ H fun y H1 => (tG K mg relV W da) σ H1 fun x H2 => ∃ a o, x = .ref a ∧ DGet H2 a y o ∧ Q (.bl (if neg then !o.isSome else o.isSome)) H2 := by
  obtain ⟨ρ, ι, st, env, S, ve, q⟩ := h
  refine ⟨ρ, ι, st, env, S, ve, Post.bind q fun k st1 ι1 H1 w s1 S1 rk q1 => ⟨ρ, ι1, st1, env, S1, ve.step s1, Post.bind q1 fun x st2 ι2 H2 v s2 S2 rx q2 => ?_⟩⟩
  unfold hasR at q2
  split at q2
  · rename_i ks ds kk e1 e2
    obtain ⟨a, xs, rfl, h1, l, r1⟩ := dct_of S2 rx e1
    have ew := keyD_of (VR.step s2 rk) e2
    refine ⟨a, valV (ks.zip xs) kk, rfl, .inl ⟨_, kk, h1, ew, rfl⟩, ?_⟩
    rcases look_vr kk ks l r1 with ⟨e3, e4⟩ | ⟨d, u, e3, e4, ru⟩
    · rw [e4]; rw [e3] at q2; exact q2.ok S2 rfl
    · rw [e4]; rw [e3] at q2; exact q2.ok S2 rfl
  · exact q2.elim
theorem pd_din (hu : X.A.units + 1 < cLine) (hi : PEd X W i dk) (ho : PEd X W o da) (hm : behindInMarks .In o = false := by rfl) : PEd X W (.Compare i [.In] [o] pos) (dDHas false dk da) :=
  PE.mono (pe_cmp (pc_din hu hi ho) hm) fun σ H Q h => has_read (neg := false) h
theorem pd_dnin (hu : X.A.units + 1 < cLine) (hi : PEd X W i dk) (ho : PEd X W o da) (hm : behindInMarks .NotIn o = false := by rfl) : PEd X W (.Compare i [.NotIn] [o] pos) (dDHas true dk da) :=
  PE.mono (pe_cmp (pc_dnotin hu hi ho) hm) fun σ H Q h => has_read (neg := true) h
theorem tst_of {dE : DE} {t : TE} {σ : L2.St} {H : Hp} {Q : Bool → Hp → Prop} {K : PySem.W.Frag} {mg : Str → Option Value} (k : ∀ Q : VK, tG K mg relV W dE σ H Q → t σ H Q) (h : tG K mg relB W (dTst dE) σ H Q) : tB t σ H Q := by
  obtain ⟨ρ, ι, st, env, S, ve, q⟩ := h
  refine k _ ⟨ρ, ι, st, env, S, ve, Post.bind q fun x st1 ι1 H1 v s1 S1 rx q1 => ?_⟩
  cases x <;> (try exact q1.elim)
  cases rx
  exact ⟨_, rfl, q1.ok S1 rfl⟩
theorem ptd_din (hu : X.A.units + 1 < cLine) (hi : PEd X W i dk) (ho : PEd X W o da) (hm : behindInMarks .In o = false := by rfl) : PTd X W (.Compare i [.In] [o] pos) (dTst (dDHas false dk da)) :=
  PT.mono (pt_cmp (pc_din hu hi ho) hm) fun σ H Q h => tst_of (fun Q h => has_read (neg := false) h) h
theorem ptd_dnin (hu : X.A.units + 1 < cLine) (hi : PEd X W i dk) (ho : PEd X W o da) (hm : behindInMarks .NotIn o = false := by rfl) : PTd X W (.Compare i [.NotIn] [o] pos) (dTst (dDHas true dk da)) :=
  PT.mono (pt_cmp (pc_dnotin hu hi ho) hm) fun σ H Q h => tst_of (fun Q h => has_read (neg := true) h) h
/-! ### len, dict -/
def rLenD : List V → Hp → VK → Prop := fun xs H Q => ∃ a kvs, xs = [.ref a] ∧ Rd H a (.dK kvs) ∧ Q (.int (kvs.length : Nat)) H
theorem cr_lenD : CallR X (.builtin "len") rLenD := by
  rintro pins s σ H xs us Q I r ⟨a, kvs, rfl, ha, q⟩
  obtain ⟨u, rfl, ru⟩ := vals1 r
  cases ru
  exact d_len I ha fun t s' I' => ⟨.int (kvs.length : Nat), H, I', ⟨t, rfl⟩, q⟩
def fLenD : FC := fun xs st => match xs with
  | [x] => match dctOf x st with
    | some (ks, _) => .ok (.int (ks.length : Nat)) st
    | none => .bad
  | _ => .bad
theorem zip_len {ks : List Key} {xs : List V} (l : ks.length = xs.length) : (ks.zip xs).length = ks.length := by rw [List.length_zip, ← l, Nat.min_self]
theorem rc_lenD {K : PySem.W.Frag} {mg : Str → Option Value} : RC K mg rLenD fLenD := by
  intro ρ ι H st xs vs W σ Q S r p
  unfold fLenD at p
  split at p
  · rename_i x
    obtain ⟨v, rfl, h⟩ := vr1 r
    split at p
    · rename_i ks ds e
      obtain ⟨a, ys, rfl, h1, l, r1⟩ := dct_of S h e
      exact ⟨a, _, rfl, h1, by rw [zip_len l]; exact p.ok S rfl⟩
    · exact p.elim
  · exact p.elim
def rDictD : List V → Hp → VK → Prop := fun xs H Q => ∃ (a : Addr) (kvs : List (Key × V)), xs = [.ref a] ∧ Rd H a (.dK kvs) ∧ ∀ p, H p = none → Q (.ref p) (upd H p (.dK kvs))
def fDictD : FC := fun xs st => match xs with
  | [x] => match dctOf x st with
    | some (ks, ds) => .ok (.fd ks ds) st
    | none => .bad
  | _ => .bad
theorem pd_dict {x : Str} (hg : Gl X x) (hm : X.mg x = none) (hv : bootBuiltins x = some (.type "dict")) (ha : PAd X W (e :: es) ds) (hn : x ≠ "__name__" := by decide) (hdb : (x == ("__debug__" : Str)) = false := by decide)
    (he : starEach (e :: es) X.env = (false, eval e X.env) :: starEach es X.env := by rfl) (hpl : (backTo pos (starEach es X.env)).any (·.1) = false := by rfl) : PEd X W (.Call (.Name x p) (e :: es) [] pos) (dCall fDictD ds) :=
  PE.mono (pe_freeze (pe_callTy call_dictD hg hm hv ha hn hdb he hpl)) fun σ H Q ⟨ρ, ι, st, env, S, ve, q⟩ => ⟨ρ, ι, st, env, S, ve, Post.bind q fun xs st1 ι1 H1 vs s1 S1 rx q1 => by
    unfold fDictD at q1
    split at q1
    · rename_i x
      obtain ⟨v, rfl, h⟩ := vr1 rx
      split at q1
      · rename_i ks ds e
        obtain ⟨a, ys, rfl, h1, l, r1⟩ := dct_of S1 h e
        exact ⟨a, _, rfl, h1, fun p hp => new_fd S1 l r1 q1 p hp⟩
      · exact q1.elim
    · exact q1.elim⟩
/-! ### gone over by its keys -/
def dKeysD (da : DE) : DI := fun env st => (da env st).bind fun x st1 => match x with
  | .fd ks _ => .ok (ks.map dK', yes) st1
  | _ => .bad
theorem itk_ok {B : Bs} {ι1 : List Addr} {H1 : Hp} {a : Addr} {od : Obj} {ks : List Key} {xs : List V} (h : H1 a = some (.frz od (.dK (ks.zip xs)))) (m : a ∉ ι1) (l : ks.length = xs.length) : ItOk B (Itk a od (ks.zip xs)) ι1 H1 yes (ks.map dK') := by
  refine ⟨fun ρ' i ι' H' st' f s S k hi => ⟨s.rest _ _ m h, ?_⟩, fun ρ' i d ι' H' st' v H'' f s S k hd y => ?_, fun ρ' i ι' H' st' f s S k hi => ⟨s.rest _ _ m h, ?_⟩⟩
  · rw [zip_len l]; simpa using hi
  · obtain ⟨e, kk, w, e1, rfl⟩ := y
    subst e
    refine ⟨Step.refl _ _, S, ?_⟩
    have e2 : ks[i]? = some kk := by
      have := congrArg (fun l => (l.map Prod.fst)[i]?) (rfl : ks.zip xs = ks.zip xs)
      have z : (ks.zip xs).map Prod.fst = ks := List.map_fst_zip (Nat.le_of_eq l)
      have := congrArg (fun o => o.map Prod.fst) e1
      rw [← List.getElem?_map, z] at this
      exact this
    rw [List.getElem?_map, e2] at hd
    cases hd
    exact vr_dK kk
  · rw [zip_len l]; simpa using hi
theorem pid_keys {tg : Expr} (ha : PEd X W e da) : PId X W tg e (dKeysD da) := PI.mono (pi_keys ha) fun σ H R ⟨ρ, ι, st, env, S, ve, q⟩ => ⟨ρ, ι, st, env, S, ve, Post.bind q fun x st1 ι1 H1 v s1 S1 rx q1 => by
  cases x <;> (try exact q1.elim)
  rename_i ks ds
  obtain ⟨a, od, kvs, xs, rfl, h1, m, e, l, r1⟩ := rx
  subst e
  exact ⟨a, od, rfl, .inl ⟨_, h1, q1.ok S1 ⟨itk_ok h1 m.1 l, rfl⟩⟩⟩⟩
/-! ### numbers -/
def fGcd : FC := fun xs st => match xs with
  | [.int a, .int b] => .ok (.int ((Nat.gcd a.natAbs b.natAbs : Nat) : Int)) st
  | _ => .bad
theorem rc_gcd {K : PySem.W.Frag} {mg : Str → Option Value} : RC K mg rGcd fGcd := by
  intro ρ ι H st xs vs W σ Q S r p
  unfold fGcd at p
  split at p
  · obtain ⟨v, w, rfl, h, k⟩ := vr2 r; cases h; cases k; exact ⟨_, _, rfl, p.ok S rfl⟩
  · exact p.elim
def rLcm : List V → Hp → VK → Prop := fun vs H Q => ∃ a b : Int, vs = [.int a, .int b] ∧ a.natAbs < 10 ^ 19 ∧ b.natAbs < 10 ^ 19 ∧ Q (.int ((Nat.lcm a.natAbs b.natAbs : Nat) : Int)) H
theorem cr_lcm : CallR X (.builtin "math.lcm") rLcm := by
  rintro pins s σ H vs us Q I r ⟨a, b, rfl, ha, hb, q⟩
  obtain ⟨t, u, rfl⟩ := Vals.int2 r
  exact PySem.W.mc_lcm (Nat.lt_of_lt_of_le ha (by decide)) (Nat.lt_of_lt_of_le hb (by decide)) fun _ => ⟨.int _, H, I.tok _, ⟨_, rfl⟩, q⟩
def fLcm : FC := fun xs st => match xs with
  | [.int a, .int b] => if a.natAbs < 10 ^ 19 ∧ b.natAbs < 10 ^ 19 then .ok (.int ((Nat.lcm a.natAbs b.natAbs : Nat) : Int)) st else .bad
  | _ => .bad
theorem rc_lcm {K : PySem.W.Frag} {mg : Str → Option Value} : RC K mg rLcm fLcm := by
  intro ρ ι H st xs vs W σ Q S r p
  unfold fLcm at p
  split at p
  · obtain ⟨v, w, rfl, h, k⟩ := vr2 r
    cases h; cases k
    split at p
    · rename_i c; exact ⟨_, _, rfl, c.1, c.2, p.ok S rfl⟩
    · exact p.elim
  · exact p.elim
/-- a module's name for a function of math -/
theorem pd_callF {x : Str} {id : String} {r : List V → Hp → VK → Prop} {f : FC} (hc : CallR X (.builtin id) r) (hr : RC X.K X.mg r f) (hg : Gl X x) (hm : X.mg x = some (.builtin id)) (ha : PAd X W (e :: es) ds) (hdb : (x == ("__debug__" : Str)) = false := by decide)
    (he : starEach (e :: es) X.env = (false, eval e X.env) :: starEach es X.env := by rfl) (hpl : (backTo pos (starEach es X.env)).any (·.1) = false := by rfl) : PEd X W (.Call (.Name x p) (e :: es) [] pos) (dCall f ds) :=
  PE.mono (pe_callBfun hc hg hm ha hdb he hpl) fun σ H Q ⟨ρ, ι, st, env, S, ve, q⟩ => ⟨ρ, ι, st, env, S, ve, Post.bind q fun xs st1 ι1 H1 vs s1 S1 rx q1 => hr S1 rx q1⟩
def intsS : List D → Option (List Int)
  | [] => some []
  | .int i :: r => (intsS r).map (i :: ·)
  | _ => none
theorem intsS_vr {B : Bs} {H : Hp} {ι : List Addr} : ∀ {ds : List D} {xs : List V} {ns : List Int}, VRs B H ι ds xs → intsS ds = some ns → xs = ns.map V.int
  | [], _, _, r, e => by cases r; cases e; rfl
  | d :: ds, _, ns, ⟨x, t, e1, h, r⟩, e => by
    subst e1
    cases d <;> first | (cases e; done) | skip
    rename_i i
    obtain ⟨ms, e2, rfl⟩ := Option.map_eq_some_iff.mp (show (intsS ds).map (i :: ·) = some ns from e)
    cases h
    rw [intsS_vr r e2]; rfl
def fSum : FC := fun xs st => match xs with
  | [x] => match itemsD x st with
    | some ds => match intsS ds with
      | some ns => .ok (.int ns.sum) st
      | none => .bad
    | none => .bad
  | _ => .bad
end
end DD

/-! DD25: dict comprehensions, properties, sum. -/
namespace DD
open PySem L2 PyProof.Rows
variable [NMs]
/-! ### {k: v for x in ..} -/
def dcLoop (g : DG) (t : DT) (dk dv : DE) (keep : Sto → Bool) (env : Env) : List D → List Key → List D → Sto → Res (List Key × List D)
  | [], ks, ds, st => if keep st = true then .ok (ks, ds) st else .bad
  | x :: r, ks, ds, st => if keep st = true then (match g x env with
    | none => .bad
    | some env1 => match t env1 st with
      | .ok true st1 => match dk env1 st1 with
        | .ok k st2 => match dv env1 st2 with
          | .ok v st3 => match keyD k with
            | some kk => dcLoop g t dk dv keep env r (pkD kk v ks ds).1 (pkD kk v ks ds).2 st3
            | none => .bad
          | _ => .bad
        | _ => .bad
      | .ok false st1 => dcLoop g t dk dv keep env r ks ds st1
      | _ => .bad) else .bad
def dDc (di : DI) (g : DG) (t : DT) (dk dv : DE) (vs : List Nat) : DE := fun env st => (di env st).bind fun a st1 => if a.1.length ≤ bigLine then (dcLoop g t dk dv a.2 (wipeE vs env) a.1 [] [] st1).bind fun kd st2 => .ok (.fd kd.1 kd.2) st2 else .bad
theorem pk_len {k : Key} {d : D} {ks : List Key} {ds : List D} : (pkD k d ks ds).1.length ≤ ks.length + 1 := by
  unfold pkD; split <;> simp
theorem dc_read {K : PySem.W.Frag} {mg : Str → Option Value} {W : WX} {g : DG} {G : TG} {ix vs : List Nat} {t : DT} {dk dv : DE} {di : DI} (gs : GS K mg G ix g) (hix : ∀ j ∈ ix, j ∈ vs) {σ : L2.St} {H : Hp} {Q : VK} (h : tG K mg relV W (dDc di g t dk dv vs) σ H Q) :
    tDc (tG K mg relI W di) G (tG K mg relB W0 t) (tG K mg relV W0 dk) (tG K mg relV W0 dv) vs σ H (fun v H1 => ∃ d u, v = .ref d ∧ H1 d = some u ∧ Mut (some u) ∧ ∀ od, Q v (upd H1 d (.frz od u))) := by
  obtain ⟨ρ, ι, st, env, S, ve, p⟩ := h
  refine ⟨ρ, ι, st, env, S, ve, Post.bind0 p fun a st1 ι1 H1 J s1 S1 rx p1 => ?_⟩
  obtain ⟨ds, keep⟩ := a
  obtain ⟨io, k0⟩ := rx
  intro Dd hD
  by_cases hz : ds.length ≤ bigLine
  case neg => simp only [hz, if_false] at p1; exact p1.elim
  simp only [hz, if_true] at p1
  have m1 : Dd ∉ ι1 := S1.fresh hD
  have hρ : Dd ∉ ρ := S1.fr hD
  have fine : Fine H1 ρ (Dd :: ρ) := fun a ha => (List.mem_cons.mp ha).elim (fun z => .inr (z ▸ hD)) .inl
  refine ⟨fun i m H' => i + m = ds.length ∧ ∃ ι' st' ks vd vs', Step ι1 H1 ι' H' ∧ Sim ((⟨K, mg, ρ⟩ : Bs).more Dd) H' ι' st' ∧ H' Dd = some (.dK (ks.zip vs')) ∧ ks.length = vs'.length ∧ VRs ((⟨K, mg, ρ⟩ : Bs).more Dd) H' ι' vd vs' ∧ ks.length ≤ i ∧
      Post ⟨K, mg, ρ⟩ relV W σ ι H ((dcLoop g t dk dv keep (wipeE vs env) (ds.drop i) ks vd st').bind fun kd st2 => .ok (.fd kd.1 kd.2) st2) Q,
    ⟨ds.length, by omega, ι1, st1, [], [], [], Step.new S1 hD, S1.reserve hD, upd_same, rfl, rfl, Nat.le_refl _, p1⟩, ?_⟩
  rintro i m H' ⟨em, ι', st', ks, vd, vs', s', S', hl, ll, ra, la, p'⟩
  have ve0 : VEnv ((⟨K, mg, ρ⟩ : Bs).more Dd) H' ι' (wipeE vs env) (wipe σ vs) := VEnv.wipe (VEnv.step s' (VEnv.fine (K := K) (mg := mg) fine (ve.step s1)))
  by_cases hi : i < ds.length
  · rw [List.drop_eq_getElem_cons hi] at p'
    unfold dcLoop at p'
    by_cases hk : keep st' = true
    case neg => simp only [hk, if_false] at p'; exact p'.elim
    simp only [hk, if_true] at p'
    refine .inr ⟨io.go (Dd :: ρ) i ι' H' st' fine s' S' hk hi, fun H2 => ∃ ι2 st2 ks2 vd2 vs2, Step ι1 H1 ι2 H2 ∧ Sim ((⟨K, mg, ρ⟩ : Bs).more Dd) H2 ι2 st2 ∧ H2 Dd = some (.dK (ks2.zip vs2)) ∧ ks2.length = vs2.length ∧ VRs ((⟨K, mg, ρ⟩ : Bs).more Dd) H2 ι2 vd2 vs2 ∧ ks2.length ≤ i + 1 ∧
      Post ⟨K, mg, ρ⟩ relV W σ ι H ((dcLoop g t dk dv keep (wipeE vs env) (ds.drop (i + 1)) ks2 vd2 st2).bind fun kd st2 => .ok (.fd kd.1 kd.2) st2) Q,
      fun H2 ⟨ι2, st2, ks2, vd2, vs2, s2, S2, h2, e2, r2, l2, p2⟩ => ⟨m - 1, by omega, by omega, ι2, st2, ks2, vd2, vs2, s2, S2, h2, e2, r2, l2, p2⟩, fun x H'' hy => ?_⟩
    obtain ⟨s3, S3, vr⟩ := io.yld (Dd :: ρ) i ds[i] ι' H' st' x H'' fine s' S' hk (List.getElem?_eq_getElem hi) hy
    have S3 : Sim ⟨K, mg, Dd :: ρ⟩ H'' ι' st' := S3
    have mD : Dd ∉ ι' := (S'.rs Dd List.mem_cons_self).2
    have hl3 := s3.rest _ _ mD hl
    cases q : g ds[i] (wipeE vs env) with
    | none => rw [q] at p'; exact p'.elim
    | some env1 =>
      rw [q] at p'
      simp only [] at p'
      refine gs S3 (ve0.step s3) vr q fun σ4 ve4 off => ⟨wipe_off off hix, Dd :: ρ, ι', st', env1, S3, ve4, ?_⟩
      cases q2 : t env1 st' with
      | bad => rw [q2] at p'; exact p'.elim
      | exc y st2 => rw [q2] at p'; exact p'.elim
      | ok b st2 =>
        rw [q2] at p'
        intro ι5 H5 b' s5 S5 eb
        cases eb
        have s15 := (s'.trans s3).trans s5
        have hl5 := s5.rest _ _ mD hl3
        have m5 : Dd ∉ ι5 := (S5.rs Dd List.mem_cons_self).2
        cases b with
        | false => exact iteF ⟨ι5, st2, ks, vd, vs', s15, S5, hl5, ll, (ra.step s3).step s5, by omega, p'⟩
        | true =>
          refine iteT ⟨Dd :: ρ, ι5, st2, env1, S5, ve4.step s5, ?_⟩
          simp only [] at p'
          cases q3 : dk env1 st2 with
          | bad => rw [q3] at p'; exact p'.elim
          | exc y st3 => rw [q3] at p'; exact p'.elim
          | ok y st3 =>
            rw [q3] at p'
            intro ι6 H6 v6 s6 S6 r6
            have hl6 := s6.rest _ _ m5 hl5
            have m6 : Dd ∉ ι6 := (S6.rs Dd List.mem_cons_self).2
            refine ⟨Dd :: ρ, ι6, st3, env1, S6, (ve4.step s5).step s6, ?_⟩
            simp only [] at p'
            cases q4 : dv env1 st3 with
            | bad => rw [q4] at p'; exact p'.elim
            | exc y st3 => rw [q4] at p'; exact p'.elim
            | ok z st4 =>
              rw [q4] at p'
              intro ι7 H7 v7 s7 S7 r7
              have hl7 := s7.rest _ _ m6 hl6
              simp only [] at p'
              cases q5 : keyD y with
              | none => rw [q5] at p'; exact p'.elim
              | some kk =>
                rw [q5] at p'
                have ra7 := (((ra.step s3).step s5).step s6).step s7
                have S7 : Sim ((⟨K, mg, ρ⟩ : Bs).more Dd) H7 ι7 st4 := S7
                obtain ⟨ys, e8, l8, r8⟩ := pk_vr (k := kk) (show VR ((⟨K, mg, ρ⟩ : Bs).more Dd) H7 ι7 z v7 from r7) ll ra7
                refine ⟨ks.zip vs', kk, keyD_of r6 q5, hl7, ?_, ι7, st4, _, _, ys, ((s15.trans s6).trans s7).scr hD, S7.scr, upd_same.trans (by rw [e8]), l8, r8.scr, Nat.le_trans pk_len (by omega), p'⟩
                rw [zip_len ll]
                exact Nat.lt_of_le_of_lt (by omega : ks.length ≤ ds.length) (big_lt hz)
  · have e : ds.drop i = [] := List.drop_eq_nil_of_le (by omega)
    rw [e] at p'
    unfold dcLoop at p'
    by_cases hk : keep st' = true
    case neg => simp only [hk, if_false] at p'; exact p'.elim
    simp only [hk, if_true, Res.bind_ok] at p'
    refine .inl ⟨io.stop (Dd :: ρ) i ι' H' st' fine s' S' hk (Nat.le_of_not_lt hi), Dd, _, rfl, hl, True.intro, fun od => ?_⟩
    have mD : Dd ∉ ι' := (S'.rs Dd List.mem_cons_self).2
    exact p' ι' _ (.ref Dd) (s1.trans (s'.scr hD)) (S'.scr.less) ⟨Dd, od, _, vs', rfl, upd_same, ⟨mD, hρ⟩, rfl, ll, ra.scr.less.1⟩
section
variable {X : Cx} {W : WX} {kx vx tg iter : Expr} {ifs : List Expr} {scope : Scope} {own : List (Str × Nat)} {pos spos : Pos} {g : DG} {G : TG} {ix ixs : List Nat} {t : DT} {dk dv : DE} {di : DI}
theorem pd_dc (hc : X.calm = true) (hN : X.N.Nodup) (hi : PId X W tg iter di) (ok : BlkOk X.N X.env.scope scope own) (gs : GS X.K X.mg G ix g) (hix : ∀ j ∈ ix, j ∈ own.map (·.2))
    (hg : ∀ (s : Shared) (H : Hp) (C : Addr) (cl : List (Str × Addr)) (fp : List Addr), PG (X.blk s H scope (compEnvC scope cl C X.env) fp) tg G) (ht : ∀ (s : Shared) (H : Hp) (C : Addr) (cl : List (Str × Addr)) (fp : List Addr), PTsd (X.blk s H scope (compEnvC scope cl C X.env) fp) W0 ifs t)
    (hk : ∀ (s : Shared) (H : Hp) (C : Addr) (cl : List (Str × Addr)) (fp : List Addr), PEd (X.blk s H scope (compEnvC scope cl C X.env) fp) W0 kx dk)
    (hv : ∀ (s : Shared) (H : Hp) (C : Addr) (cl : List (Str × Addr)) (fp : List Addr), PEd (X.blk s H scope (compEnvC scope cl C X.env) fp) W0 vx dv) (hox : own.map (·.2) = ixs := by rfl) (hs : ∀ x, foldedSetIterable iter X.env x = pure x := by intro _; rfl) :
    PEd X W (.DictComp kx vx [⟨tg, iter, ifs, 0⟩] scope pos) (dDc di g t dk dv ixs) := by
  subst hox
  exact PE.mono (pe_freeze (pe_dc (tt := tG X.K X.mg relB W0 t) (tk := tG X.K X.mg relV W0 dk) (tv := tG X.K X.mg relV W0 dv) hc hN hi ok hg ht hk hv hs)) fun _ _ _ h => dc_read gs hix h
theorem sw_dc {gs : List Comprehension} {py : Pos} {y : Str} {l : Nat} {env : PySem.Env} (hk : env.scope.kind = .function) (hy : env.scope.names.lookup y = some .local) (hl : (py.line == pos.line) = true)
    (ha : (scope.names.any fun (n, k) => n == y && (k == .local || k == .cell)) = false) : swapsWith (.DictComp kx vx gs scope pos) (some (.Name y py)) l env = pure true := by
  have k1 : env.kindOf y = some .local := hy
  have k2 : env.blockKind = .function := by unfold Env.blockKind; rw [hk]; rfl
  unfold swapsWith
  simp only [k2, k1, ha, Expr.pos, hl]
  rfl
/-- y = {..}: by value -/
theorem psd_setDc {i : Nat} {y : Str} {py : Pos} (hy : X.N[i]? = some y) (hyl : X.env.scope.names.lookup y = some .local) (hsw : swapsWith (.DictComp kx vx [⟨tg, iter, ifs, 0⟩] scope pos) (some (.Name y py)) spos.line X.env = pure true)
    (hc : X.calm = true) (hN : X.N.Nodup) (hi : PId X W tg iter di) (ok : BlkOk X.N X.env.scope scope own) (gs : GS X.K X.mg G ix g) (hix : ∀ j ∈ ix, j ∈ own.map (·.2))
    (hg : ∀ (s : Shared) (H : Hp) (C : Addr) (cl : List (Str × Addr)) (fp : List Addr), PG (X.blk s H scope (compEnvC scope cl C X.env) fp) tg G) (ht : ∀ (s : Shared) (H : Hp) (C : Addr) (cl : List (Str × Addr)) (fp : List Addr), PTsd (X.blk s H scope (compEnvC scope cl C X.env) fp) W0 ifs t)
    (hk : ∀ (s : Shared) (H : Hp) (C : Addr) (cl : List (Str × Addr)) (fp : List Addr), PEd (X.blk s H scope (compEnvC scope cl C X.env) fp) W0 kx dk)
    (hv : ∀ (s : Shared) (H : Hp) (C : Addr) (cl : List (Str × Addr)) (fp : List Addr), PEd (X.blk s H scope (compEnvC scope cl C X.env) fp) W0 vx dv) (hox : own.map (·.2) = ixs := by rfl) (hs : ∀ x, foldedSetIterable iter X.env x = pure x := by intro _; rfl) :
    PSd X W (.Assign [.Name y py] (.DictComp kx vx [⟨tg, iter, ifs, 0⟩] scope pos) spos) (dSet i (dDc di g t dk dv ixs)) := by
  subst hox
  refine ⟨fun pins s σ H E I h => ?_⟩
  rw [exec_Assign_Name_used _ _ _ _ hsw]
  refine wpAny_bind (wpAny_standAt (wpAny_bind ?_))
  obtain ⟨ρ, ι, st, env, S, ve, p⟩ := h
  have w := dc_read (W := W) (dk := dk) (dv := dv) (t := t) (Q := fun v H1 => E.nx (σ.set i (some v)) H1) gs hix ⟨ρ, ι, st, env, S, ve, PostS.bind ve (show PostS ⟨X.K, X.mg, ρ⟩ W E σ ι H ((dDc di g t dk dv (own.map (·.2)) env st).bindS env fun x st1 => .nx (env.set i (some x)) st1) from p) fun x st1 ι1 H1 v s1 S1 rx p1 => p1 ι1 H1 _ (Step.refl _ _) S1 ((ve.step s1).set rx)⟩
  show wpAny _ X.A (do let _ ← comprehension (.DictComp kx vx [⟨tg, iter, ifs, 0⟩] scope pos) scope X.env (firstIterPos [⟨tg, iter, ifs, 0⟩] pos) newDict false (eval iter X.env) (some (assign (.Name y py) X.env))) _ _ s
  refine wpAny_bind (thn (dc_core (tt := tG X.K X.mg relB W0 t) (tk := tG X.K X.mg relV W0 dk) (tv := tG X.K X.mg relV W0 dv) (Qf := fun _ s' => SP X pins E .next s') hc hN I hi ok hg ht hk hv hs w fun L C s' m H' J q hn fp => ?_) fun _ s' hq => wpAny_pure (wpAny_pure hq))
  show wpAny _ _ (assign (.Name y py) X.env (.ref L)) _ _ _
  refine wpAny_assign_Name (store_ok2 (v := V.ref L) J hN hy (.inl hyl) rfl (fun s2 J2 ⟨a, sb, ha⟩ => ?_) (.inr hyl))
  obtain ⟨g0, g1, g2, g3, g4, g5⟩ := fp
  have nC : C ≠ a := fun e => ha.elim (fun z => g1 (z ▸ e)) fun z => g4 y a z e.symm
  refine ⟨m, hn.sameBut sb nC, fun h3 sb3 => ?_⟩
  have J3 := J2.turned (t' := s2.toks) (fun b o hb e => (sb3.2 b hb).trans e) g0 g1 g3 g4 g5
  obtain ⟨d, u, ed, hd, mu, q⟩ := q
  obtain ⟨od, J4⟩ := J3.lock hd mu
  exact ⟨_, _, J4, q od⟩
end
/-! ### properties -/
def dProp (c : Str) (m : M) (da : DE) : DE := fun env st => (da env st).bind fun x st1 => match x with
  | .obj c' ns ds => if c' = c then (match m [x] st1 with
    | .ok y st2 => .ok y st2
    | _ => .bad) else .bad
  | _ => .bad
section
variable {X : Cx} {W : WX} {e : Expr} {da : DE} {pos : Pos} {k : Nat} {C p g : Addr} {c f s0 : Str} {fd : FuncData} {m : M}
theorem passes_nox : Passes (L2.CX X.prog X.w) X.nox (fun _ _ _ => False) := fun pins σ H s e s' I h => by
  obtain ⟨_, _, _, _, _, _, _, _, _, _, _, _, z⟩ := h
  exact z.elim
theorem pd_prop (gC : X.mg c = some (.ref C)) (cl : Cls X.K C) (hp : PropOf X.K C f p g) (F : FnOk X.prog X.w X.K X.mg X.base (L2.CX X.prog X.w) k g fd [s0] (spD X.K X.mg m 1)) (hr : Room (k + 1) X.A) (hb : Binds X.K fd [s0] []) (he : PEd X W e da)
    (hab : attributeBase e f X.env (eval e X.env) = eval e X.env := by rfl) : PEd X W (.Attribute e f pos) (dProp c m da) :=
  PE.mono (pe_prop (dvs := []) he cl hp F hr hb .nil passes_nox hab) fun σ H Q ⟨ρ, ι, st, env, S, ve, q⟩ => ⟨ρ, ι, st, env, S, ve, Post.bind q fun x st1 ι1 H1 v s1 S1 rx q1 => by
    cases x <;> (try exact q1.elim)
    rename_i c' ns ds
    simp only [] at q1
    split at q1
    · rename_i ec
      subst ec
      obtain ⟨a, C', dx, fs, xs, rfl, hC, h1, mm, e1, l, r1⟩ := id rx
      cases hC.symm.trans gC
      refine ⟨a, dx, fs, rfl, h1, rfl, ρ, ι1, st1, [.obj c' ns ds], S1, VRs.one rx, ?_⟩
      cases e2 : m [.obj c' ns ds] st1 with
      | ok y st2 => rw [e2] at q1; exact q1
      | exc y st2 => rw [e2] at q1; exact q1.elim
      | bad => rw [e2] at q1; exact q1.elim
    · exact q1.elim⟩
end
/-! ### sum -/
def listD : D → Sto → Option (List D)
  | .fz ds, _ => some ds
  | .sc ds, _ => some ds
  | .ref n, st => match st[n]? with
    | some (.lst ds) => some ds
    | _ => none
  | _, _ => none
theorem list_vr {B : Bs} {H : Hp} {ι : List Addr} {st : Sto} {d : D} {v : V} {ds : List D} (S : Sim B H ι st) (r : VR B H ι d v) (h : listD d st = some ds) : ∃ a ys, v = .ref a ∧ SqL B.K H a ys ∧ VRs B H ι ds ys := by
  cases d with
  | fz ds => obtain ⟨a, ys, rfl, h1, n1, r1⟩ := r; cases h; exact ⟨a, ys, rfl, SqL.of h1, r1⟩
  | sc ds => obtain ⟨a, ys, rfl, h1, r1⟩ := r; cases h; exact ⟨a, ys, rfl, h1.sq, r1⟩
  | ref n =>
    obtain ⟨a, ha, rfl⟩ := r
    simp only [listD] at h
    split at h
    · rename_i ds' q
      cases h
      obtain ⟨ys, h1, r1⟩ := S.look q ha
      exact ⟨a, ys, rfl, SqL.of h1, r1⟩
    · cases h
  | _ => cases h
def fSumL : FC := fun xs st => match xs with
  | [x] => match listD x st with
    | some ds => match intsS ds with
      | some ns => .ok (.int ns.sum) st
      | none => .bad
    | none => .bad
  | _ => .bad
theorem rc_sum {K : PySem.W.Frag} {mg : Str → Option Value} : RC K mg (rSum K) fSumL := by
  intro ρ ι H st xs vs W σ Q S r p
  unfold fSumL at p
  split at p
  · rename_i x
    obtain ⟨v, rfl, h⟩ := vr1 r
    split at p
    · rename_i ds e
      obtain ⟨a, ys, rfl, h1, r1⟩ := list_vr S h e
      split at p
      · rename_i ns e2
        have ey := intsS_vr r1 e2
        subst ey
        exact ⟨a, ns, rfl, h1, p.ok S rfl⟩
      · exact p.elim
    · exact p.elim
  · exact p.elim
end DD

/-! DD26: try with several clauses, with and without a name. -/
namespace DD
open PySem L2 PyProof.Rows
variable [NMs]
abbrev HdT := Value × Option Nat × (Addr → Value → Option Addr → TS)
def endsA (o : Option Nat) (D : Ends) : Ends := match o with
  | none => D
  | some i => { nx := fun σ' H' => D.nx (σ'.set i none) H', rt := D.rt, bk := fun σ' H' => D.bk (σ'.set i none) H', ct := fun σ' H' => D.ct (σ'.set i none) H' }
def slotA (o : Option Nat) (a : Addr) (σ : L2.St) : L2.St := match o with
  | none => σ
  | some i => σ.set i (some (.ref a))
/-- what the clauses wish of an error of the body -/
def wA (K : PySem.W.Frag) (Wout : WX) (D : Ends) : List HdT → WX
  | [] => Wout
  | (c, o, ts) :: r => fun cls d σ H => ∃ b, PySem.W.exmOne K cls c = some b ∧ (b = true → ∀ a, H a = none → ts a cls d (endsA o D) (slotA o a σ) H) ∧ (b = false → wA K Wout D r cls d σ H)
inductive HdsA (X : Cx) : List ExceptHandler → List HdT → Prop
  | nil : HdsA X [] []
  | plain {x : Str} {c : Value} {ts : Addr → Value → Option Addr → TS} {b₀ : Stmt} {suite : List Stmt} {np pos' : Pos} {hds : List ExceptHandler} {l : List HdT} (hc : Names X x c)
      (hsu : ∀ (a : Addr) (oe : Obj) (cls : Value) (d : Option Addr) (pn : List (Addr × Obj)), Zc cls d oe → (∃ vs, oe.data = .fields vs) → PSs (X.suite a ((a, oe) :: pn)) (b₀ :: suite) (ts a cls d)) (r : HdsA X hds l) :
      HdsA X (.ExceptHandler (some (.Name x np)) none (b₀ :: suite) pos' :: hds) ((c, none, ts) :: l)
  | named {x n : Str} {c : Value} {i : Nat} {ts : Addr → Value → Option Addr → TS} {b₀ : Stmt} {suite : List Stmt} {np pos' : Pos} {hds : List ExceptHandler} {l : List HdT} (hc : Names X x c) (hi : X.N[i]? = some n) (hln : X.env.kindOf n = some .local)
      (hsu : ∀ (a : Addr) (oe : Obj) (cls : Value) (d : Option Addr) (pn : List (Addr × Obj)), Zc cls d oe → (∃ vs, oe.data = .fields vs) → PSs (X.suite a ((a, oe) :: pn)) (b₀ :: suite) (ts a cls d)) (r : HdsA X hds l) :
      HdsA X (.ExceptHandler (some (.Name x np)) (some n) (b₀ :: suite) pos' :: hds) ((c, some i, ts) :: l)
section
variable {X : Cx} {body : List Stmt} {h₀ : ExceptHandler} {hds : List ExceptHandler} {l : List HdT} {pos : Pos} {tb : WX → TS} {Wout : WX}
theorem ps_tryA (hst : X.stack = X.env :: X.outer) (hf : X.env.frame = some X.env.locals) (hN : X.N.Nodup) (tk : Takes X Wout)
    (hb : ∀ (W : WX) (pn : List (Addr × Obj)) (xe : Value → Shared → Prop), Takes (X.tr pn xe) W → PassesOwn (model X.prog X.w) X.A X.env xe → PSs (X.tr pn xe) body (tb W))
    (hh : HdsA X (h₀ :: hds) l) : PS X (.Try body (h₀ :: hds) [] [] pos) (fun D σ H => tb (wA X.K Wout D l) D σ H) := by
  constructor
  intro pins s σ H D I h
  have ok := I.ok
  have frames : X.A.frames = some (X.env :: X.outer) := ok.frames.trans (by rw [hst])
  apply wpAny_Try_except
  have run := (hb (wA X.K Wout D l) (X.pn ++ pins) (fun e s₁ => wpAny (model X.prog X.w) X.A (noteFrame e X.env) (fun _ s₂ => wpAny (model X.prog X.w) X.A (setFlight e none) (fun _ s₃ =>
    wpAny (model X.prog X.w) X.A (handleBy e X.env (h₀ :: hds)) (SP X pins D) X.xe s₃) X.xe s₂) X.xe s₁) ?caught PassesOwn.looking).run [] s σ H D (I.toTry _) h
  case caught =>
    rintro u s' ⟨a, Bf, sI, pins', σ', H', cls, d, rfl, J', nb, up, sky, na, os, ag, w⟩
    have J : Inv X pins σ' H' sI := J'.ofTry ok
    rw [show X.stack = X.env :: X.outer from hst] at sky
    show wpAny (model X.prog X.w) X.A (noteFrame (.ref a) X.env) _ _ _
    refine Sky.land Zc.steady frames hf sky fun h3 fl up3 => ?_
    have J3 : Inv X pins σ' H' { s' with heap := h3 } := J.landed nb fl.1 (up.trans up3) os ag
    obtain ⟨o3, fields3, get3, zc3, dat3⟩ := fl.there
    have outside : a ∉ frs (X.env :: X.outer) := fun hm => by
      obtain ⟨_, o', e', hnf⟩ := fl.2.2.1.mem hm
      cases e'.symm.trans get3
      exact hnf _ dat3
    have nL : a ≠ X.env.locals := fun z => outside (List.mem_filterMap.mpr ⟨X.env, List.mem_cons_self, by rw [hf, z]⟩)
    have nF : a ∉ X.fs := fun hm => by
      obtain ⟨e, he, q⟩ := List.mem_filterMap.mp hm
      exact outside (List.mem_filterMap.mpr ⟨e, List.mem_cons_of_mem _ he, q⟩)
    have S3 := J3.suite get3 dat3 na nL nF
    have clauses : ∀ {hs : List ExceptHandler} {l' : List HdT}, HdsA X hs l' → wA X.K Wout D l' cls d σ' H' → wpAny (model X.prog X.w) X.A (handleBy (.ref a) X.env hs) (SP X pins D) X.xe { s' with heap := h3 } := by
      intro hs l' hk
      induction hk with
      | nil =>
        intro w
        apply wpAny_handleBy_nil
        obtain ⟨_, _, _, oe, vs, T, oT, ts', he, hz, hd, h1, hr⟩ := id fl
        unfold PySem.passOn
        refine wpAny_bind (wpAny_field he hd h1 ?_)
        rw [if_neg (show ¬ ((Value.ref T == Value.none) = true) from by simp)]
        have out : wpAny (model X.prog X.w) X.A (setFlight (.ref a) X.env.frame) (fun _ s4 => wpAny (model X.prog X.w) X.A (throw (.ref a) : Sem Flow) (SP X pins D) X.xe s4) X.xe { s' with heap := h3 } := by
          rw [hf]
          exact HandSPX.setFlight_upZ fl fun h4 hh4 up4 => wpAny_throw (tk _ _ ⟨a, Bf, sI, pins, σ', H', cls, d, rfl, J, nb, (up.trans up3).trans up4, .inr (.inr (by rw [hst]; exact hh4)), na, os, ag, w⟩)
        first
          | exact wpAny_bind (wpAny_pure (wpAny_bind out))
          | exact wpAny_bind out
      | @plain x c ts b₀ suite np pos' hds2 l2 hc hsu r ih =>
        rintro ⟨b, hb1, hyes, hno⟩
        refine wpAny_handleBy_cons (codeAny_handlers_test ?_) (by intro q; cases q)
        have LM := PySem.W.exm_one (M := model X.prog X.w) (J3.kIn) (fun A Q E s k q => wpAny_typeOf_ref (k _ _ get3) (by rw [zc3.1]; exact q) : PySem.W.Looks (model X.prog X.w) h3 (typeOf (.ref a)) cls) hb1
        have name : ∀ {Q : Value → Shared → Prop} {E : Value → Shared → Prop}, Q c { s' with heap := h3 } → wpAny (model X.prog X.w) (X.A.mark (some (.ref a))) (eval (.Name x np) X.env) Q E { s' with heap := h3 } := fun {Q E} q => by
          obtain ⟨hg, hdbg, hm | ⟨hm, hv, hnn⟩⟩ := hc
          · exact ld_glob (X := X.suite a ((a, o3) :: (X.pn ++ pins))) S3 hg hm q hdbg
          · exact ld_blt (X := X.suite a ((a, o3) :: (X.pn ++ pins))) S3 hg hm hv q hnn hdbg
        refine name (LM.here ?_)
        cases b with
        | false =>
          show wpAny _ X.A (handleBy (.ref a) X.env hds2) _ _ _
          exact ih (hno rfl)
        | true =>
          refine codeAny_handlers_suite (HandSPX.lands_againZ fl fun h4 fl4 up4 => ?_)
          have J4 : Inv X pins σ' H' { s' with heap := h4 } := J.landed nb fl4.1 ((up.trans up3).trans up4) os ag
          obtain ⟨o4, fields4, get4, zc4, dat4⟩ := fl4.there
          have S4 := J4.suite get4 dat4 na nL nF
          refine wpAny_mono ((hsu a o4 cls d (X.pn ++ pins) zc4 ⟨_, dat4⟩).run [] _ _ H' _ S4 (hyes rfl a na)) (fun f s6 hsp => ?_) (fun _ _ z => False.elim z)
          cases f with
          | next => obtain ⟨σ6, H6, S6, q6⟩ := hsp; exact ⟨_, _, S6.unsuite ok, q6⟩
          | brk => obtain ⟨σ6, H6, S6, q6⟩ := hsp; exact ⟨_, _, S6.unsuite ok, q6⟩
          | cont => obtain ⟨σ6, H6, S6, q6⟩ := hsp; exact ⟨_, _, S6.unsuite ok, q6⟩
          | ret u => obtain ⟨v6, σ6, H6, S6, r6, q6⟩ := hsp; exact ⟨_, _, _, S6.unsuite ok, r6, q6⟩
      | @named x n c i ts b₀ suite np pos' hds2 l2 hc hi hln hsu r ih =>
        rintro ⟨b, hb1, hyes, hno⟩
        refine wpAny_handleBy_cons (codeAny_handlers_test ?_) (by intro q; cases q)
        have LM := PySem.W.exm_one (M := model X.prog X.w) (J3.kIn) (fun A Q E s k q => wpAny_typeOf_ref (k _ _ get3) (by rw [zc3.1]; exact q) : PySem.W.Looks (model X.prog X.w) h3 (typeOf (.ref a)) cls) hb1
        have name : ∀ {Q : Value → Shared → Prop} {E : Value → Shared → Prop}, Q c { s' with heap := h3 } → wpAny (model X.prog X.w) (X.A.mark (some (.ref a))) (eval (.Name x np) X.env) Q E { s' with heap := h3 } := fun {Q E} q => by
          obtain ⟨hg, hdbg, hm | ⟨hm, hv, hnn⟩⟩ := hc
          · exact ld_glob (X := X.suite a ((a, o3) :: (X.pn ++ pins))) S3 hg hm q hdbg
          · exact ld_blt (X := X.suite a ((a, o3) :: (X.pn ++ pins))) S3 hg hm hv q hnn hdbg
        refine name (LM.here ?_)
        cases b with
        | false =>
          show wpAny _ X.A (handleBy (.ref a) X.env hds2) _ _ _
          exact ih (hno rfl)
        | true =>
          refine codeAny_handlers_suite_as (HandSPX.lands_againZ fl fun h4 fl4 up4 => ?_)
          have J4 : Inv X pins σ' H' { s' with heap := h4 } := J.landed nb fl4.1 ((up.trans up3).trans up4) os ag
          obtain ⟨o4, fields4, get4, zc4, dat4⟩ := fl4.there
          have S4 := J4.suite get4 dat4 na nL nF
          refine store_ok (X := X.suite a ((a, o4) :: (X.pn ++ pins))) (v := .ref a) S4 hN hi (.inl hln) rfl (fun s5 S5 => ?_) (.inr hln)
          refine wpAny_mono ((hsu a o4 cls d (X.pn ++ pins) zc4 ⟨_, dat4⟩).run [] s5 _ H' _ S5 (hyes rfl a na)) (fun f s6 hsp => ?_) (fun _ _ z => False.elim z)
          have fin : ∀ {σ6 : L2.St} {H6 : Hp} {Q : Shared → Prop}, Inv (X.suite a ((a, o4) :: (X.pn ++ pins))) [] σ6 H6 s6 → (∀ s7, Inv X pins (σ6.set i none) H6 s7 → Q s7) →
              wpAny (model X.prog X.w) X.A (do bindName X.env n .none; unbindBehindTheSuite X.env n pos') (fun _ s7 => Q s7) X.xe s6 := fun {σ6 H6 Q} S6 hq => gone_ok (S6.unsuite ok) hN hi hln hq
          cases f with
          | next => obtain ⟨σ6, H6, S6, q6⟩ := hsp; exact fin S6 fun s7 J7 => ⟨_, _, J7, q6⟩
          | brk => obtain ⟨σ6, H6, S6, q6⟩ := hsp; exact fin S6 fun s7 J7 => ⟨_, _, J7, q6⟩
          | cont => obtain ⟨σ6, H6, S6, q6⟩ := hsp; exact fin S6 fun s7 J7 => ⟨_, _, J7, q6⟩
          | ret u => obtain ⟨v6, σ6, H6, S6, r6, q6⟩ := hsp; exact fin S6 fun s7 J7 => ⟨_, _, _, J7, r6, q6⟩
    exact clauses hh w
  refine wpAny_mono run (fun f s1 hsp => ?_) (fun e s1 he => he)
  cases f with
  | next => obtain ⟨σ', H', J', q⟩ := hsp; exact wpAny_execs_nil ⟨σ', H', J'.ofTry ok, q⟩
  | brk => obtain ⟨σ', H', J', q⟩ := hsp; exact ⟨σ', H', J'.ofTry ok, q⟩
  | cont => obtain ⟨σ', H', J', q⟩ := hsp; exact ⟨σ', H', J'.ofTry ok, q⟩
  | ret u => obtain ⟨v, σ', H', J', r, q⟩ := hsp; exact ⟨v, σ', H', J'.ofTry ok, r, q⟩
end

/-! ### by data -/
/-- what a clause does: a suite; m = a known value, n the error; m = n.f -/
inductive Hk where
  | plain (d : DS)
  | set (i j : Nat) (v : D)
  | fld (i j : Nat) (f : Str)
def hkR (sub : Str → Str → Option Bool) (x : Xc) (env : Env) (st : Sto) : List (Str × Hk) → ResS
  | [] => .exc x env st
  | (c, .plain d) :: r => match sub x.1 c with
    | some true => noExcR (d env st)
    | some false => hkR sub x env st r
    | none => .bad
  | (c, .set i j v) :: r => if x.1 = c then (match x.2 with
      | none => if i < env.length then .nx (((env.set i none).set j (some v)).set i none) st else .bad
      | some _ => .bad)
    else match sub x.1 c with
      | some false => hkR sub x env st r
      | _ => .bad
  | (c, .fld i j f) :: r => if x.1 = c then (match x.2 with
      | some (g, v) => if g = f ∧ i < env.length then .nx (((env.set i none).set j (some v)).set i none) st else .bad
      | none => .bad)
    else match sub x.1 c with
      | some false => hkR sub x env st r
      | _ => .bad
def tryKR (sub : Str → Str → Option Bool) (hs : List (Str × Hk)) (r : ResS) : ResS := match r with
  | .exc x env1 st1 => hkR sub x env1 st1 hs
  | r => r
def dTryK (sub : Str → Str → Option Bool) (d : DS) (hs : List (Str × Hk)) : DS := fun env st => tryKR sub hs (d env st)
/-- slot i holds the error at a: the value is v -/
def tEx0 (i : Nat) (a : Addr) (v : V) : TE := fun σ H Q => σ[i]? = some (some (.ref a)) ∧ Q v H
/-- perhaps one list is new -/
def NewH (H H' : Hp) : Prop := H' = H ∨ ∃ p xs, H p = none ∧ H' = upd H p (.lst xs)
def tEx (i : Nat) (a : Addr) (v : V) : TE := fun σ H Q => σ[i]? = some (some (.ref a)) ∧ ∀ H', NewH H H' → Q v H'
theorem pe_ex0 {X : Cx} {e : Expr} {i : Nat} {a : Addr} {v : V} (h : PE X e (tEx0 i a v)) : PE X e (tEx i a v) := PE.mono h fun σ H Q ⟨h1, q⟩ => ⟨h1, q H (.inl rfl)⟩
inductive HdK (X : Cx) (sub : Str → Str → Option Bool) : List ExceptHandler → List (Str × Hk) → Prop
  | nil : HdK X sub [] []
  | plain {x : Str} {C : Addr} {b₀ : Stmt} {suite : List Stmt} {np pos' : Pos} {hds : List ExceptHandler} {hs : List (Str × Hk)} {dd : DS} (hm : X.mg x = some (.ref C)) (hc : Names X x (.ref C))
      (hsu : ∀ (a : Addr) (oe : Obj) (cls : Value) (d : Option Addr) (pn : List (Addr × Obj)), Zc cls d oe → (∃ vs, oe.data = .fields vs) → PSsd (X.suite a ((a, oe) :: pn)) W0 (b₀ :: suite) dd) (r : HdK X sub hds hs) :
      HdK X sub (.ExceptHandler (some (.Name x np)) none (b₀ :: suite) pos' :: hds) ((x, .plain dd) :: hs)
  | set {x n m : Str} {C : Addr} {i j : Nat} {e : Expr} {v : V} {vd : D} {np pos' p1 p4 : Pos} {hds : List ExceptHandler} {hs : List (Str × Hk)} (hm : X.mg x = some (.ref C)) (hc : Names X x (.ref C)) (hi : X.N[i]? = some n) (hln : X.env.kindOf n = some .local)
      (hj : X.N[j]? = some m) (hlm : Loc X.env.scope m) (hN : X.N.Nodup) (hself : sub x x = some true) (hE : ∀ (a : Addr) (oe : Obj) (pn : List (Addr × Obj)), Zc (.ref C) none oe → (∃ vs, oe.data = .fields vs) → PE (X.suite a ((a, oe) :: pn)) e (tEx i a v)) (hv : Flat vd v)
      (hsw : swapsWith e (some (.Name m p1)) p4.line X.env = pure false) (hfm : X.fn m = true ∨ X.env.scope.names.lookup m = some .local) (r : HdK X sub hds hs) :
      HdK X sub (.ExceptHandler (some (.Name x np)) (some n) [.Assign [.Name m p1] e p4] pos' :: hds) ((x, .set i j vd) :: hs)
theorem hk_list {X : Cx} {W : WX} {sub : Str → Str → Option Bool} (hsub : SubOk X.K X.mg sub) {hds : List ExceptHandler} {hs : List (Str × Hk)} (h : HdK X sub hds hs) :
    ∃ l, HdsA X hds l ∧ ∀ (D : Ends) (ρ ι : List Addr) (st : Sto) (env : Env) (σ : L2.St) (H : Hp) (x : Xc) (cls : Value) (dd : Option Addr), Sim ⟨X.K, X.mg, ρ⟩ H ι st → VEnv ⟨X.K, X.mg, ρ⟩ H ι env σ → ExcR ⟨X.K, X.mg, ρ⟩ H ι x cls dd →
      PostS ⟨X.K, X.mg, ρ⟩ W D σ ι H (hkR sub x env st hs) → wA X.K W D l cls dd σ H := by
  induction h with
  | nil => exact ⟨[], .nil, fun D ρ ι st env σ H x cls dd S ve ex p => p ι H σ cls dd (Step.refl _ _) S ve ex⟩
  | @plain x C b₀ suite np pos' hds hs d hm hc hsu r ih =>
    obtain ⟨l, hl, k⟩ := ih
    refine ⟨(.ref C, none, fun _ _ _ => tSd X.K X.mg W0 d) :: l, .plain hc hsu hl, fun D ρ ι st env σ H y cls dd S ve ex p => ?_⟩
    obtain ⟨Cy, rfl, hy, hd⟩ := id ex
    unfold hkR at p
    cases q : sub y.1 x with
    | none => rw [q] at p; exact p.elim
    | some b =>
      rw [q] at p
      refine ⟨b, hsub _ _ _ q _ _ hy hm, fun hb a _ => ?_, fun hb => ?_⟩
      · subst hb; exact ⟨ρ, ι, st, env, S, ve, PostS.noExc p⟩
      · subst hb; exact k D ρ ι st env σ H y _ dd S ve ex p
  | @set x n m C i j e v vd np pos' p1 p4 hds hs hm hc hi hln hj hlm hN hself hE hv hsw hfm r ih =>
    obtain ⟨l, hl, k⟩ := ih
    refine ⟨(.ref C, some i, fun a cls d D σ H => cls = .ref C ∧ d = none ∧ σ[i]? = some (some (.ref a)) ∧ ∀ H', NewH H H' → D.nx (σ.set j (some v)) H') :: l, .named hc hi hln (fun a oe cls d pn hz hf => ?_) hl, fun D ρ ι st env σ H y cls dd S ve ex p => ?_⟩
    · refine ⟨fun pins s σ H D I w => ?_⟩
      obtain ⟨rfl, rfl, w1, w2⟩ := w
      exact (pss_one (ps_set (X := X.suite a ((a, oe) :: pn)) (i := j) hN hj hlm (hE a oe pn hz hf) hsw hfm)).run pins s σ H D I ⟨w1, w2⟩
    · obtain ⟨Cy, rfl, hy, hd⟩ := id ex
      unfold hkR at p
      split at p
      · rename_i ey
        rw [ey] at hy
        cases hy.symm.trans hm
        refine ⟨true, hsub _ _ _ hself _ _ hm hm, fun _ a ha => ?_, fun z => Bool.noConfusion z⟩
        split at p
        · rename_i e2
          rw [e2] at hd
          split at p
          · rename_i hlen
            rw [← ve.1] at hlen
            refine ⟨rfl, hd, List.getElem?_set_self hlen, ?_⟩
            rintro H' (rfl | ⟨pn, xs, np, rfl⟩)
            · exact p ι H' _ (Step.refl _ _) S (VEnv.gone ((VEnv.lose ve).set hv.vr))
            · exact p ι _ _ (Step.new S np) (S.new np) (VEnv.gone ((VEnv.lose (ve.step (Step.new S np))).set hv.vr))
          · exact p.elim
        · exact p.elim
      · rename_i ne
        split at p
        · rename_i e2
          exact ⟨false, hsub _ _ _ e2 _ _ hy hm, fun z => Bool.noConfusion z, fun _ => k D ρ ι st env σ H y _ dd S ve ex p⟩
        · exact p.elim
theorem psd_tryK {X : Cx} {W : WX} {sub : Str → Str → Option Bool} {body : List Stmt} {h₀ : ExceptHandler} {hds : List ExceptHandler} {hs : List (Str × Hk)} {d : DS} {pos : Pos} (hst : X.stack = X.env :: X.outer) (hf : X.env.frame = some X.env.locals) (hN : X.N.Nodup) (tk : Takes X W) (hsub : SubOk X.K X.mg sub)
    (hb : ∀ (W' : WX) (pn : List (Addr × Obj)) (xe : Value → Shared → Prop), Takes (X.tr pn xe) W' → PassesOwn (model X.prog X.w) X.A X.env xe → PSsd (X.tr pn xe) W' body d) (hh : HdK X sub (h₀ :: hds) hs) :
    PSd X W (.Try body (h₀ :: hds) [] [] pos) (dTryK sub d hs) := by
  obtain ⟨l, hl, k⟩ := hk_list (W := W) hsub hh
  refine PS.mono (ps_tryA (tb := fun W' => tSd X.K X.mg W' d) hst hf hN tk hb hl) fun D σ H ⟨ρ, ι, st, env, S, ve, p⟩ => ⟨ρ, ι, st, env, S, ve, ?_⟩
  unfold dTryK tryKR at p
  cases q : d env st with
  | exc x env1 st1 =>
    rw [q] at p
    exact fun ι1 H1 σ1 cls dd s1 S1 ve1 ex => k D ρ ι1 st1 env1 σ1 H1 x cls dd S1 ve1 ex (PostS.step s1 p)
  | nx e st1 => rw [q] at p; exact p
  | bk e st1 => rw [q] at p; exact p
  | ct e st1 => rw [q] at p; exact p
  | rt x st1 => rw [q] at p; exact p
  | bad => rw [q] at p; exact p
/-! ### isinstance of the error that a clause holds -/
section
variable {X : Cx} {a D : Addr} {oe : Obj} {pn : List (Addr × Obj)} {i : Nat} {n A : Str} {p1 p2 p3 pos : Pos} {b : Bool} {v : V} {e1 e2 : Expr}
theorem pe_isE {c : V} {cv : Value} (C : ExcC X.K D) (hz : Zc (.ref D) none oe) (hf : ∃ vs, oe.data = .fields vs) (hg : Gl (X.suite a ((a, oe) :: pn)) "isinstance") (hm : X.mg "isinstance" = none) (hv : bootBuiltins "isinstance" = some (.builtin "isinstance"))
    (he : PE (X.suite a ((a, oe) :: pn)) e1 (tVar i)) (hA : PE (X.suite a ((a, oe) :: pn)) e2 (tC c)) (hc : ∀ u, RelV c u → u = cv) (hk : PySem.W.kitOne X.K (.ref D) cv = some b)
    (hs1 : starEach [e1, e2] X.env = (false, eval e1 X.env) :: starEach [e2] X.env := by rfl) (hs2 : starEach [e2] X.env = (false, eval e2 X.env) :: starEach [] X.env := by rfl) (hpl : (backTo pos (starEach [e2] X.env)).any (·.1) = false := by rfl) :
    PE (X.suite a ((a, oe) :: pn)) (.Call (.Name "isinstance" p1) [e1, e2] [] pos) (tEx0 i a (.bl b)) :=
  PE.mono (pe_callB (call_isE C hz hf) hg hm hv (pa_cons he (pa_cons hA pa_nil hs2) hs1) (by decide) (by decide) hs1 hpl) fun σ H Q ⟨h1, q⟩ => ⟨_, h1, c, cv, b, rfl, hc, hk, q⟩
theorem pe_andE (h1 : PE (X.suite a ((a, oe) :: pn)) e1 (tEx0 i a (.bl true))) (h2 : PE (X.suite a ((a, oe) :: pn)) e2 (tEx0 i a v)) : PE (X.suite a ((a, oe) :: pn)) (.BoolOp .And [e1, e2] pos) (tEx0 i a v) :=
  PE.mono (pe_and h1 (pe_one h2)) fun σ H Q ⟨h, q⟩ => ⟨h, _, rfl, iteT ⟨h, q⟩⟩
/-- ["..", ".."][int(that)] -/
theorem pe_selE {s0 s1 : Str} {j0 j1 : Nat} {q0 q1 p4 p5 p6 p7 : Pos} (h : PE (X.suite a ((a, oe) :: pn)) e1 (tEx0 i a (.bl true))) (hg : Gl (X.suite a ((a, oe) :: pn)) "int") (hm : X.mg "int" = none) (hv : bootBuiltins "int" = some (.type "int"))
    (hs1 : starEach [e1] X.env = (false, eval e1 X.env) :: starEach [] X.env := by rfl) (hpl : (backTo p6 (starEach [] X.env)).any (·.1) = false := by rfl) :
    PE (X.suite a ((a, oe) :: pn)) (.Subscript (.List [.Constant (.str s0) j0 q0, .Constant (.str s1) j1 q1] p4) (.Call (.Name "int" p5) [e1] [] p6) p7) (tEx i a (.str s1)) :=
  PE.mono (pe_ix ix_list (pe_lst (pa_cons pe_str (pa_cons pe_str pa_nil))) (pe_callTy call_int1 hg hm hv (pa_cons h pa_nil hs1) (by decide) (by decide) hs1 hpl) (fun _ _ => rfl)) fun σ H Q ⟨h1, q⟩ =>
by
    refine ⟨big_le (n := 2) (by decide), fun p np => ⟨h1, .inr ⟨true, rfl, p, [.str s0, .str s1], 1, .str s1, rfl, rfl, .inl (.inl upd_same), rfl, q _ (.inr ⟨p, _, np, rfl⟩)⟩⟩⟩
end
@[simp] theorem dTryK_e {sub : Str → Str → Option Bool} {d : DS} {hs : List (Str × Hk)} {env : Env} {st : Sto} : dTryK sub d hs env st = tryKR sub hs (d env st) := rfl
@[simp] theorem tryKR_nx {sub : Str → Str → Option Bool} {hs : List (Str × Hk)} {env : Env} {st : Sto} : tryKR sub hs (.nx env st) = .nx env st := rfl
@[simp] theorem tryKR_rt {sub : Str → Str → Option Bool} {hs : List (Str × Hk)} {x : D} {st : Sto} : tryKR sub hs (.rt x st) = .rt x st := rfl
@[simp] theorem tryKR_exc {sub : Str → Str → Option Bool} {hs : List (Str × Hk)} {x : Xc} {env : Env} {st : Sto} : tryKR sub hs (.exc x env st) = hkR sub x env st hs := rfl

theorem kit_own {K : PySem.W.Frag} {C A : Addr} {b : Bool} (h1 : PySem.W.isClsIn K A = true) (h2 : PySem.W.typeIn K (.ref A) = some (.type "type")) (h3 : PySem.W.subIn K (.ref C) (.ref A) = some b) (hb : b = true) : PySem.W.kitOne K (.ref C) (.ref A) = some b := by
  unfold PySem.W.kitOne
  split
  · rw [hb]
  · have h1 : (PySem.W.clsIn K A).isSome = true := h1
    simp [PySem.W.kitCls, h1, h2, h3]
theorem kit_ve {K : PySem.W.Frag} {C : Addr} {T : String} {b : Bool} (h : PySem.W.subIn K (.ref C) (.type T) = some b) (hT : PySem.W.kitMeta T = true := by decide +kernel) : PySem.W.kitOne K (.ref C) (.type T) = some b := by
  have : ((Value.ref C == Value.type T) = true) ↔ False := by constructor <;> intro z <;> simp at z
  unfold PySem.W.kitOne PySem.W.kitCls
  simp [hT, h]
/-- more turns than any loop of numbers takes -/
theorem x_fuel : ∃ n : Nat, 10 ^ 60 < n := ⟨10 ^ 60 + 1, Nat.lt_succ_self _⟩
noncomputable def fuel : Nat := x_fuel.choose
theorem fuel_gt {k : Nat} (h : k ≤ 10 ^ 60) : k < fuel := Nat.lt_of_le_of_lt h x_fuel.choose_spec
end DD

/-! DD27: great numbers; equations for what DD24 to DD26 bring. -/
namespace DD
open PySem L2 PyProof.Rows
variable [NMs]
theorem x_cDivW : ∃ f : Int → Bool, f = fun j => decide (0 < j) && decide (j.natAbs < 2 ^ 200) := ⟨_, rfl⟩
noncomputable def cDivW : Int → Bool := x_cDivW.choose
theorem cDivW_of {j : Int} (h : cDivW j = true) : 0 < j ∧ j.natAbs < 2 ^ 200 := by
  rw [cDivW, x_cDivW.choose_spec] at h
  simpa using h
theorem cDivW_to {j : Int} (h : 0 < j) (h2 : j < 1000000000000000000000000000000) : cDivW j = true := by
  rw [cDivW, x_cDivW.choose_spec]
  have : j.natAbs < 2 ^ 200 := Nat.lt_of_lt_of_le (show j.natAbs < 1000000000000000000000000000000 by omega) (by decide)
  simp [h, this]
noncomputable def fDivW : F2 := fI (fun _ j => cDivW j) fun i j => .int (i / j)
theorem rd_divW {K : PySem.W.Frag} {mg : Str → Option Value} : RD K mg (rI CDivW fun i j => .int (i / j)) fDivW := rd_I fun i j h => by
  obtain ⟨h1, h2⟩ := cDivW_of h
  exact ⟨wide_div h1 h2 (by decide) (by decide), rfl⟩
theorem x_cMulW : ∃ f : Int → Int → Bool, f = fun i j => decide (i.natAbs < 2 ^ 400) && decide (j.natAbs < 2 ^ 400) := ⟨_, rfl⟩
noncomputable def cMulW : Int → Int → Bool := x_cMulW.choose
theorem cMulW_of {i j : Int} (h : cMulW i j = true) : i.natAbs < 2 ^ 400 ∧ j.natAbs < 2 ^ 400 := by
  rw [cMulW, x_cMulW.choose_spec] at h
  simpa using h
theorem cMulW_to {i j : Int} (h1 : i.natAbs < 1000000000000000000000000000000) (h2 : j.natAbs < 1000000000000000000000000000000) : cMulW i j = true := by
  rw [cMulW, x_cMulW.choose_spec]
  have a : i.natAbs < 2 ^ 400 := Nat.lt_of_lt_of_le h1 (by decide)
  have b : j.natAbs < 2 ^ 400 := Nat.lt_of_lt_of_le h2 (by decide)
  simp [a, b]
noncomputable def fMulW : F2 := fI cMulW fun i j => .int (i * j)
theorem rd_mulW {K : PySem.W.Frag} {mg : Str → Option Value} : RD K mg (rI CMulW fun i j => .int (i * j)) fMulW := rd_I fun i j h => by
  obtain ⟨h1, h2⟩ := cMulW_of h
  exact ⟨wide_mul h1 h2 (by decide) (by decide) (by decide), rfl⟩
/-! ### equations -/
section
variable {da db dk dv : DE} {ds : DA} {di : DI} {g : DG} {t : DT} {d : DS} {env : Env} {st : Sto} {vs : List Nat}
@[simp] theorem fDivW_int {a b : Int} : fDivW (.int a) (.int b) st = if cDivW b = true then .ok (.int (a / b)) st else .bad := rfl
@[simp] theorem fMulW_int {a b : Int} : fMulW (.int a) (.int b) st = if cMulW a b = true then .ok (.int (a * b)) st else .bad := rfl
@[simp] theorem dDGet_e : dDGet da dk env st = (da env st).bind fun x st1 => (dk env st1).bind fun k st2 => getR x k st2 := rfl
@[simp] theorem dDHas_e {neg : Bool} : dDHas neg dk da env st = (dk env st).bind fun k st1 => (da env st1).bind fun x st2 => hasR neg k x st2 := rfl
def keysR (x : D) (st : Sto) : Res (List D × (Sto → Bool)) := match x with
  | .fd ks _ => .ok (ks.map dK', yes) st
  | _ => .bad
@[simp] theorem keysR_fd {ks : List Key} {ds : List D} : keysR (.fd ks ds) st = .ok (ks.map dK', yes) st := rfl
@[simp] theorem dKeysD_e : dKeysD da env st = (da env st).bind keysR := rfl
@[simp] theorem dDc_e : dDc di g t dk dv vs env st = (di env st).bind fun a st1 => if a.1.length ≤ bigLine then (dcLoop g t dk dv a.2 (wipeE vs env) a.1 [] [] st1).bind fun kd st2 => .ok (.fd kd.1 kd.2) st2 else .bad := rfl
def propR (c : Str) (m : M) (x : D) (st : Sto) : Res D := match x with
  | .obj c' ns ds => if c' = c then (match m [x] st with
    | .ok y st2 => .ok y st2
    | _ => .bad) else .bad
  | _ => .bad
@[simp] theorem dProp_e {c : Str} {m : M} : dProp c m da env st = (da env st).bind fun x st1 => propR c m x st1 := rfl
theorem propR_ok {c : Str} {m : M} {ns : List Str} {ds : List D} {y : D} {st' : Sto} (h : m [.obj c ns ds] st = .ok y st') : propR c m (.obj c ns ds) st = .ok y st' := by simp [propR, h]
@[simp] theorem dctOf_fd {ks : List Key} {ds : List D} : dctOf (.fd ks ds) st = some (ks, ds) := rfl
theorem dctOf_ref {n : Nat} {ks : List Key} {ds : List D} (h : st[n]? = some (.dct ks ds)) : dctOf (.ref n) st = some (ks, ds) := by simp [dctOf, h]
theorem getR_of {x : D} {k : D} {kk : Key} {d : D} {ks : List Key} {ds : List D} (h1 : dctOf x st = some (ks, ds)) (h2 : keyD k = some kk) (h3 : lookD kk ks ds = some d) : getR x k st = .ok d st := by simp [getR, h1, h2, h3]
theorem hasR_of {neg : Bool} {x : D} {k : D} {kk : Key} {o : Option D} {ks : List Key} {ds : List D} (h1 : dctOf x st = some (ks, ds)) (h2 : keyD k = some kk) (h3 : lookD kk ks ds = o) : hasR neg k x st = .ok (.bl (if neg then !o.isSome else o.isSome)) st := by simp [hasR, h1, h2, h3]
theorem fLenD_of {x : D} {ks : List Key} {ds : List D} (h1 : dctOf x st = some (ks, ds)) : fLenD [x] st = .ok (.int (ks.length : Nat)) st := by simp [fLenD, h1]
theorem fDictD_of {x : D} {ks : List Key} {ds : List D} (h1 : dctOf x st = some (ks, ds)) : fDictD [x] st = .ok (.fd ks ds) st := by simp [fDictD, h1]
@[simp] theorem fGcd_int {a b : Int} : fGcd [.int a, .int b] st = .ok (.int ((Nat.gcd a.natAbs b.natAbs : Nat) : Int)) st := rfl
theorem fLcm_int {a b : Int} (ha : a.natAbs < 10 ^ 19) (hb : b.natAbs < 10 ^ 19) : fLcm [.int a, .int b] st = .ok (.int ((Nat.lcm a.natAbs b.natAbs : Nat) : Int)) st := by simp only [fLcm, ha, hb, and_self, if_true]
/-- a while loop that ends -/
theorem while_inv {I : Nat → Env → Sto → Prop} : ∀ (n m : Nat) (env : Env) (st : Sto), m < n → I m env st →
    (∀ m env st, I m env st → (t env st = .ok false st ∧ True) ∨ (t env st = .ok true st ∧ ∃ env2 st2 m2, d env st = .nx env2 st2 ∧ m2 < m ∧ I m2 env2 st2)) →
    ∃ env' st' m', whileN t d n env st = .nx env' st' ∧ I m' env' st' ∧ t env' st' = .ok false st'
  | 0, m, _, _, h, _, _ => by omega
  | n + 1, m, env, st, hm, i, h => by
    rcases h m env st i with ⟨e, _⟩ | ⟨e, env2, st2, m2, e2, lt, i2⟩
    · exact ⟨env, st, m, by unfold whileN; rw [e]; rfl, i, e⟩
    · obtain ⟨env', st', m', e3, i3, e4⟩ := while_inv n m2 env2 st2 (by omega) i2 h
      refine ⟨env', st', m', ?_, i3, e4⟩
      unfold whileN
      rw [e]
      simp only [Res.bindS_ok, if_true, e2]
      exact e3
end
end DD

/-! DD28: lambdas as values: the made function and the cells that it captured stand in the abstract heap, known for ever, while it is handed about. -/
namespace DD
open PySem L2 PyProof.Rows LamX NdefX
/-- the heap with known objects -/
def pls (L : List (Addr × Obj)) (H : Hp) : Hp := fun b => match L.lookup b with
  | some o => some (Kn o)
  | none => H b
/-- the heap without them -/
def msk (L : List (Addr × Obj)) (H : Hp) : Hp := fun b => match L.lookup b with
  | some _ => none
  | none => H b
section
variable {L : List (Addr × Obj)} {H H' : Hp} {h h' : Heap} {b : Addr} {o : Obj} {P : Program} {w : World}
theorem pls_in (e : L.lookup b = some o) : pls L H b = some (Kn o) := by unfold pls; rw [e]
theorem pls_out (e : L.lookup b = none) : pls L H b = H b := by unfold pls; rw [e]
theorem msk_in (e : L.lookup b = some o) : msk L H b = none := by unfold msk; rw [e]
theorem msk_out (e : L.lookup b = none) : msk L H b = H b := by unfold msk; rw [e]
/-- the known objects are there, untracked -/
def Fresh (L : List (Addr × Obj)) (H : Hp) (h : Heap) : Prop := ∀ b o, L.lookup b = some o → H b = none ∧ h.get? b = some o
theorem kn_ok {Hx : Hp} (e : h.get? b = some o) : ObjOk P w Hx h b (Kn o) := ⟨e, trivial, ⟨o, e⟩, fun _ _ _ _ => trivial⟩
theorem kn_at (x : HOk P w H h) (e : H b = some (Kn o)) : h.get? b = some o := (x b _ e).1
theorem pls_ok (x : HOk P w H h) (F : Fresh L H h) : HOk P w (pls L H) h := fun a u e => by
  have keep : ∀ c v, H c = some v → pls L H c = some v := fun c v q => by
    cases e2 : L.lookup c with
    | none => rw [pls_out e2]; exact q
    | some o => rw [(F c o e2).1] at q; cases q
  cases e2 : L.lookup a with
  | none => rw [pls_out e2] at e; exact (x a u e).stay (fun _ _ _ q => q) (fun c q => keep c _ q) fun c xs q => keep c _ q
  | some o => rw [pls_in e2] at e; cases e; exact kn_ok (F a o e2).2
theorem msk_ok (x : HOk P w H h) (F : Held L H) : HOk P w (msk L H) h := fun a u e => by
  have keep : ∀ c v, (∀ o, v ≠ Kn o) → H c = some v → msk L H c = some v := fun c v n q => by
    cases e2 : L.lookup c with
    | none => rw [msk_out e2]; exact q
    | some o => rw [F c o e2] at q; cases q; exact absurd rfl (n o)
  cases e2 : L.lookup a with
  | none =>
    rw [msk_out e2] at e
    exact (x a u e).stay (fun _ _ _ q => q) (fun c q => keep c _ (fun o z => by unfold Kn at z; cases z) q) fun c xs q => keep c _ (fun o z => by unfold Kn at z; cases z) q
  | some o => rw [msk_in e2] at e; cases e
/-- handed about and back: what a call tells of the greater heap, told of the smaller one -/
theorem un_back {fs : List Addr} (F : Fresh L H h) (u : Un fs [] (pls L H) H' h h') (x : HOk P w H' h') : Un fs [] H (msk L H') h h' ∧ HOk P w (msk L H') h' ∧ Held L H' := by
  have hd : Held L H' := fun b o e => u.frzs b o _ (pls_in e)
  have kp : ∀ b ob, L.lookup b ≠ none → h.get? b = some ob → h'.get? b = some ob := fun b ob n q => by
    cases e : L.lookup b with
    | none => exact absurd e n
    | some o =>
      have : ob = o := Option.some.inj (q.symm.trans (F b o e).2)
      subst this
      exact kn_at x (hd b _ e)
  have up : ∀ c v, H c = some v → L.lookup c = none := fun c v q => by
    cases e : L.lookup c with
    | none => rfl
    | some o => rw [(F c o e).1] at q; cases q
  refine ⟨⟨fun b ob q n hf hx => ?_, fun b ob q n hf hx => ?_, fun b ob q n hx => ?_, fun b ob q hx => u.there b ob q hx, fun b xs q => ?_, fun b ob v q => ?_, fun b ps q => ?_⟩, msk_ok x hd, hd⟩
  · cases e : L.lookup b with
    | none => exact u.keep b ob q (by rw [pls_out e]; exact n) hf hx
    | some o => exact kp b ob (by rw [e]; exact fun z => nomatch z) q
  · cases e : L.lookup b with
    | none => exact u.slot b ob q (by rw [pls_out e]; exact n) hf hx
    | some o => exact ⟨ob.slots, kp b ob (by rw [e]; exact fun z => nomatch z) q⟩
  · cases e : L.lookup b with
    | none => rw [msk_out e]; exact u.free b ob q (by rw [pls_out e]; exact n) hx
    | some o => exact msk_in e
  · have e := up b _ q
    rw [msk_out e]; exact u.tups b xs (by rw [pls_out e]; exact q)
  · have e := up b _ q
    rw [msk_out e]; exact u.frzs b ob v (by rw [pls_out e]; exact q)
  · have e := up b _ q
    rw [msk_out e]; exact u.tbls b ps (by rw [pls_out e]; exact q)
/-- entered and left: what a call tells of the heap without the cells, told of the one that knows them -/
theorem un_in {fs : List Addr} (F : Held L H) (x0 : HOk P w H h) (hf : ∀ b ∈ fs, H b = none) (u : Un fs [] (msk L H) H' h h') (x : HOk P w H' h') : Un fs [] H (pls L H') h h' ∧ HOk P w (pls L H') h' ∧ Fresh L H' h' := by
  have fr : Fresh L H' h' := fun b o e => by
    have e0 := kn_at x0 (F b o e)
    exact ⟨u.free b o e0 (msk_in e) (by simp), u.keep b o e0 (msk_in e) (fun z => by have := hf b z; rw [F b o e] at this; cases this) (by simp)⟩
  refine ⟨⟨fun b ob q n hf hx => ?_, fun b ob q n hf hx => ?_, fun b ob q n hx => ?_, fun b ob q hx => u.there b ob q hx, fun b xs q => ?_, fun b ob v q => ?_, fun b ps q => ?_⟩, pls_ok x fr, fr⟩
  · exact u.keep b ob q (by cases e : L.lookup b with
      | none => rw [msk_out e]; exact n
      | some o => exact msk_in e) hf hx
  · exact u.slot b ob q (by cases e : L.lookup b with
      | none => rw [msk_out e]; exact n
      | some o => exact msk_in e) hf hx
  · cases e : L.lookup b with
    | none => rw [pls_out e]; exact u.free b ob q (by rw [msk_out e]; exact n) hx
    | some o => rw [F b o e] at n; cases n
  · cases e : L.lookup b with
    | none => rw [pls_out e]; exact u.tups b xs (by rw [msk_out e]; exact q)
    | some o => rw [F b o e] at q; unfold Kn at q; cases q
  · cases e : L.lookup b with
    | none => rw [pls_out e]; exact u.frzs b ob v (by rw [msk_out e]; exact q)
    | some o => rw [pls_in e, ← F b o e]; exact q
  · cases e : L.lookup b with
    | none => rw [pls_out e]; exact u.tbls b ps (by rw [msk_out e]; exact q)
    | some o => rw [F b o e] at q; unfold Kn at q; cases q
end
/-! ### a lambda as a value -/
/-- the context of its body -/
abbrev lcx (CX : CXT) (P : Program) (w : World) (K : PySem.W.Frag) (mg : Str → Option Value) (base : Heap) (N : List Str) (W : LW) (cl : List (Str × Addr)) (c' f : Addr) (A : Around) (outer : List PySem.Env) (s : Shared) (H : Hp) (E : XK) : Cx :=
  ncx CX P w K mg base N ⟨"<lambda>", W.qual, W.params, [], W.scope, cl, c'⟩ f A outer s H E
def noX : XK := fun _ _ _ => False
section
variable {Z : Cx} {pins : List (Addr × Obj)} {σ : L2.St} {H : Hp} {s : Shared} {L : List (Addr × Obj)} {f : Addr} {W : LW} {ps N : List Str} {xs vs : List V} {us : List Value} {Q : VK} {k : Nat} {t : TE}
theorem lam_run (I : Inv Z pins σ H s) (La : LamAt L H f W xs) (S : NScope N ps W.fr W.scope)
    (hb : ∀ (cl : List (Str × Addr)) (pm cv ctv : Value) (us : List Value), us.length = ps.length → bindArgs (PySem.W.kla_fn "<lambda>" W.qual W.params W.body W.scope cl pm cv ctv) ⟨us, []⟩ = pure (ps.zip us))
    (r : Vals vs us) (hl : vs.length = ps.length) (hr : Room (k + 1) Z.A)
    (hbody : ∀ (cl : List (Str × Addr)) (c' : Addr) (A : Around) (outer : List PySem.Env) (s : Shared) (H : Hp), Room k (A.deeper (PySem.W.envX W.qual W.scope s.heap.objs.size f (.ref c') cl)) → PE (lcx (L2.CX Z.prog Z.w) Z.prog Z.w Z.K Z.mg Z.base N W cl c' f A outer s H noX) W.body t)
    (q : t (startF N vs (xs.map some)) (msk L H) (fun v H' => (∀ b o, L.lookup b = some o → H' b = none) → Q v (pls L H'))) :
    wpAny (model Z.prog Z.w) Z.A (call (.ref f) us) (EP Z pins σ Q) Z.xe s := by
  obtain ⟨cl, pm, c', ctv, hf, hc, hcel, hinj, hfr⟩ := La.ob
  have of1 := kn_at I.hok hf
  obtain ⟨⟨oc, tvs, tt, hoc, hdc, hvc⟩, _, _⟩ := I.hok c' _ hc
  have e0 := I.env0
  have e1 : Env0 Z.prog Z.w Z.K Z.mg Z.base Z.A Z.stack s (msk L H) := ⟨e0.frames, e0.mod, fun b o e => ⟨(e0.bs b o e).1, by
      cases e2 : L.lookup b with
      | none => rw [msk_out e2]; exact (e0.bs b o e).2
      | some o => exact msk_in e2⟩, e0.bsz, e0.funs, fun b hb => by
      cases e2 : L.lookup b with
      | none => rw [msk_out e2]; exact e0.frf b hb
      | some o => exact msk_in e2, msk_ok e0.hok La.held, e0.bare⟩
  have cellAt : ∀ c o v, L.lookup c = some o → o.data = .cell v → s.heap.IsCell c v := fun c o v e d => ⟨o, kn_at I.hok (La.held c o e), d⟩
  have C : CellsAt cl W.fr (xs.map some) s.heap (msk L H) := ⟨by rw [List.length_map]; exact La.len, fun y c e => by
      obtain ⟨o, v, e2, d⟩ := hcel y c e
      exact ⟨msk_in e2, v, cellAt c o v e2 d⟩, hinj, fun i y e => by
      obtain ⟨c, o, u, x, a1, a2, a3, a4, a5⟩ := hfr i y e
      refine ⟨c, a1, fun v ev => ?_⟩
      rw [List.getElem?_map, a4] at ev
      cases ev
      exact ⟨u, a5, cellAt c o _ a2 a3⟩⟩
  have rc : codeAny (model Z.prog Z.w) Z.A (.call (.ref f) ⟨us, []⟩) (CR (L2.CX Z.prog Z.w) Z.stack Z.prog Z.w (msk L H) s (fun v H' => (∀ b o, L.lookup b = some o → H' b = none) → Q v (pls L H')) noX) s := by
    refine PySem.W.kla_callFunE hr.depth of1 rfl S.co S.gen rfl ⟨c', oc, tvs, tt, rfl, hoc, hdc, hvc⟩ ?_
    rw [hb _ _ _ _ us (by rw [← r.length]; exact hl)]
    refine wpAny_pure (wpAny_newFunctionEnv S.nocell (fun ⟨n, _⟩ hy => S.par n (List.of_mem_zip hy).1) (fun h₁ hns hsb => ⟨I.nolimit.fresh _ hsb, ?_⟩) S.kind)
    show codeAny _ _ (.expr W.body (PySem.W.envX W.qual W.scope s.heap.objs.size f (.ref c') cl)) _ _
    have kp : ∀ b o, s.heap.get? b = some o → h₁.get? b = some o := fun b o e => hsb.extBut b o (Nat.ne_of_lt (Heap.lt_size e)) (Heap.get?_push_of_some _ e)
    have J : Inv (lcx (L2.CX Z.prog Z.w) Z.prog Z.w Z.K Z.mg Z.base N W cl c' f Z.A Z.stack s (msk L H) noX) [] (startF N vs (xs.map some)) (msk L H) { s with heap := h₁, toks := s.toks + (ps.zip us).length } :=
      inv_startN (F := ⟨"<lambda>", W.qual, W.params, [], W.scope, cl, c'⟩) S hr.hd e1 hl r C hns kp
    refine PySem.W.kla_codeExpr (wpAny_mono ((hbody cl c' Z.A Z.stack s (msk L H) (hr.deeper _)).run [] _ _ _ _ J q) (fun v s' hq => ?_) fun e s' hq => hq)
    obtain ⟨w', H', J', rv, q'⟩ := hq
    exact ⟨w', H', J'.os, J'.bare, J'.base, J'.hok, rv, q'⟩
  refine wpAny_call (codeAny_mono rc fun r s' hq => ?_)
  cases r with
  | error e =>
    obtain ⟨_, _, _, _, _, _, _, _, _, _, _, _, z⟩ := hq
    exact z.elim
  | ok fl =>
    cases fl with
    | ret u =>
      obtain ⟨v, H', a1, a2, a3, a4, a5, a6⟩ := hq
      obtain ⟨b1, b2, b3⟩ := un_in La.held I.hok e0.frf a3 a4
      exact I.after ⟨v, pls L H', a1, a2, b1, b2, a5, a6 fun b o e => (b3 b o e).1⟩
    | next => exact False.elim hq
    | brk => exact False.elim hq
    | cont => exact False.elim hq
end
end DD

/-! DD29: a lambda is made: its function is new and known for ever. -/
namespace DD
open PySem L2 PyProof.Rows LamX NdefX
section
variable {X : Cx} {pins : List (Addr × Obj)} {σ : L2.St} {H : Hp} {s : Shared}
theorem lam_made {T : List (Addr × Str)} {c P : Addr} {W : LW} {pos : Pos} {Er Q : Value → Shared → Prop} (I : Inv X pins σ H s) (tb : TabB X.base X.mg c P) (hc : X.env.code = .ref c) (mT : (P, W.qual) ∈ T) (oT : ∀ p ∈ T, p.1 = P → p.2 = W.qual) (ht : Tabs T H)
    (hq : W.qual = X.env.qual ++ "<lambda>") (hd : defaultsOf W.params X.env = ([], [])) (hf : ∀ y ∈ W.scope.names, y.2 = .free → ∃ a, X.env.cells.lookup y.1 = some a)
    (go : ∀ (f c' : Addr) (pm ctv : Value) (H1 : Hp) (s' : Shared), Inv X pins σ H1 s' → ExtN H H1 → Tabs T H1 → H f = none → H1 f = some (Kn (W.obj (cloFrom X.env.cells W.scope.names []) pm c' ctv)) → H1 c' = some (CodeO c' W.qual) → Q (.ref f) s') :
    wpAny (model X.prog X.w) X.A (eval (.Lambda W.params W.body W.scope pos) X.env) Q Er s := by
  obtain ⟨ps, e1, e2, e3⟩ := ht _ mT
  have gP := I.hok P _ e1
  have bP := tb.bm.keeps I.bk
  have gl := I.mod.glob.keeps I.bk
  have cd := tb.code.keeps I.bk
  have cok := closure_ok hf
  refine PySem.W.kla_eval hd ?_
  rw [← hq]
  rcases e4 : codeAmong pos ps.toList with _ | cv
  · refine PySem.W.kla_makeFunction cok I.ok.glob gl hc cd gP e2 e4 tb.gP bP ?_
    intro c' ctv h1 tk ext ge lt rec tab1
    obtain ⟨c2, oc, fs, tq, ec, g1, d1, n1⟩ := rec
    obtain rfl : c' = c2 := by cases ec; rfl
    have nc := I.hok.fresh ge
    have J := inv_table (h' := h1) (t' := tk) (more := #[rawInt pos.line, rawInt pos.col, .ref c']) I e1 ext tab1 ge ⟨oc, fs, tq, g1, d1, n1⟩
    have grow : s.heap.objs.size ≤ h1.objs.size := Nat.le_trans ge (Nat.le_of_lt lt)
    obtain ⟨ob, eob⟩ : ∃ ob : Obj, ob = W.obj (cloFrom X.env.cells W.scope.names []) ((X.mg "__name__").getD .none) c' ctv := ⟨_, rfl⟩
    have J2 := Inv.laid (h' := h1.push ob) (a := h1.objs.size) (o := Kn ob) (t' := tk) J (fun b u e => Heap.get?_push_of_some _ e) (Nat.le_refl _) (kn_ok (Heap.get?_push_size _ (by subst eob; rfl)))
    have fn : H h1.objs.size = none := I.hok.fresh grow
    have ext2 : ExtN H (upd (upd (upd H P (.tbl (ps ++ #[rawInt pos.line, rawInt pos.col, .ref c']))) c' (CodeO c' W.qual)) h1.objs.size (Kn ob)) := fun b o e n => by
      rw [upd_ne (ne_of_none e fn), upd_ne (ne_of_none e nc), upd_ne (fun z => by subst z; rw [e1] at e; cases e; exact n _ rfl)]
      exact e
    rw [eob] at J2 ext2
    refine go h1.objs.size c' _ ctv _ _ J2 ext2 ?_ fn upd_same ?_
    · intro p hp
      by_cases hb : p.1 = P
      · refine ⟨ps ++ #[rawInt pos.line, rawInt pos.col, .ref c'], ?_, ?_, ?_⟩
        · rw [hb, upd_ne (ne_of_none e1 fn), upd_ne (ne_of_none e1 nc), upd_same]
        · rw [show (ps ++ #[rawInt pos.line, rawInt pos.col, .ref c']).toList = ps.toList ++ [rawInt pos.line, rawInt pos.col, .ref c'] by simp]
          exact PySem.TriplesOk_snoc _ _ _ _ e2
        · intro p' v hv
          rw [show (ps ++ #[rawInt pos.line, rawInt pos.col, .ref c']).toList = ps.toList ++ [rawInt pos.line, rawInt pos.col, .ref c'] by simp] at hv
          rw [oT p hp hb]
          rcases among_app ps.toList e2 hv with y | y
          · obtain ⟨a, y1, y2⟩ := e3 p' v y
            exact ⟨a, y1, ext2 _ _ y2 codeO_ne⟩
          · exact ⟨c', y, by rw [upd_ne (fun z => by rw [z] at lt; exact Nat.lt_irrefl _ lt), upd_same]⟩
      · obtain ⟨ps', y1, y2, y3⟩ := ht p hp
        refine ⟨ps', by rw [upd_ne (ne_of_none y1 fn), upd_ne (ne_of_none y1 nc), upd_ne hb]; exact y1, y2, fun p' v hv => ?_⟩
        obtain ⟨a, z1, z2⟩ := y3 p' v hv
        exact ⟨a, z1, ext2 _ _ z2 codeO_ne⟩
    · rw [upd_ne (fun z => by rw [z] at lt; exact Nat.lt_irrefl _ lt), upd_same]
  · obtain ⟨c', rfl, kc⟩ := e3 pos cv e4
    refine PySem.W.kla_makeFunctionHit cok I.ok.glob gl hc cd gP e2 e4 bP ?_
    intro ctv h1 tk ext ge
    obtain ⟨ob, eob⟩ : ∃ ob : Obj, ob = W.obj (cloFrom X.env.cells W.scope.names []) ((X.mg "__name__").getD .none) c' ctv := ⟨_, rfl⟩
    have J2 := Inv.laid (h' := h1.push ob) (a := h1.objs.size) (o := Kn ob) (t' := tk) I (fun b u e => Heap.get?_push_of_some _ (ext b u e)) ge (kn_ok (Heap.get?_push_size _ (by subst eob; rfl)))
    have fn : H h1.objs.size = none := I.hok.fresh ge
    have up : ∀ b o, H b = some o → upd H h1.objs.size (Kn ob) b = some o := fun b o e => by rw [upd_ne (ne_of_none e fn)]; exact e
    rw [eob] at J2 up
    exact go h1.objs.size c' _ ctv _ _ J2 (fun b o e _ => up b o e) (ht.ext up) fn upd_same (up _ _ kc)
end
end DD

/-! DD30: a lambda as an expression; an own def called while the caller's captured cells are known. -/
namespace DD
open PySem L2 PyProof.Rows LamX NdefX
/-- what the captured cells are and hold -/
structure CapAt (cl : List (Str × Addr)) (fr : List Str) (L : List (Addr × Obj)) (xs : List V) : Prop where
  cells : ∀ y c, cl.lookup y = some c → ∃ o v, L.lookup c = some o ∧ o.data = .cell v
  only : ∀ c o, L.lookup c = some o → ∃ v, o.data = .cell v
  inj : ∀ x y c, cl.lookup x = some c → cl.lookup y = some c → x = y
  vals : ∀ (i : Nat) (y : Str), fr[i]? = some y → ∃ c o u x, cl.lookup y = some c ∧ L.lookup c = some o ∧ o.data = .cell (some u) ∧ xs[i]? = some x ∧ RelV x u
  len : xs.length = fr.length
theorem CapAt.lam {cl : List (Str × Addr)} {W : LW} {L : List (Addr × Obj)} {xs : List V} {H : Hp} {f c' : Addr} {pm ctv : Value} (c : CapAt cl W.fr L xs) (hf : H f = some (Kn (W.obj cl pm c' ctv))) (hc : H c' = some (CodeO c' W.qual)) (hh : Held L H) : LamAt L H f W xs :=
  ⟨⟨cl, pm, c', ctv, hf, hc, c.cells, c.inj, c.vals⟩, hh, c.only, c.len⟩
theorem look_mem {L : List (Addr × Obj)} {h : Heap} : ∀ (_ : ∀ p ∈ L, h.get? p.1 = some p.2) {b : Addr} {o : Obj}, (b, o) ∈ L → L.lookup b = some o := by
  induction L with
  | nil => intro _ b o m; simp at m
  | cons p r ih =>
    intro k b o m
    obtain ⟨b1, o1⟩ := p
    by_cases e : b = b1
    · subst e
      have q1 := k (b, o1) List.mem_cons_self
      have q2 := k (b, o) m
      have : o1 = o := Option.some.inj (q1.symm.trans q2)
      subst this
      simp
    · rw [List.lookup_cons, beq_false_of_ne e]
      refine ih (fun q hq => k q (List.mem_cons_of_mem _ hq)) ((List.mem_cons.mp m).resolve_left fun z => e ?_)
      cases z; rfl
theorem mem_look {b : Addr} {o : Obj} : ∀ {L : List (Addr × Obj)}, L.lookup b = some o → (b, o) ∈ L
  | [], e => by cases e
  | (b1, o1) :: r, e => by
    by_cases q : b = b1
    · subst q
      rw [List.lookup_cons, beq_self_eq_true] at e
      cases e
      exact List.mem_cons_self
    · rw [List.lookup_cons, beq_false_of_ne q] at e
      exact List.mem_cons_of_mem _ (mem_look e)
theorem cap_list {cl : List (Str × Addr)} {h : Heap} (all : ∀ y c, cl.lookup y = some c → ∃ o, h.get? c = some o) :
    ∃ L : List (Addr × Obj), (∀ y c, cl.lookup y = some c → ∃ o, h.get? c = some o ∧ L.lookup c = some o) ∧ ∀ b o, L.lookup b = some o → h.get? b = some o ∧ ∃ y, cl.lookup y = some b := by
  obtain ⟨L, eL⟩ : ∃ L : List (Addr × Obj), L = (cl.map (·.1)).filterMap fun y => (cl.lookup y).bind fun c => (h.get? c).map fun o => (c, o) := ⟨_, rfl⟩
  have mem : ∀ b o, (b, o) ∈ L ↔ ∃ y, y ∈ cl.map (·.1) ∧ cl.lookup y = some b ∧ h.get? b = some o := fun b o => by
    rw [eL, List.mem_filterMap]
    constructor
    · rintro ⟨y, hy, e⟩
      cases q : cl.lookup y with
      | none => rw [q] at e; cases e
      | some c =>
        rw [q] at e
        obtain ⟨o', e1, e2⟩ := Option.map_eq_some_iff.mp (show (h.get? c).map (fun o => (c, o)) = some (b, o) from e)
        cases e2
        exact ⟨y, hy, q, e1⟩
    · rintro ⟨y, hy, e1, e2⟩
      exact ⟨y, hy, by rw [e1]; show (h.get? b).map _ = _; rw [e2]; rfl⟩
  have fun_ : ∀ p ∈ L, h.get? p.1 = some p.2 := fun ⟨b, o⟩ hp => by
    obtain ⟨_, _, _, e⟩ := (mem b o).mp hp
    exact e
  refine ⟨L, fun y c e => ?_, fun b o e => ?_⟩
  · obtain ⟨o, ho⟩ := all y c e
    exact ⟨o, ho, look_mem fun_ ((mem c o).mpr ⟨y, List.mem_map.mpr ⟨(y, c), PySem.mem_of_lookup e, rfl⟩, e, ho⟩)⟩
  · obtain ⟨y, _, e1, e2⟩ := (mem b o).mp (mem_look e)
    exact ⟨e2, y, e1⟩
def tLm (X : Cx) (T : List (Addr × Str)) (W : LW) : TE := fun σ H Q => Tabs T H ∧ ∀ (f c' : Addr) (pm ctv : Value) (H1 : Hp), ExtN H H1 → Tabs T H1 → H f = none → H1 f = some (Kn (W.obj (cloFrom X.env.cells W.scope.names []) pm c' ctv)) → H1 c' = some (CodeO c' W.qual) → Q (.ref f) H1
def tCallP (X : Cx) (W : LW) (js : List Nat) (sp : Sp) (ta : TA) : TE := fun σ H Q => ta σ H fun vs H1 => ∃ xs : List V, js.map (slotAt σ) = xs.map some ∧
  ∀ L, CapAt (cloFrom X.env.cells W.scope.names []) W.fr L xs → (∀ b o, L.lookup b = some o → H1 b = none) → sp vs (pls L H1) (fun v H2 => Held L H2 → Q v (msk L H2)) noX
section
variable {X : Cx} {T : List (Addr × Str)} {c P g : Addr} {W : LW} {pos p : Pos} {js : List Nat} {sp : Sp} {ta : TA} {x : Str} {k : Nat} {fd : FuncData} {ps : List Str} {e : Expr} {es : List Expr}
theorem pe_lam (tb : TabB X.base X.mg c P) (hc : X.env.code = .ref c) (mT : (P, W.qual) ∈ T) (oT : ∀ p ∈ T, p.1 = P → p.2 = W.qual) (hq : W.qual = X.env.qual ++ "<lambda>") (hd : defaultsOf W.params X.env = ([], []))
    (hf : X.Ok → ∀ y ∈ W.scope.names, y.2 = .free → ∃ a, X.env.cells.lookup y.1 = some a) : PE X (.Lambda W.params W.body W.scope pos) (tLm X T W) :=
  ⟨fun pins s σ H Q I h => lam_made I tb hc mT oT h.1 hq hd (hf I.ok) fun f c' pm ctv H1 s' I1 a1 a2 a3 a4 a5 => ⟨.ref f, H1, I1, rfl, h.2 f c' pm ctv H1 a1 a2 a3 a4 a5⟩⟩
/-- an own def called with the captured cells known -/
theorem pe_callP (F : FnOk X.prog X.w X.K X.mg X.base (L2.CX X.prog X.w) k g fd ps sp) (hr : Room k X.A) (hg : Gl X x) (hm : X.mg x = some (.ref g)) (hk : PySem.W.keepIn X.K (.ref g) = true) (hb : L2.Binds X.K fd ps [])
    (cp : X.Ok → Caps X (cloFrom X.env.cells W.scope.names []) W.fr js) (own : ∀ y c, (cloFrom X.env.cells W.scope.names []).lookup y = some c → X.fn y = true) (ha : PA X (e :: es) ta) (hdb : (x == ("__debug__" : Str)) = false := by decide)
    (he : starEach (e :: es) X.env = (false, eval e X.env) :: starEach es X.env := by rfl) (hpl : (backTo pos (starEach es X.env)).any (·.1) = false := by rfl) : PE X (.Call (.Name x p) (e :: es) [] pos) (tCallP X W js sp ta) := by
  refine ⟨fun pins s σ H Q I h => ?_⟩
  refine wpAny_Call_Name_kw (ld_glob I hg hm ?_ hdb)
  refine PySem.W.callWith_K (h₀ := X.base) I.ok.mod.kin hk (thn (ha.run pos pins s σ H _ I h) fun us s1 ⟨vs, H1, I1, r, xs, exs, q⟩ => ⟨I1.kIn, ?_⟩) he hpl
  have C := cells_of I1 (cp I1.ok)
  rw [exs] at C
  obtain ⟨L, l1, l2⟩ := cap_list (cl := cloFrom X.env.cells W.scope.names []) (h := s1.heap) fun y a ea => by
    obtain ⟨_, v, o, ho, _⟩ := C.all y a ea
    exact ⟨o, ho⟩
  have fresh : Fresh L H1 s1.heap := fun b o eb => by
    obtain ⟨ho, y, ey⟩ := l2 b o eb
    exact ⟨(C.all y b ey).1, ho⟩
  have isC : ∀ b o, L.lookup b = some o → ∃ v, o.data = .cell v := fun b o eb => by
    obtain ⟨ho, y, ey⟩ := l2 b o eb
    obtain ⟨_, v, o', ho', d⟩ := C.all y b ey
    rw [ho] at ho'; cases ho'
    exact ⟨v, d⟩
  have cap : CapAt (cloFrom X.env.cells W.scope.names []) W.fr L xs := by
    refine ⟨fun y a ea => ?_, isC, C.inj, fun i y ey => ?_, by have := C.len; rwa [List.length_map] at this⟩
    · obtain ⟨o, ho, eo⟩ := l1 y a ea
      obtain ⟨v, d⟩ := isC a o eo
      exact ⟨o, v, eo, d⟩
    · obtain ⟨a, ea, hv⟩ := C.has i y ey
      have hi : i < xs.length := by
        have l := C.len
        rw [List.length_map] at l
        rw [l]; exact (List.getElem?_eq_some_iff.mp ey).1
      obtain ⟨u, ru, o, ho, d⟩ := hv xs[i] (by rw [List.getElem?_map, List.getElem?_eq_getElem hi]; rfl)
      obtain ⟨o', ho', eo⟩ := l1 y a ea
      rw [ho] at ho'; cases ho'
      exact ⟨a, o, u, xs[i], ea, eo, d, List.getElem?_eq_getElem hi, ru⟩
  have hsp := q L cap fun b o eb => (fresh b o eb).1
  have newer : ∀ b o, L.lookup b = some o → X.s_0.heap.objs.size ≤ b ∧ b ≠ X.env.locals := fun b o eb => by
    obtain ⟨_, y, ey⟩ := l2 b o eb
    have ec := (cp I1.ok).sub y b ey
    exact ⟨I1.ok.cab y b (own y b ey) ec, I1.cne y b ec⟩
  have e0 := I1.env0
  have e1 : Env0 X.prog X.w X.K X.mg X.base X.A X.stack s1 (pls L H1) := ⟨e0.frames, e0.mod, fun b o eb => ⟨(e0.bs b o eb).1, by
      cases e2 : L.lookup b with
      | none => rw [pls_out e2]; exact (e0.bs b o eb).2
      | some o' => exact absurd (Nat.lt_of_lt_of_le (Heap.lt_size eb) (Nat.le_trans I1.ok.bsz (newer b o' e2).1)) (Nat.lt_irrefl _)⟩, e0.bsz, e0.funs, fun b hb' => by
      cases e2 : L.lookup b with
      | none => rw [pls_out e2]; exact e0.frf b hb'
      | some o' =>
        exfalso
        rcases List.mem_cons.mp (I1.stkSub b hb') with z | z
        · exact (newer b o' e2).2 z
        · obtain ⟨_, o2, g2, _⟩ := I1.ok.funs.mem z
          exact Nat.lt_irrefl _ (Nat.lt_of_lt_of_le (Heap.lt_size g2) (newer b o' e2).1), pls_ok e0.hok fresh, e0.bare⟩
  have bnd := hb s1 us I1.kIn (by rw [List.append_nil, ← r.length]; exact F.len _ _ _ _ hsp)
  rw [List.append_nil] at bnd
  show wpAny _ _ (call (.ref g) us) _ _ _
  refine wpAny_call (codeAny_mono (F.run X.A X.stack s1 _ ⟨us, []⟩ us vs _ noX hr e1 bnd r hsp) fun rr s' hq => ?_)
  cases rr with
  | error er =>
    obtain ⟨_, _, _, _, _, _, _, _, _, _, _, _, z⟩ := hq
    exact z.elim
  | ok fl =>
    cases fl with
    | ret u =>
      obtain ⟨v, H', a1, a2, a3, a4, a5, a6⟩ := hq
      obtain ⟨b1, b2, b3⟩ := un_back fresh a3 a4
      exact I1.after ⟨v, msk L H', a1, a2, b1, b2, a5, a6 b3⟩
    | next => exact False.elim hq
    | brk => exact False.elim hq
    | cont => exact False.elim hq
end
end DD

/-! DD31: lambdas by data: own defs called with one. -/
namespace DD
open PySem L2 PyProof.Rows LamX NdefX
variable [NMs]
mutual
/-- no lambda in it -/
def noLam : D → Bool
  | .tup ds => noLams ds
  | .fz ds => noLams ds
  | .sc ds => noLams ds
  | .fd _ ds => noLams ds
  | .obj _ _ ds => noLams ds
  | .lam _ _ _ => false
  | .non => true
  | .bl _ => true
  | .int _ => true
  | .str _ => true
  | .ty _ => true
  | .ref _ => true
def noLams : List D → Bool
  | [] => true
  | d :: ds => noLam d && noLams ds
end
def noLamO : O → Bool
  | .lst ds => noLams ds
  | .ins _ _ ds => noLams ds
  | .dct _ ds => noLams ds
  | .dkt ks ds => noLams ks && noLams ds
section
variable {B : Bs} {H H' : Hp} {ι : List Addr} {st : Sto} {L : List (Addr × Obj)} {a : Addr} {o : HO}
theorem msk_keep (F : Held L H) (n : ∀ ob, o ≠ Kn ob) (e : H a = some o) : msk L H a = some o := by
  cases q : L.lookup a with
  | none => rw [msk_out q]; exact e
  | some ob => rw [F a ob q] at e; cases e; exact absurd rfl (n ob)
theorem FzT.msk {xs : List V} (F : Held L H) (h : FzT B H ι a xs) : FzT B (msk L H) ι a xs := h.elim (fun x => .inl ⟨x.1.elim (fun e => .inl (msk_keep F (fun ob z => by unfold Kn at z; cases z) e)) (fun ⟨o, e⟩ => .inr ⟨o, msk_keep F (fun ob z => by unfold Kn at z; cases z) e⟩), x.2⟩) .inr
theorem ScL.msk {xs : List V} (F : Held L H) (h : ScL B H ι a xs) : ScL B (msk L H) ι a xs := h.elim (fun x => .inl ⟨x.1.elim (fun e => .inl (msk_keep F (fun ob z => by unfold Kn at z; cases z) e)) (fun ⟨o, e⟩ => .inr ⟨o, msk_keep F (fun ob z => by unfold Kn at z; cases z) e⟩), x.2⟩) .inr
mutual
theorem VR.msk (F : Held L H) : ∀ {d : D} {v : V}, noLam d = true → VR B H ι d v → VR B (msk L H) ι d v
  | .non, _, _, h => h
  | .bl _, _, _, h => h
  | .int _, _, _, h => h
  | .str _, _, _, h => h
  | .ty _, _, _, h => h
  | .ref _, _, _, h => h
  | .tup _, _, n, ⟨a, xs, e, h, r⟩ => ⟨a, xs, e, h.msk F, VRs.msk F n r⟩
  | .sc _, _, n, ⟨a, xs, e, h, r⟩ => ⟨a, xs, e, h.msk F, VRs.msk F n r⟩
  | .fz _, _, n, ⟨a, xs, e, h, m, r⟩ => ⟨a, xs, e, msk_keep F (fun ob z => by unfold Kn at z; cases z) h, m, VRs.msk F n r⟩
  | .fd _ _, _, n, ⟨a, od, fs, xs, e, h, m, e2, l, r⟩ => ⟨a, od, fs, xs, e, msk_keep F (fun ob z => by unfold Kn at z; cases z) h, m, e2, l, VRs.msk F n r⟩
  | .obj _ _ _, _, n, ⟨a, C, dx, fs, xs, e, c, h, m, e2, l, r⟩ => ⟨a, C, dx, fs, xs, e, c, msk_keep F (fun ob z => by unfold Kn at z; cases z) h, m, e2, l, VRs.msk F n r⟩
  | .lam _ _ _, _, n, _ => nomatch n
theorem VRs.msk (F : Held L H) : ∀ {ds : List D} {vs : List V}, noLams ds = true → VRs B H ι ds vs → VRs B (msk L H) ι ds vs
  | [], _, _, h => h
  | _ :: _, _, n, ⟨x, r, e, h, t⟩ => by
    have n' := Bool.and_eq_true_iff.mp n
    exact ⟨x, r, e, VR.msk F n'.1 h, VRs.msk F n'.2 t⟩
end
theorem Sim.msk (S : Sim B H ι st) (F : Held L H) (off : ∀ b o, L.lookup b = some o → b ∉ B.ρ) (n : st.all noLamO = true) : Sim B (msk L H) ι st := by
  refine ⟨S.len, S.nd, fun k ob e => ?_, fun b hb => ⟨?_, (S.rs b hb).2⟩, tabs_keep S.tab fun b u k e => ?_, fun b hb u e => ?_⟩
  · obtain ⟨b, hb, q⟩ := S.ob k ob e
    have nn := List.all_eq_true.mp n ob (List.mem_of_getElem? e)
    refine ⟨b, hb, ?_⟩
    cases ob with
    | lst ds => obtain ⟨xs, h, r⟩ := q; exact ⟨xs, msk_keep F (fun ob z => by unfold Kn at z; cases z) h, r.msk F nn⟩
    | ins c ns ds => obtain ⟨C, dx, fs, xs, c, h, e, l, r⟩ := q; exact ⟨C, dx, fs, xs, c, msk_keep F (fun ob z => by unfold Kn at z; cases z) h, e, l, r.msk F nn⟩
    | dct ks ds => obtain ⟨kvs, xs, h, e, l, r⟩ := q; exact ⟨kvs, xs, msk_keep F (fun ob z => by unfold Kn at z; cases z) h, e, l, r.msk F nn⟩
    | dkt ks ds =>
      obtain ⟨w, nks, bs, xs, ew, ek, h, rk, r⟩ := q
      have b' := Bool.and_eq_true_iff.mp nn
      exact ⟨w, nks, bs, xs, ew, ek, msk_keep F (fun ob z => by unfold Kn at z; cases z) h, rk.msk F b'.1, r.msk F b'.2⟩
  · obtain ⟨u, e⟩ := (S.rs b hb).1
    refine ⟨u, ?_⟩
    cases q : L.lookup b with
    | none => rw [msk_out q]; exact e
    | some ob => exact absurd hb (off b ob q)
  · refine msk_keep F (fun ob z => ?_) e
    rcases k with ⟨ps, rfl⟩ | ⟨c, q, rfl⟩ <;> (unfold Kn at z; cases z)
  · cases q : L.lookup b with
    | none => rw [msk_out q] at e; exact S.rp b hb u e
    | some ob => rw [msk_in q] at e; cases e
/-- the heap only grows -/
theorem Sim.grow (S : Sim B H ι st) (k : ∀ b u, H b = some u → H' b = some u) (rp : ∀ b ∈ B.ρ, ∀ u, H' b = some u → H b = some u) : Sim B H' ι st ∧ Step ι H ι H' := by
  have s : Step ι H ι H' := ⟨⟨[], by simp, by simp⟩, fun b u _ _ e => k b u e⟩
  exact ⟨⟨S.len, S.nd, fun n ob e => by
    obtain ⟨b, hb, q⟩ := S.ob n ob e
    exact ⟨b, hb, q.stays (k b) fun ds xs r => r.step s⟩, fun b hb => ⟨by obtain ⟨⟨u, e⟩, _⟩ := S.rs b hb; exact ⟨u, k b u e⟩, (S.rs b hb).2⟩, S.tab.ext k, fun b hb u e => S.rp b hb u (rp b hb u e)⟩, s⟩
/-- a table has grown, other things may be new -/
theorem Sim.tables (S : Sim B H ι st) (x : ExtN H H') (t : Tabs (NMs.T B.K) H') : Sim B H' ι st ∧ Step ι H ι H' := by
  have s : Step ι H ι H' := ⟨⟨[], by simp, by simp⟩, fun b u _ nt e => x b u e nt⟩
  refine ⟨⟨S.len, S.nd, fun n ob e => ?_, fun b hb => ⟨?_, (S.rs b hb).2⟩, t, fun b hb u e => ?_⟩, s⟩
  · obtain ⟨b, hb, q⟩ := S.ob n ob e
    exact ⟨b, hb, q.stays (fun u z => x b u z fun ps y => or_tbl q ps (by rw [z, y])) fun ds xs r => r.step s⟩
  · obtain ⟨⟨u, e⟩, _⟩ := S.rs b hb
    exact ⟨u, x b u e (S.rp b hb u e).nt⟩
  · obtain ⟨⟨u', e'⟩, _⟩ := S.rs b hb
    have pl := S.rp b hb u' e'
    have := x b u' e' pl.nt
    rw [e] at this; cases this; exact pl
end
/-! ### arguments that end with a lambda -/
def PAdL (X : Cx) (W : WX) (lw : LW) (es : List Expr) (ds : DA) : Prop := PA X es (fun σ H Q => tG X.K X.mg relA W ds σ H fun vs H1 => tLm X (NMs.T X.K) lw σ H1 fun v H2 => Q (vs ++ [v]) H2)
section
variable {X : Cx} {W : WX} {lw : LW} {e e2 : Expr} {es : List Expr} {da : DE} {ds : DA}
theorem padl_nil {p : Arguments} {b : Expr} {s : Scope} {pos : Pos} (h : PE X (.Lambda p b s pos) (tLm X (NMs.T X.K) lw)) : PAdL X W lw [.Lambda p b s pos] dNil :=
  PA.mono (pa_cons h pa_nil) fun σ H Q ⟨ρ, ι, st, env, S, ve, p⟩ => p.ok S rfl
theorem padl_cons (ha : PEd X W e da) (hr : PAdL X W lw (e2 :: es) ds) (hs : starEach (e :: e2 :: es) X.env = (false, eval e X.env) :: starEach (e2 :: es) X.env := by rfl) : PAdL X W lw (e :: e2 :: es) (dCons da ds) :=
  PA.mono (pa_cons ha hr hs) fun σ H Q h => by
    have := cons_read (da := da) (ds := ds) h
    exact this
end
end DD

/-! DD32: an own def called with a lambda, by data. -/
namespace DD
open PySem L2 PyProof.Rows LamX NdefX
variable [NMs]
def capsE (env : Env) : List Nat → Option (List D)
  | [] => some []
  | j :: r => match env[j]? with
    | some (some d) => (capsE env r).map (d :: ·)
    | _ => none
theorem caps_of {B : Bs} {H : Hp} {ι : List Addr} {env : Env} {σ : L2.St} (ve : VEnv B H ι env σ) : ∀ {js : List Nat} {cs : List D}, capsE env js = some cs → ∃ xs : List V, js.map (slotAt σ) = xs.map some ∧ VRs B H ι cs xs
  | [], cs, e => by cases e; exact ⟨[], rfl, rfl⟩
  | j :: r, cs, e => by
    unfold capsE at e
    split at e
    · rename_i d q
      obtain ⟨cs', e1, rfl⟩ := Option.map_eq_some_iff.mp e
      obtain ⟨v, h1, h2⟩ := ve.2 j d q
      obtain ⟨xs, e2, r2⟩ := caps_of ve e1
      exact ⟨v :: xs, by rw [List.map_cons, slotAt_of h1, e2]; rfl, v, xs, rfl, h2, r2⟩
    · cases e
def dOwnLam (m : M) (n : Nat) (ds : DA) (k : Nat) (lw : LW) (js : List Nat) : DE := fun env st => (ds env st).bind fun xs st1 => match capsE env js with
  | some cs => if xs.length + 1 = n then (match m (xs ++ [.lam k lw cs]) st1 with
    | .ok y st2 => if noLam y = true ∧ st2.all noLamO = true then .ok y st2 else .bad
    | _ => .bad) else .bad
  | none => .bad
section
variable {X : Cx} {W : WX} {lw : LW} {pos p : Pos} {e : Expr} {es : List Expr} {ds : DA} {k kk n : Nat} {g : Addr} {fd : FuncData} {ps : List Str} {m : M} {x : Str} {js : List Nat}
theorem offH_of {B : Bs} {ι : List Addr} {H : Hp} {b : Addr} {o : HO} (h1 : b ∉ ι) (h2 : b ∉ B.ρ) (e : H b = some o) : offH B ι H b = some o := offH_iff.mpr ⟨h1, h2, e⟩
theorem pd_ownLam (F : FnOk X.prog X.w X.K X.mg X.base (L2.CX X.prog X.w) k g fd ps (spD X.K X.mg m n)) (hr : Room k X.A) (hg : Gl X x) (hm : X.mg x = some (.ref g)) (hk : PySem.W.keepIn X.K (.ref g) = true) (hb : L2.Binds X.K fd ps [])
    (cp : X.Ok → Caps X (cloFrom X.env.cells lw.scope.names []) lw.fr js) (own : ∀ y c, (cloFrom X.env.cells lw.scope.names []).lookup y = some c → X.fn y = true) (ha : PAdL X W lw (e :: es) ds)
    (hdb : (x == ("__debug__" : Str)) = false := by decide) (he : starEach (e :: es) X.env = (false, eval e X.env) :: starEach es X.env := by rfl) (hpl : (backTo pos (starEach es X.env)).any (·.1) = false := by rfl) :
    PEd X W (.Call (.Name x p) (e :: es) [] pos) (dOwnLam m n ds kk lw js) := by
  unfold PAdL at ha
  refine PE.mono (pe_callP F hr hg hm hk hb cp own ha hdb he hpl) fun σ H Q ⟨ρ, ι, st, env, S, ve, q⟩ => ⟨ρ, ι, st, env, S, ve, Post.bind q fun xs st1 ι1 H1 vs s1 S1 rx q1 => ?_⟩
  have rx : VRs ⟨X.K, X.mg, ρ⟩ H1 ι1 xs vs := rx
  refine ⟨S1.tab, fun f c' pm ctv H2 x12 t2 nf hf hc => ?_⟩
  cases ec : capsE env js with
  | none => rw [ec] at q1; exact q1.elim
  | some cs =>
  rw [ec] at q1
  simp only [] at q1
  by_cases hl : xs.length + 1 = n
  case neg => simp only [hl, if_false] at q1; exact q1.elim
  simp only [hl, if_true] at q1
  obtain ⟨S2, s2⟩ := S1.tables x12 t2
  have ve2 := (ve.step s1).step s2
  obtain ⟨cxs, e1, rc⟩ := caps_of ve2 ec
  refine ⟨cxs, e1, fun L cap nL => ?_⟩
  have up : ∀ b u, H2 b = some u → pls L H2 b = some u := fun b u eb => by
    cases ql : L.lookup b with
    | none => rw [pls_out ql]; exact eb
    | some o => rw [nL b o ql] at eb; cases eb
  obtain ⟨S3, s3⟩ := S2.grow (H' := pls L H2) up fun b hb u eb => by
    cases ql : L.lookup b with
    | none => rw [pls_out ql] at eb; exact eb
    | some o =>
      obtain ⟨⟨u', e'⟩, _⟩ := S2.rs b hb
      rw [nL b o ql] at e'; cases e'
  have Lι : ∀ b o, L.lookup b = some o → b ∉ ι1 ∧ b ∉ ρ := fun b o ql => ⟨S2.fresh (nL b o ql), S2.fr (nL b o ql)⟩
  have fι : f ∉ ι1 ∧ f ∉ ρ := ⟨S1.fresh nf, S1.fr nf⟩
  have cι : c' ∉ ι1 ∧ c' ∉ ρ := by
    refine ⟨fun z => ?_, fun z => (S2.rp c' z _ hc).nc _ _ rfl⟩
    obtain ⟨i, hi, ei⟩ := List.mem_iff_getElem.mp z
    obtain ⟨ob, eo⟩ : ∃ ob, st1[i]? = some ob := ⟨_, List.getElem?_eq_getElem (by rw [← S2.len]; exact hi)⟩
    obtain ⟨b, hb', qo⟩ := S2.ob i ob eo
    rw [List.getElem?_eq_getElem hi, ei] at hb'
    cases hb'
    exact or_code qo _ _ hc
  have lam : VR ⟨X.K, X.mg, ρ⟩ (pls L H2) ι1 (.lam kk lw cs) (.ref f) := ⟨f, L, cxs, rfl, cap.lam (offH_of fι.1 fι.2 (up _ _ hf)) (offH_of cι.1 cι.2 (up _ _ hc)) (fun b o ql => offH_of (Lι b o ql).1 (Lι b o ql).2 (pls_in ql)), rc.step s3⟩
  refine ⟨by rw [List.length_append, ← rx.length]; exact hl, ρ, ι1, st1, xs ++ [.lam kk lw cs], S3, ((rx.step s2).step s3).append (VRs.one lam), ?_⟩
  cases em : m (xs ++ [.lam kk lw cs]) st1 with
  | bad => rw [em] at q1; exact q1.elim
  | exc y st2 => rw [em] at q1; exact q1.elim
  | ok y st2 =>
    rw [em] at q1
    simp only [] at q1
    by_cases hn : noLam y = true ∧ st2.all noLamO = true
    case neg => simp only [hn, if_false] at q1; exact q1.elim
    simp only [hn, if_true, and_self] at q1
    intro ι4 H4 v s4 S4 ry hh
    have off4 : ∀ b o, L.lookup b = some o → b ∉ ρ := fun b o ql => (Lι b o ql).2
    have S5 := S4.msk hh off4 hn.2
    have s5 : Step ι1 H2 ι4 (msk L H4) := by
      obtain ⟨more, e4, f4⟩ := s4.pre
      refine ⟨⟨more, e4, fun a ha' => ⟨fun o eo => (f4 a ha').1 o (up _ _ eo), (f4 a ha').2⟩⟩, fun a o hn' nt eo => ?_⟩
      have z := s4.rest0 a o hn' nt (up _ _ eo)
      cases ql : L.lookup a with
      | none => rw [msk_out ql]; exact z
      | some ob => rw [nL a ob ql] at eo; cases eo
    exact q1 ι4 (msk L H4) v (s2.trans s5) S5 (VR.msk hh hn.1 ry)
end
end DD

/-! DD33: a name that holds a lambda, called. -/
namespace DD
open PySem L2 PyProof.Rows LamX NdefX
/-- what is known of a lambda's body: its names, how its parameters are bound, its reading in every frame -/
structure LamOk (Z : Cx) (k : Nat) (W : LW) (N ps : List Str) (t : TE) : Prop where
  sc : NScope N ps W.fr W.scope
  bind : ∀ (cl : List (Str × Addr)) (pm cv ctv : Value) (us : List Value), us.length = ps.length → bindArgs (PySem.W.kla_fn "<lambda>" W.qual W.params W.body W.scope cl pm cv ctv) ⟨us, []⟩ = pure (ps.zip us)
  body : ∀ (f : Addr) (cl : List (Str × Addr)) (c' : Addr) (A : Around) (outer : List PySem.Env) (s : Shared) (H : Hp), Room k (A.deeper (PySem.W.envX W.qual W.scope s.heap.objs.size f (.ref c') cl)) → PE (lcx (L2.CX Z.prog Z.w) Z.prog Z.w Z.K Z.mg Z.base N W cl c' f A outer s H noX) W.body t
def tGo (Z : Cx) (k i : Nat) (ta : TA) : TE := fun σ H Q => ∃ f W, σ[i]? = some (some (.ref f)) ∧ (∃ cl pm c' ctv, H f = some (Kn (LW.obj W cl pm c' ctv))) ∧ ta σ H fun vs H1 => ∃ L xs N ps t, LamAt L H1 f W xs ∧ LamOk Z k W N ps t ∧ vs.length = ps.length ∧
  t (startF N vs (xs.map some)) (msk L H1) (fun v H' => (∀ b o, L.lookup b = some o → H' b = none) → Q v (pls L H'))
section
variable {X : Cx} {i k : Nat} {x : Str} {ta : TA} {e : Expr} {es : List Expr} {p pos : Pos}
theorem pe_go (hr : Room (k + 1) X.A) (hN : X.N[i]? = some x) (hv : Vis X.env.scope x) (ha : PA X (e :: es) ta) (hd : (x == ("__debug__" : Str)) = false := by decide) (hcd : (x == ("__classdict__" : Str)) = false := by decide)
    (he : starEach (e :: es) X.env = (false, eval e X.env) :: starEach es X.env := by rfl) (hpl : (backTo pos (starEach es X.env)).any (·.1) = false := by rfl) : PE X (.Call (.Name x p) (e :: es) [] pos) (tGo X k i ta) := by
  refine ⟨fun pins s σ H Q I h => ?_⟩
  obtain ⟨f, W, hs, ⟨cl, pm, c', ctv, hf⟩, ht⟩ := h
  refine wpAny_Call_Name_kw (thn ((pe_var (pos := p) hN hv hd hcd).run pins s σ H (fun v H1 => v = .ref f ∧ H1 = H) I ⟨.ref f, hs, rfl, rfl⟩) fun u s1 ⟨v, H1, I1, r1, q1⟩ => ?_)
  obtain ⟨ev, eH⟩ := q1
  subst ev
  rw [eH] at I1
  obtain rfl : u = Value.ref f := r1
  refine PySem.W.callWith_F (first := []) ⟨_, _, _, _, kn_at I1.hok hf⟩ (thn (ha.run pos pins s1 σ H _ I1 ht) fun us s2 ⟨vs, H2, I2, r, L, xs, N, ps, t, La, ok, hl, q⟩ => ⟨?_, ?_⟩) he hpl
  · obtain ⟨_, _, _, _, hf2, _⟩ := La.ob
    exact ⟨_, _, _, _, kn_at I2.hok hf2⟩
  · show wpAny _ _ (call (.ref f) us) _ _ _
    exact lam_run I2 La ok.sc ok.bind r hl hr (fun cl c' A outer s H hr' => ok.body f cl c' A outer s H hr') q
end
variable [NMs]
/-- a lambda's body as a function of what it gets and what it captured -/
def mLam (d : DE) (N : List Str) (n m : Nat) : M := fun xs st => if xs.length = n + m then d (xs.map some ++ List.replicate (N.length - n - m) none) st else .bad
/-- what a table of lambdas tells is so -/
def TabOk (X : Cx) (k : Nat) (tab : Nat → LW → M) : Prop := ∀ kk W, (∀ xs st, tab kk W xs st = .bad) ∨ ∃ N ps d, LamOk X k W N ps (tG X.K X.mg relV W0 d) ∧ ∀ xs st, tab kk W xs st = if xs.length = ps.length + W.fr.length then d (xs.map some ++ List.replicate (N.length - ps.length - W.fr.length) none) st else .bad
def dLamGo (tab : Nat → LW → M) (i : Nat) (ds : DA) : DE := fun env st => match env[i]? with
  | some (some (.lam kk W cs)) => (ds env st).bind fun xs st1 => if noLams xs = true ∧ noLams cs = true ∧ st1.all noLamO = true ∧ cs.length = W.fr.length then (match tab kk W (xs ++ cs) st1 with
    | .ok y st2 => .ok y st2
    | _ => .bad) else .bad
  | _ => .bad
theorem venv_startF {B : Bs} {H : Hp} {ι : List Addr} {xs cs : List D} {vs ws : List V} (N : List Str) (h1 : VRs B H ι xs vs) (h2 : VRs B H ι cs ws) : VEnv B H ι ((xs ++ cs).map some ++ List.replicate (N.length - xs.length - cs.length) none) (startF N vs (ws.map some)) := by
  have l1 := h1.length
  have l2 := h2.length
  have h := h1.append h2
  have es : startF N vs (ws.map some) = (vs ++ ws).map some ++ List.replicate (N.length - xs.length - cs.length) none := by
    unfold startF
    rw [List.map_append, List.append_assoc, List.length_map, l1, l2]
  rw [es]
  refine ⟨by simp [l1, l2], fun i d e => ?_⟩
  by_cases hi : i < (xs ++ cs).length
  · rw [List.getElem?_append_left (by simpa using hi), List.getElem?_map] at e
    obtain ⟨d', q, e2⟩ := Option.map_eq_some_iff.mp e
    cases e2
    obtain ⟨v, g1, g2⟩ := h.get q
    refine ⟨v, ?_, g2⟩
    have hi2 : i < ((vs ++ ws).map (some : V → Option V)).length := by rw [List.length_map, ← h.length]; exact hi
    rw [List.getElem?_append_left hi2, List.getElem?_map, g1]; rfl
  · rw [List.getElem?_append_right (by simpa using hi), List.getElem?_replicate] at e
    split at e <;> cases e
section
variable {X : Cx} {W : WX} {i k : Nat} {x : Str} {ds : DA} {e : Expr} {es : List Expr} {p pos : Pos} {tab : Nat → LW → M}
theorem pd_lamGo (hT : TabOk X k tab) (hr : Room (k + 1) X.A) (hN : X.N[i]? = some x) (hv : Vis X.env.scope x) (ha : PAd X W (e :: es) ds) (hd : (x == ("__debug__" : Str)) = false := by decide) (hcd : (x == ("__classdict__" : Str)) = false := by decide)
    (he : starEach (e :: es) X.env = (false, eval e X.env) :: starEach es X.env := by rfl) (hpl : (backTo pos (starEach es X.env)).any (·.1) = false := by rfl) : PEd X W (.Call (.Name x p) (e :: es) [] pos) (dLamGo tab i ds) := by
  refine PE.mono (pe_go (k := k) hr hN hv ha hd hcd he hpl) fun σ H Q ⟨ρ, ι, st, env, S, ve, q⟩ => ?_
  unfold dLamGo at q
  split at q
  case h_2 => exact q.elim
  rename_i kk lw cs hi
  obtain ⟨v0, g1, f, L0, xs0, e0, la0, rc0⟩ := ve.2 i _ hi
  subst e0
  obtain ⟨cl, pm, c', ctv, hf, _⟩ := la0.to.ob
  refine ⟨f, lw, g1, ⟨cl, pm, c', ctv, hf⟩, ρ, ι, st, env, S, ve, Post.bind q fun xs st1 ι1 H1 vs s1 S1 rx q1 => ?_⟩
  have rx : VRs ⟨X.K, X.mg, ρ⟩ H1 ι1 xs vs := rx
  by_cases hc : noLams xs = true ∧ noLams cs = true ∧ st1.all noLamO = true ∧ cs.length = lw.fr.length
  case neg => rw [if_neg hc] at q1; exact q1.elim
  rw [if_pos hc] at q1
  obtain ⟨c1, c2, c3, c4⟩ := hc
  have la1 := la0.step s1
  have rc1 := VRs.step s1 rc0
  have held := la1.to.held
  have offL : ∀ b o, L0.lookup b = some o → b ∉ ι1 ∧ b ∉ ρ := fun b o ql => by
    have := offH_iff.mp (la1.held b o ql)
    exact ⟨this.1, this.2.1⟩
  rcases hT kk lw with bad | ⟨N, ps, d, ok, et⟩
  · rw [bad] at q1; exact q1.elim
  rw [et] at q1
  by_cases hl : (xs ++ cs).length = ps.length + lw.fr.length
  case neg => rw [if_neg hl] at q1; exact q1.elim
  rw [if_pos hl] at q1
  have hx : xs.length = ps.length := by rw [List.length_append] at hl; omega
  refine ⟨L0, xs0, N, ps, _, la1.to, ok, by rw [← rx.length]; exact hx, ρ, ι1, st1, _, S1.msk held (fun b o ql => (offL b o ql).2) c3, venv_startF N (VRs.msk held c1 rx) (VRs.msk held c2 rc1), ?_⟩
  rw [hx, c4]
  cases em : d ((xs ++ cs).map some ++ List.replicate (N.length - ps.length - lw.fr.length) none) st1 with
  | bad => rw [em] at q1; exact q1.elim
  | exc y st2 => rw [em] at q1; exact q1.elim
  | ok y st2 =>
    rw [em] at q1
    intro ι4 H4 v s4 S4 ry hh
    have ry : VR ⟨X.K, X.mg, ρ⟩ H4 ι4 y v := ry
    have up : ∀ b u, H4 b = some u → pls L0 H4 b = some u := fun b u eb => by
      cases ql : L0.lookup b with
      | none => rw [pls_out ql]; exact eb
      | some o => rw [hh b o ql] at eb; cases eb
    obtain ⟨S5, s5⟩ := S4.grow (H' := pls L0 H4) up fun b hb u eb => by
      cases ql : L0.lookup b with
      | none => rw [pls_out ql] at eb; exact eb
      | some o => exact absurd hb (offL b o ql).2
    have s6 : Step ι1 H1 ι4 (pls L0 H4) := by
      obtain ⟨more, e4, f4⟩ := s4.pre
      refine ⟨⟨more, e4, fun a ha' => ⟨fun o eo => ?_, (f4 a ha').2⟩⟩, fun a o hn' nt eo => ?_⟩
      · cases ql : L0.lookup a with
        | none => exact (f4 a ha').1 o (by rw [msk_out ql]; exact eo)
        | some ob => exact absurd (by rw [e4]; exact List.mem_append_right _ ha') (S4.fresh (hh a ob ql))
      · cases ql : L0.lookup a with
        | none =>
          rw [pls_out ql]
          exact s4.rest0 a o hn' nt (by rw [msk_out ql]; exact eo)
        | some ob => rw [pls_in ql, ← held a ob ql]; exact eo
    exact q1 ι4 (pls L0 H4) v s6 S5 (VR.step s5 ry)
end
end DD

/-! DD34: lambdas by their places in the text; defs that make lambdas; the end with tables. -/
namespace DD
open PySem L2 PyProof.Rows LamX NdefX
/-! ### places -/
def callArg (i : Nat) : Expr → Expr
  | .Call f as ks p => as.getD i (.Call f as ks p)
  | e => e
def stE (d : Expr) : Stmt → Expr
  | .Return (some e) _ => e
  | .Assign _ v _ => v
  | .Expr v _ => v
  | .For _ it _ _ _ => it
  | _ => d
def stB (i : Nat) : Stmt → List Stmt
  | .For _ _ b e _ => if i = 0 then b else e
  | .While _ b e _ => if i = 0 then b else e
  | .If _ b e _ => if i = 0 then b else e
  | .Try b _ _ _ _ => b
  | _ => []
def lamW (qual : Str) (fr : List Str) (st : Stmt) : Expr → LW
  | .Lambda p b s _ => ⟨qual, p, b, s, fr⟩
  | e => ⟨qual, defArgs st, e, defScope st, fr⟩
def noE : Expr := .Constant .none 0 ⟨0, 0, 0, 0⟩
/-! ### what a lambda captures -/
def capB (sc : Scope) (W : LW) : Bool := W.scope.names.all (fun y => !decide (y.2 = .free) || decide (sc.names.lookup y.1 = some .cell) || decide (sc.names.lookup y.1 = some .free)) && W.fr.all (fun y => decide ((y, NameKind.free) ∈ W.scope.names))
theorem capB_1 {sc : Scope} {W : LW} (h : capB sc W = true) : ∀ y ∈ W.scope.names, y.2 = .free → sc.names.lookup y.1 = some .cell ∨ sc.names.lookup y.1 = some .free := fun y hy e => by
  unfold capB at h
  simp only [Bool.and_eq_true, List.all_eq_true, Bool.or_eq_true, Bool.not_eq_true', decide_eq_true_eq, decide_eq_false_iff_not] at h
  rcases h.1 y hy with (z | z) | z
  · exact absurd e z
  · exact .inl z
  · exact .inr z
theorem caps_by {X : Cx} {W : LW} {sc : Scope} {js : List Nat} (hs : X.env.scope = sc) (h : capB sc W = true) (hj : js.map (fun j => X.N[j]?) = W.fr.map some) : X.Ok → Caps X (cloFrom X.env.cells W.scope.names []) W.fr js := fun ok =>
  Caps.made ok (by rw [hs]; exact capB_1 h) (fun y hy => by
    unfold capB at h
    simp only [Bool.and_eq_true, List.all_eq_true, decide_eq_true_eq] at h
    exact h.2 y hy) hj
/-! ### a lambda among the arguments -/
section
variable [NMs] {X : Cx} {W : WX} {lw : LW}
theorem lam_by {p : Arguments} {b : Expr} {s sc : Scope} {pos : Pos} {c P : Addr} (tb : TabB X.base X.mg c P) (hc : X.env.code = .ref c) (mT : (P, lw.qual) ∈ NMs.T X.K) (oT : ∀ p ∈ NMs.T X.K, p.1 = P → p.2 = lw.qual)
    (e1 : p = lw.params) (e2 : b = lw.body) (e3 : s = lw.scope) (hq : lw.qual = X.env.qual ++ "<lambda>") (hd : defaultsOf p X.env = ([], [])) (hs : X.env.scope = sc) (h : capB sc lw = true) : PE X (.Lambda p b s pos) (tLm X (NMs.T X.K) lw) := by
  subst e1 e2 e3
  exact pe_lam tb hc mT oT hq hd fun ok y hy e => by
    rcases capB_1 h y hy e with z | z
    · exact ok.has _ (.inl (by rw [← hs] at z; exact z))
    · exact ok.has _ (.inr (by rw [← hs] at z; exact z))
end
/-! ### a def that makes lambdas: its code object is known -/
structure FunL (K : PySem.W.Frag) (x qual : Str) (st : Stmt) (f : Addr) (fd : FuncData) (c : Addr) : Prop where
  ex : ∃ (oc : Value) (od : Option Addr) (kV doc pm : Value) (an : Option Addr) (ct : Value) (osl : Array (Option Value)),
    fd = PySem.W.fnOf x qual (defArgs st) (defBody st) (defScope st) .none kV doc pm an (.ref c) ct ∧ K.lookup f = some ⟨oc, od, .func fd, osl⟩ ∧ PySem.W.codeIn K (.ref c) qual = true
section
variable [NMs] {P : Program} {w : World} {K : PySem.W.Frag} {mg : Str → Option Value} {base : Heap}
theorem fn_dL {x qual : Str} {st : Stmt} {f c : Addr} {fd : FuncData} {N ps : List Str} {k : Nat} {d : DS} (F : FunL K x qual st f fd c) (S : FnScope N ps (defScope st))
    (body : ∀ (A : Around) (outer : List PySem.Env) (s : Shared) (H : Hp) (E : XK), Room k (A.deeper (envOfC qual (defScope st) s.heap.objs.size f (.ref c))) →
      Takes (cxOf (L2.CX P w) P w K mg base N qual (defScope st) f (.ref c) A outer s H E) (fun c dd _ H => E c dd H) → Lets (cxOf (L2.CX P w) P w K mg base N qual (defScope st) f (.ref c) A outer s H E) (fun c dd _ H => E c dd H) →
      PSsd (cxOf (L2.CX P w) P w K mg base N qual (defScope st) f (.ref c) A outer s H E) (fun c dd _ H => E c dd H) (defBody st) d) : FnOk P w K mg base (L2.CX P w) (k + 1) f fd ps (spD K mg (mOf d N.length) ps.length) := by
  obtain ⟨oc, od, kV, doc, pm, an, ct, osl, rfl, lk, hcd⟩ := F.ex
  refine fn_of lk hcd S (fun vs H Q E h => h.1) fun A outer s H vs Q E hr h => ?_
  have tk : Takes (cxOf (L2.CX P w) P w K mg base N qual (defScope st) f (.ref c) A outer s H E) (fun c dd _ H => E c dd H) := takes_of rfl rfl rfl rfl
  refine ⟨_, body A outer s H E hr tk (lets_of tk), ?_⟩
  obtain ⟨hl, ρ, ι, st0, ds, S0, r, p⟩ := h
  refine ⟨ρ, ι, st0, _, S0, VEnv.start N r, ?_⟩
  unfold mOf at p
  cases q : d (ds.map some ++ List.replicate (N.length - ds.length) none) st0 with
  | nx env1 st1 => simp only [q] at p; exact fun ι1 H1 σ1 s1 S1 _ => p ι1 H1 .non s1 S1 rfl
  | rt x st1 => simp only [q] at p; exact fun ι1 H1 v s1 S1 rx => p ι1 H1 v s1 S1 rx
  | exc x e st1 => simp only [q] at p; exact fun ι1 H1 σ1 c dd s1 S1 _ ex => p ι1 H1 c dd s1 S1 ex
  | bk e st1 => simp only [q] at p; exact p.elim
  | ct e st1 => simp only [q] at p; exact p.elim
  | bad => simp only [q] at p; exact p.elim
theorem funL_mk {x qual : Str} {st : Stmt} {f c : Addr} {oc : Value} {od an : Option Addr} {osl : Array (Option Value)} {kV doc pm cdv ct : Value} (l : K.lookup f = some ⟨oc, od, .func (PySem.W.fnOf x qual (defArgs st) (defBody st) (defScope st) .none kV doc pm an cdv ct), osl⟩) (hc : PySem.W.codeIn K cdv qual = true) (e : cdv = .ref c) :
    FunL K x qual st f (PySem.W.fnOf x qual (defArgs st) (defBody st) (defScope st) .none kV doc pm an cdv ct) c := by
  subst e
  exact ⟨oc, od, kV, doc, pm, an, ct, osl, rfl, l, hc⟩
end
/-! ### tables of lambdas -/
section
variable [NMs] {P : Program} {w : World} {K : PySem.W.Frag} {mg : Str → Option Value} {base : Heap}
def LamOkP (P : Program) (w : World) (K : PySem.W.Frag) (mg : Str → Option Value) (base : Heap) (k : Nat) (W : LW) (N ps : List Str) (d : DE) : Prop :=
  ∀ Z : Cx, Z.prog = P → Z.w = w → Z.K = K → Z.mg = mg → Z.base = base → LamOk Z k W N ps (tG Z.K Z.mg relV W0 d)
theorem lamOk_mk {k : Nat} {W : LW} {N ps : List Str} {d : DE} (S : NScope N ps W.fr W.scope) (hb : ∀ (cl : List (Str × Addr)) (pm cv ctv : Value) (us : List Value), us.length = ps.length → bindArgs (PySem.W.kla_fn "<lambda>" W.qual W.params W.body W.scope cl pm cv ctv) ⟨us, []⟩ = pure (ps.zip us))
    (hbody : ∀ (f : Addr) (cl : List (Str × Addr)) (c' : Addr) (A : Around) (outer : List PySem.Env) (s : Shared) (H : Hp), Room k (A.deeper (PySem.W.envX W.qual W.scope s.heap.objs.size f (.ref c') cl)) → PEd (lcx (L2.CX P w) P w K mg base N W cl c' f A outer s H noX) W0 W.body d) : LamOkP P w K mg base k W N ps d := by
  intro Z h1 h2 h3 h4 h5
  subst h1 h2 h3 h4 h5
  exact ⟨S, hb, hbody⟩
def TabOkP (P : Program) (w : World) (K : PySem.W.Frag) (mg : Str → Option Value) (base : Heap) (k : Nat) (tab : Nat → LW → M) : Prop :=
  ∀ Z : Cx, Z.prog = P → Z.w = w → Z.K = K → Z.mg = mg → Z.base = base → TabOk Z k tab
def tabNil : Nat → LW → M := fun _ _ _ _ => .bad
open Classical in
noncomputable def tabCons (i : Nat) (W : LW) (m : M) (r : Nat → LW → M) : Nat → LW → M := fun kk V => if kk = i ∧ V = W then m else r kk V
theorem tabCons_hit {i : Nat} {W : LW} {m : M} {r : Nat → LW → M} : tabCons i W m r i W = m := by
  unfold tabCons
  rw [if_pos ⟨rfl, rfl⟩]
theorem tabCons_miss {i j : Nat} {W V : LW} {m : M} {r : Nat → LW → M} (h : (j == i) = false) : tabCons i W m r j V = r j V := by
  unfold tabCons
  rw [if_neg (fun z => by rw [z.1] at h; simp at h)]
theorem tabOk_nil {k : Nat} : TabOkP P w K mg base k tabNil := fun Z _ _ _ _ _ kk W => .inl fun _ _ => rfl
theorem tabOk_cons {i k k1 : Nat} {W : LW} {N ps : List Str} {d : DE} {r : Nat → LW → M} (h : LamOkP P w K mg base k1 W N ps d) (le : k1 ≤ k) (hr : TabOkP P w K mg base k r) : TabOkP P w K mg base k (tabCons i W (mLam d N ps.length W.fr.length) r) := by
  intro Z h1 h2 h3 h4 h5 kk V
  by_cases e : kk = i ∧ V = W
  · obtain ⟨rfl, rfl⟩ := e
    have L := h Z h1 h2 h3 h4 h5
    exact .inr ⟨N, ps, d, ⟨L.sc, L.bind, fun f cl c' A outer s H hR => L.body f cl c' A outer s H (hR.mono le)⟩, fun xs st => by rw [tabCons_hit]; rfl⟩
  · rcases hr Z h1 h2 h3 h4 h5 kk V with z | ⟨N', ps', d', z1, z2⟩
    · exact .inl fun xs st => by unfold tabCons; rw [if_neg e]; exact z xs st
    · exact .inr ⟨N', ps', d', z1, fun xs st => by unfold tabCons; rw [if_neg e]; exact z2 xs st⟩
end
/-! ### the end, with tables -/
open PySem.W in
def tabsOf (K : Frag) : List (Str × Str) → List (Addr × Str)
  | [] => []
  | (x, q) :: r => match tabIn K x with
    | some (_, P) => (P, q) :: tabsOf K r
    | none => tabsOf K r
open PySem.W in
theorem tabsOf_mem {K : Frag} : ∀ {nm : List (Str × Str)} {p : Addr × Str}, p ∈ tabsOf K nm → ∃ x ∈ nm, ∃ c, tabIn K x.1 = some (c, p.1) ∧ x.2 = p.2
  | [], p, h => by simp [tabsOf] at h
  | (x, q) :: r, p, h => by
    unfold tabsOf at h
    split at h
    · rename_i c P e
      rcases List.mem_cons.mp h with z | z
      · subst z; exact ⟨_, List.mem_cons_self, c, e, rfl⟩
      · obtain ⟨y, hy, c', e1, e2⟩ := tabsOf_mem z
        exact ⟨y, List.mem_cons_of_mem _ hy, c', e1, e2⟩
    · obtain ⟨y, hy, c', e1, e2⟩ := tabsOf_mem h
      exact ⟨y, List.mem_cons_of_mem _ hy, c', e1, e2⟩
open PySem.W in
theorem mem_tabsOf {K : Frag} : ∀ {nm : List (Str × Str)} {x : Str × Str} {c P : Addr}, x ∈ nm → tabIn K x.1 = some (c, P) → (P, x.2) ∈ tabsOf K nm
  | [], x, c, P, h, _ => by simp at h
  | (y, q) :: r, x, c, P, h, e => by
    unfold tabsOf
    rcases List.mem_cons.mp h with z | z
    · subst z
      rw [e]
      exact List.mem_cons_self
    · have := mem_tabsOf (K := K) z e
      split
      · exact List.mem_cons_of_mem _ this
      · exact this
theorem cd_of {K : PySem.W.Frag} {h : Heap} {mg : Str → Option Value} {x n qual : Str} {c P fa : Addr} {oc : Value} {od an : Option Addr} {osl : Array (Option Value)} {ps : Arguments} {b : List Stmt} {sc : Scope} {dV kV doc pm cdv ct : Value} (X : K.In h) (G : h.Ns mainGlobals mg) (ht : PySem.W.tabIn K x = some (c, P))
    (a : PySem.W.nsIn K mainGlobals x = some (some (.ref fa))) (l : K.lookup fa = some ⟨oc, od, .func (PySem.W.fnOf n qual ps b sc dV kV doc pm an cdv ct), osl⟩) : cdv = .ref c :=
  PySem.W.law_code X G ht (PySem.W.mg_of X G a) (X _ _ l) rfl
open PySem.W in
theorem tu_of {K : Frag} {nm : List (Str × Str)} {P : Addr} {q : Str} (h : ∀ y ∈ nm, ∀ c, tabIn K y.1 = some (c, P) → y.2 = q) : ∀ p ∈ tabsOf K nm, p.1 = P → p.2 = q := fun p hp e => by
  obtain ⟨x, hx, c, e1, e2⟩ := tabsOf_mem hp
  rw [← e2]
  exact h x hx c (by rw [← e]; exact e1)
theorem tab_mk {K : PySem.W.Frag} {x n qual : Str} {c P fa : Addr} {oc tc : Value} {od an td : Option Addr} {osl ts : Array (Option Value)} {tv : Array Value} {ps : Arguments} {b : List Stmt} {sc : Scope} {dV kV doc pm ct : Value}
    (a : PySem.W.nsIn K mainGlobals x = some (some (.ref fa))) (l : K.lookup fa = some ⟨oc, od, .func (PySem.W.fnOf n qual ps b sc dV kV doc pm an (.ref c) ct), osl⟩) (lt : K.lookup c = some ⟨tc, td, .fields tv, ts⟩) (e : tv[11]? = some (.ref P)) : PySem.W.tabIn K x = some (c, P) := by
  unfold PySem.W.tabIn
  rw [a]
  simp only [l]
  show (match K.lookup c with
        | some ⟨_, _, .fields vs, _⟩ => (match (vs[11]? : Option Value) with
          | some (.ref P) => some (c, P)
          | _ => none)
        | _ => none) = _
  rw [lt]
  simp only []
  rw [e]
theorem walk_ofDT [NMs] {l : PySem.W.OpenLaw} {k : Nat} {q : Program} {loose : List Str} {XP : (Str → Option Value) → Heap → Prop} {YP : World → Heap → Prop} {d : DefRec} {K : Params → PySem.W.Frag} (nm : List (Str × Str))
    (hnd : ∀ K, NMs.T K = tabsOf K nm) (hn : l.most = some 63) (hdf : d.params.defaults = []) (hr : Room k callerA) (hrec : (nm.all fun p => (recsOf q).any fun e => e.name == p.1) = true)
    (hY : ∀ (w : World) (h : Heap), YP w h → (K w.params).In h)
    (F : ∀ (w : World) (mg : Str → Option Value) (fa : Addr) (h : Heap), (K w.params).In h → h.Ns mainGlobals mg → mg d.name = some (.ref fa) →
      (∀ p ∈ nm, ∀ c P, PySem.W.tabIn (K w.params) p.1 = some (c, P) → (K w.params).lookup P = none) ∧ ∃ fd : FuncData, (∀ (s : Shared) (u : Value), BindsTo s fd ⟨[u], []⟩ [("script", u)]) ∧
        ∀ base : Heap, (K w.params).In base → base.Ns mainGlobals mg → (∀ p ∈ nm, ∀ c P, PySem.W.tabIn (K w.params) p.1 = some (c, P) → TabB base mg c P) → FnOk l.prog w (K w.params) mg base (L2.CX l.prog w) k fa fd ["script"] (spLaw (K w.params))) :
    PySem.W.WalkO q loose XP YP l.row.toRowW d [] (fun f vs => PySem.call f vs) := by
  refine Att.attach_callB hn hdf fun w s₀ s₁ mg mb fa o pm cd doc a vs ns G Y ho hd hcd hmg hobj hints hlen hbits hg => ?_
  have KX := hY w _ Y
  obtain ⟨nT, fd, hb, hF⟩ := F w mg fa _ KX G.T.g hmg
  have tabs : ∀ p ∈ nm, ∀ c P, PySem.W.tabIn (K w.params) p.1 = some (c, P) → PySem.W.CodeHd s₁.heap c P ∧ s₁.heap.get? P = some (PySem.W.tabObj #[]) := fun p hp c P e => by
    have h1 := List.all_eq_true.mp hrec p hp
    cases e2 : (recsOf q).find? (fun e => e.name == p.1) with
    | none =>
      obtain ⟨r, hr1, hr2⟩ := List.any_eq_true.mp h1
      exact absurd hr2 (by simpa using List.find?_eq_none.mp e2 r hr1)
    | some dr => exact PySem.W.tab_of G.T KX e2 e
  obtain ⟨cs, ecs⟩ : ∃ cs : List (Addr × Addr), cs = nm.filterMap fun p => PySem.W.tabIn (K w.params) p.1 := ⟨_, rfl⟩
  have mem : ∀ p, p ∈ cs → ∃ x ∈ nm, PySem.W.tabIn (K w.params) x.1 = some p := fun p hp => by
    rw [ecs, List.mem_filterMap] at hp
    exact hp
  have mem2 : ∀ x ∈ nm, ∀ c P, PySem.W.tabIn (K w.params) x.1 = some (c, P) → (c, P) ∈ cs := fun x hx c P e => by
    rw [ecs, List.mem_filterMap]
    exact ⟨x, hx, e⟩
  refine law_callTs (cs := cs) KX G.T.g G.T.b G.T.builtins G.T.nolimit hg (fun p hp => ?_) (fun p hp => ?_) (fun p hp => ?_) G.T.bmain hobj hints (Nat.le_trans hlen (by decide)) hr (fun base kb nb tb => hF base kb nb fun x hx c P e => tb _ (mem2 x hx c P e)) hb (fun H hH hS => ?_) (fun H e s' => noExc)
  · obtain ⟨x, hx, e⟩ := mem p hp
    exact (tabs x hx p.1 p.2 e).2
  · obtain ⟨x, hx, e⟩ := mem p hp
    exact nT x hx p.1 p.2 e
  · obtain ⟨x, hx, e⟩ := mem p hp
    exact (tabs x hx p.1 p.2 e).1
  · refine ⟨a, ns, rfl, hS, hlen, ?_, fun _ => rfl⟩
    unfold Tb0
    rw [hnd]
    intro p hp
    obtain ⟨x, hx, c, e, eq⟩ := tabsOf_mem hp
    exact TabS.nil (hH _ (mem2 x hx c _ e))
end DD

/-! DD35: equations for lambdas; great numbers. -/
namespace DD
open PySem L2 PyProof.Rows
section
variable [NMs] {tab : Nat → LW → M} {i k kk n : Nat} {ds : DA} {env : Env} {st : Sto} {W lw : LW} {cs xs : List D} {m : M} {js : List Nat}
def lamGoR (tab : Nat → LW → M) (x : D) (xs : List D) (st1 : Sto) : Res D := match x with
  | .lam kk W cs => if noLams xs = true ∧ noLams cs = true ∧ st1.all noLamO = true ∧ cs.length = W.fr.length then (match tab kk W (xs ++ cs) st1 with
    | .ok y st2 => .ok y st2
    | _ => .bad) else .bad
  | _ => .bad
def goE (tab : Nat → LW → M) (o : Option (Option D)) (r : Res (List D)) : Res D := match o with
  | some (some (.lam kk W cs)) => r.bind fun xs st1 => lamGoR tab (.lam kk W cs) xs st1
  | _ => .bad
@[simp] theorem dLamGo_e : dLamGo tab i ds env st = goE tab env[i]? (ds env st) := by
  unfold dLamGo goE
  rcases env[i]? with _ | _ | d
  · rfl
  · rfl
  · cases d <;> rfl
@[simp] theorem goE_lam : goE tab (some (some (.lam kk W cs))) (.ok xs st) = lamGoR tab (.lam kk W cs) xs st := rfl
theorem lamGoR_ok {y : D} {st2 : Sto} (h : tab kk W (xs ++ cs) st = .ok y st2) (h1 : noLams xs = true) (h2 : noLams cs = true) (h3 : st.all noLamO = true) (h4 : cs.length = W.fr.length) : lamGoR tab (.lam kk W cs) xs st = .ok y st2 := by
  unfold lamGoR
  simp only [h1, h2, h3, h4, and_self, if_true, h]
def ownLamR (m : M) (n k : Nat) (lw : LW) (co : Option (List D)) (xs : List D) (st1 : Sto) : Res D := match co with
  | some cs => if xs.length + 1 = n then (match m (xs ++ [.lam k lw cs]) st1 with
    | .ok y st2 => if noLam y = true ∧ st2.all noLamO = true then .ok y st2 else .bad
    | _ => .bad) else .bad
  | none => .bad
@[simp] theorem dOwnLam_e : dOwnLam m n ds k lw js env st = (ds env st).bind fun xs st1 => ownLamR m n k lw (capsE env js) xs st1 := by
  unfold dOwnLam ownLamR
  rfl
theorem ownLamR_ok {y : D} {st2 : Sto} (hn : xs.length + 1 = n) (h : m (xs ++ [.lam k lw cs]) st = .ok y st2) (h1 : noLam y = true) (h2 : st2.all noLamO = true) : ownLamR m n k lw (some cs) xs st = .ok y st2 := by
  unfold ownLamR
  simp only [hn, if_true, h, h1, h2, and_self]
theorem noLams_map {α : Type} {f : α → D} (h : ∀ a, noLam (f a) = true) : ∀ l : List α, noLams (l.map f) = true
  | [] => rfl
  | a :: r => by rw [List.map_cons]; unfold noLams; rw [h a, noLams_map h r]; rfl
theorem noLams_all : ∀ l : List D, noLams l = l.all noLam
  | [] => rfl
  | a :: r => by unfold noLams; rw [noLams_all r]; rfl
/-- no lambda in the store -/
def NL (st : Sto) : Prop := st.all noLamO = true
theorem NL.app {o : O} (h : NL st) (ho : noLamO o = true) : NL (st ++ [o]) := by
  unfold NL at *
  rw [List.all_append, h]
  simp [ho]
theorem NL.set {o : O} {j : Nat} (h : NL st) (ho : noLamO o = true) : NL (st.set j o) := by
  unfold NL at *
  rw [List.all_eq_true] at *
  intro x hx
  rcases List.mem_or_eq_of_mem_set hx with z | z
  · exact h x z
  · rw [z]; exact ho
end
theorem cMulW_to2 [NMs] {i j : Int} (h1 : i.natAbs < 10 ^ 60) (h2 : j.natAbs < 10 ^ 60) : cMulW i j = true := by
  rw [cMulW, x_cMulW.choose_spec]
  have a : i.natAbs < 2 ^ 400 := Nat.lt_of_lt_of_le h1 (by decide)
  have b : j.natAbs < 2 ^ 400 := Nat.lt_of_lt_of_le h2 (by decide)
  simp [a, b]
/-! ### steps that are repeated -/
section
variable {α : Type} {f : α → Int × α} {a : α}
def itN (f : α → Int × α) : Nat → α → α
  | 0, a => a
  | n + 1, a => itN f n (f a).2
def smN (f : α → Int × α) : Nat → α → Int
  | 0, _ => 0
  | n + 1, a => (f a).1 + smN f n (f a).2
theorem itN_add : ∀ (m n : Nat) (a : α), itN f (m + n) a = itN f n (itN f m a)
  | 0, n, a => by rw [Nat.zero_add]; rfl
  | m + 1, n, a => by
    rw [show m + 1 + n = (m + n) + 1 by omega]
    exact itN_add m n _
theorem smN_add : ∀ (m n : Nat) (a : α), smN f (m + n) a = smN f m a + smN f n (itN f m a)
  | 0, n, a => by rw [Nat.zero_add]; simp [smN, itN]
  | m + 1, n, a => by
    rw [show m + 1 + n = (m + n) + 1 by omega]
    simp only [smN, itN, smN_add m n]
    omega
theorem itN_succ (n : Nat) (a : α) : itN f (n + 1) a = (f (itN f n a)).2 := by rw [itN_add]; rfl
theorem smN_succ (n : Nat) (a : α) : smN f (n + 1) a = smN f n a + (f (itN f n a)).1 := by rw [smN_add]; simp [smN]
theorem it_period {k p : Nat} (h : itN f (k + p) a = itN f k a) : ∀ c, itN f (k + c * p) a = itN f k a
  | 0 => by simp
  | c + 1 => by
    rw [show k + (c + 1) * p = (k + c * p) + p by rw [Nat.add_mul]; omega, itN_add, it_period h c, ← itN_add, h]
theorem sm_period {k p : Nat} (h : itN f (k + p) a = itN f k a) : ∀ c : Nat, smN f (k + c * p) a = smN f k a + c * (smN f (k + p) a - smN f k a)
  | 0 => by simp
  | c + 1 => by
    have e1 := smN_add (f := f) (k + c * p) p a
    rw [it_period h c] at e1
    have e2 := smN_add (f := f) k p a
    have e3 := sm_period h c
    rw [show k + (c + 1) * p = (k + c * p) + p by rw [Nat.add_mul]; omega, e1, e3]
    rw [show (((c + 1 : Nat) : Int)) = (c : Int) + 1 by omega, Int.add_mul]
    omega
theorem sm_bound {b : Nat} {P : α → Prop} (hP : ∀ a, P a → P (f a).2 ∧ (f a).1.natAbs ≤ b) : ∀ (n : Nat) (a : α), P a → P (itN f n a) ∧ (smN f n a).natAbs ≤ n * b
  | 0, a, h => ⟨h, by simp [smN]⟩
  | n + 1, a, h => by
    obtain ⟨h1, h2⟩ := hP a h
    obtain ⟨h3, h4⟩ := sm_bound hP n _ h1
    refine ⟨h3, ?_⟩
    simp only [smN]
    have := Int.natAbs_add_le (f a).1 (smN f n (f a).2)
    rw [Nat.add_mul]
    omega
end
end DD

/-! DD36: texts and tuples, so many times. -/
namespace L2
open PySem PySem.Spec PyProof.Rows
theorem tuple_mulS (l : Addr) (items : Array Value) (n : Nat) (dd : Option Addr) (sl : Array (Option Value)) (x : Int) (u : Tok) (c0 : (decide (x < -(2 ^ 63)) || decide (x ≥ 2 ^ 63)) = false) (c1 : (items.isEmpty || x == 1) = true) :
    Meets (Builtin.«tuple.__mul__» ⟨[.ref l, .int x u], []⟩) (fun _ R s => s.heap.get? l = some { cls := .type "tuple", dict := dd, data := .seq items n, slots := sl } ∧ R (.ok (.ret (Value.ref l))) s) :=
  .of_wp fun prog w A R s h => by
    obtain ⟨hp, g, d, tk, os⟩ := s
    obtain ⟨hl, h⟩ := h
    have f1 := AutoSeq1.idx_int
    wp_walk using wpAny_loadPart' hl
    repeat (first
      | (refine wpAny_ite_false (decide_eq_false (by rw [c0]; exact Bool.false_ne_true)) ?_; wp_walk using wpAny_loadPart' hl)
      | (refine wpAny_ite_true (decide_eq_true c1) ?_; wp_walk using wpAny_loadPart' hl))
    exact ⟨_, rfl, h⟩
theorem tuple_mulZ (l : Addr) (items : Array Value) (n : Nat) (dd : Option Addr) (sl : Array (Option Value)) (x : Int) (u : Tok) (c0 : (decide (x < -(2 ^ 63)) || decide (x ≥ 2 ^ 63)) = false) (c1 : (items.isEmpty || x == 1) = false) (c2 : (decide (x ≤ 0) || items.isEmpty) = true) :
    Meets (Builtin.«tuple.__mul__» ⟨[.ref l, .int x u], []⟩) (fun _ R s => s.heap.get? l = some { cls := .type "tuple", dict := dd, data := .seq items n, slots := sl } ∧
      R (.ok (.ret (Value.ref s.heap.objs.size))) { s with heap := s.heap.push { cls := Value.type "tuple", data := Data.seq #[] }, toks := s.toks }) :=
  .of_wp fun prog w A R s h => by
    obtain ⟨hp, g, d, tk, os⟩ := s
    obtain ⟨hl, h⟩ := h
    have f1 := AutoSeq1.idx_int
    wp_walk using wpAny_loadPart' hl
    repeat (first
      | (refine wpAny_ite_false (decide_eq_false (by rw [c0]; exact Bool.false_ne_true)) ?_; wp_walk using wpAny_loadPart' hl)
      | (refine wpAny_ite_false (decide_eq_false (by rw [c1]; exact Bool.false_ne_true)) ?_; wp_walk using wpAny_loadPart' hl)
      | (refine wpAny_ite_true (decide_eq_true c2) ?_; wp_walk using wpAny_loadPart' hl))
    exact ⟨_, rfl, h⟩
end L2
namespace L2
open PySem PySem.Spec PyProof.Rows
/-- a text, so many times -/
def repS (z : Str) (n : Nat) : Str := ⟨(List.replicate n z.cps).foldl (· ++ ·) #[]⟩
theorem foldl_reps (a : Array Nat) : ∀ (n : Nat) (b : Array Nat), ((List.replicate n a).foldl (· ++ ·) b).toList = b.toList ++ (List.replicate n a.toList).flatten
  | 0, b => by simp
  | n + 1, b => by
    rw [List.replicate_succ, List.foldl_cons, foldl_reps a n]
    simp [List.replicate_succ]
theorem repS_list (z : Str) (n : Nat) : (repS z n).cps.toList = (List.replicate n z.cps.toList).flatten := by
  unfold repS
  rw [foldl_reps]
  simp
def rRepA (K : PySem.W.Frag) : R2 := fun x y H Q => (∃ (z : Str) (k : Int), x = .str z ∧ y = .int k ∧ 0 ≤ k ∧ k ≤ 1000 ∧ z.length ≤ 1000 ∧ Q (.str (repS z k.toNat)) H) ∨
  (∃ l k xs, x = .ref l ∧ y = .int k ∧ SqT K H l xs ∧ 0 ≤ k ∧ k ≤ 1000 ∧ xs.length ≤ 1000 ∧ ((xs = [] ∨ k = 1) → Q (.ref l) H) ∧ ∀ p, H p = none → Q (.ref p) (upd H p (.tup (List.replicate k.toNat xs).flatten)))
section
variable {X : Cx}
theorem op_repA : OpR X (binaryOp .Mult) (rRepA X.K) := by
  intro pins s σ H x y v u Q I rx ry h
  rcases h with ⟨z, k, rfl, rfl, h0, h1, hz, q⟩ | ⟨l, k, xs, rfl, rfl, hT, h0, h1, hz, q1, q2⟩
  · obtain ⟨t, rfl⟩ := rx
    obtain ⟨t', rfl⟩ := ry
    have hm : z.length * k.toNat ≤ 1000 * 1000 := Nat.mul_le_mul hz (by omega)
    refine PySem.P.mul_str (by rw [decide_eq_false (by omega), decide_eq_false (by omega)]; rfl) (fun h2 _ => ?_) (fun _ _ => ?_) ?_
    · have hk : (1 : Int) ≤ k := by omega
      have : (1000 : Int) ≤ (2 ^ 63 - 1) / k := by
        rw [Int.le_ediv_iff_mul_le (by omega)]
        have : (1000 : Int) * k ≤ 1000 * 1000 := Int.mul_le_mul_of_nonneg_left h1 (by omega)
        omega
      omega
    · have : (1000 * 1000 : Nat) ≤ sizeLine := by rw [sizeLine_eq]; decide
      unfold PySem.Builtin.Str.tooLong
      simp
      omega
    · by_cases c1 : k < 1
      · rw [if_pos c1]
        have hk : k = 0 := by omega
        subst hk
        have e : repS z (0 : Int).toNat = Str.empty := rfl
        rw [e] at q
        exact ⟨by decide, .str Str.empty, H, I.tok _, ⟨_, rfl⟩, q⟩
      · rw [if_neg c1]
        by_cases c2 : (k == 1 || z.length == 0) = true
        · rw [if_pos c2]
          have e : repS z k.toNat = z := by
            have el : (repS z k.toNat).cps.toList = z.cps.toList := by
              rw [repS_list]
              rw [Bool.or_eq_true] at c2
              rcases c2 with c2 | c2
              · have : k = 1 := eq_of_beq c2
                subst this
                simp
              · have : z.cps.toList = [] := List.length_eq_zero_iff.mp (by have c3 : z.length = 0 := eq_of_beq c2
                                                                           rw [← c3]; simp [Str.length])
                rw [this]; simp
            cases z; cases hr : repS _ _
            rw [hr] at el
            congr 1
            exact Array.toList_inj.mp el
          rw [e] at q
          exact ⟨.str z, H, I, ⟨_, rfl⟩, q⟩
        · rw [if_neg c2]
          refine ⟨?_, .str (repS z k.toNat), H, I.tok _, ⟨_, rfl⟩, q⟩
          show (repS z k.toNat).cps.size ≤ sizeLine
          rw [← Array.length_toList, repS_list, PyProof.Rows.lm_len_rep_flat, sizeLine_eq]
          have : z.cps.toList.length = z.length := by simp [Str.length]
          rw [this]
          have hm2 : k.toNat * z.length ≤ 1000 * 1000 := by rw [Nat.mul_comm]; exact hm
          omega
  · cases rx
    obtain ⟨t, rfl⟩ := ry
    obtain ⟨its, r, ⟨⟨cls, dd, data, sl⟩, ho, hc, n, hd⟩, hs⟩ := I.tuple hT
    simp only at hc hd
    subst hc hd
    have hle : its.length = xs.length := r.length.symm
    have c0 : (decide (k < -(2 ^ 63)) || decide (k ≥ 2 ^ 63)) = false := by
      rw [decide_eq_false (by omega), decide_eq_false (by omega)] <;> rfl
    by_cases c1 : (its.toArray.isEmpty || k == 1) = true
    · refine wpAny_binaryOp_repeat_ref (T := "tuple") (U := "int") (by decide) ⟨_, ho, rfl⟩ (fun s' => typeIs_int s' k t) noFill_tuple_mul F.fills_int_mul F.slot_int_rmul repeat_tuple F.slot_int_index.lookup
        (call_meets F.slot_int_rmul (typeIs_int s k t) F.entry_int_rmul (F.args_int_rmul_2 _ _) (int_rmul_tuple k t l its.toArray n dd sl)
          ⟨ho, rfl, ⟨_, ho, rfl⟩, call_meets F.slot_tuple_mul ⟨_, ho, rfl⟩ F.entry_tuple_mul (F.args_tuple_mul_2 _ _) (tuple_mulS l its.toArray n dd sl k t c0 c1) ⟨ho, ?_⟩⟩)
      refine ⟨.ref l, H, I, rfl, q1 ?_⟩
      rw [Bool.or_eq_true] at c1
      rcases c1 with c1 | c1
      · left
        have : its = [] := by
          cases its with
          | nil => rfl
          | cons a b => cases c1
        rw [this] at hle
        exact List.length_eq_zero_iff.mp hle.symm
      · exact .inr (eq_of_beq c1)
    · have c1 : (its.toArray.isEmpty || k == 1) = false := by simpa using c1
      by_cases c2 : k ≤ 0
      · refine wpAny_binaryOp_repeat_ref (T := "tuple") (U := "int") (by decide) ⟨_, ho, rfl⟩ (fun s' => typeIs_int s' k t) noFill_tuple_mul F.fills_int_mul F.slot_int_rmul repeat_tuple F.slot_int_index.lookup
          (call_meets F.slot_int_rmul (typeIs_int s k t) F.entry_int_rmul (F.args_int_rmul_2 _ _) (int_rmul_tuple k t l its.toArray n dd sl)
            ⟨ho, rfl, ⟨_, ho, rfl⟩, call_meets F.slot_tuple_mul ⟨_, ho, rfl⟩ F.entry_tuple_mul (F.args_tuple_mul_2 _ _) (tuple_mulZ l its.toArray n dd sl k t c0 c1 (by rw [decide_eq_true c2]; rfl)) ⟨ho, ?_⟩⟩)
        have hk : k = 0 := by omega
        subst hk
        refine ⟨.ref s.heap.objs.size, _, I.laid (t' := s.toks) (o := .tup []) (fun b ob q => Heap.get?_push_of_some _ q) (Nat.le_refl _) ?_, rfl, q2 _ (I.hok.fresh (Nat.le_refl _))⟩
        exact ⟨Nat.zero_le _, _, .nil, IsTup.new _ _⟩
      · have hx := q2
        refine op_repT pins s σ H (.ref l) (.int k) (.ref l) (.int k t) Q I rfl ⟨t, rfl⟩ ⟨l, k, xs, rfl, rfl, hT, fun e => ?_, ?_, h1, hz, q2⟩
        · subst e
          have : its = [] := List.length_eq_zero_iff.mp hle
          subst this
          simp at c1
        · have : ¬ k = 1 := fun e => by subst e; simp at c1
          omega
end
end L2
namespace DD
open PySem L2 PyProof.Rows
variable [NMs]
def fRepA : F2 := fun x y st => match x, y with
  | .str z, .int k => if 0 ≤ k ∧ k ≤ 1000 ∧ z.length ≤ 1000 then .ok (.str (repS z k.toNat)) st else .bad
  | .tup ds, .int k => if 0 ≤ k ∧ k ≤ 1000 ∧ ds.length ≤ 1000 then .ok (.tup (List.replicate k.toNat ds).flatten) st else .bad
  | _, _ => .bad
theorem rd_repA {K : PySem.W.Frag} {mg : Str → Option Value} : RD K mg (rRepA K) fRepA := by
  intro ρ ι H st x y v u W σ Q S rx ry p
  unfold fRepA at p
  split at p
  · rename_i z k
    split at p
    · rename_i c
      cases rx; cases ry
      exact .inl ⟨z, k, rfl, rfl, c.1, c.2.1, c.2.2, p.ok S rfl⟩
    · exact p.elim
  · rename_i ds k
    split at p
    · rename_i c
      obtain ⟨a, xs, rfl, h1, r1⟩ := id rx
      cases ry
      have hl := r1.length
      refine .inr ⟨a, k, xs, rfl, rfl, h1.sq, c.1, c.2.1, by rw [← hl]; exact c.2.2, fun hh => ?_, fun q hq => ?_⟩
      · have e : (List.replicate k.toNat ds).flatten = ds := by
          rcases hh with z | z
          · subst z
            have : ds = [] := List.length_eq_zero_iff.mp hl
            rw [this]; simp
          · subst z; simp
        rw [e] at p
        exact p.ok S rx
      · exact new_tup S (r1.rep k.toNat) p q hq
    · exact p.elim
  · exact p.elim
theorem fRepA_str {z : Str} {k : Nat} {st : Sto} (hk : k ≤ 1000) (hz : z.length ≤ 1000) : fRepA (.str z) (.int (k : Int)) st = .ok (.str (repS z k)) st := by
  have h1 : (0 : Int) ≤ k ∧ (k : Int) ≤ 1000 ∧ z.length ≤ 1000 := ⟨by omega, by omega, hz⟩
  simp only [fRepA, h1, and_self, if_true, Int.toNat_natCast]
theorem fRepA_tup {ds : List D} {k : Nat} {st : Sto} (hk : k ≤ 1000) (hz : ds.length ≤ 1000) : fRepA (.tup ds) (.int (k : Int)) st = .ok (.tup (List.replicate k ds).flatten) st := by
  have h1 : (0 : Int) ≤ k ∧ (k : Int) ≤ 1000 ∧ ds.length ≤ 1000 := ⟨by omega, by omega, hz⟩
  simp only [fRepA, h1, and_self, if_true, Int.toNat_natCast]
end DD

/-! DD37: dicts with tuples as keys, in the store. -/
namespace DD
open PySem L2 PyProof.Rows
/-! ### what is laid -/
def lookK {β : Type} (k : NestedKey) : List NestedKey → List β → Option β
  | k' :: ks, x :: xs => if k' = k then some x else lookK k ks xs
  | _, _ => none
theorem lookK_len {α β : Type} (k : NestedKey) : ∀ (ks : List NestedKey) (xs : List α) (ys : List β), xs.length = ys.length → (lookK k ks xs).isSome = (lookK k ks ys).isSome
  | [], _, _, _ => rfl
  | _ :: _, [], [], _ => rfl
  | _ :: _, [], _ :: _, e => by simp at e
  | _ :: _, _ :: _, [], e => by simp at e
  | k' :: ks, x :: xs, y :: ys, e => by
    unfold lookK
    by_cases h : k' = k
    · simp [h]
    · simp only [h, if_false]; exact lookK_len k ks xs ys (by simpa using e)
theorem lookK_snd (k : NestedKey) : ∀ (ks : List NestedKey) (bs : List Addr) (us : List Value), bs.length = us.length → (lookK k ks (bs.zip us)).map (·.2) = lookK k ks us
  | [], _, _, _ => rfl
  | _ :: _, [], [], _ => rfl
  | _ :: _, [], _ :: _, e => by simp at e
  | _ :: _, _ :: _, [], e => by simp at e
  | k' :: ks, b :: bs, u :: us, e => by
    rw [List.zip_cons_cons]
    unfold lookK
    by_cases h : k' = k
    · simp [h]
    · simp only [h, if_false]; exact lookK_snd k ks bs us (by simpa using e)
theorem atKey_look (k : NestedKey) : ∀ (ks : List NestedKey) (ys : List (Addr × Value)), ks.length = ys.length → atKey (ks.zip ys) k = lookK k ks ys
  | [], _, _ => rfl
  | _ :: _, [], e => by simp at e
  | k' :: ks, y :: ys, e => by
    have ih := atKey_look k ks ys (by simpa using e)
    unfold atKey at ih ⊢
    rw [List.zip_cons_cons, List.find?_cons]
    unfold lookK
    by_cases h : k' = k
    · simp [h]
    · simp only [h, decide_false, if_false]; exact ih
theorem lookK_rel (k : NestedKey) : ∀ (ks : List NestedKey) {xs : List V} {us : List Value}, Vals xs us → (lookK k ks xs = none ∧ lookK k ks us = none) ∨ ∃ x u, lookK k ks xs = some x ∧ lookK k ks us = some u ∧ RelV x u
  | [], _, _, _ => .inl ⟨rfl, rfl⟩
  | _ :: _, [], _, r => by cases r; exact .inl ⟨rfl, rfl⟩
  | k' :: ks, x :: xs, _, r => by
    cases r with
    | cons h t =>
      rename_i u us
      unfold lookK
      by_cases hk : k' = k
      · simp only [hk, if_true]; exact .inr ⟨x, u, rfl, rfl, h⟩
      · simp only [hk, if_false]; exact lookK_rel k ks t
theorem lookK_none {β : Type} (k : NestedKey) : ∀ (ks : List NestedKey) (xs : List β), ks.length = xs.length → ((lookK k ks xs).isSome = true ↔ k ∈ ks)
  | [], _, _ => by simp [lookK]
  | _ :: _, [], e => by simp at e
  | k' :: ks, x :: xs, e => by
    unfold lookK
    by_cases h : k' = k
    · simp [h]
    · simp only [h, if_false, List.mem_cons]
      rw [lookK_none k ks xs (by simpa using e)]
      exact ⟨.inr, fun z => z.resolve_left (fun y => h y.symm)⟩
theorem map_putAt (k : NestedKey) (v : Value) : ∀ (ks : List NestedKey) (bs : List Addr) (us : List Value), (ks.zip (bs.zip us)).map (putAt k v) = ks.zip (bs.zip (repl k v ks us))
  | [], _, _ => rfl
  | _ :: _, [], _ => rfl
  | _ :: _, _ :: _, [] => rfl
  | k' :: ks, b :: bs, u :: us => by
    simp only [List.zip_cons_cons, List.map_cons, repl, map_putAt k v ks bs us]
    congr 1
    unfold putAt
    by_cases h : k' = k <;> simp [h]
theorem repl_vals (k : NestedKey) {x : V} {u : Value} (h : RelV x u) : ∀ (ks : List NestedKey) {xs : List V} {us : List Value}, Vals xs us → Vals (repl k x ks xs) (repl k u ks us)
  | [], _, _, _ => .nil
  | _ :: _, [], _, r => by cases r; exact .nil
  | k' :: ks, y :: xs, _, r => by
    cases r with
    | cons h1 t =>
      refine .cons ?_ (repl_vals k h ks t)
      by_cases hk : k' = k
      · simp only [hk, if_true]; exact h
      · simp only [hk, if_false]; exact h1
/-- it is this key, in every heap of this kind -/
def KIs (P : Program) (w : World) (K : PySem.W.Frag) (H : Hp) (v : V) (k : NestedKey) : Prop := ∀ h u, HOk P w H h → K.In h → RelV v u → NestedIs h k u
def KAll (P : Program) (w : World) (K : PySem.W.Frag) (H : Hp) (nks : List NestedKey) (bs : List Addr) : Prop := ∀ (i : Nat) (b : Addr) (k : NestedKey), bs[i]? = some b → nks[i]? = some k → KIs P w K H (.ref b) k
/-- such a dict, or an empty one -/
def DkH (P : Program) (w : World) (K : PySem.W.Frag) (H : Hp) (a : Addr) (nks : List NestedKey) (bs : List Addr) (xs : List V) : Prop :=
  (H a = some (.ext (DkO w a nks bs xs)) ∧ KAll P w K H nks bs) ∨ (H a = some (.dK []) ∧ nks = [] ∧ bs = [] ∧ xs = [])
section
variable {P : Program} {w : World} {K : PySem.W.Frag} {H : Hp} {h : Heap} {a : Addr} {nks : List NestedKey} {bs : List Addr} {xs : List V}
theorem DkH.mut (d : DkH P w K H a nks bs xs) : Mut (H a) := by
  rcases d with ⟨e, _⟩ | ⟨e, _⟩ <;> rw [e] <;> exact True.intro
theorem zip3_get {α β γ : Type} {x : α × β × γ} : ∀ (ks : List α) (bs : List β) (us : List γ), x ∈ ks.zip (bs.zip us) → ∃ i : Nat, ks[i]? = some x.1 ∧ bs[i]? = some x.2.1 ∧ us[i]? = some x.2.2
  | [], _, _, m => by simp at m
  | _ :: _, [], _, m => by simp at m
  | _ :: _, _ :: _, [], m => by simp at m
  | k :: ks, b :: bs, u :: us, m => by
    rw [List.zip_cons_cons, List.zip_cons_cons] at m
    rcases List.mem_cons.mp m with z | z
    · subst z; exact ⟨0, rfl, rfl, rfl⟩
    · obtain ⟨i, h1, h2, h3⟩ := zip3_get ks bs us z
      exact ⟨i + 1, by simpa using h1, by simpa using h2, by simpa using h3⟩
theorem zip3_fst {α β γ : Type} (ks : List α) (bs : List β) (us : List γ) (h1 : bs.length = ks.length) (h2 : us.length = ks.length) : (ks.zip (bs.zip us)).map (·.1) = ks := by
  rw [List.map_fst_zip]
  rw [List.length_zip, h1, h2, Nat.min_self]
  exact Nat.le_refl _
theorem DkH.raw (d : DkH P w K H a nks bs xs) (hk : HOk P w H h) (ki : K.In h) : ∃ us, Vals xs us ∧ us.length = nks.length ∧ bs.length = nks.length ∧ (a == sysModules) = false ∧ nks.length ≤ sizeLine ∧ (∀ k ∈ nks, k.depth ≤ 8) ∧ nks.Nodup ∧ Heap.DictOfH (nestedKind P w) h a (nks.zip (bs.zip us)) := by
  rcases d with ⟨e, ka⟩ | ⟨e, rfl, rfl, rfl⟩
  · obtain ⟨⟨h1, h2, h3, h4, h5, us, h6, h7, o, es, ep, g, ex, ed, el⟩, _, _⟩ := hk a _ e
    refine ⟨us, h6, h7, h5, h1, h2, h4, h3, o, es, ep, g, ex, ed, el, fun x m => ?_, by rw [zip3_fst _ _ _ h5 h7]; exact h3⟩
    obtain ⟨i, m1, m2, m3⟩ := zip3_get _ _ _ m
    exact ⟨ka i _ _ m2 m1 h _ hk ki rfl, h4 _ (List.mem_of_getElem? m1)⟩
  · obtain ⟨z, hd, vs, rel, o, es, ep, g, ex, ed, _, pr, _⟩ := dk_of hk e
    cases rel
    have el : es.toList = [] := by
      generalize es.toList = l at pr
      cases pr
      rfl
    exact ⟨[], .nil, rfl, rfl, hd, Nat.zero_le _, by simp, .nil, o, es, ep, g, ex, ed, el, by simp, .nil⟩
end
mutual
theorem nk_is {P : Program} {w : World} {B : Bs} {H : Hp} {ι : List Addr} {h : Heap} (hk : HOk P w H h) (ki : B.K.In h) : ∀ {d : D} {v : V} {nk : NestedKey} {u : Value}, VR B H ι d v → nkD d = some nk → RelV v u → NestedIs h nk u
  | .non, _, _, _, r, e, q => by cases r; cases e; cases q; exact .none
  | .bl b, _, _, _, r, e, q => by cases r; cases e; cases q; exact .bool rfl
  | .int i, _, _, _, r, e, q => by cases r; cases e; obtain ⟨t, rfl⟩ := q; exact .int _ _
  | .str x, _, _, _, r, e, q => by cases r; cases e; obtain ⟨t, rfl⟩ := q; exact .text _ _
  | .tup ds, _, _, _, ⟨a, xs, e1, f, r⟩, e, q => by
    subst e1
    cases q
    simp only [nkD, Option.map_eq_some_iff] at e
    obtain ⟨ks, e2, rfl⟩ := e
    rcases f with ⟨f, _⟩ | ⟨o, its, n, lk, hc, hd, _, hv⟩
    · obtain ⟨_, its, hv, o, g, hc, n, hd⟩ := rd_of hk f
      exact .tup g hc hd (by rw [List.toList_toArray]; exact nks_is hk ki r e2 hv)
    · exact .tup (ki _ _ lk) hc hd (nks_is hk ki r e2 hv)
  | .fz _, _, _, _, _, e, _ => nomatch e
  | .sc _, _, _, _, _, e, _ => nomatch e
  | .fd _ _, _, _, _, _, e, _ => nomatch e
  | .obj _ _ _, _, _, _, _, e, _ => nomatch e
  | .lam _ _ _, _, _, _, _, e, _ => nomatch e
  | .ty _, _, _, _, _, e, _ => nomatch e
  | .ref _, _, _, _, _, e, _ => nomatch e
theorem nks_is {P : Program} {w : World} {B : Bs} {H : Hp} {ι : List Addr} {h : Heap} (hk : HOk P w H h) (ki : B.K.In h) : ∀ {ds : List D} {vs : List V} {nks : List NestedKey} {us : List Value}, VRs B H ι ds vs → nkDs ds = some nks → Vals vs us → NestedAll h nks us
  | [], _, _, _, r, e, q => by cases r; cases e; cases q; exact .nil
  | d :: ds, _, _, _, ⟨x, t, e1, r, rs⟩, e, q => by
    subst e1
    simp only [nkDs] at e
    split at e
    · rename_i y ys q1 q2
      cases e
      cases q with
      | cons q3 q4 => exact .cons (nk_is hk ki r q1 q3) (nks_is hk ki rs q2 q4)
    · cases e
end
theorem kis_of {P : Program} {w : World} {B : Bs} {H : Hp} {ι : List Addr} {d : D} {v : V} {nk : NestedKey} (r : VR B H ι d v) (e : nkD d = some nk) : KIs P w B.K H v nk := fun h u hk ki q => nk_is hk ki r e q
theorem kall_of {P : Program} {w : World} {B : Bs} {H : Hp} {ι : List Addr} : ∀ {ks : List D} {bs : List Addr} {nks : List NestedKey}, VRs B H ι ks (bs.map .ref) → nkDs ks = some nks → KAll P w B.K H nks bs
  | [], bs, nks, r, e => fun i b k h1 h2 => by cases e; simp at h2
  | d :: ks, [], nks, ⟨x, t, e1, _⟩, e => by cases e1
  | d :: ks, b :: bs, nks, ⟨x, t, e1, r, rs⟩, e => by
    rw [List.map_cons] at e1
    cases e1
    simp only [nkDs] at e
    split at e
    · rename_i y ys q1 q2
      cases e
      intro i b' k h1 h2
      cases i with
      | zero => simp at h1 h2; subst h1 h2; exact kis_of r q1
      | succ i => exact kall_of rs q2 i b' k (by simpa using h1) (by simpa using h2)
    · cases e
theorem nkDs_len : ∀ {ks : List D} {nks : List NestedKey}, nkDs ks = some nks → nks.length = ks.length
  | [], _, e => by cases e; rfl
  | d :: ks, nks, e => by
    simp only [nkDs] at e
    split at e
    · rename_i y ys q1 q2
      cases e
      simp [nkDs_len q2]
    · cases e
theorem nkDs_app : ∀ {ks ls : List D} {nks nls : List NestedKey}, nkDs ks = some nks → nkDs ls = some nls → nkDs (ks ++ ls) = some (nks ++ nls)
  | [], _, _, _, e, e2 => by cases e; exact e2
  | d :: ks, ls, nks, nls, e, e2 => by
    simp only [nkDs] at e
    split at e
    · rename_i y ys q1 q2
      cases e
      simp [nkDs, q1, nkDs_app q2 e2]
    · cases e
/-! ### the readings -/
section
variable {X : Cx} {pins : List (Addr × Obj)} {σ : L2.St} {H : Hp} {s : Shared} {a : Addr} {nks : List NestedKey} {bs : List Addr} {xs : List V} {k : NestedKey} {y v : V} {u : Value}
theorem room8 {A : Around} {P : Program} {w : World} (h : A.units + 16 < cLine) : (nestedKind P w).room A.in1 := by
  have : A.in1.units ≤ A.units + 1 := Nat.le_refl _
  show A.in1.units + 8 < cLine
  omega
def rKIx (P : Program) (w : World) (K : PySem.W.Frag) : R2 := fun x y H Q => ∃ a b nks bs xs k v, x = .ref a ∧ y = .ref b ∧ k.depth ≤ 8 ∧ DkH P w K H a nks bs xs ∧ KIs P w K H y k ∧ lookK k nks xs = some v ∧ Q v H
theorem ix_key (hu : X.A.units + 16 < cLine) : IxR X (rKIx X.prog X.w X.K) := by
  rintro value slice pins s σ H x y v u Q I rx ry ⟨a, b, nks, bs, xs, k, v', rfl, rfl, hd, d, hk, hl, q⟩ hs
  cases rx
  cases ry
  obtain ⟨us, h1, h2, h3, h4, h5, h6, h7, dd⟩ := d.raw I.hok I.kIn
  rcases lookK_rel k nks h1 with ⟨z, _⟩ | ⟨x', u', e1, e2, r⟩
  · rw [hl] at z; cases z
  rw [hl] at e1; cases e1
  have e3 := lookK_snd k nks bs us (by rw [h3, h2])
  rw [e2] at e3
  obtain ⟨p, e4, e5⟩ := Option.map_eq_some_iff.mp e3
  refine tail_any dd.typeIs PySem.F.slot_dict_getitem.lookup ?_ hs
  refine wpAny_getItem_heap (k := k) (room8 hu) ⟨hk _ _ I.hok I.kIn rfl, hd⟩ dd (p := p) ?_ ?_
  · rw [atKey_look k nks _ (by rw [List.length_zip, h3, h2, Nat.min_self])]; exact e4
  · rw [e5]
    exact ⟨v', H, I.tok _, r, q⟩
def rKIn (P : Program) (w : World) (K : PySem.W.Frag) (neg : Bool) : R2 := fun y x H Q => ∃ a b nks bs xs k, x = .ref a ∧ y = .ref b ∧ k.depth ≤ 8 ∧ DkH P w K H a nks bs xs ∧ KIs P w K H y k ∧ Q (.bl (if neg then !(lookK k nks xs).isSome else (lookK k nks xs).isSome)) H
theorem op_keyIn (hu : X.A.units + 16 < cLine) : OpR X (compareOp .In) (rKIn X.prog X.w X.K false) := by
  rintro pins s σ H y x u v Q I ry rx ⟨a, b, nks, bs, xs, k, rfl, rfl, hd, d, hk, q⟩
  cases rx
  cases ry
  obtain ⟨us, h1, h2, h3, h4, h5, h6, h7, dd⟩ := d.raw I.hok I.kIn
  refine wpAny_in_heap (k := k) (room8 hu) ⟨hk _ _ I.hok I.kIn rfl, hd⟩ h4 dd ?_
  refine ⟨_, H, I.tok _, ?_, q⟩
  rw [atKey_look k nks _ (by rw [List.length_zip, h3, h2, Nat.min_self])]
  show _ = _
  rw [lookK_len k nks xs (bs.zip us) (by rw [h1.length, List.length_zip, h3, h2, Nat.min_self])]
  rfl
theorem op_keyNotIn (hu : X.A.units + 16 < cLine) : OpR X (compareOp .NotIn) (rKIn X.prog X.w X.K true) := by
  rintro pins s σ H y x u v Q I ry rx ⟨a, b, nks, bs, xs, k, rfl, rfl, hd, d, hk, q⟩
  cases rx
  cases ry
  obtain ⟨us, h1, h2, h3, h4, h5, h6, h7, dd⟩ := d.raw I.hok I.kIn
  have len := lookK_len k nks xs (bs.zip us) (by rw [h1.length, List.length_zip, h3, h2, Nat.min_self])
  refine wpAny_notIn_heap (k := k) (room8 hu) ⟨hk _ _ I.hok I.kIn rfl, hd⟩ h4 dd ?_
  refine ⟨_, H, I.tok _, ?_, q⟩
  rw [atKey_look k nks _ (by rw [List.length_zip, h3, h2, Nat.min_self])]
  show _ = _
  rw [len]
  rfl
/-- what is put -/
def pkK {β : Type} (k : NestedKey) (b : Addr) (v : β) (nks : List NestedKey) (bs : List Addr) (xs : List β) : List NestedKey × List Addr × List β := if k ∈ nks then (nks, bs, repl k v nks xs) else (nks ++ [k], bs ++ [b], xs ++ [v])
theorem stored_zip {b : Addr} {u : Value} {us : List Value} (h3 : bs.length = nks.length) (h2 : us.length = nks.length) : storedH (nks.zip (bs.zip us)) k b u = (pkK k b u nks bs us).1.zip ((pkK k b u nks bs us).2.1.zip (pkK k b u nks bs us).2.2) := by
  unfold storedH pkK
  rw [atKey_look k nks _ (by rw [List.length_zip, h3, h2, Nat.min_self])]
  have := lookK_none k nks (bs.zip us) (by rw [List.length_zip, h3, h2, Nat.min_self])
  by_cases h : k ∈ nks
  · rw [if_pos (this.mpr h), if_pos h, map_putAt]
  · rw [if_neg (fun z => h (this.mp z)), if_neg h]
    simp only []
    rw [List.zip_append (by rw [h3, h2]), List.zip_append (by rw [List.length_zip, h3, h2, Nat.min_self])]
    rfl
def rSetK (P : Program) (w : World) (K : PySem.W.Frag) : TSet := fun o i v H Q => ∃ a b nks bs xs k, o = .ref a ∧ i = .ref b ∧ k.depth ≤ 8 ∧ nks.length < sizeLine ∧ DkH P w K H a nks bs xs ∧ KIs P w K H i k ∧ Q (upd H a (.ext (DkO w a (pkK k b v nks bs xs).1 (pkK k b v nks bs xs).2.1 (pkK k b v nks bs xs).2.2)))
theorem replK_len {β : Type} (k : NestedKey) (d : β) : ∀ (ks : List NestedKey) (xs : List β), ks.length = xs.length → (repl k d ks xs).length = xs.length
  | [], [], _ => rfl
  | [], _ :: _, h => by simp at h
  | _ :: _, [], h => by simp at h
  | _ :: ks, _ :: xs, h => by simp only [repl, List.length_cons, replK_len k d ks xs (by simpa using h)]
theorem pkK_len {β : Type} {k : NestedKey} {b : Addr} {v : β} {nks : List NestedKey} {bs : List Addr} {xs : List β} (h3 : bs.length = nks.length) (h2 : xs.length = nks.length) : (pkK k b v nks bs xs).2.1.length = (pkK k b v nks bs xs).1.length ∧ (pkK k b v nks bs xs).2.2.length = (pkK k b v nks bs xs).1.length ∧ (pkK k b v nks bs xs).1.length ≤ nks.length + 1 := by
  unfold pkK
  by_cases h : k ∈ nks
  · simp only [h, if_true]
    exact ⟨h3, by rw [replK_len k v nks xs h2.symm]; exact h2, by omega⟩
  · simp [h, h3, h2]
theorem set_key (hu : X.A.units + 16 < cLine) : PSet X (rSetK X.prog X.w X.K) := by
  rintro pins s σ H o i v ov iv u Q I ro ri rv ⟨a, b, nks, bs, xs, k, rfl, rfl, hd, hl, d, hk, q⟩
  cases ro
  cases ri
  obtain ⟨us, h1, h2, h3, h4, h5, h6, h7, dd⟩ := d.raw I.hok I.kIn
  refine wpAny_setItem_heap (k := k) (room8 hu) ⟨hk _ _ I.hok I.kIn rfl, hd⟩ dd (fun h' dd' hs => ?_) (by rw [List.length_zip, List.length_zip, h3, h2, Nat.min_self, Nat.min_self]; exact h5)
  obtain ⟨o, es, ep, g, ex, ed, el, _, nd⟩ := dd'
  rw [stored_zip h3 h2] at el nd
  obtain ⟨l1, l2, l3⟩ := pkK_len (k := k) (b := b) (v := u) h3 h2
  obtain ⟨l4, l5, _⟩ := pkK_len (k := k) (b := b) (v := v) (xs := xs) h3 (by rw [h1.length, h2])
  have e1 : (pkK k b v nks bs xs).1 = (pkK k b u nks bs us).1 := by unfold pkK; by_cases h : k ∈ nks <;> simp [h]
  have e2 : (pkK k b v nks bs xs).2.1 = (pkK k b u nks bs us).2.1 := by unfold pkK; by_cases h : k ∈ nks <;> simp [h]
  have e3 : Vals (pkK k b v nks bs xs).2.2 (pkK k b u nks bs us).2.2 := by
    unfold pkK
    by_cases h : k ∈ nks
    · simp only [h, if_true]; exact repl_vals k rv nks h1
    · simp only [h, if_false]; exact h1.append (.cons rv .nil)
  rw [zip3_fst _ _ _ l1 l2] at nd
  have phi : DkO X.w a (pkK k b v nks bs xs).1 (pkK k b v nks bs xs).2.1 (pkK k b v nks bs xs).2.2 h' := by
    rw [e1, e2]
    refine ⟨h4, by omega, nd, fun k' hk' => ?_, l1, _, e3, l2, o, es, ep, g, ex, ed, el⟩
    unfold pkK at hk'
    by_cases h : k ∈ nks
    · simp only [h, if_true] at hk'; exact h6 k' hk'
    · simp only [h, if_false] at hk'
      rcases List.mem_append.mp hk' with z | z
      · exact h6 k' z
      · have : k' = k := by simpa using z
        rw [this]; exact hd
  refine ⟨_, d_write I d.mut hs ⟨o, g⟩ ?_, q⟩
  refine ⟨phi, ⟨o, g⟩, fun h1 h2 p st => ?_⟩
  obtain ⟨p1, p2, p3, p4, p5, us', p6, p7, o', es', ep', g', ex', ed', el'⟩ := p
  exact ⟨p1, p2, p3, p4, p5, us', p6, p7, o', es', ep', st o' g', ex', ed', el'⟩
end
end DD

/-! DD38: dicts with tuples as keys, by data. -/
namespace DD
open PySem L2 PyProof.Rows
/-! ### len, list -/
section
variable {X : Cx} {pins : List (Addr × Obj)} {σ : L2.St} {H : Hp} {s : Shared} {a : Addr}
def rLenK (P : Program) (w : World) (K : PySem.W.Frag) : List V → Hp → VK → Prop := fun xs H Q => ∃ a nks bs ys, xs = [.ref a] ∧ DkH P w K H a nks bs ys ∧ Q (.int (nks.length : Nat)) H
theorem cr_lenK : CallR X (.builtin "len") (rLenK X.prog X.w X.K) := by
  rintro pins s σ H xs us Q I r ⟨a, nks, bs, ys, rfl, d, q⟩
  obtain ⟨u, rfl, ru⟩ := vals1 r
  cases ru
  obtain ⟨us, h1, h2, h3, h4, h5, h6, h7, dd⟩ := d.raw I.hok I.kIn
  obtain ⟨es, ep, hr, hz, _⟩ := dd.raw
  have e : es.size = nks.length := by rw [hz, List.length_zip, List.length_zip, h3, h2, Nat.min_self, Nat.min_self]
  have lt : nks.length ≤ 16777216 := h5
  refine call_len_slot (T := "dict") (id := "dict.__len__") (n := (nks.length : Nat)) dd.typeIs PySem.F.slot_dict_len (fun Q' h => ?_) (by omega) (by omega) ?_
  · exact call_len_raw h4 hr (by rw [e]; exact h)
  · exact ⟨.int (nks.length : Nat), H, I.tok _, ⟨_, rfl⟩, q⟩
def rListK (P : Program) (w : World) (K : PySem.W.Frag) : List V → Hp → VK → Prop := fun xs H Q => ∃ a nks bs ys, xs = [.ref a] ∧ DkH P w K H a nks bs ys ∧ ∀ l, H l = none → Q (.ref l) (upd H l (.lst (bs.map .ref)))
theorem cr_listK (hc : X.calm = true) : CallR X (.type "list") (rListK X.prog X.w X.K) := by
  rintro pins s σ H xs us Q I r ⟨a, nks, bs, ys, rfl, d, q⟩
  obtain ⟨u, rfl, ru⟩ := vals1 r
  cases ru
  obtain ⟨us, h1, h2, h3, h4, h5, h6, h7, dd⟩ := d.raw I.hok I.kIn
  obtain ⟨es, ep, hr, hz, hx⟩ := dd.raw
  have e : es.size = nks.length := by rw [hz, List.length_zip, List.length_zip, h3, h2, Nat.min_self, Nat.min_self]
  refine PySem.W.kdl_call (PySem.KdlSrc.rawDict h4) (I.ok.hd hc) hr (by rw [e]; exact h5) ?_
  intro h' tk acc' c' hkeep hS hacc
  have ob : ObjOk X.prog X.w (upd H s.heap.objs.size (.lst (bs.map .ref))) h' s.heap.objs.size (.lst (bs.map .ref)) := by
    refine ⟨by rw [List.length_map, h3]; exact h5, acc'.toList, c', vals_of_at ?_ fun j x w g1 g2 => ?_, hS⟩
    · simp [hacc.1, e, h3]
    · rw [Array.getElem?_toList] at g2
      obtain ⟨hi, ew⟩ := hacc.2 j w g2
      obtain ⟨y, ey, ek, _, _⟩ := hx j hi
      rw [List.getElem?_map] at g1
      obtain ⟨b, eb, rfl⟩ := Option.map_eq_some_iff.mp g1
      rw [ew, ek]
      have : bs[j]? = some y.2.1 := by
        have z := congrArg (Option.map (fun x : NestedKey × Addr × Value => x.2.1)) ey
        rw [← List.getElem?_map] at z
        have m : (nks.zip (bs.zip us)).map (fun x => x.2.1) = bs := by
          have m1 : (nks.zip (bs.zip us)).map (·.2) = bs.zip us := List.map_snd_zip (by rw [List.length_zip, h3, h2, Nat.min_self]; exact Nat.le_refl _)
          have m2 : (bs.zip us).map (·.1) = bs := List.map_fst_zip (by rw [h3, h2]; exact Nat.le_refl _)
          rw [show (fun x : NestedKey × Addr × Value => x.2.1) = ((fun y : Addr × Value => y.1) ∘ (fun x : NestedKey × Addr × Value => x.2)) from rfl, ← List.map_map, m1, m2]
        rw [m] at z
        exact z
      rw [eb] at this
      cases this
      rfl
  exact ⟨.ref s.heap.objs.size, _, I.laid hkeep (Nat.le_refl _) ob, rfl, q _ (I.hok.fresh (Nat.le_refl _))⟩
end
/-! ### by data -/
variable [NMs]
/-- a tuple as a key -/
def tupK : D → Option NestedKey
  | .tup ds => nkD (.tup ds)
  | _ => none
/-- the pairs of such a dict -/
def dkOf (x : D) (st : Sto) : Option (List D × List D) := match x with
  | .ref n => match st[n]? with
    | some (.dkt ks ds) => some (ks, ds)
    | some (.dct [] []) => some ([], [])
    | _ => none
  | _ => none
theorem dk_at {B : Bs} {H : Hp} {ι : List Addr} {st : Sto} {x : D} {v : V} {ks ds : List D} {P : Program} {w : World} (hw : NMs.w = some w) (S : Sim B H ι st) (r : VR B H ι x v) (h : dkOf x st = some (ks, ds)) :
    ∃ n a nks bs xs, x = .ref n ∧ ι[n]? = some a ∧ v = .ref a ∧ nkDs ks = some nks ∧ DkH P w B.K H a nks bs xs ∧ VRs B H ι ks (bs.map .ref) ∧ VRs B H ι ds xs := by
  unfold dkOf at h
  split at h
  · rename_i n
    obtain ⟨a, ha, rfl⟩ := r
    split at h
    · rename_i ks' ds' q
      cases h
      obtain ⟨w', nks, bs, xs, ew, ek, h1, rk, rd⟩ := S.look q ha
      rw [hw] at ew; cases ew
      exact ⟨n, a, nks, bs, xs, rfl, ha, rfl, ek, .inl ⟨h1, kall_of rk ek⟩, rk, rd⟩
    · rename_i q
      cases h
      obtain ⟨kvs, xs, h1, e1, l, r1⟩ := S.look q ha
      cases r1
      exact ⟨n, a, [], [], [], rfl, ha, rfl, rfl, .inr ⟨by rw [h1, e1]; rfl, rfl, rfl, rfl⟩, rfl, rfl⟩
    · cases h
  · cases h
theorem tupK_of {P : Program} {w : World} {B : Bs} {H : Hp} {ι : List Addr} {d : D} {v : V} {nk : NestedKey} (r : VR B H ι d v) (e : tupK d = some nk) : (∃ b, v = .ref b) ∧ KIs P w B.K H v nk := by
  cases d <;> try (cases e)
  rename_i ds
  have := kis_of (P := P) (w := w) r e
  obtain ⟨a, xs, rfl, _⟩ := r
  exact ⟨⟨a, rfl⟩, this⟩
/-- what stands at a key -/
def atK (nk : NestedKey) (ks ds : List D) : Option D := match nkDs ks with
  | some nks => lookK nk nks ds
  | none => none
theorem lookK_vr {B : Bs} {H : Hp} {ι : List Addr} (k : NestedKey) : ∀ (ks : List NestedKey) {ds : List D} {xs : List V}, VRs B H ι ds xs →
    (lookK k ks ds = none ∧ lookK k ks xs = none) ∨ ∃ d v, lookK k ks ds = some d ∧ lookK k ks xs = some v ∧ VR B H ι d v
  | [], _, _, _ => .inl ⟨rfl, rfl⟩
  | _ :: _, [], _, r => by cases r; exact .inl ⟨rfl, rfl⟩
  | k' :: ks, d :: ds, _, ⟨x, t, e, h, r⟩ => by
    subst e
    unfold lookK
    by_cases hk : k' = k
    · simp only [hk, if_true]; exact .inr ⟨d, x, rfl, rfl, h⟩
    · simp only [hk, if_false]; exact lookK_vr k ks r
def fKGet : F2 := fun x k st => match dkOf x st, tupK k with
  | some (ks, ds), some nk => if nk.depth ≤ 8 then (match atK nk ks ds with
    | some d => .ok d st
    | none => .bad) else .bad
  | _, _ => .bad
theorem rd_kget {K : PySem.W.Frag} {mg : Str → Option Value} {P : Program} {w : World} (hw : NMs.w = some w) : RD K mg (rKIx P w K) fKGet := by
  intro ρ ι H st x y v u W σ Q S rx ry p
  unfold fKGet at p
  split at p
  · rename_i ks ds nk e1 e2
    split at p
    · rename_i hd
      obtain ⟨n, a, nks, bs, xs, rfl, ha, rfl, ek, d, rk, rd⟩ := dk_at (P := P) hw S rx e1
      obtain ⟨⟨b, rfl⟩, ki⟩ := tupK_of (P := P) (w := w) ry e2
      unfold atK at p
      rw [ek] at p
      simp only [] at p
      rcases lookK_vr nk nks rd with ⟨z, _⟩ | ⟨d', v', e3, e4, r'⟩
      · rw [z] at p; exact p.elim
      · rw [e3] at p
        exact ⟨a, b, nks, bs, xs, nk, v', rfl, rfl, hd, d, ki, e4, p.ok S r'⟩
    · exact p.elim
  · exact p.elim
def fKIn (neg : Bool) : F2 := fun k x st => match dkOf x st, tupK k with
  | some (ks, ds), some nk => if nk.depth ≤ 8 then .ok (.bl (if neg then !(atK nk ks ds).isSome else (atK nk ks ds).isSome)) st else .bad
  | _, _ => .bad
theorem rd_kin {K : PySem.W.Frag} {mg : Str → Option Value} {P : Program} {w : World} {neg : Bool} (hw : NMs.w = some w) : RD K mg (rKIn P w K neg) (fKIn neg) := by
  intro ρ ι H st y x u v W σ Q S ry rx p
  unfold fKIn at p
  split at p
  · rename_i ks ds nk e1 e2
    split at p
    · rename_i hd
      obtain ⟨n, a, nks, bs, xs, rfl, ha, rfl, ek, d, rk, rd⟩ := dk_at (P := P) hw S rx e1
      obtain ⟨⟨b, rfl⟩, ki⟩ := tupK_of (P := P) (w := w) ry e2
      refine ⟨a, b, nks, bs, xs, nk, rfl, rfl, hd, d, ki, ?_⟩
      have e3 : (lookK nk nks xs).isSome = (atK nk ks ds).isSome := by
        unfold atK
        rw [ek]
        rcases lookK_vr nk nks rd with ⟨z1, z2⟩ | ⟨d', v', z1, z2, _⟩ <;> (simp only []; rw [z1, z2]) <;> rfl
      rw [e3]
      exact p.ok S rfl
    · exact p.elim
  · exact p.elim
def fLenK : FC := fun xs st => match xs with
  | [x] => match dkOf x st with
    | some (ks, _) => .ok (.int (ks.length : Nat)) st
    | none => .bad
  | _ => .bad
theorem rc_lenK {K : PySem.W.Frag} {mg : Str → Option Value} {P : Program} {w : World} (hw : NMs.w = some w) : RC K mg (rLenK P w K) fLenK := by
  intro ρ ι H st xs vs W σ Q S r p
  unfold fLenK at p
  split at p
  · rename_i x
    obtain ⟨v, rfl, h⟩ := vr1 r
    split at p
    · rename_i ks ds e
      obtain ⟨n, a, nks, bs, xs, rfl, ha, rfl, ek, d, rk, rd⟩ := dk_at (P := P) hw S h e
      exact ⟨a, nks, bs, xs, rfl, d, by rw [nkDs_len ek]; exact p.ok S rfl⟩
    · exact p.elim
  · exact p.elim
def fListK : FL := fun xs st => match xs with
  | [x] => match dkOf x st with
    | some (ks, _) => .ok ks st
    | none => .bad
  | _ => .bad
theorem rcl_listK {K : PySem.W.Frag} {mg : Str → Option Value} {P : Program} {w : World} (hw : NMs.w = some w) : RCL K mg (rListK P w K) fListK := by
  intro ρ ι H st xs vs W σ Q S r p
  unfold fListK at p
  split at p
  · rename_i x
    obtain ⟨v, rfl, h⟩ := vr1 r
    split at p
    · rename_i ks ds e
      obtain ⟨n, a, nks, bs, xs, rfl, ha, rfl, ek, d, rk, rd⟩ := dk_at (P := P) hw S h e
      exact ⟨a, nks, bs, xs, rfl, d, new_lst S rk p⟩
    · exact p.elim
  · exact p.elim
/-- what is put at a key -/
def putKD (k : D) (nk : NestedKey) (x : D) (ks ds : List D) : Option (List D × List D) := match nkDs ks with
  | some nks => some (if nk ∈ nks then (ks, repl nk x nks ds) else (ks ++ [k], ds ++ [x]))
  | none => none
def setKR (o i x : D) (env : Env) (st : Sto) : ResS := match o with
  | .ref n => match dkOf (.ref n) st, tupK i with
    | some (ks, ds), some nk => if nk.depth ≤ 8 ∧ ks.length ≤ bigLine then (match putKD i nk x ks ds with
      | some (ks', ds') => .nx env (st.set n (.dkt ks' ds'))
      | none => .bad) else .bad
    | _, _ => .bad
  | _ => .bad
def dSetK (da dx dk : DE) : DS := fun env st => (da env st).bindS env fun x st1 => (dx env st1).bindS env fun o st2 => (dk env st2).bindS env fun i st3 => setKR o i x env st3
theorem replK_vr {B H ι} (k : NestedKey) {d : D} {v : V} (hv : VR B H ι d v) : ∀ (ks : List NestedKey) {ds : List D} {xs : List V}, VRs B H ι ds xs → VRs B H ι (repl k d ks ds) (repl k v ks xs)
  | [], _, _, _ => rfl
  | _ :: _, [], _, r => by cases r; rfl
  | k' :: ks, _ :: _, _, ⟨x, t, e, h, r⟩ => by
    subst e
    refine ⟨_, _, rfl, ?_, replK_vr k hv ks r⟩
    by_cases e : k' = k
    · simp only [e, if_true]; exact hv
    · simp only [e, if_false]; exact h
section
variable {X : Cx} {W : WX} {e : Expr} {da dx dk : DE} {pos : Pos}
theorem psd_setK {o i : Expr} {p' : Pos} (hw0 : NMs.w = some X.w) (hu : X.A.units + 16 < cLine) (he : PEd X W e da) (ho : PEd X W o dx) (hi : PEd X W i dk) (hs : swapsWithSole [Expr.Subscript o i p'] e pos.line X.env = pure false := by rfl) (hw : swappedStores [Expr.Subscript o i p'] e X.env = pure none := by rfl)
    (h1 : (assignEach [Expr.Subscript o i p'] X.env).map (·.2) = [assign (Expr.Subscript o i p') X.env] := by rfl)
    (ha : ∀ v, assign (.Subscript o i p') X.env v = (do
      let ov ← holding [v] (eval o X.env)
      let iv ← holding [v, ov] (eval i X.env)
      standAt p'
      holding [v, ov, iv] (setItem ov iv v)
      release [v, ov, iv] []) := by intro _; rfl) : PSd X W (.Assign [.Subscript o i p'] e pos) (dSetK da dx dk) :=
  PS.mono (ps_asg he (pg_sub ho hi (set_key hu) ha) hs hw h1) fun E σ H ⟨ρ, ι, st, env, S, ve, p⟩ => ⟨ρ, ι, st, env, S, ve, PostS.bind ve p fun x st1 ι1 H1 v s1 S1 rx p1 =>
    ⟨ρ, ι1, st1, env, S1, ve.step s1, PostS.bind (ve.step s1) p1 fun o st2 ι2 H2 w s2 S2 ro p2 => ⟨ρ, ι2, st2, env, S2, (ve.step s1).step s2, PostS.bind ((ve.step s1).step s2) p2 fun i st3 ι3 H3 z s3 S3 ri p3 => by
      unfold setKR at p3
      split at p3
      · rename_i n
        split at p3
        · rename_i ks ds nk e1 e2
          split at p3
          · rename_i hc
            obtain ⟨n', a, nks, bs, xs, en, ha, rfl, ek, d, rk, rd⟩ := dk_at (P := X.prog) hw0 S3 (VR.step s3 ro) e1
            cases en
            obtain ⟨⟨b, rfl⟩, ki⟩ := tupK_of (P := X.prog) (w := X.w) ri e2
            have rv := (VR.step s2 rx).step s3
            unfold putKD at p3
            rw [ek] at p3
            simp only [] at p3
            have lz : nks.length < sizeLine := by rw [nkDs_len ek]; exact big_lt hc.2
            have eki : nkDs [i] = some [nk] := by
              have : nkD i = some nk := by cases i <;> first | exact e2 | cases e2
              simp [nkDs, this]
            have sw : ∀ ob, Step ι3 H3 ι3 (upd H3 a ob) := fun ob => Step.write ha
            refine ⟨a, b, nks, bs, xs, nk, rfl, rfl, hc.1, lz, d, ki, ?_⟩
            by_cases hm : nk ∈ nks
            · rw [if_pos hm] at p3
              refine p3 ι3 _ σ (sw _) (S3.write ha ⟨X.w, (pkK nk b v nks bs xs).1, (pkK nk b v nks bs xs).2.1, (pkK nk b v nks bs xs).2.2, hw0, ?_, upd_same, ?_, ?_⟩) ((((ve.step s1).step s2).step s3).step (sw _))
              · unfold pkK; rw [if_pos hm]; exact ek
              · unfold pkK; rw [if_pos hm]; exact rk.step (sw _)
              · unfold pkK; rw [if_pos hm]; exact (replK_vr nk rv nks rd).step (sw _)
            · rw [if_neg hm] at p3
              refine p3 ι3 _ σ (sw _) (S3.write ha ⟨X.w, (pkK nk b v nks bs xs).1, (pkK nk b v nks bs xs).2.1, (pkK nk b v nks bs xs).2.2, hw0, ?_, upd_same, ?_, ?_⟩) ((((ve.step s1).step s2).step s3).step (sw _))
              · unfold pkK; rw [if_neg hm]; exact nkDs_app ek eki
              · unfold pkK; rw [if_neg hm]
                rw [List.map_append]
                exact (rk.append (VRs.one ri)).step (sw _)
              · unfold pkK; rw [if_neg hm]; exact (rd.append (VRs.one rv)).step (sw _)
          · exact p3.elim
        · exact p3.elim
      · exact p3.elim⟩⟩⟩
end
end DD

/-! DD39: sorted(d, key=lambda k: d[k]), d a dict. -/
namespace DD
open PySem L2 PyProof.Rows LamX NdefX
/-- all that stood stands -/
def Gr (h h' : Heap) : Prop := ∀ b o, h.get? b = some o → h'.get? b = some o
theorem Gr.refl (h : Heap) : Gr h h := fun _ _ e => e
theorem Gr.trans {h h1 h2 : Heap} (a : Gr h h1) (b : Gr h1 h2) : Gr h h2 := fun c o e => b c o (a c o e)
/-- a dict, read at its own keys -/
structure RawD (P : Program) (w : World) (h : Heap) (d : Addr) (es : Array DictEntry) : Prop where
  nm : (d == sysModules) = false
  raw : ∃ ep, h.DictRaw d es ep
  sz : es.size ≤ sizeLine
  get : ∀ (i : Nat) (hi : i < es.size) (A : Around) (E Q : Value → Shared → Prop) (s : Shared), Gr h s.heap → A.units + 16 < cLine → (∀ tk, Q es[i].val { heap := s.heap, gens := s.gens, drawn := s.drawn, toks := tk, os := s.os }) → wpAny (model P w) A (getItem (.ref d) es[i].key) Q E s
/-- the lambda, made -/
structure KeyL (h : Heap) (f d : Addr) : Prop where
  ex : ∃ (qual : Str) (params : Arguments) (x y : Str) (p1 p2 p3 : Pos) (sc : Scope) (cl : List (Str × Addr)) (pm : Value) (c' : Addr) (ctv : Value) (c : Addr),
    h.get? f = some (PySem.W.kla_obj "<lambda>" qual params (.Subscript (.Name x p1) (.Name y p2) p3) sc cl pm c' ctv) ∧ h.CodeRec (.ref c') qual ∧ sc.kind = .function ∧ sc.isCoroutine = false ∧ sc.isGenerator = false ∧ (∀ z ∈ sc.names, z.2 ≠ .cell) ∧
    sc.names.lookup x = some .free ∧ sc.names.lookup y = some .local ∧ cl.lookup x = some c ∧ h.IsCell c (some (.ref d)) ∧ (x == ("__debug__" : Str)) = false ∧ (y == ("__debug__" : Str)) = false ∧ (x == ("__classdict__" : Str)) = false ∧
    (∀ v, bindArgs (PySem.W.kla_fn "<lambda>" qual params (.Subscript (.Name x p1) (.Name y p2) p3) sc cl pm (.ref c') ctv) ⟨[v], []⟩ = pure [(y, v)])
theorem key_call {P : Program} {w : World} {h0 : Heap} {f d : Addr} {es : Array DictEntry} {A : Around} {s : Shared} {i : Nat} {k : PyData} (D : RawD P w h0 d es) (L : KeyL h0 f d) (g : Gr h0 s.heap) (nl : s.heap.NoLimit) (hi : i < es.size) (hd : A.depth < recursionLimit) (hu : A.units + 32 < cLine) (hr : Reads h0 es[i].val k []) :
    wpAny (model P w) A (call (.ref f) [es[i].key]) (PySem.W.KeyPure k s) (fun _ _ => False) s := by
  obtain ⟨qual, params, x, y, p1, p2, p3, sc, cl, pm, c', ctv, c, hf, hcd, k1, k2, k3, k4, k5, k6, k7, k8, k9, k10, k11, hb⟩ := L.ex
  obtain ⟨c2, oc, vs, t, ec, gc, dc, nc⟩ := hcd
  refine wpAny_call (PySem.W.kla_callFunE hd (g _ _ hf) rfl k2 k3 rfl ⟨c2, oc, vs, t, ec, g _ _ gc, dc, nc⟩ ?_)
  rw [hb]
  refine wpAny_pure (wpAny_newFunctionEnv k4 (fun z hz => ?_) (fun h₁ hns hsb => ⟨nl.fresh _ hsb, ?_⟩) k1)
  · have : z = (y, es[i].key) := by simpa using hz
    rw [this]; exact k6
  have g1 : Gr s.heap h₁ := fun b o e => hsb.extBut b o (Nat.ne_of_lt (Heap.lt_size e)) (Heap.get?_push_of_some _ e)
  obtain ⟨oo, go, dd⟩ := k8
  refine PySem.W.kla_codeExpr (subD_of PySem.F.slot_dict_getitem.lookup (fun _ _ => rfl) ?_)
  refine wpAny_Name (wpAny_loadName_free (c := c) k1 k5 k7 ⟨oo, g1 _ _ (g _ _ go), dd⟩ ?_ k11) k9
  refine wpAny_Name (wpAny_loadName_local (v := es[i].key) k1 k6 hns (by simp [List.lookup]) ?_) k10
  obtain ⟨ep, hraw⟩ := D.raw
  have g2 : Gr h0 h₁ := g.trans g1
  refine ⟨(hraw.at (fun o e => g2 _ _ e)).typeIs, ?_⟩
  refine D.get i hi _ _ _ _ g2 ?_ fun tk => ?_
  · show A.units + 3 + 16 < cLine
    omega
  · refine ⟨h₁, tk, rfl, g1, ?_⟩
    exact PyProof.Rows.Reads.keeps g2 hr
theorem collect_src {prog : Program} {w : World} {A : Around} {E : Value → Shared → Prop} {s : Shared} {T : String} {r d : Addr} {n : Nat} {P : Nat → Value → Prop} {OK : Heap → Prop} {R : List Value → Shared → Prop} (K : PySem.W.KdlSrc prog w T r d n P OK) (hh : A.handled = none) (hok : OK s.heap) (hn : n ≤ sizeLine)
    (h : ∀ (h' : Heap) (tk : Nat) (acc : Array Value), Gr s.heap h' → s.heap.objs.size ≤ h'.objs.size → ItemsOf P acc n → R acc.toList { heap := h', gens := s.gens, drawn := s.drawn, toks := tk, os := s.os }) : wpAny (model prog w) A (collect (.ref r)) R E s := by
  have hlt := K.there s.heap hok
  refine wpAny_bind (wpAny_runValue (codeAny_builtin PyProof.Rows.entry_proto_collect' ?_))
  rw [Around.under_plainId PySem.F.plain_proto_collect]
  refine wpAny_bind (wpAny_newObj_type (wpAny_pure ⟨plainId_quiet PySem.F.plain_list_iadd _, codeAny_builtin PyProof.Rows.entry_list_iadd' ?_⟩))
  rw [Around.under_plainId PySem.F.plain_list_iadd]
  have key := PySem.W.kdl_extend (s := { heap := s.heap.push { cls := Value.type "list", data := Data.seq #[] }, gens := s.gens, drawn := s.drawn, toks := s.toks, os := s.os }) (A := A)
    (R := fun q s' => ∃ h' tk acc' c', q = Except.ok (Flow.ret (Value.ref s.heap.objs.size)) ∧ s' = { heap := h', gens := s.gens, drawn := s.drawn, toks := tk, os := s.os } ∧ Gr s.heap h' ∧ h'.get? s.heap.objs.size = some { cls := Value.type "list", data := Data.seq acc' c' } ∧ ItemsOf P acc' n)
    K hh (K.keep s.heap _ hok fun b _ o e => Heap.get?_push_of_some _ e) s.heap.objs.size (Nat.ne_of_gt hlt.1) (Nat.ne_of_gt hlt.2) (.ref s.heap.objs.size) 0 (Heap.get?_push_size s.heap rfl)
    (fun h' tk acc' c' hk hS' hacc => ⟨h', tk, acc', c', rfl, rfl, fun b o e => hk b o (Nat.ne_of_lt (Heap.lt_size e)) (Heap.get?_push_of_some _ e), hS', hacc⟩) hn
  have fin : ∀ (h' : Heap) (tk : Nat) (acc' : Array Value) (c' : Nat), Gr s.heap h' → h'.get? s.heap.objs.size = some { cls := Value.type "list", data := Data.seq acc' c' } → ItemsOf P acc' n →
      wpAny (model prog w) A (do
        let o ← load s.heap.objs.size
        match o.data with
          | Data.seq xs epoch => pure xs.toList
          | x => unsupported "internal:collect") R E { heap := h', gens := s.gens, drawn := s.drawn, toks := tk, os := s.os } := fun h' tk acc' c' g e hi =>
    wpAny_bind (wpAny_load e (wpAny_pure (h h' tk acc' g (Nat.le_of_lt (Heap.lt_size e)) hi)))
  refine wpAny_mono key (fun f s' hq => ?_) (fun e s' hq => ?_)
  · cases f with
    | done f =>
      obtain ⟨h', tk, acc', c', e, rfl, hk, hS', hacc⟩ := hq
      cases e
      exact fin h' tk acc' c' hk hS' hacc
    | again c' =>
      refine ⟨hq.1, codeAny_mono hq.2 fun r s' hr => ?_⟩
      obtain ⟨h', tk, acc', c', e, rfl, hk, hS', hacc⟩ := hr
      subst e
      exact fin h' tk acc' c' hk hS' hacc
  · obtain ⟨h', tk, acc', c', e, _⟩ := hq
    cases e
theorem each_range {P : Nat → Value → Prop} {acc : List Value} {n : Nat} (hl : acc.length = n) (h : ∀ (j : Nat) (v : Value), acc[j]? = some v → P j v) : PySem.W.EachIs (fun v i => P i v) acc (List.range n) := by
  have go : ∀ (acc : List Value) (m : Nat), (∀ (j : Nat) (v : Value), acc[j]? = some v → P (m + j) v) → PySem.W.EachIs (fun v i => P i v) acc (List.range' m acc.length) := fun acc => by
    induction acc with
    | nil => exact fun _ _ => .nil
    | cons v r ih =>
      intro m h
      rw [List.length_cons, List.range'_succ]
      exact .cons (h 0 v rfl) (ih (m + 1) fun j u e => by
        have := h (j + 1) u (by simpa using e)
        rwa [show m + (j + 1) = m + 1 + j by omega] at this)
  rw [← hl, List.range_eq_range']
  exact go acc 0 fun j v e => by rw [Nat.zero_add]; exact h j v e
theorem sorted_ends {P : Program} {w : World} {A : Around} {E : Value → Shared → Prop} {s : Shared} {f d : Addr} {es : Array DictEntry} {ks : List PyData} {Q : Value → Shared → Prop} (D : RawD P w s.heap d es) (L : KeyL s.heap f d) (nl : ∀ h, Gr s.heap h → h.NoLimit) (hc : A.handled = none) (hd : A.depth < recursionLimit) (hu : A.units + 200 < cLine)
    (hl : ks.length = es.size) (hr : ∀ (i : Nat) (hi : i < es.size), Reads s.heap es[i].val (ks.getD i .none) []) (ha : PySem.W.AllAlike ks) (hs : PySem.W.Sortable ks) (hdp : ∀ k ∈ ks, k.depth ≤ 64)
    (post : ∀ (r : Addr) (out : List Value) (c : Nat) (h' : Heap) (tk : Nat), Gr s.heap h' → s.heap.objs.size ≤ r → h'.get? r = some (seqObj "list" out.toArray c) → PySem.W.EachIs (fun v i => ∃ hi : i < es.size, v = es[i].key) out ((List.range es.size).mergeSort (PySem.W.dataLe false fun i => ks.getD i .none)) → Q (.ref r) { heap := h', gens := s.gens, drawn := s.drawn, toks := tk, os := s.os }) :
    wpAny (model P w) A (call (.builtin "sorted") [.ref d] [("key", .ref f)]) Q E s := by
  obtain ⟨ep, hraw⟩ := D.raw
  have ek : (List.range es.size).map (fun i => ks.getD i .none) = ks := by
    rw [← hl]
    exact List.ext_getElem (by simp) fun i h1 h2 => by simp [List.getD_eq_getElem?_getD, List.getElem?_eq_getElem h2]
  refine call_function_entry_kw kind_sorted plain_sorted entry_sorted (ksk_s1 _ _) ?_
  show wpAny _ _ (do
    checkCount "sorted" 1 1 1
    let xs ← collect (.ref d)
    let l ← newList xs
    let _ ← holding [l] (call (Value.builtin "list.sort") [l] [("key", .ref f)])
    ret l) _ _ _
  refine wpAny_bind (wpAny_pure (wpAny_bind (collect_src (PySem.KdlSrc.rawDict D.nm) hc hraw D.sz fun h1 tk1 acc g1 z1 hacc => ?_)))
  have al : acc.toList.length = es.size := by rw [Array.length_toList]; exact hacc.1
  have each := each_range (P := fun i v => ∃ hi : i < es.size, v = es[i].key) al (fun j v e => hacc.2 j v (by rw [← Array.getElem?_toList]; exact e))
  refine wpAny_bind (wpAny_newList ?_ (by rw [al]; exact D.sz))
  obtain ⟨h2, e2⟩ : ∃ h2, h2 = h1.push { cls := Value.type "list", data := Data.seq acc.toList.toArray } := ⟨_, rfl⟩
  have at2 : h2.get? h1.objs.size = some (seqObj "list" acc.toList.toArray 0) := by rw [e2]; exact Heap.get?_push_size _ (by rfl)
  have g2 : Gr h1 h2 := fun b o e => by rw [e2]; exact Heap.get?_push_of_some _ e
  rw [← e2]
  refine wpAny_bind (wpAny_holding (wpAny_call_entry_kw slot_list_sort ⟨seqObj "list" acc.toList.toArray 0, at2, rfl⟩ entry_list_sort ?_ (ksk_l1 _ _)))
  rw [ksk_t1]
  refine PySem.W.keyH_tree (kz := ks) at2 (by rw [al, hl]) (by rw [al]; exact D.sz) ha hs (fun k hk => ?_) (fun i v k ev ekk h tk kb => ?_) fun h' tk out c kp ho ko => ?_
  · have := hdp k hk
    show A.units + 1 + 1 + k.depth < cLine
    omega
  · obtain ⟨hi, ev2⟩ := hacc.2 i v (by rw [← Array.getElem?_toList]; exact ev)
    have fresh : ∀ b o, h1.get? b = some o → b ≠ h1.objs.size := fun b o e => Nat.ne_of_lt (Heap.lt_size e)
    have gg : Gr s.heap h := fun b o e => kb b o (fresh b o (g1 b o e)) (g2 b o (g1 b o e))
    rw [ev2]
    have := hr i hi
    rw [List.getD_eq_getElem?_getD, ekk] at this
    exact key_call D L gg (nl h gg) hi hd (by show A.units + 1 + 1 + 32 < cLine; omega) this
  · refine ⟨.none, rfl, ?_⟩
    have fresh : ∀ b o, h1.get? b = some o → b ≠ h1.objs.size := fun b o e => Nat.ne_of_lt (Heap.lt_size e)
    refine wpAny_pure ⟨.ref h1.objs.size, rfl, post h1.objs.size out c h' tk (fun b o e => kp b o (fresh b o (g1 b o e)) (g2 b o (g1 b o e))) ?_ ho ?_⟩
    · exact z1
    · exact PySem.W.keyedOut_each (fun i => ks.getD i .none) (by rw [ek]; exact ko) each
end DD

/-! DD40: sorted(d, key=lambda k: d[k]) as an expression. -/
namespace DD
open PySem L2 PyProof.Rows LamX NdefX
/-- the keys of a dict, and what stands at them, as data -/
def SrtD (X : Cx) (H : Hp) (a : Addr) (kv : List V) (ps : List PyData) : Prop := ∀ pins σ s, Inv X pins σ H s → ∃ es, RawD X.prog X.w s.heap a es ∧ es.size = kv.length ∧ ps.length = es.size ∧ (∀ (i : Nat) (hi : i < es.size), RelV (kv.getD i .non) es[i].key) ∧ ∀ (i : Nat) (hi : i < es.size), Reads s.heap es[i].val (ps.getD i .none) []
def srtO (ps : List PyData) : List Nat := (List.range ps.length).mergeSort (PySem.W.dataLe false fun i => ps.getD i .none)
theorem srtO_lt {ps : List PyData} {i : Nat} (h : i ∈ srtO ps) : i < ps.length := by
  unfold srtO at h
  rw [List.mem_mergeSort] at h
  simpa using h
def tSrt (X : Cx) (T : List (Addr × Str)) (W : LW) (i : Nat) : TE := fun σ H Q => ∃ a, σ[i]? = some (some (.ref a)) ∧ Tabs T H ∧ ∀ (f c' : Addr) (pm ctv : Value) (H1 : Hp), ExtN H H1 → Tabs T H1 → H f = none → H1 f = some (Kn (W.obj (cloFrom X.env.cells W.scope.names []) pm c' ctv)) → H1 c' = some (CodeO c' W.qual) →
  ∃ kv ps, SrtD X H1 a kv ps ∧ PySem.W.AllAlike ps ∧ PySem.W.Sortable ps ∧ (∀ k ∈ ps, k.depth ≤ 64) ∧ ∀ r, H1 r = none → Q (.ref r) (upd H1 r (.lst ((srtO ps).map fun j => kv.getD j .non)))
section
variable {X : Cx} {pins : List (Addr × Obj)} {σ : L2.St} {H : Hp} {s : Shared}
theorem inv_grow (I : Inv X pins σ H s) {h : Heap} {tk : Nat} (g : Gr s.heap h) : Inv X pins σ H { heap := h, gens := s.gens, drawn := s.drawn, toks := tk, os := s.os } :=
  Inv.call (ch := []) I ⟨fun b o e _ _ _ => g b o e, fun b o e _ _ _ => ⟨o.slots, g b o e⟩, fun b o _ n _ => n, fun b o e _ => ⟨o, g b o e⟩, fun b xs e => e, fun b o u e => e, fun b ps e => ⟨#[], by simpa using e⟩⟩
    (fun a o e => (I.hok a o e).stay (fun b u _ q => g b u q) (fun b q => q) fun b xs q => q) I.bare (fun b z => by simp at z)
theorem pe_sortEnds {T : List (Addr × Str)} {c P : Addr} {W : LW} {pos p lp kp : Pos} {i k : Nat} {x y fn : Str} {p0 p1 p2 p3 : Pos} (tb : TabB X.base X.mg c P) (hc : X.env.code = .ref c) (mT : (P, W.qual) ∈ T) (oT : ∀ p ∈ T, p.1 = P → p.2 = W.qual) (hq : W.qual = X.env.qual ++ "<lambda>") (hd : defaultsOf W.params X.env = ([], []))
    (hf : X.Ok → ∀ y ∈ W.scope.names, y.2 = .free → ∃ a, X.env.cells.lookup y.1 = some a) (cp : X.Ok → Caps X (cloFrom X.env.cells W.scope.names []) [x] [i]) (hr : Room k X.A) (hg : Gl X fn) (hm : X.mg fn = none) (hv : bootBuiltins fn = some (.builtin "sorted"))
    (hN : X.N[i]? = some x) (hvis : Vis X.env.scope x) (eb : W.body = .Subscript (.Name x p1) (.Name y p2) p3) (S : NScope [y, x] [y] [x] W.scope)
    (hb : ∀ (cl : List (Str × Addr)) (pm cv ctv : Value) (us : List Value), us.length = ([y] : List Str).length → bindArgs (PySem.W.kla_fn "<lambda>" W.qual W.params W.body W.scope cl pm cv ctv) ⟨us, []⟩ = pure (([y] : List Str).zip us))
    (d1 : (x == ("__debug__" : Str)) = false := by decide) (d2 : (y == ("__debug__" : Str)) = false := by decide) (d3 : (x == ("__classdict__" : Str)) = false := by decide) (hn : fn ≠ "__name__" := by decide) (hdb : (fn == ("__debug__" : Str)) = false := by decide)
    (he : backTo pos (starEach [Expr.Name x p0] X.env) = (false, eval (Expr.Name x p0) X.env) :: backTo pos (starEach [] X.env) := by rfl) (hpl : (backTo pos (starEach [Expr.Name x p0] X.env)).any (·.1) = false := by rfl)
    (hall : ((backToKw pos (keywordEach [⟨some ("key" : Str), .Lambda W.params W.body W.scope lp, kp⟩] X.env)).all fun x => x.1.isSome) = true := by rfl) (hnone : ((backToKw pos (keywordEach [⟨some ("key" : Str), .Lambda W.params W.body W.scope lp, kp⟩] X.env)).any fun x => x.1.isNone) = false := by rfl)
    (hks : (backToKw pos (keywordEach [⟨some ("key" : Str), .Lambda W.params W.body W.scope lp, kp⟩] X.env)).filterMap (fun x => x.1) = [("key" : Str)] := by rfl) :
    PE X (.Call (.Name fn p) [.Name x p0] [⟨some ("key" : Str), .Lambda W.params W.body W.scope lp, kp⟩] pos) (tSrt X T W i) := by
  refine ⟨fun pins s σ H Q I ⟨a, hs, ht, h⟩ => ?_⟩
  have ha : PA X [.Name x p0] (tCons (tVar i) tNil) := pa_cons (pe_var hN hvis d1 d3) pa_nil
  have hk : PK X [⟨some ("key" : Str), .Lambda W.params W.body W.scope lp, kp⟩] (tCons (tLm X T W) tNil) := pk_cons (pe_lam tb hc mT oT hq hd hf) pk_nil
  refine wpAny_Call_Name_kw (ld_blt I hg hm hv (callWith_kw (thn (ha.run pos pins s σ H (fun vs H1 => vs = [.ref a] ∧ H1 = H) I ⟨.ref a, hs, rfl, rfl⟩) fun us s1 ⟨vs, H1, I1, r1, ev, eH⟩ => ?_) he hpl hall hnone) hn hdb)
  subst ev
  rw [eH] at I1
  obtain ⟨u0, rfl, ru⟩ := vals1 r1
  cases ru
  refine thn (hk.run pos pins s1 σ H (fun zs H2 => ∃ f, zs = [.ref f] ∧ (∃ c' pm ctv, H2 f = some (Kn (W.obj (cloFrom X.env.cells W.scope.names []) pm c' ctv)) ∧ H2 c' = some (CodeO c' W.qual)) ∧ ∃ kv ps, SrtD X H2 a kv ps ∧ PySem.W.AllAlike ps ∧ PySem.W.Sortable ps ∧ (∀ k ∈ ps, k.depth ≤ 64) ∧ ∀ r, H2 r = none → Q (.ref r) (upd H2 r (.lst ((srtO ps).map fun j => kv.getD j .non)))) I1
    ⟨ht, fun f c' pm ctv H2 a1 a2 a3 a4 a5 => ⟨f, rfl, ⟨c', pm, ctv, a4, a5⟩, h f c' pm ctv H2 a1 a2 a3 a4 a5⟩⟩) fun ws s2 ⟨zs, H2, I2, r2, f, ez, ⟨c', pm, ctv, hf2, hc2⟩, kv, ps, sd, al, so, dp, q⟩ => ?_
  subst ez
  obtain ⟨w0, rfl, rw0⟩ := vals1 r2
  cases rw0
  rw [hks]
  obtain ⟨es, D, z1, z2, z3, z4⟩ := sd _ _ s2 I2
  have C := cells_of I2 (cp I2.ok)
  obtain ⟨cc, e1, e2⟩ := C.has 0 x rfl
  obtain ⟨uu, ruu, hcell⟩ := e2 (.ref a) (by show some (slotAt σ i) = _; rw [slotAt_of hs])
  cases ruu
  obtain ⟨⟨oc, tvs, tt, hoc, hdc, hvc⟩, _, _⟩ := I2.hok c' _ hc2
  have L : KeyL s2.heap f a := ⟨W.qual, W.params, x, y, p1, p2, p3, W.scope, _, pm, c', ctv, cc, by rw [← eb]; exact kn_at I2.hok hf2, ⟨c', oc, tvs, tt, rfl, hoc, hdc, hvc⟩, S.kind, S.co, S.gen, S.nocell, S.frk x (by simp), S.par y (by simp), e1, hcell, d1, d2, d3, fun v => by rw [← eb]; exact hb _ _ _ _ [v] rfl⟩
  refine sorted_ends (ks := ps) D L (fun h g => (inv_grow (tk := 0) I2 g).nolimit) hr.hd (by have := hr.dp; omega) (by have := hr.un; omega) z2 z4 al so dp fun r out c h' tk g hz ho ea => ?_
  have el : es.size = ps.length := z2.symm
  have vals : ∀ (js : List Nat) (out : List Value), PySem.W.EachIs (fun v i => ∃ hi : i < es.size, v = es[i].key) out js → Vals (js.map fun j => kv.getD j .non) out := fun js out e => by
    induction e with
    | nil => exact .nil
    | cons h t ih =>
      obtain ⟨hi, rfl⟩ := h
      exact .cons (z3 _ hi) ih
  have eo : (List.range es.size).mergeSort (PySem.W.dataLe false fun i => ps.getD i .none) = srtO ps := by unfold srtO; rw [el]
  rw [eo] at ea
  have lenO : (srtO ps).length = ps.length := by unfold srtO; rw [List.length_mergeSort, List.length_range]
  have ob : ObjOk X.prog X.w (upd H2 r (.lst ((srtO ps).map fun j => kv.getD j .non))) h' r (.lst ((srtO ps).map fun j => kv.getD j .non)) :=
    ⟨by rw [List.length_map, lenO, z2]; exact D.sz, out, c, vals _ _ ea, ho⟩
  exact ⟨.ref r, _, I2.laid g hz ob, rfl, q r (I2.hok.fresh hz)⟩
end
end DD

/-! DD41: sorted(d, key=lambda k: d[k]), by data. -/
namespace DD
open PySem L2 PyProof.Rows LamX NdefX
mutual
/-- no list, no dict in it -/
def plainD : PyData → Bool
  | .none => true
  | .bool _ => true
  | .int _ => true
  | .str _ => true
  | .tuple xs => plainDs xs
  | .list _ => false
  | .dict _ => false
def plainDs : List PyData → Bool
  | [] => true
  | d :: ds => plainD d && plainDs ds
end
mutual
theorem reads_plain {h : Heap} : ∀ {d : PyData} {v : Value} {as : List Addr}, plainD d = true → Reads h v d as → as = []
  | .none, _, _, _, r => by cases r; rfl
  | .bool _, _, _, _, r => by cases r; rfl
  | .int _, _, _, _, r => by cases r; rfl
  | .str _, _, _, _, r => by cases r; rfl
  | .tuple xs, _, _, p, r => by
    cases r with
    | tuple _ _ _ q => exact readsAll_plain p q
  | .list _, _, _, p, _ => nomatch p
  | .dict _, _, _, p, _ => nomatch p
theorem readsAll_plain {h : Heap} : ∀ {ds : List PyData} {vs : List Value} {as : List Addr}, plainDs ds = true → ReadsAll h vs ds as → as = []
  | [], _, _, _, r => by cases r; rfl
  | d :: ds, _, _, p, r => by
    have p' := Bool.and_eq_true_iff.mp p
    cases r with
    | cons a b => rw [reads_plain p'.1 a, readsAll_plain p'.2 b]; rfl
end
theorem valueAt_get {β : Type} [DecidableEq β] : ∀ (vs : List (β × Value)) (i : Nat) (k : β) (v : Value), (vs.map (·.1)).Nodup → vs[i]? = some (k, v) → valueAt vs k = some v
  | [], _, _, _, _, e => by simp at e
  | (k', v') :: r, 0, k, v, _, e => by
    simp at e
    obtain ⟨rfl, rfl⟩ := e
    simp [valueAt]
  | (k', v') :: r, i + 1, k, v, nd, e => by
    rw [List.map_cons, List.nodup_cons] at nd
    have e' : r[i]? = some (k, v) := by simpa using e
    have ne : k' ≠ k := fun z => nd.1 (by rw [z]; exact List.mem_map.mpr ⟨(k, v), List.mem_of_getElem? e', rfl⟩)
    have ih := valueAt_get r i k v nd.2 e'
    unfold valueAt at ih ⊢
    rw [List.find?_cons]
    simp only [ne, decide_false]
    exact ih
section
variable {P : Program} {w : World} {h : Heap} {a : Addr}
theorem rawD_H {nks : List NestedKey} {bs : List Addr} {us : List Value} (nm : (a == sysModules) = false) (h2 : us.length = nks.length) (h3 : bs.length = nks.length) (hz : nks.length ≤ sizeLine) (dd : Heap.DictOfH (nestedKind P w) h a (nks.zip (bs.zip us))) :
    ∃ es, RawD P w h a es ∧ es.size = nks.length ∧ ∀ (i : Nat) (hi : i < es.size), ∃ b, bs[i]? = some b ∧ es[i].key = .ref b ∧ us[i]? = some es[i].val := by
  obtain ⟨es, ep, hr, he, hx⟩ := dd.raw
  have e : es.size = nks.length := by rw [he, List.length_zip, List.length_zip, h3, h2, Nat.min_self, Nat.min_self]
  refine ⟨es, ⟨nm, ⟨ep, hr⟩, by rw [e]; exact hz, fun i hi A E Q s g hu q => ?_⟩, e, fun i hi => ?_⟩
  · obtain ⟨y, ey, ek, ev, is⟩ := hx i hi
    have dd' : Heap.DictOfH (nestedKind P w) s.heap a (nks.zip (bs.zip us)) := by
      obtain ⟨o, es', ep', g1, ex, ed, el, ia, nd⟩ := dd
      exact ⟨o, es', ep', g _ _ g1, ex, ed, el, fun x m => ⟨NestedIs.at (fun b o vs n e _ => g b o e) _ _ (ia x m).1, (ia x m).2⟩, nd⟩
    have nd : ((nks.zip (bs.zip us)).map (·.1)).Nodup := by obtain ⟨_, _, _, _, _, _, _, _, nd⟩ := dd; exact nd
    rw [ek]
    refine wpAny_getItem_heap (k := y.1) (p := y.2) (room8 hu) ⟨NestedIs.at (fun b o vs n e _ => g b o e) _ _ is.1, is.2⟩ dd' (atKey_of_get nd ey) ?_
    rw [← ev]
    exact q _
  · obtain ⟨y, ey, ek, ev, is⟩ := hx i hi
    have m1 : (nks.zip (bs.zip us)).map (·.2) = bs.zip us := List.map_snd_zip (by rw [List.length_zip, h3, h2, Nat.min_self]; exact Nat.le_refl _)
    have m2 : (bs.zip us).map (·.1) = bs := List.map_fst_zip (by rw [h3, h2]; exact Nat.le_refl _)
    have m3 : (bs.zip us).map (·.2) = us := List.map_snd_zip (by rw [h3, h2]; exact Nat.le_refl _)
    have q1 : (bs.zip us)[i]? = some y.2 := by rw [← m1, List.getElem?_map, ey]; rfl
    refine ⟨y.2.1, ?_, ek, ?_⟩
    · rw [← m2, List.getElem?_map, q1]; rfl
    · rw [ev, ← m3, List.getElem?_map, q1]; rfl
theorem rawD_K {vs : List (Key × Value)} (nm : (a == sysModules) = false) (hz : vs.length ≤ sizeLine) (dd : Heap.DictOf (mixKind P w) h a vs) :
    ∃ es, RawD P w h a es ∧ es.size = vs.length ∧ ∀ (i : Nat) (hi : i < es.size) (k : Key) (v : Value), vs[i]? = some (k, v) → keyIs k es[i].key = true ∧ es[i].val = v := by
  obtain ⟨es, ep, hr, he, hx⟩ := dd.raw
  refine ⟨es, ⟨nm, ⟨ep, hr⟩, by rw [he]; exact hz, fun i hi A E Q s g hu q => ?_⟩, he, hx⟩
  obtain ⟨⟨k, v⟩, ekv⟩ : ∃ kv, vs[i]? = some kv := ⟨_, List.getElem?_eq_getElem (by rw [← he]; exact hi)⟩
  obtain ⟨q1, q2⟩ := hx i hi k v ekv
  have dd' : Heap.DictOf (mixKind P w) s.heap a vs := by
    obtain ⟨o, es', ep', g1, r⟩ := dd
    exact ⟨o, es', ep', g _ _ g1, r⟩
  have nd : (vs.map (·.1)).Nodup := by obtain ⟨_, _, _, _, _, _, _, _, nd⟩ := dd; exact nd
  refine wpAny_getItem_of q1 dd'.mapOf (v := v) ?_ ?_
  · exact valueAt_get vs i k v nd ekv
  · rw [← q2]; exact q _
end
/-! ### by data -/
variable [NMs]
theorem x_srtOk : ∃ f : List PyData → Bool, ∀ ps, f ps = true ↔ (PySem.W.AllAlike ps ∧ PySem.W.Sortable ps ∧ (∀ k ∈ ps, k.depth ≤ 64) ∧ plainDs ps = true) := by
  classical
  exact ⟨fun ps => decide (PySem.W.AllAlike ps ∧ PySem.W.Sortable ps ∧ (∀ k ∈ ps, k.depth ≤ 64) ∧ plainDs ps = true), fun ps => by simp⟩
noncomputable def srtOk (ps : List PyData) : Bool := x_srtOk.choose ps
theorem srtOk_iff {ps : List PyData} : srtOk ps = true ↔ (PySem.W.AllAlike ps ∧ PySem.W.Sortable ps ∧ (∀ k ∈ ps, k.depth ≤ 64) ∧ plainDs ps = true) := x_srtOk.choose_spec ps
noncomputable def srtR (ks ds : List D) (st : Sto) : Res (List D) := match toPys0 ds with
  | some ps => if srtOk ps = true ∧ ks.length = ds.length then .ok ((srtO ps).map fun j => ks.getD j .non) st else .bad
  | none => .bad
noncomputable def dSortEnds (i : Nat) : DA := fun env st => match env[i]? with
  | some (some (.ref n)) => match st[n]? with
    | some (.dkt ks ds) => srtR ks ds st
    | some (.dct ks ds) => srtR (ks.map dK') ds st
    | _ => .bad
  | _ => .bad
theorem toPys0_len : ∀ {ds : List D} {ps : List PyData}, toPys0 ds = some ps → ps.length = ds.length
  | [], _, e => by cases e; rfl
  | d :: ds, ps, e => by
    simp only [toPys0] at e
    split at e
    · rename_i y ys q1 q2
      cases e
      simp [toPys0_len q2]
    · cases e
theorem dpAll_get {K : PySem.W.Frag} {H : Hp} : ∀ {xs : List V} {ps : List PyData}, DpAll K H xs ps → ∀ (i : Nat) (x : V), xs[i]? = some x → Dp K H x (ps.getD i .none)
  | _, _, .nil, i, x, e => by simp at e
  | _, _, .cons h t, 0, x, e => by simp at e; subst e; exact h
  | _, _, .cons h t, i + 1, x, e => by
    have := dpAll_get t i x (by simpa using e)
    simpa using this
theorem plainDs_get : ∀ {ps : List PyData} (i : Nat), plainDs ps = true → plainD (ps.getD i .none) = true
  | [], i, _ => by cases i <;> rfl
  | d :: ps, 0, p => (Bool.and_eq_true_iff.mp p).1
  | d :: ps, i + 1, p => by
    have := plainDs_get i (Bool.and_eq_true_iff.mp p).2
    simpa using this
theorem vals_get' {xs : List V} {us : List Value} (r : Vals xs us) {i : Nat} {u : Value} (e : us[i]? = some u) : ∃ x, xs[i]? = some x ∧ RelV x u := by
  induction r generalizing i with
  | nil => simp at e
  | cons h t ih =>
    cases i with
    | zero => simp at e; subst e; exact ⟨_, rfl, h⟩
    | succ i => obtain ⟨x, h1, h2⟩ := ih (i := i) (by simpa using e); exact ⟨x, by simpa using h1, h2⟩
theorem vrs_pick {B : Bs} {H : Hp} {ι : List Addr} {ks : List D} {kv : List V} (r : VRs B H ι ks kv) : ∀ (js : List Nat), (∀ j ∈ js, j < ks.length) → VRs B H ι (js.map fun j => ks.getD j .non) (js.map fun j => kv.getD j .non)
  | [], _ => rfl
  | j :: js, h => by
    obtain ⟨v, h1, h2⟩ := r.get (List.getElem?_eq_getElem (h j List.mem_cons_self))
    refine ⟨_, _, rfl, ?_, vrs_pick r js fun i hi => h i (List.mem_cons_of_mem _ hi)⟩
    show VR B H ι (ks.getD j .non) (kv.getD j .non)
    rw [List.getD_eq_getElem?_getD, List.getD_eq_getElem?_getD, List.getElem?_eq_getElem (h j List.mem_cons_self), h1]
    exact h2
section
variable {X : Cx} {W : WX}
theorem srtD_of {B : Bs} {H : Hp} {ι : List Addr} {st : Sto} {a : Addr} {n : Nat} {ks ds : List D} {ps : List PyData} (hB : B.K = X.K) (hw : NMs.w = some X.w) (S : Sim B H ι st) (ha : ι[n]? = some a) (h : st[n]? = some (.dkt ks ds)) (e : toPys0 ds = some ps) (ok : plainDs ps = true) :
    ∃ kv, VRs B H ι ks kv ∧ SrtD X H a kv ps := by
  obtain ⟨w', nks, bs, xs, ew, ek, h1, rk, rd⟩ := S.look h ha
  rw [hw] at ew; cases ew
  refine ⟨bs.map .ref, rk, fun pins σ s I => ?_⟩
  have d : DkH X.prog X.w B.K H a nks bs xs := .inl ⟨h1, kall_of rk ek⟩
  rw [hB] at d
  obtain ⟨us, g1, g2, g3, g4, g5, g6, g7, dd⟩ := d.raw I.hok I.kIn
  obtain ⟨es, D, q1, q2⟩ := rawD_H g4 g2 g3 g5 dd
  have lp := toPys0_len e
  have lx := rd.length
  refine ⟨es, D, by rw [q1, List.length_map, g3], by rw [lp, lx, g1.length, g2, q1], fun i hi => ?_, fun i hi => ?_⟩
  · obtain ⟨b, eb, ekey, _⟩ := q2 i hi
    rw [List.getD_eq_getElem?_getD, List.getElem?_map, eb, ekey]
    rfl
  · obtain ⟨b, eb, ekey, ev⟩ := q2 i hi
    obtain ⟨x, ex, rx⟩ := vals_get' g1 ev
    have dp := dpAll_get (dps0 rd e) i x ex
    rw [hB] at dp
    obtain ⟨as, r⟩ := Dp.reads I _ _ _ dp rx
    have := reads_plain (plainDs_get i ok) r
    rw [this] at r
    exact r
theorem srtD_of' {B : Bs} {H : Hp} {ι : List Addr} {st : Sto} {a : Addr} {n : Nat} {ks : List Key} {ds : List D} {ps : List PyData} (hB : B.K = X.K) (S : Sim B H ι st) (ha : ι[n]? = some a) (h : st[n]? = some (.dct ks ds)) (e : toPys0 ds = some ps) (ok : plainDs ps = true) :
    ∃ kv, VRs B H ι (ks.map dK') kv ∧ SrtD X H a kv ps := by
  obtain ⟨kvs, xs, h1, e1, l, rd⟩ := S.look h ha
  subst e1
  refine ⟨_, vrs_keys ks xs l, fun pins σ s I => ?_⟩
  obtain ⟨z, nm, vs, rel, dd⟩ := dk_of I.hok h1
  obtain ⟨es, D, q1, q2⟩ := rawD_K nm (by rw [← Paired.length rel]; exact z) dd
  have lp := toPys0_len e
  have lx := rd.length
  have lz : (ks.zip xs).length = xs.length := by rw [List.length_zip, l, Nat.min_self]
  have lv := Paired.length rel
  have get : ∀ (i : Nat) (hi : i < es.size), ∃ k x u, vs[i]? = some (k, u) ∧ xs[i]? = some x ∧ (ks.zip xs)[i]? = some (k, x) ∧ RelV x u := fun i hi => by
    have hi1 : i < vs.length := by rw [← q1]; exact hi
    have hi2 : i < (ks.zip xs).length := by rw [lv]; exact hi1
    have key : ∀ {l₁ : List (Key × V)} {l₂ : List (Key × Value)}, KV l₁ l₂ → ∀ (i : Nat) (p : Key × V), l₁[i]? = some p → ∃ u, l₂[i]? = some (p.1, u) ∧ RelV p.2 u := fun r => by
      induction r with
      | nil => intro i p e; simp at e
      | cons h t ih =>
        rename_i a b _ _
        intro i p e
        cases i with
        | zero => simp at e; subst e; exact ⟨b.2, by simp [h.1], h.2⟩
        | succ i => obtain ⟨u, y1, y2⟩ := ih i p (by simpa using e); exact ⟨u, by simpa using y1, y2⟩
    obtain ⟨u, y1, y2⟩ := key rel i _ (List.getElem?_eq_getElem hi2)
    refine ⟨_, _, u, y1, ?_, List.getElem?_eq_getElem hi2, y2⟩
    have m : (ks.zip xs).map (·.2) = xs := List.map_snd_zip (by rw [l]; exact Nat.le_refl _)
    conv => lhs; rw [← m]
    rw [List.getElem?_map, List.getElem?_eq_getElem hi2]; rfl
  refine ⟨es, D, by rw [q1, List.length_map, lv], by rw [lp, lx, ← lz, lv, q1], fun i hi => ?_, fun i hi => ?_⟩
  · obtain ⟨k, x, u, y1, y2, y3, y4⟩ := get i hi
    rw [List.getD_eq_getElem?_getD, List.getElem?_map, y3]
    exact keyIs_rel (q2 i hi k u y1).1
  · obtain ⟨k, x, u, y1, y2, y3, y4⟩ := get i hi
    have dp := dpAll_get (dps0 rd e) i x y2
    rw [hB] at dp
    rw [(q2 i hi k u y1).2]
    obtain ⟨as, r⟩ := Dp.reads I _ _ _ dp y4
    have := reads_plain (plainDs_get i ok) r
    rw [this] at r
    exact r
theorem pld_sortEnds {c P : Addr} {lw : LW} {pos p lp kp : Pos} {i k : Nat} {x y fn : Str} {p0 p1 p2 p3 : Pos} {sc : Scope} {lpar : Arguments} {lbody : Expr} {lsc : Scope} (hw : NMs.w = some X.w) (tb : TabB X.base X.mg c P) (hc : X.env.code = .ref c) (mT : (P, lw.qual) ∈ NMs.T X.K) (oT : ∀ p ∈ NMs.T X.K, p.1 = P → p.2 = lw.qual) (l1 : lpar = lw.params) (l2 : lbody = lw.body) (l3 : lsc = lw.scope)
    (hq : lw.qual = X.env.qual ++ "<lambda>") (hd : defaultsOf lpar X.env = ([], [])) (hs : X.env.scope = sc) (hcap : capB sc lw = true) (hfr : lw.fr = [x]) (hr : Room k X.A) (hg : Gl X fn) (hm : X.mg fn = none) (hv : bootBuiltins fn = some (.builtin "sorted"))
    (hN : X.N[i]? = some x) (hvis : Vis X.env.scope x) (eb : lw.body = .Subscript (.Name x p1) (.Name y p2) p3) (S : NScope [y, x] [y] [x] lw.scope)
    (hb : ∀ (cl : List (Str × Addr)) (pm cv ctv : Value) (us : List Value), us.length = ([y] : List Str).length → bindArgs (PySem.W.kla_fn "<lambda>" lw.qual lw.params lw.body lw.scope cl pm cv ctv) ⟨us, []⟩ = pure (([y] : List Str).zip us))
    (d1 : (x == ("__debug__" : Str)) = false := by decide) (d2 : (y == ("__debug__" : Str)) = false := by decide) (d3 : (x == ("__classdict__" : Str)) = false := by decide) (hn : fn ≠ "__name__" := by decide) (hdb : (fn == ("__debug__" : Str)) = false := by decide)
    (he : backTo pos (starEach [Expr.Name x p0] X.env) = (false, eval (Expr.Name x p0) X.env) :: backTo pos (starEach [] X.env) := by rfl) (hpl : (backTo pos (starEach [Expr.Name x p0] X.env)).any (·.1) = false := by rfl)
    (hall : ((backToKw pos (keywordEach [⟨some ("key" : Str), .Lambda lpar lbody lsc lp, kp⟩] X.env)).all fun x => x.1.isSome) = true := by rfl) (hnone : ((backToKw pos (keywordEach [⟨some ("key" : Str), .Lambda lpar lbody lsc lp, kp⟩] X.env)).any fun x => x.1.isNone) = false := by rfl)
    (hks : (backToKw pos (keywordEach [⟨some ("key" : Str), .Lambda lpar lbody lsc lp, kp⟩] X.env)).filterMap (fun x => x.1) = [("key" : Str)] := by rfl) :
    PLd X W (.Call (.Name fn p) [.Name x p0] [⟨some ("key" : Str), .Lambda lpar lbody lsc lp, kp⟩] pos) (dSortEnds i) := by
  subst l1 l2 l3
  refine PE.mono (pe_sortEnds tb hc mT oT hq hd (fun ok y hy e => by
    rcases capB_1 hcap y hy e with z | z
    · exact ok.has _ (.inl (by rw [← hs] at z; exact z))
    · exact ok.has _ (.inr (by rw [← hs] at z; exact z))) (fun ok => by
      have := caps_by (js := [i]) hs hcap (by rw [hfr, List.map_cons, hN]; rfl) ok
      rw [hfr] at this
      exact this) hr hg hm hv hN hvis eb S hb d1 d2 d3 hn hdb he hpl hall hnone hks) fun σ H Q ⟨ρ, ι, st, env, S, ve, q⟩ => ?_
  unfold dSortEnds at q
  split at q
  case h_2 => exact q.elim
  rename_i n hi
  obtain ⟨v0, g1, a, ha, e0⟩ := ve.2 i _ hi
  subst e0
  have fin : ∀ (ks ds : List D) (q : Post ⟨X.K, X.mg, ρ⟩ relL W σ ι H (srtR ks ds st) Q) (mk : ∀ (H1 : Hp) (ps : List PyData), Sim ⟨X.K, X.mg, ρ⟩ H1 ι st → toPys0 ds = some ps → plainDs ps = true → ∃ kv, VRs ⟨X.K, X.mg, ρ⟩ H1 ι ks kv ∧ SrtD X H1 a kv ps), tSrt X (NMs.T X.K) lw i σ H Q := fun ks ds q mk => by
    unfold srtR at q
    cases ep : toPys0 ds with
    | none => rw [ep] at q; exact q.elim
    | some ps =>
      rw [ep] at q
      simp only [] at q
      by_cases ok : srtOk ps = true ∧ ks.length = ds.length
      case neg => rw [if_neg ok] at q; exact q.elim
      rw [if_pos ok] at q
      obtain ⟨o1, o2, o3, o4⟩ := srtOk_iff.mp ok.1
      refine ⟨a, g1, S.tab, fun f c' pm ctv H1 a1 a2 a3 a4 a5 => ?_⟩
      obtain ⟨S1, s1⟩ := S.tables a1 a2
      obtain ⟨kv, rk, sd⟩ := mk H1 ps S1 ep o4
      refine ⟨kv, ps, sd, o1, o2, o3, ?_⟩
      exact new_lst S1 (vrs_pick rk _ fun j hj => by rw [ok.2, ← toPys0_len ep]; exact srtO_lt hj) (Post.step s1 q)
  split at q
  · rename_i ks ds e
    exact fin ks ds q fun H1 ps S1 ep o4 => srtD_of rfl hw S1 ha e ep o4
  · rename_i ks ds e
    exact fin _ ds q fun H1 ps S1 ep o4 => srtD_of' rfl S1 ha e ep o4
  · exact q.elim
end
end DD

/-! DD42: < of data, sorted of data. -/
namespace DD
open PySem L2 PyProof.Rows LamX NdefX
variable [NMs]
/-! ### < -/
def rLtX (K : PySem.W.Frag) : R2 := fun x y H Q => ∃ d e, Dp K H x d ∧ Dp K H y e ∧ PySem.W.alike d e = true ∧ d ≠ .none ∧ d.depth ≤ 64 ∧ Q (.bl (PySem.W.dataLt d e)) H
theorem op_ltX {X : Cx} (hu : X.A.units + 80 < cLine) : OpR X (compareOp .Lt) (rLtX X.K) := by
  rintro pins s σ H x y v u Q I rx ry ⟨d, e, hd, he, al, nn, dp, q⟩
  obtain ⟨as, r1⟩ := Dp.reads I _ _ _ hd rx
  obtain ⟨bs, r2⟩ := Dp.reads I _ _ _ he ry
  exact PySem.W.rcLt_alike d e X.A s v u as bs r1 r2 al nn (by have := Nat.min_le_left d.depth e.depth; omega) _ _ _ _ ⟨.bl (PySem.W.dataLt d e), H, I, rfl, q⟩
theorem x_ltOk : ∃ f : PyData → PyData → Bool, ∀ d e, f d e = true ↔ (PySem.W.alike d e = true ∧ d ≠ .none ∧ d.depth ≤ 64) := by
  classical
  exact ⟨fun d e => decide (PySem.W.alike d e = true ∧ d ≠ .none ∧ d.depth ≤ 64), fun d e => by simp⟩
noncomputable def ltOk (d e : PyData) : Bool := x_ltOk.choose d e
theorem ltOk_iff {d e : PyData} : ltOk d e = true ↔ (PySem.W.alike d e = true ∧ d ≠ .none ∧ d.depth ≤ 64) := x_ltOk.choose_spec d e
noncomputable def fLtX : F2 := fun x y st => match toPy st x, toPy st y with
  | some d, some e => if ltOk d e = true then .ok (.bl (PySem.W.dataLt d e)) st else .bad
  | _, _ => .bad
theorem rd_ltX {K : PySem.W.Frag} {mg : Str → Option Value} : RD K mg (rLtX K) fLtX := by
  intro ρ ι H st x y v u W σ Q S rx ry p
  unfold fLtX at p
  split at p
  · rename_i d e e1 e2
    split at p
    · rename_i h
      obtain ⟨h1, h2, h3⟩ := ltOk_iff.mp h
      exact ⟨d, e, dp S rx e1, dp S ry e2, h1, h2, h3, p.ok S rfl⟩
    · exact p.elim
  · exact p.elim
/-! ### sorted -/
def rSortX (K : PySem.W.Frag) : List V → Hp → VK → Prop := fun xs H Q => ∃ a ys ps, xs = [.ref a] ∧ SqL K H a ys ∧ DpAll K H ys ps ∧ PySem.W.AllAlike ps ∧ PySem.W.Sortable ps ∧ (∀ k ∈ ps, k.depth ≤ 64) ∧ ∀ r, H r = none → Q (.ref r) (upd H r (.lst ((srtO ps).map fun j => ys.getD j .non)))
theorem dpAll_len {K : PySem.W.Frag} {H : Hp} : ∀ {xs : List V} {ps : List PyData}, DpAll K H xs ps → ps.length = xs.length
  | _, _, .nil => rfl
  | _, _, .cons h t => by simp [dpAll_len t]
theorem cr_sortX {X : Cx} (hu : X.A.units + 80 < cLine) : CallR X (.builtin "sorted") (rSortX X.K) := by
  rintro pins s σ H xs us Q I r ⟨a, ys, ps, rfl, hs, hp, al, so, dp, q⟩
  obtain ⟨u, rfl, ru⟩ := vals1 r
  cases ru
  obtain ⟨its, rv, hl, hz⟩ := I.list hs
  have lv : ys.length = its.length := rv.length
  have lp := dpAll_len hp
  have li : its.length = ps.length := by omega
  have ek : (List.range ps.length).map (fun i => ps.getD i .none) = ps := List.ext_getElem (by simp) fun i h1 h2 => by simp [List.getD_eq_getElem?_getD, List.getElem?_eq_getElem h2]
  have e1 : PySem.W.EachIs (fun v i => ∃ x, ys[i]? = some x ∧ RelV x v) its (List.range ps.length) := each_range (P := fun i v => ∃ x, ys[i]? = some x ∧ RelV x v) li fun j v e => vals_get' rv e
  have e2 : PySem.W.EachIs (fun v i => ∃ as, Reads s.heap v (ps.getD i .none) as) its (List.range ps.length) := each_range (P := fun i v => ∃ as, Reads s.heap v (ps.getD i .none) as) li fun j v e => by
    obtain ⟨x, ex, rx⟩ := vals_get' rv e
    exact Dp.reads I _ _ _ (dpAll_get hp j x ex) rx
  refine PySem.W.sorted_data (enc := fun i => ps.getD i .none) (PlainL.isList hl) e1 e2 (by rw [ek]; exact al) (by rw [ek]; exact so) (by rw [List.length_range, ← li, ← lv]; exact hz) (fun b hb => ?_) fun out lo eo => ?_
  · have hb' : b < ps.length := by simpa using hb
    have := dp (ps.getD b .none) (by rw [List.getD_eq_getElem?_getD, List.getElem?_eq_getElem hb']; exact List.getElem_mem hb')
    omega
  · obtain ⟨e, hat⟩ := sortedAll_at s.heap its out.toArray
    have vals : ∀ (js : List Nat) (out : List Value), PySem.W.EachIs (fun v i => ∃ x, ys[i]? = some x ∧ RelV x v) out js → Vals (js.map fun j => ys.getD j .non) out := fun js out e => by
      induction e with
      | nil => exact .nil
      | cons h t ih =>
        obtain ⟨x, ex, rx⟩ := h
        refine .cons ?_ ih
        show RelV (ys.getD _ .non) _
        rw [List.getD_eq_getElem?_getD, ex]; exact rx
    have lenO : (srtO ps).length = ps.length := by unfold srtO; rw [List.length_mergeSort, List.length_range]
    have ob : ObjOk X.prog X.w (upd H (s.heap.objs.size + 1) (.lst ((srtO ps).map fun j => ys.getD j .non))) (sortedAll s.heap its out.toArray) (s.heap.objs.size + 1) (.lst ((srtO ps).map fun j => ys.getD j .non)) :=
      ⟨by rw [List.length_map, lenO, lp]; exact hz, out, e, vals _ _ eo, hat⟩
    exact ⟨.ref (s.heap.objs.size + 1), _, I.laid (fun b o e => sortedAll_old e) (Nat.le_succ _) ob, rfl, q _ (I.hok.fresh (Nat.le_succ _))⟩
noncomputable def fSortX : FL := fun xs st => match xs with
  | [x] => match lstD x st with
    | some ds => (match toPys st ds with
      | some ps => if srtOk ps = true then .ok ((srtO ps).map fun j => ds.getD j .non) st else .bad
      | none => .bad)
    | none => .bad
  | _ => .bad
theorem rcl_sortX {K : PySem.W.Frag} {mg : Str → Option Value} : RCL K mg (rSortX K) fSortX := by
  intro ρ ι H st xs vs W σ Q S r p
  unfold fSortX at p
  split at p
  · rename_i x
    obtain ⟨v, rfl, h⟩ := vr1 r
    split at p
    · rename_i ds e
      obtain ⟨a, ys, rfl, hs, r1⟩ := lst_of S h e
      split at p
      · rename_i ps e2
        split at p
        · rename_i ok
          obtain ⟨o1, o2, o3, o4⟩ := srtOk_iff.mp ok
          have hp := dps S r1 e2
          have lp : ps.length = ds.length := by rw [dpAll_len hp, r1.length]
          exact ⟨a, ys, ps, rfl, hs, hp, o1, o2, o3, new_lst S (vrs_pick r1 _ fun j hj => by rw [← lp]; exact srtO_lt hj) p⟩
        · exact p.elim
      · exact p.elim
    · exact p.elim
  · exact p.elim
end DD

/-! DD43: enumerate of texts and of lists. -/
namespace DD
open PySem L2 PyProof.Rows
variable [NMs]
def Ite1 (x : Str) : It := ⟨fun i _ => i < x.cps.size, fun i H v H' => ∃ T y, v = .ref T ∧ H T = none ∧ H' = upd H T (.tup [.int (i : Nat), y]) ∧ (Sq.S x).at' i = some y, fun i _ => x.cps.size ≤ i⟩
theorem turn_enumS {P : Program} {w : World} {K : PySem.W.Frag} {elts : List Expr} {kk : Nat} {tpos : Pos} {x : Str} {t : Tok} {e it : Addr} (ne : e ≠ it) :
    Turn P w K (.Tuple elts kk tpos) (Ite1 x) [e, it] e (fun i h => (∃ old, IsEnum h e it (i : Nat) old) ∧ h.IsStrIter it (strIterType x) x t i ∧ i ≤ x.cps.size) where
  mem := by simp
  obj := fun i h st c hc => by
    obtain ⟨⟨old, he⟩, h1, _⟩ := st
    have e' : c = e ∨ c = it := by simpa using hc
    rcases e' with q | q
    · rw [q]; exact ⟨_, he, fun v q => nomatch q⟩
    · rw [q]; exact Sq.st_obj (q := .S x) h1
  keep := fun i h h' st k => by
    obtain ⟨⟨old, he⟩, h1, b1⟩ := st
    exact ⟨⟨old, k e (by simp) _ he⟩, Sq.st_at (q := .S x) h1 fun o q => k it (by simp) o q, b1⟩
  item := by
    intro X hP hw hK hc i pins s σ H E I hf st hg
    subst hP hw hK
    obtain ⟨⟨old, he⟩, h1, b1⟩ := st
    have hh : X.A.in1.handled = none := I.ok.hd hc
    have hel : e < s.heap.objs.size := Heap.lt_size he
    have hg : i < x.cps.size := hg
    refine wpAny_pyNext_enum_itemD (Draws.text hh it x t) he h1 hg ne (by simp [ne]) fun u h' tk hu ho hit hT hsz hk => ?_
    obtain ⟨c, tk', e1, rfl⟩ := hu
    refine ⟨_, rfl, wpAny_letOwnedTupleGo_enum (s := { s with heap := h', toks := tk + 1 }) ho fun h'' he' sb => ?_⟩
    have hT2 : h''.get? s.heap.objs.size = some { cls := .type "tuple", data := .seq #[.int (i : Nat) tk, .str ⟨#[c]⟩ tk'] } := (sb.2 _ (Nat.ne_of_gt hel)).trans hT
    have new : ObjOk X.prog X.w (upd H s.heap.objs.size (.tup [.int (i : Nat), .str ⟨#[c]⟩])) h'' s.heap.objs.size (.tup [.int (i : Nat), .str ⟨#[c]⟩]) :=
      ⟨by show 2 ≤ sizeLine; decide, [.int (i : Nat) tk, .str ⟨#[c]⟩ tk'], .cons ⟨tk, rfl⟩ (.cons ⟨tk', rfl⟩ .nil), ⟨_, hT2, rfl, _, rfl⟩⟩
    have I1 : Inv X pins σ (upd H s.heap.objs.size (.tup [.int (i : Nat), .str ⟨#[c]⟩])) { s with heap := h'', toks := tk + 1 } :=
      I.turnedNew (t' := tk + 1) (ch := [e, it]) (fun c o hb q => (sb.2 c (fun q' => hb (by simp [q']))).trans (hk c o (fun q' => hb (by simp [q'])) (fun q' => hb (by simp [q'])) q)) hf (Nat.le_refl _) new
    refine ⟨.ref s.heap.objs.size, _, I1, rfl, ⟨_, .str ⟨#[c]⟩, rfl, I.hok.fresh (Nat.le_refl _), rfl, ?_⟩, ⟨⟨_, he'⟩, ?_, hg⟩, fun b hb => ?_⟩
    · show x.cps[i]?.map _ = _
      rw [e1]; rfl
    · exact Sq.st_at (q := .S x) hit fun o q => (sb.2 _ (fun z => ne z.symm)).trans q
    · have hlt : b < s.heap.objs.size := by
        have e' : b = e ∨ b = it := by simpa using hb
        rcases e' with q | q
        · rw [q]; exact hel
        · rw [q]; obtain ⟨_, e1, _⟩ := Sq.st_obj (q := .S x) h1; exact Heap.lt_size e1
      rw [upd_ne (Nat.ne_of_lt hlt)]
      exact (hf b hb).1
  done := by
    intro X hP hw hK hc i pins s σ H E I hf st hg
    subst hP hw hK
    obtain ⟨⟨old, he⟩, h1, b1⟩ := st
    have hh : X.A.in1.handled = none := I.ok.hd hc
    have hg : x.cps.size ≤ i := hg
    have ei : i = x.cps.size := Nat.le_antisymm b1 hg
    subst ei
    exact wpAny_pyNext_enum_endD (Draws.text hh it x t) he h1 fun h' hx => ⟨rfl, I.turnedL (t' := s.toks) (ch := [e, it]) (fun c o hb q => hx c o (fun q' => hb (by simp [q'])) q) hf⟩
  self := fun A i s Q E st h => wpAny_pyIter_enum st.1.choose_spec h
section
variable {X : Cx} {W : WX} {e : Expr} {p pos tpos : Pos} {elts : List Expr} {kk : Nat} {ta : TA}
def iEnumS (ta : TA) : TI := fun σ H R => ta σ H fun vs H1 => ∃ x, vs = [.str x] ∧ R (Ite1 x) H1
theorem pi_enumS (hg : Gl X "enumerate") (hm : X.mg "enumerate" = none) (ha : PA X [e] ta)
    (hs : starEach [e] X.env = (false, eval e X.env) :: starEach [] X.env := by rfl) (hpl : (backTo pos (starEach [] X.env)).any (·.1) = false := by rfl) :
    PI X (.Tuple elts kk tpos) (.Call (.Name "enumerate" p) [e] [] pos) (iEnumS ta) := by
  refine ⟨fun pins s σ H R I h => ?_⟩
  refine Call_ (ld_blt I hg hm boot_enumerate (PyProof.Rows.callWith_type1 (thn (ha.run pos pins s σ H _ I h) fun us s1 ⟨vs, H1, I1, r1, q1⟩ => ?_) hs hpl))
  obtain ⟨x, ev, q⟩ := q1
  subst ev
  obtain ⟨u, rfl, ru⟩ := vals1 r1
  obtain ⟨t, rfl⟩ := ru
  refine call_enumerate_str fun h' hz e1 hsz hk => wpAny_pyIter_enum hz ?_
  have I2 : Inv X pins σ H1 { s1 with heap := h' } := I1.kept (t' := s1.toks) hk
  refine ⟨s1.heap.objs.size + 1, [s1.heap.objs.size + 1, s1.heap.objs.size], _, _, H1, rfl, I2,
    turn_enumS (t := t) (x := x) (Nat.ne_of_gt (Nat.lt_succ_self _)), ⟨⟨_, hz⟩, e1, Nat.zero_le _⟩, fun c hcm => ?_, q⟩
  have e' : c = s1.heap.objs.size + 1 ∨ c = s1.heap.objs.size := by simpa using hcm
  have hle : s1.heap.objs.size ≤ c := by
    rcases e' with z | z
    · rw [z]; exact Nat.le_add_right _ _
    · rw [z]; exact Nat.le_refl _
  exact I1.fpOk hle (I1.hok.fresh hle)
variable {ds : DA} {da : DE}
def enuD (ds : List D) : List D := ds.mapIdx fun i d => .tup [.int (i : Nat), d]
def dEnumS (ds : DA) : DI := fun env st => (ds env st).bind fun xs st1 => match xs with
  | [.str x] => .ok (enuD (signs x), yes) st1
  | _ => .bad
theorem pid_enumS (hg : Gl X "enumerate") (hm : X.mg "enumerate" = none) (ha : PAd X W [e] ds)
    (hs : starEach [e] X.env = (false, eval e X.env) :: starEach [] X.env := by rfl) (hpl : (backTo pos (starEach [] X.env)).any (·.1) = false := by rfl) :
    PId X W (.Tuple elts kk tpos) (.Call (.Name "enumerate" p) [e] [] pos) (dEnumS ds) :=
  PI.mono (pi_enumS hg hm ha hs hpl) fun σ H R ⟨ρ, ι, st, env, S, ve, p⟩ => ⟨ρ, ι, st, env, S, ve, Post.bind p fun xs st1 ι1 H1 vs s1 S1 rx p1 => by
    split at p1
    · rename_i x
      obtain ⟨v, rfl, h1⟩ := vr1 rx
      cases h1
      have ln : (enuD (signs x)).length = x.cps.size := by simp [enuD, signs]
      refine ⟨x, rfl, p1.ok S1 ⟨?_, rfl⟩⟩
      refine ⟨fun ρ' i ι' H' st' f s S k hi => ?_, fun ρ' i d ι' H' st' v H'' f s S k hd hy => ?_, fun ρ' i ι' H' st' f s S k hi => ?_⟩
      · show i < x.cps.size
        rw [← ln]; exact hi
      · obtain ⟨T, a, rfl, hT, rfl, ha⟩ := hy
        unfold enuD at hd
        rw [List.getElem?_mapIdx] at hd
        obtain ⟨d', e1, rfl⟩ := Option.map_eq_some_iff.mp hd
        unfold signs at e1
        rw [List.getElem?_map, Array.getElem?_toList] at e1
        obtain ⟨c, e2, rfl⟩ := Option.map_eq_some_iff.mp e1
        have ea : a = .str ⟨#[c]⟩ := by
          have : x.cps[i]?.map (fun c => V.str ⟨#[c]⟩) = some a := ha
          rw [e2] at this
          exact (Option.some.inj this).symm
        subst ea
        have sn : Step ι' H' ι' (upd H' T (.tup [.int (i : Nat), .str ⟨#[c]⟩])) := Step.new S hT
        exact ⟨sn, S.new hT, T, _, rfl, .inl ⟨.inl upd_same, S.fresh hT, S.fr hT⟩, ⟨_, _, rfl, rfl, _, _, rfl, rfl, rfl⟩⟩
      · show x.cps.size ≤ i
        rw [← ln]; exact hi
    · exact p1.elim⟩
end
end DD

set_option maxHeartbeats 400000
/-! DD44: a dict of one pair, in the store; list.pop(i), list.reverse; max and min of two. -/
namespace DD
open PySem L2 PyProof.Rows
theorem vv_one {y x : V} {ws : List (Value × Value)} (r : VV [(y, x)] ws) : ∃ ky vx, ws = [(ky, vx)] ∧ RelV y ky ∧ RelV x vx := by
  cases r with
  | cons h t =>
    rename_i bb _
    cases t
    exact ⟨bb.1, bb.2, rfl, h.1, h.2⟩
section
variable {X : Cx} {k v : Expr} {pos : Pos} {tk tv : TE}
/-- {k: v}, k a tuple -/
def tDisp1 (P : Program) (w : World) (K : PySem.W.Frag) (tk tv : TE) : TE := fun σ H Q => ∀ q, H q = none → tk σ (upd H q (.dK [])) fun y H1 => tv σ H1 fun x H2 => H2 q = some (.dK []) ∧ ∃ b nk, y = .ref b ∧ nk.depth ≤ 8 ∧ KIs P w K H2 y nk ∧ Q (.ref q) (upd H2 q (.ext (DkO w q [nk] [b] [x])))
theorem pe_disp1 (hu : X.A.units + 16 < cLine) (hk : PE X k tk) (hv : PE X v tv) : PE X (.Dict [some k] [v] pos) (tDisp1 X.prog X.w X.K tk tv) := by
  refine ⟨fun pins s σ H Q I h => ?_⟩
  have hn : H s.heap.objs.size = none := I.hok.fresh (Nat.le_refl _)
  have I1 := I.laid (h' := s.heap.push { cls := Value.type "dict", data := Data.dict #[] }) (a := s.heap.objs.size) (t' := s.toks) (o := .dK []) (fun _ _ q => Heap.get?_push_of_some _ q) (Nat.le_refl _) (dk_empty s.heap I.big)
  have pp : PPs X pos [some k] [v] [(tk, tv)] := pps_cons hk hv pps_nil
  have room : (nestedKind X.prog X.w).room X.A := by show X.A.units + 8 < cLine; omega
  rw [arm_eval_Dict, zip_pairTrees [some k] [v] X.env pos rfl rfl, dictDisplay_pairs _ (by simp [pairTrees]) (by simp [pairTrees])]
  refine wpAny_bind (wpAny_standAt (wpAny_bind (wpAny_subDictH (knd := nestedKind X.prog X.w) room (by simp [pairTrees]) (thn (pp.run pins _ σ _ (fun ps H2 => match ps with
    | [(y, x)] => H2 s.heap.objs.size = some (.dK []) ∧ ∃ b nk, y = .ref b ∧ nk.depth ≤ 8 ∧ KIs X.prog X.w X.K H2 y nk ∧ Q (.ref s.heap.objs.size) (upd H2 s.heap.objs.size (.ext (DkO X.w s.heap.objs.size [nk] [b] [x])))
    | _ => False) I1 (h _ hn)) fun ws s2 ⟨ps, H2, I2, rel, q0⟩ => ?_))))
  match ps, q0, rel with
  | [(y, x)], q0, rel =>
    obtain ⟨e, b, nk, ey, hd, ki, q⟩ := q0
    subst ey
    obtain ⟨ky, vx, ews, ra, rb⟩ := vv_one rel
    subst ews
    cases ra
    obtain ⟨us, g1, g2, g3, g4, g5, g6, g7, dd⟩ := DkH.raw (P := X.prog) (w := X.w) (K := X.K) (nks := []) (bs := []) (xs := []) (.inr ⟨e, rfl, rfl, rfl⟩) I2.hok I2.kIn
    have is : (nestedKind X.prog X.w).is s2.heap nk b := ⟨ki _ _ I2.hok I2.kIn rfl, hd⟩
    refine ⟨[(nk, b, vx)], ?_, dd, fun h' tk' dd' hs => wpAny_pure ⟨.ref s.heap.objs.size, _, ?_, rfl, q⟩⟩
    · exact ⟨rfl, rfl, is, trivial⟩
    obtain ⟨o, es, ep, g, ex, ed, el, _, nd⟩ := dd'
    refine d_write I2 (by rw [e]; exact True.intro) hs ⟨o, g⟩ ?_
    refine ⟨⟨g4, (by show 1 ≤ sizeLine; decide), by simp, fun k' hk' => ?_, rfl, [vx], .cons rb .nil, rfl, o, es, ep, g, ex, ed, el⟩, ⟨o, g⟩, fun h1 h2 p st => ?_⟩
    · have : k' = nk := by simpa using hk'
      rw [this]; exact hd
    · obtain ⟨p1, p2, p3, p4, p5, us', p6, p7, o', es', ep', g', ex', ed', el'⟩ := p
      exact ⟨p1, p2, p3, p4, p5, us', p6, p7, o', es', ep', st o' g', ex', ed', el'⟩
end
end DD

set_option maxHeartbeats 400000
/-! DD45: a dict of one pair by data; list.pop(i), list.reverse; max and min of two. -/
namespace DD
open PySem L2 PyProof.Rows
variable [NMs]
/-! ### max, min -/
def rMax2 : List V → Hp → VK → Prop := fun xs H Q => ∃ i j, xs = [.int i, .int j] ∧ Q (.int (if j > i then j else i)) H
def rMin2 : List V → Hp → VK → Prop := fun xs H Q => ∃ i j, xs = [.int i, .int j] ∧ Q (.int (if j < i then j else i)) H
def fMax2 : FC := fun xs st => match xs with
  | [.int i, .int j] => .ok (.int (max i j)) st
  | _ => .bad
def fMin2 : FC := fun xs st => match xs with
  | [.int i, .int j] => .ok (.int (min i j)) st
  | _ => .bad
theorem rc_max2 {K : PySem.W.Frag} {mg : Str → Option Value} : RC K mg rMax2 fMax2 := by
  intro ρ ι H st xs vs W σ Q S r p
  unfold fMax2 at p
  split at p
  · rename_i i j
    obtain ⟨v, w, rfl, h1, h2⟩ := vr2 r
    cases h1
    cases h2
    refine ⟨i, j, rfl, ?_⟩
    have : (if j > i then j else i) = max i j := by omega
    rw [this]
    exact p.ok S rfl
  · exact p.elim
theorem rc_min2 {K : PySem.W.Frag} {mg : Str → Option Value} : RC K mg rMin2 fMin2 := by
  intro ρ ι H st xs vs W σ Q S r p
  unfold fMin2 at p
  split at p
  · rename_i i j
    obtain ⟨v, w, rfl, h1, h2⟩ := vr2 r
    cases h1
    cases h2
    refine ⟨i, j, rfl, ?_⟩
    have : (if j < i then j else i) = min i j := by omega
    rw [this]
    exact p.ok S rfl
  · exact p.elim
/-! ### pop, reverse -/
theorem VRs.eraseIdx {B : Bs} {H : Hp} {ι : List Addr} : ∀ {ds : List D} {vs : List V} (n : Nat), VRs B H ι ds vs → VRs B H ι (ds.eraseIdx n) (vs.eraseIdx n)
  | [], _, _, h => by cases h; rfl
  | _ :: _, _, 0, ⟨x, r, e, h, t⟩ => by subst e; exact t
  | _ :: _, _, n + 1, ⟨x, r, e, h, t⟩ => by subst e; exact ⟨x, r.eraseIdx n, rfl, h, VRs.eraseIdx n t⟩
theorem VRs.reverse {B : Bs} {H : Hp} {ι : List Addr} : ∀ {ds : List D} {vs : List V}, VRs B H ι ds vs → VRs B H ι ds.reverse vs.reverse
  | [], _, h => by cases h; rfl
  | _ :: _, _, ⟨x, r, e, h, t⟩ => by
    subst e
    rw [List.reverse_cons, List.reverse_cons]
    exact (VRs.reverse t).append (VRs.one h)
section
variable {X : Cx}
def fPopAt : FM := fun x xs st => match x, xs with
  | .ref n, [.int i] => match st[n]? with
    | some (.lst ds) => if 0 ≤ i ∧ ds.length ≤ bigLine then (match ds[i.toNat]? with
      | some y => .ok y (st.set n (.lst (ds.eraseIdx i.toNat)))
      | none => .bad) else .bad
    | _ => .bad
  | _, _ => .bad
theorem rm_popAt : RM X.K X.mg "list" rPopAt fPopAt isLst := ⟨fun S r h => isLst_ty S r h, fun {ρ ι H st x v xs vs W σ} {Q} S r rs p => by
  unfold fPopAt at p
  split at p
  · rename_i n i
    obtain ⟨a, ha, rfl⟩ := r
    obtain ⟨w, rfl, hw⟩ := vr1 rs
    cases hw
    split at p
    · rename_i ds e
      obtain ⟨ys, h1, r1⟩ := S.look e ha
      split at p
      · rename_i hl
        split at p
        · rename_i y ey
          obtain ⟨u, eu, ru⟩ := r1.get ey
          have hlt : i.toNat < ds.length := (List.getElem?_eq_some_iff.mp ey).1
          have lb : ds.length ≤ 16777216 := big_le hl.2
          have s := Step.write ha (H := H) (o := .lst (ys.eraseIdx i.toNat))
          refine ⟨a, ys, i, i.toNat, u, rfl, rfl, h1, by omega, by omega, ?_, eu, p.ok' s (S.write ha ⟨_, upd_same, (r1.eraseIdx _).step s⟩) (ru.step s)⟩
          unfold seqIndex?
          have l := r1.length
          have c1 : ¬ i < 0 := by omega
          simp only [c1, if_false]
          have c2 : (decide (0 ≤ i) && decide (i < (ys.length : Int))) = true := by
            simp only [Bool.and_eq_true, decide_eq_true_eq]
            omega
          rw [if_pos c2]
        · exact p.elim
      · exact p.elim
    · exact p.elim
  · exact p.elim⟩
def fReverse : FM := fun x xs st => match x, xs with
  | .ref n, [] => match st[n]? with
    | some (.lst ds) => .ok .non (st.set n (.lst ds.reverse))
    | _ => .bad
  | _, _ => .bad
theorem rm_reverse : RM X.K X.mg "list" rReverse fReverse isLst := ⟨fun S r h => isLst_ty S r h, fun {ρ ι H st x v xs vs W σ} {Q} S r rs p => by
  unfold fReverse at p
  split at p
  · rename_i n
    obtain ⟨a, ha, rfl⟩ := r
    cases rs
    split at p
    · rename_i ds e
      obtain ⟨ys, h1, r1⟩ := S.look e ha
      have s := Step.write ha (H := H) (o := .lst ys.reverse)
      exact ⟨a, ys, rfl, rfl, h1, p.ok' s (S.write ha ⟨_, upd_same, r1.reverse.step s⟩) rfl⟩
    · exact p.elim
  · exact p.elim⟩
end
/-! ### a dict of one pair, in the store -/
theorem Sim.takeO {B : Bs} {H : Hp} {ι : List Addr} {st : Sto} {p : Addr} {ob : O} (S : Sim (B.more p) H ι st) (hb : p ∉ B.ρ) (hq : OR B H (ι ++ [p]) p ob) : Sim B H (ι ++ [p]) (st ++ [ob]) := by
  have h : p ∉ ι := (S.rs p List.mem_cons_self).2
  refine ⟨by simp [S.len], ?_, fun n ob' e => ?_, fun b hb' => ⟨(S.rs b (List.mem_cons_of_mem _ hb')).1, fun z => ?_⟩, S.tab, fun b hb' => S.rp b (List.mem_cons_of_mem _ hb')⟩
  rotate_left 2
  · rcases List.mem_append.mp z with z | z
    · exact (S.rs b (List.mem_cons_of_mem _ hb')).2 z
    · have : b = p := by simpa using z
      subst this; exact hb hb'
  · rw [List.nodup_append]
    refine ⟨S.nd, by simp, fun x hx y hy => ?_⟩
    have : y = p := by simpa using hy
    subst this
    rintro rfl
    exact h hx
  · by_cases hn : n < st.length
    · rw [List.getElem?_append_left hn] at e
      obtain ⟨b, hb, q⟩ := S.ob n ob' e
      exact ⟨b, by rw [List.getElem?_append_left (List.getElem?_eq_some_iff.mp hb).1]; exact hb, OR.stays2 (B := B.more p) (B' := B) rfl (fun _ _ r => r.less.2) q⟩
    · have hn' : n = st.length := by
        have := (List.getElem?_eq_some_iff.mp e).1
        simp at this
        omega
      subst hn'
      rw [List.getElem?_append_right (by omega)] at e
      simp at e
      subst e
      exact ⟨p, by rw [← S.len, List.getElem?_append_right (by omega)]; simp, hq⟩
theorem Step.push {H H' : Hp} {ι ι' : List Addr} {p : Addr} (s : Step ι H ι' H') (n : H p = none) (m : p ∉ ι) : Step ι H (ι' ++ [p]) H' := by
  obtain ⟨more, e, f⟩ := s.pre
  refine ⟨⟨more ++ [p], by rw [e, List.append_assoc], fun a ha => ?_⟩, s.rest0⟩
  rcases List.mem_append.mp ha with z | z
  · exact f a z
  · have : a = p := by simpa using z
    subst this
    exact ⟨noH n, m⟩
def dDisp1T (dk dv : DE) : DE := fun env st => match dk env st with
  | .ok k st1 => match dv env st1 with
    | .ok v st2 => match tupK k with
      | some nk => if nk.depth ≤ 8 then .ok (.ref st2.length) (st2 ++ [.dkt [k] [v]]) else .bad
      | none => .bad
    | _ => .bad
  | _ => .bad
theorem pd_disp1T {X : Cx} {W : WX} {k v : Expr} {pos : Pos} {dk dv : DE} (hw : NMs.w = some X.w) (hu : X.A.units + 16 < cLine) (hk : PEd X W0 k dk) (hv : PEd X W0 v dv) : PEd X W (.Dict [some k] [v] pos) (dDisp1T dk dv) :=
  PE.mono (pe_disp1 hu hk hv) fun σ H Q ⟨ρ, ι, st, env, S, ve, p⟩ => fun q hq => by
    have S0 : Sim ⟨X.K, X.mg, q :: ρ⟩ (upd H q (.dK [])) ι st := S.reserve hq
    have ve0 : VEnv ⟨X.K, X.mg, q :: ρ⟩ (upd H q (.dK [])) ι env σ := VEnv.step (Step.new S hq) (VEnv.more (B := ⟨X.K, X.mg, ρ⟩) ve hq)
    unfold dDisp1T at p
    refine ⟨q :: ρ, ι, st, env, S0, ve0, ?_⟩
    cases e1 : dk env st with
    | bad => rw [e1] at p; exact p.elim
    | exc x st1 => rw [e1] at p; exact p.elim
    | ok kd st1 =>
      rw [e1] at p
      intro ι1 H1 x s1 S1 rx
      refine ⟨q :: ρ, ι1, st1, env, S1, ve0.step s1, ?_⟩
      simp only [] at p
      cases e2 : dv env st1 with
      | bad => rw [e2] at p; exact p.elim
      | exc x st1 => rw [e2] at p; exact p.elim
      | ok vd st2 =>
        rw [e2] at p
        intro ι2 H2 y s2 S2 ry
        simp only [] at p
        cases e3 : tupK kd with
        | none => rw [e3] at p; exact p.elim
        | some nk =>
          rw [e3] at p
          simp only [] at p
          by_cases hd : nk.depth ≤ 8
          case neg => rw [if_neg hd] at p; exact p.elim
          rw [if_pos hd] at p
          have m1 : q ∉ ι1 := (S1.rs q List.mem_cons_self).2
          have m0 : q ∉ ι := (S0.rs q List.mem_cons_self).2
          have h2 : H2 q = some (.dK []) := s2.rest _ _ m1 (s1.rest _ _ m0 upd_same)
          have S2' : Sim ((⟨X.K, X.mg, ρ⟩ : Bs).more q) H2 ι2 st2 := S2
          have rx2 : VR ((⟨X.K, X.mg, ρ⟩ : Bs).more q) H2 ι2 kd x := VR.step s2 rx
          have ry' : VR ((⟨X.K, X.mg, ρ⟩ : Bs).more q) H2 ι2 vd y := ry
          obtain ⟨⟨b, eb⟩, ki⟩ := tupK_of (P := X.prog) (w := X.w) rx2 e3
          subst eb
          have S3 : Sim ⟨X.K, X.mg, ρ⟩ H2 (ι2 ++ [q]) (st2 ++ [.dct [] []]) := S2'.takeO (S.fr hq) ⟨[], [], h2, rfl, rfl, rfl⟩
          have ha : (ι2 ++ [q])[st2.length]? = some q := by rw [← S2.len, List.getElem?_append_right (Nat.le_refl _)]; simp
          have sw : Step (ι2 ++ [q]) H2 (ι2 ++ [q]) (upd H2 q (.ext (DkO X.w q [nk] [b] [y]))) := Step.write ha
          have eki : nkDs [kd] = some [nk] := by
            have : nkD kd = some nk := by cases kd <;> first | exact e3 | cases e3
            simp [nkDs, this]
          have S4 := S3.write (o := .ext (DkO X.w q [nk] [b] [y])) (ob := .dkt [kd] [vd]) ha ⟨X.w, [nk], [b], [y], hw, eki, upd_same, VRs.one (VR.step sw rx2.less.2), VRs.one (VR.step sw ry'.less.2)⟩
          have es : (st2 ++ [O.dct [] []]).set st2.length (.dkt [kd] [vd]) = st2 ++ [.dkt [kd] [vd]] := by
            rw [List.set_append_right _ _ (Nat.le_refl _)]
            simp
          rw [es] at S4
          refine ⟨h2, b, nk, rfl, hd, ki, p (ι2 ++ [q]) _ (.ref q) ?_ S4 ⟨q, ha, rfl⟩⟩
          exact (Step.push (((Step.new S hq).trans s1).trans s2) hq m0).trans sw
end DD

/-! DD46: the end, with tables and the world. -/
namespace DD
open PySem L2 PyProof.Rows LamX NdefX
theorem walk_ofDTw {l : PySem.W.OpenLaw} {k : Nat} {q : Program} {loose : List Str} {XP : (Str → Option Value) → Heap → Prop} {YP : World → Heap → Prop} {d : DefRec} {K : Params → PySem.W.Frag} (nmi : World → NMs) (nm : List (Str × Str))
    (hnd : ∀ w K, (nmi w).T K = tabsOf K nm) (hn : l.most = some 63) (hdf : d.params.defaults = []) (hr : Room k callerA) (hrec : (nm.all fun p => (recsOf q).any fun e => e.name == p.1) = true)
    (hY : ∀ (w : World) (h : Heap), YP w h → (K w.params).In h)
    (F : ∀ (w : World) (mg : Str → Option Value) (fa : Addr) (h : Heap), (K w.params).In h → h.Ns mainGlobals mg → mg d.name = some (.ref fa) →
      (∀ p ∈ nm, ∀ c P, PySem.W.tabIn (K w.params) p.1 = some (c, P) → (K w.params).lookup P = none) ∧ ∃ fd : FuncData, (∀ (s : Shared) (u : Value), BindsTo s fd ⟨[u], []⟩ [("script", u)]) ∧
        ∀ base : Heap, (K w.params).In base → base.Ns mainGlobals mg → (∀ p ∈ nm, ∀ c P, PySem.W.tabIn (K w.params) p.1 = some (c, P) → TabB base mg c P) → FnOk l.prog w (K w.params) mg base (L2.CX l.prog w) k fa fd ["script"] (@spLaw (nmi w) (K w.params))) :
    PySem.W.WalkO q loose XP YP l.row.toRowW d [] (fun f vs => PySem.call f vs) := by
  refine Att.attach_callB hn hdf fun w s₀ s₁ mg mb fa o pm cd doc a vs ns G Y ho hd hcd hmg hobj hints hlen hbits hg => ?_
  letI := nmi w
  have KX := hY w _ Y
  obtain ⟨nT, fd, hb, hF⟩ := F w mg fa _ KX G.T.g hmg
  have tabs : ∀ p ∈ nm, ∀ c P, PySem.W.tabIn (K w.params) p.1 = some (c, P) → PySem.W.CodeHd s₁.heap c P ∧ s₁.heap.get? P = some (PySem.W.tabObj #[]) := fun p hp c P e => by
    have h1 := List.all_eq_true.mp hrec p hp
    cases e2 : (recsOf q).find? (fun e => e.name == p.1) with
    | none =>
      obtain ⟨r, hr1, hr2⟩ := List.any_eq_true.mp h1
      exact absurd hr2 (by simpa using List.find?_eq_none.mp e2 r hr1)
    | some dr => exact PySem.W.tab_of G.T KX e2 e
  obtain ⟨cs, ecs⟩ : ∃ cs : List (Addr × Addr), cs = nm.filterMap fun p => PySem.W.tabIn (K w.params) p.1 := ⟨_, rfl⟩
  have mem : ∀ p, p ∈ cs → ∃ x ∈ nm, PySem.W.tabIn (K w.params) x.1 = some p := fun p hp => by
    rw [ecs, List.mem_filterMap] at hp
    exact hp
  have mem2 : ∀ x ∈ nm, ∀ c P, PySem.W.tabIn (K w.params) x.1 = some (c, P) → (c, P) ∈ cs := fun x hx c P e => by
    rw [ecs, List.mem_filterMap]
    exact ⟨x, hx, e⟩
  refine law_callTs (cs := cs) KX G.T.g G.T.b G.T.builtins G.T.nolimit hg (fun p hp => ?_) (fun p hp => ?_) (fun p hp => ?_) G.T.bmain hobj hints (Nat.le_trans hlen (by decide)) hr (fun base kb nb tb => hF base kb nb fun x hx c P e => tb _ (mem2 x hx c P e)) hb (fun H hH hS => ?_) (fun H e s' => noExc)
  · obtain ⟨x, hx, e⟩ := mem p hp
    exact (tabs x hx p.1 p.2 e).2
  · obtain ⟨x, hx, e⟩ := mem p hp
    exact nT x hx p.1 p.2 e
  · obtain ⟨x, hx, e⟩ := mem p hp
    exact (tabs x hx p.1 p.2 e).1
  · refine ⟨a, ns, rfl, hS, hlen, ?_, fun _ => rfl⟩
    unfold Tb0
    rw [show NMs.T (K w.params) = tabsOf (K w.params) nm from hnd w _]
    intro p hp
    obtain ⟨x, hx, c, e, eq⟩ := tabsOf_mem hp
    exact TabS.nil (hH _ (mem2 x hx c _ e))
end DD

set_option maxHeartbeats 400000
/-! DD47: small things for the generator. -/
namespace DD
open PySem L2 PyProof.Rows
theorem units80 {k : Nat} {A : Around} (hr : Room k A) : A.units + 80 < cLine := by have := hr.un; omega
theorem units16 {k : Nat} {A : Around} (hr : Room k A) : A.units + 16 < cLine := by have := hr.un; omega
def kwArg (i : Nat) : Expr → Expr
  | .Call f as ks p => match ks[i]? with
    | some k => k.value
    | none => .Call f as ks p
  | e => e
#check @PySem.F.slot_list_pop
#check @PySem.F.type_list_pop
#check @PySem.F.slot_list_reverse
#check @PySem.F.type_list_reverse
end DD

/-! DD48: a, b, .. = a list. -/
namespace LstU
open PySem PyProof.Rows
section
variable {prog : Program} {w : World} {A : Around} {E : Value → Shared → Prop} {s : Shared}
theorem draw_list {it t : Addr} {items : Array Value} (hne : t ≠ it) : ∀ (n i : Nat) (s : Shared) (Q : List Value → Shared → Prop), s.heap.IsListIter it t i → s.heap.IsList t items → i + n ≤ items.size →
    (∀ h', h'.IsListIter it t (i + n) → Heap.SameBut it s.heap h' → Q ((items.toList.drop i).take n) { s with heap := h' }) → wpAny (model prog w) A (draw (.ref it) n) Q E s
  | 0, i, s, Q, hit, _, _, hQ => by
    show wpAny _ _ (pure []) Q E s
    exact wpAny_pure (by simpa using hQ s.heap hit (Heap.SameBut.refl ..))
  | n + 1, i, s, Q, hit, ht, hle, hQ => by
    have hlt : i < items.size := by omega
    show wpAny _ _ (pyNext (.ref it) >>= _) Q E s
    refine wpAny_bind (wpAny_pyNext_list_item hit ht (x := items[i]) (by simp [hlt]) fun h₁ hit₁ hs₁ => ?_)
    refine wpAny_bind (wpAny_holding (draw_list hne n (i + 1) _ _ hit₁ (ht.extBut hs₁.extBut hne) (by omega) fun h₂ hit₂ hs₂ => wpAny_pure ?_))
    have hd : items.toList.drop i = items[i] :: items.toList.drop (i + 1) := by simp [List.drop_eq_getElem_cons, hlt]
    have := hQ h₂ (by rw [show i + (n + 1) = i + 1 + n by omega]; exact hit₂) (hs₁.trans hs₂)
    rw [hd, List.take_succ_cons] at this
    exact this
theorem unpackItems_list {t : Addr} {items : Array Value} {Q : List Value → Shared → Prop} (hh : A.handled = none) (ht : s.heap.IsList t items)
    (hQ : ∀ h', Heap.ExtBut s.heap.objs.size s.heap h' → Q items.toList { s with heap := h' }) : wpAny (model prog w) A (unpackItems (.ref t) items.size none) Q E s := by
  have hlt : t ≠ s.heap.objs.size := by obtain ⟨o, ho, _⟩ := ht; exact Nat.ne_of_lt (Heap.lt_size ho)
  unfold unpackItems
  refine wpAny_bind ?_
  · unfold notIterableAtAll
    refine wpAny_bind (wpAny_specialOf ht.typeIs slot_list_iter.lookup ?_)
    refine wpAny_pure ?_
    simp only [Bool.false_eq_true, if_false]
    refine wpAny_bind (wpAny_holding (wpAny_pyIter_list ht ?_))
    refine wpAny_bind (wpAny_holding (draw_list hlt items.size 0 _ _ ⟨_, Heap.get?_push_size _ rfl, rfl, rfl⟩ (ht.push _) (by omega) fun h₁ hit₁ hs₁ => ?_))
    have hall : List.take items.size (List.drop 0 items.toList) = items.toList := by
      rw [List.drop_zero]; exact List.take_of_length_le (by simp)
    rw [hall]
    rw [if_neg (by simp)]
    have ht₁ : h₁.IsList t items := (ht.push _).extBut hs₁.extBut hlt
    refine wpAny_bind (wpAny_holding (wpAny_pyNext_list_end hh hit₁ ht₁ (by simp) fun h₂ he₂ => ?_))
    simp only [Option.isSome_none, Bool.false_eq_true, if_false]
    refine wpAny_pure (hQ h₂ fun b o hb e => he₂ b o hb (hs₁.extBut b o hb (Heap.get?_push_of_some _ e)))
theorem unpack_list {t : Addr} {items : Array Value} {targets : List (Bool × (Value → Sem Unit))} {Q : Unit → Shared → Prop} (hh : A.handled = none) (ht : s.heap.IsList t items)
    (hn : targets.length = items.size) (hstar : targets.findIdx? (·.1) = none)
    (h : ∀ h', Heap.ExtBut s.heap.objs.size s.heap h' → wpAny (model prog w) A (assignInOrder (targets.map (·.2)) items.toList) Q E { s with heap := h' }) :
    wpAny (model prog w) A (unpack (.ref t) targets) Q E s := by
  unfold unpack
  rw [hn, hstar]
  exact wpAny_bind (wpAny_holding (unpackItems_list hh ht h))
theorem assign_Tuple_list {env : Env} {elts : List Expr} {x1} {pos : Pos} {t : Addr} {items : Array Value} {Q : Unit → Shared → Prop} (hh : A.handled = none) (ht : s.heap.IsList t items)
    (hn : (assignEach elts env).length = items.size) (hstar : (assignEach elts env).findIdx? (·.1) = none)
    (h : ∀ h', Heap.ExtBut s.heap.objs.size s.heap h' → wpAny (model prog w) A (assignInOrder ((assignEach elts env).map (·.2)) items.toList) Q E { s with heap := h' }) :
    wpAny (model prog w) A (assign (.Tuple elts x1 pos) env (.ref t)) Q E s := by
  rw [assign_Tuple]
  exact wpAny_bind (wpAny_standAt (unpack_list hh ht hn hstar h))
end
end LstU
namespace DD
open PySem L2 PyProof.Rows
def gSeq (K : PySem.W.Frag) (n : Nat) (t : TGs) : TG := fun v σ H Q => ∃ a xs, v = .ref a ∧ (SqT K H a xs ∨ SqL K H a xs) ∧ xs.length = n ∧ t xs σ H Q
theorem pg_seq {X : Cx} {es : List Expr} {k : Nat} {pos : Pos} {t : TGs} {n : Nat} (hc : X.calm = true) (h : PGs X es t)
    (hn : (assignEach es X.env).length = n := by rfl) (hst : (assignEach es X.env).findIdx? (·.1) = none := by rfl) : PG X (.Tuple es k pos) (gSeq X.K n t) := by
  refine ⟨fun pins s σ H v u Q I r hw => ?_⟩
  obtain ⟨a, xs, e1, hq, hl, hw⟩ := hw
  subst e1
  cases r
  rcases hq with hq | hq
  · obtain ⟨its, rv, ht, hz⟩ := I.tuple hq
    refine assign_Tuple_tuple (I.ok.hd hc) ht (by simp [hn, ← hl, rv.length]) hst fun h' hx => ?_
    have I1 : Inv X pins σ H { s with heap := h' } := I.kept (t' := s.toks) fun b o e => hx b o (Nat.ne_of_lt (Heap.lt_size e)) e
    exact h.run pins _ σ H xs _ Q I1 (by simpa using rv) hw
  · obtain ⟨its, rv, ht, hz⟩ := I.list hq
    refine LstU.assign_Tuple_list (I.ok.hd hc) ht.isList (by simp [hn, ← hl, rv.length]) hst fun h' hx => ?_
    have I1 : Inv X pins σ H { s with heap := h' } := I.kept (t' := s.toks) fun b o e => hx b o (Nat.ne_of_lt (Heap.lt_size e)) e
    exact h.run pins _ σ H xs _ Q I1 (by simpa using rv) hw
variable [NMs]
def gdSeq (n : Nat) (gs : DGs) : DG := fun x env => match x with
  | .tup ds => if ds.length = n then gs ds env else none
  | .fz ds => if ds.length = n then gs ds env else none
  | .sc ds => if ds.length = n then gs ds env else none
  | _ => none
@[simp] theorem gdSeq_tup {n : Nat} {gs : DGs} {ds : List D} {env : Env} : gdSeq n gs (.tup ds) env = if ds.length = n then gs ds env else none := rfl
@[simp] theorem gdSeq_fz {n : Nat} {gs : DGs} {ds : List D} {env : Env} : gdSeq n gs (.fz ds) env = if ds.length = n then gs ds env else none := rfl
@[simp] theorem gdSeq_sc {n : Nat} {gs : DGs} {ds : List D} {env : Env} : gdSeq n gs (.sc ds) env = if ds.length = n then gs ds env else none := rfl
theorem gs_seq {K mg} {gs : DGs} {Gs : TGs} {ix : List Nat} (n : Nat) (h : GSs K mg Gs ix gs) : GS K mg (gSeq K n Gs) ix (gdSeq n gs) := fun {ρ ι H st env σ x v env'} {Q} S ve r e kk => by
  cases x <;> (try (cases e))
  · rename_i ds
    obtain ⟨a, xs, rfl, h1, r1⟩ := r
    have e : (if ds.length = n then gs ds env else none) = some env' := e
    by_cases hl : ds.length = n
    · rw [if_pos hl] at e
      exact ⟨a, xs, rfl, .inl h1.sq, by rw [← r1.length, hl], h S ve r1 e kk⟩
    · rw [if_neg hl] at e; cases e
  · rename_i ds
    obtain ⟨a, xs, rfl, h1, n1, r1⟩ := r
    have e : (if ds.length = n then gs ds env else none) = some env' := e
    by_cases hl : ds.length = n
    · rw [if_pos hl] at e
      exact ⟨a, xs, rfl, .inr (SqL.of h1), by rw [← r1.length, hl], h S ve r1 e kk⟩
    · rw [if_neg hl] at e; cases e
  · rename_i ds
    obtain ⟨a, xs, rfl, h1, r1⟩ := r
    have e : (if ds.length = n then gs ds env else none) = some env' := e
    by_cases hl : ds.length = n
    · rw [if_pos hl] at e
      exact ⟨a, xs, rfl, .inr h1.sq, by rw [← r1.length, hl], h S ve r1 e kk⟩
    · rw [if_neg hl] at e; cases e
end DD

/-! DD49: in, for data of any depth; == of the same data. -/
namespace DD
open PySem L2 PyProof.Rows
theorem units65 {k : Nat} {A : Around} (hr : Room k A) : A.units + 65 < cLine := by have := hr.un; omega
variable [NMs]
def fInX (neg : Bool) : F2 := fun x y st => match toPy st x, toPy st y with
  | some d, some (.list ds) => if SeqAt.shaped d = true ∧ SeqAt.shaped (.list ds) = true then .ok (.bl (if neg then !(ds.any fun z => PyData.eqv z d) else ds.any fun z => PyData.eqv z d)) st else .bad
  | _, _ => .bad
theorem rd_inX {K : PySem.W.Frag} {mg : Str → Option Value} : RD K mg (rInD K) (fInX false) := by
  intro ρ ι H st x y v u W σ Q S rx ry p
  unfold fInX at p
  split at p
  · rename_i d ds e1 e2
    split at p
    · rename_i h
      exact ⟨d, ds, dp S rx e1, dp S ry e2, h.1, h.2, p.ok S rfl⟩
    · exact p.elim
  · exact p.elim
theorem rd_notInX {K : PySem.W.Frag} {mg : Str → Option Value} : RD K mg (rNotInD K) (fInX true) := by
  intro ρ ι H st x y v u W σ Q S rx ry p
  unfold fInX at p
  split at p
  · rename_i d ds e1 e2
    split at p
    · rename_i h
      exact ⟨d, ds, dp S rx e1, dp S ry e2, h.1, h.2, p.ok S rfl⟩
    · exact p.elim
  · exact p.elim
theorem shaped_canLay {p : PyData} (h : SeqAt.shaped p = true) : p.canLay0 = true := SeqAt.canLay_of_shaped h
theorem fEq_same {neg : Bool} {d e : D} {st : Sto} {p : PyData} (h1 : toPy st d = some p) (h2 : toPy st e = some p) (hs : SeqAt.shaped p = true) : fEq neg d e st = .ok (.bl (!neg)) st := by
  have r := PySem.SeqAt.eqv_refl p (shaped_canLay hs)
  simp only [fEq, h1, h2, hs, and_self, if_true, r]
  cases neg <;> rfl
theorem fInX_mem {neg : Bool} {x y : D} {st : Sto} {d : PyData} {ds : List PyData} (h1 : toPy st x = some d) (h2 : toPy st y = some (.list ds)) (s1 : SeqAt.shaped d = true) (s2 : SeqAt.shaped (.list ds) = true) (hm : d ∈ ds) : fInX neg x y st = .ok (.bl (!neg)) st := by
  have r := PySem.SeqAt.eqv_refl d (shaped_canLay s1)
  have a : (ds.any fun z => PyData.eqv z d) = true := List.any_eq_true.mpr ⟨d, hm, r⟩
  simp only [fInX, h1, h2, s1, s2, and_self, if_true, a]
  cases neg <;> rfl
end DD

/-! ### the text by places -/
namespace DD
open PySem L2 PyProof.Rows
def lamNms : List (Str × Str) := [("places_up_to", "places_up_to.<locals>.<lambda>"), ("earliest", "earliest.<locals>.<lambda>")]
def nmsI (w : World) : NMs := { T := fun K => tabsOf K lamNms, w := some w }
variable [NMs]
def topS (i : Nat) : Stmt := PySem.Challenge.pw_stretchprices_k18_whole_places_by_own_ru.main.body.getD i (.Pass ⟨0, 0, 0, 0⟩)
abbrev s_law_hand : Stmt := topS 39
abbrev N_law_hand : List Str := ["script", "cells", "cell"]
theorem sc_law_hand : FnScope N_law_hand ["script"] (defScope s_law_hand) := ⟨rfl, rfl, rfl, by decide +kernel, rfl, by decide +kernel, by decide +kernel⟩
abbrev s_law_draw : Stmt := topS 40
abbrev N_law_draw : List Str := ["hand", "many", "cell", "digit", "number"]
theorem sc_law_draw : FnScope N_law_draw ["hand", "many"] (defScope s_law_draw) := ⟨rfl, rfl, rfl, by decide +kernel, rfl, by decide +kernel, by decide +kernel⟩
abbrev s_law_rows : Stmt := topS 41
abbrev N_law_rows : List Str := ["hand", "many", "letters", "found", "turn"]
theorem sc_law_rows : FnScope N_law_rows ["hand", "many"] (defScope s_law_rows) := ⟨rfl, rfl, rfl, by decide +kernel, rfl, by decide +kernel, by decide +kernel⟩
abbrev s_law_move : Stmt := topS 42
abbrev N_law_move : List Str := ["hand", "kind", "size", "most", "place", "goal", "ticks"]
theorem sc_law_move : FnScope N_law_move ["hand", "kind", "size", "most", "place"] (defScope s_law_move) := ⟨rfl, rfl, rfl, by decide +kernel, rfl, by decide +kernel, by decide +kernel⟩
abbrev s_law_moves : Stmt := topS 43
abbrev N_law_moves : List Str := ["hand", "size", "many", "answers", "kind", "most", "moves", "here", "lines", "at", "answer"]
theorem sc_law_moves : FnScope N_law_moves ["hand", "size", "many", "answers"] (defScope s_law_moves) := ⟨rfl, rfl, rfl, by decide +kernel, rfl, by decide +kernel, by decide +kernel⟩
abbrev s_law_machine : Stmt := topS 44
abbrev N_law_machine : List Str := ["hand", "rows", "answers"]
theorem sc_law_machine : FnScope N_law_machine ["hand"] (defScope s_law_machine) := ⟨rfl, rfl, rfl, by decide +kernel, rfl, by decide +kernel, by decide +kernel⟩
abbrev s_is_code : Stmt := topS 15
abbrev N_is_code : List Str := ["thing", "rows", "row"]
theorem sc_is_code : FnScope N_is_code ["thing", "rows"] (defScope s_is_code) := ⟨rfl, rfl, rfl, by decide +kernel, rfl, by decide +kernel, by decide +kernel⟩
abbrev s_is_letters : Stmt := topS 11
abbrev N_is_letters : List Str := ["thing", "letters", "at"]
theorem sc_is_letters : FnScope N_is_letters ["thing", "letters"] (defScope s_is_letters) := ⟨rfl, rfl, rfl, by decide +kernel, rfl, by decide +kernel, by decide +kernel⟩
abbrev s_is_rows : Stmt := topS 12
abbrev N_is_rows : List Str := ["thing"]
theorem sc_is_rows : FnScope N_is_rows ["thing"] (defScope s_is_rows) := ⟨rfl, rfl, rfl, by decide +kernel, rfl, by decide +kernel, by decide +kernel⟩
abbrev s_is_integer : Stmt := topS 8
abbrev N_is_integer : List Str := ["thing"]
theorem sc_is_integer : FnScope N_is_integer ["thing"] (defScope s_is_integer) := ⟨rfl, rfl, rfl, by decide +kernel, rfl, by decide +kernel, by decide +kernel⟩
abbrev s_is_between : Stmt := topS 9
abbrev N_is_between : List Str := ["thing", "least", "most"]
theorem sc_is_between : FnScope N_is_between ["thing", "least", "most"] (defScope s_is_between) := ⟨rfl, rfl, rfl, by decide +kernel, rfl, by decide +kernel, by decide +kernel⟩
abbrev s_is_answers : Stmt := topS 13
abbrev N_is_answers : List Str := ["thing"]
theorem sc_is_answers : FnScope N_is_answers ["thing"] (defScope s_is_answers) := ⟨rfl, rfl, rfl, by decide +kernel, rfl, by decide +kernel, by decide +kernel⟩
abbrev s_is_tuple : Stmt := topS 10
abbrev N_is_tuple : List Str := ["thing", "many"]
theorem sc_is_tuple : FnScope N_is_tuple ["thing", "many"] (defScope s_is_tuple) := ⟨rfl, rfl, rfl, by decide +kernel, rfl, by decide +kernel, by decide +kernel⟩
abbrev s_is_move : Stmt := topS 34
abbrev N_is_move : List Str := ["pair", "size"]
theorem sc_is_move : FnScope N_is_move ["pair", "size"] (defScope s_is_move) := ⟨rfl, rfl, rfl, by decide +kernel, rfl, by decide +kernel, by decide +kernel⟩
abbrev s_are_pairs : Stmt := topS 33
abbrev N_are_pairs : List Str := ["pairs", "answers", "size", "pair"]
theorem sc_are_pairs : FnScope N_are_pairs ["pairs", "answers", "size"] (defScope s_are_pairs) := ⟨rfl, rfl, rfl, by decide +kernel, rfl, by decide +kernel, by decide +kernel⟩
abbrev s_is_item : Stmt := topS 32
abbrev N_is_item : List Str := ["item", "rows", "answers", "size", "pairs"]
theorem sc_is_item : FnScope N_is_item ["item", "rows", "answers", "size"] (defScope s_is_item) := ⟨rfl, rfl, rfl, by decide +kernel, rfl, by decide +kernel, by decide +kernel⟩
abbrev s_are_moves : Stmt := topS 31
abbrev N_are_moves : List Str := ["moves", "rows", "answers", "item"]
theorem sc_are_moves : FnScope N_are_moves ["moves", "rows", "answers"] (defScope s_are_moves) := ⟨rfl, rfl, rfl, by decide +kernel, rfl, by decide +kernel, by decide +kernel⟩
abbrev s_Machine_init : Stmt := inClass (topS 30) 0
abbrev N_Machine_init : List Str := ["self", "rows", "answers", "moves"]
theorem sc_Machine_init : FnScope N_Machine_init ["self", "rows", "answers", "moves"] (defScope s_Machine_init) := ⟨rfl, rfl, rfl, by decide +kernel, rfl, by decide +kernel, by decide +kernel⟩
abbrev s_law_tail : Stmt := topS 46
abbrev N_law_tail : List Str := ["code", "width"]
theorem sc_law_tail : FnScope N_law_tail ["code", "width"] (defScope s_law_tail) := ⟨rfl, rfl, rfl, by decide +kernel, rfl, by decide +kernel, by decide +kernel⟩
abbrev s_law_places : Stmt := topS 47
abbrev N_law_places : List Str := ["machine", "width", "limit", "rows", "answers", "moves", "found", "layer", "turn", "later", "code", "told", "here", "place", "at", "answer"]
theorem sc_law_places : FnScope N_law_places ["machine", "width", "limit"] (defScope s_law_places) := ⟨rfl, rfl, rfl, by decide +kernel, rfl, by decide +kernel, by decide +kernel⟩
abbrev s_is_width : Stmt := topS 14
abbrev N_is_width : List Str := ["thing"]
theorem sc_is_width : FnScope N_is_width ["thing"] (defScope s_is_width) := ⟨rfl, rfl, rfl, by decide +kernel, rfl, by decide +kernel, by decide +kernel⟩
abbrev s_check_width : Stmt := topS 20
abbrev N_check_width : List Str := ["thing"]
theorem sc_check_width : FnScope N_check_width ["thing"] (defScope s_check_width) := ⟨rfl, rfl, rfl, by decide +kernel, rfl, by decide +kernel, by decide +kernel⟩
abbrev s_tail_behind : Stmt := topS 19
abbrev N_tail_behind : List Str := ["stretch", "width"]
theorem sc_tail_behind : FnScope N_tail_behind ["stretch", "width"] (defScope s_tail_behind) := ⟨rfl, rfl, rfl, by decide +kernel, rfl, by decide +kernel, by decide +kernel⟩
abbrev s_steps_from : Stmt := topS 27
abbrev N_steps_from : List Str := ["machine", "width", "place", "here", "tail", "found", "at", "row", "stretch", "behind", "answer", "spent", "there"]
theorem sc_steps_from : FnScope N_steps_from ["machine", "width", "place"] (defScope s_steps_from) := ⟨rfl, rfl, rfl, by decide +kernel, rfl, by decide +kernel, by decide +kernel⟩
abbrev s_onward : Stmt := topS 28
abbrev N_onward : List Str := ["machine", "width", "place", "step", "_", "there"]
theorem sc_onward : FnScope N_onward ["machine", "width", "place"] (defScope s_onward) := ⟨rfl, rfl, rfl, by decide +kernel, rfl, by decide +kernel, by decide +kernel⟩
abbrev s_earliest : Stmt := topS 22
abbrev N_earliest : List Str := ["start", "steps", "found", "layer", "fresh", "here", "code", "told", "row", "answer", "there", "run"]
theorem sc_earliest : FnScope N_earliest ["start", "steps"] (defScope s_earliest) := ⟨rfl, rfl, rfl, by decide +kernel, rfl, by decide +kernel, by decide +kernel⟩
abbrev s_first_tail : Stmt := topS 18
abbrev N_first_tail : List Str := ["width"]
theorem sc_first_tail : FnScope N_first_tail ["width"] (defScope s_first_tail) := ⟨rfl, rfl, rfl, by decide +kernel, rfl, by decide +kernel, by decide +kernel⟩
abbrev s_places_up_to : Stmt := topS 26
abbrev N_places_up_to : List Str := ["machine", "width", "most", "found"]
theorem sc_places_up_to : FnScope N_places_up_to ["machine", "width", "most"] (defScope s_places_up_to) := ⟨rfl, rfl, rfl, by decide +kernel, rfl, by decide +kernel, by decide +kernel⟩
abbrev s_places : Stmt := topS 25
abbrev N_places : List Str := ["machine", "width"]
theorem sc_places : FnScope N_places ["machine", "width"] (defScope s_places) := ⟨rfl, rfl, rfl, by decide +kernel, rfl, by decide +kernel, by decide +kernel⟩
abbrev s_is_run : Stmt := topS 16
abbrev N_is_run : List Str := ["thing", "rows", "answers", "code", "told", "answer"]
theorem sc_is_run : FnScope N_is_run ["thing", "rows", "answers"] (defScope s_is_run) := ⟨rfl, rfl, rfl, by decide +kernel, rfl, by decide +kernel, by decide +kernel⟩
abbrev s_check_run : Stmt := topS 36
abbrev N_check_run : List Str := ["machine", "run"]
theorem sc_check_run : FnScope N_check_run ["machine", "run"] (defScope s_check_run) := ⟨rfl, rfl, rfl, by decide +kernel, rfl, by decide +kernel, by decide +kernel⟩
abbrev s_walked : Stmt := topS 35
abbrev N_walked : List Str := ["machine", "start", "run", "code", "told", "total", "here", "row", "answer", "spent"]
theorem sc_walked : FnScope N_walked ["machine", "start", "run"] (defScope s_walked) := ⟨rfl, rfl, rfl, by decide +kernel, rfl, by decide +kernel, by decide +kernel⟩
abbrev s_standing : Stmt := topS 37
abbrev N_standing : List Str := ["machine", "run"]
theorem sc_standing : FnScope N_standing ["machine", "run"] (defScope s_standing) := ⟨rfl, rfl, rfl, by decide +kernel, rfl, by decide +kernel, by decide +kernel⟩
abbrev s_law_run : Stmt := topS 48
abbrev N_law_run : List Str := ["hand", "machine", "many", "code", "told", "turn"]
theorem sc_law_run : FnScope N_law_run ["hand", "machine", "many"] (defScope s_law_run) := ⟨rfl, rfl, rfl, by decide +kernel, rfl, by decide +kernel, by decide +kernel⟩
abbrev s_law : Stmt := topS 49
abbrev N_law : List Str := ["script", "hand", "drawn", "machine", "width", "known", "due", "told", "place", "turn", "run"]
theorem sc_law : FnScope N_law ["script"] (defScope s_law) := ⟨rfl, rfl, rfl, by decide +kernel, rfl, by decide +kernel, by decide +kernel⟩
def lw_la_places_up_to_0 : LW := lamW "places_up_to.<locals>.<lambda>" ["machine", "width"] s_places_up_to (callArg 1 (callArg 0 (stE noE ((defBody s_places_up_to).getD 0 s_places_up_to))))
abbrev N_la_places_up_to_0 : List Str := ["place", "machine", "width"]
theorem sc_la_places_up_to_0 : NdefX.NScope N_la_places_up_to_0 ["place"] lw_la_places_up_to_0.fr lw_la_places_up_to_0.scope := NdefX.nscope_by (by decide +kernel)
def lw_la_earliest_0 : LW := lamW "earliest.<locals>.<lambda>" ["fresh"] s_earliest (kwArg 0 (stE noE ((stB 0 ((defBody s_earliest).getD 2 s_earliest)).getD 2 s_earliest)))
abbrev N_la_earliest_0 : List Str := ["end", "fresh"]
theorem sc_la_earliest_0 : NdefX.NScope N_la_earliest_0 ["end"] lw_la_earliest_0.fr lw_la_earliest_0.scope := NdefX.nscope_by (by decide +kernel)
def fldC_answers : List Str := ["Machine"]
def fldC_moves : List Str := ["Machine"]
def fldC_rows : List Str := ["Machine"]
def fldC_size : List Str := ["Machine"]
def subL : List ((Str × Str) × Bool) := []
def subT : Str → Str → Option Bool := fun x c => subL.lookup (x, c)
/-! ### what each def is -/
noncomputable def d_law_hand : DS := (dSeq (dSet 1 (dFz (dLc (dItems (dSl (dVar 0) dNoPart (dPart (dC (.int 63))))) (gdName 2) dYes (dCall fAbs (dCons (dCall fInt (dCons (dVar 2) dNil)) dNil)) [2])))
    (dRet (dNew (dLst (dCons (dVar 1) (dCons (dC (.int 0)) (dCons (dC (.int 0)) (dCons (dBin fAdd (dC (.int 1)) (dCall fLen (dCons (dVar 1) dNil))) (dCons (dC (.int 0)) dNil)))))))))
theorem x_law_hand : ∃ m : M, m = mOf d_law_hand 3 := ⟨_, rfl⟩
noncomputable def m_law_hand : M := x_law_hand.choose
theorem m_law_hand_e : m_law_hand = mOf d_law_hand 3 := x_law_hand.choose_spec
noncomputable def d_law_draw : DS := (dSeq (dIfS (dAnd (dTst (dBin (fEq false) (dBin fIx (dVar 0) (dC (.int 2))) (dC (.int 0)))) (dTst (dBin fLtS (dBin fIx (dVar 0) (dC (.int 1))) (dCall fLen (dCons (dBin fIx (dVar 0) (dC (.int 0))) dNil))))) (dSeq (dSet 2 (dBin fIx (dBin fIx (dVar 0) (dC (.int 0))) (dBin fIx (dVar 0) (dC (.int 1)))))
    (dSeq (dSetItem (dBin fAdd (dBin fIx (dVar 0) (dC (.int 1))) (dC (.int 1))) (dVar 0) (dC (.int 1)))
    (dSeq (dSetItem (dBin fMod (dCall fInt (dCons (dBin fAdd (dBin fAdd (dBin fMul (dBin fIx (dVar 0) (dC (.int 3))) (dC (.int 69621))) (dVar 2)) (dC (.int 11))) dNil)) (dC (.int 2147483629))) (dVar 0) (dC (.int 3)))
    (dIfS (dTst (dBin fGe (dVar 2) (dBin fPow (dC (.int 10)) (dC (.int 18))))) (dSetItem (dVar 2) (dVar 0) (dC (.int 2))) dNext)))) dNext)
    (dSeq (dIfS (dTst (dBin fGt (dBin fIx (dVar 0) (dC (.int 2))) (dC (.int 0)))) (dSeq (dSet 3 (dBin fMod (dCall fInt (dCons (dBin fIx (dVar 0) (dC (.int 2))) dNil)) (dVar 1)))
    (dSeq (dSetItem (dBin fDiv (dBin fIx (dVar 0) (dC (.int 2))) (dVar 1)) (dVar 0) (dC (.int 2)))
    (dRet (dVar 3)))) dNext)
    (dSeq (dSetItem (dBin fAdd (dBin fIx (dVar 0) (dC (.int 4))) (dC (.int 1))) (dVar 0) (dC (.int 4)))
    (dSeq (dSet 4 (dBin fMod (dCall fInt (dCons (dBin fMul (dCall fInt (dCons (dBin fAdd (dBin fIx (dVar 0) (dC (.int 3))) (dBin fMul (dC (.int 7919)) (dBin fIx (dVar 0) (dC (.int 4))))) dNil)) (dC (.int 48271))) dNil)) (dC (.int 2147483647))))
    (dSeq (dSet 4 (dBin fMod (dCall fInt (dCons (dBin fMul (dVar 4) (dBin fAdd (dBin fDiv (dVar 4) (dC (.int 1009))) (dC (.int 69621)))) dNil)) (dC (.int 2147483647))))
    (dSeq (dSet 4 (dBin fMod (dCall fInt (dCons (dBin fMul (dVar 4) (dBin fAdd (dBin fDiv (dVar 4) (dC (.int 2003))) (dC (.int 40692)))) dNil)) (dC (.int 2147483399))))
    (dRet (dBin fMod (dCall fInt (dCons (dBin fDiv (dVar 4) (dC (.int 16))) dNil)) (dVar 1)))))))))
theorem x_law_draw : ∃ m : M, m = mOf d_law_draw 5 := ⟨_, rfl⟩
noncomputable def m_law_draw : M := x_law_draw.choose
theorem m_law_draw_e : m_law_draw = mOf d_law_draw 5 := x_law_draw.choose_spec
noncomputable def d_law_rows : DS := (dSeq (dSet 2 (dNew (dCallL fListAll (dCons (dC (.str "abcdefghijklmnopqrstuvwxyz")) dNil))))
    (dSeq (dSet 3 (dNew (dLst dNil)))
    (dSeq (dFor (dRange1 (dCons (dVar 1) dNil)) (gdName 4) (dExpr (dMeth isLst fAppend (dVar 3) (dCons (dMeth isLst fPopAt (dVar 2) (dCons (dOwn m_law_draw 2 (dCons (dVar 0) (dCons (dCall fLen (dCons (dVar 2) dNil)) dNil))) dNil)) dNil))))
    (dRet (dMeth isStr fJoin (dC (.str "")) (dCons (dFz (dCallL fSorted (dCons (dVar 3) dNil))) dNil))))))
theorem x_law_rows : ∃ m : M, m = mOf d_law_rows 5 := ⟨_, rfl⟩
noncomputable def m_law_rows : M := x_law_rows.choose
theorem m_law_rows_e : m_law_rows = mOf d_law_rows 5 := x_law_rows.choose_spec
noncomputable def d_law_move : DS := (dSeq (dSet 5 (dOwn m_law_draw 2 (dCons (dVar 0) (dCons (dVar 2) dNil))))
    (dSeq (dSet 6 (dBin fAdd (dC (.int 1)) (dOwn m_law_draw 2 (dCons (dVar 0) (dCons (dVar 3) dNil)))))
    (dSeq (dIfS (dTst (dBin (fEq false) (dVar 1) (dC (.int 1)))) (dSet 5 (dBin fMod (dCall fInt (dCons (dBin fIx (dVar 4) (dC (.int 1))) dNil)) (dVar 2))) dNext)
    (dSeq (dIfS (dTst (dBin (fEq false) (dVar 1) (dC (.int 2)))) (dSet 5 (dBin fMod (dCall fInt (dCons (dBin fAdd (dBin fAdd (dBin fIx (dVar 4) (dC (.int 0))) (dBin fIx (dVar 4) (dC (.int 1)))) (dC (.int 1))) dNil)) (dVar 2))) dNext)
    (dSeq (dIfS (dTst (dBin (fEq false) (dVar 1) (dC (.int 3)))) (dSet 5 (dCall fMax2 (dCons (dVar 5) (dCons (dBin fIx (dVar 4) (dC (.int 0))) dNil)))) dNext)
    (dSeq (dIfS (dTst (dBin (fEq false) (dVar 1) (dC (.int 4)))) (dSet 6 (dBin fAdd (dC (.int 1)) (dBin fMod (dCall fInt (dCons (dBin fMul (dBin fIx (dVar 4) (dC (.int 1))) (dC (.int 3))) dNil)) (dC (.int 7))))) dNext)
    (dSeq (dIfS (dTst (dBin (fEq false) (dVar 1) (dC (.int 5)))) (dSet 6 (dBin fAdd (dBin fSub (dBin fAdd (dC (.int 40)) (dBin fMul (dC (.int 3)) (dVar 5))) (dBin fMul (dC (.int 3)) (dBin fIx (dVar 4) (dC (.int 0))))) (dBin fIx (dVar 4) (dC (.int 1))))) dNext)
    (dRet (dTup (dCons (dVar 6) (dCons (dVar 5) dNil)))))))))))
theorem x_law_move : ∃ m : M, m = mOf d_law_move 7 := ⟨_, rfl⟩
noncomputable def m_law_move : M := x_law_move.choose
theorem m_law_move_e : m_law_move = mOf d_law_move 7 := x_law_move.choose_spec
noncomputable def d_law_moves : DS := (dSeq (dSet 4 (dOwn m_law_draw 2 (dCons (dVar 0) (dCons (dC (.int 8)) dNil))))
    (dSeq (dSet 5 (dBin fIx (dFz (dLst (dCons (dC (.int 1)) (dCons (dC (.int 2)) (dCons (dC (.int 9)) (dCons (dC (.int 99)) dNil)))))) (dOwn m_law_draw 2 (dCons (dVar 0) (dCons (dC (.int 4)) dNil)))))
    (dSeq (dSet 6 (dNew (dLst dNil)))
    (dSeq (dFor (dRange1 (dCons (dVar 1) dNil)) (gdName 7) (dSeq (dSet 8 (dNew (dLst dNil)))
    (dSeq (dFor (dRange1 (dCons (dVar 2) dNil)) (gdName 9) (dExpr (dMeth isLst fAppend (dVar 8) (dCons (dCall fTuple (dCons (dFz (dLc (dRange1 (dCons (dVar 3) dNil)) (gdName 10) dYes (dOwn m_law_move 5 (dCons (dVar 0) (dCons (dVar 4) (dCons (dVar 1) (dCons (dVar 5) (dCons (dTup (dCons (dVar 7) (dCons (dVar 9) dNil))) dNil)))))) [10])) dNil)) dNil))))
    (dExpr (dMeth isLst fAppend (dVar 6) (dCons (dCall fTuple (dCons (dVar 8) dNil)) dNil))))))
    (dRet (dCall fTuple (dCons (dVar 6) dNil)))))))
theorem x_law_moves : ∃ m : M, m = mOf d_law_moves 11 := ⟨_, rfl⟩
noncomputable def m_law_moves : M := x_law_moves.choose
theorem m_law_moves_e : m_law_moves = mOf d_law_moves 11 := x_law_moves.choose_spec
noncomputable def d_law_machine : DS := (dSeq (dSet 1 (dOwn m_law_rows 2 (dCons (dVar 0) (dCons (dBin fIx (dFz (dLst (dCons (dC (.int 1)) (dCons (dC (.int 2)) (dCons (dC (.int 2)) (dCons (dC (.int 3)) dNil)))))) (dOwn m_law_draw 2 (dCons (dVar 0) (dCons (dC (.int 4)) dNil)))) dNil))))
    (dSeq (dSet 2 (dBin fIx (dFz (dLst (dCons (dC (.int 1)) (dCons (dC (.int 1)) (dCons (dC (.int 2)) (dCons (dC (.int 3)) dNil)))))) (dOwn m_law_draw 2 (dCons (dVar 0) (dCons (dC (.int 4)) dNil)))))
    (dRet (dFz (dLst (dCons (dVar 1) (dCons (dVar 2) (dCons (dOwn m_law_moves 4 (dCons (dVar 0) (dCons (dBin fAdd (dC (.int 1)) (dOwn m_law_draw 2 (dCons (dVar 0) (dCons (dC (.int 4)) dNil)))) (dCons (dCall fLen (dCons (dVar 1) dNil)) (dCons (dVar 2) dNil))))) dNil))))))))
theorem x_law_machine : ∃ m : M, m = mOf d_law_machine 3 := ⟨_, rfl⟩
noncomputable def m_law_machine : M := x_law_machine.choose
theorem m_law_machine_e : m_law_machine = mOf d_law_machine 3 := x_law_machine.choose_spec
noncomputable def d_is_code : DS := (dRet (dAndV (dCall fIsi (dCons (dVar 0) (dCons (dC (.ty "str")) dNil))) (dCall fAll (dCons (dFz (dLc (dSigns (dVar 0)) (gdName 2) dYes (dBin (fIn false) (dVar 2) (dVar 1)) [2])) dNil))))
theorem x_is_code : ∃ m : M, m = mOf d_is_code 3 := ⟨_, rfl⟩
noncomputable def m_is_code : M := x_is_code.choose
theorem m_is_code_e : m_is_code = mOf d_is_code 3 := x_is_code.choose_spec
noncomputable def d_is_letters : DS := (dSeq (dIfS (dOr (dNot (dTru (dOwn m_is_code 2 (dCons (dVar 0) (dCons (dVar 1) dNil))))) (dTst (dBin (fEq false) (dVar 0) (dC (.str ""))))) (dRet (dC (.bl false))) dNext)
    (dRet (dCall fAll (dCons (dFz (dLc (dRange1 (dCons (dBin fSub (dCall fLen (dCons (dVar 0) dNil)) (dC (.int 1))) dNil)) (gdName 2) dYes (dBin fLtS (dBin fIx (dVar 0) (dVar 2)) (dBin fIx (dVar 0) (dBin fAdd (dVar 2) (dC (.int 1))))) [2])) dNil))))
theorem x_is_letters : ∃ m : M, m = mOf d_is_letters 3 := ⟨_, rfl⟩
noncomputable def m_is_letters : M := x_is_letters.choose
theorem m_is_letters_e : m_is_letters = mOf d_is_letters 3 := x_is_letters.choose_spec
noncomputable def d_is_rows : DS := (dRet (dAndV (dOwn m_is_letters 2 (dCons (dVar 0) (dCons (dC (.str "abcdefghijklmnopqrstuvwxyz")) dNil))) (dBin fLe (dCall fLen (dCons (dVar 0) dNil)) (dC (.int 4)))))
theorem x_is_rows : ∃ m : M, m = mOf d_is_rows 1 := ⟨_, rfl⟩
noncomputable def m_is_rows : M := x_is_rows.choose
theorem m_is_rows_e : m_is_rows = mOf d_is_rows 1 := x_is_rows.choose_spec
noncomputable def d_is_integer : DS := (dRet (dAndV (dCall fIsi (dCons (dVar 0) (dCons (dC (.ty "int")) dNil))) (dNotV (dCall fIsi (dCons (dVar 0) (dCons (dC (.ty "bool")) dNil))))))
theorem x_is_integer : ∃ m : M, m = mOf d_is_integer 1 := ⟨_, rfl⟩
noncomputable def m_is_integer : M := x_is_integer.choose
theorem m_is_integer_e : m_is_integer = mOf d_is_integer 1 := x_is_integer.choose_spec
noncomputable def d_is_between : DS := (dRet (dAndV (dOwn m_is_integer 1 (dCons (dVar 0) dNil)) (dChain fLe fLe (dVar 1) (dVar 0) (dVar 2))))
theorem x_is_between : ∃ m : M, m = mOf d_is_between 3 := ⟨_, rfl⟩
noncomputable def m_is_between : M := x_is_between.choose
theorem m_is_between_e : m_is_between = mOf d_is_between 3 := x_is_between.choose_spec
noncomputable def d_is_answers : DS := (dRet (dOwn m_is_between 3 (dCons (dVar 0) (dCons (dC (.int 1)) (dCons (dC (.int 3)) dNil)))))
theorem x_is_answers : ∃ m : M, m = mOf d_is_answers 1 := ⟨_, rfl⟩
noncomputable def m_is_answers : M := x_is_answers.choose
theorem m_is_answers_e : m_is_answers = mOf d_is_answers 1 := x_is_answers.choose_spec
noncomputable def d_is_tuple : DS := (dRet (dAndV (dCall fIsi (dCons (dVar 0) (dCons (dC (.ty "tuple")) dNil))) (dBin (fEq false) (dCall fLen (dCons (dVar 0) dNil)) (dVar 1))))
theorem x_is_tuple : ∃ m : M, m = mOf d_is_tuple 2 := ⟨_, rfl⟩
noncomputable def m_is_tuple : M := x_is_tuple.choose
theorem m_is_tuple_e : m_is_tuple = mOf d_is_tuple 2 := x_is_tuple.choose_spec
noncomputable def d_is_move : DS := (dRet (dAndV (dOwn m_is_tuple 2 (dCons (dVar 0) (dCons (dC (.int 2)) dNil))) (dAndV (dOwn m_is_between 3 (dCons (dBin fIx (dVar 0) (dC (.int 0))) (dCons (dC (.int 1)) (dCons (dC (.int 99)) dNil)))) (dOwn m_is_between 3 (dCons (dBin fIx (dVar 0) (dC (.int 1))) (dCons (dC (.int 0)) (dCons (dBin fSub (dVar 1) (dC (.int 1))) dNil)))))))
theorem x_is_move : ∃ m : M, m = mOf d_is_move 2 := ⟨_, rfl⟩
noncomputable def m_is_move : M := x_is_move.choose
theorem m_is_move_e : m_is_move = mOf d_is_move 2 := x_is_move.choose_spec
noncomputable def d_are_pairs : DS := (dRet (dAndV (dOwn m_is_tuple 2 (dCons (dVar 0) (dCons (dVar 1) dNil))) (dCall fAll (dCons (dFz (dLc (dItemsT (dVar 0)) (gdName 3) dYes (dOwn m_is_move 2 (dCons (dVar 3) (dCons (dVar 2) dNil))) [3])) dNil))))
theorem x_are_pairs : ∃ m : M, m = mOf d_are_pairs 4 := ⟨_, rfl⟩
noncomputable def m_are_pairs : M := x_are_pairs.choose
theorem m_are_pairs_e : m_are_pairs = mOf d_are_pairs 4 := x_are_pairs.choose_spec
noncomputable def d_is_item : DS := (dRet (dAndV (dOwn m_is_tuple 2 (dCons (dVar 0) (dCons (dVar 1) dNil))) (dCall fAll (dCons (dFz (dLc (dItemsT (dVar 0)) (gdName 4) dYes (dOwn m_are_pairs 3 (dCons (dVar 4) (dCons (dVar 2) (dCons (dVar 3) dNil)))) [4])) dNil))))
theorem x_is_item : ∃ m : M, m = mOf d_is_item 5 := ⟨_, rfl⟩
noncomputable def m_is_item : M := x_is_item.choose
theorem m_is_item_e : m_is_item = mOf d_is_item 5 := x_is_item.choose_spec
noncomputable def d_are_moves : DS := (dSeq (dIfS (dOr (dNot (dTru (dCall fIsi (dCons (dVar 0) (dCons (dC (.ty "tuple")) dNil))))) (dNot (dTst (dChain fLe fLe (dC (.int 1)) (dCall fLen (dCons (dVar 0) dNil)) (dC (.int 12)))))) (dRet (dC (.bl false))) dNext)
    (dRet (dCall fAll (dCons (dFz (dLc (dItemsT (dVar 0)) (gdName 3) dYes (dOwn m_is_item 4 (dCons (dVar 3) (dCons (dCall fLen (dCons (dVar 1) dNil)) (dCons (dVar 2) (dCons (dCall fLen (dCons (dVar 0) dNil)) dNil))))) [3])) dNil))))
theorem x_are_moves : ∃ m : M, m = mOf d_are_moves 4 := ⟨_, rfl⟩
noncomputable def m_are_moves : M := x_are_moves.choose
theorem m_are_moves_e : m_are_moves = mOf d_are_moves 4 := x_are_moves.choose_spec
noncomputable def d_Machine_init : DS := (dSeq (dIfS (dNot (dTru (dOwn m_is_rows 1 (dCons (dVar 1) dNil)))) dNever dNext)
    (dSeq (dIfS (dNot (dTru (dOwn m_is_answers 1 (dCons (dVar 2) dNil)))) dNever dNext)
    (dSeq (dIfS (dNot (dTru (dOwn m_are_moves 3 (dCons (dVar 3) (dCons (dVar 1) (dCons (dVar 2) dNil)))))) dNever dNext)
    (dSeq (dSetFld fldC_rows "rows" (dVar 1) (dVar 0))
    (dSeq (dSetFld fldC_answers "answers" (dVar 2) (dVar 0))
    (dSeq (dSetFld fldC_moves "moves" (dVar 3) (dVar 0))
    (dSetFld fldC_size "size" (dCall fLen (dCons (dVar 3) dNil)) (dVar 0))))))))
theorem x_Machine_init : ∃ m : M, m = mOf d_Machine_init 4 := ⟨_, rfl⟩
noncomputable def m_Machine_init : M := x_Machine_init.choose
theorem m_Machine_init_e : m_Machine_init = mOf d_Machine_init 4 := x_Machine_init.choose_spec
noncomputable def d_law_tail : DS := (dSeq (dIfS (dTst (dBin fLtS (dCall fLen (dCons (dVar 0) dNil)) (dBin fSub (dVar 1) (dC (.int 1))))) (dRet (dBin fAdd (dC (.str "^")) (dVar 0))) dNext)
    (dRet (dSl (dVar 0) (dPart (dBin fAdd (dBin fSub (dCall fLen (dCons (dVar 0) dNil)) (dVar 1)) (dC (.int 1)))) dNoPart)))
theorem x_law_tail : ∃ m : M, m = mOf d_law_tail 2 := ⟨_, rfl⟩
noncomputable def m_law_tail : M := x_law_tail.choose
theorem m_law_tail_e : m_law_tail = mOf d_law_tail 2 := x_law_tail.choose_spec
noncomputable def d_law_places_1 : DS := (dFor (dRange1 (dCons (dVar 4) dNil)) (gdName 15) (dExpr (dMeth isLst fAppend (dVar 9) (dCons (dTup (dCons (dBin fAdd (dVar 10) (dBin fIx (dVar 3) (dVar 14))) (dCons (dBin fAdd (dVar 11) (dTup (dCons (dVar 15) dNil))) (dCons (dBin fIx (dBin fIx (dBin fIx (dBin fIx (dVar 5) (dVar 12)) (dVar 14)) (dVar 15)) (dC (.int 1))) dNil)))) dNil))))
noncomputable def d_law_places_2 : DS := (dIfS (dTst (dBin (fKIn true) (dVar 13) (dVar 6))) (dSeq (dSetK (dTup (dCons (dVar 10) (dCons (dVar 11) dNil))) (dVar 6) (dVar 13))
    (dFor (dRange1 (dCons (dCall fLen (dCons (dVar 3) dNil)) dNil)) (gdName 14) d_law_places_1)) dNext)
noncomputable def d_law_places_3 : DS := (dFor (dItems (dFz (dCallL fSortX (dCons (dVar 7) dNil)))) (gdTup 3 (gdCons (gdName 10) (gdCons (gdName 11) (gdCons (gdName 12) gdNil)))) (dSeq (dSet 13 (dTup (dCons (dVar 12) (dCons (dOwn m_law_tail 2 (dCons (dVar 10) (dCons (dVar 1) dNil))) dNil))))
    d_law_places_2))
noncomputable def d_law_places_4 : DS := (dFor (dRange1 (dCons (dBin fAdd (dVar 2) (dC (.int 2))) dNil)) (gdName 8) (dSeq (dSet 9 (dNew (dLst dNil)))
    (dSeq d_law_places_3
    (dSeq (dSet 7 (dVar 9))
    (dIfS (dTst (dBin fGt (dCall fLenK (dCons (dVar 6) dNil)) (dVar 2))) (dRet (dVar 6)) dNext)))))
noncomputable def d_law_places : DS := (dSeq (dAsg (dVar 0) (gdSeq 3 (gdCons (gdName 3) (gdCons (gdName 4) (gdCons (gdName 5) gdNil)))))
    (dSeq (dSet 6 dDictNew)
    (dSeq (dSet 7 (dFz (dLst (dCons (dTup (dCons (dC (.str "")) (dCons (dTup dNil) (dCons (dC (.int 0)) dNil)))) dNil))))
    (dSeq d_law_places_4
    (dRet (dVar 6))))))
theorem x_law_places : ∃ m : M, m = mOf d_law_places 16 := ⟨_, rfl⟩
noncomputable def m_law_places : M := x_law_places.choose
theorem m_law_places_e : m_law_places = mOf d_law_places 16 := x_law_places.choose_spec
noncomputable def d_is_width : DS := (dRet (dOwn m_is_between 3 (dCons (dVar 0) (dCons (dC (.int 1)) (dCons (dC (.int 3)) dNil)))))
theorem x_is_width : ∃ m : M, m = mOf d_is_width 1 := ⟨_, rfl⟩
noncomputable def m_is_width : M := x_is_width.choose
theorem m_is_width_e : m_is_width = mOf d_is_width 1 := x_is_width.choose_spec
noncomputable def d_check_width : DS := (dIfS (dNot (dTru (dOwn m_is_width 1 (dCons (dVar 0) dNil)))) dNever dNext)
theorem x_check_width : ∃ m : M, m = mOf d_check_width 1 := ⟨_, rfl⟩
noncomputable def m_check_width : M := x_check_width.choose
theorem m_check_width_e : m_check_width = mOf d_check_width 1 := x_check_width.choose_spec
noncomputable def d_tail_behind : DS := (dRet (dIf (dTst (dBin fLtS (dCall fLen (dCons (dVar 0) dNil)) (dVar 1))) (dVar 0) (dSl (dVar 0) (dPart (dC (.int 1))) dNoPart)))
theorem x_tail_behind : ∃ m : M, m = mOf d_tail_behind 2 := ⟨_, rfl⟩
noncomputable def m_tail_behind : M := x_tail_behind.choose
theorem m_tail_behind_e : m_tail_behind = mOf d_tail_behind 2 := x_tail_behind.choose_spec
noncomputable def d_steps_from_1 : DS := (dFor (dRange1 (dCons (dUn (fFld fldC_answers "answers") (dVar 0)) dNil)) (gdName 10) (dSeq (dAsg (dBin fIx (dBin fIx (dBin fIx (dUn (fFld fldC_moves "moves") (dVar 0)) (dVar 3)) (dVar 6)) (dVar 10)) (gdTup 2 (gdCons (gdName 11) (gdCons (gdName 12) gdNil))))
    (dExpr (dMeth isLst fAppend (dVar 5) (dCons (dTup (dCons (dTup (dCons (dVar 2) (dCons (dVar 7) (dCons (dVar 10) dNil)))) (dCons (dVar 11) (dCons (dVar 8) (dCons (dTup (dCons (dVar 12) (dCons (dVar 9) dNil))) dNil))))) dNil)))))
noncomputable def d_steps_from_2 : DS := (dFor (dEnumS (dCons (dUn (fFld fldC_rows "rows") (dVar 0)) dNil)) (gdTup 2 (gdCons (gdName 6) (gdCons (gdName 7) gdNil))) (dSeq (dSet 8 (dBin fAdd (dVar 4) (dVar 7)))
    (dSeq (dSet 9 (dOwn m_tail_behind 2 (dCons (dVar 8) (dCons (dVar 1) dNil))))
    d_steps_from_1)))
noncomputable def d_steps_from : DS := (dSeq (dAsg (dVar 2) (gdTup 2 (gdCons (gdName 3) (gdCons (gdName 4) gdNil))))
    (dSeq (dSet 5 (dNew (dLst dNil)))
    (dSeq d_steps_from_2
    (dRet (dVar 5)))))
theorem x_steps_from : ∃ m : M, m = mOf d_steps_from 13 := ⟨_, rfl⟩
noncomputable def m_steps_from : M := x_steps_from.choose
theorem m_steps_from_e : m_steps_from = mOf d_steps_from 13 := x_steps_from.choose_spec
noncomputable def d_onward : DS := (dRet (dFz (dLc (dItemsR (dOwn m_steps_from 3 (dCons (dVar 0) (dCons (dVar 1) (dCons (dVar 2) dNil))))) (gdTup 4 (gdCons (gdName 3) (gdCons (gdName 4) (gdCons (gdName 4) (gdCons (gdName 5) gdNil))))) dYes (dTup (dCons (dBin fIx (dVar 3) (dC (.int 1))) (dCons (dBin fIx (dVar 3) (dC (.int 2))) (dCons (dVar 5) dNil)))) [3, 4, 5])))
theorem x_onward : ∃ m : M, m = mOf d_onward 6 := ⟨_, rfl⟩
noncomputable def m_onward : M := x_onward.choose
theorem m_onward_e : m_onward = mOf d_onward 6 := x_onward.choose_spec
noncomputable def dl_la_places_up_to_0 : DE := (dOwn m_onward 3 (dCons (dVar 1) (dCons (dVar 2) (dCons (dVar 0) dNil))))
theorem x_la_places_up_to_0 : ∃ m : M, m = mLam dl_la_places_up_to_0 N_la_places_up_to_0 1 2 := ⟨_, rfl⟩
noncomputable def m_la_places_up_to_0 : M := x_la_places_up_to_0.choose
theorem m_la_places_up_to_0_e : m_la_places_up_to_0 = mLam dl_la_places_up_to_0 N_la_places_up_to_0 1 2 := x_la_places_up_to_0.choose_spec
noncomputable def tab_earliest_steps : Nat → LW → M := (tabCons 0 lw_la_places_up_to_0 m_la_places_up_to_0 tabNil)
noncomputable def d_earliest_1 : DS := (dIfS (dAnd (dTst (dBin (fKIn true) (dVar 10) (dVar 2))) (dOr (dTst (dBin (fKIn true) (dVar 10) (dVar 4))) (dTst (dBin fLtX (dVar 11) (dBin fKGet (dVar 4) (dVar 10)))))) (dSetK (dVar 11) (dVar 4) (dVar 10)) dNext)
noncomputable def d_earliest_2 : DS := (dFor (dItems (dLamGo tab_earliest_steps 1 (dCons (dVar 5) dNil))) (gdTup 3 (gdCons (gdName 8) (gdCons (gdName 9) (gdCons (gdName 10) gdNil)))) (dSeq (dSet 11 (dTup (dCons (dBin fAdd (dVar 6) (dVar 8)) (dCons (dBin fAdd (dVar 7) (dTup (dCons (dVar 9) dNil))) dNil))))
    d_earliest_1))
noncomputable def d_earliest_3 : DS := (dFor (dItems (dVar 3)) (gdName 5) (dSeq (dAsg (dBin fKGet (dVar 2) (dVar 5)) (gdTup 2 (gdCons (gdName 6) (gdCons (gdName 7) gdNil))))
    d_earliest_2))
noncomputable def d_earliest_4 : DS := (whileN (dTru (dVar 3)) (dSeq (dSet 4 dDictNew)
    (dSeq d_earliest_3
    (dSeq (dSet 3 (dFz (dSortEnds 4)))
    (dFor (dItems (dVar 3)) (gdName 10) (dSetK (dBin fKGet (dVar 4) (dVar 10)) (dVar 2) (dVar 10)))))) fuel)
noncomputable def d_earliest : DS := (dSeq (dSet 2 (dDisp1T (dVar 0) (dTup (dCons (dC (.str "")) (dCons (dTup dNil) dNil)))))
    (dSeq (dSet 3 (dFz (dLst (dCons (dVar 0) dNil))))
    (dSeq d_earliest_4
    (dRet (dVar 2)))))
theorem x_earliest : ∃ m : M, m = mOf d_earliest 12 := ⟨_, rfl⟩
noncomputable def m_earliest : M := x_earliest.choose
theorem m_earliest_e : m_earliest = mOf d_earliest 12 := x_earliest.choose_spec
noncomputable def d_first_tail : DS := (dRet (dIf (dTst (dBin (fEq false) (dVar 0) (dC (.int 1)))) (dC (.str "")) (dC (.str "^"))))
theorem x_first_tail : ∃ m : M, m = mOf d_first_tail 1 := ⟨_, rfl⟩
noncomputable def m_first_tail : M := x_first_tail.choose
theorem m_first_tail_e : m_first_tail = mOf d_first_tail 1 := x_first_tail.choose_spec
noncomputable def d_places_up_to : DS := (dSeq (dSet 3 (dNew (dCallL fListK (dCons (dOwnLam m_earliest 2 (dCons (dTup (dCons (dC (.int 0)) (dCons (dOwn m_first_tail 1 (dCons (dVar 1) dNil)) dNil))) dNil) 0 lw_la_places_up_to_0 [0, 1]) dNil))))
    (dSeq (dIfS (dTst (dBin fGt (dCall fLen (dCons (dVar 3) dNil)) (dVar 2))) dNever dNext)
    (dRet (dVar 3))))
theorem x_places_up_to : ∃ m : M, m = mOf d_places_up_to 4 := ⟨_, rfl⟩
noncomputable def m_places_up_to : M := x_places_up_to.choose
theorem m_places_up_to_e : m_places_up_to = mOf d_places_up_to 4 := x_places_up_to.choose_spec
noncomputable def d_places : DS := (dSeq (dExpr (dOwn m_check_width 1 (dCons (dVar 1) dNil)))
    (dRet (dOwn m_places_up_to 3 (dCons (dVar 0) (dCons (dVar 1) (dCons (dC (.int 300)) dNil))))))
theorem x_places : ∃ m : M, m = mOf d_places 2 := ⟨_, rfl⟩
noncomputable def m_places : M := x_places.choose
theorem m_places_e : m_places = mOf d_places 2 := x_places.choose_spec
noncomputable def d_is_run : DS := (dSeq (dIfS (dNot (dTru (dOwn m_is_tuple 2 (dCons (dVar 0) (dCons (dC (.int 2)) dNil))))) (dRet (dC (.bl false))) dNext)
    (dSeq (dAsg (dVar 0) (gdTup 2 (gdCons (gdName 3) (gdCons (gdName 4) gdNil))))
    (dSeq (dIfS (dOr (dNot (dTru (dOwn m_is_code 2 (dCons (dVar 3) (dCons (dVar 1) dNil))))) (dNot (dTru (dOwn m_is_tuple 2 (dCons (dVar 4) (dCons (dCall fLen (dCons (dVar 3) dNil)) dNil)))))) (dRet (dC (.bl false))) dNext)
    (dRet (dCall fAll (dCons (dFz (dLc (dItemsT (dVar 4)) (gdName 5) dYes (dOwn m_is_between 3 (dCons (dVar 5) (dCons (dC (.int 0)) (dCons (dBin fSub (dVar 2) (dC (.int 1))) dNil)))) [5])) dNil))))))
theorem x_is_run : ∃ m : M, m = mOf d_is_run 6 := ⟨_, rfl⟩
noncomputable def m_is_run : M := x_is_run.choose
theorem m_is_run_e : m_is_run = mOf d_is_run 6 := x_is_run.choose_spec
noncomputable def d_check_run : DS := (dIfS (dNot (dTru (dOwn m_is_run 3 (dCons (dVar 1) (dCons (dUn (fFld fldC_rows "rows") (dVar 0)) (dCons (dUn (fFld fldC_answers "answers") (dVar 0)) dNil)))))) dNever dNext)
theorem x_check_run : ∃ m : M, m = mOf d_check_run 2 := ⟨_, rfl⟩
noncomputable def m_check_run : M := x_check_run.choose
theorem m_check_run_e : m_check_run = mOf d_check_run 2 := x_check_run.choose_spec
noncomputable def d_walked : DS := (dSeq (dAsg (dVar 2) (gdTup 2 (gdCons (gdName 3) (gdCons (gdName 4) gdNil))))
    (dSeq (dSet 5 (dC (.int 0)))
    (dSeq (dSet 6 (dVar 1))
    (dSeq (dFor (dZip (dCons (dVar 3) (dCons (dVar 4) dNil))) (gdTup 2 (gdCons (gdName 7) (gdCons (gdName 8) gdNil))) (dSeq (dAsg (dBin fIx (dBin fIx (dBin fIx (dUn (fFld fldC_moves "moves") (dVar 0)) (dVar 6)) (dMeth isStr fIndex (dUn (fFld fldC_rows "rows") (dVar 0)) (dCons (dVar 7) dNil))) (dVar 8)) (gdTup 2 (gdCons (gdName 9) (gdCons (gdName 6) gdNil))))
    (dAug 5 (fun i j => i + j) (dVar 9))))
    (dRet (dTup (dCons (dVar 5) (dCons (dVar 6) dNil))))))))
theorem x_walked : ∃ m : M, m = mOf d_walked 10 := ⟨_, rfl⟩
noncomputable def m_walked : M := x_walked.choose
theorem m_walked_e : m_walked = mOf d_walked 10 := x_walked.choose_spec
noncomputable def d_standing : DS := (dSeq (dExpr (dOwn m_check_run 2 (dCons (dVar 0) (dCons (dVar 1) dNil))))
    (dRet (dBin fIx (dOwn m_walked 3 (dCons (dVar 0) (dCons (dC (.int 0)) (dCons (dVar 1) dNil)))) (dC (.int 1)))))
theorem x_standing : ∃ m : M, m = mOf d_standing 2 := ⟨_, rfl⟩
noncomputable def m_standing : M := x_standing.choose
theorem m_standing_e : m_standing = mOf d_standing 2 := x_standing.choose_spec
noncomputable def d_law_run : DS := (dSeq (dSet 3 (dC (.str "")))
    (dSeq (dSet 4 (dTup dNil))
    (dSeq (dFor (dRange1 (dCons (dVar 2) dNil)) (gdName 5) (dSeq (dSet 3 (dBin fAdd (dVar 3) (dBin fIx (dBin fIx (dVar 1) (dC (.int 0))) (dOwn m_law_draw 2 (dCons (dVar 0) (dCons (dCall fLen (dCons (dBin fIx (dVar 1) (dC (.int 0))) dNil)) dNil))))))
    (dSet 4 (dBin fAdd (dVar 4) (dTup (dCons (dOwn m_law_draw 2 (dCons (dVar 0) (dCons (dBin fIx (dVar 1) (dC (.int 1))) dNil))) dNil))))))
    (dRet (dTup (dCons (dVar 3) (dCons (dVar 4) dNil)))))))
theorem x_law_run : ∃ m : M, m = mOf d_law_run 6 := ⟨_, rfl⟩
noncomputable def m_law_run : M := x_law_run.choose
theorem m_law_run_e : m_law_run = mOf d_law_run 6 := x_law_run.choose_spec
noncomputable def d_law_1 : DS := (dIfS (dOr (dNot (dTru (dCall fIsi (dCons (dVar 7) (dCons (dC (.ty "list")) dNil))))) (dOr (dTst (dBin (fEq true) (dVar 7) (dVar 6))) (dTru (dCall fAny (dCons (dFz (dLc (dItemsR (dVar 7)) (gdName 8) dYes (dCall fIsi (dCons (dBin fIx (dVar 8) (dC (.int 0))) (dCons (dC (.ty "bool")) dNil))) [8])) dNil))))) (dRet (dC (.bl false))) dNext)
noncomputable def d_law_2 : DS := (dIfS (dOr (dTst (dBin (fEq true) (dOwn m_standing 2 (dCons (dVar 3) (dCons (dBin fKGet (dVar 5) (dVar 8)) dNil))) (dBin fIx (dVar 8) (dC (.int 0))))) (dTst (dBin (fEq true) (dOwn m_law_tail 2 (dCons (dBin fIx (dBin fKGet (dVar 5) (dVar 8)) (dC (.int 0))) (dCons (dVar 4) dNil))) (dBin fIx (dVar 8) (dC (.int 1)))))) (dRet (dC (.bl false))) dNext)
noncomputable def d_law_3 : DS := (dIfS (dTst (dBin (fInX true) (dTup (dCons (dOwn m_standing 2 (dCons (dVar 3) (dCons (dVar 10) dNil))) (dCons (dOwn m_law_tail 2 (dCons (dBin fIx (dVar 10) (dC (.int 0))) (dCons (dVar 4) dNil))) dNil))) (dVar 6))) (dRet (dC (.bl false))) dNext)
noncomputable def d_law_4 : DS := (dFor (dRange1 (dCons (dC (.int 3)) dNil)) (gdName 9) (dSeq (dSet 10 (dOwn m_law_run 3 (dCons (dVar 1) (dCons (dVar 2) (dCons (dOwn m_law_draw 2 (dCons (dVar 1) (dCons (dC (.int 12)) dNil))) dNil)))))
    d_law_3))
noncomputable def d_law_5 : DS := (dIfS (dTst (dBin (fEq true) (dOwn m_places 2 (dCons (dVar 3) (dCons (dVar 4) dNil))) (dVar 6))) (dRet (dC (.bl false))) dNext)
noncomputable def d_law_6 : DS := (dFor (dItems (dFz (dLst (dCons (dC (.int 1)) (dCons (dC (.int 2)) (dCons (dC (.int 3)) dNil)))))) (gdName 4) (dSeq (dSet 5 (dOwn m_law_places 3 (dCons (dVar 2) (dCons (dVar 4) (dCons (dC (.int 400)) dNil)))))
    (dSeq (dSet 6 (dFz (dCallL fListK (dCons (dVar 5) dNil))))
    (dSeq (dSet 7 (dOwn m_places 2 (dCons (dVar 3) (dCons (dVar 4) dNil))))
    (dSeq d_law_1
    (dSeq (dFor (dItems (dVar 6)) (gdName 8) d_law_2)
    (dSeq d_law_4
    (dSeq (dExpr (dMeth isLst fAppend (dVar 7) (dCons (dTup (dCons (dC (.int 0)) (dCons (dC (.str "x")) dNil))) dNil)))
    (dSeq (dExpr (dMeth isLst fReverse (dVar 7) dNil))
    d_law_5)))))))))
noncomputable def d_law : DS := (dSeq (dSet 1 (dOwn m_law_hand 1 (dCons (dVar 0) dNil)))
    (dSeq (dSet 2 (dOwn m_law_machine 1 (dCons (dVar 1) dNil)))
    (dSeq (dSet 3 (dMake "Machine" m_Machine_init 4 (dCons (dBin fIx (dVar 2) (dC (.int 0))) (dCons (dBin fIx (dVar 2) (dC (.int 1))) (dCons (dBin fIx (dVar 2) (dC (.int 2))) dNil)))))
    (dSeq d_law_6
    (dRet (dC (.bl true)))))))
theorem x_law : ∃ m : M, m = mOf d_law 11 := ⟨_, rfl⟩
noncomputable def m_law : M := x_law.choose
theorem m_law_e : m_law = mOf d_law 11 := x_law.choose_spec
/-! ### what the top has written -/
structure Txt (K : PySem.W.Frag) (mg : Str → Option Value) (base : Heap) (w : World) where
  hw : NMs.w = some w
  a_law_hand : Addr
  fd_law_hand : FuncData
  F_law_hand : Fun K "_law_hand" "_law_hand" s_law_hand a_law_hand fd_law_hand
  b_law_hand : Binds K fd_law_hand ["script"] []
  k_law_hand : PySem.W.keepIn K (.ref a_law_hand) = true
  g_law_hand : mg "_law_hand" = some (.ref a_law_hand)
  a_law_draw : Addr
  fd_law_draw : FuncData
  F_law_draw : Fun K "_law_draw" "_law_draw" s_law_draw a_law_draw fd_law_draw
  b_law_draw : Binds K fd_law_draw ["hand", "many"] []
  k_law_draw : PySem.W.keepIn K (.ref a_law_draw) = true
  g_law_draw : mg "_law_draw" = some (.ref a_law_draw)
  a_law_rows : Addr
  fd_law_rows : FuncData
  F_law_rows : Fun K "_law_rows" "_law_rows" s_law_rows a_law_rows fd_law_rows
  b_law_rows : Binds K fd_law_rows ["hand", "many"] []
  k_law_rows : PySem.W.keepIn K (.ref a_law_rows) = true
  g_law_rows : mg "_law_rows" = some (.ref a_law_rows)
  a_law_move : Addr
  fd_law_move : FuncData
  F_law_move : Fun K "_law_move" "_law_move" s_law_move a_law_move fd_law_move
  b_law_move : Binds K fd_law_move ["hand", "kind", "size", "most", "place"] []
  k_law_move : PySem.W.keepIn K (.ref a_law_move) = true
  g_law_move : mg "_law_move" = some (.ref a_law_move)
  a_law_moves : Addr
  fd_law_moves : FuncData
  F_law_moves : Fun K "_law_moves" "_law_moves" s_law_moves a_law_moves fd_law_moves
  b_law_moves : Binds K fd_law_moves ["hand", "size", "many", "answers"] []
  k_law_moves : PySem.W.keepIn K (.ref a_law_moves) = true
  g_law_moves : mg "_law_moves" = some (.ref a_law_moves)
  a_law_machine : Addr
  fd_law_machine : FuncData
  F_law_machine : Fun K "_law_machine" "_law_machine" s_law_machine a_law_machine fd_law_machine
  b_law_machine : Binds K fd_law_machine ["hand"] []
  k_law_machine : PySem.W.keepIn K (.ref a_law_machine) = true
  g_law_machine : mg "_law_machine" = some (.ref a_law_machine)
  a_is_code : Addr
  fd_is_code : FuncData
  F_is_code : Fun K "is_code" "is_code" s_is_code a_is_code fd_is_code
  b_is_code : Binds K fd_is_code ["thing", "rows"] []
  k_is_code : PySem.W.keepIn K (.ref a_is_code) = true
  g_is_code : mg "is_code" = some (.ref a_is_code)
  a_is_letters : Addr
  fd_is_letters : FuncData
  F_is_letters : Fun K "is_letters" "is_letters" s_is_letters a_is_letters fd_is_letters
  b_is_letters : Binds K fd_is_letters ["thing", "letters"] []
  k_is_letters : PySem.W.keepIn K (.ref a_is_letters) = true
  g_is_letters : mg "is_letters" = some (.ref a_is_letters)
  a_is_rows : Addr
  fd_is_rows : FuncData
  F_is_rows : Fun K "is_rows" "is_rows" s_is_rows a_is_rows fd_is_rows
  b_is_rows : Binds K fd_is_rows ["thing"] []
  k_is_rows : PySem.W.keepIn K (.ref a_is_rows) = true
  g_is_rows : mg "is_rows" = some (.ref a_is_rows)
  a_is_integer : Addr
  fd_is_integer : FuncData
  F_is_integer : Fun K "is_integer" "is_integer" s_is_integer a_is_integer fd_is_integer
  b_is_integer : Binds K fd_is_integer ["thing"] []
  k_is_integer : PySem.W.keepIn K (.ref a_is_integer) = true
  g_is_integer : mg "is_integer" = some (.ref a_is_integer)
  a_is_between : Addr
  fd_is_between : FuncData
  F_is_between : Fun K "is_between" "is_between" s_is_between a_is_between fd_is_between
  b_is_between : Binds K fd_is_between ["thing", "least", "most"] []
  k_is_between : PySem.W.keepIn K (.ref a_is_between) = true
  g_is_between : mg "is_between" = some (.ref a_is_between)
  a_is_answers : Addr
  fd_is_answers : FuncData
  F_is_answers : Fun K "is_answers" "is_answers" s_is_answers a_is_answers fd_is_answers
  b_is_answers : Binds K fd_is_answers ["thing"] []
  k_is_answers : PySem.W.keepIn K (.ref a_is_answers) = true
  g_is_answers : mg "is_answers" = some (.ref a_is_answers)
  a_is_tuple : Addr
  fd_is_tuple : FuncData
  F_is_tuple : Fun K "is_tuple" "is_tuple" s_is_tuple a_is_tuple fd_is_tuple
  b_is_tuple : Binds K fd_is_tuple ["thing", "many"] []
  k_is_tuple : PySem.W.keepIn K (.ref a_is_tuple) = true
  g_is_tuple : mg "is_tuple" = some (.ref a_is_tuple)
  a_is_move : Addr
  fd_is_move : FuncData
  F_is_move : Fun K "_is_move" "_is_move" s_is_move a_is_move fd_is_move
  b_is_move : Binds K fd_is_move ["pair", "size"] []
  k_is_move : PySem.W.keepIn K (.ref a_is_move) = true
  g_is_move : mg "_is_move" = some (.ref a_is_move)
  a_are_pairs : Addr
  fd_are_pairs : FuncData
  F_are_pairs : Fun K "_are_pairs" "_are_pairs" s_are_pairs a_are_pairs fd_are_pairs
  b_are_pairs : Binds K fd_are_pairs ["pairs", "answers", "size"] []
  k_are_pairs : PySem.W.keepIn K (.ref a_are_pairs) = true
  g_are_pairs : mg "_are_pairs" = some (.ref a_are_pairs)
  a_is_item : Addr
  fd_is_item : FuncData
  F_is_item : Fun K "_is_item" "_is_item" s_is_item a_is_item fd_is_item
  b_is_item : Binds K fd_is_item ["item", "rows", "answers", "size"] []
  k_is_item : PySem.W.keepIn K (.ref a_is_item) = true
  g_is_item : mg "_is_item" = some (.ref a_is_item)
  a_are_moves : Addr
  fd_are_moves : FuncData
  F_are_moves : Fun K "_are_moves" "_are_moves" s_are_moves a_are_moves fd_are_moves
  b_are_moves : Binds K fd_are_moves ["moves", "rows", "answers"] []
  k_are_moves : PySem.W.keepIn K (.ref a_are_moves) = true
  g_are_moves : mg "_are_moves" = some (.ref a_are_moves)
  a_Machine_init : Addr
  fd_Machine_init : FuncData
  F_Machine_init : Fun K "__init__" "Machine.__init__" s_Machine_init a_Machine_init fd_Machine_init
  b_Machine_init : Binds K fd_Machine_init ["self", "rows", "answers", "moves"] []
  k_Machine_init : PySem.W.keepIn K (.ref a_Machine_init) = true
  a_law_tail : Addr
  fd_law_tail : FuncData
  F_law_tail : Fun K "_law_tail" "_law_tail" s_law_tail a_law_tail fd_law_tail
  b_law_tail : Binds K fd_law_tail ["code", "width"] []
  k_law_tail : PySem.W.keepIn K (.ref a_law_tail) = true
  g_law_tail : mg "_law_tail" = some (.ref a_law_tail)
  a_law_places : Addr
  fd_law_places : FuncData
  F_law_places : Fun K "_law_places" "_law_places" s_law_places a_law_places fd_law_places
  b_law_places : Binds K fd_law_places ["machine", "width", "limit"] []
  k_law_places : PySem.W.keepIn K (.ref a_law_places) = true
  g_law_places : mg "_law_places" = some (.ref a_law_places)
  a_is_width : Addr
  fd_is_width : FuncData
  F_is_width : Fun K "is_width" "is_width" s_is_width a_is_width fd_is_width
  b_is_width : Binds K fd_is_width ["thing"] []
  k_is_width : PySem.W.keepIn K (.ref a_is_width) = true
  g_is_width : mg "is_width" = some (.ref a_is_width)
  a_check_width : Addr
  fd_check_width : FuncData
  F_check_width : Fun K "check_width" "check_width" s_check_width a_check_width fd_check_width
  b_check_width : Binds K fd_check_width ["thing"] []
  k_check_width : PySem.W.keepIn K (.ref a_check_width) = true
  g_check_width : mg "check_width" = some (.ref a_check_width)
  a_tail_behind : Addr
  fd_tail_behind : FuncData
  F_tail_behind : Fun K "tail_behind" "tail_behind" s_tail_behind a_tail_behind fd_tail_behind
  b_tail_behind : Binds K fd_tail_behind ["stretch", "width"] []
  k_tail_behind : PySem.W.keepIn K (.ref a_tail_behind) = true
  g_tail_behind : mg "tail_behind" = some (.ref a_tail_behind)
  a_steps_from : Addr
  fd_steps_from : FuncData
  F_steps_from : Fun K "steps_from" "steps_from" s_steps_from a_steps_from fd_steps_from
  b_steps_from : Binds K fd_steps_from ["machine", "width", "place"] []
  k_steps_from : PySem.W.keepIn K (.ref a_steps_from) = true
  g_steps_from : mg "steps_from" = some (.ref a_steps_from)
  a_onward : Addr
  fd_onward : FuncData
  F_onward : Fun K "_onward" "_onward" s_onward a_onward fd_onward
  b_onward : Binds K fd_onward ["machine", "width", "place"] []
  k_onward : PySem.W.keepIn K (.ref a_onward) = true
  g_onward : mg "_onward" = some (.ref a_onward)
  a_earliest : Addr
  fd_earliest : FuncData
  ct_earliest : Addr
  Pt_earliest : Addr
  TB_earliest : LamX.TabB base mg ct_earliest Pt_earliest
  tm_earliest : (Pt_earliest, ("earliest.<locals>.<lambda>" : Str)) ∈ NMs.T K
  tu_earliest : ∀ p ∈ NMs.T K, p.1 = Pt_earliest → p.2 = "earliest.<locals>.<lambda>"
  F_earliest : FunL K "earliest" "earliest" s_earliest a_earliest fd_earliest ct_earliest
  b_earliest : Binds K fd_earliest ["start", "steps"] []
  k_earliest : PySem.W.keepIn K (.ref a_earliest) = true
  g_earliest : mg "earliest" = some (.ref a_earliest)
  a_first_tail : Addr
  fd_first_tail : FuncData
  F_first_tail : Fun K "first_tail" "first_tail" s_first_tail a_first_tail fd_first_tail
  b_first_tail : Binds K fd_first_tail ["width"] []
  k_first_tail : PySem.W.keepIn K (.ref a_first_tail) = true
  g_first_tail : mg "first_tail" = some (.ref a_first_tail)
  a_places_up_to : Addr
  fd_places_up_to : FuncData
  ct_places_up_to : Addr
  Pt_places_up_to : Addr
  TB_places_up_to : LamX.TabB base mg ct_places_up_to Pt_places_up_to
  tm_places_up_to : (Pt_places_up_to, ("places_up_to.<locals>.<lambda>" : Str)) ∈ NMs.T K
  tu_places_up_to : ∀ p ∈ NMs.T K, p.1 = Pt_places_up_to → p.2 = "places_up_to.<locals>.<lambda>"
  F_places_up_to : FunL K "places_up_to" "places_up_to" s_places_up_to a_places_up_to fd_places_up_to ct_places_up_to
  b_places_up_to : Binds K fd_places_up_to ["machine", "width", "most"] []
  k_places_up_to : PySem.W.keepIn K (.ref a_places_up_to) = true
  g_places_up_to : mg "places_up_to" = some (.ref a_places_up_to)
  a_places : Addr
  fd_places : FuncData
  F_places : Fun K "places" "places" s_places a_places fd_places
  b_places : Binds K fd_places ["machine", "width"] []
  k_places : PySem.W.keepIn K (.ref a_places) = true
  g_places : mg "places" = some (.ref a_places)
  a_is_run : Addr
  fd_is_run : FuncData
  F_is_run : Fun K "is_run" "is_run" s_is_run a_is_run fd_is_run
  b_is_run : Binds K fd_is_run ["thing", "rows", "answers"] []
  k_is_run : PySem.W.keepIn K (.ref a_is_run) = true
  g_is_run : mg "is_run" = some (.ref a_is_run)
  a_check_run : Addr
  fd_check_run : FuncData
  F_check_run : Fun K "check_run" "check_run" s_check_run a_check_run fd_check_run
  b_check_run : Binds K fd_check_run ["machine", "run"] []
  k_check_run : PySem.W.keepIn K (.ref a_check_run) = true
  g_check_run : mg "check_run" = some (.ref a_check_run)
  a_walked : Addr
  fd_walked : FuncData
  F_walked : Fun K "walked" "walked" s_walked a_walked fd_walked
  b_walked : Binds K fd_walked ["machine", "start", "run"] []
  k_walked : PySem.W.keepIn K (.ref a_walked) = true
  g_walked : mg "walked" = some (.ref a_walked)
  a_standing : Addr
  fd_standing : FuncData
  F_standing : Fun K "standing" "standing" s_standing a_standing fd_standing
  b_standing : Binds K fd_standing ["machine", "run"] []
  k_standing : PySem.W.keepIn K (.ref a_standing) = true
  g_standing : mg "standing" = some (.ref a_standing)
  a_law_run : Addr
  fd_law_run : FuncData
  F_law_run : Fun K "_law_run" "_law_run" s_law_run a_law_run fd_law_run
  b_law_run : Binds K fd_law_run ["hand", "machine", "many"] []
  k_law_run : PySem.W.keepIn K (.ref a_law_run) = true
  g_law_run : mg "_law_run" = some (.ref a_law_run)
  a_law : Addr
  fd_law : FuncData
  F_law : Fun K "law" "law" s_law a_law fd_law
  b_law : Binds K fd_law ["script"] []
  k_law : PySem.W.keepIn K (.ref a_law) = true
  g_law : mg "law" = some (.ref a_law)
  c_Machine : Addr
  C_Machine : mg "Machine" = some (.ref c_Machine)
  mk_Machine : Mk K c_Machine a_Machine_init
  f_answers : FldOk K mg fldC_answers "answers"
  f_moves : FldOk K mg fldC_moves "moves"
  f_rows : FldOk K mg fldC_rows "rows"
  f_size : FldOk K mg fldC_size "size"
  n_abs : mg "abs" = none
  n_all : mg "all" = none
  n_any : mg "any" = none
  n_bool : mg "bool" = none
  n_enumerate : mg "enumerate" = none
  n_int : mg "int" = none
  n_isinstance : mg "isinstance" = none
  n_len : mg "len" = none
  n_list : mg "list" = none
  n_max : mg "max" = none
  n_range : mg "range" = none
  n_sorted : mg "sorted" = none
  n_str : mg "str" = none
  n_tuple : mg "tuple" = none
  n_zip : mg "zip" = none
  c_LETTERS : ∃ t, mg "LETTERS" = some (.str "abcdefghijklmnopqrstuvwxyz" t)
  c_MOST_PLACES : ∃ t, mg "MOST_PLACES" = some (.int 300 t)
section
variable {P : Program} {w : World} {K : PySem.W.Frag} {mg : Str → Option Value} {base : Heap}
theorem G_law_hand (T : Txt K mg base w) : FnOk P w K mg base (L2.CX P w) 1 T.a_law_hand T.fd_law_hand ["script"] (spD K mg m_law_hand 1) := by
  rw [m_law_hand_e]
  refine fn_d T.F_law_hand sc_law_hand (fun cdv A outer s H E hr tk hx => ?_)
  show PSsd _ _ (defBody s_law_hand) d_law_hand
  unfold d_law_hand
  exact (by refine (pssd_cons ?_ (pssd_one ?_)); exact (psd_setLcFz (i := 1) rfl rfl (sw_true rfl rfl rfl (by decide +kernel)) rfl sc_law_hand.nd (pid_list (pd_slice (pd_var (pv 0)) pod_none (pod_some pd_int))) (blkOk_by (own := [("cell", 2)]) (N := N_law_hand) (show blkC N_law_hand (defScope s_law_hand) _ _ = true by decide +kernel)) (gs_name 2) (by decide) (fun _ _ _ _ _ => (pg_name (i := 2) sc_law_hand.nd rfl (.inl rfl))) (fun _ _ _ _ _ => ptsd_nil) (fun _ _ _ _ _ => (pd_callB call_abs rc_abs (by rfl) T.n_abs (by decide +kernel) (pad_cons (pd_callTy call_int1 rc_int (by rfl) T.n_int (by decide +kernel) (pad_cons (pd_var (pv 2)) pad_nil)) pad_nil)))); exact (psd_ret (pd_new (pld_lst (pad_cons (pd_var (pv 1)) (pad_cons pd_int (pad_cons pd_int (pad_cons (pd_op op_addAll rd_add pd_int (pd_callB call_len rc_len (by rfl) T.n_len (by decide +kernel) (pad_cons (pd_var (pv 1)) pad_nil))) (pad_cons pd_int pad_nil)))))))))
theorem G_law_draw (T : Txt K mg base w) : FnOk P w K mg base (L2.CX P w) 1 T.a_law_draw T.fd_law_draw ["hand", "many"] (spD K mg m_law_draw 2) := by
  rw [m_law_draw_e]
  refine fn_d T.F_law_draw sc_law_draw (fun cdv A outer s H E hr tk hx => ?_)
  show PSsd _ _ (defBody s_law_draw) d_law_draw
  unfold d_law_draw
  exact (by refine (pssd_cons ?_ (pssd_cons ?_ (pssd_cons ?_ (pssd_cons ?_ (pssd_cons ?_ (pssd_cons ?_ (pssd_one ?_))))))); exact (psd_if (ptd_w (pwd_and (ptd_cmp (op_eqD hr.units) rd_eq (pd_ix ix_seq rd_ix (pd_var (pv 0)) pd_int) pd_int (nomark _)) (pwd_and1 (ptd_cmp op_ltS rd_ltS (pd_ix ix_seq rd_ix (pd_var (pv 0)) pd_int) (pd_callB call_len rc_len (by rfl) T.n_len (by decide +kernel) (pad_cons (pd_ix ix_seq rd_ix (pd_var (pv 0)) pd_int) pad_nil)) (nomark _))))) (by refine (pssd_cons ?_ (pssd_cons ?_ (pssd_cons ?_ (pssd_one ?_)))); exact (psd_set (i := 2) sc_law_draw.nd rfl (.inl rfl) (pd_ix ix_seq rd_ix (pd_ix ix_seq rd_ix (pd_var (pv 0)) pd_int) (pd_ix ix_seq rd_ix (pd_var (pv 0)) pd_int))); exact (psd_setItem (pd_op op_addAll rd_add (pd_ix ix_seq rd_ix (pd_var (pv 0)) pd_int) pd_int) (pd_var (pv 0)) pd_int); exact (psd_setItem (pd_op op_mod rd_mod (pd_callTy call_int1 rc_int (by rfl) T.n_int (by decide +kernel) (pad_cons (pd_op op_addAll rd_add (pd_op op_addAll rd_add (pd_op op_mul rd_mul (pd_ix ix_seq rd_ix (pd_var (pv 0)) pd_int) pd_int) (pd_var (pv 2))) pd_int) pad_nil)) pd_int) (pd_var (pv 0)) pd_int); exact (psd_if (ptd_cmp op_ge rd_ge (pd_var (pv 2)) (pd_op op_pow rd_pow pd_int pd_int) (nomark _)) (by refine (pssd_one ?_); exact (psd_setItem (pd_var (pv 2)) (pd_var (pv 0)) pd_int)) pssd_nil)) pssd_nil); exact (psd_if (ptd_cmp op_gt rd_gt (pd_ix ix_seq rd_ix (pd_var (pv 0)) pd_int) pd_int (nomark _)) (by refine (pssd_cons ?_ (pssd_cons ?_ (pssd_one ?_))); exact (psd_set (i := 3) sc_law_draw.nd rfl (.inl rfl) (pd_op op_mod rd_mod (pd_callTy call_int1 rc_int (by rfl) T.n_int (by decide +kernel) (pad_cons (pd_ix ix_seq rd_ix (pd_var (pv 0)) pd_int) pad_nil)) (pd_var (pv 1)))); exact (psd_setItem (pd_op op_fdiv rd_div (pd_ix ix_seq rd_ix (pd_var (pv 0)) pd_int) (pd_var (pv 1))) (pd_var (pv 0)) pd_int); exact (psd_ret (pd_var (pv 3)))) pssd_nil); exact (psd_setItem (pd_op op_addAll rd_add (pd_ix ix_seq rd_ix (pd_var (pv 0)) pd_int) pd_int) (pd_var (pv 0)) pd_int); exact (psd_set (i := 4) sc_law_draw.nd rfl (.inl rfl) (pd_op op_mod rd_mod (pd_callTy call_int1 rc_int (by rfl) T.n_int (by decide +kernel) (pad_cons (pd_op op_mul rd_mul (pd_callTy call_int1 rc_int (by rfl) T.n_int (by decide +kernel) (pad_cons (pd_op op_addAll rd_add (pd_ix ix_seq rd_ix (pd_var (pv 0)) pd_int) (pd_op op_mul rd_mul pd_int (pd_ix ix_seq rd_ix (pd_var (pv 0)) pd_int))) pad_nil)) pd_int) pad_nil)) pd_int)); exact (psd_set (i := 4) sc_law_draw.nd rfl (.inl rfl) (pd_op op_mod rd_mod (pd_callTy call_int1 rc_int (by rfl) T.n_int (by decide +kernel) (pad_cons (pd_op op_mul rd_mul (pd_var (pv 4)) (pd_op op_addAll rd_add (pd_op op_fdiv rd_div (pd_var (pv 4)) pd_int) pd_int)) pad_nil)) pd_int)); exact (psd_set (i := 4) sc_law_draw.nd rfl (.inl rfl) (pd_op op_mod rd_mod (pd_callTy call_int1 rc_int (by rfl) T.n_int (by decide +kernel) (pad_cons (pd_op op_mul rd_mul (pd_var (pv 4)) (pd_op op_addAll rd_add (pd_op op_fdiv rd_div (pd_var (pv 4)) pd_int) pd_int)) pad_nil)) pd_int)); exact (psd_ret (pd_op op_mod rd_mod (pd_callTy call_int1 rc_int (by rfl) T.n_int (by decide +kernel) (pad_cons (pd_op op_fdiv rd_div (pd_var (pv 4)) pd_int) pad_nil)) (pd_var (pv 1)))))
theorem G_law_rows (T : Txt K mg base w) : FnOk P w K mg base (L2.CX P w) 2 T.a_law_rows T.fd_law_rows ["hand", "many"] (spD K mg m_law_rows 2) := by
  have G_law_draw := G_law_draw (P := P) (w := w) (base := base) T
  rw [m_law_rows_e]
  refine fn_d T.F_law_rows sc_law_rows (fun cdv A outer s H E hr tk hx => ?_)
  show PSsd _ _ (defBody s_law_rows) d_law_rows
  unfold d_law_rows
  exact (by refine (pssd_cons ?_ (pssd_cons ?_ (pssd_cons ?_ (pssd_one ?_)))); exact (psd_set (i := 2) sc_law_rows.nd rfl (.inl rfl) (pd_new (pld_callTy (cr_listAll rfl) rcl_listAll (by rfl) T.n_list (by decide +kernel) (pad_cons pd_str pad_nil)))); exact (psd_set (i := 3) sc_law_rows.nd rfl (.inl rfl) (pd_new (pld_lst pad_nil))); exact (psd_for (passes_of rfl) rfl (pid_range1 (by rfl) T.n_range (pad_cons (pd_var (pv 1)) pad_nil)) (pg_name (i := 4) sc_law_rows.nd rfl (.inl rfl)) (gs_name 4) (by refine (pssd_one ?_); exact (psd_expr (pd_bm PySem.F.plainAttrs_list PySem.F.slot_list_append PySem.F.type_list_append mt_append rm_append (pd_var (pv 3)) (pad_cons (pd_bm PySem.F.plainAttrs_list PySem.F.slot_list_pop PySem.F.type_list_pop mt_popAt rm_popAt (pd_var (pv 2)) (pad_cons (pd_own G_law_draw (hr.mono (by decide)) (by rfl) T.g_law_draw T.k_law_draw T.b_law_draw hx (pad_cons (pd_var (pv 0)) (pad_cons (pd_callB call_len rc_len (by rfl) T.n_len (by decide +kernel) (pad_cons (pd_var (pv 2)) pad_nil)) pad_nil))) pad_nil)) pad_nil))))); exact (psd_ret (pd_bm PySem.F.plainAttrs_str PySem.F.slot_str_join PySem.F.type_str_join mt_join rm_join pd_str (pad_cons (pd_fz (pld_callB cr_sortedAny rcl_sorted (by rfl) T.n_sorted (by decide +kernel) (pad_cons (pd_var (pv 3)) pad_nil))) pad_nil))))
theorem G_law_move (T : Txt K mg base w) : FnOk P w K mg base (L2.CX P w) 2 T.a_law_move T.fd_law_move ["hand", "kind", "size", "most", "place"] (spD K mg m_law_move 5) := by
  have G_law_draw := G_law_draw (P := P) (w := w) (base := base) T
  rw [m_law_move_e]
  refine fn_d T.F_law_move sc_law_move (fun cdv A outer s H E hr tk hx => ?_)
  show PSsd _ _ (defBody s_law_move) d_law_move
  unfold d_law_move
  exact (by refine (pssd_cons ?_ (pssd_cons ?_ (pssd_cons ?_ (pssd_cons ?_ (pssd_cons ?_ (pssd_cons ?_ (pssd_cons ?_ (pssd_one ?_)))))))); exact (psd_set (i := 5) sc_law_move.nd rfl (.inl rfl) (pd_own G_law_draw (hr.mono (by decide)) (by rfl) T.g_law_draw T.k_law_draw T.b_law_draw hx (pad_cons (pd_var (pv 0)) (pad_cons (pd_var (pv 2)) pad_nil)))); exact (psd_set (i := 6) sc_law_move.nd rfl (.inl rfl) (pd_op op_addAll rd_add pd_int (pd_own G_law_draw (hr.mono (by decide)) (by rfl) T.g_law_draw T.k_law_draw T.b_law_draw hx (pad_cons (pd_var (pv 0)) (pad_cons (pd_var (pv 3)) pad_nil))))); exact (psd_if (ptd_cmp (op_eqD hr.units) rd_eq (pd_var (pv 1)) pd_int (nomark _)) (by refine (pssd_one ?_); exact (psd_set (i := 5) sc_law_move.nd rfl (.inl rfl) (pd_op op_mod rd_mod (pd_callTy call_int1 rc_int (by rfl) T.n_int (by decide +kernel) (pad_cons (pd_ix ix_seq rd_ix (pd_var (pv 4)) pd_int) pad_nil)) (pd_var (pv 2))))) pssd_nil); exact (psd_if (ptd_cmp (op_eqD hr.units) rd_eq (pd_var (pv 1)) pd_int (nomark _)) (by refine (pssd_one ?_); exact (psd_set (i := 5) sc_law_move.nd rfl (.inl rfl) (pd_op op_mod rd_mod (pd_callTy call_int1 rc_int (by rfl) T.n_int (by decide +kernel) (pad_cons (pd_op op_addAll rd_add (pd_op op_addAll rd_add (pd_ix ix_seq rd_ix (pd_var (pv 4)) pd_int) (pd_ix ix_seq rd_ix (pd_var (pv 4)) pd_int)) pd_int) pad_nil)) (pd_var (pv 2))))) pssd_nil); exact (psd_if (ptd_cmp (op_eqD hr.units) rd_eq (pd_var (pv 1)) pd_int (nomark _)) (by refine (pssd_one ?_); exact (psd_set (i := 5) sc_law_move.nd rfl (.inl rfl) (pd_callB (call_max2 rfl) rc_max2 (by rfl) T.n_max (by decide +kernel) (pad_cons (pd_var (pv 5)) (pad_cons (pd_ix ix_seq rd_ix (pd_var (pv 4)) pd_int) pad_nil))))) pssd_nil); exact (psd_if (ptd_cmp (op_eqD hr.units) rd_eq (pd_var (pv 1)) pd_int (nomark _)) (by refine (pssd_one ?_); exact (psd_set (i := 6) sc_law_move.nd rfl (.inl rfl) (pd_op op_addAll rd_add pd_int (pd_op op_mod rd_mod (pd_callTy call_int1 rc_int (by rfl) T.n_int (by decide +kernel) (pad_cons (pd_op op_mul rd_mul (pd_ix ix_seq rd_ix (pd_var (pv 4)) pd_int) pd_int) pad_nil)) pd_int)))) pssd_nil); exact (psd_if (ptd_cmp (op_eqD hr.units) rd_eq (pd_var (pv 1)) pd_int (nomark _)) (by refine (pssd_one ?_); exact (psd_set (i := 6) sc_law_move.nd rfl (.inl rfl) (pd_op op_addAll rd_add (pd_op op_sub rd_sub (pd_op op_addAll rd_add pd_int (pd_op op_mul rd_mul pd_int (pd_var (pv 5)))) (pd_op op_mul rd_mul pd_int (pd_ix ix_seq rd_ix (pd_var (pv 4)) pd_int))) (pd_ix ix_seq rd_ix (pd_var (pv 4)) pd_int)))) pssd_nil); exact (psd_ret (pd_tup (pad_cons (pd_var (pv 6)) (pad_cons (pd_var (pv 5)) pad_nil)))))
theorem G_law_moves (T : Txt K mg base w) : FnOk P w K mg base (L2.CX P w) 3 T.a_law_moves T.fd_law_moves ["hand", "size", "many", "answers"] (spD K mg m_law_moves 4) := by
  have G_law_draw := G_law_draw (P := P) (w := w) (base := base) T
  have G_law_move := G_law_move (P := P) (w := w) (base := base) T
  rw [m_law_moves_e]
  refine fn_d T.F_law_moves sc_law_moves (fun cdv A outer s H E hr tk hx => ?_)
  show PSsd _ _ (defBody s_law_moves) d_law_moves
  unfold d_law_moves
  exact (by refine (pssd_cons ?_ (pssd_cons ?_ (pssd_cons ?_ (pssd_cons ?_ (pssd_one ?_))))); exact (psd_set (i := 4) sc_law_moves.nd rfl (.inr rfl) (pd_own G_law_draw (hr.mono (by decide)) (by rfl) T.g_law_draw T.k_law_draw T.b_law_draw hx (pad_cons (pd_var (pv 0)) (pad_cons pd_int pad_nil)))); exact (psd_set (i := 5) sc_law_moves.nd rfl (.inr rfl) (pd_ix ix_seq rd_ix (pd_fz (pld_lst (pad_cons pd_int (pad_cons pd_int (pad_cons pd_int (pad_cons pd_int pad_nil)))))) (pd_own G_law_draw (hr.mono (by decide)) (by rfl) T.g_law_draw T.k_law_draw T.b_law_draw hx (pad_cons (pd_var (pv 0)) (pad_cons pd_int pad_nil))))); exact (psd_set (i := 6) sc_law_moves.nd rfl (.inl rfl) (pd_new (pld_lst pad_nil))); exact (psd_for (passes_of rfl) rfl (pid_range1 (by rfl) T.n_range (pad_cons (pd_var (pv 1)) pad_nil)) (pg_name (i := 7) sc_law_moves.nd rfl (.inr rfl)) (gs_name 7) (by refine (pssd_cons ?_ (pssd_cons ?_ (pssd_one ?_))); exact (psd_set (i := 8) sc_law_moves.nd rfl (.inl rfl) (pd_new (pld_lst pad_nil))); exact (psd_for (passes_of rfl) rfl (pid_range1 (by rfl) T.n_range (pad_cons (pd_var (pv 2)) pad_nil)) (pg_name (i := 9) sc_law_moves.nd rfl (.inr rfl)) (gs_name 9) (by refine (pssd_one ?_); exact (psd_expr (pd_bm PySem.F.plainAttrs_list PySem.F.slot_list_append PySem.F.type_list_append mt_append rm_append (pd_var (pv 8)) (pad_cons (pd_callTy call_tuple_of rc_tuple (by rfl) T.n_tuple (by decide +kernel) (pad_cons (pd_fz (pld_lc rfl sc_law_moves.nd (pid_range1 (by rfl) T.n_range (pad_cons (pd_var (pv 3)) pad_nil)) (blkOk_by (own := [("answer", 10)]) (N := N_law_moves) (show blkC N_law_moves (defScope s_law_moves) _ _ = true by decide +kernel)) (gs_name 10) (by decide) (fun _ _ _ _ _ => (pg_name (i := 10) sc_law_moves.nd rfl (.inl rfl))) (fun _ _ _ _ _ => ptsd_nil) (fun _ _ _ _ _ => (pd_own G_law_move (hr.mono (by decide)) (by rfl) T.g_law_move T.k_law_move T.b_law_move lets0 (pad_cons (pd_var (pv 0)) (pad_cons (pd_var (pv 4)) (pad_cons (pd_var (pv 1)) (pad_cons (pd_var (pv 5)) (pad_cons (pd_tup (pad_cons (pd_var (pv 7)) (pad_cons (pd_var (pv 9)) pad_nil))) pad_nil))))))))) pad_nil)) pad_nil))))); exact (psd_expr (pd_bm PySem.F.plainAttrs_list PySem.F.slot_list_append PySem.F.type_list_append mt_append rm_append (pd_var (pv 6)) (pad_cons (pd_callTy call_tuple_of rc_tuple (by rfl) T.n_tuple (by decide +kernel) (pad_cons (pd_var (pv 8)) pad_nil)) pad_nil))))); exact (psd_ret (pd_callTy call_tuple_of rc_tuple (by rfl) T.n_tuple (by decide +kernel) (pad_cons (pd_var (pv 6)) pad_nil))))
theorem G_law_machine (T : Txt K mg base w) : FnOk P w K mg base (L2.CX P w) 4 T.a_law_machine T.fd_law_machine ["hand"] (spD K mg m_law_machine 1) := by
  have G_law_draw := G_law_draw (P := P) (w := w) (base := base) T
  have G_law_rows := G_law_rows (P := P) (w := w) (base := base) T
  have G_law_moves := G_law_moves (P := P) (w := w) (base := base) T
  rw [m_law_machine_e]
  refine fn_d T.F_law_machine sc_law_machine (fun cdv A outer s H E hr tk hx => ?_)
  show PSsd _ _ (defBody s_law_machine) d_law_machine
  unfold d_law_machine
  exact (by refine (pssd_cons ?_ (pssd_cons ?_ (pssd_one ?_))); exact (psd_set (i := 1) sc_law_machine.nd rfl (.inl rfl) (pd_own G_law_rows (hr.mono (by decide)) (by rfl) T.g_law_rows T.k_law_rows T.b_law_rows hx (pad_cons (pd_var (pv 0)) (pad_cons (pd_ix ix_seq rd_ix (pd_fz (pld_lst (pad_cons pd_int (pad_cons pd_int (pad_cons pd_int (pad_cons pd_int pad_nil)))))) (pd_own G_law_draw (hr.mono (by decide)) (by rfl) T.g_law_draw T.k_law_draw T.b_law_draw hx (pad_cons (pd_var (pv 0)) (pad_cons pd_int pad_nil)))) pad_nil)))); exact (psd_set (i := 2) sc_law_machine.nd rfl (.inl rfl) (pd_ix ix_seq rd_ix (pd_fz (pld_lst (pad_cons pd_int (pad_cons pd_int (pad_cons pd_int (pad_cons pd_int pad_nil)))))) (pd_own G_law_draw (hr.mono (by decide)) (by rfl) T.g_law_draw T.k_law_draw T.b_law_draw hx (pad_cons (pd_var (pv 0)) (pad_cons pd_int pad_nil))))); exact (psd_ret (pd_fz (pld_lst (pad_cons (pd_var (pv 1)) (pad_cons (pd_var (pv 2)) (pad_cons (pd_own G_law_moves (hr.mono (by decide)) (by rfl) T.g_law_moves T.k_law_moves T.b_law_moves hx (pad_cons (pd_var (pv 0)) (pad_cons (pd_op op_addAll rd_add pd_int (pd_own G_law_draw (hr.mono (by decide)) (by rfl) T.g_law_draw T.k_law_draw T.b_law_draw hx (pad_cons (pd_var (pv 0)) (pad_cons pd_int pad_nil)))) (pad_cons (pd_callB call_len rc_len (by rfl) T.n_len (by decide +kernel) (pad_cons (pd_var (pv 1)) pad_nil)) (pad_cons (pd_var (pv 2)) pad_nil))))) pad_nil)))))))
theorem G_is_code (T : Txt K mg base w) : FnOk P w K mg base (L2.CX P w) 1 T.a_is_code T.fd_is_code ["thing", "rows"] (spD K mg m_is_code 2) := by
  rw [m_is_code_e]
  refine fn_d T.F_is_code sc_is_code (fun cdv A outer s H E hr tk hx => ?_)
  show PSsd _ _ (defBody s_is_code) d_is_code
  unfold d_is_code
  exact (by refine (pssd_one ?_); exact (psd_ret (pd_and (pd_callB call_isi rc_isi (by rfl) T.n_isinstance (by decide +kernel) (pad_cons (pd_var (pv 0)) (pad_cons (pd_c (v := .ty "str") (pe_bltn (by rfl) T.n_str (by decide +kernel) rfl) rfl) pad_nil))) (pd_one (pd_callB (cr_all rfl) rc_all (by rfl) T.n_all (by decide +kernel) (pad_cons (pd_fz (pld_lc rfl sc_is_code.nd (pid_str (pd_var (pv 0))) (blkOk_by (own := [("row", 2)]) (N := N_is_code) (show blkC N_is_code (defScope s_is_code) _ _ = true by decide +kernel)) (gs_name 2) (by decide) (fun _ _ _ _ _ => (pg_name (i := 2) sc_is_code.nd rfl (.inl rfl))) (fun _ _ _ _ _ => ptsd_nil) (fun _ _ _ _ _ => (pd_cmp op_inAll rd_in (pd_var (pv 2)) (pd_var (pv 1)) (by rfl))))) pad_nil))))))
theorem G_is_letters (T : Txt K mg base w) : FnOk P w K mg base (L2.CX P w) 2 T.a_is_letters T.fd_is_letters ["thing", "letters"] (spD K mg m_is_letters 2) := by
  have G_is_code := G_is_code (P := P) (w := w) (base := base) T
  rw [m_is_letters_e]
  refine fn_d T.F_is_letters sc_is_letters (fun cdv A outer s H E hr tk hx => ?_)
  show PSsd _ _ (defBody s_is_letters) d_is_letters
  unfold d_is_letters
  exact (by refine (pssd_cons ?_ (pssd_one ?_)); exact (psd_if (ptd_w (pwd_or (ptd_not (ptd_truth (pd_own G_is_code (hr.mono (by decide)) (by rfl) T.g_is_code T.k_is_code T.b_is_code hx (pad_cons (pd_var (pv 0)) (pad_cons (pd_var (pv 1)) pad_nil))))) (pwd_or1 (ptd_cmp (op_eqD hr.units) rd_eq (pd_var (pv 0)) pd_str (nomark _))))) (by refine (pssd_one ?_); exact (psd_ret pd_bl)) pssd_nil); exact (psd_ret (pd_callB (cr_all rfl) rc_all (by rfl) T.n_all (by decide +kernel) (pad_cons (pd_fz (pld_lc rfl sc_is_letters.nd (pid_range1 (by rfl) T.n_range (pad_cons (pd_op op_sub rd_sub (pd_callB call_len rc_len (by rfl) T.n_len (by decide +kernel) (pad_cons (pd_var (pv 0)) pad_nil)) pd_int) pad_nil)) (blkOk_by (own := [("at", 2)]) (N := N_is_letters) (show blkC N_is_letters (defScope s_is_letters) _ _ = true by decide +kernel)) (gs_name 2) (by decide) (fun _ _ _ _ _ => (pg_name (i := 2) sc_is_letters.nd rfl (.inl rfl))) (fun _ _ _ _ _ => ptsd_nil) (fun _ _ _ _ _ => (pd_cmp op_ltS rd_ltS (pd_ix ix_seq rd_ix (pd_var (pv 0)) (pd_var (pv 2))) (pd_ix ix_seq rd_ix (pd_var (pv 0)) (pd_op op_addAll rd_add (pd_var (pv 2)) pd_int)) (nomark _))))) pad_nil))))
theorem G_is_rows (T : Txt K mg base w) : FnOk P w K mg base (L2.CX P w) 3 T.a_is_rows T.fd_is_rows ["thing"] (spD K mg m_is_rows 1) := by
  have G_is_letters := G_is_letters (P := P) (w := w) (base := base) T
  rw [m_is_rows_e]
  refine fn_d T.F_is_rows sc_is_rows (fun cdv A outer s H E hr tk hx => ?_)
  show PSsd _ _ (defBody s_is_rows) d_is_rows
  unfold d_is_rows
  exact (by refine (pssd_one ?_); exact (psd_ret (pd_and (pd_own G_is_letters (hr.mono (by decide)) (by rfl) T.g_is_letters T.k_is_letters T.b_is_letters hx (pad_cons (pd_var (pv 0)) (pad_cons (pd_c (pe_glob (v := .str "abcdefghijklmnopqrstuvwxyz") (by rfl) T.c_LETTERS.choose_spec ⟨_, rfl⟩) rfl) pad_nil))) (pd_one (pd_cmp op_le rd_le (pd_callB call_len rc_len (by rfl) T.n_len (by decide +kernel) (pad_cons (pd_var (pv 0)) pad_nil)) pd_int (nomark _))))))
theorem G_is_integer (T : Txt K mg base w) : FnOk P w K mg base (L2.CX P w) 1 T.a_is_integer T.fd_is_integer ["thing"] (spD K mg m_is_integer 1) := by
  rw [m_is_integer_e]
  refine fn_d T.F_is_integer sc_is_integer (fun cdv A outer s H E hr tk hx => ?_)
  show PSsd _ _ (defBody s_is_integer) d_is_integer
  unfold d_is_integer
  exact (by refine (pssd_one ?_); exact (psd_ret (pd_and (pd_callB call_isi rc_isi (by rfl) T.n_isinstance (by decide +kernel) (pad_cons (pd_var (pv 0)) (pad_cons (pd_c (v := .ty "int") (pe_bltn (by rfl) T.n_int (by decide +kernel) rfl) rfl) pad_nil))) (pd_one (pd_not (pd_callB call_isi rc_isi (by rfl) T.n_isinstance (by decide +kernel) (pad_cons (pd_var (pv 0)) (pad_cons (pd_c (v := .ty "bool") (pe_bltn (by rfl) T.n_bool (by decide +kernel) rfl) rfl) pad_nil))))))))
theorem G_is_between (T : Txt K mg base w) : FnOk P w K mg base (L2.CX P w) 2 T.a_is_between T.fd_is_between ["thing", "least", "most"] (spD K mg m_is_between 3) := by
  have G_is_integer := G_is_integer (P := P) (w := w) (base := base) T
  rw [m_is_between_e]
  refine fn_d T.F_is_between sc_is_between (fun cdv A outer s H E hr tk hx => ?_)
  show PSsd _ _ (defBody s_is_between) d_is_between
  unfold d_is_between
  exact (by refine (pssd_one ?_); exact (psd_ret (pd_and (pd_own G_is_integer (hr.mono (by decide)) (by rfl) T.g_is_integer T.k_is_integer T.b_is_integer hx (pad_cons (pd_var (pv 0)) pad_nil)) (pd_one (pd_chain op_le op_le rd_le rd_le (pd_var (pv 1)) (pd_var (pv 0)) (pd_var (pv 2)))))))
theorem G_is_answers (T : Txt K mg base w) : FnOk P w K mg base (L2.CX P w) 3 T.a_is_answers T.fd_is_answers ["thing"] (spD K mg m_is_answers 1) := by
  have G_is_between := G_is_between (P := P) (w := w) (base := base) T
  rw [m_is_answers_e]
  refine fn_d T.F_is_answers sc_is_answers (fun cdv A outer s H E hr tk hx => ?_)
  show PSsd _ _ (defBody s_is_answers) d_is_answers
  unfold d_is_answers
  exact (by refine (pssd_one ?_); exact (psd_ret (pd_own G_is_between (hr.mono (by decide)) (by rfl) T.g_is_between T.k_is_between T.b_is_between hx (pad_cons (pd_var (pv 0)) (pad_cons pd_int (pad_cons pd_int pad_nil))))))
theorem G_is_tuple (T : Txt K mg base w) : FnOk P w K mg base (L2.CX P w) 1 T.a_is_tuple T.fd_is_tuple ["thing", "many"] (spD K mg m_is_tuple 2) := by
  rw [m_is_tuple_e]
  refine fn_d T.F_is_tuple sc_is_tuple (fun cdv A outer s H E hr tk hx => ?_)
  show PSsd _ _ (defBody s_is_tuple) d_is_tuple
  unfold d_is_tuple
  exact (by refine (pssd_one ?_); exact (psd_ret (pd_and (pd_callB call_isi rc_isi (by rfl) T.n_isinstance (by decide +kernel) (pad_cons (pd_var (pv 0)) (pad_cons (pd_c (v := .ty "tuple") (pe_bltn (by rfl) T.n_tuple (by decide +kernel) rfl) rfl) pad_nil))) (pd_one (pd_cmp (op_eqD hr.units) rd_eq (pd_callB call_len rc_len (by rfl) T.n_len (by decide +kernel) (pad_cons (pd_var (pv 0)) pad_nil)) (pd_var (pv 1)) (nomark _))))))
theorem G_is_move (T : Txt K mg base w) : FnOk P w K mg base (L2.CX P w) 3 T.a_is_move T.fd_is_move ["pair", "size"] (spD K mg m_is_move 2) := by
  have G_is_between := G_is_between (P := P) (w := w) (base := base) T
  have G_is_tuple := G_is_tuple (P := P) (w := w) (base := base) T
  rw [m_is_move_e]
  refine fn_d T.F_is_move sc_is_move (fun cdv A outer s H E hr tk hx => ?_)
  show PSsd _ _ (defBody s_is_move) d_is_move
  unfold d_is_move
  exact (by refine (pssd_one ?_); exact (psd_ret (pd_and (pd_own G_is_tuple (hr.mono (by decide)) (by rfl) T.g_is_tuple T.k_is_tuple T.b_is_tuple hx (pad_cons (pd_var (pv 0)) (pad_cons pd_int pad_nil))) (pd_and (pd_own G_is_between (hr.mono (by decide)) (by rfl) T.g_is_between T.k_is_between T.b_is_between hx (pad_cons (pd_ix ix_seq rd_ix (pd_var (pv 0)) pd_int) (pad_cons pd_int (pad_cons pd_int pad_nil)))) (pd_one (pd_own G_is_between (hr.mono (by decide)) (by rfl) T.g_is_between T.k_is_between T.b_is_between hx (pad_cons (pd_ix ix_seq rd_ix (pd_var (pv 0)) pd_int) (pad_cons pd_int (pad_cons (pd_op op_sub rd_sub (pd_var (pv 1)) pd_int) pad_nil)))))))))
theorem G_are_pairs (T : Txt K mg base w) : FnOk P w K mg base (L2.CX P w) 4 T.a_are_pairs T.fd_are_pairs ["pairs", "answers", "size"] (spD K mg m_are_pairs 3) := by
  have G_is_tuple := G_is_tuple (P := P) (w := w) (base := base) T
  have G_is_move := G_is_move (P := P) (w := w) (base := base) T
  rw [m_are_pairs_e]
  refine fn_d T.F_are_pairs sc_are_pairs (fun cdv A outer s H E hr tk hx => ?_)
  show PSsd _ _ (defBody s_are_pairs) d_are_pairs
  unfold d_are_pairs
  exact (by refine (pssd_one ?_); exact (psd_ret (pd_and (pd_own G_is_tuple (hr.mono (by decide)) (by rfl) T.g_is_tuple T.k_is_tuple T.b_is_tuple hx (pad_cons (pd_var (pv 0)) (pad_cons (pd_var (pv 1)) pad_nil))) (pd_one (pd_callB (cr_all rfl) rc_all (by rfl) T.n_all (by decide +kernel) (pad_cons (pd_fz (pld_lc rfl sc_are_pairs.nd (pid_tup (pd_var (pv 0))) (blkOk_by (own := [("pair", 3)]) (N := N_are_pairs) (show blkC N_are_pairs (defScope s_are_pairs) _ _ = true by decide +kernel)) (gs_name 3) (by decide) (fun _ _ _ _ _ => (pg_name (i := 3) sc_are_pairs.nd rfl (.inl rfl))) (fun _ _ _ _ _ => ptsd_nil) (fun _ _ _ _ _ => (pd_own G_is_move (hr.mono (by decide)) (by rfl) T.g_is_move T.k_is_move T.b_is_move lets0 (pad_cons (pd_var (pv 3)) (pad_cons (pd_var (pv 2)) pad_nil)))))) pad_nil))))))
theorem G_is_item (T : Txt K mg base w) : FnOk P w K mg base (L2.CX P w) 5 T.a_is_item T.fd_is_item ["item", "rows", "answers", "size"] (spD K mg m_is_item 4) := by
  have G_is_tuple := G_is_tuple (P := P) (w := w) (base := base) T
  have G_are_pairs := G_are_pairs (P := P) (w := w) (base := base) T
  rw [m_is_item_e]
  refine fn_d T.F_is_item sc_is_item (fun cdv A outer s H E hr tk hx => ?_)
  show PSsd _ _ (defBody s_is_item) d_is_item
  unfold d_is_item
  exact (by refine (pssd_one ?_); exact (psd_ret (pd_and (pd_own G_is_tuple (hr.mono (by decide)) (by rfl) T.g_is_tuple T.k_is_tuple T.b_is_tuple hx (pad_cons (pd_var (pv 0)) (pad_cons (pd_var (pv 1)) pad_nil))) (pd_one (pd_callB (cr_all rfl) rc_all (by rfl) T.n_all (by decide +kernel) (pad_cons (pd_fz (pld_lc rfl sc_is_item.nd (pid_tup (pd_var (pv 0))) (blkOk_by (own := [("pairs", 4)]) (N := N_is_item) (show blkC N_is_item (defScope s_is_item) _ _ = true by decide +kernel)) (gs_name 4) (by decide) (fun _ _ _ _ _ => (pg_name (i := 4) sc_is_item.nd rfl (.inl rfl))) (fun _ _ _ _ _ => ptsd_nil) (fun _ _ _ _ _ => (pd_own G_are_pairs (hr.mono (by decide)) (by rfl) T.g_are_pairs T.k_are_pairs T.b_are_pairs lets0 (pad_cons (pd_var (pv 4)) (pad_cons (pd_var (pv 2)) (pad_cons (pd_var (pv 3)) pad_nil))))))) pad_nil))))))
theorem G_are_moves (T : Txt K mg base w) : FnOk P w K mg base (L2.CX P w) 6 T.a_are_moves T.fd_are_moves ["moves", "rows", "answers"] (spD K mg m_are_moves 3) := by
  have G_is_item := G_is_item (P := P) (w := w) (base := base) T
  rw [m_are_moves_e]
  refine fn_d T.F_are_moves sc_are_moves (fun cdv A outer s H E hr tk hx => ?_)
  show PSsd _ _ (defBody s_are_moves) d_are_moves
  unfold d_are_moves
  exact (by refine (pssd_cons ?_ (pssd_one ?_)); exact (psd_if (ptd_w (pwd_or (ptd_not (ptd_truth (pd_callB call_isi rc_isi (by rfl) T.n_isinstance (by decide +kernel) (pad_cons (pd_var (pv 0)) (pad_cons (pd_c (v := .ty "tuple") (pe_bltn (by rfl) T.n_tuple (by decide +kernel) rfl) rfl) pad_nil))))) (pwd_or1 (ptd_not (ptd_chain op_le op_le rd_le rd_le pd_int (pd_callB call_len rc_len (by rfl) T.n_len (by decide +kernel) (pad_cons (pd_var (pv 0)) pad_nil)) pd_int))))) (by refine (pssd_one ?_); exact (psd_ret pd_bl)) pssd_nil); exact (psd_ret (pd_callB (cr_all rfl) rc_all (by rfl) T.n_all (by decide +kernel) (pad_cons (pd_fz (pld_lc rfl sc_are_moves.nd (pid_tup (pd_var (pv 0))) (blkOk_by (own := [("item", 3)]) (N := N_are_moves) (show blkC N_are_moves (defScope s_are_moves) _ _ = true by decide +kernel)) (gs_name 3) (by decide) (fun _ _ _ _ _ => (pg_name (i := 3) sc_are_moves.nd rfl (.inl rfl))) (fun _ _ _ _ _ => ptsd_nil) (fun _ _ _ _ _ => (pd_own G_is_item (hr.mono (by decide)) (by rfl) T.g_is_item T.k_is_item T.b_is_item lets0 (pad_cons (pd_var (pv 3)) (pad_cons (pd_callB call_len rc_len (by rfl) T.n_len (by decide +kernel) (pad_cons (pd_var (pv 1)) pad_nil)) (pad_cons (pd_var (pv 2)) (pad_cons (pd_callB call_len rc_len (by rfl) T.n_len (by decide +kernel) (pad_cons (pd_var (pv 0)) pad_nil)) pad_nil)))))))) pad_nil))))
theorem G_Machine_init (T : Txt K mg base w) : FnOk P w K mg base (L2.CX P w) 7 T.a_Machine_init T.fd_Machine_init ["self", "rows", "answers", "moves"] (spD K mg m_Machine_init 4) := by
  have G_is_rows := G_is_rows (P := P) (w := w) (base := base) T
  have G_is_answers := G_is_answers (P := P) (w := w) (base := base) T
  have G_are_moves := G_are_moves (P := P) (w := w) (base := base) T
  rw [m_Machine_init_e]
  refine fn_d T.F_Machine_init sc_Machine_init (fun cdv A outer s H E hr tk hx => ?_)
  show PSsd _ _ (defBody s_Machine_init) d_Machine_init
  unfold d_Machine_init
  exact (by refine (pssd_cons ?_ (pssd_cons ?_ (pssd_cons ?_ (pssd_cons ?_ (pssd_cons ?_ (pssd_cons ?_ (pssd_one ?_))))))); exact (psd_if (ptd_not (ptd_truth (pd_own G_is_rows (hr.mono (by decide)) (by rfl) T.g_is_rows T.k_is_rows T.b_is_rows hx (pad_cons (pd_var (pv 1)) pad_nil)))) (by refine (pssd_one ?_); exact psd_never) pssd_nil); exact (psd_if (ptd_not (ptd_truth (pd_own G_is_answers (hr.mono (by decide)) (by rfl) T.g_is_answers T.k_is_answers T.b_is_answers hx (pad_cons (pd_var (pv 2)) pad_nil)))) (by refine (pssd_one ?_); exact psd_never) pssd_nil); exact (psd_if (ptd_not (ptd_truth (pd_own G_are_moves (hr.mono (by decide)) (by rfl) T.g_are_moves T.k_are_moves T.b_are_moves hx (pad_cons (pd_var (pv 3)) (pad_cons (pd_var (pv 1)) (pad_cons (pd_var (pv 2)) pad_nil)))))) (by refine (pssd_one ?_); exact psd_never) pssd_nil); exact (psd_setFld T.f_rows (pd_var (pv 0)) (pd_var (pv 1))); exact (psd_setFld T.f_answers (pd_var (pv 0)) (pd_var (pv 2))); exact (psd_setFld T.f_moves (pd_var (pv 0)) (pd_var (pv 3))); exact (psd_setFld T.f_size (pd_var (pv 0)) (pd_callB call_len rc_len (by rfl) T.n_len (by decide +kernel) (pad_cons (pd_var (pv 3)) pad_nil))))
theorem G_law_tail (T : Txt K mg base w) : FnOk P w K mg base (L2.CX P w) 1 T.a_law_tail T.fd_law_tail ["code", "width"] (spD K mg m_law_tail 2) := by
  rw [m_law_tail_e]
  refine fn_d T.F_law_tail sc_law_tail (fun cdv A outer s H E hr tk hx => ?_)
  show PSsd _ _ (defBody s_law_tail) d_law_tail
  unfold d_law_tail
  exact (by refine (pssd_cons ?_ (pssd_one ?_)); exact (psd_if (ptd_cmp op_ltS rd_ltS (pd_callB call_len rc_len (by rfl) T.n_len (by decide +kernel) (pad_cons (pd_var (pv 0)) pad_nil)) (pd_op op_sub rd_sub (pd_var (pv 1)) pd_int) (nomark _)) (by refine (pssd_one ?_); exact (psd_ret (pd_op op_addAll rd_add pd_str (pd_var (pv 0))))) pssd_nil); exact (psd_ret (pd_slice (pd_var (pv 0)) (pod_some (pd_op op_addAll rd_add (pd_op op_sub rd_sub (pd_callB call_len rc_len (by rfl) T.n_len (by decide +kernel) (pad_cons (pd_var (pv 0)) pad_nil)) (pd_var (pv 1))) pd_int)) pod_none)))
theorem G_law_places (T : Txt K mg base w) : FnOk P w K mg base (L2.CX P w) 2 T.a_law_places T.fd_law_places ["machine", "width", "limit"] (spD K mg m_law_places 3) := by
  have G_law_tail := G_law_tail (P := P) (w := w) (base := base) T
  rw [m_law_places_e]
  refine fn_d T.F_law_places sc_law_places (fun cdv A outer s H E hr tk hx => ?_)
  show PSsd _ _ (defBody s_law_places) d_law_places
  unfold d_law_places
  exact (by refine (pssd_cons ?_ (pssd_cons ?_ (pssd_cons ?_ (pssd_cons ?_ (pssd_one ?_))))); exact (psd_asg (pd_var (pv 0)) (pg_seq rfl (pgs_cons (pg_name (i := 3) sc_law_places.nd rfl (.inl rfl)) (pgs_cons (pg_name (i := 4) sc_law_places.nd rfl (.inl rfl)) (pgs_cons (pg_name (i := 5) sc_law_places.nd rfl (.inl rfl)) pgs_nil)))) (gs_seq 3 (gss_cons (gs_name 3) (gss_cons (gs_name 4) (gss_cons (gs_name 5) gss_nil))))); exact (psd_set (i := 6) sc_law_places.nd rfl (.inl rfl) pd_dictNew); exact (psd_set (i := 7) sc_law_places.nd rfl (.inl rfl) (pd_fz (pld_lst (pad_cons (pd_tup (pad_cons pd_str (pad_cons (pd_tup pad_nil) (pad_cons pd_int pad_nil)))) pad_nil)))); exact (psd_for (passes_of rfl) rfl (pid_range1 (by rfl) T.n_range (pad_cons (pd_op op_addAll rd_add (pd_var (pv 2)) pd_int) pad_nil)) (pg_name (i := 8) sc_law_places.nd rfl (.inl rfl)) (gs_name 8) (by refine (pssd_cons ?_ (pssd_cons ?_ (pssd_cons ?_ (pssd_one ?_)))); exact (psd_set (i := 9) sc_law_places.nd rfl (.inl rfl) (pd_new (pld_lst pad_nil))); exact (psd_for (passes_of rfl) rfl (pid_list (pd_fz (pld_callB (cr_sortX (units80 hr)) rcl_sortX (by rfl) T.n_sorted (by decide +kernel) (pad_cons (pd_var (pv 7)) pad_nil)))) (pg_tup rfl (pgs_cons (pg_name (i := 10) sc_law_places.nd rfl (.inl rfl)) (pgs_cons (pg_name (i := 11) sc_law_places.nd rfl (.inl rfl)) (pgs_cons (pg_name (i := 12) sc_law_places.nd rfl (.inl rfl)) pgs_nil)))) (gs_tup 3 (gss_cons (gs_name 10) (gss_cons (gs_name 11) (gss_cons (gs_name 12) gss_nil)))) (by refine (pssd_cons ?_ (pssd_one ?_)); exact (psd_set (i := 13) sc_law_places.nd rfl (.inl rfl) (pd_tup (pad_cons (pd_var (pv 12)) (pad_cons (pd_own G_law_tail (hr.mono (by decide)) (by rfl) T.g_law_tail T.k_law_tail T.b_law_tail hx (pad_cons (pd_var (pv 10)) (pad_cons (pd_var (pv 1)) pad_nil))) pad_nil)))); exact (psd_if (ptd_cmp (op_keyNotIn (units16 hr)) (rd_kin T.hw) (pd_var (pv 13)) (pd_var (pv 6)) (by rfl)) (by refine (pssd_cons ?_ (pssd_one ?_)); exact (psd_setK T.hw (units16 hr) (pd_tup (pad_cons (pd_var (pv 10)) (pad_cons (pd_var (pv 11)) pad_nil))) (pd_var (pv 6)) (pd_var (pv 13))); exact (psd_for (passes_of rfl) rfl (pid_range1 (by rfl) T.n_range (pad_cons (pd_callB call_len rc_len (by rfl) T.n_len (by decide +kernel) (pad_cons (pd_var (pv 3)) pad_nil)) pad_nil)) (pg_name (i := 14) sc_law_places.nd rfl (.inl rfl)) (gs_name 14) (by refine (pssd_one ?_); exact (psd_for (passes_of rfl) rfl (pid_range1 (by rfl) T.n_range (pad_cons (pd_var (pv 4)) pad_nil)) (pg_name (i := 15) sc_law_places.nd rfl (.inl rfl)) (gs_name 15) (by refine (pssd_one ?_); exact (psd_expr (pd_bm PySem.F.plainAttrs_list PySem.F.slot_list_append PySem.F.type_list_append mt_append rm_append (pd_var (pv 9)) (pad_cons (pd_tup (pad_cons (pd_op op_addAll rd_add (pd_var (pv 10)) (pd_ix ix_seq rd_ix (pd_var (pv 3)) (pd_var (pv 14)))) (pad_cons (pd_op op_addAll rd_add (pd_var (pv 11)) (pd_tup (pad_cons (pd_var (pv 15)) pad_nil))) (pad_cons (pd_ix ix_seq rd_ix (pd_ix ix_seq rd_ix (pd_ix ix_seq rd_ix (pd_ix ix_seq rd_ix (pd_var (pv 5)) (pd_var (pv 12))) (pd_var (pv 14))) (pd_var (pv 15))) pd_int) pad_nil)))) pad_nil)))))))) pssd_nil))); exact (psd_set (i := 7) sc_law_places.nd rfl (.inl rfl) (pd_var (pv 9))); exact (psd_if (ptd_cmp op_gt rd_gt (pd_callB cr_lenK (rc_lenK T.hw) (by rfl) T.n_len (by decide +kernel) (pad_cons (pd_var (pv 6)) pad_nil)) (pd_var (pv 2)) (nomark _)) (by refine (pssd_one ?_); exact (psd_ret (pd_var (pv 6)))) pssd_nil))); exact (psd_ret (pd_var (pv 6))))
theorem G_is_width (T : Txt K mg base w) : FnOk P w K mg base (L2.CX P w) 3 T.a_is_width T.fd_is_width ["thing"] (spD K mg m_is_width 1) := by
  have G_is_between := G_is_between (P := P) (w := w) (base := base) T
  rw [m_is_width_e]
  refine fn_d T.F_is_width sc_is_width (fun cdv A outer s H E hr tk hx => ?_)
  show PSsd _ _ (defBody s_is_width) d_is_width
  unfold d_is_width
  exact (by refine (pssd_one ?_); exact (psd_ret (pd_own G_is_between (hr.mono (by decide)) (by rfl) T.g_is_between T.k_is_between T.b_is_between hx (pad_cons (pd_var (pv 0)) (pad_cons pd_int (pad_cons pd_int pad_nil))))))
theorem G_check_width (T : Txt K mg base w) : FnOk P w K mg base (L2.CX P w) 4 T.a_check_width T.fd_check_width ["thing"] (spD K mg m_check_width 1) := by
  have G_is_width := G_is_width (P := P) (w := w) (base := base) T
  rw [m_check_width_e]
  refine fn_d T.F_check_width sc_check_width (fun cdv A outer s H E hr tk hx => ?_)
  show PSsd _ _ (defBody s_check_width) d_check_width
  unfold d_check_width
  exact (by refine (pssd_one ?_); exact (psd_if (ptd_not (ptd_truth (pd_own G_is_width (hr.mono (by decide)) (by rfl) T.g_is_width T.k_is_width T.b_is_width hx (pad_cons (pd_var (pv 0)) pad_nil)))) (by refine (pssd_one ?_); exact psd_never) pssd_nil))
theorem G_tail_behind (T : Txt K mg base w) : FnOk P w K mg base (L2.CX P w) 1 T.a_tail_behind T.fd_tail_behind ["stretch", "width"] (spD K mg m_tail_behind 2) := by
  rw [m_tail_behind_e]
  refine fn_d T.F_tail_behind sc_tail_behind (fun cdv A outer s H E hr tk hx => ?_)
  show PSsd _ _ (defBody s_tail_behind) d_tail_behind
  unfold d_tail_behind
  exact (by refine (pssd_one ?_); exact (psd_ret (pd_if (ptd_cmp op_ltS rd_ltS (pd_callB call_len rc_len (by rfl) T.n_len (by decide +kernel) (pad_cons (pd_var (pv 0)) pad_nil)) (pd_var (pv 1)) (nomark _)) (pd_var (pv 0)) (pd_slice (pd_var (pv 0)) (pod_some pd_int) pod_none))))
theorem G_steps_from (T : Txt K mg base w) : FnOk P w K mg base (L2.CX P w) 2 T.a_steps_from T.fd_steps_from ["machine", "width", "place"] (spD K mg m_steps_from 3) := by
  have G_tail_behind := G_tail_behind (P := P) (w := w) (base := base) T
  rw [m_steps_from_e]
  refine fn_d T.F_steps_from sc_steps_from (fun cdv A outer s H E hr tk hx => ?_)
  show PSsd _ _ (defBody s_steps_from) d_steps_from
  unfold d_steps_from
  exact (by refine (pssd_cons ?_ (pssd_cons ?_ (pssd_cons ?_ (pssd_one ?_)))); exact (psd_asg (pd_var (pv 2)) (pg_tup rfl (pgs_cons (pg_name (i := 3) sc_steps_from.nd rfl (.inl rfl)) (pgs_cons (pg_name (i := 4) sc_steps_from.nd rfl (.inl rfl)) pgs_nil))) (gs_tup 2 (gss_cons (gs_name 3) (gss_cons (gs_name 4) gss_nil)))); exact (psd_set (i := 5) sc_steps_from.nd rfl (.inl rfl) (pd_new (pld_lst pad_nil))); exact (psd_for (passes_of rfl) rfl (pid_enumS (by rfl) T.n_enumerate (pad_cons (pd_fld T.f_rows (pd_var (pv 0))) pad_nil)) (pg_tup rfl (pgs_cons (pg_name (i := 6) sc_steps_from.nd rfl (.inl rfl)) (pgs_cons (pg_name (i := 7) sc_steps_from.nd rfl (.inl rfl)) pgs_nil))) (gs_tup 2 (gss_cons (gs_name 6) (gss_cons (gs_name 7) gss_nil))) (by refine (pssd_cons ?_ (pssd_cons ?_ (pssd_one ?_))); exact (psd_set (i := 8) sc_steps_from.nd rfl (.inl rfl) (pd_op op_addAll rd_add (pd_var (pv 4)) (pd_var (pv 7)))); exact (psd_set (i := 9) sc_steps_from.nd rfl (.inl rfl) (pd_own G_tail_behind (hr.mono (by decide)) (by rfl) T.g_tail_behind T.k_tail_behind T.b_tail_behind hx (pad_cons (pd_var (pv 8)) (pad_cons (pd_var (pv 1)) pad_nil)))); exact (psd_for (passes_of rfl) rfl (pid_range1 (by rfl) T.n_range (pad_cons (pd_fld T.f_answers (pd_var (pv 0))) pad_nil)) (pg_name (i := 10) sc_steps_from.nd rfl (.inl rfl)) (gs_name 10) (by refine (pssd_cons ?_ (pssd_one ?_)); exact (psd_asg (pd_ix ix_seq rd_ix (pd_ix ix_seq rd_ix (pd_ix ix_seq rd_ix (pd_fld T.f_moves (pd_var (pv 0))) (pd_var (pv 3))) (pd_var (pv 6))) (pd_var (pv 10))) (pg_tup rfl (pgs_cons (pg_name (i := 11) sc_steps_from.nd rfl (.inl rfl)) (pgs_cons (pg_name (i := 12) sc_steps_from.nd rfl (.inl rfl)) pgs_nil))) (gs_tup 2 (gss_cons (gs_name 11) (gss_cons (gs_name 12) gss_nil)))); exact (psd_expr (pd_bm PySem.F.plainAttrs_list PySem.F.slot_list_append PySem.F.type_list_append mt_append rm_append (pd_var (pv 5)) (pad_cons (pd_tup (pad_cons (pd_tup (pad_cons (pd_var (pv 2)) (pad_cons (pd_var (pv 7)) (pad_cons (pd_var (pv 10)) pad_nil)))) (pad_cons (pd_var (pv 11)) (pad_cons (pd_var (pv 8)) (pad_cons (pd_tup (pad_cons (pd_var (pv 12)) (pad_cons (pd_var (pv 9)) pad_nil))) pad_nil))))) pad_nil))))))); exact (psd_ret (pd_var (pv 5))))
theorem G_onward (T : Txt K mg base w) : FnOk P w K mg base (L2.CX P w) 3 T.a_onward T.fd_onward ["machine", "width", "place"] (spD K mg m_onward 3) := by
  have G_steps_from := G_steps_from (P := P) (w := w) (base := base) T
  rw [m_onward_e]
  refine fn_d T.F_onward sc_onward (fun cdv A outer s H E hr tk hx => ?_)
  show PSsd _ _ (defBody s_onward) d_onward
  unfold d_onward
  exact (by refine (pssd_one ?_); exact (psd_ret (pd_fz (pld_lc rfl sc_onward.nd (pid_listR (pd_own G_steps_from (hr.mono (by decide)) (by rfl) T.g_steps_from T.k_steps_from T.b_steps_from hx (pad_cons (pd_var (pv 0)) (pad_cons (pd_var (pv 1)) (pad_cons (pd_var (pv 2)) pad_nil))))) (blkOk_by (own := [("step", 3), ("_", 4), ("there", 5)]) (N := N_onward) (show blkC N_onward (defScope s_onward) _ _ = true by decide +kernel)) (gs_tup 4 (gss_cons (gs_name 3) (gss_cons (gs_name 4) (gss_cons (gs_name 4) (gss_cons (gs_name 5) gss_nil))))) (by decide) (fun _ _ _ _ _ => (pg_tup rfl (pgs_cons (pg_name (i := 3) sc_onward.nd rfl (.inl rfl)) (pgs_cons (pg_name (i := 4) sc_onward.nd rfl (.inl rfl)) (pgs_cons (pg_name (i := 4) sc_onward.nd rfl (.inl rfl)) (pgs_cons (pg_name (i := 5) sc_onward.nd rfl (.inl rfl)) pgs_nil)))))) (fun _ _ _ _ _ => ptsd_nil) (fun _ _ _ _ _ => (pd_tup (pad_cons (pd_ix ix_seq rd_ix (pd_var (pv 3)) pd_int) (pad_cons (pd_ix ix_seq rd_ix (pd_var (pv 3)) pd_int) (pad_cons (pd_var (pv 5)) pad_nil)))))))))
theorem LK_la_places_up_to_0 (T : Txt K mg base w) : LamOkP P w K mg base 3 lw_la_places_up_to_0 N_la_places_up_to_0 ["place"] dl_la_places_up_to_0 := by
  have G_onward := G_onward (P := P) (w := w) (base := base) T
  refine lamOk_mk sc_la_places_up_to_0 (fun cl pm cv ctv us hl => match us, hl with | [_], _ => rfl) (fun f cl c' A outer s H hr => ?_)
  unfold dl_la_places_up_to_0
  exact (pd_own G_onward (hr.mono (by decide)) (by rfl) T.g_onward T.k_onward T.b_onward lets0 (pad_cons (pd_var (pv 1)) (pad_cons (pd_var (pv 2)) (pad_cons (pd_var (pv 0)) pad_nil))))
theorem TK_tab_earliest_steps (T : Txt K mg base w) : TabOkP P w K mg base 3 tab_earliest_steps := by
  unfold tab_earliest_steps
  rw [m_la_places_up_to_0_e]
  exact (tabOk_cons (LK_la_places_up_to_0 T) (by decide) tabOk_nil)
theorem G_earliest (T : Txt K mg base w) : FnOk P w K mg base (L2.CX P w) 5 T.a_earliest T.fd_earliest ["start", "steps"] (spD K mg m_earliest 2) := by
  rw [m_earliest_e]
  refine fn_dL T.F_earliest sc_earliest (fun A outer s H E hr tk hx => ?_)
  show PSsd _ _ (defBody s_earliest) d_earliest
  unfold d_earliest
  exact (by refine (pssd_cons ?_ (pssd_cons ?_ (pssd_cons ?_ (pssd_one ?_)))); exact (psd_set (i := 2) sc_earliest.nd rfl (.inl rfl) (pd_disp1T T.hw (units16 hr) (pd_var (pv 0)) (pd_tup (pad_cons pd_str (pad_cons (pd_tup pad_nil) pad_nil))))); exact (psd_set (i := 3) sc_earliest.nd rfl (.inl rfl) (pd_fz (pld_lst (pad_cons (pd_var (pv 0)) pad_nil)))); exact (psd_while fuel (passes_of rfl) (ptd_truth (pd_var (pv 3))) (by refine (pssd_cons ?_ (pssd_cons ?_ (pssd_cons ?_ (pssd_one ?_)))); exact (psd_set (i := 4) sc_earliest.nd rfl (.inr rfl) pd_dictNew); exact (psd_for (passes_of rfl) rfl (pid_list (pd_var (pv 3))) (pg_name (i := 5) sc_earliest.nd rfl (.inl rfl)) (gs_name 5) (by refine (pssd_cons ?_ (pssd_one ?_)); exact (psd_asg (pd_ix (ix_key (units16 hr)) (rd_kget T.hw) (pd_var (pv 2)) (pd_var (pv 5))) (pg_tup rfl (pgs_cons (pg_name (i := 6) sc_earliest.nd rfl (.inl rfl)) (pgs_cons (pg_name (i := 7) sc_earliest.nd rfl (.inl rfl)) pgs_nil))) (gs_tup 2 (gss_cons (gs_name 6) (gss_cons (gs_name 7) gss_nil)))); exact (psd_for (passes_of rfl) rfl (pid_list (pd_lamGo (i := 1) (tab := tab_earliest_steps) (TK_tab_earliest_steps T _ rfl rfl rfl rfl rfl) (hr.mono (by decide)) rfl (by first | exact .inl rfl | exact .inr (.inl rfl) | exact .inr (.inr rfl)) (pad_cons (pd_var (pv 5)) pad_nil))) (pg_tup rfl (pgs_cons (pg_name (i := 8) sc_earliest.nd rfl (.inl rfl)) (pgs_cons (pg_name (i := 9) sc_earliest.nd rfl (.inl rfl)) (pgs_cons (pg_name (i := 10) sc_earliest.nd rfl (.inl rfl)) pgs_nil)))) (gs_tup 3 (gss_cons (gs_name 8) (gss_cons (gs_name 9) (gss_cons (gs_name 10) gss_nil)))) (by refine (pssd_cons ?_ (pssd_one ?_)); exact (psd_set (i := 11) sc_earliest.nd rfl (.inl rfl) (pd_tup (pad_cons (pd_op op_addAll rd_add (pd_var (pv 6)) (pd_var (pv 8))) (pad_cons (pd_op op_addAll rd_add (pd_var (pv 7)) (pd_tup (pad_cons (pd_var (pv 9)) pad_nil))) pad_nil)))); exact (psd_if (ptd_w (pwd_and (ptd_cmp (op_keyNotIn (units16 hr)) (rd_kin T.hw) (pd_var (pv 10)) (pd_var (pv 2)) (by rfl)) (pwd_and1 (ptd_w (pwd_or (ptd_cmp (op_keyNotIn (units16 hr)) (rd_kin T.hw) (pd_var (pv 10)) (pd_var (pv 4)) (by rfl)) (pwd_or1 (ptd_cmp (op_ltX (units80 hr)) rd_ltX (pd_var (pv 11)) (pd_ix (ix_key (units16 hr)) (rd_kget T.hw) (pd_var (pv 4)) (pd_var (pv 10))) (nomark _)))))))) (by refine (pssd_one ?_); exact (psd_setK T.hw (units16 hr) (pd_var (pv 11)) (pd_var (pv 4)) (pd_var (pv 10)))) pssd_nil))))); exact (psd_set (i := 3) sc_earliest.nd rfl (.inl rfl) (pd_fz (pld_sortEnds (i := 4) (lw := lw_la_earliest_0) (x := "fresh") (y := "end") (sc := defScope s_earliest) T.hw T.TB_earliest rfl T.tm_earliest T.tu_earliest rfl rfl rfl (by rfl) rfl rfl (by decide +kernel) rfl hr (by rfl) T.n_sorted (by decide +kernel) rfl (by first | exact .inl rfl | exact .inr (.inl rfl) | exact .inr (.inr rfl)) rfl sc_la_earliest_0 (fun cl pm cv ctv us hl => match us, hl with | [_], _ => rfl)))); exact (psd_for (passes_of rfl) rfl (pid_list (pd_var (pv 3))) (pg_name (i := 10) sc_earliest.nd rfl (.inl rfl)) (gs_name 10) (by refine (pssd_one ?_); exact (psd_setK T.hw (units16 hr) (pd_ix (ix_key (units16 hr)) (rd_kget T.hw) (pd_var (pv 4)) (pd_var (pv 10))) (pd_var (pv 2)) (pd_var (pv 10))))))); exact (psd_ret (pd_var (pv 2))))
theorem G_first_tail (T : Txt K mg base w) : FnOk P w K mg base (L2.CX P w) 1 T.a_first_tail T.fd_first_tail ["width"] (spD K mg m_first_tail 1) := by
  rw [m_first_tail_e]
  refine fn_d T.F_first_tail sc_first_tail (fun cdv A outer s H E hr tk hx => ?_)
  show PSsd _ _ (defBody s_first_tail) d_first_tail
  unfold d_first_tail
  exact (by refine (pssd_one ?_); exact (psd_ret (pd_if (ptd_cmp (op_eqD hr.units) rd_eq (pd_var (pv 0)) pd_int (nomark _)) pd_str pd_str)))
theorem G_places_up_to (T : Txt K mg base w) : FnOk P w K mg base (L2.CX P w) 6 T.a_places_up_to T.fd_places_up_to ["machine", "width", "most"] (spD K mg m_places_up_to 3) := by
  have G_earliest := G_earliest (P := P) (w := w) (base := base) T
  have G_first_tail := G_first_tail (P := P) (w := w) (base := base) T
  rw [m_places_up_to_e]
  refine fn_dL T.F_places_up_to sc_places_up_to (fun A outer s H E hr tk hx => ?_)
  show PSsd _ _ (defBody s_places_up_to) d_places_up_to
  unfold d_places_up_to
  exact (by refine (pssd_cons ?_ (pssd_cons ?_ (pssd_one ?_))); exact (psd_set (i := 3) sc_places_up_to.nd rfl (.inl rfl) (pd_new (pld_callTy (cr_listK rfl) (rcl_listK T.hw) (by rfl) T.n_list (by decide +kernel) (pad_cons (pd_ownLam (lw := lw_la_places_up_to_0) (kk := 0) (js := [0, 1]) G_earliest (hr.mono (by decide)) (by rfl) T.g_earliest T.k_earliest T.b_earliest (caps_by (sc := defScope s_places_up_to) rfl (by decide +kernel) rfl) (fun _ _ _ => rfl) (padl_cons (pd_tup (pad_cons pd_int (pad_cons (pd_own G_first_tail (hr.mono (by decide)) (by rfl) T.g_first_tail T.k_first_tail T.b_first_tail hx (pad_cons (pd_var (pv 1)) pad_nil)) pad_nil))) (padl_nil (lam_by (sc := defScope s_places_up_to) T.TB_places_up_to rfl T.tm_places_up_to T.tu_places_up_to rfl rfl rfl (by rfl) rfl rfl (by decide +kernel))))) pad_nil)))); exact (psd_if (ptd_cmp op_gt rd_gt (pd_callB call_len rc_len (by rfl) T.n_len (by decide +kernel) (pad_cons (pd_var (pv 3)) pad_nil)) (pd_var (pv 2)) (nomark _)) (by refine (pssd_one ?_); exact psd_never) pssd_nil); exact (psd_ret (pd_var (pv 3))))
theorem G_places (T : Txt K mg base w) : FnOk P w K mg base (L2.CX P w) 7 T.a_places T.fd_places ["machine", "width"] (spD K mg m_places 2) := by
  have G_check_width := G_check_width (P := P) (w := w) (base := base) T
  have G_places_up_to := G_places_up_to (P := P) (w := w) (base := base) T
  rw [m_places_e]
  refine fn_d T.F_places sc_places (fun cdv A outer s H E hr tk hx => ?_)
  show PSsd _ _ (defBody s_places) d_places
  unfold d_places
  exact (by refine (pssd_cons ?_ (pssd_one ?_)); exact (psd_expr (pd_own G_check_width (hr.mono (by decide)) (by rfl) T.g_check_width T.k_check_width T.b_check_width hx (pad_cons (pd_var (pv 1)) pad_nil))); exact (psd_ret (pd_own G_places_up_to (hr.mono (by decide)) (by rfl) T.g_places_up_to T.k_places_up_to T.b_places_up_to hx (pad_cons (pd_var (pv 0)) (pad_cons (pd_var (pv 1)) (pad_cons (pd_c (pe_glob (v := .int 300) (by rfl) T.c_MOST_PLACES.choose_spec ⟨_, rfl⟩) rfl) pad_nil))))))
theorem G_is_run (T : Txt K mg base w) : FnOk P w K mg base (L2.CX P w) 3 T.a_is_run T.fd_is_run ["thing", "rows", "answers"] (spD K mg m_is_run 3) := by
  have G_is_code := G_is_code (P := P) (w := w) (base := base) T
  have G_is_between := G_is_between (P := P) (w := w) (base := base) T
  have G_is_tuple := G_is_tuple (P := P) (w := w) (base := base) T
  rw [m_is_run_e]
  refine fn_d T.F_is_run sc_is_run (fun cdv A outer s H E hr tk hx => ?_)
  show PSsd _ _ (defBody s_is_run) d_is_run
  unfold d_is_run
  exact (by refine (pssd_cons ?_ (pssd_cons ?_ (pssd_cons ?_ (pssd_one ?_)))); exact (psd_if (ptd_not (ptd_truth (pd_own G_is_tuple (hr.mono (by decide)) (by rfl) T.g_is_tuple T.k_is_tuple T.b_is_tuple hx (pad_cons (pd_var (pv 0)) (pad_cons pd_int pad_nil))))) (by refine (pssd_one ?_); exact (psd_ret pd_bl)) pssd_nil); exact (psd_asg (pd_var (pv 0)) (pg_tup rfl (pgs_cons (pg_name (i := 3) sc_is_run.nd rfl (.inl rfl)) (pgs_cons (pg_name (i := 4) sc_is_run.nd rfl (.inl rfl)) pgs_nil))) (gs_tup 2 (gss_cons (gs_name 3) (gss_cons (gs_name 4) gss_nil)))); exact (psd_if (ptd_w (pwd_or (ptd_not (ptd_truth (pd_own G_is_code (hr.mono (by decide)) (by rfl) T.g_is_code T.k_is_code T.b_is_code hx (pad_cons (pd_var (pv 3)) (pad_cons (pd_var (pv 1)) pad_nil))))) (pwd_or1 (ptd_not (ptd_truth (pd_own G_is_tuple (hr.mono (by decide)) (by rfl) T.g_is_tuple T.k_is_tuple T.b_is_tuple hx (pad_cons (pd_var (pv 4)) (pad_cons (pd_callB call_len rc_len (by rfl) T.n_len (by decide +kernel) (pad_cons (pd_var (pv 3)) pad_nil)) pad_nil)))))))) (by refine (pssd_one ?_); exact (psd_ret pd_bl)) pssd_nil); exact (psd_ret (pd_callB (cr_all rfl) rc_all (by rfl) T.n_all (by decide +kernel) (pad_cons (pd_fz (pld_lc rfl sc_is_run.nd (pid_tup (pd_var (pv 4))) (blkOk_by (own := [("answer", 5)]) (N := N_is_run) (show blkC N_is_run (defScope s_is_run) _ _ = true by decide +kernel)) (gs_name 5) (by decide) (fun _ _ _ _ _ => (pg_name (i := 5) sc_is_run.nd rfl (.inl rfl))) (fun _ _ _ _ _ => ptsd_nil) (fun _ _ _ _ _ => (pd_own G_is_between (hr.mono (by decide)) (by rfl) T.g_is_between T.k_is_between T.b_is_between lets0 (pad_cons (pd_var (pv 5)) (pad_cons pd_int (pad_cons (pd_op op_sub rd_sub (pd_var (pv 2)) pd_int) pad_nil))))))) pad_nil))))
theorem G_check_run (T : Txt K mg base w) : FnOk P w K mg base (L2.CX P w) 4 T.a_check_run T.fd_check_run ["machine", "run"] (spD K mg m_check_run 2) := by
  have G_is_run := G_is_run (P := P) (w := w) (base := base) T
  rw [m_check_run_e]
  refine fn_d T.F_check_run sc_check_run (fun cdv A outer s H E hr tk hx => ?_)
  show PSsd _ _ (defBody s_check_run) d_check_run
  unfold d_check_run
  exact (by refine (pssd_one ?_); exact (psd_if (ptd_not (ptd_truth (pd_own G_is_run (hr.mono (by decide)) (by rfl) T.g_is_run T.k_is_run T.b_is_run hx (pad_cons (pd_var (pv 1)) (pad_cons (pd_fld T.f_rows (pd_var (pv 0))) (pad_cons (pd_fld T.f_answers (pd_var (pv 0))) pad_nil)))))) (by refine (pssd_one ?_); exact psd_never) pssd_nil))
theorem G_walked (T : Txt K mg base w) : FnOk P w K mg base (L2.CX P w) 1 T.a_walked T.fd_walked ["machine", "start", "run"] (spD K mg m_walked 3) := by
  rw [m_walked_e]
  refine fn_d T.F_walked sc_walked (fun cdv A outer s H E hr tk hx => ?_)
  show PSsd _ _ (defBody s_walked) d_walked
  unfold d_walked
  exact (by refine (pssd_cons ?_ (pssd_cons ?_ (pssd_cons ?_ (pssd_cons ?_ (pssd_one ?_))))); exact (psd_asg (pd_var (pv 2)) (pg_tup rfl (pgs_cons (pg_name (i := 3) sc_walked.nd rfl (.inl rfl)) (pgs_cons (pg_name (i := 4) sc_walked.nd rfl (.inl rfl)) pgs_nil))) (gs_tup 2 (gss_cons (gs_name 3) (gss_cons (gs_name 4) gss_nil)))); exact (psd_set (i := 5) sc_walked.nd rfl (.inl rfl) pd_int); exact (psd_set (i := 6) sc_walked.nd rfl (.inl rfl) (pd_var (pv 1))); exact (psd_for (passes_of rfl) rfl (pid_zip (by rfl) T.n_zip (pad_cons (pd_var (pv 3)) (pad_cons (pd_var (pv 4)) pad_nil))) (pg_tup rfl (pgs_cons (pg_name (i := 7) sc_walked.nd rfl (.inl rfl)) (pgs_cons (pg_name (i := 8) sc_walked.nd rfl (.inl rfl)) pgs_nil))) (gs_tup 2 (gss_cons (gs_name 7) (gss_cons (gs_name 8) gss_nil))) (by refine (pssd_cons ?_ (pssd_one ?_)); exact (psd_asg (pd_ix ix_seq rd_ix (pd_ix ix_seq rd_ix (pd_ix ix_seq rd_ix (pd_fld T.f_moves (pd_var (pv 0))) (pd_var (pv 6))) (pd_index rfl tk (pd_fld T.f_rows (pd_var (pv 0))) (pad_cons (pd_var (pv 7)) pad_nil))) (pd_var (pv 8))) (pg_tup rfl (pgs_cons (pg_name (i := 9) sc_walked.nd rfl (.inl rfl)) (pgs_cons (pg_name (i := 6) sc_walked.nd rfl (.inl rfl)) pgs_nil))) (gs_tup 2 (gss_cons (gs_name 9) (gss_cons (gs_name 6) gss_nil)))); exact (psd_aug (i := 5) sc_walked.nd rfl (.inl rfl) (pd_var (pv 9)) ip_add))); exact (psd_ret (pd_tup (pad_cons (pd_var (pv 5)) (pad_cons (pd_var (pv 6)) pad_nil)))))
theorem G_standing (T : Txt K mg base w) : FnOk P w K mg base (L2.CX P w) 5 T.a_standing T.fd_standing ["machine", "run"] (spD K mg m_standing 2) := by
  have G_check_run := G_check_run (P := P) (w := w) (base := base) T
  have G_walked := G_walked (P := P) (w := w) (base := base) T
  rw [m_standing_e]
  refine fn_d T.F_standing sc_standing (fun cdv A outer s H E hr tk hx => ?_)
  show PSsd _ _ (defBody s_standing) d_standing
  unfold d_standing
  exact (by refine (pssd_cons ?_ (pssd_one ?_)); exact (psd_expr (pd_own G_check_run (hr.mono (by decide)) (by rfl) T.g_check_run T.k_check_run T.b_check_run hx (pad_cons (pd_var (pv 0)) (pad_cons (pd_var (pv 1)) pad_nil)))); exact (psd_ret (pd_ix ix_seq rd_ix (pd_own G_walked (hr.mono (by decide)) (by rfl) T.g_walked T.k_walked T.b_walked hx (pad_cons (pd_var (pv 0)) (pad_cons pd_int (pad_cons (pd_var (pv 1)) pad_nil)))) pd_int)))
theorem G_law_run (T : Txt K mg base w) : FnOk P w K mg base (L2.CX P w) 2 T.a_law_run T.fd_law_run ["hand", "machine", "many"] (spD K mg m_law_run 3) := by
  have G_law_draw := G_law_draw (P := P) (w := w) (base := base) T
  rw [m_law_run_e]
  refine fn_d T.F_law_run sc_law_run (fun cdv A outer s H E hr tk hx => ?_)
  show PSsd _ _ (defBody s_law_run) d_law_run
  unfold d_law_run
  exact (by refine (pssd_cons ?_ (pssd_cons ?_ (pssd_cons ?_ (pssd_one ?_)))); exact (psd_set (i := 3) sc_law_run.nd rfl (.inl rfl) pd_str); exact (psd_set (i := 4) sc_law_run.nd rfl (.inl rfl) (pd_tup pad_nil)); exact (psd_for (passes_of rfl) rfl (pid_range1 (by rfl) T.n_range (pad_cons (pd_var (pv 2)) pad_nil)) (pg_name (i := 5) sc_law_run.nd rfl (.inl rfl)) (gs_name 5) (by refine (pssd_cons ?_ (pssd_one ?_)); exact (psd_set (i := 3) sc_law_run.nd rfl (.inl rfl) (pd_op op_addAll rd_add (pd_var (pv 3)) (pd_ix ix_seq rd_ix (pd_ix ix_seq rd_ix (pd_var (pv 1)) pd_int) (pd_own G_law_draw (hr.mono (by decide)) (by rfl) T.g_law_draw T.k_law_draw T.b_law_draw hx (pad_cons (pd_var (pv 0)) (pad_cons (pd_callB call_len rc_len (by rfl) T.n_len (by decide +kernel) (pad_cons (pd_ix ix_seq rd_ix (pd_var (pv 1)) pd_int) pad_nil)) pad_nil)))))); exact (psd_set (i := 4) sc_law_run.nd rfl (.inl rfl) (pd_op op_addAll rd_add (pd_var (pv 4)) (pd_tup (pad_cons (pd_own G_law_draw (hr.mono (by decide)) (by rfl) T.g_law_draw T.k_law_draw T.b_law_draw hx (pad_cons (pd_var (pv 0)) (pad_cons (pd_ix ix_seq rd_ix (pd_var (pv 1)) pd_int) pad_nil))) pad_nil)))))); exact (psd_ret (pd_tup (pad_cons (pd_var (pv 3)) (pad_cons (pd_var (pv 4)) pad_nil)))))
theorem G_law (T : Txt K mg base w) : FnOk P w K mg base (L2.CX P w) 9 T.a_law T.fd_law ["script"] (spD K mg m_law 1) := by
  have G_law_hand := G_law_hand (P := P) (w := w) (base := base) T
  have G_law_draw := G_law_draw (P := P) (w := w) (base := base) T
  have G_law_machine := G_law_machine (P := P) (w := w) (base := base) T
  have G_Machine_init := G_Machine_init (P := P) (w := w) (base := base) T
  have G_law_tail := G_law_tail (P := P) (w := w) (base := base) T
  have G_law_places := G_law_places (P := P) (w := w) (base := base) T
  have G_places := G_places (P := P) (w := w) (base := base) T
  have G_standing := G_standing (P := P) (w := w) (base := base) T
  have G_law_run := G_law_run (P := P) (w := w) (base := base) T
  rw [m_law_e]
  refine fn_d T.F_law sc_law (fun cdv A outer s H E hr tk hx => ?_)
  show PSsd _ _ (defBody s_law) d_law
  unfold d_law
  exact (by refine (pssd_cons ?_ (pssd_cons ?_ (pssd_cons ?_ (pssd_cons ?_ (pssd_one ?_))))); exact (psd_set (i := 1) sc_law.nd rfl (.inl rfl) (pd_own G_law_hand (hr.mono (by decide)) (by rfl) T.g_law_hand T.k_law_hand T.b_law_hand hx (pad_cons (pd_var (pv 0)) pad_nil))); exact (psd_set (i := 2) sc_law.nd rfl (.inl rfl) (pd_own G_law_machine (hr.mono (by decide)) (by rfl) T.g_law_machine T.k_law_machine T.b_law_machine hx (pad_cons (pd_var (pv 1)) pad_nil))); exact (psd_set (i := 3) sc_law.nd rfl (.inl rfl) (pd_make T.mk_Machine G_Machine_init (hr.mono (by decide)) (by rfl) T.C_Machine T.b_Machine_init hx (pad_cons (pd_ix ix_seq rd_ix (pd_var (pv 2)) pd_int) (pad_cons (pd_ix ix_seq rd_ix (pd_var (pv 2)) pd_int) (pad_cons (pd_ix ix_seq rd_ix (pd_var (pv 2)) pd_int) pad_nil))))); exact (psd_for (passes_of rfl) rfl (pid_list (pd_fz (pld_lst (pad_cons pd_int (pad_cons pd_int (pad_cons pd_int pad_nil)))))) (pg_name (i := 4) sc_law.nd rfl (.inl rfl)) (gs_name 4) (by refine (pssd_cons ?_ (pssd_cons ?_ (pssd_cons ?_ (pssd_cons ?_ (pssd_cons ?_ (pssd_cons ?_ (pssd_cons ?_ (pssd_cons ?_ (pssd_one ?_))))))))); exact (psd_set (i := 5) sc_law.nd rfl (.inl rfl) (pd_own G_law_places (hr.mono (by decide)) (by rfl) T.g_law_places T.k_law_places T.b_law_places hx (pad_cons (pd_var (pv 2)) (pad_cons (pd_var (pv 4)) (pad_cons pd_int pad_nil))))); exact (psd_set (i := 6) sc_law.nd rfl (.inl rfl) (pd_fz (pld_callTy (cr_listK rfl) (rcl_listK T.hw) (by rfl) T.n_list (by decide +kernel) (pad_cons (pd_var (pv 5)) pad_nil)))); exact (psd_set (i := 7) sc_law.nd rfl (.inl rfl) (pd_own G_places (hr.mono (by decide)) (by rfl) T.g_places T.k_places T.b_places hx (pad_cons (pd_var (pv 3)) (pad_cons (pd_var (pv 4)) pad_nil)))); exact (psd_if (ptd_w (pwd_or (ptd_not (ptd_truth (pd_callB call_isi rc_isi (by rfl) T.n_isinstance (by decide +kernel) (pad_cons (pd_var (pv 7)) (pad_cons (pd_c (v := .ty "list") (pe_bltn (by rfl) T.n_list (by decide +kernel) rfl) rfl) pad_nil))))) (pwd_or (ptd_cmp (op_neD hr.units) rd_ne (pd_var (pv 7)) (pd_var (pv 6)) (nomark _)) (pwd_or1 (ptd_truth (pd_callB (cr_any rfl) rc_any (by rfl) T.n_any (by decide +kernel) (pad_cons (pd_fz (pld_lc rfl sc_law.nd (pid_listR (pd_var (pv 7))) (blkOk_by (own := [("place", 8)]) (N := N_law) (show blkC N_law (defScope s_law) _ _ = true by decide +kernel)) (gs_name 8) (by decide) (fun _ _ _ _ _ => (pg_name (i := 8) sc_law.nd rfl (.inl rfl))) (fun _ _ _ _ _ => ptsd_nil) (fun _ _ _ _ _ => (pd_callB call_isi rc_isi (by rfl) T.n_isinstance (by decide +kernel) (pad_cons (pd_ix ix_seq rd_ix (pd_var (pv 8)) pd_int) (pad_cons (pd_c (v := .ty "bool") (pe_bltn (by rfl) T.n_bool (by decide +kernel) rfl) rfl) pad_nil)))))) pad_nil))))))) (by refine (pssd_one ?_); exact (psd_ret pd_bl)) pssd_nil); exact (psd_for (passes_of rfl) rfl (pid_list (pd_var (pv 6))) (pg_name (i := 8) sc_law.nd rfl (.inl rfl)) (gs_name 8) (by refine (pssd_one ?_); exact (psd_if (ptd_w (pwd_or (ptd_cmp (op_neD hr.units) rd_ne (pd_own G_standing (hr.mono (by decide)) (by rfl) T.g_standing T.k_standing T.b_standing hx (pad_cons (pd_var (pv 3)) (pad_cons (pd_ix (ix_key (units16 hr)) (rd_kget T.hw) (pd_var (pv 5)) (pd_var (pv 8))) pad_nil))) (pd_ix ix_seq rd_ix (pd_var (pv 8)) pd_int) (nomark _)) (pwd_or1 (ptd_cmp (op_neD hr.units) rd_ne (pd_own G_law_tail (hr.mono (by decide)) (by rfl) T.g_law_tail T.k_law_tail T.b_law_tail hx (pad_cons (pd_ix ix_seq rd_ix (pd_ix (ix_key (units16 hr)) (rd_kget T.hw) (pd_var (pv 5)) (pd_var (pv 8))) pd_int) (pad_cons (pd_var (pv 4)) pad_nil))) (pd_ix ix_seq rd_ix (pd_var (pv 8)) pd_int) (nomark _))))) (by refine (pssd_one ?_); exact (psd_ret pd_bl)) pssd_nil))); exact (psd_for (passes_of rfl) rfl (pid_range1 (by rfl) T.n_range (pad_cons pd_int pad_nil)) (pg_name (i := 9) sc_law.nd rfl (.inl rfl)) (gs_name 9) (by refine (pssd_cons ?_ (pssd_one ?_)); exact (psd_set (i := 10) sc_law.nd rfl (.inl rfl) (pd_own G_law_run (hr.mono (by decide)) (by rfl) T.g_law_run T.k_law_run T.b_law_run hx (pad_cons (pd_var (pv 1)) (pad_cons (pd_var (pv 2)) (pad_cons (pd_own G_law_draw (hr.mono (by decide)) (by rfl) T.g_law_draw T.k_law_draw T.b_law_draw hx (pad_cons (pd_var (pv 1)) (pad_cons pd_int pad_nil))) pad_nil))))); exact (psd_if (ptd_cmp (op_notInD (units65 hr)) rd_notInX (pd_tup (pad_cons (pd_own G_standing (hr.mono (by decide)) (by rfl) T.g_standing T.k_standing T.b_standing hx (pad_cons (pd_var (pv 3)) (pad_cons (pd_var (pv 10)) pad_nil))) (pad_cons (pd_own G_law_tail (hr.mono (by decide)) (by rfl) T.g_law_tail T.k_law_tail T.b_law_tail hx (pad_cons (pd_ix ix_seq rd_ix (pd_var (pv 10)) pd_int) (pad_cons (pd_var (pv 4)) pad_nil))) pad_nil))) (pd_var (pv 6)) (by rfl)) (by refine (pssd_one ?_); exact (psd_ret pd_bl)) pssd_nil))); exact (psd_expr (pd_bm PySem.F.plainAttrs_list PySem.F.slot_list_append PySem.F.type_list_append mt_append rm_append (pd_var (pv 7)) (pad_cons (pd_tup (pad_cons pd_int (pad_cons pd_str pad_nil))) pad_nil))); exact (psd_expr (pd_bm0 PySem.F.plainAttrs_list PySem.F.slot_list_reverse PySem.F.type_list_reverse mt_reverse rm_reverse (pd_var (pv 7)))); exact (psd_if (ptd_cmp (op_neD hr.units) rd_ne (pd_own G_places (hr.mono (by decide)) (by rfl) T.g_places T.k_places T.b_places hx (pad_cons (pd_var (pv 3)) (pad_cons (pd_var (pv 4)) pad_nil))) (pd_var (pv 6)) (nomark _)) (by refine (pssd_one ?_); exact (psd_ret pd_bl)) pssd_nil))); exact (psd_ret pd_bl))
end
end DD
set_option maxHeartbeats 400000
namespace DD
open PySem L2 PyProof.Rows
variable [NMs]
/-! ### runs, as data: a code and its answers; how they compare -/
abbrev Run := List Nat × List Int
def encR (r : Run) : PyData := .tuple [.str (tx r.1), .tuple (r.2.map .int)]
def dR (r : Run) : D := .tup [.str (tx r.1), .tup (r.2.map .int)]
def ltR (r q : Run) : Prop := r.1 < q.1 ∨ (r.1 = q.1 ∧ r.2 < q.2)
instance (r q : Run) : Decidable (ltR r q) := by unfold ltR; exact inferInstance
theorem txInj {a b : List Nat} (h : tx a = tx b) : a = b := by
  have := congrArg (fun s : Str => s.cps.toList) h
  simpa using this
theorem ltR_irrefl (r : Run) : ¬ ltR r r := fun h => h.elim (fun x => List.lt_irrefl _ x) (fun x => List.lt_irrefl _ x.2)
theorem ltR_trans {a b c : Run} (h : ltR a b) (k : ltR b c) : ltR a c := by
  rcases h with h | ⟨h1, h2⟩ <;> rcases k with k | ⟨k1, k2⟩
  · exact .inl (List.lt_trans h k)
  · exact .inl (by rw [← k1]; exact h)
  · exact .inl (by rw [h1]; exact k)
  · exact .inr ⟨h1.trans k1, List.lt_trans h2 k2⟩
theorem ltL_total {α : Type} [LT α] [DecidableEq α] (tri : ∀ a b : α, a < b ∨ a = b ∨ b < a) : ∀ (a b : List α), a < b ∨ a = b ∨ b < a
  | [], [] => .inr (.inl rfl)
  | [], _ :: _ => .inl (List.nil_lt_cons _ _)
  | _ :: _, [] => .inr (.inr (List.nil_lt_cons _ _))
  | x :: xs, y :: ys => by
    rcases tri x y with h | h | h
    · exact .inl (List.cons_lt_cons_iff.mpr (.inl h))
    · subst h
      rcases ltL_total tri xs ys with k | k | k
      · exact .inl (List.cons_lt_cons_iff.mpr (.inr ⟨rfl, k⟩))
      · subst k; exact .inr (.inl rfl)
      · exact .inr (.inr (List.cons_lt_cons_iff.mpr (.inr ⟨rfl, k⟩)))
    · exact .inr (.inr (List.cons_lt_cons_iff.mpr (.inl h)))
theorem ltR_tri (a b : Run) : ltR a b ∨ a = b ∨ ltR b a := by
  rcases ltL_total (fun a b : Nat => by omega) a.1 b.1 with h | h | h
  · exact .inl (.inl h)
  · rcases ltL_total (fun a b : Int => by omega) a.2 b.2 with k | k | k
    · exact .inl (.inr ⟨h, k⟩)
    · exact .inr (.inl (Prod.ext h k))
    · exact .inr (.inr (.inr ⟨h.symm, k⟩))
  · exact .inr (.inr (.inl h))
theorem alike_str (a b : Str) : PySem.W.alike (.str a) (.str b) = true := rfl
theorem alike_ti (xs ys : List Int) : PySem.W.alike (.tuple (xs.map .int)) (.tuple (ys.map .int)) = true := PySem.W.alike_ints xs ys
theorem alike_R (r q : Run) : PySem.W.alike (encR r) (encR q) = true := by
  show (PySem.W.alike (.str (tx r.1)) (.str (tx q.1)) && (PySem.W.alike (.tuple (r.2.map .int)) (.tuple (q.2.map .int)) && PySem.W.alikeAll [] [])) = true
  rw [alike_str, alike_ti]
  rfl
theorem eqv_str (a b : List Nat) : PyData.eqv (.str (tx a)) (.str (tx b)) = decide (a = b) := by
  show (decide (tx a = tx b)) = _
  by_cases h : a = b
  · subst h; simp
  · have : tx a ≠ tx b := fun z => h (txInj z)
    simp [h, this]
theorem eqv_ints : ∀ (xs ys : List Int), PyData.eqv (.tuple (xs.map .int)) (.tuple (ys.map .int)) = decide (xs = ys) := by
  have go : ∀ (xs ys : List Int), PyData.eqvAll (xs.map .int) (ys.map .int) = decide (xs = ys) := fun xs => by
    induction xs with
    | nil => intro ys; cases ys <;> rfl
    | cons x xs ih =>
      intro ys
      cases ys with
      | nil => rfl
      | cons y ys =>
        rw [List.map_cons, List.map_cons, PySem.W.eqv_all_cons, ih]
        show (decide (x = y) && _) = _
        by_cases h : x = y <;> by_cases k : xs = ys <;> simp [h, k]
  exact fun xs ys => go xs ys
theorem lt_str (a b : List Nat) : PySem.W.dataLt (.str (tx a)) (.str (tx b)) = decide (a < b) := PySem.W.dataLt_str _ _
theorem lt_ints (xs ys : List Int) : PySem.W.dataLt (.tuple (xs.map .int)) (.tuple (ys.map .int)) = decide (xs < ys) := by
  rw [PySem.W.dataLt_tuple]
  exact PySem.W.dataLt_ints xs ys
theorem dataLt_R (r q : Run) : PySem.W.dataLt (encR r) (encR q) = decide (ltR r q) := by
  unfold encR
  rw [PySem.W.dataLt_pair (alike_str _ _) (alike_ti _ _), eqv_str, eqv_ints, lt_str, lt_ints]
  unfold ltR
  by_cases h : r.1 = q.1
  · have n : ¬ r.1 < q.1 := by rw [h]; exact List.lt_irrefl _
    by_cases k : r.2 = q.2
    · have n2 : ¬ r.2 < q.2 := by rw [k]; exact List.lt_irrefl _
      simp [h, k, List.lt_irrefl]
    · simp [h, k, List.lt_irrefl]
  · simp [h]
end DD

set_option maxHeartbeats 400000
namespace DD
open PySem L2 PyProof.Rows
variable [NMs]
/-! ### the order of places, told by the things themselves -/
def leD {α : Type} (g : α → PyData) (a b : α) : Bool := !PySem.W.dataLt (g b) (g a)
theorem srtO_map {α : Type} [Inhabited α] (f : α → D) (g : α → PyData) (L : List α) : (srtO (L.map g)).map (fun j => (L.map f).getD j .non) = (L.mergeSort (leD g)).map f := by
  have e1 : (srtO (L.map g)).map (fun j => (L.map f).getD j .non) = ((srtO (L.map g)).map fun j => L.getD j default).map f := by
    rw [List.map_map]
    refine List.map_congr_left fun j hj => ?_
    have hlt := srtO_lt hj
    rw [List.length_map] at hlt
    simp [List.getD_eq_getElem?_getD, List.getElem?_eq_getElem hlt]
  rw [e1]
  congr 1
  unfold srtO
  rw [List.length_map, PySem.W.dataLe_eq]
  have e2 : (List.range L.length).map (fun j => L.getD j default) = L := List.ext_getElem (by simp) fun i h1 h2 => by simp [List.getD_eq_getElem?_getD, List.getElem?_eq_getElem h2]
  conv => rhs; rw [← e2]
  refine List.map_mergeSort fun a ha b hb => ?_
  have ha : a < L.length := by simpa using ha
  have hb : b < L.length := by simpa using hb
  unfold leD
  simp [List.getD_eq_getElem?_getD, List.getElem?_eq_getElem ha, List.getElem?_eq_getElem hb]
/-- by runs -/
def leR {α : Type} (g : α → Run) (a b : α) : Bool := !decide (ltR (g b) (g a))
theorem leR_trans {α : Type} {g : α → Run} (a b c : α) (h : leR g a b = true) (k : leR g b c = true) : leR g a c = true := by
  unfold leR at *
  simp only [Bool.not_eq_true', decide_eq_false_iff_not] at *
  intro z
  rcases ltR_tri (g b) (g c) with x | x | x
  · exact h (ltR_trans x z)
  · rw [x] at h; exact h z
  · exact k x
theorem leR_total {α : Type} {g : α → Run} (a b : α) : (leR g a b || leR g b a) = true := by
  unfold leR
  by_cases h : ltR (g b) (g a)
  · have : ¬ ltR (g a) (g b) := fun z => ltR_irrefl _ (ltR_trans h z)
    simp [this]
  · simp [h]
def sortR {α : Type} (g : α → Run) (L : List α) : List α := L.mergeSort (leR g)
theorem sortR_perm {α : Type} {g : α → Run} (L : List α) : (sortR g L).Perm L := List.mergeSort_perm _ _
theorem sortR_sorted {α : Type} {g : α → Run} (L : List α) : (sortR g L).Pairwise fun a b => ¬ ltR (g b) (g a) := by
  refine (List.pairwise_mergeSort leR_trans leR_total L).imp fun h => ?_
  unfold leR at h
  simpa using h
theorem leD_R {α : Type} (g : α → Run) : leD (fun a => encR (g a)) = leR g := by
  funext a b
  unfold leD leR
  rw [dataLt_R]
/-- strictly rising by runs, and the same members: the same list -/
theorem rising_eq {α : Type} {g : α → Run} : ∀ {L M : List α}, L.Pairwise (fun a b => ltR (g a) (g b)) → M.Pairwise (fun a b => ltR (g a) (g b)) → (∀ a, a ∈ L ↔ a ∈ M) → L = M
  | [], [], _, _, _ => rfl
  | [], b :: _, _, _, h => by have := (h b).mpr List.mem_cons_self; simp at this
  | a :: _, [], _, _, h => by have := (h a).mp List.mem_cons_self; simp at this
  | a :: L, b :: M, p, q, h => by
    rw [List.pairwise_cons] at p q
    have e : a = b := by
      rcases List.mem_cons.mp ((h a).mp List.mem_cons_self) with z | z
      · exact z
      · rcases List.mem_cons.mp ((h b).mpr List.mem_cons_self) with y | y
        · exact y.symm
        · exact absurd (ltR_trans (p.1 b y) (q.1 a z)) (ltR_irrefl _)
    subst e
    congr 1
    refine rising_eq p.2 q.2 fun c => ⟨fun m => ?_, fun m => ?_⟩
    · rcases List.mem_cons.mp ((h c).mp (List.mem_cons_of_mem _ m)) with z | z
      · subst z; exact absurd (p.1 _ m) (ltR_irrefl _)
      · exact z
    · rcases List.mem_cons.mp ((h c).mpr (List.mem_cons_of_mem _ m)) with z | z
      · subst z; exact absurd (q.1 _ m) (ltR_irrefl _)
      · exact z
end DD

set_option maxHeartbeats 400000
namespace DD
open PySem L2 PyProof.Rows
variable [NMs]
/-! ### the next layer: as a dict of least runs, and as first comers of a sorted list -/
section
variable {α : Type} [DecidableEq α]
def putF (found : List α) (fr : List (α × Run)) (e : α × Run) : List (α × Run) :=
  if e.1 ∈ found then fr else match fr.lookup e.1 with
  | none => fr ++ [e]
  | some r => if ltR e.2 r then fr.map (fun x => if x.1 = e.1 then (x.1, e.2) else x) else fr
def freshOf (found : List α) (X : List (α × Run)) : List (α × Run) := X.foldl (putF found) []
theorem look_in {a : α} {r : Run} : ∀ {fr : List (α × Run)}, (fr.map (·.1)).Nodup → (fr.lookup a = some r ↔ (a, r) ∈ fr)
  | [], _ => by simp
  | (b, q) :: fr, nd => by
    rw [List.map_cons, List.nodup_cons] at nd
    by_cases h : a = b
    · subst h
      simp only [List.lookup_cons, beq_self_eq_true, List.mem_cons]
      constructor
      · intro z; cases z; exact .inl rfl
      · intro z
        rcases z with z | z
        · cases z; rfl
        · exact absurd (List.mem_map.mpr ⟨_, z, rfl⟩) nd.1
    · simp only [List.lookup_cons, beq_false_of_ne h, List.mem_cons]
      rw [look_in nd.2]
      constructor
      · exact .inr
      · intro z
        rcases z with z | z
        · cases z; exact absurd rfl h
        · exact z
theorem lookup_no {a : α} : ∀ {fr : List (α × Run)}, fr.lookup a = none ↔ a ∉ fr.map (·.1)
  | [] => by simp
  | (b, q) :: fr => by
    by_cases h : a = b
    · subst h; simp
    · simp only [List.lookup_cons, beq_false_of_ne h, List.map_cons, List.mem_cons, not_or]
      rw [lookup_no]
      exact ⟨fun z => ⟨h, z⟩, fun z => z.2⟩
/-- what stands there: the least run of each new place -/
structure FrOk (found : List α) (Y : List (α × Run)) (fr : List (α × Run)) : Prop where
  nd : (fr.map (·.1)).Nodup
  mem : ∀ a r, (a, r) ∈ fr ↔ a ∉ found ∧ (a, r) ∈ Y ∧ ∀ q, (a, q) ∈ Y → ¬ ltR q r
theorem frOk_put {found : List α} {Y fr : List (α × Run)} {e : α × Run} (h : FrOk found Y fr) : FrOk found (Y ++ [e]) (putF found fr e) := by
  obtain ⟨a, r⟩ := e
  have inY : ∀ b q, (b, q) ∈ Y ++ [(a, r)] ↔ (b, q) ∈ Y ∨ (b = a ∧ q = r) := fun b q => by simp
  unfold putF
  by_cases hf : a ∈ found
  · simp only [hf, if_true]
    refine ⟨h.nd, fun b q => ?_⟩
    rw [h.mem, inY]
    constructor
    · rintro ⟨h1, h2, h3⟩
      refine ⟨h1, .inl h2, fun z hz => ?_⟩
      rcases (inY b z).mp hz with y | ⟨y, _⟩
      · exact h3 z y
      · subst y; exact absurd hf h1
    · rintro ⟨h1, h2, h3⟩
      rcases h2 with h2 | ⟨y, _⟩
      · exact ⟨h1, h2, fun z hz => h3 z ((inY b z).mpr (.inl hz))⟩
      · subst y; exact absurd hf h1
  · simp only [hf, if_false]
    cases hl : fr.lookup a with
    | none =>
      have no : ∀ q, (a, q) ∉ Y := fun q hq => by
        -- the least of those at a would stand there
        have ex : ∀ (Z : List (α × Run)), (∃ q, (a, q) ∈ Z) → ∃ q, (a, q) ∈ Z ∧ ∀ z, (a, z) ∈ Z → ¬ ltR z q := fun Z => by
          induction Z with
          | nil => rintro ⟨q, hq⟩; simp at hq
          | cons y Z ih =>
            rintro ⟨q, hq⟩
            by_cases hy : ∃ q, (a, q) ∈ Z
            · obtain ⟨m, hm, least⟩ := ih hy
              by_cases hya : y.1 = a
              · by_cases hlt : ltR y.2 m
                · refine ⟨y.2, by rw [← hya]; exact List.mem_cons_self, fun z hz => ?_⟩
                  rcases List.mem_cons.mp hz with w | w
                  · have : y.2 = z := by rw [← w]
                    rw [← this]; exact ltR_irrefl _
                  · exact fun k => least z w (ltR_trans k hlt)
                · refine ⟨m, List.mem_cons_of_mem _ hm, fun z hz => ?_⟩
                  rcases List.mem_cons.mp hz with w | w
                  · have : y.2 = z := by rw [← w]
                    rw [← this]; exact hlt
                  · exact least z w
              · refine ⟨m, List.mem_cons_of_mem _ hm, fun z hz => ?_⟩
                rcases List.mem_cons.mp hz with w | w
                · exact absurd (by rw [← w]) hya
                · exact least z w
            · rcases List.mem_cons.mp hq with w | w
              · refine ⟨q, hq, fun z hz => ?_⟩
                rcases List.mem_cons.mp hz with v | v
                · have : q = z := by have := w.trans v.symm; exact (Prod.mk.inj this).2
                  rw [this]; exact ltR_irrefl _
                · exact absurd ⟨z, v⟩ hy
              · exact absurd ⟨q, w⟩ hy
        obtain ⟨m, hm, least⟩ := ex Y ⟨q, hq⟩
        exact lookup_no.mp hl (List.mem_map.mpr ⟨(a, m), (h.mem a m).mpr ⟨hf, hm, least⟩, rfl⟩)
      simp only []
      refine ⟨?_, fun b q => ?_⟩
      · rw [List.map_append, List.nodup_append]
        refine ⟨h.nd, by simp, fun x hx y hy => ?_⟩
        have : y = a := by simpa using hy
        subst this
        rintro rfl
        exact lookup_no.mp hl hx
      · rw [List.mem_append, h.mem, inY]
        constructor
        · rintro (⟨h1, h2, h3⟩ | z)
          · refine ⟨h1, .inl h2, fun z hz => ?_⟩
            rcases (inY b z).mp hz with y | ⟨y, _⟩
            · exact h3 z y
            · subst y; exact absurd h2 (no q)
          · have z : (b, q) = (a, r) := by simpa using z
            cases z
            refine ⟨hf, .inr ⟨rfl, rfl⟩, fun z hz => ?_⟩
            rcases (inY a z).mp hz with y | ⟨_, y⟩
            · exact absurd y (no z)
            · subst y; exact ltR_irrefl _
        · rintro ⟨h1, h2, h3⟩
          rcases h2 with h2 | ⟨y, y2⟩
          · exact .inl ⟨h1, h2, fun z hz => h3 z ((inY b z).mpr (.inl hz))⟩
          · subst y y2; exact .inr (by simp)
    | some m =>
      have hm := (h.mem a m).mp ((look_in h.nd).mp hl)
      simp only []
      by_cases hlt : ltR r m
      · simp only [hlt, if_true]
        refine ⟨?_, fun b q => ?_⟩
        · have : (fr.map fun x => if x.1 = a then (x.1, r) else x).map (·.1) = fr.map (·.1) := by
            rw [List.map_map]
            refine List.map_congr_left fun x _ => ?_
            show (if x.1 = a then (x.1, r) else x).1 = x.1
            by_cases z : x.1 = a <;> simp [z]
          rw [this]; exact h.nd
        · rw [List.mem_map, inY]
          constructor
          · rintro ⟨⟨c, p⟩, hx, e⟩
            by_cases z : c = a
            · subst z
              simp only [if_true] at e
              cases e
              refine ⟨hf, .inr ⟨rfl, rfl⟩, fun z hz => ?_⟩
              rcases (inY b z).mp hz with y | ⟨_, y⟩
              · exact fun k => hm.2.2 z y (ltR_trans k hlt)
              · subst y; exact ltR_irrefl _
            · simp only [z, if_false] at e
              cases e
              obtain ⟨h1, h2, h3⟩ := (h.mem b q).mp hx
              refine ⟨h1, .inl h2, fun w hw => ?_⟩
              rcases (inY b w).mp hw with y | ⟨y, _⟩
              · exact h3 w y
              · exact absurd y z
          · rintro ⟨h1, h2, h3⟩
            by_cases z : b = a
            · subst z
              refine ⟨(b, m), (look_in h.nd).mp hl, ?_⟩
              simp only [if_true]
              rcases h2 with h2 | ⟨_, y⟩
              · have := h3 r ((inY b r).mpr (.inr ⟨rfl, rfl⟩))
                rcases ltR_tri r q with k | k | k
                · exact absurd k this
                · rw [k]
                · exact absurd (ltR_trans k hlt) (hm.2.2 q h2)
              · rw [y]
            · refine ⟨(b, q), (h.mem b q).mpr ⟨h1, ?_, fun w hw => h3 w ((inY b w).mpr (.inl hw))⟩, by simp [z]⟩
              rcases h2 with h2 | ⟨y, _⟩
              · exact h2
              · exact absurd y z
      · simp only [hlt, if_false]
        refine ⟨h.nd, fun b q => ?_⟩
        rw [h.mem, inY]
        constructor
        · rintro ⟨h1, h2, h3⟩
          refine ⟨h1, .inl h2, fun z hz => ?_⟩
          rcases (inY b z).mp hz with y | ⟨y, y2⟩
          · exact h3 z y
          · subst y y2
            have : m = q := by
              rcases ltR_tri m q with k | k | k
              · exact absurd k (h3 m hm.2.1)
              · exact k
              · exact absurd k (hm.2.2 q h2)
            rw [← this]; exact hlt
        · rintro ⟨h1, h2, h3⟩
          rcases h2 with h2 | ⟨y, y2⟩
          · exact ⟨h1, h2, fun z hz => h3 z ((inY b z).mpr (.inl hz))⟩
          · subst y y2
            have e : m = q := by
              rcases ltR_tri m q with k | k | k
              · exact absurd k (h3 m ((inY b m).mpr (.inl hm.2.1)))
              · exact k
              · exact absurd k hlt
            rw [← e]
            exact ⟨h1, hm.2.1, hm.2.2⟩
theorem freshOf_ok (found : List α) (X : List (α × Run)) : FrOk found X (freshOf found X) := by
  have go : ∀ (X Y fr : List (α × Run)), FrOk found Y fr → FrOk found (Y ++ X) (X.foldl (putF found) fr) := fun X => by
    induction X with
    | nil => intro Y fr h; rw [List.append_nil]; exact h
    | cons e X ih =>
      intro Y fr h
      have := ih (Y ++ [e]) _ (frOk_put (e := e) h)
      rwa [List.append_assoc] at this
  have := go X [] [] ⟨.nil, fun a r => by simp⟩
  rwa [List.nil_append] at this
end
end DD

set_option maxHeartbeats 400000
namespace DD
open PySem L2 PyProof.Rows
variable [NMs]
/-! ### first comers of a sorted list -/
section
variable {α : Type} [DecidableEq α]
def stepL (found : List α) (acc : List (α × Run)) (e : α × Run) : List (α × Run) := if e.1 ∈ found ∨ e.1 ∈ acc.map (·.1) then acc else acc ++ [e]
def firsts (found : List α) (S : List (α × Run)) : List (α × Run) := S.foldl (stepL found) []
theorem stepL_put {found : List α} {Y acc : List (α × Run)} {e : α × Run} (h : FrOk found Y acc) (le : ∀ x ∈ Y, ¬ ltR e.2 x.2) : stepL found acc e = putF found acc e := by
  unfold stepL putF
  by_cases hf : e.1 ∈ found
  · simp [hf]
  · simp only [hf, false_or, if_false]
    cases hl : acc.lookup e.1 with
    | none => rw [if_neg (lookup_no.mp hl)]
    | some r =>
      have hm := (look_in h.nd).mp hl
      have : e.1 ∈ acc.map (·.1) := List.mem_map.mpr ⟨_, hm, rfl⟩
      have n := le _ ((h.mem _ _).mp hm).2.1
      simp only [this, if_true, n, if_false]
theorem firsts_go {found : List α} : ∀ (S Y acc : List (α × Run)), FrOk found Y acc → S.Pairwise (fun a b => ¬ ltR b.2 a.2) → (∀ x ∈ Y, ∀ e ∈ S, ¬ ltR e.2 x.2) → S.foldl (stepL found) acc = S.foldl (putF found) acc
  | [], _, _, _, _, _ => rfl
  | e :: S, Y, acc, h, p, q => by
    rw [List.pairwise_cons] at p
    rw [List.foldl_cons, List.foldl_cons, stepL_put h fun x hx => q x hx e List.mem_cons_self]
    refine firsts_go S (Y ++ [e]) _ (frOk_put h) p.2 fun x hx f hf => ?_
    rcases List.mem_append.mp hx with z | z
    · exact q x z f (List.mem_cons_of_mem _ hf)
    · have : x = e := by simpa using z
      rw [this]; exact p.1 f hf
theorem firsts_fresh {found : List α} {S : List (α × Run)} (p : S.Pairwise fun a b => ¬ ltR b.2 a.2) : firsts found S = freshOf found S :=
  firsts_go S [] [] ⟨.nil, fun a r => by simp⟩ p (fun x hx => by simp at hx)
theorem firsts_sorted {found : List α} : ∀ (S acc : List (α × Run)), acc.Pairwise (fun a b => ¬ ltR b.2 a.2) → S.Pairwise (fun a b => ¬ ltR b.2 a.2) → (∀ x ∈ acc, ∀ e ∈ S, ¬ ltR e.2 x.2) → (S.foldl (stepL found) acc).Pairwise fun a b => ¬ ltR b.2 a.2
  | [], _, h, _, _ => h
  | e :: S, acc, h, p, q => by
    rw [List.pairwise_cons] at p
    rw [List.foldl_cons]
    unfold stepL
    split
    · exact firsts_sorted S acc h p.2 fun x hx f hf => q x hx f (List.mem_cons_of_mem _ hf)
    · refine firsts_sorted S (acc ++ [e]) ?_ p.2 fun x hx f hf => ?_
      · rw [List.pairwise_append]
        refine ⟨h, List.pairwise_singleton _ _, fun x hx y hy => ?_⟩
        have : y = e := by simpa using hy
        rw [this]; exact q x hx e List.mem_cons_self
      · rcases List.mem_append.mp hx with z | z
        · exact q x z f (List.mem_cons_of_mem _ hf)
        · have : x = e := by simpa using z
          rw [this]; exact p.1 f hf
/-- different places, different runs: sorted means rising -/
theorem rising_of {L : List (α × Run)} (nd : (L.map (·.1)).Nodup) (s : L.Pairwise fun a b => ¬ ltR b.2 a.2) (U : ∀ e ∈ L, ∀ f ∈ L, e.2 = f.2 → e.1 = f.1) : L.Pairwise fun a b => ltR a.2 b.2 := by
  induction L with
  | nil => exact .nil
  | cons a L ih =>
    rw [List.map_cons, List.nodup_cons] at nd
    rw [List.pairwise_cons] at s ⊢
    refine ⟨fun b hb => ?_, ih nd.2 s.2 fun e he f hf => U e (List.mem_cons_of_mem _ he) f (List.mem_cons_of_mem _ hf)⟩
    rcases ltR_tri a.2 b.2 with k | k | k
    · exact k
    · exact absurd (List.mem_map.mpr ⟨b, hb, (U a List.mem_cons_self b (List.mem_cons_of_mem _ hb) k).symm⟩) nd.1
    · exact absurd k (s.1 b hb)
/-- the dict of least runs, sorted by runs, is the list of the first comers -/
theorem layer_eq {found : List α} {X S : List (α × Run)} (hp : S.Perm X) (hs : S.Pairwise fun a b => ¬ ltR b.2 a.2) (U : ∀ e ∈ X, ∀ f ∈ X, e.2 = f.2 → e.1 = f.1) : sortR (·.2) (freshOf found X) = firsts found S := by
  have f1 := freshOf_ok found X
  have f2 := freshOf_ok found S
  rw [firsts_fresh hs]
  have pm := sortR_perm (g := fun x : α × Run => x.2) (freshOf found X)
  have inX : ∀ e ∈ freshOf found X, e ∈ X := fun e he => ((f1.mem e.1 e.2).mp he).2.1
  have inS : ∀ e ∈ freshOf found S, e ∈ X := fun e he => hp.mem_iff.mp ((f2.mem e.1 e.2).mp he).2.1
  refine rising_eq (g := fun x : α × Run => x.2) ?_ ?_ fun e => ?_
  · refine rising_of ((pm.map _).nodup_iff.mpr f1.nd) (sortR_sorted _) fun e he f hf => U e (inX e (pm.mem_iff.mp he)) f (inX f (pm.mem_iff.mp hf))
  · refine rising_of f2.nd ?_ fun e he f hf => U e (inS e he) f (inS f hf)
    rw [← firsts_fresh hs]
    exact firsts_sorted S [] .nil hs fun x hx => by simp at hx
  · rw [pm.mem_iff]
    have a := f1.mem e.1 e.2
    have b := f2.mem e.1 e.2
    show e ∈ _ ↔ e ∈ _
    rw [show e = (e.1, e.2) from rfl, a, b]
    constructor
    · rintro ⟨h1, h2, h3⟩
      exact ⟨h1, hp.mem_iff.mpr h2, fun q hq => h3 q (hp.mem_iff.mp hq)⟩
    · rintro ⟨h1, h2, h3⟩
      exact ⟨h1, hp.mem_iff.mp h2, fun q hq => h3 q (hp.mem_iff.mpr hq)⟩
end
end DD

set_option maxHeartbeats 400000
namespace DD
open PySem L2 PyProof.Rows
variable [NMs]
/-! ### layer by layer -/
section
variable {α : Type} [DecidableEq α]
abbrev Lay (α : Type) := List (α × Run) × List (α × Run)
def nextN (ext : α × Run → List (α × Run)) (F N : List (α × Run)) : List (α × Run) := sortR (·.2) (freshOf (F.map (·.1)) (N.flatMap ext))
def lay (ext : α × Run → List (α × Run)) (s : α × Run) : Nat → Lay α
  | 0 => ([s], [s])
  | n + 1 => ((lay ext s n).1 ++ nextN ext (lay ext s n).1 (lay ext s n).2, nextN ext (lay ext s n).1 (lay ext s n).2)
variable {ext : α × Run → List (α × Run)} {s : α × Run}
theorem nextN_mem {F N : List (α × Run)} {e : α × Run} (h : e ∈ nextN ext F N) : e.1 ∉ F.map (·.1) ∧ e ∈ N.flatMap ext := by
  have f := freshOf_ok (F.map (·.1)) (N.flatMap ext)
  have m := (sortR_perm (g := fun x : α × Run => x.2) _).mem_iff.mp h
  have := (f.mem e.1 e.2).mp m
  exact ⟨this.1, this.2.1⟩
theorem nextN_nd (F N : List (α × Run)) : ((nextN ext F N).map (·.1)).Nodup :=
  ((sortR_perm (g := fun x : α × Run => x.2) _).map _).nodup_iff.mpr (freshOf_ok _ _).nd
theorem lay_nd : ∀ n, ((lay ext s n).1.map (·.1)).Nodup
  | 0 => by simp [lay]
  | n + 1 => by
    show (((lay ext s n).1 ++ nextN ext (lay ext s n).1 (lay ext s n).2).map (·.1)).Nodup
    rw [List.map_append, List.nodup_append]
    refine ⟨lay_nd n, nextN_nd _ _, fun a ha b hb => ?_⟩
    rintro rfl
    obtain ⟨e, he, rfl⟩ := List.mem_map.mp hb
    exact (nextN_mem he).1 ha
/-- what holds of the start and goes over to what comes next -/
theorem lay_all {P : α × Run → Prop} (h0 : P s) (h : ∀ e, P e → ∀ f ∈ ext e, P f) : ∀ n, (∀ e ∈ (lay ext s n).1, P e) ∧ ∀ e ∈ (lay ext s n).2, P e
  | 0 => ⟨fun e he => by have : e = s := by simpa [lay] using he
                         rw [this]; exact h0, fun e he => by have : e = s := by simpa [lay] using he
                                                             rw [this]; exact h0⟩
  | n + 1 => by
    obtain ⟨i1, i2⟩ := lay_all h0 h n
    have new : ∀ e ∈ nextN ext (lay ext s n).1 (lay ext s n).2, P e := fun e he => by
      obtain ⟨_, m⟩ := nextN_mem he
      obtain ⟨y, hy, hz⟩ := List.mem_flatMap.mp m
      exact h y (i2 y hy) e hz
    refine ⟨fun e he => ?_, new⟩
    rcases List.mem_append.mp he with z | z
    · exact i1 e z
    · exact new e z
theorem lay_stop {n : Nat} (h : (lay ext s n).2 = []) : ∀ m, n ≤ m → lay ext s m = lay ext s n := fun m hm => by
  induction m with
  | zero => have : n = 0 := by omega
            rw [this]
  | succ m ih =>
    by_cases e : n = m + 1
    · rw [e]
    · have := ih (by omega)
      show ((lay ext s m).1 ++ nextN ext (lay ext s m).1 (lay ext s m).2, nextN ext (lay ext s m).1 (lay ext s m).2) = _
      rw [this, h]
      have z : nextN ext (lay ext s n).1 [] = [] := by simp [nextN, freshOf, sortR]
      rw [z, List.append_nil]
      exact Prod.ext rfl h.symm
theorem lay_long : ∀ n, (lay ext s n).2 ≠ [] → n + 1 ≤ (lay ext s n).1.length
  | 0, _ => by simp [lay]
  | n + 1, h => by
    have h' : nextN ext (lay ext s n).1 (lay ext s n).2 ≠ [] := h
    have hp : (lay ext s n).2 ≠ [] := fun z => h' (by rw [z]; simp [nextN, freshOf, sortR])
    have ih := lay_long n hp
    show n + 1 + 1 ≤ ((lay ext s n).1 ++ nextN ext (lay ext s n).1 (lay ext s n).2).length
    rw [List.length_append]
    have : 0 < (nextN ext (lay ext s n).1 (lay ext s n).2).length := List.length_pos_iff.mpr h'
    omega
theorem nodup_len {β : Type} [DecidableEq β] : ∀ {l U : List β}, l.Nodup → (∀ a ∈ l, a ∈ U) → l.length ≤ U.length
  | [], _, _, _ => Nat.zero_le _
  | a :: l, U, nd, h => by
    rw [List.nodup_cons] at nd
    have ha := h a List.mem_cons_self
    have ih := nodup_len (l := l) (U := U.erase a) nd.2 fun b hb => by
      have ne : b ≠ a := fun z => nd.1 (by rw [← z]; exact hb)
      exact (List.mem_erase_of_ne ne).mpr (h b (List.mem_cons_of_mem _ hb))
    have le := List.length_erase_of_mem ha
    have pos : 0 < U.length := List.length_pos_of_mem ha
    rw [List.length_cons]
    omega
/-- there are so many places at most: so the layers end -/
theorem lay_end {U : List α} (h : ∀ n, ∀ e ∈ (lay ext s n).1, e.1 ∈ U) : ∀ n, U.length ≤ n → (lay ext s n).2 = [] := fun n hn => by
  by_cases e : (lay ext s n).2 = []
  · exact e
  · have l := lay_long n e
    have := nodup_len (lay_nd (ext := ext) (s := s) n) (U := U) fun a ha => by
      obtain ⟨x, hx, rfl⟩ := List.mem_map.mp ha
      exact h n x hx
    rw [List.length_map] at this
    omega
end
end DD

set_option maxHeartbeats 400000
namespace DD
open PySem L2 PyProof.Rows
variable [NMs]
/-! ### a dict of places and runs, by data -/
/-- places as keys -/
structure PlK {α : Type} (enc : α → D) (key : α → NestedKey) : Prop where
  tup : ∀ a, tupK (enc a) = some (key a)
  inj : ∀ a b, key a = key b → a = b
  dep : ∀ a, (key a).depth ≤ 8
section
variable {α β : Type} [DecidableEq α] {enc : α → D} {key : α → NestedKey} {dv : β → D}
def dkD (enc : α → D) (dv : β → D) (L : List (α × β)) : O := .dkt (L.map fun e => enc e.1) (L.map fun e => dv e.2)
/-- it stands there, perhaps as an empty dict -/
def IsDk (enc : α → D) (dv : β → D) (st : Sto) (n : Nat) (L : List (α × β)) : Prop := st[n]? = some (dkD enc dv L) ∨ (st[n]? = some (.dct [] []) ∧ L = [])
theorem tup_nk {d : D} {k : NestedKey} (h : tupK d = some k) : nkD d = some k := by
  cases d <;> first | exact h | cases h
theorem nkDs_keys (p : PlK enc key) : ∀ (L : List (α × β)), nkDs (L.map fun e => enc e.1) = some (L.map fun e => key e.1)
  | [] => rfl
  | e :: L => by
    rw [List.map_cons, List.map_cons]
    simp [nkDs, tup_nk (p.tup e.1), nkDs_keys p L]
theorem lookK_keys (p : PlK enc key) (a : α) : ∀ (L : List (α × β)), lookK (key a) (L.map fun e => key e.1) (L.map fun e => dv e.2) = (L.lookup a).map dv
  | [] => rfl
  | (b, r) :: L => by
    rw [List.map_cons, List.map_cons]
    unfold lookK
    by_cases h : b = a
    · subst h; simp
    · have n : key b ≠ key a := fun z => h (p.inj _ _ z)
      have n2 : (a == b) = false := beq_false_of_ne fun z => h z.symm
      rw [if_neg n, List.lookup_cons, n2, lookK_keys p a L]
theorem atK_keys (p : PlK enc key) (a : α) (L : List (α × β)) : atK (key a) (L.map fun e => enc e.1) (L.map fun e => dv e.2) = (L.lookup a).map dv := by
  unfold atK
  rw [nkDs_keys p L]
  exact lookK_keys p a L
theorem IsDk.of {st : Sto} {n : Nat} {L : List (α × β)} (h : IsDk enc dv st n L) : dkOf (.ref n) st = some (L.map fun e => enc e.1, L.map fun e => dv e.2) := by
  unfold dkOf
  rcases h with h | ⟨h, rfl⟩ <;> simp only [h] <;> rfl
theorem kget_of (p : PlK enc key) {st : Sto} {n : Nat} {L : List (α × β)} {a : α} {r : β} (h : IsDk enc dv st n L) (hl : L.lookup a = some r) : fKGet (.ref n) (enc a) st = .ok (dv r) st := by
  unfold fKGet
  rw [h.of, p.tup]
  simp only [p.dep, if_true, atK_keys p, hl, Option.map_some]
theorem kin_of (p : PlK enc key) {st : Sto} {n : Nat} {L : List (α × β)} {neg : Bool} (a : α) (h : IsDk enc dv st n L) : fKIn neg (enc a) (.ref n) st = .ok (.bl (if neg then !(L.lookup a).isSome else (L.lookup a).isSome)) st := by
  unfold fKIn
  rw [h.of, p.tup]
  simp only [p.dep, if_true, atK_keys p, Option.isSome_map]
def putE (L : List (α × β)) (a : α) (r : β) : List (α × β) := if (L.lookup a).isSome then L.map (fun x => if x.1 = a then (x.1, r) else x) else L ++ [(a, r)]
theorem repl_keys (p : PlK enc key) (a : α) (r : β) : ∀ (L : List (α × β)), repl (key a) (dv r) (L.map fun e => key e.1) (L.map fun e => dv e.2) = (L.map fun x => if x.1 = a then (x.1, r) else x).map fun e => dv e.2
  | [] => rfl
  | (b, q) :: L => by
    rw [List.map_cons, List.map_cons, List.map_cons, List.map_cons]
    unfold repl
    rw [repl_keys p a r L]
    by_cases h : b = a
    · subst h; simp
    · have n : key b ≠ key a := fun z => h (p.inj _ _ z)
      simp [h, n]
theorem lookup_isSome {a : α} : ∀ {L : List (α × β)}, (L.lookup a).isSome = true ↔ a ∈ L.map (·.1)
  | [] => by simp
  | (b, q) :: L => by
    by_cases h : a = b
    · subst h; simp
    · rw [List.lookup_cons, beq_false_of_ne h, List.map_cons, List.mem_cons]
      rw [lookup_isSome]
      exact ⟨.inr, fun z => z.resolve_left h⟩
theorem setK_of (p : PlK enc key) {st : Sto} {n : Nat} {L : List (α × β)} {env : Env} (a : α) (r : β) (h : IsDk enc dv st n L) (hl : L.length ≤ bigLine) : setKR (.ref n) (enc a) (dv r) env st = .nx env (st.set n (dkD enc dv (putE L a r))) := by
  unfold setKR
  simp only []
  rw [h.of, p.tup]
  have c : (key a).depth ≤ 8 ∧ (L.map fun e => enc e.1).length ≤ bigLine := ⟨p.dep a, by rw [List.length_map]; exact hl⟩
  simp only [c, and_self, if_true]
  unfold putKD
  rw [nkDs_keys p L]
  have e : (key a ∈ L.map fun e => key e.1) ↔ (L.lookup a).isSome = true := by
    rw [lookup_isSome, List.mem_map, List.mem_map]
    constructor
    · rintro ⟨x, hx, z⟩; exact ⟨x, hx, p.inj _ _ z⟩
    · rintro ⟨x, hx, rfl⟩; exact ⟨x, hx, rfl⟩
  unfold putE dkD
  by_cases hs : (L.lookup a).isSome = true
  · simp only [hs, if_true, e.mpr hs]
    rw [repl_keys p]
    congr 3
    rw [List.map_map]
    refine List.map_congr_left fun x _ => ?_
    show enc x.1 = enc (if x.1 = a then (x.1, r) else x).1
    by_cases z : x.1 = a <;> simp [z]
  · have hn : key a ∉ L.map fun e => key e.1 := fun z => hs (e.mp z)
    simp only [hs, hn, if_false, List.map_append, List.map_cons, List.map_nil]
    simp
end
end DD

set_option maxHeartbeats 400000
namespace DD
open PySem L2 PyProof.Rows
variable [NMs]
/-! ### earliest, step by step -/
@[simp] theorem dSetK_e {da dx dk : DE} {env : Env} {st : Sto} : dSetK da dx dk env st = (da env st).bindS env fun x st1 => (dx env st1).bindS env fun o st2 => (dk env st2).bindS env fun i st3 => setKR o i x env st3 := rfl
theorem toPys_ints (st : Sto) : ∀ (ns : List Int), toPys st (ns.map .int) = some (ns.map .int)
  | [] => rfl
  | n :: ns => by rw [List.map_cons]; simp [toPys, toPy, toPys_ints st ns]
theorem toPys0_ints : ∀ (ns : List Int), toPys0 (ns.map .int) = some (ns.map .int)
  | [] => rfl
  | n :: ns => by rw [List.map_cons]; simp [toPys0, toPy0, toPys0_ints ns]
theorem toPy_R (st : Sto) (r : Run) : toPy st (dR r) = some (encR r) := by
  unfold dR encR
  simp [toPy, toPys, toPys_ints]
theorem toPy0_R (r : Run) : toPy0 (dR r) = some (encR r) := by
  unfold dR encR
  simp [toPy0, toPys0, toPys0_ints]
theorem toPys0_R {β : Type} (g : β → Run) : ∀ (L : List β), toPys0 (L.map fun e => dR (g e)) = some (L.map fun e => encR (g e))
  | [] => rfl
  | e :: L => by rw [List.map_cons]; simp [toPys0, toPy0_R, toPys0_R g L]
theorem depth_ints : ∀ (ns : List Int), PyData.depthAll (ns.map .int) = 0 := PySem.W.depth_ints
theorem depth_R (r : Run) : (encR r).depth ≤ 64 := by
  unfold encR
  simp [PyData.depth, PyData.depthAll, depth_ints]
theorem fLtX_R (st : Sto) (r q : Run) : fLtX (dR r) (dR q) st = .ok (.bl (decide (ltR r q))) st := by
  unfold fLtX
  rw [toPy_R, toPy_R]
  have : ltOk (encR r) (encR q) = true := ltOk_iff.mpr ⟨alike_R r q, by unfold encR; simp, depth_R r⟩
  simp only [this, if_true, dataLt_R]
section
variable {α : Type} [DecidableEq α] {enc : α → D} {key : α → NestedKey}
theorem ear1 (p : PlK enc key) {st : Sto} {n0 n1 : Nat} {F fr : List (α × Run)} {env : Env} {a : α} {r : Run} (hF : IsDk enc dR st n0 F) (hf : IsDk enc dR st n1 fr) (hl : fr.length ≤ bigLine) (e2 : env[2]? = some (some (.ref n0))) (e4 : env[4]? = some (some (.ref n1))) (e10 : env[10]? = some (some (enc a))) (e11 : env[11]? = some (some (dR r))) :
    ∃ st', d_earliest_1 env st = .nx env st' ∧ ((st' = st ∧ putF (F.map (·.1)) fr (a, r) = fr) ∨ st' = st.set n1 (dkD enc dR (putF (F.map (·.1)) fr (a, r)))) := by
  have k1 := kin_of p (neg := true) a hF
  have k2 := kin_of p (neg := true) a hf
  have s := setK_of p (env := env) a r hf hl
  unfold d_earliest_1
  by_cases h1 : a ∈ F.map (·.1)
  · have z1 : (F.lookup a).isSome = true := lookup_isSome.mpr h1
    refine ⟨st, ?_, .inl ⟨rfl, by simp [putF, h1]⟩⟩
    simp [e2, e10, k1, z1]
  · have z1 : (F.lookup a).isSome = false := by
      rw [Bool.eq_false_iff]; exact fun z => h1 (lookup_isSome.mp z)
    cases hq : fr.lookup a with
    | none =>
      refine ⟨_, ?_, .inr rfl⟩
      have pe : putF (F.map (·.1)) fr (a, r) = putE fr a r := by simp [putF, h1, hq, putE]
      rw [pe]
      simp [e2, e4, e10, e11, k1, k2, z1, hq, s]
    | some q =>
      have kg := kget_of p hf hq
      by_cases lt : ltR r q
      · refine ⟨_, ?_, .inr rfl⟩
        have pe : putF (F.map (·.1)) fr (a, r) = putE fr a r := by simp [putF, h1, hq, putE, lt]
        rw [pe]
        simp [e2, e4, e10, e11, k1, k2, z1, hq, s, kg, fLtX_R, lt]
      · refine ⟨st, ?_, .inl ⟨rfl, by simp [putF, h1, hq, lt]⟩⟩
        simp [e2, e4, e10, e11, k1, k2, z1, hq, kg, fLtX_R, lt]
end
end DD

set_option maxHeartbeats 400000
namespace DD
open PySem L2 PyProof.Rows
variable [NMs]
/-! ### earliest: the steps of one place, the places of one layer -/
section
variable {α : Type} [DecidableEq α] {enc : α → D} {key : α → NestedKey}
theorem noLam_R (r : Run) : noLam (dR r) = true := by
  unfold dR
  simp [noLam, noLams, noLams_map (f := D.int) (fun _ => rfl)]
theorem noLam_dk (hn : ∀ a, noLam (enc a) = true) (L : List (α × Run)) : noLamO (dkD enc dR L) = true := by
  show (noLams (L.map fun e => enc e.1) && noLams (L.map fun e => dR e.2)) = true
  rw [noLams_map (f := fun e : α × Run => enc e.1) (fun e => hn e.1), noLams_map (f := fun e : α × Run => dR e.2) (fun e => noLam_R e.2)]
  rfl
/-- what the store holds while earliest runs -/
structure SI (enc : α → D) (base : Sto) (F fr : List (α × Run)) (n1 : Nat) (st : Sto) : Prop where
  pre : st.take base.length = base
  f : st[base.length]? = some (dkD enc dR F)
  fr : IsDk enc dR st n1 fr
  nl : NL st
  lt : base.length < n1
  lo : n1 < st.length
theorem NL.app2 {a b : Sto} (h : NL a) (k : NL b) : NL (a ++ b) := by
  unfold NL at *
  rw [List.all_append, h, k]; rfl
theorem SI.app {base st junk : Sto} {F fr : List (α × Run)} {n1 : Nat} (h : SI enc base F fr n1 st) (j : NL junk) : SI enc base F fr n1 (st ++ junk) := by
  have l0 : base.length < st.length := Nat.lt_trans h.lt h.lo
  refine ⟨?_, ?_, ?_, h.nl.app2 j, h.lt, by rw [List.length_append]; have := h.lo; omega⟩
  · rw [List.take_append_of_le_length (Nat.le_of_lt l0)]; exact h.pre
  · rw [List.getElem?_append_left l0]; exact h.f
  · unfold IsDk; rw [List.getElem?_append_left h.lo]; exact h.fr
theorem SI.set {base st : Sto} {F fr fr' : List (α × Run)} {n1 : Nat} (hn : ∀ a, noLam (enc a) = true) (h : SI enc base F fr n1 st) : SI enc base F fr' n1 (st.set n1 (dkD enc dR fr')) := by
  have ne : n1 ≠ base.length := Nat.ne_of_gt h.lt
  refine ⟨?_, ?_, ?_, h.nl.set (noLam_dk hn _), h.lt, by rw [List.length_set]; exact h.lo⟩
  · rw [List.take_set_of_le (Nat.le_of_lt h.lt)]; exact h.pre
  · rw [List.getElem?_set_ne ne]; exact h.f
  · exact .inl (List.getElem?_set_self h.lo)
def stD (enc : α → D) (e : Nat × Int × α) : D := .tup [.str (tx [e.1]), .int e.2.1, enc e.2.2]
def exF (nxt : α → List (Nat × Int × α)) (e : α × Run) : List (α × Run) := (nxt e.1).map fun s => (s.2.2, (e.2.1 ++ [s.1], e.2.2 ++ [s.2.1]))
theorem foldl_take {β γ : Type} (f : β → γ → β) (b : β) (l : List γ) {i : Nat} {x : γ} (h : l[i]? = some x) : (l.take (i + 1)).foldl f b = f ((l.take i).foldl f b) x := by
  obtain ⟨hi, rfl⟩ := List.getElem?_eq_some_iff.mp h
  rw [List.take_succ_eq_append_getElem hi, List.foldl_append]
  rfl
theorem ear2 (p : PlK enc key) (hn : ∀ a, noLam (enc a) = true) {nxt : α → List (Nat × Int × α)} {b : α} {r : Run} {lam v0 v3 : D} {base st : Sto} {F fr : List (α × Run)} {n1 : Nat} {y8 y9 y10 y11 : Option D}
    (hgo : ∀ st, NL st → ∃ junk, NL junk ∧ lamGoR tab_earliest_steps lam [enc b] st = .ok (.fz ((nxt b).map (stD enc))) (st ++ junk)) (hlam : ∃ kk W cs, lam = .lam kk W cs)
    (hl : ∀ i, (((exF nxt (b, r)).take i).foldl (putF (F.map (·.1))) fr).length ≤ 1000) (hr1 : r.1.length ≤ 1000) (hr2 : r.2.length ≤ 1000) (h : SI enc base F fr n1 st) :
    ∃ z8 z9 z10 z11 st', d_earliest_2 [some v0, some lam, some (.ref base.length), some v3, some (.ref n1), some (enc b), some (.str (tx r.1)), some (.tup (r.2.map .int)), y8, y9, y10, y11] st
      = .nx [some v0, some lam, some (.ref base.length), some v3, some (.ref n1), some (enc b), some (.str (tx r.1)), some (.tup (r.2.map .int)), z8, z9, z10, z11] st' ∧ SI enc base F ((exF nxt (b, r)).foldl (putF (F.map (·.1))) fr) n1 st' := by
  obtain ⟨kk, W, cs, rfl⟩ := hlam
  obtain ⟨junk, hj, eg⟩ := hgo st h.nl
  have big : 1000 + 1 ≤ bigLine := by decide
  unfold d_earliest_2
  simp [eg]
  generalize hloop : loop _ _ _ _ _ _ = res
  have step : ∀ (i : Nat) (x : D) (env : Env) (st2 : Sto), ((nxt b).map (stD enc))[i]? = some x → ((∃ z8 z9 z10 z11, env = [some v0, some (.lam kk W cs), some (.ref base.length), some v3, some (.ref n1), some (enc b), some (.str (tx r.1)), some (.tup (r.2.map .int)), z8, z9, z10, z11]) ∧ SI enc base F (((exF nxt (b, r)).take i).foldl (putF (F.map (·.1))) fr) n1 st2) → ∃ env1 env2 st3, gdTup 3 (gdCons (gdName 8) (gdCons (gdName 9) (gdCons (gdName 10) gdNil))) x env = some env1 ∧ (dSeq (dSet 11 (dTup (dCons (dBin fAdd (dVar 6) (dVar 8)) (dCons (dBin fAdd (dVar 7) (dTup (dCons (dVar 9) dNil))) dNil)))) d_earliest_1 env1 st2 = .nx env2 st3 ∨ dSeq (dSet 11 (dTup (dCons (dBin fAdd (dVar 6) (dVar 8)) (dCons (dBin fAdd (dVar 7) (dTup (dCons (dVar 9) dNil))) dNil)))) d_earliest_1 env1 st2 = .ct env2 st3) ∧ ((∃ z8 z9 z10 z11, env2 = [some v0, some (.lam kk W cs), some (.ref base.length), some v3, some (.ref n1), some (enc b), some (.str (tx r.1)), some (.tup (r.2.map .int)), z8, z9, z10, z11]) ∧ SI enc base F (((exF nxt (b, r)).take (i + 1)).foldl (putF (F.map (·.1))) fr) n1 st3) := by
    rintro i x env st2 hx ⟨⟨z8, z9, z10, z11, ee⟩, hi⟩
    subst ee
    rw [List.getElem?_map] at hx
    obtain ⟨s, hs, rfl⟩ := Option.map_eq_some_iff.mp hx
    have he : (exF nxt (b, r))[i]? = some (s.2.2, (r.1 ++ [s.1], r.2 ++ [s.2.1])) := by simp [exF, hs]
    obtain ⟨st3, e3, hst⟩ := ear1 p (env := [some v0, some (.lam kk W cs), some (.ref base.length), some v3, some (.ref n1), some (enc b), some (.str (tx r.1)), some (.tup (r.2.map .int)), some (.str (tx [s.1])), some (.int s.2.1), some (enc s.2.2), some (dR (r.1 ++ [s.1], r.2 ++ [s.2.1]))])
      (a := s.2.2) (r := (r.1 ++ [s.1], r.2 ++ [s.2.1])) (n0 := base.length) (n1 := n1) (F := F) (.inl hi.f) hi.fr (Nat.le_trans (hl i) (by omega)) rfl rfl rfl rfl
    refine ⟨_, [some v0, some (.lam kk W cs), some (.ref base.length), some v3, some (.ref n1), some (enc b), some (.str (tx r.1)), some (.tup (r.2.map .int)), some (.str (tx [s.1])), some (.int s.2.1), some (enc s.2.2), some (dR (r.1 ++ [s.1], r.2 ++ [s.2.1]))], st3, by simp [stD]; rfl, .inl ?_, ⟨_, _, _, _, rfl⟩, ?_⟩
    · have c1 : r.1.length + 1 ≤ bigLine := by omega
      have c2 : r.2.length + 1 ≤ bigLine := by omega
      have ed : D.tup [.str (tx (r.1 ++ [s.1])), .tup (r.2.map .int ++ [.int s.2.1])] = dR (r.1 ++ [s.1], r.2 ++ [s.2.1]) := by simp [dR]
      have b1 : 1 ≤ bigLine := by decide
      have b2 : 2 ≤ bigLine := by decide
      simp [c1, c2, b1, b2]
      rw [ed]
      exact e3
    · rw [foldl_take _ _ _ he]
      rcases hst with ⟨rfl, q⟩ | rfl
      · rw [q]; exact hi
      · exact hi.set hn
  obtain ⟨env', st', e, i⟩ := for_use (fun i env st' => (∃ z8 z9 z10 z11, env = [some v0, some (.lam kk W cs), some (.ref base.length), some v3, some (.ref n1), some (enc b), some (.str (tx r.1)), some (.tup (r.2.map .int)), z8, z9, z10, z11]) ∧ SI enc base F (((exF nxt (b, r)).take i).foldl (putF (F.map (·.1))) fr) n1 st') hloop ⟨⟨_, _, _, _, rfl⟩, h.app hj⟩ step
  obtain ⟨⟨z8, z9, z10, z11, ee⟩, hi⟩ := i
  have el : ((nxt b).map (stD enc)).length = (exF nxt (b, r)).length := by simp [exF]
  rw [el, List.take_length] at hi
  exact ⟨z8, z9, z10, z11, st', by rw [e, ee], hi⟩
end
end DD

set_option maxHeartbeats 400000
namespace DD
open PySem L2 PyProof.Rows
variable [NMs]
section
variable {α : Type} [DecidableEq α] {enc : α → D} {key : α → NestedKey}
theorem fresh_le {found U : List α} {Y : List (α × Run)} (h : ∀ e ∈ Y, e.1 ∈ U) : (freshOf found Y).length ≤ U.length := by
  have f := freshOf_ok found Y
  have := nodup_len f.nd (U := U) fun a ha => by
    obtain ⟨e, he, rfl⟩ := List.mem_map.mp ha
    exact h e ((f.mem e.1 e.2).mp he).2.1
  rwa [List.length_map] at this
theorem ear3 (p : PlK enc key) (hn : ∀ a, noLam (enc a) = true) {nxt : α → List (Nat × Int × α)} {lam v0 : D} {base st : Sto} {F N : List (α × Run)} {U : List α} {n1 : Nat} {y5 y6 y7 y8 y9 y10 y11 : Option D}
    (hgo : ∀ b ∈ N, ∀ st, NL st → ∃ junk, NL junk ∧ lamGoR tab_earliest_steps lam [enc b.1] st = .ok (.fz ((nxt b.1).map (stD enc))) (st ++ junk)) (hlam : ∃ kk W cs, lam = .lam kk W cs)
    (hF : ∀ e ∈ N, F.lookup e.1 = some e.2) (hU : ∀ e ∈ N.flatMap (exF nxt), e.1 ∈ U) (hUl : U.length ≤ 1000) (hr : ∀ e ∈ N, e.2.1.length ≤ 1000 ∧ e.2.2.length ≤ 1000) (h : SI enc base F [] n1 st) :
    ∃ z5 z6 z7 z8 z9 z10 z11 st', d_earliest_3 [some v0, some lam, some (.ref base.length), some (.fz (N.map fun e => enc e.1)), some (.ref n1), y5, y6, y7, y8, y9, y10, y11] st
      = .nx [some v0, some lam, some (.ref base.length), some (.fz (N.map fun e => enc e.1)), some (.ref n1), z5, z6, z7, z8, z9, z10, z11] st' ∧ SI enc base F (freshOf (F.map (·.1)) (N.flatMap (exF nxt))) n1 st' := by
  unfold d_earliest_3
  simp
  generalize hloop : loop _ _ _ _ _ _ = res
  have step : ∀ (i : Nat) (x : D) (env : Env) (st2 : Sto), (N.map fun e => enc e.1)[i]? = some x → ((∃ z5 z6 z7 z8 z9 z10 z11, env = [some v0, some lam, some (.ref base.length), some (.fz (N.map fun e => enc e.1)), some (.ref n1), z5, z6, z7, z8, z9, z10, z11]) ∧ SI enc base F (((N.take i).flatMap (exF nxt)).foldl (putF (F.map (·.1))) []) n1 st2) →
      ∃ env1 env2 st3, gdName 5 x env = some env1 ∧ (dSeq (dAsg (dBin fKGet (dVar 2) (dVar 5)) (gdTup 2 (gdCons (gdName 6) (gdCons (gdName 7) gdNil)))) d_earliest_2 env1 st2 = .nx env2 st3 ∨ dSeq (dAsg (dBin fKGet (dVar 2) (dVar 5)) (gdTup 2 (gdCons (gdName 6) (gdCons (gdName 7) gdNil)))) d_earliest_2 env1 st2 = .ct env2 st3) ∧
      ((∃ z5 z6 z7 z8 z9 z10 z11, env2 = [some v0, some lam, some (.ref base.length), some (.fz (N.map fun e => enc e.1)), some (.ref n1), z5, z6, z7, z8, z9, z10, z11]) ∧ SI enc base F (((N.take (i + 1)).flatMap (exF nxt)).foldl (putF (F.map (·.1))) []) n1 st3) := by
    rintro i x env st2 hx ⟨⟨z5, z6, z7, z8, z9, z10, z11, ee⟩, hi⟩
    subst ee
    rw [List.getElem?_map] at hx
    obtain ⟨⟨b, r⟩, hs, rfl⟩ := Option.map_eq_some_iff.mp hx
    have hb : (b, r) ∈ N := List.mem_of_getElem? hs
    have kg := kget_of p (dv := dR) (st := st2) (n := base.length) (L := F) (a := b) (r := r) (.inl hi.f) (hF _ hb)
    have tk : (N.take (i + 1)).flatMap (exF nxt) = (N.take i).flatMap (exF nxt) ++ exF nxt (b, r) := by
      obtain ⟨hlt, e⟩ := List.getElem?_eq_some_iff.mp hs
      rw [List.take_succ_eq_append_getElem hlt, e, List.flatMap_append]
      simp
    have inX : ∀ e ∈ (N.take (i + 1)).flatMap (exF nxt), e.1 ∈ U := fun e he => hU e (by
      obtain ⟨y, hy, hz⟩ := List.mem_flatMap.mp he
      exact List.mem_flatMap.mpr ⟨y, List.mem_of_mem_take hy, hz⟩)
    obtain ⟨w8, w9, w10, w11, st3, e3, i3⟩ := ear2 p hn (b := b) (r := r) (lam := lam) (v0 := v0) (v3 := .fz (N.map fun e => enc e.1)) (base := base) (st := st2) (F := F) (fr := ((N.take i).flatMap (exF nxt)).foldl (putF (F.map (·.1))) []) (n1 := n1) (y8 := z8) (y9 := z9) (y10 := z10) (y11 := z11)
      (hgo _ hb) hlam (fun j => by
        rw [← List.foldl_append]
        refine Nat.le_trans (fresh_le (U := U) (found := F.map (·.1)) fun e he => inX e ?_) hUl
        rw [tk]
        rcases List.mem_append.mp he with z | z
        · exact List.mem_append_left _ z
        · exact List.mem_append_right _ (List.mem_of_mem_take z)) (hr _ hb).1 (hr _ hb).2 hi
    refine ⟨_, [some v0, some lam, some (.ref base.length), some (.fz (N.map fun e => enc e.1)), some (.ref n1), some (enc b), some (.str (tx r.1)), some (.tup (r.2.map .int)), w8, w9, w10, w11], st3, by simp; rfl, .inl ?_, ⟨_, _, _, _, _, _, _, rfl⟩, ?_⟩
    · simp [kg, dR]
      exact e3
    · rw [tk, List.foldl_append]
      exact i3
  obtain ⟨env', st', e, i⟩ := for_use (fun i env st2 => (∃ z5 z6 z7 z8 z9 z10 z11, env = [some v0, some lam, some (.ref base.length), some (.fz (N.map fun e => enc e.1)), some (.ref n1), z5, z6, z7, z8, z9, z10, z11]) ∧ SI enc base F (((N.take i).flatMap (exF nxt)).foldl (putF (F.map (·.1))) []) n1 st2) hloop ⟨⟨_, _, _, _, _, _, _, rfl⟩, by simpa using h⟩ step
  obtain ⟨⟨z5, z6, z7, z8, z9, z10, z11, ee⟩, hi⟩ := i
  rw [List.length_map, List.take_length] at hi
  exact ⟨z5, z6, z7, z8, z9, z10, z11, st', by rw [e, ee], hi⟩
end
end DD

set_option maxHeartbeats 400000
namespace DD
open PySem L2 PyProof.Rows
variable [NMs]
/-! ### earliest: one layer -/
section
variable {α : Type} [DecidableEq α] {enc : α → D} {key : α → NestedKey}
instance : Inhabited Run := ⟨([], [])⟩
theorem srtOk_R {β : Type} (g : β → Run) (L : List β) : srtOk (L.map fun e => encR (g e)) = true := by
  have plain : ∀ ns : List Int, plainDs (ns.map .int) = true := fun ns => by
    induction ns with
    | nil => rfl
    | cons n ns ih => rw [List.map_cons]; simp [plainDs, plainD, ih]
  have pR : ∀ r, plainD (encR r) = true := fun r => by unfold encR; simp [plainD, plainDs, plain]
  refine srtOk_iff.mpr ⟨fun d hd e he => ?_, .inl fun d hd => ?_, fun d hd => ?_, ?_⟩
  · obtain ⟨x, _, rfl⟩ := List.mem_map.mp hd
    obtain ⟨y, _, rfl⟩ := List.mem_map.mp he
    exact alike_R _ _
  · obtain ⟨x, _, rfl⟩ := List.mem_map.mp hd
    exact ⟨_, _, rfl⟩
  · obtain ⟨x, _, rfl⟩ := List.mem_map.mp hd
    exact depth_R _
  · induction L with
    | nil => rfl
    | cons x L ih => rw [List.map_cons]; simp [plainDs, pR, ih]
theorem sortEnds_of [Inhabited α] {st : Sto} {n i : Nat} {L : List (α × Run)} {env : Env} (e : env[i]? = some (some (.ref n))) (h : IsDk enc dR st n L) : dSortEnds i env st = .ok ((sortR (fun x : α × Run => x.2) L).map fun x => enc x.1) st := by
  unfold dSortEnds
  simp only [e]
  rcases h with h | ⟨h, rfl⟩
  · simp only [h, dkD]
    unfold srtR
    have e1 := toPys0_R (fun x : α × Run => x.2) L
    rw [e1]
    have ok := srtOk_R (fun x : α × Run => x.2) L
    simp only [ok, List.length_map, and_self, if_true]
    have sm := srtO_map (fun x : α × Run => enc x.1) (fun x : α × Run => encR x.2) L
    rw [leD_R] at sm
    rw [sm]
    rfl
  · simp only [h]
    unfold srtR
    have ok := srtOk_R (fun x : α × Run => x.2) ([] : List (α × Run))
    have ok : srtOk [] = true := ok
    simp only [List.map_nil, toPys0, ok, List.length_nil, and_self, if_true]
    simp [srtO, sortR]
theorem SI.setF {base st : Sto} {F F' fr : List (α × Run)} {n1 : Nat} (hn : ∀ a, noLam (enc a) = true) (h : SI enc base F fr n1 st) : SI enc base F' fr n1 (st.set base.length (dkD enc dR F')) := by
  have ne : base.length ≠ n1 := Nat.ne_of_lt h.lt
  have l0 : base.length < st.length := Nat.lt_trans h.lt h.lo
  refine ⟨?_, ?_, ?_, h.nl.set (noLam_dk hn _), h.lt, by rw [List.length_set]; exact h.lo⟩
  · rw [List.take_set_of_le (Nat.le_refl _)]; exact h.pre
  · rw [List.getElem?_set_self l0]
  · unfold IsDk; rw [List.getElem?_set_ne ne]; exact h.fr
noncomputable def earBody : DS := dSeq (dSet 4 dDictNew) (dSeq d_earliest_3 (dSeq (dSet 3 (dFz (dSortEnds 4))) (dFor (dItems (dVar 3)) (gdName 10) (dSetK (dBin fKGet (dVar 4) (dVar 10)) (dVar 2) (dVar 10)))))
theorem ear4 [Inhabited α] (p : PlK enc key) (hn : ∀ a, noLam (enc a) = true) {nxt : α → List (Nat × Int × α)} {lam v0 : D} {base st : Sto} {F N : List (α × Run)} {U : List α} {y4 y5 y6 y7 y8 y9 y10 y11 : Option D}
    (hgo : ∀ b ∈ N, ∀ st, NL st → ∃ junk, NL junk ∧ lamGoR tab_earliest_steps lam [enc b.1] st = .ok (.fz ((nxt b.1).map (stD enc))) (st ++ junk)) (hlam : ∃ kk W cs, lam = .lam kk W cs)
    (hF : ∀ e ∈ N, F.lookup e.1 = some e.2) (hU : ∀ e ∈ N.flatMap (exF nxt), e.1 ∈ U) (hUl : U.length ≤ 1000) (hr : ∀ e ∈ N, e.2.1.length ≤ 1000 ∧ e.2.2.length ≤ 1000) (hFl : F.length ≤ 1000)
    (h1 : st.take base.length = base) (h2 : st[base.length]? = some (dkD enc dR F)) (h3 : NL st) :
    ∃ z4 z5 z6 z7 z8 z9 z10 z11 st', earBody [some v0, some lam, some (.ref base.length), some (.fz (N.map fun e => enc e.1)), y4, y5, y6, y7, y8, y9, y10, y11] st
      = .nx [some v0, some lam, some (.ref base.length), some (.fz ((nextN (exF nxt) F N).map fun e => enc e.1)), z4, z5, z6, z7, z8, z9, z10, z11] st' ∧
      st'.take base.length = base ∧ st'[base.length]? = some (dkD enc dR (F ++ nextN (exF nxt) F N)) ∧ NL st' := by
  have l0 : base.length < st.length := (List.getElem?_eq_some_iff.mp h2).1
  have s0 : SI enc base F [] st.length (st ++ [.dct [] []]) := ⟨by rw [List.take_append_of_le_length (Nat.le_of_lt l0)]; exact h1, by rw [List.getElem?_append_left l0]; exact h2, .inr ⟨by rw [List.getElem?_append_right (Nat.le_refl _)]; simp, rfl⟩, h3.app2 (by rfl), l0, by simp⟩
  obtain ⟨z5, z6, z7, z8, z9, z10, z11, st2, e3, i3⟩ := ear3 p hn (v0 := v0) (y5 := y5) (y6 := y6) (y7 := y7) (y8 := y8) (y9 := y9) (y10 := y10) (y11 := y11) hgo hlam hF hU hUl hr s0
  have es := sortEnds_of (env := [some v0, some lam, some (.ref base.length), some (.fz (N.map fun e => enc e.1)), some (.ref st.length), z5, z6, z7, z8, z9, z10, z11]) (i := 4) rfl i3.fr
  have big : 1000 + 1000 ≤ bigLine := by decide
  have f1 := freshOf_ok (F.map (·.1)) (N.flatMap (exF nxt))
  have len : (nextN (exF nxt) F N).length ≤ 1000 := by
    have := (sortR_perm (g := fun x : α × Run => x.2) (freshOf (F.map (·.1)) (N.flatMap (exF nxt)))).length_eq
    unfold nextN
    rw [this]
    exact Nat.le_trans (fresh_le (U := U) hU) hUl
  unfold earBody
  simp
  rw [e3]
  simp [es]
  generalize hloop : loop _ _ _ _ _ _ = res
  have eN : sortR (fun x : α × Run => x.2) (freshOf (F.map (·.1)) (N.flatMap (exF nxt))) = nextN (exF nxt) F N := rfl
  rw [eN] at hloop
  have step : ∀ (i : Nat) (x : D) (env : Env) (st2 : Sto), ((nextN (exF nxt) F N).map fun e => enc e.1)[i]? = some x → ((∃ w10, env = [some v0, some lam, some (.ref base.length), some (.fz ((nextN (exF nxt) F N).map fun e => enc e.1)), some (.ref st.length), z5, z6, z7, z8, z9, w10, z11]) ∧ SI enc base (F ++ (nextN (exF nxt) F N).take i) (freshOf (F.map (·.1)) (N.flatMap (exF nxt))) st.length st2) →
      ∃ env1 env2 st3, gdName 10 x env = some env1 ∧ (dSetK (dBin fKGet (dVar 4) (dVar 10)) (dVar 2) (dVar 10) env1 st2 = .nx env2 st3 ∨ dSetK (dBin fKGet (dVar 4) (dVar 10)) (dVar 2) (dVar 10) env1 st2 = .ct env2 st3) ∧
      ((∃ w10, env2 = [some v0, some lam, some (.ref base.length), some (.fz ((nextN (exF nxt) F N).map fun e => enc e.1)), some (.ref st.length), z5, z6, z7, z8, z9, w10, z11]) ∧ SI enc base (F ++ (nextN (exF nxt) F N).take (i + 1)) (freshOf (F.map (·.1)) (N.flatMap (exF nxt))) st.length st3) := by
    rintro i x env st2 hx ⟨⟨w10, ee⟩, hi⟩
    subst ee
    rw [List.getElem?_map] at hx
    obtain ⟨⟨b, r⟩, hs, rfl⟩ := Option.map_eq_some_iff.mp hx
    have hb : (b, r) ∈ nextN (exF nxt) F N := List.mem_of_getElem? hs
    have hm : (b, r) ∈ freshOf (F.map (·.1)) (N.flatMap (exF nxt)) := (sortR_perm (g := fun x : α × Run => x.2) _).mem_iff.mp hb
    have kg := kget_of p (dv := dR) hi.fr ((look_in f1.nd).mpr hm)
    have ks := setK_of p (env := [some v0, some lam, some (.ref base.length), some (.fz ((nextN (exF nxt) F N).map fun e => enc e.1)), some (.ref st.length), z5, z6, z7, z8, z9, some (enc b), z11]) b r (dv := dR) (.inl hi.f) (by rw [List.length_append, List.length_take]; omega)
    have tk : (nextN (exF nxt) F N).take (i + 1) = (nextN (exF nxt) F N).take i ++ [(b, r)] := by
      obtain ⟨hlt, e⟩ := List.getElem?_eq_some_iff.mp hs
      rw [List.take_succ_eq_append_getElem hlt, e]
    have no : (F ++ (nextN (exF nxt) F N).take i).lookup b = none := by
      rw [lookup_no, List.map_append, List.mem_append, not_or]
      refine ⟨(nextN_mem hb).1, fun z => ?_⟩
      have nd := nextN_nd (ext := exF nxt) F N
      have e2 : (nextN (exF nxt) F N).map (·.1) = ((nextN (exF nxt) F N).take (i + 1)).map (·.1) ++ ((nextN (exF nxt) F N).drop (i + 1)).map (·.1) := by rw [← List.map_append, List.take_append_drop]
      rw [e2, tk, List.map_append, List.append_assoc, List.nodup_append] at nd
      exact nd.2.2 b z b (by simp) rfl
    have pe : putE (F ++ (nextN (exF nxt) F N).take i) b r = F ++ (nextN (exF nxt) F N).take (i + 1) := by
      unfold putE
      rw [no, tk, List.append_assoc]
      simp
    rw [pe] at ks
    refine ⟨_, _, _, by simp; rfl, .inl (by simp [kg, ks]; rfl), ⟨_, rfl⟩, hi.setF hn⟩
  obtain ⟨env', st', e, i⟩ := for_use (fun i env st2 => (∃ w10, env = [some v0, some lam, some (.ref base.length), some (.fz ((nextN (exF nxt) F N).map fun e => enc e.1)), some (.ref st.length), z5, z6, z7, z8, z9, w10, z11]) ∧ SI enc base (F ++ (nextN (exF nxt) F N).take i) (freshOf (F.map (·.1)) (N.flatMap (exF nxt))) st.length st2) hloop ⟨⟨_, rfl⟩, by simpa using i3⟩ step
  obtain ⟨⟨w10, ee⟩, hi⟩ := i
  rw [List.length_map, List.take_length] at hi
  exact ⟨_, _, _, _, _, _, _, _, st', by rw [e, ee], hi.pre, hi.f, hi.nl⟩
end
end DD

set_option maxHeartbeats 400000
namespace DD
open PySem L2 PyProof.Rows
variable [NMs]
theorem while_use {t : DT} {d : DS} {n : Nat} {env : Env} {st : Sto} {r : ResS} {I : Nat → Env → Sto → Prop} (h : whileN t d n env st = r) (m : Nat) (hm : m < n) (h0 : I m env st)
    (hs : ∀ m env st, I m env st → t env st = .ok false st ∨ (t env st = .ok true st ∧ ∃ env2 st2 m2, d env st = .nx env2 st2 ∧ m2 < m ∧ I m2 env2 st2)) :
    ∃ env' st' m', r = .nx env' st' ∧ I m' env' st' ∧ t env' st' = .ok false st' := by
  obtain ⟨env', st', m', e, i, e2⟩ := while_inv n m env st hm h0 fun m env st i => (hs m env st i).imp (fun z => ⟨z, trivial⟩) id
  exact ⟨env', st', m', by rw [← h, e], i, e2⟩
/-! ### earliest -/
section
variable {α : Type} [DecidableEq α] {enc : α → D} {key : α → NestedKey}
theorem truR_fz (ds : List D) (st : Sto) : truR (tru (.fz ds) st) st = .ok (!ds.isEmpty) st := by simp [tru, truR]
theorem lay_len {nxt : α → List (Nat × Int × α)} {s : α} : ∀ n, ∀ e ∈ (lay (exF nxt) (s, (([], []) : Run)) n).2, e.2.1.length = n ∧ e.2.2.length = n
  | 0, e, he => by
    have : e = (s, ([], [])) := by simpa [lay] using he
    rw [this]; exact ⟨rfl, rfl⟩
  | n + 1, e, he => by
    obtain ⟨_, m⟩ := nextN_mem (ext := exF nxt) he
    obtain ⟨y, hy, hz⟩ := List.mem_flatMap.mp m
    obtain ⟨i1, i2⟩ := lay_len n y hy
    obtain ⟨t, _, rfl⟩ := List.mem_map.mp hz
    exact ⟨by simp [i1], by simp [i2]⟩
theorem lay_look {ext : α × Run → List (α × Run)} {s : α × Run} : ∀ n, ∀ e ∈ (lay ext s n).2, (lay ext s n).1.lookup e.1 = some e.2 := fun n e he => by
  refine (look_in (lay_nd n)).mpr ?_
  cases n with
  | zero => simpa [lay] using he
  | succ n => exact List.mem_append_right _ he
theorem earliest_ok [Inhabited α] (p : PlK enc key) (hn : ∀ a, noLam (enc a) = true) {nxt : α → List (Nat × Int × α)} {lam : D} {st : Sto} {U : List α} {s : α}
    (hgo : ∀ b ∈ U, ∀ st, NL st → ∃ junk, NL junk ∧ lamGoR tab_earliest_steps lam [enc b] st = .ok (.fz ((nxt b).map (stD enc))) (st ++ junk)) (hlam : ∃ kk W cs, lam = .lam kk W cs)
    (hs : s ∈ U) (hU : ∀ b ∈ U, ∀ e ∈ nxt b, e.2.2 ∈ U) (hUl : U.length ≤ 1000) (h : NL st) :
    ∃ st', m_earliest [enc s, lam] st = .ok (.ref st.length) st' ∧ st'.take st.length = st ∧ st'[st.length]? = some (dkD enc dR (lay (exF nxt) (s, (([], []) : Run)) U.length).1) ∧ NL st' := by
  have inU : ∀ n, (∀ e ∈ (lay (exF nxt) (s, (([], []) : Run)) n).1, e.1 ∈ U) ∧ ∀ e ∈ (lay (exF nxt) (s, (([], []) : Run)) n).2, e.1 ∈ U := fun n => lay_all (P := fun e => e.1 ∈ U) hs (fun e he f hf => by
    obtain ⟨t, ht, rfl⟩ := List.mem_map.mp hf
    exact hU e.1 he t ht) n
  have endN := lay_end (ext := exF nxt) (s := (s, (([], []) : Run))) (U := U) (fun n => (inU n).1)
  have Fl : ∀ n, (lay (exF nxt) (s, (([], []) : Run)) n).1.length ≤ U.length := fun n => by
    have := nodup_len (lay_nd (ext := exF nxt) (s := (s, (([], []) : Run))) n) (U := U) fun a ha => by
      obtain ⟨x, hx, rfl⟩ := List.mem_map.mp ha
      exact (inU n).1 x hx
    rwa [List.length_map] at this
  have step : ∀ (m : Nat) (env : Env) (st2 : Sto), (∃ n, m + n = U.length ∧ (∃ z4 z5 z6 z7 z8 z9 z10 z11, env = [some (enc s), some lam, some (.ref st.length), some (.fz ((lay (exF nxt) (s, (([], []) : Run)) n).2.map fun e => enc e.1)), z4, z5, z6, z7, z8, z9, z10, z11]) ∧ st2.take st.length = st ∧ st2[st.length]? = some (dkD enc dR (lay (exF nxt) (s, (([], []) : Run)) n).1) ∧ NL st2) →
      dTru (dVar 3) env st2 = .ok false st2 ∨ (dTru (dVar 3) env st2 = .ok true st2 ∧ ∃ env2 st3 m2, earBody env st2 = .nx env2 st3 ∧ m2 < m ∧ (∃ n, m2 + n = U.length ∧ (∃ z4 z5 z6 z7 z8 z9 z10 z11, env2 = [some (enc s), some lam, some (.ref st.length), some (.fz ((lay (exF nxt) (s, (([], []) : Run)) n).2.map fun e => enc e.1)), z4, z5, z6, z7, z8, z9, z10, z11]) ∧ st3.take st.length = st ∧ st3[st.length]? = some (dkD enc dR (lay (exF nxt) (s, (([], []) : Run)) n).1) ∧ NL st3)) := by
    rintro m env st2 ⟨n, hm, ⟨z4, z5, z6, z7, z8, z9, z10, z11, ee⟩, i1, i2, i3⟩
    subst ee
    by_cases hN : (lay (exF nxt) (s, (([], []) : Run)) n).2 = []
    · left
      simp [hN, truR_fz]
    · right
      have long := lay_long n hN
      have fl := Fl n
      obtain ⟨w4, w5, w6, w7, w8, w9, w10, w11, st3, e3, j1, j2, j3⟩ := ear4 p hn (v0 := enc s) (y4 := z4) (y5 := z5) (y6 := z6) (y7 := z7) (y8 := z8) (y9 := z9) (y10 := z10) (y11 := z11) (nxt := nxt) (U := U) (N := (lay (exF nxt) (s, (([], []) : Run)) n).2) (F := (lay (exF nxt) (s, (([], []) : Run)) n).1)
        (fun b hb => hgo b.1 ((inU n).2 b hb)) hlam (lay_look n) (fun e he => by
          obtain ⟨y, hy, hz⟩ := List.mem_flatMap.mp he
          obtain ⟨t, ht, rfl⟩ := List.mem_map.mp hz
          exact hU y.1 ((inU n).2 y hy) t ht) hUl (fun e he => by obtain ⟨a, b⟩ := lay_len n e he; omega) (by omega) i1 i2 i3
      refine ⟨?_, _, st3, m - 1, e3, by omega, n + 1, by omega, ⟨_, _, _, _, _, _, _, _, rfl⟩, j1, j2, j3⟩
      cases hc : (lay (exF nxt) (s, (([], []) : Run)) n).2 with
      | nil => exact absurd hc hN
      | cons x xs => simp [truR_fz]
  have e4 : d_earliest_4 = whileN (dTru (dVar 3)) earBody fuel := rfl
  have b1 : 1 ≤ bigLine := by decide
  have b2 : 2 ≤ bigLine := by decide
  obtain ⟨kk, W, cs, rfl⟩ := hlam
  have l0 : st.length < (st ++ [dkD enc dR [(s, (([], []) : Run))]]).length := by simp
  generalize hw : whileN (dTru (dVar 3)) earBody fuel [some (enc s), some (.lam kk W cs), some (.ref st.length), some (.fz [enc s]), none, none, none, none, none, none, none, none] (st ++ [dkD enc dR [(s, (([], []) : Run))]]) = res
  obtain ⟨env', st', m', e, ⟨n, hm, ⟨z4, z5, z6, z7, z8, z9, z10, z11, ee⟩, i1, i2, i3⟩, t⟩ := while_use (I := fun m env st2 => ∃ n, m + n = U.length ∧ (∃ z4 z5 z6 z7 z8 z9 z10 z11, env = [some (enc s), some (.lam kk W cs), some (.ref st.length), some (.fz ((lay (exF nxt) (s, (([], []) : Run)) n).2.map fun e => enc e.1)), z4, z5, z6, z7, z8, z9, z10, z11]) ∧ st2.take st.length = st ∧ st2[st.length]? = some (dkD enc dR (lay (exF nxt) (s, (([], []) : Run)) n).1) ∧ NL st2) hw U.length (fuel_gt (Nat.le_trans hUl (by decide)))
    ⟨0, by omega, ⟨_, _, _, _, _, _, _, _, rfl⟩, by rw [List.take_append_of_le_length (Nat.le_refl _), List.take_length], by rw [List.getElem?_append_right (Nat.le_refl _)]; simp [lay], h.app (noLam_dk hn _)⟩ step
  subst ee
  have hN : (lay (exF nxt) (s, (([], []) : Run)) n).2 = [] := by
    cases hc : (lay (exF nxt) (s, (([], []) : Run)) n).2 with
    | nil => rfl
    | cons x xs => rw [hc] at t; simp [truR_fz] at t
  have eU := lay_stop hN U.length (by omega)
  refine ⟨st', ?_, i1, by rw [eU]; exact i2, i3⟩
  rw [m_earliest_e]
  have ed : dDisp1T (dVar 0) (dTup (dCons (dC (.str "")) (dCons (dTup dNil) dNil))) [some (enc s), some (.lam kk W cs), none, none, none, none, none, none, none, none, none, none] st = .ok (.ref st.length) (st ++ [dkD enc dR [(s, (([], []) : Run))]]) := by
    unfold dDisp1T
    simp [b1, b2, p.tup, p.dep, dkD, dR, tx_nil]
  simp [mOf_e, d_earliest, ed, b1, e4]
  rw [hw, e]
  simp
end
/-! ### places: a standing and a tail -/
abbrev Pl2 := Nat × List Nat
def encP (a : Pl2) : D := .tup [.int (a.1 : Int), .str (tx a.2)]
def keyP (a : Pl2) : NestedKey := .tup [.num (a.1 : Int), .text (tx a.2)]
theorem plK_P : PlK encP keyP := ⟨fun a => by simp [tupK, encP, keyP, nkD, nkDs], fun a b h => by
  unfold keyP at h
  simp only [NestedKey.tup.injEq, List.cons.injEq, NestedKey.num.injEq, NestedKey.text.injEq, and_true] at h
  exact Prod.ext (by omega) (txInj h.2), fun a => by unfold keyP; simp [NestedKey.depth, NestedKey.depthAll]⟩
theorem noLam_P (a : Pl2) : noLam (encP a) = true := by simp [encP, noLam, noLams]
def behind (width : Nat) (s : List Nat) : List Nat := if s.length < width then s else s.drop 1
end DD

set_option maxHeartbeats 400000
namespace DD
open PySem L2 PyProof.Rows
variable [NMs]
theorem for_use1 {g : DG} {d : DS} {xs : List D} {env : Env} {st : Sto} {r : ResS} (I : Nat → Env → Sto → Prop) (h : loop g d yes xs env st = r) (h0 : I 0 env st)
    (hs : ∀ i x env st, xs[i]? = some x → I i env st → ∃ env1, g x env = some env1 ∧ ∃ env2 st2, d env1 st = .nx env2 st2 ∧ I (i + 1) env2 st2) :
    ∃ env' st', r = .nx env' st' ∧ I xs.length env' st' :=
  for_use I h h0 fun i x env st hx hi => by
    obtain ⟨env1, e1, env2, st2, e2, i2⟩ := hs i x env st hx hi
    exact ⟨env1, env2, st2, e1, .inl e2, i2⟩
theorem belows_map {α : Type} {f : α → D} {n : Nat} (h : ∀ a, below n (f a) = true) : ∀ l : List α, belows n (l.map f) = true
  | [] => rfl
  | a :: r => by rw [List.map_cons]; unfold belows; rw [h a, belows_map h r]; rfl
theorem noRef_its (its : List (List (List (Nat × Nat)))) : NoRefO (.lst (its.map itD)) := fun n => by
  show belows n (its.map itD) = true
  refine belows_map (fun it => ?_) its
  show belows n (it.map psD) = true
  refine belows_map (fun ps => ?_) it
  show belows n (ps.map pD) = true
  refine belows_map (fun p => ?_) ps
  rfl
/-! objects -/
def setFR (cs : List Str) (f : Str) (x y : D) (env : Env) (st : Sto) : ResS := match x with
  | .ref n => match st[n]? with
    | some (.ins c ns ds) => if c ∈ cs ∧ ns.length ≤ 900 then .nx env (st.set n (.ins c (putD f y ns ds).1 (putD f y ns ds).2)) else .bad
    | _ => .bad
  | _ => .bad
theorem dSetFld_e {cs : List Str} {f : Str} {dv da : DE} {env : Env} {st : Sto} : dSetFld cs f dv da env st = (dv env st).bindS env fun y st1 => (da env st1).bindS env fun x st2 => setFR cs f x y env st2 := rfl
theorem setFR_app {cs : List Str} {f c : Str} {y : D} {env : Env} {s : Sto} {ns : List Str} {ds : List D} (hc : c ∈ cs) (hl : ns.length ≤ 900) :
    setFR cs f (.ref s.length) y env (s ++ [.ins c ns ds]) = .nx env (s ++ [.ins c (putD f y ns ds).1 (putD f y ns ds).2]) := by
  simp only [setFR, app_get, hc, hl, and_self, if_true, app_set]
def mkR (c : Str) (m : M) (n : Nat) (xs : List D) (st1 : Sto) : Res D := dMake c m n (fun _ st => .ok xs st) [] st1
theorem dMake_e {c : Str} {m : M} {n : Nat} {ds : DA} {env : Env} {st : Sto} : dMake c m n ds env st = (ds env st).bind fun xs st1 => mkR c m n xs st1 := by
  unfold mkR dMake; cases ds env st <;> rfl
theorem mkR_okM {c : Str} {m : M} {n : Nat} {xs : List D} {st more : Sto} {ns : List Str} {ds : List D} (h : m (.ref st.length :: xs) (st ++ [.ins c [] []]) = .ok .non (st ++ .ins c ns ds :: more)) (hn : xs.length + 1 = n) (hb : belows st.length ds = true) (hr : NoRef st) :
    mkR c m n xs st = .ok (.obj c ns ds) st := by
  have ha : st.all (belowO st.length) = true := List.all_eq_true.mpr fun o ho => hr o ho _
  have ht : (st ++ O.ins c ns ds :: more).take st.length = st := by simp
  have hg : (st ++ O.ins c ns ds :: more)[st.length]? = some (O.ins c ns ds) := by simp
  unfold mkR dMake
  simp only [Res.bind_ok, hn, if_true, h, hg, ht, hb, ha, and_self]
theorem mkR_ok {c : Str} {m : M} {n : Nat} {xs : List D} {st : Sto} {ns : List Str} {ds : List D} (h : m (.ref st.length :: xs) (st ++ [.ins c [] []]) = .ok .non (st ++ [.ins c ns ds])) (hn : xs.length + 1 = n) (hb : belows st.length ds = true) (hr : NoRef st) :
    mkR c m n xs st = .ok (.obj c ns ds) st := mkR_okM (more := []) h hn hb hr
theorem mkR_excM {c k f : Str} {v : D} {m : M} {n : Nat} {xs : List D} {st more : Sto} {o : O} (h : m (.ref st.length :: xs) (st ++ [.ins c [] []]) = .exc (k, some (f, v)) (st ++ o :: more)) (hn : xs.length + 1 = n) (hb : below st.length v = true) (hr : NoRef st) :
    mkR c m n xs st = .exc (k, some (f, v)) st := by
  have ha : st.all (belowO st.length) = true := List.all_eq_true.mpr fun o ho => hr o ho _
  have ht : (st ++ o :: more).take st.length = st := by simp
  have hg : (st ++ o :: more)[st.length]? = some o := by simp
  unfold mkR dMake
  simp only [Res.bind_ok, hn, if_true, h, hg, ht, hb, ha, and_self]
theorem mkR_exc {c k f : Str} {v : D} {m : M} {n : Nat} {xs : List D} {st : Sto} {o : O} (h : m (.ref st.length :: xs) (st ++ [.ins c [] []]) = .exc (k, some (f, v)) (st ++ [o])) (hn : xs.length + 1 = n) (hb : below st.length v = true) (hr : NoRef st) :
    mkR c m n xs st = .exc (k, some (f, v)) st := mkR_excM (more := []) h hn hb hr
/-! machines as objects -/
theorem s_ne : (Str.ofString "rows" : Str) ≠ Str.ofString "answers" ∧ (Str.ofString "rows" : Str) ≠ Str.ofString "moves" ∧ (Str.ofString "rows" : Str) ≠ Str.ofString "size" ∧ (Str.ofString "answers" : Str) ≠ Str.ofString "moves" ∧ (Str.ofString "answers" : Str) ≠ Str.ofString "size" ∧ (Str.ofString "moves" : Str) ≠ Str.ofString "size" := by decide +kernel
def machG (r a m : D) (l : List D) : D := .obj "Machine" ["rows", "answers", "moves", "size"] [r, a, m, .int (l.length : Int)]
section
variable {st : Sto} {r a m : D} {l : List D}
theorem fld_rowsG : fFld fldC_rows "rows" (machG r a m l) st = .ok r st := by
  simp [fFld, machG, fldC_rows, List.lookup]
theorem fld_answersG : fFld fldC_answers "answers" (machG r a m l) st = .ok a st := by
  obtain ⟨n1, n2, n3, n4, n5, n6⟩ := s_ne
  simp [fFld, machG, fldC_answers, List.lookup, beq_false_of_ne n1.symm]
theorem fld_movesG : fFld fldC_moves "moves" (machG r a m l) st = .ok m st := by
  obtain ⟨n1, n2, n3, n4, n5, n6⟩ := s_ne
  simp [fFld, machG, fldC_moves, List.lookup, beq_false_of_ne n2.symm, beq_false_of_ne n4.symm]
theorem fld_sizeG : fFld fldC_size "size" (machG r a m l) st = .ok (.int (l.length : Int)) st := by
  obtain ⟨n1, n2, n3, n4, n5, n6⟩ := s_ne
  simp [fFld, machG, fldC_size, List.lookup, beq_false_of_ne n3.symm, beq_false_of_ne n5.symm, beq_false_of_ne n6.symm]
end
/-! ### machines as objects, by their parts -/
def machO (w : Mach) : D := .obj "Machine" ["rows", "answers", "moves", "size"] [.str (tx w.rows), .int (w.ans : Int), mvD w.mv, .int (w.mv.length : Int)]
section
variable {st : Sto} {w : Mach}
theorem belows_mach {n : Nat} : belows n [.str (tx w.rows), .int (w.ans : Int), mvD w.mv, .int (w.mv.length : Int)] = true := by
  have := noRef_its w.mv n
  have : below n (mvD w.mv) = true := this
  simp [belows, below, this]
theorem fld_rows : fFld fldC_rows "rows" (machO w) st = .ok (.str (tx w.rows)) st := by
  simp [fFld, machO, fldC_rows, List.lookup]
theorem fld_answers : fFld fldC_answers "answers" (machO w) st = .ok (.int (w.ans : Int)) st := by
  obtain ⟨n1, n2, n3, n4, n5, n6⟩ := s_ne
  simp [fFld, machO, fldC_answers, List.lookup, beq_false_of_ne n1.symm]
theorem fld_moves : fFld fldC_moves "moves" (machO w) st = .ok (mvD w.mv) st := by
  obtain ⟨n1, n2, n3, n4, n5, n6⟩ := s_ne
  simp [fFld, machO, fldC_moves, List.lookup, beq_false_of_ne n2.symm, beq_false_of_ne n4.symm]
theorem fld_size : fFld fldC_size "size" (machO w) st = .ok (.int (w.mv.length : Int)) st := by
  obtain ⟨n1, n2, n3, n4, n5, n6⟩ := s_ne
  simp [fFld, machO, fldC_size, List.lookup, beq_false_of_ne n3.symm, beq_false_of_ne n5.symm, beq_false_of_ne n6.symm]
end
/-! ### the steps from a place, on data -/
section
variable {w : Mach} {st : Sto}
theorem tail_behind_ok {s : List Nat} {width : Nat} (hs : s.length ≤ 1000) : m_tail_behind [.str (tx s), .int (width : Int)] st = .ok (.str (tx (behind width s))) st := by
  have hb : s.length ≤ bigLine := Nat.le_trans hs (by decide)
  have el : fLen [.str (tx s)] st = .ok (.int (s.length : Int)) st := fLen_str (x := tx s) hb
  have es : fSl (.str (tx s)) (some 1) none st = .ok (.str (tx (s.drop 1))) st := fSl_str_from (i := 1) hb
  rw [m_tail_behind_e]
  unfold behind
  by_cases h : s.length < width
  · have h' : (s.length : Int) < (width : Int) := by omega
    simp [mOf_e, d_tail_behind, el, h, h']
  · have h' : ¬ (s.length : Int) < (width : Int) := by omega
    simp [mOf_e, d_tail_behind, el, es, h, h']
end
section
variable {w : Mach}
def celW (w : Mach) (h i a : Nat) : Nat × Nat := ((w.mv.getD h []).getD i []).getD a (0, 0)
theorem cel_ok (h : MachOk w) {p i a : Nat} (h1 : p < w.mv.length) (h2 : i < w.rows.length) (h3 : a < w.ans) : ∃ it ps, w.mv[p]? = some it ∧ it[i]? = some ps ∧ ps[a]? = some (celW w p i a) ∧ (celW w p i a).2 < w.mv.length := by
  have q1 := h.it _ (List.getElem_mem h1)
  have hi : i < w.mv[p].length := by rw [q1.1]; exact h2
  have q2 := q1.2 _ (List.getElem_mem hi)
  have ha : a < (w.mv[p][i]).length := by rw [q2.1]; exact h3
  have q3 := q2.2 _ (List.getElem_mem ha)
  have e : celW w p i a = w.mv[p][i][a] := by simp [celW, List.getD_eq_getElem?_getD, List.getElem?_eq_getElem h1, List.getElem?_eq_getElem hi, List.getElem?_eq_getElem ha]
  exact ⟨_, _, List.getElem?_eq_getElem h1, List.getElem?_eq_getElem hi, by rw [e]; exact List.getElem?_eq_getElem ha, by rw [e]; exact q3.2.2⟩
def rowC (w : Mach) (i : Nat) : Nat := w.rows.getD i 0
def goP (w : Mach) (width : Nat) (p : Pl2) (i a : Nat) : Pl2 := ((celW w p.1 i a).2, behind width (p.2 ++ [rowC w i]))
def stpD (w : Mach) (width : Nat) (p : Pl2) (i a : Nat) : D := .tup [.tup [encP p, .str (tx [rowC w i]), .int (a : Int)], .int ((celW w p.1 i a).1 : Int), .str (tx (p.2 ++ [rowC w i])), encP (goP w width p i a)]
def nxtP (w : Mach) (width : Nat) (p : Pl2) : List (Nat × Int × Pl2) := (List.range w.rows.length).flatMap fun i => (List.range w.ans).map fun a => (rowC w i, ((a : Nat) : Int), goP w width p i a)
theorem st1_ok (h : MachOk w) {width : Nat} {p : Pl2} (hp : p.1 < w.mv.length) {i : Nat} (hi : i < w.rows.length) {s : Sto} {ds : List D} (hl : ds.length + w.ans ≤ 1000) {x10 x11 x12 : Option D} :
    ∃ y10 y11 y12, d_steps_from_1 [some (machO w), some (.int (width : Int)), some (encP p), some (.int (p.1 : Int)), some (.str (tx p.2)), some (.ref s.length), some (.int (i : Int)), some (.str (tx [rowC w i])), some (.str (tx (p.2 ++ [rowC w i]))), some (.str (tx (behind width (p.2 ++ [rowC w i])))), x10, x11, x12] (s ++ [.lst ds])
      = .nx [some (machO w), some (.int (width : Int)), some (encP p), some (.int (p.1 : Int)), some (.str (tx p.2)), some (.ref s.length), some (.int (i : Int)), some (.str (tx [rowC w i])), some (.str (tx (p.2 ++ [rowC w i]))), some (.str (tx (behind width (p.2 ++ [rowC w i])))), y10, y11, y12] (s ++ [.lst (ds ++ (List.range w.ans).map (stpD w width p i))]) := by
  unfold d_steps_from_1
  have ha := h.ans3
  have rg := rgR_ok (st := s ++ [.lst ds]) (j := (w.ans : Int)) (n := w.ans) rfl (by omega)
  simp [fld_answers, rg]
  generalize hloop : loop _ _ _ _ _ _ = res
  have big : 1000 ≤ bigLine := by decide
  have b1 : 1 ≤ bigLine := by decide
  have b2 : 2 ≤ bigLine := by decide
  have b3 : 3 ≤ bigLine := by decide
  have b4 : 4 ≤ bigLine := by decide
  have step : ∀ (j : Nat) (x : D) (env : Env) (st2 : Sto), (intsD 0 w.ans)[j]? = some x → ((∃ y10 y11 y12, env = [some (machO w), some (.int (width : Int)), some (encP p), some (.int (p.1 : Int)), some (.str (tx p.2)), some (.ref s.length), some (.int (i : Int)), some (.str (tx [rowC w i])), some (.str (tx (p.2 ++ [rowC w i]))), some (.str (tx (behind width (p.2 ++ [rowC w i])))), y10, y11, y12]) ∧ st2 = s ++ [.lst (ds ++ (List.range j).map (stpD w width p i))]) →
      ∃ env1, gdName 10 x env = some env1 ∧ ∃ env2 st3, (dSeq (dAsg (dBin fIx (dBin fIx (dBin fIx (dUn (fFld fldC_moves "moves") (dVar 0)) (dVar 3)) (dVar 6)) (dVar 10)) (gdTup 2 (gdCons (gdName 11) (gdCons (gdName 12) gdNil)))) (dExpr (dMeth isLst fAppend (dVar 5) (dCons (dTup (dCons (dTup (dCons (dVar 2) (dCons (dVar 7) (dCons (dVar 10) dNil)))) (dCons (dVar 11) (dCons (dVar 8) (dCons (dTup (dCons (dVar 12) (dCons (dVar 9) dNil))) dNil))))) dNil)))) env1 st2 = .nx env2 st3 ∧
      ((∃ y10 y11 y12, env2 = [some (machO w), some (.int (width : Int)), some (encP p), some (.int (p.1 : Int)), some (.str (tx p.2)), some (.ref s.length), some (.int (i : Int)), some (.str (tx [rowC w i])), some (.str (tx (p.2 ++ [rowC w i]))), some (.str (tx (behind width (p.2 ++ [rowC w i])))), y10, y11, y12]) ∧ st3 = s ++ [.lst (ds ++ (List.range (j + 1)).map (stpD w width p i))]) := by
    rintro j x env st2 hx ⟨⟨y10, y11, y12, ee⟩, es⟩
    subst ee es
    obtain ⟨hj, rfl⟩ := ints_get hx
    obtain ⟨it, ps, c1, c2, c3, _⟩ := cel_ok h hp hi hj
    refine ⟨_, rfl, [some (machO w), some (.int (width : Int)), some (encP p), some (.int (p.1 : Int)), some (.str (tx p.2)), some (.ref s.length), some (.int (i : Int)), some (.str (tx [rowC w i])), some (.str (tx (p.2 ++ [rowC w i]))), some (.str (tx (behind width (p.2 ++ [rowC w i])))), some (.int (j : Int)), some (.int ((celW w p.1 i j).1 : Int)), some (.int ((celW w p.1 i j).2 : Int))], s ++ [.lst (ds ++ (List.range (j + 1)).map (stpD w width p i))], ?_, ⟨_, _, _, rfl⟩, rfl⟩
    have cl : (ds ++ (List.range j).map (stpD w width p i)).length ≤ bigLine := by rw [List.length_append, List.length_map, List.length_range]; omega
    have il : isLst (.ref s.length) (s ++ [O.lst (ds ++ (List.range j).map (stpD w width p i))]) = true := isLst_at app_get
    have cl2 : ds.length + j ≤ bigLine := by omega
    have hap : ∀ y, fAppend (.ref s.length) [y] (s ++ [O.lst (ds ++ (List.range j).map (stpD w width p i))]) = .ok .non (s ++ [.lst (ds ++ (List.range j).map (stpD w width p i) ++ [y])]) := fun y => by rw [fAppend_at app_get cl, app_set]
    have ey : ds ++ (List.range (j + 1)).map (stpD w width p i) = ds ++ (List.range j).map (stpD w width p i) ++ [stpD w width p i j] := by rw [List.range_succ, List.map_append, ← List.append_assoc]; rfl
    rw [ey]
    simp only [List.append_assoc] at hap ⊢
    simp [fld_moves, mvD, itD, psD, pD, c1, c2, c3, b1, b2, b3, b4, il, hap, stpD, encP, goP]
  obtain ⟨env', st', e, i'⟩ := for_use1 (fun j env st2 => (∃ y10 y11 y12, env = [some (machO w), some (.int (width : Int)), some (encP p), some (.int (p.1 : Int)), some (.str (tx p.2)), some (.ref s.length), some (.int (i : Int)), some (.str (tx [rowC w i])), some (.str (tx (p.2 ++ [rowC w i]))), some (.str (tx (behind width (p.2 ++ [rowC w i])))), y10, y11, y12]) ∧ st2 = s ++ [.lst (ds ++ (List.range j).map (stpD w width p i))]) hloop ⟨⟨_, _, _, rfl⟩, by simp⟩ step
  obtain ⟨⟨y10, y11, y12, ee⟩, es⟩ := i'
  rw [intsD_length] at es
  exact ⟨y10, y11, y12, by rw [e, ee, es]⟩
end
end DD

set_option maxHeartbeats 400000
namespace DD
open PySem L2 PyProof.Rows
variable [NMs]
def enuR (xs : List D) (st1 : Sto) : Res (List D × (Sto → Bool)) := match xs with
  | [.str x] => .ok (enuD (signs x), yes) st1
  | _ => .bad
@[simp] theorem dEnumS_e {ds : DA} {env : Env} {st : Sto} : dEnumS ds env st = (ds env st).bind fun xs st1 => enuR xs st1 := rfl
@[simp] theorem enuR_str {x : Str} {st : Sto} : enuR [.str x] st = .ok (enuD (signs x), yes) st := rfl
section
variable {w : Mach}
theorem enu_get {cs : List Nat} {i : Nat} {x : D} (h : (enuD (cs.map fun c => D.str (tx [c])))[i]? = some x) : i < cs.length ∧ x = .tup [.int (i : Int), .str (tx [cs.getD i 0])] := by
  unfold enuD at h
  rw [List.getElem?_mapIdx, List.getElem?_map] at h
  obtain ⟨d, e1, rfl⟩ := Option.map_eq_some_iff.mp h
  obtain ⟨c, e3, rfl⟩ := Option.map_eq_some_iff.mp e1
  obtain ⟨hi, ec⟩ := List.getElem?_eq_some_iff.mp e3
  refine ⟨hi, ?_⟩
  rw [List.getD_eq_getElem?_getD, e3]
  rfl
theorem enu_len {cs : List Nat} : (enuD (cs.map fun c => D.str (tx [c]))).length = cs.length := by simp [enuD]
def stpL (w : Mach) (width : Nat) (p : Pl2) (n : Nat) : List D := (List.range n).flatMap fun i => (List.range w.ans).map (stpD w width p i)
theorem stpL_succ {width : Nat} {p : Pl2} {n : Nat} : stpL w width p (n + 1) = stpL w width p n ++ (List.range w.ans).map (stpD w width p n) := by
  unfold stpL; rw [List.range_succ, List.flatMap_append]; simp
theorem stpL_len {width : Nat} {p : Pl2} : ∀ n, (stpL w width p n).length = n * w.ans
  | 0 => by simp [stpL]
  | n + 1 => by rw [stpL_succ, List.length_append, stpL_len n, List.length_map, List.length_range, Nat.add_mul, Nat.one_mul]
theorem steps_from_ok (h : MachOk w) {width : Nat} {p : Pl2} (hp : p.1 < w.mv.length) (ht : p.2.length ≤ 900) {s : Sto} : m_steps_from [machO w, .int (width : Int), encP p] s = .ok (.ref s.length) (s ++ [.lst (stpL w width p w.rows.length)]) := by
  have big : 1000 ≤ bigLine := by decide
  have hr4 := h.rows.2.2.2
  have ha3 := h.ans3
  rw [m_steps_from_e]
  simp [mOf_e, d_steps_from, encP]
  unfold d_steps_from_2
  simp [fld_rows]
  have step : ∀ (i : Nat) (x : D) (env : Env) (st2 : Sto), (enuD (w.rows.map fun c => D.str (tx [c])))[i]? = some x → ((∃ y6 y7 y8 y9 y10 y11 y12, env = [some (machO w), some (.int (width : Int)), some (.tup [.int (p.1 : Int), .str (tx p.2)]), some (.int (p.1 : Int)), some (.str (tx p.2)), some (.ref s.length), y6, y7, y8, y9, y10, y11, y12]) ∧ st2 = s ++ [.lst (stpL w width p i)]) →
      ∃ env1, gdTup 2 (gdCons (gdName 6) (gdCons (gdName 7) gdNil)) x env = some env1 ∧ ∃ env2 st3, dSeq (dSet 8 (dBin fAdd (dVar 4) (dVar 7))) (dSeq (dSet 9 (dOwn m_tail_behind 2 (dCons (dVar 8) (dCons (dVar 1) dNil)))) d_steps_from_1) env1 st2 = .nx env2 st3 ∧
      ((∃ y6 y7 y8 y9 y10 y11 y12, env2 = [some (machO w), some (.int (width : Int)), some (.tup [.int (p.1 : Int), .str (tx p.2)]), some (.int (p.1 : Int)), some (.str (tx p.2)), some (.ref s.length), y6, y7, y8, y9, y10, y11, y12]) ∧ st3 = s ++ [.lst (stpL w width p (i + 1))]) := by
    rintro i x env st2 hx ⟨⟨y6, y7, y8, y9, y10, y11, y12, ee⟩, es⟩
    subst ee es
    obtain ⟨hi, rfl⟩ := enu_get hx
    have hi4 : i ≤ 3 := by omega
    have hl : (stpL w width p i).length + w.ans ≤ 1000 := by
      rw [stpL_len]
      have := Nat.mul_le_mul hi4 ha3
      omega
    obtain ⟨z10, z11, z12, e3⟩ := st1_ok h (width := width) hp hi (s := s) (ds := stpL w width p i) hl (x10 := y10) (x11 := y11) (x12 := y12)
    have c1 : p.2.length + 1 ≤ bigLine := by omega
    have tb := tail_behind_ok (s := p.2 ++ [w.rows.getD i 0]) (width := width) (st := s ++ [O.lst (stpL w width p i)]) (by simp; omega)
    refine ⟨_, by simp; rfl, [some (machO w), some (.int (width : Int)), some (.tup [.int (p.1 : Int), .str (tx p.2)]), some (.int (p.1 : Int)), some (.str (tx p.2)), some (.ref s.length), some (.int (i : Int)), some (.str (tx [rowC w i])), some (.str (tx (p.2 ++ [rowC w i]))), some (.str (tx (behind width (p.2 ++ [rowC w i])))), z10, z11, z12], _, ?_, ⟨_, _, _, _, _, _, _, rfl⟩, by rw [stpL_succ]⟩
    simp [c1]
    simp only [List.getD_eq_getElem?_getD] at tb
    simp [tb]
    simp only [rowC, encP, List.getD_eq_getElem?_getD] at e3
    exact e3
  generalize hloop : loop _ _ _ _ _ _ = res
  obtain ⟨env', st', e, i⟩ := for_use1 (fun i env st2 => (∃ y6 y7 y8 y9 y10 y11 y12, env = [some (machO w), some (.int (width : Int)), some (.tup [.int (p.1 : Int), .str (tx p.2)]), some (.int (p.1 : Int)), some (.str (tx p.2)), some (.ref s.length), y6, y7, y8, y9, y10, y11, y12]) ∧ st2 = s ++ [.lst (stpL w width p i)]) hloop ⟨⟨_, _, _, _, _, _, _, rfl⟩, by simp [stpL]⟩ step
  obtain ⟨⟨y6, y7, y8, y9, y10, y11, y12, ee⟩, es⟩ := i
  rw [enu_len] at es
  subst ee es
  rw [e]
  simp
end
end DD

set_option maxHeartbeats 400000
namespace DD
open PySem L2 PyProof.Rows
variable [NMs]
theorem lck_map {st : Sto} {g : DG} {de : DE} {keep : Sto → Bool} {env : Env} {f : D → D} (hk : keep st = true) : ∀ xs : List D, (∀ x ∈ xs, ∃ env1, g x env = some env1 ∧ de env1 st = .ok (f x) st) → lcLoop g dYes de keep env xs st = .ok (xs.map f) st
  | [], _ => by unfold lcLoop; rw [hk]; rfl
  | x :: r, h => by
    obtain ⟨env1, h1, h2⟩ := h x List.mem_cons_self
    have ih := lck_map hk r fun y hy => h y (List.mem_cons_of_mem _ hy)
    unfold lcLoop
    simp only [hk, if_true, h1, dYes, h2, ih]
    rfl
section
variable {w : Mach}
def onwD (x : D) : D := match x with
  | .tup [.tup [_, b, c], _, _, t] => .tup [b, c, t]
  | _ => .non
theorem onw_map {width : Nat} {p : Pl2} : (stpL w width p w.rows.length).map onwD = (nxtP w width p).map (stD encP) := by
  unfold stpL nxtP
  rw [List.map_flatMap, List.map_flatMap]
  refine congrArg List.flatten (List.map_congr_left fun i _ => ?_)
  rw [List.map_map, List.map_map]
  refine List.map_congr_left fun a _ => ?_
  rfl
theorem onward_ok (h : MachOk w) {width : Nat} {p : Pl2} (hp : p.1 < w.mv.length) (ht : p.2.length ≤ 900) {s : Sto} : m_onward [machO w, .int (width : Int), encP p] s = .ok (.fz ((nxtP w width p).map (stD encP))) (s ++ [.lst (stpL w width p w.rows.length)]) := by
  have big : 1000 ≤ bigLine := by decide
  have b1 : 1 ≤ bigLine := by decide
  have b3 : 3 ≤ bigLine := by decide
  have hr4 := h.rows.2.2.2
  have ha3 := h.ans3
  have hl : (stpL w width p w.rows.length).length ≤ bigLine := by
    rw [stpL_len]
    have := Nat.mul_le_mul hr4 ha3
    omega
  have sf := steps_from_ok h (width := width) hp ht (s := s)
  have hs : (s ++ [O.lst (stpL w width p w.rows.length)])[s.length]? = some (O.lst (stpL w width p w.rows.length)) := app_get
  rw [m_onward_e]
  simp [mOf_e, d_onward, sf, itrR_ref hs, hl]
  rw [lck_map (f := onwD) (keepRef_iff.mpr hs) _ fun x hx => ?_]
  · simp [onw_map]
  · obtain ⟨i, _, hx⟩ := List.mem_flatMap.mp hx
    obtain ⟨a, _, rfl⟩ := List.mem_map.mp hx
    refine ⟨_, by simp [stpD]; rfl, ?_⟩
    simp [stpD, onwD, b1, b3, wipeE]
end
/-! ### the lambda of places_up_to, on data -/
section
variable {w : Mach}
def lamP (w : Mach) (width : Nat) : D := .lam 0 lw_la_places_up_to_0 [machO w, .int (width : Int)]
theorem noLam_mach : noLam (machO w) = true := by
  unfold machO
  simp only [noLam, noLams, mvD, Bool.and_true, Bool.true_and]
  refine noLams_map (fun it => ?_) _
  show noLams (it.map psD) = true
  refine noLams_map (fun ps => ?_) _
  show noLams (ps.map pD) = true
  exact noLams_map (fun _ => rfl) _
theorem noLam_stp {width : Nat} {p : Pl2} (n : Nat) : noLamO (.lst (stpL w width p n)) = true := by
  show noLams (stpL w width p n) = true
  rw [noLams_all, List.all_eq_true]
  intro x hx
  obtain ⟨i, _, hx⟩ := List.mem_flatMap.mp hx
  obtain ⟨a, _, rfl⟩ := List.mem_map.mp hx
  rfl
theorem lam_go (h : MachOk w) {width : Nat} {p : Pl2} (hp : p.1 < w.mv.length) (ht : p.2.length ≤ 900) {s : Sto} (hn : NL s) : ∃ junk, NL junk ∧ lamGoR tab_earliest_steps (lamP w width) [encP p] s = .ok (.fz ((nxtP w width p).map (stD encP))) (s ++ junk) := by
  refine ⟨[.lst (stpL w width p w.rows.length)], ?_, ?_⟩
  · show List.all _ _ = true
    simp [noLam_stp]
  · refine lamGoR_ok ?_ (by simp [noLams, noLam_P]) (by simp [noLams, noLam_mach, noLam]) hn rfl
    have on := onward_ok h (width := width) hp ht (s := s)
    unfold tab_earliest_steps
    rw [tabCons_hit, m_la_places_up_to_0_e]
    simp [mLam, dl_la_places_up_to_0, on]
end
end DD

set_option maxHeartbeats 400000
namespace DD
open PySem L2 PyProof.Rows
variable [NMs]
/-! ### places, on data -/
section
variable {w : Mach}
def firstT (width : Nat) : List Nat := if width = 1 then [] else [94]
def tailsU (rows : List Nat) (width : Nat) : List (List Nat) := if width = 1 then [[]] else if width = 2 then [94] :: rows.map (fun c => [c]) else [94] :: (rows.map (fun c => [94, c]) ++ rows.flatMap fun c => rows.map fun d => [c, d])
def placesU (w : Mach) (width : Nat) : List Pl2 := (List.range w.mv.length).flatMap fun h => (tailsU w.rows width).map fun t => (h, t)
theorem placesU_mem {width : Nat} {p : Pl2} : p ∈ placesU w width ↔ p.1 < w.mv.length ∧ p.2 ∈ tailsU w.rows width := by
  unfold placesU
  rw [List.mem_flatMap]
  constructor
  · rintro ⟨h, h1, h2⟩
    obtain ⟨t, h3, rfl⟩ := List.mem_map.mp h2
    exact ⟨List.mem_range.mp h1, h3⟩
  · rintro ⟨h1, h2⟩
    exact ⟨p.1, List.mem_range.mpr h1, List.mem_map.mpr ⟨p.2, h2, rfl⟩⟩
theorem tailsU_len {rows : List Nat} {width : Nat} {t : List Nat} (h : t ∈ tailsU rows width) : t.length ≤ 2 := by
  unfold tailsU at h
  split at h
  · have : t = [] := by simpa using h
    rw [this]; simp
  · split at h
    · rcases List.mem_cons.mp h with z | z
      · rw [z]; simp
      · obtain ⟨c, _, rfl⟩ := List.mem_map.mp z; simp
    · rcases List.mem_cons.mp h with z | z
      · rw [z]; simp
      · rcases List.mem_append.mp z with z | z
        · obtain ⟨c, _, rfl⟩ := List.mem_map.mp z; simp
        · obtain ⟨c, _, z⟩ := List.mem_flatMap.mp z
          obtain ⟨d, _, rfl⟩ := List.mem_map.mp z; simp
theorem tailsU_step {rows : List Nat} {width : Nat} (h1 : 1 ≤ width) (h3 : width ≤ 3) {t : List Nat} {c : Nat} (hc : c ∈ rows) (h : t ∈ tailsU rows width) : behind width (t ++ [c]) ∈ tailsU rows width := by
  have hw : width = 1 ∨ width = 2 ∨ width = 3 := by omega
  rcases hw with rfl | rfl | rfl
  · have : t = [] := by simpa [tailsU] using h
    subst this
    simp [behind, tailsU]
  · have e : tailsU rows 2 = [94] :: rows.map (fun c => [c]) := by simp [tailsU]
    rw [e] at h ⊢
    have hl : t.length = 1 := by
      rcases List.mem_cons.mp h with z | z
      · rw [z]; rfl
      · obtain ⟨d, _, rfl⟩ := List.mem_map.mp z; rfl
    obtain ⟨d, rfl⟩ := List.length_eq_one_iff.mp hl
    refine List.mem_cons_of_mem _ (List.mem_map.mpr ⟨c, hc, ?_⟩)
    simp [behind]
  · have e : tailsU rows 3 = [94] :: (rows.map (fun c => [94, c]) ++ rows.flatMap fun c => rows.map fun d => [c, d]) := by simp [tailsU]
    rw [e] at h ⊢
    refine List.mem_cons_of_mem _ ?_
    rcases List.mem_cons.mp h with z | z
    · subst z
      exact List.mem_append_left _ (List.mem_map.mpr ⟨c, hc, by simp [behind]⟩)
    · refine List.mem_append_right _ ?_
      rcases List.mem_append.mp z with z | z
      · obtain ⟨d, hd, rfl⟩ := List.mem_map.mp z
        exact List.mem_flatMap.mpr ⟨d, hd, List.mem_map.mpr ⟨c, hc, by simp [behind]⟩⟩
      · obtain ⟨x, hx, z⟩ := List.mem_flatMap.mp z
        obtain ⟨d, hd, rfl⟩ := List.mem_map.mp z
        exact List.mem_flatMap.mpr ⟨d, hd, List.mem_map.mpr ⟨c, hc, by simp [behind]⟩⟩
theorem tailsU_few {rows : List Nat} {width : Nat} (h4 : rows.length ≤ 4) : (tailsU rows width).length ≤ 21 := by
  unfold tailsU
  split
  · simp
  · split
    · simp; omega
    · have : (rows.flatMap fun c => rows.map fun d => [c, d]).length = rows.length * rows.length := by
        rw [List.length_flatMap]
        have : (rows.map fun c => (rows.map fun d => [c, d]).length) = rows.map fun _ => rows.length := List.map_congr_left fun c _ => by simp
        rw [this, List.map_const', List.sum_replicate_nat]
      have q := Nat.mul_le_mul h4 h4
      simp only [List.length_cons, List.length_append, List.length_map, this]
      omega
theorem placesU_few (h : MachOk w) {width : Nat} : (placesU w width).length ≤ w.mv.length * 21 := by
  unfold placesU
  rw [List.length_flatMap]
  have : ∀ (l : List Nat), (l.map fun h => ((tailsU w.rows width).map fun t => (h, t)).length).sum ≤ l.length * 21 := fun l => by
    induction l with
    | nil => simp
    | cons a l ih =>
      rw [List.map_cons, List.sum_cons, List.length_cons, Nat.add_mul, Nat.one_mul, List.length_map]
      have := tailsU_few (width := width) h.rows.2.2.2
      omega
  have := this (List.range w.mv.length)
  rwa [List.length_range] at this
end
end DD

set_option maxHeartbeats 400000
namespace DD
open PySem L2 PyProof.Rows
variable [NMs]
section
variable {w : Mach}
def layP (w : Mach) (width : Nat) : List (Pl2 × Run) := (lay (exF (nxtP w width)) ((0, firstT width), (([], []) : Run)) (placesU w width).length).1
theorem first_in {width : Nat} (h1 : 1 ≤ width) (h3 : width ≤ 3) : firstT width ∈ tailsU w.rows width := by
  have hw : width = 1 ∨ width = 2 ∨ width = 3 := by omega
  rcases hw with rfl | rfl | rfl <;> simp [firstT, tailsU]
theorem nxtP_in (h : MachOk w) {width : Nat} (h1 : 1 ≤ width) (h3 : width ≤ 3) {p : Pl2} (hp : p ∈ placesU w width) : ∀ e ∈ nxtP w width p, e.2.2 ∈ placesU w width := fun e he => by
  obtain ⟨i, hi, he⟩ := List.mem_flatMap.mp he
  obtain ⟨a, ha, rfl⟩ := List.mem_map.mp he
  have hi : i < w.rows.length := List.mem_range.mp hi
  have ha : a < w.ans := List.mem_range.mp ha
  obtain ⟨p1, p2⟩ := placesU_mem.mp hp
  obtain ⟨_, _, _, _, _, hg⟩ := cel_ok h p1 hi ha
  refine placesU_mem.mpr ⟨hg, tailsU_step h1 h3 ?_ p2⟩
  unfold rowC
  rw [List.getD_eq_getElem?_getD, List.getElem?_eq_getElem hi]
  exact List.getElem_mem hi
theorem first_tail_ok {width : Nat} {st : Sto} : m_first_tail [.int (width : Int)] st = .ok (.str (tx (firstT width))) st := by
  rw [m_first_tail_e]
  by_cases h : width = 1
  · subst h
    simp [mOf_e, d_first_tail, firstT, fEq, toPy, SeqAt.shaped, PyData.canLay0, PyData.depth, PyData.eqv, tx_nil]
  · have h' : ¬ (width : Int) = 1 := by omega
    simp [mOf_e, d_first_tail, firstT, fEq, toPy, SeqAt.shaped, PyData.canLay0, PyData.depth, PyData.eqv, tx_hat, h, h']
theorem earliest_P (h : MachOk w) {width : Nat} (h1 : 1 ≤ width) (h3 : width ≤ 3) {s : Sto} (hn : NL s) :
    ∃ st', m_earliest [encP (0, firstT width), lamP w width] s = .ok (.ref s.length) st' ∧ st'.take s.length = s ∧ st'[s.length]? = some (dkD encP dR (layP w width)) ∧ NL st' := by
  have m12 := h.mv12
  have m1 := h.mv1
  have few := placesU_few h (width := width)
  exact earliest_ok plK_P noLam_P (nxt := nxtP w width) (U := placesU w width) (fun b hb st hs => lam_go h (placesU_mem.mp hb).1 (Nat.le_trans (tailsU_len (placesU_mem.mp hb).2) (by decide)) hs) ⟨_, _, _, rfl⟩
    (placesU_mem.mpr ⟨by show 0 < _; omega, first_in h1 h3⟩) (fun b hb => nxtP_in h h1 h3 hb) (by omega) hn
theorem layP_few (h : MachOk w) {width : Nat} (h1 : 1 ≤ width) (h3 : width ≤ 3) : (layP w width).length ≤ 252 := by
  have m12 := h.mv12
  have m1 := h.mv1
  have few := placesU_few h (width := width)
  have inU := (lay_all (ext := exF (nxtP w width)) (s := ((0, firstT width), (([], []) : Run))) (P := fun e => e.1 ∈ placesU w width) (placesU_mem.mpr ⟨by show 0 < _; omega, first_in h1 h3⟩) (fun e he f hf => by
    obtain ⟨t, ht, rfl⟩ := List.mem_map.mp hf
    exact nxtP_in h h1 h3 he t ht) (placesU w width).length).1
  have := nodup_len (lay_nd (ext := exF (nxtP w width)) (s := ((0, firstT width), (([], []) : Run))) (placesU w width).length) (U := placesU w width) fun a ha => by
    obtain ⟨x, hx, rfl⟩ := List.mem_map.mp ha
    exact inU x hx
  rw [List.length_map] at this
  unfold layP
  omega
end
end DD

set_option maxHeartbeats 400000
namespace DD
open PySem L2 PyProof.Rows
variable [NMs]
theorem wipe_set {env : Env} {i : Nat} : wipeE [i] env = env.set i none := rfl
/-! the program's judges of values -/
section
variable {st : Sto}
theorem big_of {α : Type} {l : List α} {k : Nat} (h : l.length ≤ k) (hk : k ≤ 1000 := by decide) : l.length ≤ bigLine := Nat.le_trans h (Nat.le_trans hk (by decide))
theorem tx_inj {a b : List Nat} : tx a = tx b ↔ a = b := by simp [tx]
theorem is_integer_gen {d : D} (h : Val d = true) : m_is_integer [d] st = .ok (.bl (isIntD d)) st := by
  rw [m_is_integer_e]
  simp [mOf_e, d_is_integer, fIsi_int h, fIsi_bool h]
  cases d <;> first | (cases h; done) | rfl
theorem is_between_gen {d : D} {lo hi : Int} (h : Val d = true) : m_is_between [d, .int lo, .int hi] st = .ok (.bl (numD lo hi d)) st := by
  rw [m_is_between_e]
  simp [mOf_e, d_is_between, is_integer_gen h]
  cases d <;> first | (cases h; done) | simp [isIntD, numD]
  rename_i i
  by_cases h1 : lo ≤ i <;> simp [h1]
theorem is_integer_ok {a : Int} : m_is_integer [.int a] st = .ok (.bl true) st := is_integer_gen rfl
theorem is_between_ok {a lo hi : Int} (h1 : lo ≤ a) (h2 : a ≤ hi) : m_is_between [.int a, .int lo, .int hi] st = .ok (.bl true) st := by
  rw [is_between_gen rfl]; simp [numD, h1, h2]
theorem is_tuple_gen {d : D} {k : Int} (h : Val d = true) : m_is_tuple [d, .int k] st = .ok (.bl (tupJ k (fun _ => true) d)) st := by
  rw [m_is_tuple_e]
  simp [mOf_e, d_is_tuple, fIsi_tuple h]
  cases d <;> first | (cases h; done) | simp [isTupD, tupJ]
theorem is_tuple_ok {ds : List D} {k : Int} (h : (ds.length : Int) = k) : m_is_tuple [.tup ds, .int k] st = .ok (.bl true) st := by
  rw [is_tuple_gen rfl]; simp [tupJ, h]
def inL (T : List Nat) (x : D) : Bool := match x with
  | .str z => decide (∀ c ∈ z.cps.toList, c ∈ T)
  | _ => false
theorem is_code_gen {ch T : List Nat} (hl : ch.length ≤ bigLine) : m_is_code [.str (tx ch), .str (tx T)] st = .ok (.bl (ch.all fun c => decide (c ∈ T))) st := by
  rw [m_is_code_e]; simp [mOf_e, d_is_code, hl]
  generalize hloop : lcLoop _ _ _ _ _ _ _ = r
  have := lcm_use (fun x => .bl (inL T x)) hloop (fun x hx => by
    obtain ⟨c, hc, rfl⟩ := List.mem_map.mp hx
    exact ⟨_, rfl, by simp [wipe_set, inL]; exact decide_eq_decide.mpr Iff.rfl⟩)
  subst this
  have e : (inL T ∘ fun c => D.str (tx [c])) = fun c => decide (c ∈ T) := by funext c; simp [inL]
  simp only [Res.bind_ok, fAll_map, List.all_map, e]
  rfl
theorem is_code_ok {ch cs : List Nat} (h : ∀ c ∈ ch, c ∈ cs) (hl : ch.length ≤ bigLine) : m_is_code [.str (tx ch), .str (tx cs)] st = .ok (.bl true) st := by
  rw [is_code_gen hl]
  congr 2
  rw [List.all_eq_true]
  exact fun c hc => decide_eq_true (h c hc)
theorem is_code_no {d : D} {z : Str} (h : Val d = true) (k : isStrD d = false) : m_is_code [d, .str z] st = .ok (.bl false) st := by
  rw [m_is_code_e]; simp [mOf_e, d_is_code, fIsi_str h, k]
end
section
variable {w : Mach}
theorem places_up_to_ok (h : MachOk w) {width : Nat} (h1 : 1 ≤ width) (h3 : width ≤ 3) {s : Sto} (hn : NL s) :
    ∃ st', m_places_up_to [machO w, .int (width : Int), .int 300] s = .ok (.ref st'.length) (st' ++ [.lst ((layP w width).map fun e => encP e.1)]) ∧ st'.take s.length = s ∧ NL st' := by
  obtain ⟨st', e, t1, t2, t3⟩ := earliest_P h h1 h3 hn
  have few := layP_few h h1 h3
  have big : 1000 ≤ bigLine := by decide
  refine ⟨st', ?_, t1, t3⟩
  have fl : fListK [.ref s.length] st' = .ok ((layP w width).map fun e => encP e.1) st' := by
    unfold fListK
    have : dkOf (.ref s.length) st' = some ((layP w width).map fun e => encP e.1, (layP w width).map fun e => dR e.2) := IsDk.of (.inl t2)
    simp only [this]
  have ow : ownLamR m_earliest 2 0 lw_la_places_up_to_0 (some [machO w, .int (width : Int)]) [encP (0, firstT width)] s = .ok (.ref s.length) st' := ownLamR_ok rfl e rfl t3
  have b1 : 1 ≤ bigLine := by decide
  have b2 : 2 ≤ bigLine := by decide
  have ln : fLen [.ref st'.length] (st' ++ [O.lst ((layP w width).map fun e => encP e.1)]) = .ok (.int ((layP w width).length : Int)) (st' ++ [O.lst ((layP w width).map fun e => encP e.1)]) := by
    have hl : (layP w width).length ≤ bigLine := by omega
    simp [fLen, lenD, hl]
  have lt : ¬ (300 : Int) < ((layP w width).length : Int) := by omega
  rw [m_places_up_to_e]
  have ep : encP (0, firstT width) = .tup [.int 0, .str (tx (firstT width))] := by simp [encP]
  rw [ep] at ow
  simp [mOf_e, d_places_up_to, first_tail_ok, capsE, ow, b1, b2, fl, ln, lt]
theorem check_width_ok {width : Nat} {st : Sto} (h1 : 1 ≤ width) (h3 : width ≤ 3) : m_check_width [.int (width : Int)] st = .ok .non st := by
  have b := is_between_ok (a := (width : Int)) (lo := 1) (hi := 3) (st := st) (by omega) (by omega)
  have iw : m_is_width [.int (width : Int)] st = .ok (.bl true) st := by
    rw [m_is_width_e]; simp [mOf_e, d_is_width, b]
  rw [m_check_width_e]
  simp [mOf_e, d_check_width, iw]
theorem places_ok (h : MachOk w) {width : Nat} (h1 : 1 ≤ width) (h3 : width ≤ 3) {s : Sto} (hn : NL s) :
    ∃ st', m_places [machO w, .int (width : Int)] s = .ok (.ref st'.length) (st' ++ [.lst ((layP w width).map fun e => encP e.1)]) ∧ st'.take s.length = s ∧ NL st' := by
  obtain ⟨st', e, t⟩ := places_up_to_ok h h1 h3 hn
  refine ⟨st', ?_, t⟩
  rw [m_places_e]
  simp [mOf_e, d_places, check_width_ok h1 h3, e]
end
end DD

set_option maxHeartbeats 400000
namespace DD
open PySem L2 PyProof.Rows
variable [NMs]
/-! ### a turn of _law_places, as lists -/
def ltl (width : Nat) (code : List Nat) : List Nat := if code.length + 1 < width then 94 :: code else code.drop (code.length + 1 - width)
theorem ltl_step {width : Nat} (h1 : 1 ≤ width) (h3 : width ≤ 3) (code : List Nat) (c : Nat) : ltl width (code ++ [c]) = behind width (ltl width code ++ [c]) := by
  have hw : width = 1 ∨ width = 2 ∨ width = 3 := by omega
  unfold ltl behind
  rcases hw with rfl | rfl | rfl
  · have e : code.length + 1 + 1 - 1 = code.length + 1 := by omega
    simp
  · by_cases h : code.length = 0
    · have : code = [] := List.length_eq_zero_iff.mp h
      subst this; simp
    · have a1 : ¬ code.length + 1 < 2 := by omega
      have a2 : ¬ code.length + 1 + 1 < 2 := by omega
      have l : (code.drop (code.length - 1)).length = 1 := by rw [List.length_drop]; omega
      obtain ⟨d, hd⟩ := List.length_eq_one_iff.mp l
      have e1 : code.length + 1 - 2 = code.length - 1 := by omega
      have e2 : code.length + 1 + 1 - 2 = code.length := by omega
      simp [a1, a2, e1, e2, hd]
  · by_cases h : code.length = 0
    · have : code = [] := List.length_eq_zero_iff.mp h
      subst this; simp
    · by_cases k : code.length = 1
      · obtain ⟨d, rfl⟩ := List.length_eq_one_iff.mp k
        simp
      · have a1 : ¬ code.length + 1 < 3 := by omega
        have a2 : ¬ code.length + 1 + 1 < 3 := by omega
        have l : (code.drop (code.length - 2)).length = 2 := by rw [List.length_drop]; omega
        have e1 : code.length + 1 - 3 = code.length - 2 := by omega
        have e2 : code.length + 1 + 1 - 3 = code.length - 1 := by omega
        match hd : code.drop (code.length - 2), l with
        | [x, y], _ =>
          have e3 : code.drop (code.length - 1) = [y] := by
            have : code.drop (code.length - 1) = (code.drop (code.length - 2)).drop 1 := by rw [List.drop_drop]; congr 1; omega
            rw [this, hd]; rfl
          have le : code.length - 1 ≤ code.length := by omega
          simp [a1, a2, e1, e2, hd, e3, List.drop_append_of_le_length le]
section
variable {α : Type} [DecidableEq α] {β : Type}
/-- a turn: what is found grows by the first comers, what comes later by their steps -/
theorem turn_fold (pl : β → α × Run) (ex : α × Run → List β) (F : List (α × Run)) : ∀ (S : List β) (acc : List (α × Run)),
    S.foldl (fun (s : List (α × Run) × List β) b => if (pl b).1 ∈ s.1.map (·.1) then s else (s.1 ++ [pl b], s.2 ++ ex (pl b))) (F ++ acc, acc.flatMap ex) =
      (F ++ (S.map pl).foldl (stepL (F.map (·.1))) acc, ((S.map pl).foldl (stepL (F.map (·.1))) acc).flatMap ex)
  | [], acc => rfl
  | b :: S, acc => by
    rw [List.foldl_cons, List.map_cons, List.foldl_cons]
    unfold stepL
    by_cases h : (pl b).1 ∈ F.map (·.1) ∨ (pl b).1 ∈ acc.map (·.1)
    · have h' : (pl b).1 ∈ (F ++ acc).map (·.1) := by rw [List.map_append, List.mem_append]; exact h
      simp only [h', if_true, h]
      exact turn_fold pl ex F S acc
    · have h' : (pl b).1 ∉ (F ++ acc).map (·.1) := by rw [List.map_append, List.mem_append]; exact h
      simp only [h', if_false, h]
      have := turn_fold pl ex F S (acc ++ [pl b])
      rw [List.flatMap_append] at this
      simp only [List.flatMap_cons, List.flatMap_nil, List.append_nil] at this
      rw [List.append_assoc]
      exact this
theorem turn_first (pl : β → α × Run) (ex : α × Run → List β) (F : List (α × Run)) (S : List β) :
    S.foldl (fun (s : List (α × Run) × List β) b => if (pl b).1 ∈ s.1.map (·.1) then s else (s.1 ++ [pl b], s.2 ++ ex (pl b))) (F, []) = (F ++ firsts (F.map (·.1)) (S.map pl), (firsts (F.map (·.1)) (S.map pl)).flatMap ex) := by
  have := turn_fold pl ex F S []
  rwa [List.append_nil] at this
end
end DD

set_option maxHeartbeats 400000
namespace DD
open PySem L2 PyProof.Rows
variable [NMs]
/-! ### the turns of _law_places are the layers -/
section
variable {w : Mach} {width : Nat}
abbrev Tri := Run × Nat
def plT (width : Nat) (b : Tri) : Pl2 × Run := ((b.2, ltl width b.1.1), b.1)
def exT (w : Mach) (e : Pl2 × Run) : List Tri := (List.range w.rows.length).flatMap fun i => (List.range w.ans).map fun a => ((e.2.1 ++ [rowC w i], e.2.2 ++ [((a : Nat) : Int)]), (celW w e.1.1 i a).2)
def walkZ (w : Mach) (r : Run) : Nat := (r.1.zip r.2).foldl (fun h ca => (celW w h (w.rows.idxOf ca.1) ca.2.toNat).2) 0
/-- a place is what its run leads to -/
def PlOk (w : Mach) (width : Nat) (e : Pl2 × Run) : Prop := e.2.1.length = e.2.2.length ∧ e.1.1 = walkZ w e.2 ∧ e.1.2 = ltl width e.2.1
theorem idx_rowC (h : MachOk w) {i : Nat} (hi : i < w.rows.length) : w.rows.idxOf (rowC w i) = i := by
  have nd : w.rows.Nodup := h.rows.1.imp fun a => Nat.ne_of_lt a
  unfold rowC
  rw [List.getD_eq_getElem?_getD, List.getElem?_eq_getElem hi]
  exact nd.idxOf_getElem i hi
theorem exT_pl {e : Pl2 × Run} (h1 : 1 ≤ width) (h3 : width ≤ 3) (ok : e.1.2 = ltl width e.2.1) : (exT w e).map (plT width) = exF (nxtP w width) e := by
  unfold exT exF nxtP
  rw [List.map_flatMap, List.map_flatMap]
  refine congrArg List.flatten (List.map_congr_left fun i _ => ?_)
  rw [List.map_map, List.map_map]
  refine List.map_congr_left fun a _ => ?_
  show ((_, ltl width (e.2.1 ++ [rowC w i])), _) = ((_, behind width (e.1.2 ++ [rowC w i])), _)
  rw [ltl_step h1 h3, ok]
theorem plOk_ext (h : MachOk w) (h1 : 1 ≤ width) (h3 : width ≤ 3) {e : Pl2 × Run} (ok : PlOk w width e) : ∀ f ∈ exF (nxtP w width) e, PlOk w width f := fun f hf => by
  obtain ⟨t, ht, rfl⟩ := List.mem_map.mp hf
  obtain ⟨i, hi, ht⟩ := List.mem_flatMap.mp ht
  obtain ⟨a, ha, rfl⟩ := List.mem_map.mp ht
  have hi : i < w.rows.length := List.mem_range.mp hi
  obtain ⟨o1, o2, o3⟩ := ok
  refine ⟨by simp [o1], ?_, ?_⟩
  · show (celW w e.1.1 i a).2 = walkZ w (e.2.1 ++ [rowC w i], e.2.2 ++ [(a : Int)])
    unfold walkZ
    show _ = List.foldl _ 0 ((e.2.1 ++ [rowC w i]).zip (e.2.2 ++ [(a : Int)]))
    rw [List.zip_append o1, List.foldl_append]
    show _ = (celW w (walkZ w e.2) (w.rows.idxOf (rowC w i)) ((a : Int).toNat)).2
    rw [idx_rowC h hi, ← o2]
    rfl
  · show behind width (e.1.2 ++ [rowC w i]) = ltl width (e.2.1 ++ [rowC w i])
    rw [ltl_step h1 h3, o3]
theorem lay_plOk (h : MachOk w) (h1 : 1 ≤ width) (h3 : width ≤ 3) : ∀ n, (∀ e ∈ (lay (exF (nxtP w width)) ((0, firstT width), (([], []) : Run)) n).1, PlOk w width e) ∧ ∀ e ∈ (lay (exF (nxtP w width)) ((0, firstT width), (([], []) : Run)) n).2, PlOk w width e :=
  lay_all ⟨rfl, rfl, by
    have hw : width = 1 ∨ width = 2 ∨ width = 3 := by omega
    rcases hw with rfl | rfl | rfl <;> rfl⟩ fun e ok => plOk_ext h h1 h3 ok
/-- one item of a turn -/
def itemT {α β : Type} [DecidableEq α] (pl : β → α × Run) (ex : α × Run → List β) (s : List (α × Run) × List β) (b : β) : List (α × Run) × List β :=
  if (pl b).1 ∈ s.1.map (·.1) then s else (s.1 ++ [pl b], s.2 ++ ex (pl b))
theorem item_first {α β : Type} [DecidableEq α] (pl : β → α × Run) (ex : α × Run → List β) (F : List (α × Run)) (S : List β) :
    S.foldl (itemT pl ex) (F, []) = (F ++ firsts (F.map (·.1)) (S.map pl), (firsts (F.map (·.1)) (S.map pl)).flatMap ex) := turn_first pl ex F S
/-- the law's turns: what is found, what comes later; srt puts in order -/
def turnT (w : Mach) (width : Nat) (srt : List Tri → List Tri) (s : List (Pl2 × Run) × List Tri) : List (Pl2 × Run) × List Tri :=
  (srt s.2).foldl (itemT (plT width) (exT w)) (s.1, [])
def turnsT (w : Mach) (width : Nat) (srt : List Tri → List Tri) : Nat → List (Pl2 × Run) × List Tri
  | 0 => ([], [((([], []) : Run), 0)])
  | n + 1 => turnT w width srt (turnsT w width srt n)
theorem turns_lay (h : MachOk w) (h1 : 1 ≤ width) (h3 : width ≤ 3) {srt : List Tri → List Tri} (hp : ∀ L, (srt L).Perm L) (hs : ∀ L, (srt L).Pairwise fun a b => ¬ ltR b.1 a.1) :
    ∀ n, turnsT w width srt (n + 1) = ((lay (exF (nxtP w width)) ((0, firstT width), (([], []) : Run)) n).1, (lay (exF (nxtP w width)) ((0, firstT width), (([], []) : Run)) n).2.flatMap (exT w))
  | 0 => by
    show turnT w width srt ([], [((([], []) : Run), 0)]) = _
    have e : srt [((([], []) : Run), 0)] = [((([], []) : Run), 0)] := List.perm_singleton.mp (hp _)
    have f : ltl width [] = firstT width := by
      have hw : width = 1 ∨ width = 2 ∨ width = 3 := by omega
      rcases hw with rfl | rfl | rfl <;> rfl
    unfold turnT
    rw [e]
    simp [itemT, plT, lay, f]
  | n + 1 => by
    have ih := turns_lay h h1 h3 hp hs n
    show turnT w width srt (turnsT w width srt (n + 1)) = _
    rw [ih]
    unfold turnT
    simp only []
    rw [item_first (plT width) (exT w)]
    obtain ⟨_, ok2⟩ := lay_plOk h h1 h3 n
    have eX : ((lay (exF (nxtP w width)) ((0, firstT width), (([], []) : Run)) n).2.flatMap (exT w)).map (plT width) = (lay (exF (nxtP w width)) ((0, firstT width), (([], []) : Run)) n).2.flatMap (exF (nxtP w width)) := by
      rw [List.map_flatMap]
      exact congrArg List.flatten (List.map_congr_left fun e he => exT_pl h1 h3 (ok2 e he).2.2)
    have le := layer_eq (found := (lay (exF (nxtP w width)) ((0, firstT width), (([], []) : Run)) n).1.map (·.1)) (X := (lay (exF (nxtP w width)) ((0, firstT width), (([], []) : Run)) n).2.flatMap (exF (nxtP w width)))
      (S := (srt ((lay (exF (nxtP w width)) ((0, firstT width), (([], []) : Run)) n).2.flatMap (exT w))).map (plT width)) (by rw [← eX]; exact (hp _).map _)
      (by rw [List.pairwise_map]; exact hs _) (fun e he f hf z => by
        obtain ⟨a, ha, hea⟩ := List.mem_flatMap.mp he
        obtain ⟨b, hb, hfb⟩ := List.mem_flatMap.mp hf
        have oe := plOk_ext h h1 h3 (ok2 a ha) e hea
        have of' := plOk_ext h h1 h3 (ok2 b hb) f hfb
        exact Prod.ext (by rw [oe.2.1, of'.2.1, z]) (by rw [oe.2.2, of'.2.2, z]))
    rw [← le]
    rfl
end
end DD

set_option maxHeartbeats 400000
namespace DD
open PySem L2 PyProof.Rows
variable [NMs]
/-! ### the law's draws: rows -/
theorem draw {n : Nat} {st : Sto} {many : Int} (hg : HG n st) (h1 : 0 < many) (h2 : many < 1073741824) : ∃ (d : Nat) (st' : Sto), (d : Int) < many ∧ (∀ x, x = many → m_law_draw [.ref n, .int x] st = .ok (.int (d : Int)) st') ∧ Dr n st st' := by
  obtain ⟨d, st', h, e, r⟩ := draw_ok hg h1 h2
  exact ⟨d, st', h, fun x hx => by rw [hx, m_law_draw_e]; exact e, r⟩
def absI (i : Int) : Int := if i < 0 then -i else i
def absD (d : D) : D := match d with
  | .int i => .int (absI i)
  | d => d
theorem absD_map (ns : List Int) : (ns.map D.int).map absD = (ns.map absI).map .int := by rw [List.map_map, List.map_map]; rfl
theorem hand_ok {ns : List Int} {st : Sto} (hl : ns.length ≤ 63) : ∃ h : Hand, m_law_hand [.sc (ns.map .int)] st = .ok (.ref st.length) (st ++ [.lst h.ds]) := by
  have hc : (cutL ns none (some 63)).length ≤ bigLine := Nat.le_trans (cut_len _ _ _) (Nat.le_trans hl (by decide))
  refine ⟨⟨(cutL ns none (some 63)).map absI, 0, 0, 1 + (cutL ns none (some 63)).length, 0⟩, ?_⟩
  simp [m_law_hand_e, mOf_e, d_law_hand, cut_map, hc]
  rw [lc_map (f := absD) _ (fun x hx => by
    obtain ⟨i, _, rfl⟩ := List.mem_map.mp hx
    exact ⟨_, rfl, by simp [wipeE, absD, absI]⟩), absD_map]
  simp [Hand.ds, bigLine]
def sgD (c : Nat) : D := .str (tx [c])
def sortN (l : List Nat) : List Nat := l.mergeSort fun a b => decide (a ≤ b)
theorem sortN_perm (l : List Nat) : (sortN l).Perm l := List.mergeSort_perm _ _
theorem sortN_sorted (l : List Nat) : (sortN l).Pairwise (· ≤ ·) := by
  have := List.pairwise_mergeSort (le := fun a b : Nat => decide (a ≤ b)) (fun a b c h1 h2 => by simp at *; omega) (fun a b => by simp; omega) l
  exact this.imp fun h => of_decide_eq_true h
theorem leS_sg {a b : Nat} (h : a ≤ b) : leS (tx [a]) (tx [b]) := by
  show ¬ [b] < [a]
  rw [List.cons_lt_cons_iff]
  simp
  omega
theorem sortS_signs (l : List Nat) : sortS (l.map fun c => tx [c]) = (sortN l).map fun c => tx [c] := by
  refine (sortS_eq ((sortN_perm l).map _) ?_).symm
  rw [List.pairwise_map]
  exact (sortN_sorted l).imp leS_sg
theorem erase_perm {α : Type} {l : List α} {i : Nat} (h : i < l.length) : (l[i] :: l.eraseIdx i).Perm l := by
  induction l generalizing i with
  | nil => simp at h
  | cons a l ih =>
    cases i with
    | zero => simp
    | succ i =>
      have h' : i < l.length := by simpa using h
      simp only [List.getElem_cons_succ, List.eraseIdx_cons_succ]
      exact (List.Perm.swap _ _ _).trans ((ih h').cons a)
theorem eraseIdx_mapD {α β : Type} (f : α → β) : ∀ (l : List α) (i : Nat), (l.map f).eraseIdx i = (l.eraseIdx i).map f
  | [], _ => rfl
  | _ :: _, 0 => rfl
  | a :: l, i + 1 => by simp [eraseIdx_mapD f l i]
noncomputable def dRows18 : DS := (dSeq (dSet 2 (dNew (dCallL fListAll (dCons (dC (.str (tx (List.range' 97 26)))) dNil))))
    (dSeq (dSet 3 (dNew (dLst dNil)))
    (dSeq (dFor (dRange1 (dCons (dVar 1) dNil)) (gdName 4) (dExpr (dMeth isLst fAppend (dVar 3) (dCons (dMeth isLst fPopAt (dVar 2) (dCons (dOwn m_law_draw 2 (dCons (dVar 0) (dCons (dCall fLen (dCons (dVar 2) dNil)) dNil))) dNil)) dNil))))
    (dRet (dMeth isStr fJoin (dC (.str (tx []))) (dCons (dFz (dCallL fSorted (dCons (dVar 3) dNil))) dNil))))))
theorem d_rows18_e : d_law_rows = dRows18 := by unfold d_law_rows dRows18; rw [tx_nil, tx_letters]
theorem at0 {s : Sto} {o : O} {r : Sto} : (s ++ o :: r)[s.length]? = some o := by simp
theorem at1 {s : Sto} {o o2 : O} {r : Sto} : (s ++ o :: o2 :: r)[s.length + 1]? = some o2 := by simp
theorem set0 {s : Sto} {o o' : O} {r : Sto} : (s ++ o :: r).set s.length o' = s ++ o' :: r := by simp
theorem set1 {s : Sto} {o o2 o' : O} {r : Sto} : (s ++ o :: o2 :: r).set (s.length + 1) o' = s ++ o :: o' :: r := by simp
theorem HG.app3 {n : Nat} {s r : Sto} (h : HG n s) : HG n (s ++ r) := by
  have := h.lt
  obtain ⟨h, e⟩ := h
  exact ⟨h, by rw [List.getElem?_append_left this]; exact e⟩
theorem Dr.ofApp3 {n : Nat} {s s' r : Sto} (hl : n < s.length) (d : Dr n (s ++ r) s') : ∃ s2, Dr n s s2 ∧ s' = s2 ++ r := by
  obtain ⟨h, rfl⟩ := d
  exact ⟨s.set n (.lst h.ds), ⟨h, rfl⟩, by rw [List.set_append_left n _ hl]⟩
theorem rows18_ok {n many : Nat} {st : Sto} (hg : HG n st) (h1 : 1 ≤ many) (h4 : many ≤ 4) : ∃ (cs : List Nat) (st2 : Sto) (la lb : List Nat), m_law_rows [.ref n, .int (many : Int)] st = .ok (.str (tx cs)) (st2 ++ [.lst (la.map sgD), .lst (lb.map sgD)]) ∧ Dr n st st2 ∧ RowsOk cs ∧ cs.length = many := by
  rw [m_law_rows_e, d_rows18_e]
  have big : 1000 ≤ bigLine := by decide
  have b26 : 26 ≤ bigLine := by decide
  have fl : fListAll [.str (tx (List.range' 97 26))] st = .ok ((List.range' 97 26).map sgD) st := by
    unfold fListAll
    have : (tx (List.range' 97 26)).length ≤ bigLine := by rw [tx_length, List.length_range']; exact b26
    simp only [this, if_true]
    rfl
  simp [mOf_e, dRows18, fl]
  rw [rgR_ok (n := many) rfl (by omega)]
  simp
  generalize hloop : loop _ _ _ _ _ _ = r
  obtain ⟨env', st', rfl, la, lb, e4, st2, rfl, rfl, dr, l1, l2, pm⟩ := for_use1 (fun i env st' => ∃ (la lb : List Nat) (e4 : Option D) (st2 : Sto), env = [some (D.ref n), some (D.int (many : Int)), some (.ref st.length), some (.ref (st.length + 1)), e4] ∧ st' = st2 ++ [.lst (la.map sgD), .lst (lb.map sgD)] ∧ Dr n st st2 ∧ la.length + i = 26 ∧ lb.length = i ∧ (lb ++ la).Perm (List.range' 97 26))
    hloop ⟨List.range' 97 26, [], none, st, rfl, rfl, Dr.refl hg, by simp, rfl, .refl _⟩ (fun i x env st' hx hI => by
      obtain ⟨la, lb, e4, st2, rfl, rfl, dr, l1, l2, pm⟩ := hI
      obtain ⟨hi, rfl⟩ := ints_get hx
      have e := dr.len
      have hg2 : HG n (st2 ++ [O.lst (la.map sgD), .lst (lb.map sgD)]) := (dr.hg hg).app3
      obtain ⟨a, st3, ha, e3, dr3⟩ := draw (many := (la.length : Int)) hg2 (by omega) (by omega)
      have ha : a < la.length := by omega
      obtain ⟨st4, dr4, rfl⟩ := dr3.ofApp3 (dr.hg hg).lt
      have ee : st4.length = st.length := by rw [dr4.len, e]
      have g2 : (st2 ++ [O.lst (la.map sgD), .lst (lb.map sgD)])[st.length]? = some (.lst (la.map sgD)) := by rw [← e]; exact at0
      have g3 : (st2 ++ [O.lst (la.map sgD), .lst (lb.map sgD)])[st.length + 1]? = some (.lst (lb.map sgD)) := by rw [← e]; exact at1
      have h2 : (st4 ++ [O.lst (la.map sgD), .lst (lb.map sgD)])[st.length]? = some (.lst (la.map sgD)) := by rw [← ee]; exact at0
      have hla : la.length ≤ bigLine := by omega
      have ln : fLen [.ref st.length] (st2 ++ [O.lst (la.map sgD), .lst (lb.map sgD)]) = .ok (.int (la.length : Int)) (st2 ++ [O.lst (la.map sgD), .lst (lb.map sgD)]) := by
        simp [fLen, lenD, g2, hla]
      have hpop : fPopAt (.ref st.length) [.int (a : Int)] (st4 ++ [O.lst (la.map sgD), .lst (lb.map sgD)]) = .ok (sgD la[a]) (st4 ++ [O.lst ((la.eraseIdx a).map sgD), .lst (lb.map sgD)]) := by
        unfold fPopAt
        have c : (0 : Int) ≤ (a : Int) ∧ (la.map sgD).length ≤ bigLine := ⟨by omega, by rw [List.length_map]; exact hla⟩
        have hq : (la.map sgD)[((a : Int)).toNat]? = some (sgD la[a]) := by simp [List.getElem?_eq_getElem ha]
        simp only [h2, c, and_self, if_true, hq]
        congr 1
        rw [← ee, set0]
        rw [eraseIdx_mapD, Int.toNat_natCast]
      have h3 : (st4 ++ [O.lst ((la.eraseIdx a).map sgD), .lst (lb.map sgD)])[st.length + 1]? = some (.lst (lb.map sgD)) := by rw [← ee]; exact at1
      have hlb : (lb.map sgD).length ≤ bigLine := by rw [List.length_map]; omega
      have hap := fAppend_at (y := sgD la[a]) h3 hlb
      have hs : (st4 ++ [O.lst ((la.eraseIdx a).map sgD), .lst (lb.map sgD)]).set (st.length + 1) (.lst (lb.map sgD ++ [sgD la[a]])) = st4 ++ [O.lst ((la.eraseIdx a).map sgD), .lst ((lb ++ [la[a]]).map sgD)] := by
        rw [← ee, set1, List.map_append]; rfl
      rw [hs] at hap
      refine ⟨_, rfl, [some (D.ref n), some (D.int (many : Int)), some (.ref st.length), some (.ref (st.length + 1)), some (.int (i : Int))], st4 ++ [O.lst ((la.eraseIdx a).map sgD), .lst ((lb ++ [la[a]]).map sgD)], ?_, la.eraseIdx a, lb ++ [la[a]], _, st4, rfl, rfl, dr.trans dr4, ?_, by simp [l2], ?_⟩
      · simp [isLst_at g2, isLst_at g3, ln, e3, hpop, hap]
      · have := List.length_eraseIdx_of_lt ha
        omega
      · refine List.Perm.trans ?_ pm
        rw [List.append_assoc]
        exact (erase_perm ha).append_left lb)
  rw [intsD_length] at l1 l2
  have ee := dr.len
  have g3 : (st2 ++ [O.lst (la.map sgD), .lst (lb.map sgD)])[st.length + 1]? = some (.lst (lb.map sgD)) := by rw [← ee]; exact at1
  have fs : fSorted [.ref (st.length + 1)] (st2 ++ [O.lst (la.map sgD), .lst (lb.map sgD)]) = .ok ((sortN lb).map fun c => D.str (tx [c])) (st2 ++ [O.lst (la.map sgD), .lst (lb.map sgD)]) := by
    have : strsOf (lb.map sgD) = some (lb.map fun c => tx [c]) := strs_signs lb
    simp only [fSorted, lstD, g3, this, sortS_signs, List.map_map]
    rfl
  have ls : (sortN lb).length = many := by rw [(sortN_perm lb).length_eq, l2]
  have fj := fJoin_signs (st := st2 ++ [O.lst (la.map sgD), .lst (lb.map sgD)]) (cs := sortN lb) (by omega)
  have nd : (lb ++ la).Nodup := pm.nodup_iff.mpr (List.nodup_range' (step := 1) (by omega))
  have ndb : lb.Nodup := (List.nodup_append.mp nd).1
  refine ⟨sortN lb, st2, ⟨la, lb, ?_⟩, dr, ⟨?_, fun c hc => ?_, by omega, by omega⟩, ls⟩
  · simp [fs, fj, isStr]
  · have nds : (sortN lb).Nodup := (sortN_perm lb).nodup_iff.mpr ndb
    exact (List.Pairwise.and (sortN_sorted lb) nds).imp fun h => by omega
  · have : c ∈ lb := (sortN_perm lb).mem_iff.mp hc
    have := pm.mem_iff.mp (List.mem_append_left la this)
    have := List.mem_range'_1.mp this
    omega
end DD

set_option maxHeartbeats 400000
namespace DD
open PySem L2 PyProof.Rows
variable [NMs]
/-! ### the law's draws: moves, a machine -/
theorem NL.dr {n : Nat} {st st' : Sto} (h : NL st) (d : Dr n st st') : NL st' := by
  obtain ⟨h2, rfl⟩ := d
  refine h.set ?_
  show noLams h2.ds = true
  have : ∀ l : List Int, noLams (l.map D.int) = true := fun l => noLams_map (fun _ => rfl) l
  simp [Hand.ds, noLams, noLam, this]
theorem law_move18 {n kind size most here at' : Nat} {st : Sto} (hg : HG n st) (hs1 : 1 ≤ size) (hs : size ≤ 12) (hm1 : 1 ≤ most) (hm : most ≤ 99) (hh : here < size) (hh4 : here ≤ 3) (ha : at' ≤ 3) :
    ∃ (p : Nat × Nat) (st' : Sto), m_law_move [.ref n, .int (kind : Int), .int (size : Int), .int (most : Int), .tup [.int (here : Int), .int (at' : Int)]] st = .ok (pD p) st' ∧ Dr n st st' ∧ 1 ≤ p.1 ∧ p.1 ≤ 99 ∧ p.2 < size := by
  obtain ⟨g, st1, hgl, e1, dr1⟩ := draw (many := (size : Int)) hg (by omega) (by omega)
  obtain ⟨t, st2, htl, e2, dr2⟩ := draw (many := (most : Int)) (dr1.hg hg) (by omega) (by omega)
  have dr := dr1.trans dr2
  suffices hq : ∃ (a b : Int), m_law_move [.ref n, .int (kind : Int), .int (size : Int), .int (most : Int), .tup [.int (here : Int), .int (at' : Int)]] st = .ok (.tup [.int a, .int b]) st2 ∧ 1 ≤ a ∧ a ≤ 99 ∧ 0 ≤ b ∧ b < size by
    obtain ⟨a, b, e, q1, q2, q3, q4⟩ := hq
    refine ⟨(a.toNat, b.toNat), st2, ?_, dr, ?_, ?_, ?_⟩
    · rw [e]; unfold pD; simp only; rw [Int.toNat_of_nonneg (by omega), Int.toNat_of_nonneg q3]
    · show 1 ≤ a.toNat; omega
    · show a.toNat ≤ 99; omega
    · show b.toNat < size; omega
  rw [m_law_move_e]
  have b2 : 2 ≤ bigLine := by decide
  have sz : (0 : Int) < (size : Int) := by omega
  have sz' : 0 < size := by omega
  have c3 : ∀ x : Int, cMul 3 x = true := fun x => cMul_small' (by omega)
  have c3' : ∀ x : Int, cMul x 3 = true := fun x => cMul_small (by omega)
  have p7 : (0 : Int) < 7 := by omega
  simp only [mOf_e, d_law_move, dSeq_e, dSet_e]
  by_cases k1 : (kind : Int) = 1
  · have m0 := Int.emod_nonneg (at' : Int) (show (size : Int) ≠ 0 by omega)
    have m1 := Int.emod_lt_of_pos (at' : Int) sz
    rw [k1]
    exact ⟨1 + (t : Int), (at' : Int) % (size : Int), by simp [e1, e2, sz, sz', hs1, b2], by omega, by omega, m0, m1⟩
  by_cases k2 : (kind : Int) = 2
  · have m0 := Int.emod_nonneg ((here : Int) + at' + 1) (show (size : Int) ≠ 0 by omega)
    have m1 := Int.emod_lt_of_pos ((here : Int) + at' + 1) sz
    rw [k2]
    exact ⟨1 + (t : Int), ((here : Int) + at' + 1) % (size : Int), by simp [e1, e2, sz, sz', hs1, b2], by omega, by omega, m0, m1⟩
  by_cases k3 : (kind : Int) = 3
  · rw [k3]
    refine ⟨1 + (t : Int), max (g : Int) (here : Int), by simp [e1, e2, b2, fMax2], by omega, by omega, by omega, by omega⟩
  by_cases k4 : (kind : Int) = 4
  · rw [k4]
    refine ⟨1 + ((at' : Int) * 3) % 7, (g : Int), by simp [e1, e2, b2, c3', p7], by omega, by omega, by omega, by omega⟩
  by_cases k5 : (kind : Int) = 5
  · rw [k5]
    refine ⟨40 + 3 * (g : Int) - 3 * (here : Int) + (at' : Int), (g : Int), by simp [e1, e2, b2, c3], by omega, by omega, by omega, by omega⟩
  · refine ⟨1 + (t : Int), (g : Int), by simp [e1, e2, b2, k1, k2, k3, k4, k5], by omega, by omega, by omega, by omega⟩
structure LnOk (size many ans : Nat) (it : List (List (Nat × Nat))) : Prop where
  len : it.length = many
  ok : ∀ ps ∈ it, ps.length = ans ∧ ∀ p ∈ ps, 1 ≤ p.1 ∧ p.1 ≤ 99 ∧ p.2 < size
structure MvI (size many ans : Nat) (n q i : Nat) (st2 : Sto) (k t : D) (env : Env) (st' : Sto) : Prop where
  ex : ∃ (its : List (List (List (Nat × Nat)))) (w7 w8 w9 : Option D) (s junk : Sto), env = [some (D.ref n), some (.int (size : Int)), some (.int (many : Int)), some (.int (ans : Int)), some k, some t, some (.ref st2.length), w7, w8, w9, none] ∧ st' = s ++ .lst (its.map itD) :: junk ∧ Dr n st2 s ∧ NL junk ∧ NoRef junk ∧ its.length = i ∧ ∀ it ∈ its, LnOk size many ans it
noncomputable def dMvIn : DS := (dExpr (dMeth isLst fAppend (dVar 8) (dCons (dCall fTuple (dCons (dFz (dLc (dRange1 (dCons (dVar 3) dNil)) (gdName 10) dYes (dOwn m_law_move 5 (dCons (dVar 0) (dCons (dVar 4) (dCons (dVar 1) (dCons (dVar 5) (dCons (dTup (dCons (dVar 7) (dCons (dVar 9) dNil))) dNil)))))) [10])) dNil)) dNil)))
theorem mvIn_ok {n size many ans i kind top st2l : Nat} {s junk : Sto} {its : List (List (List (Nat × Nat)))} {w9 : Option D} (hgs : HG n s) (hs1 : 1 ≤ size) (hs : size ≤ 4) (hm : many ≤ 4) (ha3 : ans ≤ 3) (ht1 : 1 ≤ top) (ht3 : top ≤ 99) (hi : i < size) :
    ∃ it v9 s2, loop (gdName 9) dMvIn yes (intsD 0 many) [some (D.ref n), some (.int (size : Int)), some (.int (many : Int)), some (.int (ans : Int)), some (.int (kind : Int)), some (.int (top : Int)), some (.ref st2l), some (.int (i : Int)), some (.ref (s.length + (junk.length + 1))), w9, none] (s ++ .lst (its.map itD) :: (junk ++ [.lst []])) =
      .nx [some (D.ref n), some (.int (size : Int)), some (.int (many : Int)), some (.int (ans : Int)), some (.int (kind : Int)), some (.int (top : Int)), some (.ref st2l), some (.int (i : Int)), some (.ref (s.length + (junk.length + 1))), v9, none] (s2 ++ .lst (its.map itD) :: (junk ++ [.lst (it.map psD)])) ∧ Dr n s s2 ∧ LnOk size many ans it := by
  have big : 1000 ≤ bigLine := by decide
  have b2 : 2 ≤ bigLine := by decide
  generalize hloop2 : loop _ _ _ _ _ _ = r2
  obtain ⟨env2, st3, rfl, it, v9, s2, rfl, rfl, dr2', lit, hps⟩ := for_use1 (fun j env st' => ∃ (it : List (List (Nat × Nat))) (v9 : Option D) (s2 : Sto), env = [some (D.ref n), some (.int (size : Int)), some (.int (many : Int)), some (.int (ans : Int)), some (.int (kind : Int)), some (.int (top : Int)), some (.ref st2l), some (.int (i : Int)), some (.ref (s.length + (junk.length + 1))), v9, none] ∧ st' = s2 ++ .lst (its.map itD) :: (junk ++ [.lst (it.map psD)]) ∧ Dr n s s2 ∧ it.length = j ∧
      ∀ ps ∈ it, ps.length = ans ∧ ∀ p ∈ ps, 1 ≤ p.1 ∧ p.1 ≤ 99 ∧ p.2 < size)
    hloop2 ⟨[], w9, s, rfl, rfl, Dr.refl hgs, rfl, fun _ h => by cases h⟩ (fun j x env st' hx hI => by
      obtain ⟨it, v9, s2, rfl, rfl, dr2', lit, hps⟩ := hI
      obtain ⟨hj, rfl⟩ := ints_get hx
      have ba : ans ≤ bigLine := by omega
      have es2 := dr2'.len
      have hgs2 : HG n s2 := dr2'.hg hgs
      obtain ⟨ys, st6, elc, dr6, ly, hy⟩ := lc_use (fun st' => Dr n (s2 ++ .lst (its.map itD) :: (junk ++ [.lst (it.map psD)])) st') (fun y => ∃ p : Nat × Nat, y = pD p ∧ (1 ≤ p.1 ∧ p.1 ≤ 99 ∧ p.2 < size))
        (g := gdName 10) (de := dOwn m_law_move 5 (dCons (dVar 0) (dCons (dVar 4) (dCons (dVar 1) (dCons (dVar 5) (dCons (dTup (dCons (dVar 7) (dCons (dVar 9) dNil))) dNil)))))) (env := [some (D.ref n), some (.int (size : Int)), some (.int (many : Int)), some (.int (ans : Int)), some (.int (kind : Int)), some (.int (top : Int)), some (.ref st2l), some (.int (i : Int)), some (.ref (s.length + (junk.length + 1))), some (.int (j : Int)), none]) (xs := intsD 0 ans) rfl (Dr.refl hgs2.app3) (fun x hx sa da => by
          obtain ⟨p, sb, e3, d3, hp⟩ := law_move18 (kind := kind) (size := size) (most := top) (here := i) (at' := j) (da.hg hgs2.app3) hs1 (by omega) ht1 ht3 hi (by omega) (by omega)
          exact ⟨_, pD p, sb, rfl, by simpa [b2] using e3, da.trans d3, p, rfl, hp⟩)
      obtain ⟨ps, rfl, hp⟩ := list_of ys hy
      obtain ⟨s7, dr7, rfl⟩ := dr6.ofApp3 hgs2.lt
      rw [List.length_map, intsD_length] at ly
      have es7 : s7.length = s.length := by rw [dr7.len, es2]
      have hat : ∀ s', s'.length = s.length → (s' ++ O.lst (its.map itD) :: (junk ++ [.lst (it.map psD)]))[s.length + (junk.length + 1)]? = some (.lst (it.map psD)) := fun s' h => by
        rw [← h]; simp
      have hset : (s7 ++ O.lst (its.map itD) :: (junk ++ [.lst (it.map psD)])).set (s.length + (junk.length + 1)) (.lst ((it ++ [ps]).map psD)) = s7 ++ O.lst (its.map itD) :: (junk ++ [.lst ((it ++ [ps]).map psD)]) := by
        rw [← es7]; simp
      have hbl : (it.map psD).length ≤ bigLine := by rw [List.length_map]; omega
      have hap := fAppend_at (y := psD ps) (hat s7 es7) hbl
      have hmm : it.map psD ++ [psD ps] = (it ++ [ps]).map psD := by simp
      rw [hmm, hset] at hap
      have il := isLst_at (hat s2 es2)
      have this : D.tup (ps.map pD) = psD ps := rfl
      refine ⟨_, rfl, [some (D.ref n), some (.int (size : Int)), some (.int (many : Int)), some (.int (ans : Int)), some (.int (kind : Int)), some (.int (top : Int)), some (.ref st2l), some (.int (i : Int)), some (.ref (s.length + (junk.length + 1))), some (.int (j : Int)), none], s7 ++ .lst (its.map itD) :: (junk ++ [.lst ((it ++ [ps]).map psD)]), ?_, it ++ [ps], _, s7, rfl, rfl, dr2'.trans dr7, by simp [lit], ?_⟩
      · have rg := rgR_ok (st := s2 ++ .lst (its.map itD) :: (junk ++ [.lst (it.map psD)])) (j := (ans : Int)) (n := ans) rfl (by omega)
        unfold dMvIn
        simp only [List.map_append, List.map_cons, List.map_nil] at hap ⊢
        simp [il, rg, intsD_length, ba, wipe_set, elc, this, hap]
      · intro q hq
        rcases List.mem_append.mp hq with z | z
        · exact hps q z
        · rw [List.mem_singleton.mp z]
          exact ⟨ly, hp⟩)
  rw [intsD_length] at lit
  exact ⟨it, v9, s2, rfl, dr2', lit, hps⟩
theorem moves18_ok {n size many ans : Nat} {st : Sto} (hg : HG n st) (hl : NL st) (hr : NoRef st) (hs1 : 1 ≤ size) (hs : size ≤ 4) (hm1 : 1 ≤ many) (hm : many ≤ 4) (ha3 : ans ≤ 3) :
    ∃ (its : List (List (List (Nat × Nat)))) (st' : Sto), m_law_moves [.ref n, .int (size : Int), .int (many : Int), .int (ans : Int)] st = .ok (mvD its) st' ∧ HG n st' ∧ NL st' ∧ NoRef st' ∧ its.length = size ∧
      ∀ it ∈ its, LnOk size many ans it := by
  obtain ⟨kind, st1, hk, e1, dr1⟩ := draw (many := 8) hg (by omega) (by omega)
  obtain ⟨t, st2, ht, e2, dr2⟩ := draw (many := 4) (dr1.hg hg) (by omega) (by omega)
  have dr0 := dr1.trans dr2
  have big : 1000 ≤ bigLine := by decide
  have b4 : 4 ≤ bigLine := by decide
  have b2 : 2 ≤ bigLine := by decide
  obtain ⟨top, et, ht1, ht3⟩ : ∃ top : Nat, ([D.int 1, D.int 2, D.int 9, D.int 99] : List D)[t]? = some (.int (top : Int)) ∧ 1 ≤ top ∧ top ≤ 99 := by
    have : t < 4 := by omega
    match t, this with
    | 0, _ => exact ⟨1, rfl, by omega, by omega⟩
    | 1, _ => exact ⟨2, rfl, by omega, by omega⟩
    | 2, _ => exact ⟨9, rfl, by omega, by omega⟩
    | 3, _ => exact ⟨99, rfl, by omega, by omega⟩
  suffices hq : ∃ (its : List (List (List (Nat × Nat)))) (w7 w8 w9 : Option D) (s junk : Sto), loop (gdName 7) (dSeq (dSet 8 (dNew (dLst dNil))) (dSeq (dFor (dRange1 (dCons (dVar 2) dNil)) (gdName 9) dMvIn) (dExpr (dMeth isLst fAppend (dVar 6) (dCons (dCall fTuple (dCons (dVar 8) dNil)) dNil))))) yes (intsD 0 size) [some (D.ref n), some (.int (size : Int)), some (.int (many : Int)), some (.int (ans : Int)), some (.int (kind : Int)), some (.int (top : Int)), some (.ref st2.length), none, none, none, none] (st2 ++ [.lst []]) =
      .nx [some (D.ref n), some (.int (size : Int)), some (.int (many : Int)), some (.int (ans : Int)), some (.int (kind : Int)), some (.int (top : Int)), some (.ref st2.length), w7, w8, w9, none] (s ++ .lst (its.map itD) :: junk) ∧ Dr n st2 s ∧ NL junk ∧ NoRef junk ∧ its.length = size ∧ ∀ it ∈ its, LnOk size many ans it by
    obtain ⟨its, w7, w8, w9, s, junk, el, dr, nj, rj, li, hit⟩ := hq
    have es := dr.len
    have hat6 : (s ++ O.lst (its.map itD) :: junk)[st2.length]? = some (.lst (its.map itD)) := by rw [← es]; simp
    have hft := fTuple_ref hat6
    have dd := dr0.trans dr
    refine ⟨its, s ++ O.lst (its.map itD) :: junk, ?_, (dd.hg hg).app3, ?_, ?_, li, hit⟩
    · have rg := rgR_ok (st := st2 ++ [O.lst []]) (j := (size : Int)) (n := size) rfl (by omega)
      unfold dMvIn at el
      rw [m_law_moves_e]
      simp [mOf_e, d_law_moves, e1, e2, et, b4, rg, el, hft, mvD]
    · refine NL.app2 (hl.dr dd) ?_
      show List.all (.lst (its.map itD) :: junk) noLamO = true
      rw [List.all_cons, show List.all junk noLamO = true from nj, Bool.and_true]
      show noLams (its.map itD) = true
      exact noLams_map (fun it => by show noLams (it.map psD) = true; exact noLams_map (fun ps => by show noLams (ps.map pD) = true; exact noLams_map (fun p => rfl) ps) it) its
    · intro o ho
      rcases List.mem_append.mp ho with z | z
      · exact (hr.dr dd) o z
      · rcases List.mem_cons.mp z with z | z
        · rw [z]; exact noRef_its its
        · exact rj o z
  generalize hloop : loop _ _ _ _ _ _ = r
  obtain ⟨env', st', rfl, ⟨its, w7, w8, w9, s, junk, rfl, rfl, dr, nj, rj, li, hit⟩⟩ := for_use1 (fun i env st' => MvI size many ans n 0 i st2 (.int (kind : Int)) (.int (top : Int)) env st')
    hloop ⟨[], none, none, none, st2, [], rfl, rfl, Dr.refl (dr0.hg hg), rfl, (fun _ h => by cases h), rfl, fun _ h => by cases h⟩ (fun i x env st' hx hI => by
      obtain ⟨its, w7, w8, w9, s, junk, rfl, rfl, dr, nj, rj, li, hit⟩ := hI
      obtain ⟨hi, rfl⟩ := ints_get hx
      have es := dr.len
      have hgs : HG n s := dr.hg (dr0.hg hg)
      obtain ⟨it, v9, s2, el, dr2', hok⟩ := mvIn_ok (many := many) (ans := ans) (kind := kind) (top := top) (st2l := st2.length) (junk := junk) (its := its) (w9 := w9) hgs hs1 hs hm ha3 ht1 ht3 hi
      have es2 := dr2'.len
      have hat : (s2 ++ O.lst (its.map itD) :: (junk ++ [.lst (it.map psD)]))[s.length + (junk.length + 1)]? = some (.lst (it.map psD)) := by
        rw [← es2]; simp
      have hat6 : (s2 ++ O.lst (its.map itD) :: (junk ++ [.lst (it.map psD)]))[st2.length]? = some (.lst (its.map itD)) := by
        rw [← es, ← es2]; simp
      have hbl : (its.map itD).length ≤ bigLine := by rw [List.length_map]; omega
      have hap := fAppend_at (y := itD it) hat6 hbl
      have hset : (s2 ++ O.lst (its.map itD) :: (junk ++ [.lst (it.map psD)])).set st2.length (.lst (its.map itD ++ [itD it])) = s2 ++ O.lst ((its ++ [it]).map itD) :: (junk ++ [.lst (it.map psD)]) := by
        rw [← es, ← es2]; simp
      rw [hset] at hap
      have hft := fTuple_ref hat
      have this : D.tup (it.map psD) = itD it := rfl
      have rg := rgR_ok (st := s ++ O.lst (its.map itD) :: (junk ++ [.lst []])) (j := (many : Int)) (n := many) rfl (by omega)
      refine ⟨_, rfl, [some (D.ref n), some (.int (size : Int)), some (.int (many : Int)), some (.int (ans : Int)), some (.int (kind : Int)), some (.int (top : Int)), some (.ref st2.length), some (.int (i : Int)), some (.ref (s.length + (junk.length + 1))), v9, none], s2 ++ O.lst ((its ++ [it]).map itD) :: (junk ++ [.lst (it.map psD)]), ?_, ⟨its ++ [it], _, _, _, s2, junk ++ [.lst (it.map psD)], rfl, rfl, dr.trans dr2', ?_, ?_, by simp [li], ?_⟩⟩
      · simp only [List.map_append, List.map_cons, List.map_nil] at hap ⊢
        simp [rg, el, isLst_at hat6, hft, this, hap]
      · exact NL.app nj (by show noLams (it.map psD) = true; exact noLams_map (fun ps => by show noLams (ps.map pD) = true; exact noLams_map (fun p => rfl) ps) it)
      · refine rj.app fun k => ?_
        show belows k (it.map psD) = true
        refine belows_map (fun ps => ?_) it
        show belows k (ps.map pD) = true
        exact belows_map (fun p => rfl) ps
      · intro z hz
        rcases List.mem_append.mp hz with q | q
        · exact hit z q
        · rw [List.mem_singleton.mp q]; exact hok)
  rw [intsD_length] at li
  exact ⟨its, w7, w8, w9, s, junk, rfl, dr, nj, rj, li, hit⟩
end DD

set_option maxHeartbeats 400000
namespace DD
open PySem L2 PyProof.Rows
variable [NMs]
/-! rows: the program's judge -/
instance decRows (cs : List Nat) : Decidable (RowsOk cs) := by unfold RowsOk; infer_instance
noncomputable def dLetters : DS := (dSeq (dIfS (dOr (dNot (dTru (dOwn m_is_code 2 (dCons (dVar 0) (dCons (dVar 1) dNil))))) (dTst (dBin (fEq false) (dVar 0) (dC (.str (tx [])))))) (dRet (dC (.bl false))) dNext)
    (dRet (dCall fAll (dCons (dFz (dLc (dRange1 (dCons (dBin fSub (dCall fLen (dCons (dVar 0) dNil)) (dC (.int 1))) dNil)) (gdName 2) dYes (dBin fLtS (dBin fIx (dVar 0) (dVar 2)) (dBin fIx (dVar 0) (dBin fAdd (dVar 2) (dC (.int 1))))) [2])) dNil))))
theorem d_is_letters_e : d_is_letters = dLetters := by unfold d_is_letters dLetters; rw [tx_nil]
noncomputable def dIsRows : DS := (dRet (dAndV (dOwn m_is_letters 2 (dCons (dVar 0) (dCons (dC (.str (tx (List.range' 97 26)))) dNil))) (dBin fLe (dCall fLen (dCons (dVar 0) dNil)) (dC (.int 4)))))
theorem d_is_rows_e : d_is_rows = dIsRows := by unfold d_is_rows dIsRows; rw [tx_letters]
def ascL (ch : List Nat) : Bool := (List.range (ch.length - 1)).all fun i => decide (ch.getD i 0 < ch.getD (i + 1) 0)
theorem ascL_iff (ch : List Nat) : ascL ch = true ↔ ch.Pairwise (· < ·) := by
  unfold ascL
  rw [List.all_eq_true]
  constructor
  · intro h
    have step : ∀ i, (hi : i + 1 < ch.length) → ch[i] < ch[i + 1] := fun i hi => by
      have := of_decide_eq_true (h i (List.mem_range.mpr (by omega)))
      rwa [List.getD_eq_getElem?_getD, List.getD_eq_getElem?_getD, List.getElem?_eq_getElem hi, List.getElem?_eq_getElem (by omega)] at this
    have far : ∀ k i, (hi : i + 1 + k < ch.length) → ch[i] < ch[i + 1 + k] := fun k => by
      induction k with
      | zero => exact fun i hi => step i hi
      | succ k ih => exact fun i hi => Nat.lt_trans (ih i (by omega)) (step (i + 1 + k) hi)
    refine List.pairwise_iff_getElem.mpr fun i j hi hj hij => ?_
    have := far (j - i - 1) i (by omega)
    have e : i + 1 + (j - i - 1) = j := by omega
    simpa only [e] using this
  · intro h i hi
    have hi := List.mem_range.mp hi
    refine decide_eq_true ?_
    rw [List.getD_eq_getElem?_getD, List.getD_eq_getElem?_getD, List.getElem?_eq_getElem (show i + 1 < ch.length by omega), List.getElem?_eq_getElem (show i < ch.length by omega)]
    exact List.pairwise_iff_getElem.mp h i (i + 1) (by omega) (by omega) (by omega)
section
variable {st : Sto}
theorem is_letters_gen {ch : List Nat} (hl : ch.length ≤ 1000) (ho : ∀ c ∈ ch, c < 0x110000) : m_is_letters [.str (tx ch), .str (tx (List.range' 97 26))] st = .ok (.bl ((ch.all fun c => decide (c ∈ List.range' 97 26)) && (!decide (ch = []) && ascL ch))) st := by
  have hb : (tx ch).length ≤ bigLine := big_of hl
  have e1 := is_code_gen (st := st) (ch := ch) (T := List.range' 97 26) hb
  have e2 : fEq false (.str (tx ch)) (.str (tx [])) st = .ok (.bl (decide (ch = []))) st := by
    rw [fEq_str (strOk_tx ho) (strOk_tx fun _ h => by cases h)]
    simp [tx_inj]
  rw [m_is_letters_e, d_is_letters_e]
  cases hA : (ch.all fun c => decide (c ∈ List.range' 97 26)) with
  | false => rw [hA] at e1; simp [mOf_e, dLetters, e1]
  | true =>
  rw [hA] at e1
  by_cases h0 : ch = []
  · subst h0
    simp [mOf_e, dLetters, e1, e2]
  have h0' : 0 < ch.length := List.length_pos_iff.mpr h0
  simp [mOf_e, dLetters, e1, e2, fLen_str hb, h0]
  rw [rgR_ok (n := ch.length - 1) (by omega) (by omega)]
  have hb2 : ch.length - 1 ≤ bigLine := Nat.le_trans (Nat.sub_le _ _) hb
  simp [intsD_length, hb2]
  generalize hloop : lcLoop _ _ _ _ _ _ _ = r
  have := lcm_use (fun x => .bl (match x with | .int i => decide (ch.getD i.toNat 0 < ch.getD (i.toNat + 1) 0) | _ => false)) hloop (fun x hx => by
    obtain ⟨i, hi, rfl⟩ := intsD_mem hx
    have i1 : i < ch.length := by omega
    have i2 : i + 1 < ch.length := by omega
    have f1 : fIx (.str (tx ch)) (.int (i : Int)) st = .ok (.str (tx [ch[i]])) st := fIx_str hb (by rw [tx_list]; exact List.getElem?_eq_getElem i1)
    have f2 : fIx (.str (tx ch)) (.int ((i : Int) + 1)) st = .ok (.str (tx [ch[i + 1]])) st := by
      rw [show (i : Int) + 1 = ((i + 1 : Nat) : Int) by omega]
      exact fIx_str hb (by rw [tx_list]; exact List.getElem?_eq_getElem i2)
    have g1 : ch.getD i 0 = ch[i] := by rw [List.getD_eq_getElem?_getD, List.getElem?_eq_getElem i1]; rfl
    have g2 : ch.getD (i + 1) 0 = ch[i + 1] := by rw [List.getD_eq_getElem?_getD, List.getElem?_eq_getElem i2]; rfl
    refine ⟨_, rfl, ?_⟩
    simp only [Int.toNat_natCast, g1, g2]
    simp [wipe_set, f1, f2]
    refine decide_eq_decide.mpr ?_
    rw [List.cons_lt_cons_iff]
    simp)
  subst this
  simp only [Res.bind_ok, fAll_map, Res.bindS_ok, fin_rt, ascL, intsD, List.all_map]
  congr 4
  funext i
  simp
theorem rows_iff {ch : List Nat} : ((((ch.all fun c => decide (c ∈ List.range' 97 26)) && (!decide (ch = []) && ascL ch))) && decide (ch.length ≤ 4)) = decide (RowsOk ch) := by
  rw [Bool.eq_iff_iff]
  constructor
  · intro h
    refine decide_eq_true ?_
    simp only [Bool.and_eq_true, decide_eq_true_eq, List.all_eq_true, Bool.not_eq_true', decide_eq_false_iff_not, ascL_iff] at h
    obtain ⟨⟨h1, h2, h3⟩, h4⟩ := h
    refine ⟨h3, fun c hc => ?_, List.length_pos_iff.mpr h2, h4⟩
    have := List.mem_range'_1.mp (h1 c hc)
    omega
  · intro h
    obtain ⟨h1, h2, h3, h4⟩ := of_decide_eq_true h
    simp only [Bool.and_eq_true, decide_eq_true_eq, List.all_eq_true, Bool.not_eq_true', decide_eq_false_iff_not, ascL_iff]
    refine ⟨⟨fun c hc => List.mem_range'_1.mpr ?_, List.length_pos_iff.mp h3, h1⟩, h4⟩
    have := h2 c hc
    omega
def rowsD : D → Bool
  | .str z => decide (RowsOk z.cps.toList)
  | _ => false
theorem is_rows_gen {d : D} (h : Val d = true) (ht : ∀ z, d = .str z → TxOk z) : m_is_rows [d] st = .ok (.bl (rowsD d)) st := by
  rw [m_is_rows_e, d_is_rows_e]
  by_cases hs : isStrD d = true
  · cases d <;> first | (cases hs; done) | skip
    rename_i z
    obtain ⟨h1, h2⟩ := ht z rfl
    rw [tx_eta z]
    rw [tx_eta z] at h1
    generalize z.cps.toList = ch at h1 h2
    have h1 : ch.length ≤ 1000 := h1
    have hb : (tx ch).length ≤ bigLine := big_of h1
    have e := is_letters_gen (st := st) h1 h2
    obtain ⟨b, hb'⟩ : ∃ b, b = ((ch.all fun c => decide (c ∈ List.range' 97 26)) && (!decide (ch = []) && ascL ch)) := ⟨_, rfl⟩
    have key : rowsD (.str (tx ch)) = (b && decide (ch.length ≤ 4)) := by rw [hb']; exact rows_iff.symm
    rw [← hb'] at e
    rw [key]
    clear key hb'
    cases b with
    | false => simp [mOf_e, dIsRows, e]
    | true =>
      have h4 : decide ((ch.length : Int) ≤ 4) = decide (ch.length ≤ 4) := decide_eq_decide.mpr (by omega)
      simp [mOf_e, dIsRows, e, fLen_str hb, h4]
  · have hs : isStrD d = false := by simpa using hs
    have e := is_code_no (st := st) (z := tx (List.range' 97 26)) h hs
    have e2 : m_is_letters [d, .str (tx (List.range' 97 26))] st = .ok (.bl false) st := by
      rw [m_is_letters_e, d_is_letters_e]; simp [mOf_e, dLetters, e]
    have : rowsD d = false := by cases d <;> first | rfl | (cases hs; done)
    rw [this]
    simp [mOf_e, dIsRows, e2]
end
/-! moves: the program's judge -/
def mvJ (size : Int) : D → Bool
  | .tup [a, b] => numD 1 99 a && numD 0 (size - 1) b
  | _ => false
def mvsJ (rows ans : Int) : D → Bool
  | .tup l => (decide (1 ≤ (l.length : Int)) && decide ((l.length : Int) ≤ 12)) && l.all (tupJ rows (tupJ ans (mvJ l.length)))
  | _ => false
section
variable {st : Sto}
theorem is_answers_gen {d : D} (h : Val d = true) : m_is_answers [d] st = .ok (.bl (numD 1 3 d)) st := by
  rw [m_is_answers_e]; simp [mOf_e, d_is_answers, is_between_gen h]
theorem is_move_gen {d : D} {size : Int} (h : TT 1 d) : m_is_move [d, .int size] st = .ok (.bl (mvJ size d)) st := by
  have e := is_tuple_gen (st := st) (k := 2) h.val
  rw [m_is_move_e]
  by_cases hs : isTupD d = true
  · cases d <;> first | (cases hs; done) | skip
    rename_i l
    match l, h with
    | [], h => simp [mOf_e, d_is_move, e, tupJ, mvJ]
    | [a], h => simp [mOf_e, d_is_move, e, tupJ, mvJ]
    | [a, b], h =>
      have ha := (h.tup).2 a (by simp)
      have hb := (h.tup).2 b (by simp)
      have e1 := is_between_gen (st := st) (lo := 1) (hi := 99) (d := a) ha
      have e2 := is_between_gen (st := st) (lo := 0) (hi := size - 1) (d := b) hb
      simp [mOf_e, d_is_move, e, tupJ, mvJ, e1, e2]
      cases numD 1 99 a <;> simp
    | a :: b :: c :: r, h =>
      have : ¬ ((r.length : Int) + 1 + 1 + 1 = 2) := by omega
      simp [mOf_e, d_is_move, e, tupJ, mvJ, this]
  · have : tupJ 2 (fun _ => true) d = false := by cases d <;> first | rfl | (exact absurd rfl hs)
    have h2 : mvJ size d = false := by cases d <;> first | rfl | (exact absurd rfl hs)
    rw [this] at e
    simp [mOf_e, d_is_move, e, h2]
theorem are_pairs_gen {d : D} {ans size : Int} (h : TT 2 d) : m_are_pairs [d, .int ans, .int size] st = .ok (.bl (tupJ ans (mvJ size) d)) st := by
  have e := is_tuple_gen (st := st) (k := ans) h.val
  rw [m_are_pairs_e]
  by_cases hs : isTupD d = true
  · cases d <;> first | (cases hs; done) | skip
    rename_i l
    obtain ⟨hl, hx⟩ := h.tup
    by_cases hn : (l.length : Int) = ans
    · have hb : l.length ≤ bigLine := big_of hl
      simp [mOf_e, d_are_pairs, e, tupJ, hn, hb]
      generalize hloop : lcLoop _ _ _ _ _ _ _ = r
      have := lcm_use (fun x => .bl (mvJ size x)) hloop (fun x hm => ⟨_, rfl, by simp [wipe_set, is_move_gen (hx x hm)]⟩)
      subst this
      simp [fAll_map]
    · simp [mOf_e, d_are_pairs, e, tupJ, hn]
  · have : ∀ J, tupJ ans J d = false := fun J => by cases d <;> first | rfl | (exact absurd rfl hs)
    rw [this] at e
    simp [mOf_e, d_are_pairs, e, this]
theorem is_item_gen {d : D} {rows ans size : Int} (h : TT 3 d) : m_is_item [d, .int rows, .int ans, .int size] st = .ok (.bl (tupJ rows (tupJ ans (mvJ size)) d)) st := by
  have e := is_tuple_gen (st := st) (k := rows) h.val
  rw [m_is_item_e]
  by_cases hs : isTupD d = true
  · cases d <;> first | (cases hs; done) | skip
    rename_i l
    obtain ⟨hl, hx⟩ := h.tup
    by_cases hn : (l.length : Int) = rows
    · have hb : l.length ≤ bigLine := big_of hl
      simp [mOf_e, d_is_item, e, tupJ, hn, hb]
      generalize hloop : lcLoop _ _ _ _ _ _ _ = r
      have := lcm_use (fun x => .bl (tupJ ans (mvJ size) x)) hloop (fun x hm => ⟨_, rfl, by simp [wipe_set, are_pairs_gen (hx x hm)]⟩)
      subst this
      simp [fAll_map]
    · simp [mOf_e, d_is_item, e, tupJ, hn]
  · have : ∀ J, tupJ rows J d = false := fun J => by cases d <;> first | rfl | (exact absurd rfl hs)
    rw [this] at e
    simp [mOf_e, d_is_item, e, this]
theorem are_moves_gen {d : D} {cs : List Nat} {ans : Int} (h : TT 4 d) (hc : cs.length ≤ 1000) : m_are_moves [d, .str (tx cs), .int ans] st = .ok (.bl (mvsJ cs.length ans d)) st := by
  have hb1 : (tx cs).length ≤ bigLine := big_of hc
  rw [m_are_moves_e]
  by_cases hs : isTupD d = true
  · cases d <;> first | (cases hs; done) | skip
    rename_i l
    obtain ⟨hl, hx⟩ := h.tup
    have hb : l.length ≤ bigLine := big_of hl
    by_cases hn : (1 ≤ (l.length : Int)) ∧ (l.length : Int) ≤ 12
    · have f2 : decide (1 ≤ l.length) = true := decide_eq_true (by omega)
      have f3 : decide (l.length ≤ 12) = true := decide_eq_true (by omega)
      simp [mOf_e, d_are_moves, mvsJ, hn.1, hn.2, hb, fLen_str hb1]
      generalize hloop : lcLoop _ _ _ _ _ _ _ = r
      have := lcm_use (fun x => .bl (tupJ cs.length (tupJ ans (mvJ l.length)) x)) hloop (fun x hm => ⟨_, rfl, by simp [wipe_set, fLen_str hb1, is_item_gen (hx x hm)]⟩)
      subst this
      simp [fAll_map]
    · by_cases h1 : 1 ≤ (l.length : Int)
      · have h2 : ¬ (l.length : Int) ≤ 12 := fun z => hn ⟨h1, z⟩
        simp [mOf_e, d_are_moves, mvsJ, h1, h2]
      · simp [mOf_e, d_are_moves, mvsJ, h1]
  · have : mvsJ cs.length ans d = false := by cases d <;> first | rfl | (exact absurd rfl hs)
    rw [this]
    have hs : isTupD d = false := by simpa using hs
    simp [mOf_e, d_are_moves, fIsi_tuple h.val, hs]
end
theorem is_rows_ok {cs : List Nat} {st : Sto} (hc : RowsOk cs) : m_is_rows [.str (tx cs)] st = .ok (.bl true) st := by
  rw [is_rows_gen rfl (fun z hz => by
    cases hz
    refine ⟨by have := hc.2.2.2; show cs.length ≤ 1000; omega, fun c h => ?_⟩
    have := hc.2.1 c h
    omega)]
  have : rowsD (.str (tx cs)) = true := decide_eq_true hc
  rw [this]
/-! ### right machines are made -/
section
variable {st : Sto} {w : Mach}
theorem tt_pd (p : Nat × Nat) : TT 1 (pD p) := TT.mk (by show 2 ≤ 1000; omega) fun x hx => by
  simp only [List.mem_cons, List.not_mem_nil, or_false] at hx
  rcases hx with rfl | rfl <;> rfl
theorem tt_mv (h : MachOk w) : TT 4 (mvD w.mv) := by
  refine TT.mk (by rw [List.length_map]; have := h.mv12; omega) fun x hx => ?_
  obtain ⟨it, hi, rfl⟩ := List.mem_map.mp hx
  obtain ⟨q1, q2⟩ := h.it it hi
  refine TT.mk (by rw [List.length_map, q1]; have := h.rows.2.2.2; omega) fun x hx => ?_
  obtain ⟨ps, hp, rfl⟩ := List.mem_map.mp hx
  refine TT.mk (by rw [List.length_map, (q2 ps hp).1]; have := h.ans3; omega) fun x hx => ?_
  obtain ⟨p, _, rfl⟩ := List.mem_map.mp hx
  exact tt_pd p
theorem mvs_ok (h : MachOk w) : mvsJ (w.rows.length : Int) (w.ans : Int) (mvD w.mv) = true := by
  have h1 := h.mv1
  have h2 := h.mv12
  show ((decide (1 ≤ ((w.mv.map itD).length : Int)) && decide (((w.mv.map itD).length : Int) ≤ 12)) && (w.mv.map itD).all _) = true
  rw [List.length_map, Bool.and_eq_true, Bool.and_eq_true, List.all_eq_true]
  refine ⟨⟨decide_eq_true (by omega), decide_eq_true (by omega)⟩, fun x hx => ?_⟩
  obtain ⟨it, hi, rfl⟩ := List.mem_map.mp hx
  obtain ⟨q1, q2⟩ := h.it it hi
  show (decide (((it.map psD).length : Int) = _) && (it.map psD).all _) = true
  rw [List.length_map, Bool.and_eq_true, List.all_eq_true]
  refine ⟨decide_eq_true (by rw [q1]), fun x hx => ?_⟩
  obtain ⟨ps, hp, rfl⟩ := List.mem_map.mp hx
  obtain ⟨q3, q4⟩ := q2 ps hp
  show (decide (((ps.map pD).length : Int) = _) && (ps.map pD).all _) = true
  rw [List.length_map, Bool.and_eq_true, List.all_eq_true]
  refine ⟨decide_eq_true (by rw [q3]), fun x hx => ?_⟩
  obtain ⟨p, hp, rfl⟩ := List.mem_map.mp hx
  have := q4 p hp
  show (numD 1 99 (.int (p.1 : Int)) && numD 0 ((w.mv.length : Int) - 1) (.int (p.2 : Int))) = true
  simp only [numD, Bool.and_eq_true, decide_eq_true_eq]
  omega
theorem make_ok (h : MachOk w) (hr : NoRef st) : mkR "Machine" m_Machine_init 4 [.str (tx w.rows), .int (w.ans : Int), mvD w.mv] st = .ok (machO w) st := by
  refine mkR_ok ?_ rfl belows_mach hr
  obtain ⟨n1, n2, n3, n4, n5, n6⟩ := s_ne
  have e0 : ∀ st, fLen [mvD w.mv] st = .ok (.int (w.mv.length : Int)) st := fun st => by simp [mvD]
  have c1 : (Str.ofString "Machine" : Str) ∈ fldC_rows := List.mem_cons_self
  have c2 : (Str.ofString "Machine" : Str) ∈ fldC_answers := List.mem_cons_self
  have c3 : (Str.ofString "Machine" : Str) ∈ fldC_moves := List.mem_cons_self
  have c4 : (Str.ofString "Machine" : Str) ∈ fldC_size := List.mem_cons_self
  have a1 : 1 ≤ w.ans := h.ans1
  have a3 : w.ans ≤ 3 := h.ans3
  have e1 : ∀ s, m_is_rows [.str (tx w.rows)] s = .ok (.bl true) s := fun s => is_rows_ok h.rows
  have e2 : ∀ s, m_is_answers [.int (w.ans : Int)] s = .ok (.bl true) s := fun s => by
    rw [is_answers_gen rfl]
    have : numD 1 3 (.int (w.ans : Int)) = true := by simp only [numD, Bool.and_eq_true, decide_eq_true_eq]; omega
    rw [this]
  have e3 : ∀ s, m_are_moves [mvD w.mv, .str (tx w.rows), .int (w.ans : Int)] s = .ok (.bl true) s := fun s => by
    rw [are_moves_gen (tt_mv h) (by have := h.rows.2.2.2; omega), mvs_ok h]
  rw [m_Machine_init_e]
  simp [mOf_e, d_Machine_init, e1, e2, e3, dSetFld_e, setFR_app c1, setFR_app c2, setFR_app c3, setFR_app c4, putD, n1, n2, n3, n4, n5, n6, e0]
end
/-! ### a drawn machine -/
section
variable {w : Mach}
def drawnD (w : Mach) : D := .fz [.str (tx w.rows), .int (w.ans : Int), mvD w.mv]
theorem noRef_signs (l : List Nat) : NoRefO (.lst (l.map sgD)) := fun k => belows_map (fun _ => rfl) l
theorem nl_signs (l : List Nat) : noLamO (.lst (l.map sgD)) = true := noLams_map (fun _ => rfl) l
theorem machine18_ok {n : Nat} {st : Sto} (hg : HG n st) (hl : NL st) (hr : NoRef st) :
    ∃ (w : Mach) (st' : Sto), m_law_machine [.ref n] st = .ok (drawnD w) st' ∧ HG n st' ∧ NL st' ∧ NoRef st' ∧ MachOk w ∧ w.rows.length ≤ 3 ∧ w.mv.length ≤ 4 := by
  have b3 : 3 ≤ bigLine := by decide
  have b4 : 4 ≤ bigLine := by decide
  obtain ⟨a, st1, ha, e1, dr1⟩ := draw (many := 4) hg (by omega) (by omega)
  obtain ⟨many, em, hm1, hm3⟩ : ∃ many : Nat, ([D.int 1, D.int 2, D.int 2, D.int 3] : List D)[a]? = some (.int (many : Int)) ∧ 1 ≤ many ∧ many ≤ 3 := by
    have : a < 4 := by omega
    match a, this with
    | 0, _ => exact ⟨1, rfl, by omega, by omega⟩
    | 1, _ => exact ⟨2, rfl, by omega, by omega⟩
    | 2, _ => exact ⟨2, rfl, by omega, by omega⟩
    | 3, _ => exact ⟨3, rfl, by omega, by omega⟩
  obtain ⟨cs, s2, la, lb, e2, dr2, rok, lcs⟩ := rows18_ok (many := many) (dr1.hg hg) hm1 (by omega)
  have dd := dr1.trans dr2
  have hg2 : HG n (s2 ++ [O.lst (la.map sgD), .lst (lb.map sgD)]) := (dd.hg hg).app3
  have hl2 : NL (s2 ++ [O.lst (la.map sgD), .lst (lb.map sgD)]) := NL.app2 (hl.dr dd) (by
    show List.all [O.lst (la.map sgD), .lst (lb.map sgD)] noLamO = true
    simp [nl_signs])
  have hr2 : NoRef (s2 ++ [O.lst (la.map sgD), .lst (lb.map sgD)]) := by
    have : s2 ++ [O.lst (la.map sgD), .lst (lb.map sgD)] = (s2 ++ [O.lst (la.map sgD)]) ++ [.lst (lb.map sgD)] := by simp
    rw [this]
    exact ((hr.dr dd).app (noRef_signs la)).app (noRef_signs lb)
  obtain ⟨b, st3, hb, e3, dr3⟩ := draw (many := 4) hg2 (by omega) (by omega)
  obtain ⟨ans, ea, ha1, ha3⟩ : ∃ ans : Nat, ([D.int 1, D.int 1, D.int 2, D.int 3] : List D)[b]? = some (.int (ans : Int)) ∧ 1 ≤ ans ∧ ans ≤ 3 := by
    have : b < 4 := by omega
    match b, this with
    | 0, _ => exact ⟨1, rfl, by omega, by omega⟩
    | 1, _ => exact ⟨1, rfl, by omega, by omega⟩
    | 2, _ => exact ⟨2, rfl, by omega, by omega⟩
    | 3, _ => exact ⟨3, rfl, by omega, by omega⟩
  obtain ⟨c, st4, hc, e4, dr4⟩ := draw (many := 4) (dr3.hg hg2) (by omega) (by omega)
  have d4 := dr3.trans dr4
  obtain ⟨its, st5, e5, hg5, hl5, hr5, li, hit⟩ := moves18_ok (size := 1 + c) (many := cs.length) (ans := ans) (d4.hg hg2) (hl2.dr d4) (hr2.dr d4) (by omega) (by omega) (by omega) (by omega) ha3
  have hcl : (tx cs).length ≤ bigLine := Nat.le_trans (show cs.length ≤ 4 by omega) b4
  rw [show (((1 + c : Nat)) : Int) = 1 + (c : Int) by omega] at e5
  refine ⟨⟨cs, ans, its⟩, st5, ?_, hg5, hl5, hr5, ⟨rok, ha1, ha3, by show 1 ≤ its.length; omega, by show its.length ≤ 12; omega, fun it h => ?_⟩, by show cs.length ≤ 3; omega, by show its.length ≤ 4; omega⟩
  · rw [m_law_machine_e]
    simp [mOf_e, d_law_machine, e1, em, b4, b3, e2, e3, ea, e4, fLen_str hcl, e5, drawnD]
  · obtain ⟨q1, q2⟩ := hit it h
    exact ⟨q1, fun ps hps => ⟨(q2 ps hps).1, fun p hp => by
      have := (q2 ps hps).2 p hp
      show 1 ≤ p.1 ∧ p.1 ≤ 99 ∧ p.2 < its.length
      omega⟩⟩
theorem law_tail_ok {code : List Nat} {width : Nat} {st : Sto} (hl : code.length ≤ 1000) (h1 : 1 ≤ width) : m_law_tail [.str (tx code), .int (width : Int)] st = .ok (.str (tx (ltl width code))) st := by
  have big : 1001 ≤ bigLine := by decide
  have hb : code.length ≤ bigLine := by omega
  have ln : fLen [.str (tx code)] st = .ok (.int (code.length : Int)) st := fLen_str (x := tx code) hb
  rw [m_law_tail_e]
  unfold ltl
  by_cases h : code.length + 1 < width
  · have h' : (code.length : Int) < (width : Int) - 1 := by omega
    have hb2 : (94 :: code).length ≤ bigLine := by rw [List.length_cons]; omega
    have hb3 : 1 + code.length ≤ bigLine := by omega
    have hb4 : code.length + 1 ≤ bigLine := by omega
    simp [mOf_e, d_law_tail, ln, h, h', tx_hat, hb3, hb4]
  · have h' : ¬ (code.length : Int) < (width : Int) - 1 := by omega
    have es : fSl (.str (tx code)) (some ((code.length + 1 - width : Nat) : Int)) none st = .ok (.str (tx (code.drop (code.length + 1 - width)))) st := fSl_str_from (i := code.length + 1 - width) hb
    rw [show ((code.length + 1 - width : Nat) : Int) = (code.length : Int) - (width : Int) + 1 by omega] at es
    simp [mOf_e, d_law_tail, ln, h, h', es]
end
end DD

set_option maxHeartbeats 400000
namespace DD
open PySem L2 PyProof.Rows
variable [NMs]
/-! ### triples in order -/
def encT (t : Tri) : PyData := .tuple [.str (tx t.1.1), .tuple (t.1.2.map .int), .int (t.2 : Int)]
def dTri (t : Tri) : D := .tup [.str (tx t.1.1), .tup (t.1.2.map .int), .int (t.2 : Int)]
def ltT (a b : Tri) : Prop := ltR a.1 b.1 ∨ (a.1 = b.1 ∧ a.2 < b.2)
instance (a b : Tri) : Decidable (ltT a b) := by unfold ltT; exact inferInstance
theorem alike_int (a b : Int) : PySem.W.alike (.int a) (.int b) = true := by simp [PySem.W.alike]
theorem eqv_int' (a b : Nat) : PyData.eqv (.int (a : Int)) (.int (b : Int)) = decide (a = b) := by
  show ((a : Int) == (b : Int)) = _
  by_cases h : a = b
  · simp [h]
  · have : ¬ (a : Int) = (b : Int) := by omega
    simp [h, this]
theorem dataLt_T (a b : Tri) : PySem.W.dataLt (encT a) (encT b) = decide (ltT a b) := by
  unfold encT
  rw [PySem.W.dataLt_tuple, PySem.W.dataLt_cons (alike_str _ _), PySem.W.dataLt_cons (alike_ti _ _), PySem.W.dataLt_cons (alike_int _ _)]
  have e : PyProof.Rows.lexLt itemOrd (PySem.W.keyToksAll []) (PySem.W.keyToksAll []) = false := PyProof.Rows.lex_irrefl _
  rw [e, eqv_str, eqv_ints, eqv_int', lt_str, lt_ints, PySem.W.dataLt_int]
  have hz : ¬ ((a.2 : Int) < (b.2 : Int)) ↔ ¬ a.2 < b.2 := by omega
  obtain ⟨⟨a1, a2⟩, a3⟩ := a
  obtain ⟨⟨b1, b2⟩, b3⟩ := b
  unfold ltT ltR
  simp only [Prod.mk.injEq]
  by_cases h1 : a1 = b1
  · subst h1
    have n1 : ¬ a1 < a1 := List.lt_irrefl _
    by_cases h2 : a2 = b2
    · subst h2
      have n2 : ¬ a2 < a2 := List.lt_irrefl _
      by_cases h3 : a3 = b3
      · subst h3; simp [n1, n2]
      · simp [n1, n2, h3]
    · simp [n1, h2]
  · simp [h1]
theorem ltT_irrefl (a : Tri) : ¬ ltT a a := fun h => h.elim (fun x => ltR_irrefl _ x) (fun x => Nat.lt_irrefl _ x.2)
theorem ltT_trans {a b c : Tri} (h : ltT a b) (k : ltT b c) : ltT a c := by
  rcases h with h | ⟨h1, h2⟩ <;> rcases k with k | ⟨k1, k2⟩
  · exact .inl (ltR_trans h k)
  · exact .inl (by rw [← k1]; exact h)
  · exact .inl (by rw [h1]; exact k)
  · exact .inr ⟨h1.trans k1, Nat.lt_trans h2 k2⟩
theorem ltT_tri (a b : Tri) : ltT a b ∨ a = b ∨ ltT b a := by
  rcases ltR_tri a.1 b.1 with h | h | h
  · exact .inl (.inl h)
  · rcases (by omega : a.2 < b.2 ∨ a.2 = b.2 ∨ b.2 < a.2) with k | k | k
    · exact .inl (.inr ⟨h, k⟩)
    · exact .inr (.inl (Prod.ext h k))
    · exact .inr (.inr (.inr ⟨h.symm, k⟩))
  · exact .inr (.inr (.inl h))
def srtT (L : List Tri) : List Tri := L.mergeSort (leD encT)
theorem srtT_perm (L : List Tri) : (srtT L).Perm L := List.mergeSort_perm _ _
theorem srtT_sorted (L : List Tri) : (srtT L).Pairwise fun a b => ¬ ltR b.1 a.1 := by
  have tr : ∀ a b c : Tri, leD encT a b = true → leD encT b c = true → leD encT a c = true := fun a b c h k => by
    unfold leD at *
    rw [dataLt_T] at *
    simp only [Bool.not_eq_true', decide_eq_false_iff_not] at *
    intro z
    rcases ltT_tri b c with x | x | x
    · exact h (ltT_trans x z)
    · rw [x] at h; exact h z
    · exact k x
  have to : ∀ a b : Tri, (leD encT a b || leD encT b a) = true := fun a b => by
    unfold leD
    rw [dataLt_T, dataLt_T]
    by_cases h : ltT b a
    · have : ¬ ltT a b := fun z => ltT_irrefl _ (ltT_trans h z)
      simp [this]
    · simp [h]
  refine (List.pairwise_mergeSort tr to L).imp fun h => ?_
  unfold leD at h
  rw [dataLt_T] at h
  intro z
  simp only [Bool.not_eq_true', decide_eq_false_iff_not] at h
  exact h (.inl z)
theorem toPy_T (st : Sto) (t : Tri) : toPy st (dTri t) = some (encT t) := by
  unfold dTri encT
  simp [toPy, toPys, toPys_ints]
theorem toPys_T (st : Sto) : ∀ (L : List Tri), toPys st (L.map dTri) = some (L.map encT)
  | [] => rfl
  | e :: L => by rw [List.map_cons]; simp [toPys, toPy_T, toPys_T st L]
theorem srtOk_T (L : List Tri) : srtOk (L.map encT) = true := by
  have plain : ∀ ns : List Int, plainDs (ns.map .int) = true := fun ns => by
    induction ns with
    | nil => rfl
    | cons n ns ih => rw [List.map_cons]; simp [plainDs, plainD, ih]
  have pR : ∀ r, plainD (encT r) = true := fun r => by unfold encT; simp [plainD, plainDs, plain]
  have al : ∀ a b : Tri, PySem.W.alike (encT a) (encT b) = true := fun a b => by
    show (PySem.W.alike (.str (tx a.1.1)) (.str (tx b.1.1)) && (PySem.W.alike (.tuple (a.1.2.map .int)) (.tuple (b.1.2.map .int)) && (PySem.W.alike (.int (a.2 : Int)) (.int (b.2 : Int)) && PySem.W.alikeAll [] []))) = true
    rw [alike_str, alike_ti, alike_int]
    rfl
  refine srtOk_iff.mpr ⟨fun d hd e he => ?_, .inl fun d hd => ?_, fun d hd => ?_, ?_⟩
  · obtain ⟨x, _, rfl⟩ := List.mem_map.mp hd
    obtain ⟨y, _, rfl⟩ := List.mem_map.mp he
    exact al _ _
  · obtain ⟨x, _, rfl⟩ := List.mem_map.mp hd
    exact ⟨_, _, rfl⟩
  · obtain ⟨x, _, rfl⟩ := List.mem_map.mp hd
    unfold encT
    simp [PyData.depth, PyData.depthAll, depth_ints]
  · induction L with
    | nil => rfl
    | cons x L ih => rw [List.map_cons]; simp [plainDs, pR, ih]
instance : Inhabited Tri := ⟨(([], []), 0)⟩
theorem sortX_T {st : Sto} {x : D} {L : List Tri} (h : lstD x st = some (L.map dTri)) : fSortX [x] st = .ok ((srtT L).map dTri) st := by
  unfold fSortX
  have sm := srtO_map dTri encT L
  simp only [h, toPys_T, srtOk_T, if_true, sm]
  rfl
/-! ### a turn of _law_places, on data -/
section
variable {w : Mach}
theorem exT_len (h : MachOk w) (e : Pl2 × Run) : (exT w e).length ≤ 12 := by
  unfold exT
  rw [List.length_flatMap]
  have : (List.map (fun i => (List.map (fun a => (((e.2.1 ++ [rowC w i], e.2.2 ++ [((a : Nat) : Int)]) : Run), (celW w e.1.1 i a).2)) (List.range w.ans)).length) (List.range w.rows.length)) = (List.range w.rows.length).map fun _ => w.ans := List.map_congr_left fun i _ => by simp
  rw [this, List.map_const', List.sum_replicate_nat, List.length_range]
  have := h.rows.2.2.2
  have := h.ans3
  calc w.rows.length * w.ans ≤ 4 * 3 := Nat.mul_le_mul (by omega) (by omega)
    _ = 12 := rfl
def envP (w : Mach) (width f0 k : Nat) (lay tn c t hh pl ai ansr : Option D) : Env := [some (drawnD w), some (.int (width : Int)), some (.int 400), some (.str (tx w.rows)), some (.int (w.ans : Int)), some (mvD w.mv), some (.ref f0), lay, tn, some (.ref k), c, t, hh, pl, ai, ansr]
theorem lp1 (h : MachOk w) {width f0 : Nat} {lay tn pl y : Option D} {c : List Nat} {ts : List Int} {hh i : Nat} (hp : hh < w.mv.length) (hi : i < w.rows.length) (hc : c.length ≤ 900) (ht : ts.length ≤ 900) {B : Sto} {ds : List D} (hd : ds.length ≤ 100000) :
    ∃ y', d_law_places_1 (envP w width f0 B.length lay tn (some (.str (tx c))) (some (.tup (ts.map .int))) (some (.int (hh : Int))) pl (some (.int (i : Int))) y) (B ++ [.lst ds])
      = .nx (envP w width f0 B.length lay tn (some (.str (tx c))) (some (.tup (ts.map .int))) (some (.int (hh : Int))) pl (some (.int (i : Int))) y') (B ++ [.lst (ds ++ ((List.range w.ans).map fun a => ((((c ++ [rowC w i], ts ++ [((a : Nat) : Int)]) : Run), (celW w hh i a).2) : Tri)).map dTri)]) := by
  have big : 200000 ≤ bigLine := by decide
  have ha := h.ans3
  unfold d_law_places_1 envP
  have rg := rgR_ok (st := B ++ [.lst ds]) (j := (w.ans : Int)) (n := w.ans) rfl (by omega)
  simp [rg]
  generalize hloop : loop _ _ _ _ _ _ = res
  obtain ⟨env', st', rfl, y', rfl, rfl⟩ := for_use1 (fun j env st2 => ∃ y', env = [some (drawnD w), some (.int (width : Int)), some (.int 400), some (.str (tx w.rows)), some (.int (w.ans : Int)), some (mvD w.mv), some (.ref f0), lay, tn, some (.ref B.length), some (.str (tx c)), some (.tup (ts.map .int)), some (.int (hh : Int)), pl, some (.int (i : Int)), y'] ∧ st2 = B ++ [.lst (ds ++ ((List.range j).map fun a => ((((c ++ [rowC w i], ts ++ [((a : Nat) : Int)]) : Run), (celW w hh i a).2) : Tri)).map dTri)])
    hloop ⟨y, rfl, by simp⟩ (fun j x env st2 hx hI => by
      obtain ⟨y', rfl, rfl⟩ := hI
      obtain ⟨hj, rfl⟩ := ints_get hx
      obtain ⟨it, ps, c1, c2, c3, _⟩ := cel_ok h hp hi hj
      obtain ⟨X, hX⟩ : ∃ X, X = ds ++ ((List.range j).map fun a => ((((c ++ [rowC w i], ts ++ [((a : Nat) : Int)]) : Run), (celW w hh i a).2) : Tri)).map dTri := ⟨_, rfl⟩
      have ey : ds ++ ((List.range (j + 1)).map fun a => ((((c ++ [rowC w i], ts ++ [((a : Nat) : Int)]) : Run), (celW w hh i a).2) : Tri)).map dTri = X ++ [dTri ((c ++ [rowC w i], ts ++ [(j : Int)]), (celW w hh i j).2)] := by
        rw [hX, List.range_succ, List.map_append, List.map_append, ← List.append_assoc]; rfl
      rw [ey, ← hX]
      refine ⟨_, rfl, [some (drawnD w), some (.int (width : Int)), some (.int 400), some (.str (tx w.rows)), some (.int (w.ans : Int)), some (mvD w.mv), some (.ref f0), lay, tn, some (.ref B.length), some (.str (tx c)), some (.tup (ts.map .int)), some (.int (hh : Int)), pl, some (.int (i : Int)), some (.int (j : Int))], _, ?_, _, rfl, rfl⟩
      have lX : X.length ≤ bigLine := by rw [hX, List.length_append, List.length_map, List.length_map, List.length_range]; omega
      have il : isLst (.ref B.length) (B ++ [O.lst X]) = true := isLst_at app_get
      have hap : ∀ y, fAppend (.ref B.length) [y] (B ++ [O.lst X]) = .ok .non (B ++ [.lst (X ++ [y])]) := fun y => by rw [fAppend_at app_get lX, app_set]
      have hrl : (tx w.rows).length ≤ bigLine := by have := h.rows.2.2.2; show w.rows.length ≤ bigLine; omega
      have hir : fIx (.str (tx w.rows)) (.int (i : Int)) (B ++ [O.lst X]) = .ok (.str (tx [rowC w i])) (B ++ [O.lst X]) := fIx_str hrl (by rw [tx_list]; unfold rowC; rw [List.getD_eq_getElem?_getD, List.getElem?_eq_getElem hi]; rfl)
      have b1 : 1 ≤ bigLine := by decide
      have b3 : 3 ≤ bigLine := by decide
      have bc : c.length + 1 ≤ bigLine := by omega
      have bt : ts.length + 1 ≤ bigLine := by omega
      simp [il, hir, mvD, itD, psD, pD, c1, c2, c3, b1, b3, bc, bt, hap, dTri])
  rw [intsD_length]
  exact ⟨y', by simp⟩
end
end DD

set_option maxHeartbeats 400000
namespace DD
open PySem L2 PyProof.Rows
variable [NMs]
section
variable {α β : Type} [DecidableEq α] {enc : α → D} {key : α → NestedKey} {dv : β → D}
theorem kin_old (p : PlK enc key) {st : Sto} {n : Nat} {L : List (α × β)} {a : α} (h : IsDk enc dv st n L) (hin : a ∈ L.map (·.1)) : fKIn true (enc a) (.ref n) st = .ok (.bl false) st := by
  have k := kin_of p (neg := true) a h
  rw [lookup_isSome.mpr hin] at k
  exact k
theorem kin_new (p : PlK enc key) {st : Sto} {n : Nat} {L : List (α × β)} {a : α} (h : IsDk enc dv st n L) (hin : a ∉ L.map (·.1)) : fKIn true (enc a) (.ref n) st = .ok (.bl true) st := by
  have k := kin_of p (neg := true) a h
  have z : (L.lookup a).isSome = false := by rw [Bool.eq_false_iff]; exact fun z => hin (lookup_isSome.mp z)
  rw [z] at k
  exact k
theorem setK_new (p : PlK enc key) {st : Sto} {n : Nat} {L : List (α × β)} {env : Env} {a : α} {r : β} (h : IsDk enc dv st n L) (hl : L.length ≤ bigLine) (hin : a ∉ L.map (·.1)) : setKR (.ref n) (enc a) (dv r) env st = .nx env (st.set n (dkD enc dv (L ++ [(a, r)]))) := by
  have s := setK_of p (env := env) a r h hl
  have z : (L.lookup a).isSome = false := by rw [Bool.eq_false_iff]; exact fun z => hin (lookup_isSome.mp z)
  unfold putE at s
  rw [z] at s
  exact s
end
section
variable {w : Mach}
theorem exT_take (h : MachOk w) (e : Pl2 × Run) (i : Nat) (hi : i ≤ w.rows.length) : ((List.range i).flatMap fun i => (List.range w.ans).map fun a => ((((e.2.1 ++ [rowC w i], e.2.2 ++ [((a : Nat) : Int)]) : Run), (celW w e.1.1 i a).2) : Tri)).length ≤ 12 := by
  rw [List.length_flatMap]
  have : (List.map (fun i => (List.map (fun a => ((((e.2.1 ++ [rowC w i], e.2.2 ++ [((a : Nat) : Int)]) : Run), (celW w e.1.1 i a).2) : Tri)) (List.range w.ans)).length) (List.range i)) = (List.range i).map fun _ => w.ans := List.map_congr_left fun i _ => by simp
  rw [this, List.map_const', List.sum_replicate_nat, List.length_range]
  have := h.rows.2.2.2
  have := h.ans3
  calc i * w.ans ≤ 4 * 3 := Nat.mul_le_mul (by omega) (by omega)
    _ = 12 := rfl
theorem lp2 (h : MachOk w) {width f0 : Nat} {lay tn pl x y : Option D} {c : List Nat} {ts : List Int} {hh : Nat} {tl : List Nat} (hp : hh < w.mv.length) (hc : c.length ≤ 900) (ht : ts.length ≤ 900) {B : Sto} {ds : List D} (hd : ds.length ≤ 90000) :
    ∃ x' y', loop (gdName 14) d_law_places_1 yes (intsD 0 w.rows.length) (envP w width f0 B.length lay tn (some (.str (tx c))) (some (.tup (ts.map .int))) (some (.int (hh : Int))) pl x y) (B ++ [.lst ds])
      = .nx (envP w width f0 B.length lay tn (some (.str (tx c))) (some (.tup (ts.map .int))) (some (.int (hh : Int))) pl x' y') (B ++ [.lst (ds ++ (exT w ((hh, tl), (c, ts))).map dTri)]) := by
  generalize hloop : loop _ _ _ _ _ _ = res
  obtain ⟨env', st', rfl, x', y', rfl, rfl⟩ := for_use1 (fun i env st2 => ∃ x' y', env = envP w width f0 B.length lay tn (some (.str (tx c))) (some (.tup (ts.map .int))) (some (.int (hh : Int))) pl x' y' ∧ st2 = B ++ [.lst (ds ++ ((List.range i).flatMap fun i => (List.range w.ans).map fun a => ((((c ++ [rowC w i], ts ++ [((a : Nat) : Int)]) : Run), (celW w hh i a).2) : Tri)).map dTri)])
    hloop ⟨x, y, rfl, by simp⟩ (fun i z env st2 hx hI => by
      obtain ⟨x', y', rfl, rfl⟩ := hI
      obtain ⟨hi, rfl⟩ := ints_get hx
      obtain ⟨X, hX⟩ : ∃ X, X = ds ++ ((List.range i).flatMap fun i => (List.range w.ans).map fun a => ((((c ++ [rowC w i], ts ++ [((a : Nat) : Int)]) : Run), (celW w hh i a).2) : Tri)).map dTri := ⟨_, rfl⟩
      have hXl : X.length ≤ 100000 := by
        have := exT_take h ((hh, tl), (c, ts)) i (Nat.le_of_lt hi)
        rw [hX, List.length_append, List.length_map]
        simp only at this
        omega
      obtain ⟨y2, e⟩ := lp1 h (width := width) (f0 := f0) (lay := lay) (tn := tn) (pl := pl) (y := y') hp hi hc ht (B := B) (ds := X) hXl
      rw [← hX]
      refine ⟨_, rfl, _, _, e, some (.int (i : Int)), y2, rfl, ?_⟩
      rw [List.range_succ, List.flatMap_append, List.map_append, ← List.append_assoc, ← hX]
      simp)
  rw [intsD_length]
  exact ⟨x', y', rfl⟩
/-- what stands while the places are found: the old store, the dict -/
structure TI (base B : Sto) (F : List (Pl2 × Run)) : Prop where
  pre : B.take base.length = base
  dk : IsDk encP dR B base.length F
  nl : NL B
  lt : base.length < B.length
theorem TI.put {base B : Sto} {F : List (Pl2 × Run)} (h : TI base B F) (F' : List (Pl2 × Run)) : TI base (B.set base.length (dkD encP dR F')) F' := by
  refine ⟨?_, .inl (by rw [List.getElem?_set_self h.lt]), h.nl.set (noLam_dk noLam_P _), by rw [List.length_set]; exact h.lt⟩
  rw [List.take_set_of_le (Nat.le_refl _)]; exact h.pre
theorem TI.app {base B : Sto} {F : List (Pl2 × Run)} (h : TI base B F) {o : O} (ho : noLamO o = true) : TI base (B ++ [o]) F := by
  refine ⟨by rw [List.take_append_of_le_length (Nat.le_of_lt h.lt)]; exact h.pre, ?_, h.nl.app ho, by rw [List.length_append]; have := h.lt; omega⟩
  have e : (B ++ [o])[base.length]? = B[base.length]? := List.getElem?_append_left h.lt
  unfold IsDk
  rw [e]; exact h.dk
theorem noLam_T (t : Tri) : noLam (dTri t) = true := by
  have : ∀ l : List Int, noLams (l.map D.int) = true := fun l => noLams_map (fun _ => rfl) l
  simp [dTri, noLam, noLams, this]
theorem noLam_Ts (L : List Tri) : noLamO (.lst (L.map dTri)) = true := noLams_map noLam_T L
/-- a place that is known or new -/
theorem lp3 (h : MachOk w) {width : Nat} {lay tn x y : Option D} {c : List Nat} {ts : List Int} {hh : Nat} (hp : hh < w.mv.length) (hc : c.length ≤ 900) (ht : ts.length ≤ 900) {base B : Sto} {F : List (Pl2 × Run)} {L : List Tri} (hd : L.length ≤ 90000) (hF : F.length ≤ 90000) (hT : TI base B F) :
    ∃ x' y' B', d_law_places_2 (envP w width base.length B.length lay tn (some (.str (tx c))) (some (.tup (ts.map .int))) (some (.int (hh : Int))) (some (encP (hh, ltl width c))) x y) (B ++ [.lst (L.map dTri)])
      = .nx (envP w width base.length B.length lay tn (some (.str (tx c))) (some (.tup (ts.map .int))) (some (.int (hh : Int))) (some (encP (hh, ltl width c))) x' y') (B' ++ [.lst ((itemT (plT width) (exT w) (F, L) ((c, ts), hh)).2.map dTri)]) ∧ B'.length = B.length ∧ TI base B' (itemT (plT width) (exT w) (F, L) ((c, ts), hh)).1 := by
  have big : 200000 ≤ bigLine := by decide
  have b2 : 2 ≤ bigLine := by decide
  have hT2 := hT.app (noLam_Ts L)
  unfold d_law_places_2
  unfold itemT
  by_cases hin : (hh, ltl width c) ∈ F.map (·.1)
  · have k := kin_old plK_P hT2.dk hin
    have hin' : (plT width (((c, ts), hh) : Tri)).1 ∈ F.map (·.1) := hin
    refine ⟨x, y, B, ?_, rfl, by rw [if_pos hin']; exact hT⟩
    rw [if_pos hin']
    unfold envP
    simp [k]
  · have k := kin_new plK_P hT2.dk hin
    have hin' : ¬ (plT width (((c, ts), hh) : Tri)).1 ∈ F.map (·.1) := hin
    have s : setKR (.ref base.length) (encP (hh, ltl width c)) (dR ((c, ts) : Run)) (envP w width base.length B.length lay tn (some (.str (tx c))) (some (.tup (ts.map .int))) (some (.int (hh : Int))) (some (encP (hh, ltl width c))) x y) (B ++ [O.lst (L.map dTri)]) = .nx (envP w width base.length B.length lay tn (some (.str (tx c))) (some (.tup (ts.map .int))) (some (.int (hh : Int))) (some (encP (hh, ltl width c))) x y) ((B ++ [O.lst (L.map dTri)]).set base.length (dkD encP dR (F ++ [plT width (((c, ts), hh) : Tri)]))) := setK_new plK_P hT2.dk (by omega) hin
    have hs : (B ++ [O.lst (L.map dTri)]).set base.length (dkD encP dR (F ++ [plT width (((c, ts), hh) : Tri)])) = B.set base.length (dkD encP dR (F ++ [plT width (((c, ts), hh) : Tri)])) ++ [.lst (L.map dTri)] := List.set_append_left _ _ hT.lt
    rw [hs] at s
    obtain ⟨B2, hB2⟩ : ∃ B2, B2 = B.set base.length (dkD encP dR (F ++ [plT width (((c, ts), hh) : Tri)])) := ⟨_, rfl⟩
    have hB : B2.length = B.length := by rw [hB2]; exact List.length_set
    obtain ⟨x', y', e⟩ := lp2 h (width := width) (f0 := base.length) (lay := lay) (tn := tn) (pl := some (encP (hh, ltl width c))) (x := x) (y := y) (tl := ltl width c) hp hc ht (B := B2) (ds := L.map dTri) (by rw [List.length_map]; exact hd)
    rw [hB] at e
    refine ⟨x', y', B2, ?_, hB, by rw [if_neg hin', hB2]; exact hT.put _⟩
    rw [if_neg hin']
    rw [← hB2] at s
    have hrl : (tx w.rows).length ≤ bigLine := by have := h.rows.2.2.2; show w.rows.length ≤ bigLine; omega
    have rg' : ∀ st, rgR [.int (w.rows.length : Int)] st = .ok (intsD 0 w.rows.length, yes) st := fun st => rgR_ok (st := st) (j := (w.rows.length : Int)) (n := w.rows.length) rfl (by have := h.rows.2.2.2; omega)
    have em : (L ++ exT w (plT width (((c, ts), hh) : Tri))).map dTri = L.map dTri ++ (exT w ((hh, ltl width c), (c, ts))).map dTri := List.map_append
    have edr : D.tup [.str (tx c), .tup (ts.map .int)] = dR ((c, ts) : Run) := rfl
    simp only [em]
    unfold envP at e s ⊢
    simp [k, b2, edr, s, fLen_str hrl, rg', e]
end
end DD

set_option maxHeartbeats 400000
namespace DD
open PySem L2 PyProof.Rows
variable [NMs]
section
variable {w : Mach}
theorem item_len (h : MachOk w) {width : Nat} (s : List (Pl2 × Run) × List Tri) (b : Tri) : (itemT (plT width) (exT w) s b).1.length ≤ s.1.length + 1 ∧ (itemT (plT width) (exT w) s b).2.length ≤ s.2.length + 12 := by
  unfold itemT
  have := exT_len h (plT width b)
  by_cases hin : (plT width b).1 ∈ s.1.map (·.1)
  · rw [if_pos hin]; omega
  · rw [if_neg hin]; simp only [List.length_append, List.length_cons, List.length_nil]; omega
theorem items_len (h : MachOk w) {width : Nat} : ∀ (S : List Tri) (s : List (Pl2 × Run) × List Tri), (S.foldl (itemT (plT width) (exT w)) s).1.length ≤ s.1.length + S.length ∧ (S.foldl (itemT (plT width) (exT w)) s).2.length ≤ s.2.length + 12 * S.length
  | [], s => ⟨by simp, by simp⟩
  | b :: S, s => by
    rw [List.foldl_cons, List.length_cons]
    have a := item_len h (width := width) s b
    have c := items_len h (width := width) S (itemT (plT width) (exT w) s b)
    omega
structure TriOk (w : Mach) (b : Tri) : Prop where
  lt : b.2 < w.mv.length
  c : b.1.1.length ≤ 900
  t : b.1.2.length ≤ 900
theorem lp4 (h : MachOk w) {width : Nat} (h1 : 1 ≤ width) {lx : D} {tn y10 y11 y12 y13 y14 y15 : Option D} {base B : Sto} {F : List (Pl2 × Run)} {L0 : List Tri} (hT : TI base B F) (hF : F.length ≤ 1000) (hL : L0.length ≤ 5000) (hb : ∀ b ∈ L0, TriOk w b) (hl : lstD lx (B ++ [.lst []]) = some (L0.map dTri)) :
    ∃ z10 z11 z12 z13 z14 z15 B', d_law_places_3 (envP w width base.length B.length (some lx) tn y10 y11 y12 y13 y14 y15) (B ++ [.lst []])
      = .nx (envP w width base.length B.length (some lx) tn z10 z11 z12 z13 z14 z15) (B' ++ [.lst ((turnT w width srtT (F, L0)).2.map dTri)]) ∧ B'.length = B.length ∧ TI base B' (turnT w width srtT (F, L0)).1 := by
  have es := sortX_T hl
  have pm := srtT_perm L0
  have b2 : 2 ≤ bigLine := by decide
  unfold d_law_places_3
  suffices hq : ∃ z10 z11 z12 z13 z14 z15 B', loop (gdTup 3 (gdCons (gdName 10) (gdCons (gdName 11) (gdCons (gdName 12) gdNil)))) (dSeq (dSet 13 (dTup (dCons (dVar 12) (dCons (dOwn m_law_tail 2 (dCons (dVar 10) (dCons (dVar 1) dNil))) dNil)))) d_law_places_2) yes ((srtT L0).map dTri) (envP w width base.length B.length (some lx) tn y10 y11 y12 y13 y14 y15) (B ++ [.lst []])
      = .nx (envP w width base.length B.length (some lx) tn z10 z11 z12 z13 z14 z15) (B' ++ [.lst ((turnT w width srtT (F, L0)).2.map dTri)]) ∧ B'.length = B.length ∧ TI base B' (turnT w width srtT (F, L0)).1 by
    obtain ⟨z10, z11, z12, z13, z14, z15, B', e, r⟩ := hq
    refine ⟨z10, z11, z12, z13, z14, z15, B', ?_, r⟩
    unfold envP at e ⊢
    simp [es, e]
  generalize hloop : loop _ _ _ _ _ _ = res
  obtain ⟨env', st', rfl, z10, z11, z12, z13, z14, z15, B', rfl, rfl, hB, hT'⟩ := for_use1 (fun i env st2 => ∃ z10 z11 z12 z13 z14 z15 B', env = envP w width base.length B.length (some lx) tn z10 z11 z12 z13 z14 z15 ∧ st2 = B' ++ [.lst ((((srtT L0).take i).foldl (itemT (plT width) (exT w)) (F, [])).2.map dTri)] ∧ B'.length = B.length ∧ TI base B' (((srtT L0).take i).foldl (itemT (plT width) (exT w)) (F, [])).1)
    hloop ⟨y10, y11, y12, y13, y14, y15, B, rfl, rfl, rfl, hT⟩ (fun i x env st2 hx hI => by
      obtain ⟨z10, z11, z12, z13, z14, z15, B', rfl, rfl, hB, hT'⟩ := hI
      rw [List.getElem?_map] at hx
      obtain ⟨b, hb', rfl⟩ := Option.map_eq_some_iff.mp hx
      obtain ⟨hi, hbi⟩ := List.getElem?_eq_some_iff.mp hb'
      have hm : b ∈ L0 := pm.mem_iff.mp (by rw [← hbi]; exact List.getElem_mem hi)
      obtain ⟨q1, q2, q3⟩ := hb b hm
      have lS : (srtT L0).length = L0.length := pm.length_eq
      have ll := items_len h (width := width) ((srtT L0).take i) (F, [])
      have lt : ((srtT L0).take i).length ≤ 5000 := by rw [List.length_take]; omega
      have et : (srtT L0).take (i + 1) = (srtT L0).take i ++ [b] := by rw [← hbi]; exact List.take_succ_eq_append_getElem hi
      obtain ⟨⟨c, ts⟩, hh⟩ := b
      simp only at q1 q2 q3 ll
      simp only [List.length_nil] at ll
      obtain ⟨x', y', B2, e, hB2, hT2⟩ := lp3 h (width := width) (lay := some lx) (tn := tn) (x := z14) (y := z15) (c := c) (ts := ts) (hh := hh) q1 q2 q3 (base := base) (B := B') (F := (((srtT L0).take i).foldl (itemT (plT width) (exT w)) (F, [])).1) (L := (((srtT L0).take i).foldl (itemT (plT width) (exT w)) (F, [])).2) (by omega) (by omega) hT'
      rw [et, List.foldl_append]
      refine ⟨envP w width base.length B.length (some lx) tn (some (.str (tx c))) (some (.tup (ts.map .int))) (some (.int (hh : Int))) z13 z14 z15, by unfold envP dTri; simp, _, _, ?_, some (.str (tx c)), some (.tup (ts.map .int)), some (.int (hh : Int)), some (encP (hh, ltl width c)), x', y', B2, rfl, rfl, by rw [hB2, hB], hT2⟩
      rw [hB] at e
      have lt := law_tail_ok (code := c) (width := width) (st := B' ++ [.lst ((((srtT L0).take i).foldl (itemT (plT width) (exT w)) (F, [])).2.map dTri)]) (by omega) h1
      have ee : D.tup [.int (hh : Int), .str (tx (ltl width c))] = encP (hh, ltl width c) := rfl
      unfold envP at e ⊢
      simp [lt, b2, ee]
      exact e)
  have lS : ((srtT L0).map dTri).length = (srtT L0).length := List.length_map _
  rw [lS, List.take_length] at hT'
  rw [lS, List.take_length]
  exact ⟨z10, z11, z12, z13, z14, z15, B', rfl, hB, hT'⟩
/-! ### a turn -/
def envR (w : Mach) (width f0 : Nat) (lx : D) (rest : List (Option D)) (tn k : Option D) : Env := [some (drawnD w), some (.int (width : Int)), some (.int 400), some (.str (tx w.rows)), some (.int (w.ans : Int)), some (mvD w.mv), some (.ref f0), some lx, tn, k] ++ rest
noncomputable def dTurn : DS := (dSeq (dSet 9 (dNew (dLst dNil))) (dSeq d_law_places_3 (dSeq (dSet 7 (dVar 9)) (dIfS (dTst (dBin fGt (dCall fLenK (dCons (dVar 6) dNil)) (dVar 2))) (dRet (dVar 6)) dNext))))
theorem lp5 (h : MachOk w) {width : Nat} (h1 : 1 ≤ width) {lx : D} {tn k y10 y11 y12 y13 y14 y15 : Option D} {base B : Sto} {F : List (Pl2 × Run)} {L0 : List Tri} (hT : TI base B F) (hF : F.length ≤ 1000) (hL : L0.length ≤ 5000) (hb : ∀ b ∈ L0, TriOk w b) (hl : lstD lx B = some (L0.map dTri)) (hn : (turnT w width srtT (F, L0)).1.length ≤ 400) :
    ∃ z10 z11 z12 z13 z14 z15 B', dTurn (envR w width base.length lx [y10, y11, y12, y13, y14, y15] tn k) B
      = .nx (envR w width base.length (.ref B.length) [z10, z11, z12, z13, z14, z15] tn (some (.ref B.length))) B' ∧ TI base B' (turnT w width srtT (F, L0)).1 ∧ lstD (.ref B.length) B' = some ((turnT w width srtT (F, L0)).2.map dTri) := by
  have hl' : lstD lx (B ++ [.lst []]) = some (L0.map dTri) := by
    cases lx with
    | ref n =>
      simp only [lstD] at hl ⊢
      split at hl
      · rename_i ds q
        have : (B ++ [O.lst []])[n]? = some (.lst ds) := by rw [List.getElem?_append_left (List.getElem?_eq_some_iff.mp q).1]; exact q
        rw [this]; exact hl
      · cases hl
    | fz ds => exact hl
    | sc ds => exact hl
    | _ => simp [lstD] at hl
  obtain ⟨z10, z11, z12, z13, z14, z15, B', e, hB, hT'⟩ := lp4 h h1 (tn := tn) (y10 := y10) (y11 := y11) (y12 := y12) (y13 := y13) (y14 := y14) (y15 := y15) hT hF hL hb hl'
  have hT2 := hT'.app (noLam_Ts (turnT w width srtT (F, L0)).2)
  have fl : fLenK [.ref base.length] (B' ++ [.lst ((turnT w width srtT (F, L0)).2.map dTri)]) = .ok (.int ((turnT w width srtT (F, L0)).1.length : Int)) (B' ++ [.lst ((turnT w width srtT (F, L0)).2.map dTri)]) := by
    unfold fLenK
    simp only [hT2.dk.of, List.length_map]
  have lt : ¬ (400 : Int) < ((turnT w width srtT (F, L0)).1.length : Int) := by omega
  refine ⟨z10, z11, z12, z13, z14, z15, B' ++ [.lst ((turnT w width srtT (F, L0)).2.map dTri)], ?_, hT2, ?_⟩
  · unfold dTurn envR
    unfold envP at e
    have b0 : 0 ≤ bigLine := Nat.zero_le _
    simp only [List.cons_append, List.nil_append]
    simp [e, fl, lt]
  · rw [← hB]
    simp [lstD]
end
end DD

set_option maxHeartbeats 400000
namespace DD
open PySem L2 PyProof.Rows
variable [NMs]
section
variable {w : Mach}
abbrev layN (w : Mach) (width n : Nat) : Lay Pl2 := lay (exF (nxtP w width)) ((0, firstT width), (([], []) : Run)) n
theorem layN_in (h : MachOk w) {width : Nat} (h1 : 1 ≤ width) (h3 : width ≤ 3) (n : Nat) : (∀ e ∈ (layN w width n).1, e.1 ∈ placesU w width) ∧ ∀ e ∈ (layN w width n).2, e.1 ∈ placesU w width := by
  have m1 := h.mv1
  exact lay_all (ext := exF (nxtP w width)) (s := ((0, firstT width), (([], []) : Run))) (P := fun e => e.1 ∈ placesU w width) (placesU_mem.mpr ⟨by show 0 < _; omega, first_in h1 h3⟩) (fun e he f hf => by
    obtain ⟨t, ht, rfl⟩ := List.mem_map.mp hf
    exact nxtP_in h h1 h3 he t ht) n
theorem layN_few (h : MachOk w) {width : Nat} (h1 : 1 ≤ width) (h3 : width ≤ 3) (n : Nat) : (layN w width n).1.length ≤ 252 := by
  have m12 := h.mv12
  have few := placesU_few h (width := width)
  have inU := (layN_in h h1 h3 n).1
  have := nodup_len (lay_nd (ext := exF (nxtP w width)) (s := ((0, firstT width), (([], []) : Run))) n) (U := placesU w width) fun a ha => by
    obtain ⟨x, hx, rfl⟩ := List.mem_map.mp ha
    exact inU x hx
  rw [List.length_map] at this
  exact Nat.le_trans this (by omega)
theorem layN_few2 (h : MachOk w) {width : Nat} (h1 : 1 ≤ width) (h3 : width ≤ 3) (n : Nat) : (layN w width n).2.length ≤ 252 := by
  cases n with
  | zero => show (1 : Nat) ≤ 252; omega
  | succ n =>
    have := layN_few h h1 h3 (n + 1)
    have e : (layN w width (n + 1)).1 = (layN w width n).1 ++ (layN w width (n + 1)).2 := rfl
    rw [e, List.length_append] at this
    omega
theorem layN_end (h : MachOk w) {width : Nat} (h1 : 1 ≤ width) (h3 : width ≤ 3) {n : Nat} (hn : 252 ≤ n) : (layN w width n).1 = layP w width := by
  have m12 := h.mv12
  have few := placesU_few h (width := width)
  have e := lay_end (ext := exF (nxtP w width)) (s := ((0, firstT width), (([], []) : Run))) (U := placesU w width) (fun n => (layN_in h h1 h3 n).1) (placesU w width).length (Nat.le_refl _)
  have := lay_stop e n (by omega)
  unfold layN layP
  rw [this]
theorem layP_ne (h : MachOk w) {width : Nat} (h1 : 1 ≤ width) (h3 : width ≤ 3) : layP w width ≠ [] := by
  have grow : ∀ n, (layN w width n).1 ≠ [] := fun n => by
    induction n with
    | zero => show [_] ≠ []; simp
    | succ n ih =>
      have e : (layN w width (n + 1)).1 = (layN w width n).1 ++ (layN w width (n + 1)).2 := rfl
      rw [e]
      simp [ih]
  exact grow _
theorem flat_len {α β : Type} {f : α → List β} {k : Nat} : ∀ {L : List α}, (∀ e ∈ L, (f e).length ≤ k) → (L.flatMap f).length ≤ k * L.length
  | [], _ => by simp
  | a :: L, h => by
    rw [List.flatMap_cons, List.length_append, List.length_cons, Nat.mul_succ]
    have h1 := h a List.mem_cons_self
    have h2 := flat_len (L := L) fun e he => h e (List.mem_cons_of_mem _ he)
    omega
theorem turns_ok (h : MachOk w) {width : Nat} (h1 : 1 ≤ width) (h3 : width ≤ 3) {n : Nat} (hn : n ≤ 402) :
    (turnsT w width srtT n).1.length ≤ 252 ∧ (turnsT w width srtT n).2.length ≤ 5000 ∧ ∀ b ∈ (turnsT w width srtT n).2, TriOk w b := by
  cases n with
  | zero =>
    refine ⟨by show 0 ≤ 252; omega, by show 1 ≤ 5000; omega, fun b hb => ?_⟩
    have : b = ((([], []) : Run), 0) := by simpa [turnsT] using hb
    subst this
    exact ⟨by have := h.mv1; show 0 < w.mv.length; omega, by show 0 ≤ 900; omega, by show 0 ≤ 900; omega⟩
  | succ n =>
    rw [turns_lay h h1 h3 srtT_perm srtT_sorted n]
    have f2 := layN_few2 h h1 h3 n
    refine ⟨layN_few h h1 h3 n, ?_, fun b hb => ?_⟩
    · have := flat_len (L := (layN w width n).2) (f := exT w) (k := 12) fun e _ => exT_len h e
      show ((layN w width n).2.flatMap (exT w)).length ≤ 5000
      omega
    · obtain ⟨e, he, hb⟩ := List.mem_flatMap.mp hb
      have hU := (layN_in h h1 h3 n).2 e he
      obtain ⟨l1, l2⟩ := lay_len n e he
      obtain ⟨i, hi, hb⟩ := List.mem_flatMap.mp hb
      obtain ⟨a, ha, rfl⟩ := List.mem_map.mp hb
      obtain ⟨_, _, _, _, _, hg⟩ := cel_ok h (placesU_mem.mp hU).1 (List.mem_range.mp hi) (List.mem_range.mp ha)
      refine ⟨hg, ?_, ?_⟩
      · show (e.2.1 ++ [rowC w i]).length ≤ 900
        rw [List.length_append, l1]; show n + 1 ≤ 900; omega
      · show (e.2.2 ++ [((a : Nat) : Int)]).length ≤ 900
        rw [List.length_append, l2]; show n + 1 ≤ 900; omega
theorem law_places_ok (h : MachOk w) {width : Nat} (h1 : 1 ≤ width) (h3 : width ≤ 3) {st : Sto} (hn : NL st) :
    ∃ st', m_law_places [drawnD w, .int (width : Int), .int 400] st = .ok (.ref st.length) st' ∧ st'.take st.length = st ∧ st'[st.length]? = some (dkD encP dR (layP w width)) ∧ NL st' := by
  suffices hq : ∃ z7 z8 z9 z10 z11 z12 z13 z14 z15 st', loop (gdName 8) dTurn yes (intsD 0 402) (envR w width st.length (.fz [dTri ((([], []) : Run), 0)]) [none, none, none, none, none, none] none none) (st ++ [.dct [] []])
      = .nx (envR w width st.length z7 [z10, z11, z12, z13, z14, z15] z8 z9) st' ∧ TI st st' (layP w width) by
    obtain ⟨z7, z8, z9, z10, z11, z12, z13, z14, z15, st', e, hT⟩ := hq
    refine ⟨st', ?_, hT.pre, ?_, hT.nl⟩
    · rw [m_law_places_e]
      have rg : rgR [.int 402] (st ++ [.dct [] []]) = .ok (intsD 0 402, yes) (st ++ [.dct [] []]) := rgR_ok (n := 402) rfl (by omega)
      have b1 : 1 ≤ bigLine := by decide
      have b3 : 3 ≤ bigLine := by decide
      unfold dTurn envR at e
      simp only [List.cons_append, List.nil_append] at e
      have et : D.tup [.str (tx []), .tup [], .int 0] = dTri ((([], []) : Run), 0) := rfl
      have ed : drawnD w = .fz [.str (tx w.rows), .int (w.ans : Int), mvD w.mv] := rfl
      rw [ed] at e ⊢
      simp [mOf_e, d_law_places, d_law_places_4, b1, b3, tx_nil, et, rg, e]
    · rcases hT.dk with z | ⟨_, z⟩
      · exact z
      · exact absurd z (layP_ne h h1 h3)
  generalize hloop : loop _ _ _ _ _ _ = res
  obtain ⟨env', st', rfl, z7, z8, z9, z10, z11, z12, z13, z14, z15, rfl, hT, hl⟩ := for_use1 (fun i env B => ∃ z7 z8 z9 z10 z11 z12 z13 z14 z15, env = envR w width st.length z7 [z10, z11, z12, z13, z14, z15] z8 z9 ∧ TI st B (turnsT w width srtT i).1 ∧ lstD z7 B = some ((turnsT w width srtT i).2.map dTri))
    hloop ⟨_, _, _, _, _, _, _, _, _, rfl, ⟨by simp, .inr ⟨by simp, rfl⟩, hn.app rfl, by simp⟩, rfl⟩ (fun i x env B hx hI => by
      obtain ⟨z7, z8, z9, z10, z11, z12, z13, z14, z15, rfl, hT, hl⟩ := hI
      obtain ⟨hi, rfl⟩ := ints_get hx
      obtain ⟨t1, t2, t3⟩ := turns_ok h h1 h3 (n := i) (by omega)
      obtain ⟨u1, _, _⟩ := turns_ok h h1 h3 (n := i + 1) (by omega)
      have et : turnsT w width srtT (i + 1) = turnT w width srtT ((turnsT w width srtT i).1, (turnsT w width srtT i).2) := rfl
      rw [et] at u1 ⊢
      obtain ⟨q10, q11, q12, q13, q14, q15, B', e, hT', hl'⟩ := lp5 h h1 (tn := some (.int (i : Int))) (k := z9) (y10 := z10) (y11 := z11) (y12 := z12) (y13 := z13) (y14 := z14) (y15 := z15) hT (by omega) t2 t3 hl (by omega)
      exact ⟨envR w width st.length z7 [z10, z11, z12, z13, z14, z15] (some (.int (i : Int))) z9, by unfold envR; simp, _, _, e, _, _, _, _, _, _, _, _, _, rfl, hT', hl'⟩)
  rw [intsD_length] at hT
  have : (turnsT w width srtT 402).1 = layP w width := by
    rw [turns_lay h h1 h3 srtT_perm srtT_sorted 401]
    exact layN_end h h1 h3 (by omega)
  rw [this] at hT
  exact ⟨z7, z8, z9, z10, z11, z12, z13, z14, z15, st', rfl, hT⟩
end
end DD

set_option maxHeartbeats 400000
namespace DD
open PySem L2 PyProof.Rows
variable [NMs]
/-! ### judges of anything: runs, turns, long runs -/
/-- values down to a depth, texts and tuples of some length -/
def QQ : Nat → D → Prop
  | 0, d => Val d = true ∧ ∀ z, d = .str z → z.length ≤ 1000
  | n + 1, d => (Val d = true ∧ ∀ z, d = .str z → z.length ≤ 1000) ∧ ∀ l, d = .tup l → l.length ≤ 1000 ∧ ∀ x ∈ l, QQ n x
theorem QQ.val : ∀ {n : Nat} {d : D}, QQ n d → Val d = true
  | 0, _, h => h.1
  | _ + 1, _, h => h.1.1
theorem QQ.str : ∀ {n : Nat} {z : Str}, QQ n (.str z) → z.length ≤ 1000
  | 0, _, h => h.2 _ rfl
  | _ + 1, _, h => h.1.2 _ rfl
/-- whatever the depth -/
def GD (d : D) : Prop := ∀ n, QQ n d
theorem GD.val {d : D} (h : GD d) : Val d = true := (h 0).val
theorem GD.str {z : Str} (h : GD (.str z)) : z.length ≤ 1000 := (h 0).str
theorem GD.len {l : List D} (h : GD (.tup l)) : l.length ≤ 1000 := ((h 1).2 l rfl).1
theorem GD.mem {l : List D} (h : GD (.tup l)) : ∀ x ∈ l, GD x := fun x hx n => ((h (n + 1)).2 l rfl).2 x hx
theorem gd_other {d : D} (h : Val d = true) (k : isTupD d = false) (s : isStrD d = false) : GD d := fun n => by
  have a : Val d = true ∧ ∀ z, d = .str z → z.length ≤ 1000 := ⟨h, fun z e => by subst e; cases s⟩
  cases n with
  | zero => exact a
  | succ n => exact ⟨a, fun l e => by subst e; cases k⟩
theorem gd_str {z : Str} (h : z.length ≤ 1000) : GD (.str z) := fun n => by
  have a : Val (.str z) = true ∧ ∀ z', D.str z = .str z' → z'.length ≤ 1000 := ⟨rfl, fun z' e => by cases e; exact h⟩
  cases n with
  | zero => exact a
  | succ n => exact ⟨a, fun l e => by cases e⟩
theorem gd_tup {l : List D} (h : l.length ≤ 1000) (k : ∀ x ∈ l, GD x) : GD (.tup l) := fun n => by
  have a : Val (.tup l) = true ∧ ∀ z', D.tup l = .str z' → z'.length ≤ 1000 := ⟨rfl, fun z' e => by cases e⟩
  cases n with
  | zero => exact a
  | succ n => exact ⟨a, fun l' e => by cases e; exact ⟨h, fun x hx => k x hx n⟩⟩
def codeJ (cs : List Nat) : D → Bool
  | .str z => z.cps.toList.all fun c => decide (c ∈ cs)
  | _ => false
def lenS : D → Int
  | .str z => z.length
  | _ => 0
def runJ (cs : List Nat) (ans : Int) : D → Bool
  | .tup [c, t] => codeJ cs c && tupJ (lenS c) (numD 0 (ans - 1)) t
  | _ => false
def natJ : D → Bool
  | .int i => decide (0 ≤ i)
  | _ => false
def turnJ (cs : List Nat) (ans : Int) : D → Bool
  | .tup [r, t] => runJ cs ans r && natJ t
  | _ => false
def longJ (cs : List Nat) (ans : Int) : D → Bool
  | .tup l => l.all (turnJ cs ans)
  | _ => false
section
variable {st : Sto} {cs : List Nat} {ans : Int} {d : D}
theorem code_gen (h : GD d) : m_is_code [d, .str (tx cs)] st = .ok (.bl (codeJ cs d)) st := by
  by_cases hs : isStrD d = true
  · cases d <;> first | (cases hs; done) | skip
    rename_i z
    have hl := h.str
    have e := is_code_gen (st := st) (ch := z.cps.toList) (T := cs) (big_of hl)
    rw [← tx_eta z] at e
    exact e
  · have hs : isStrD d = false := by simpa using hs
    rw [is_code_no h.val hs]
    cases d <;> first | (cases hs; done) | rfl
theorem is_run_gen (h : GD d) : m_is_run [d, .str (tx cs), .int ans] st = .ok (.bl (runJ cs ans d)) st := by
  have e := is_tuple_gen (st := st) (k := 2) h.val
  rw [m_is_run_e]
  cases hs : tupJ 2 (fun _ => true) d with
  | true =>
    cases d <;> first | (cases hs; done) | skip
    rename_i l
    match l, h, hs with
    | [c, t], h, hs2 =>
      have e0 : m_is_tuple [.tup [c, t], .int 2] st = .ok (.bl true) st := is_tuple_ok rfl
      clear e
      have hc := h.mem c (by simp)
      have ht := h.mem t (by simp)
      have e1 := code_gen (st := st) (cs := cs) hc
      have b2 : 2 ≤ bigLine := by decide
      cases hj : codeJ cs c with
      | false =>
        rw [hj] at e1
        have hr : runJ cs ans (.tup [c, t]) = false := by show (codeJ cs c && _) = false; rw [hj]; rfl
        simp [mOf_e, d_is_run, e0, e1, hr]
      | true =>
        rw [hj] at e1
        cases c <;> first | (cases hj; done) | skip
        rename_i z
        have hl := hc.str
        have hb : z.length ≤ bigLine := big_of hl
        have e2 := is_tuple_gen (st := st) (k := (z.length : Int)) ht.val
        cases ht2 : tupJ (z.length : Int) (fun _ => true) t with
        | false =>
          rw [ht2] at e2
          have : tupJ (lenS (.str z)) (numD 0 (ans - 1)) t = false := by
            cases t <;> first | rfl | skip
            simp only [tupJ, List.all_eq_true, Bool.and_eq_false_iff, lenS] at ht2 ⊢
            rcases ht2 with z1 | z1
            · exact .inl z1
            · simp at z1
          have hr : runJ cs ans (.tup [.str z, t]) = false := by show (codeJ cs (.str z) && _) = false; rw [hj, this]; rfl
          simp [mOf_e, d_is_run, e0, e1, hr, fLen_str hb, e2]
        | true =>
          rw [ht2] at e2
          cases t <;> first | (cases ht2; done) | skip
          rename_i as
          have hal := ht.len
          have ham := ht.mem
          have ha2 : (as.length : Int) = z.length := by simpa [tupJ] using ht2
          have hb2 : as.length ≤ bigLine := big_of hal
          have hr : runJ cs ans (.tup [.str z, .tup as]) = as.all (numD 0 (ans - 1)) := by
            show (codeJ cs (.str z) && (decide ((as.length : Int) = (z.length : Int)) && as.all (numD 0 (ans - 1)))) = _
            rw [hj, ha2]; simp
          simp [mOf_e, d_is_run, e0, e1, hr, fLen_str hb, e2, hb2]
          generalize hloop : lcLoop _ _ _ _ _ _ _ = r
          have := lcm_use (fun x => .bl (numD 0 (ans - 1) x)) hloop (fun x hm => ⟨_, rfl, by simp [wipe_set, is_between_gen (ham x hm).val]⟩)
          subst this
          simp [fAll_map]
    | [], h, hs => simp [tupJ] at hs
    | [_], h, hs => simp [tupJ] at hs
    | _ :: _ :: _ :: r, h, hs => simp [tupJ] at hs; omega
  | false =>
    rw [hs] at e
    have : runJ cs ans d = false := by
      cases d <;> first | rfl | skip
      rename_i l
      match l, hs with
      | [], _ => rfl
      | [_], _ => rfl
      | [_, _], hs => simp [tupJ] at hs
      | _ :: _ :: _ :: _, _ => rfl
    simp [mOf_e, d_is_run, e, this]
end
/-! ### values of some depth; the state -/
theorem gd_int {i : Int} : GD (.int i) := gd_other rfl rfl rfl
theorem gd_fz {l : List D} : GD (.fz l) := gd_other rfl rfl rfl
theorem gd_non : GD .non := gd_other rfl rfl rfl
theorem gd_pair {a b : D} (ha : GD a) (hb : GD b) : GD (.tup [a, b]) := gd_tup (by simp) fun x hx => by
  simp only [List.mem_cons, List.not_mem_nil, or_false] at hx
  rcases hx with rfl | rfl
  · exact ha
  · exact hb
theorem gd_one {a : D} (ha : GD a) : GD (.tup [a]) := gd_tup (by simp) fun x hx => by rw [List.mem_singleton.mp hx]; exact ha
theorem gd_tx {ch : List Nat} (h : ch.length ≤ 1000) : GD (.str (tx ch)) := gd_str h
theorem gd_as {as : List Nat} (h : as.length ≤ 900) {more : List D} (hm : more.length ≤ 100) (hg : ∀ x ∈ more, GD x) : GD (.tup (as.map aD ++ more)) := gd_tup (by simp; omega) fun x hx => by
  rcases List.mem_append.mp hx with z | z
  · obtain ⟨a, _, rfl⟩ := List.mem_map.mp z
    exact gd_int
  · exact hg x z
theorem gd_run {ch as : List Nat} (h1 : ch.length ≤ 900) (h2 : as.length ≤ 900) : GD (runD ch as) := by
  have := gd_as (as := as) (more := []) h2 (by simp) (fun x hx => by cases hx)
  rw [List.append_nil] at this
  exact gd_pair (gd_tx (by omega)) this
/-! ### runs -/
section
variable {st : Sto} {w : Mach}
structure RunOk (w : Mach) (ch as : List Nat) : Prop where
  len : ch.length = as.length
  big : ch.length ≤ 1000
  rows : ∀ c ∈ ch, c ∈ w.rows
  ans : ∀ a ∈ as, a < w.ans
/-! ### ways -/
noncomputable def mvAt (w : Mach) (at' c a : Nat) : Nat × Nat := (((w.mv[at']?).bind fun it => it[(Txt.index0 (tx w.rows) ⟨#[c]⟩).getD 0]?).bind fun ps => ps[a]?).getD (0, 0)
noncomputable def walk (w : Mach) : List Nat → List Nat → Nat → Nat × Nat
  | c :: cs, a :: as, at' => ((mvAt w at' c a).1 + (walk w cs as (mvAt w at' c a).2).1, (walk w cs as (mvAt w at' c a).2).2)
  | _, _, at' => (0, at')
theorem step_ok (h : MachOk w) {at' c a : Nat} (h1 : at' < w.mv.length) (h2 : c ∈ w.rows) (h3 : a < w.ans) :
    ∃ (it : List (List (Nat × Nat))) (ps : List (Nat × Nat)) (t g i : Nat), Txt.index0 (tx w.rows) ⟨#[c]⟩ = some i ∧ Txt.find (tx w.rows) ⟨#[c]⟩ = (i : Int) ∧ w.mv[at']? = some it ∧ it[i]? = some ps ∧ ps[a]? = some (t, g) ∧ mvAt w at' c a = (t, g) ∧ g < w.mv.length := by
  obtain ⟨i, hi, e1, e2⟩ := ix_of (x := tx w.rows) (c := c) h2
  have hi : i < w.rows.length := hi
  have q1 := h.it _ (List.getElem_mem h1)
  have hi2 : i < w.mv[at'].length := by rw [q1.1]; exact hi
  have q2 := q1.2 _ (List.getElem_mem hi2)
  have ha : a < (w.mv[at'][i]).length := by rw [q2.1]; exact h3
  have q3 := q2.2 _ (List.getElem_mem ha)
  refine ⟨w.mv[at'], w.mv[at'][i], (w.mv[at'][i][a]).1, (w.mv[at'][i][a]).2, i, e1, e2, List.getElem?_eq_getElem h1, List.getElem?_eq_getElem hi2, List.getElem?_eq_getElem ha, ?_, q3.2.2⟩
  simp [mvAt, e1, List.getElem?_eq_getElem h1, List.getElem?_eq_getElem hi2, List.getElem?_eq_getElem ha]
theorem walk_lt (h : MachOk w) : ∀ {ch as : List Nat} {at' : Nat}, at' < w.mv.length → (∀ c ∈ ch, c ∈ w.rows) → (∀ a ∈ as, a < w.ans) → (walk w ch as at').2 < w.mv.length
  | [], _, _, h1, _, _ => by simpa [walk] using h1
  | _ :: _, [], _, h1, _, _ => by simpa [walk] using h1
  | c :: ch, a :: as, at', h1, h2, h3 => by
    obtain ⟨it, ps, t, g, i, _, _, _, _, _, e, hg⟩ := step_ok h h1 (h2 c List.mem_cons_self) (h3 a List.mem_cons_self)
    simp only [walk, e]
    exact walk_lt h hg (fun c hc => h2 c (List.mem_cons_of_mem _ hc)) (fun a ha => h3 a (List.mem_cons_of_mem _ ha))
theorem walk_app : ∀ {c1 a1 c2 a2 : List Nat} {at' : Nat}, c1.length = a1.length → walk w (c1 ++ c2) (a1 ++ a2) at' = ((walk w c1 a1 at').1 + (walk w c2 a2 (walk w c1 a1 at').2).1, (walk w c2 a2 (walk w c1 a1 at').2).2)
  | [], [], _, _, _, _ => by simp [walk]
  | [], _ :: _, _, _, _, h => by simp at h
  | _ :: _, [], _, _, _, h => by simp at h
  | c :: c1, a :: a1, c2, a2, at', h => by
    have ih := walk_app (c1 := c1) (a1 := a1) (c2 := c2) (a2 := a2) (at' := (mvAt w at' c a).2) (by simpa using h)
    simp only [List.cons_append, walk, ih, Nat.add_assoc]
theorem loop_step {g : DG} {d : DS} {x : D} {r : List D} {env env1 env2 : Env} {st2 : Sto} (h1 : g x env = some env1) (h2 : d env1 st = .nx env2 st2) : loop g d yes (x :: r) env st = loop g d yes r env2 st2 := by
  conv => lhs; unfold loop
  simp only [yes, if_true, h1, h2]
theorem walked_ok (h : MachOk w) {ch as : List Nat} {at' : Nat} (h1 : at' < w.mv.length) (hr : RunOk w ch as) : m_walked [machO w, .int (at' : Int), runD ch as] st = .ok (.tup [.int ((walk w ch as at').1 : Int), .int ((walk w ch as at').2 : Int)]) st := by
  rw [m_walked_e]
  simp [mOf_e, d_walked, runD]
  generalize hB : dSeq (dAsg _ _) _ = B
  have key : ∀ (cs bs : List Nat) (here : Nat) (tot : Int) (e7 e8 e9 : Option D), (∀ c ∈ cs, c ∈ w.rows) → (∀ a ∈ bs, a < w.ans) → here < w.mv.length → ∃ e7' e8' e9' : Option D,
      loop (gdTup 2 (gdCons (gdName 7) (gdCons (gdName 8) gdNil))) B yes (pairsD (cs.map fun c => .str (tx [c])) (bs.map aD)) [some (machO w), some (.int (at' : Int)), some (.tup [.str (tx ch), .tup (as.map aD)]), some (.str (tx ch)), some (.tup (as.map aD)), some (.int tot), some (.int (here : Int)), e7, e8, e9] st =
        .nx [some (machO w), some (.int (at' : Int)), some (.tup [.str (tx ch), .tup (as.map aD)]), some (.str (tx ch)), some (.tup (as.map aD)), some (.int (tot + (walk w cs bs here).1)), some (.int ((walk w cs bs here).2 : Int)), e7', e8', e9'] st := by
    intro cs
    induction cs with
    | nil => intro bs here tot e7 e8 e9 _ _ _; exact ⟨e7, e8, e9, by simp [pairsD, loop, walk, yes]⟩
    | cons c cs ih =>
      intro bs here tot e7 e8 e9 q1 q2 q3
      cases bs with
      | nil => exact ⟨e7, e8, e9, by simp [pairsD, loop, walk, yes]⟩
      | cons a bs =>
        obtain ⟨it, ps, t, g, i, x1, x2, x3, x4, x5, x6, x7⟩ := step_ok h q3 (q1 c List.mem_cons_self) (q2 a List.mem_cons_self)
        obtain ⟨e7', e8', e9', e⟩ := ih bs g (tot + t) (some (.str (tx [c]))) (some (.int (a : Int))) (some (.int (t : Int))) (fun c hc => q1 c (List.mem_cons_of_mem _ hc)) (fun a ha => q2 a (List.mem_cons_of_mem _ ha)) x7
        refine ⟨e7', e8', e9', ?_⟩
        rw [List.map_cons, List.map_cons, pairsD, loop_step (env1 := [some (machO w), some (.int (at' : Int)), some (.tup [.str (tx ch), .tup (as.map aD)]), some (.str (tx ch)), some (.tup (as.map aD)), some (.int tot), some (.int (here : Int)), some (.str (tx [c])), some (.int (a : Int)), e9]) (env2 := [some (machO w), some (.int (at' : Int)), some (.tup [.str (tx ch), .tup (as.map aD)]), some (.str (tx ch)), some (.tup (as.map aD)), some (.int (tot + t)), some (.int (g : Int)), some (.str (tx [c])), some (.int (a : Int)), some (.int (t : Int))]) (st2 := st) (by simp [aD]) (by
          subst hB
          have xi : fIndex (.str (tx w.rows)) [.str (tx [c])] st = .ok (.int (i : Int)) st := by simp only [fIndex]; rw [show (tx [c]) = ⟨#[c]⟩ from rfl, x1]
          simp [fld_moves, fld_rows, isStr, xi, mvD, itD, psD, pD, x3, x4, x5, dAug]), e]
        simp only [walk, x6]
        simp
        omega
  obtain ⟨e7, e8, e9, e⟩ := key ch as at' 0 none none none hr.rows hr.ans h1
  rw [e]
  have hb : 2 ≤ bigLine := by decide
  simp [hb]
end
section
variable {st : Sto} {w : Mach} {cs : List Nat}
theorem codeJ_ok {ch : List Nat} (h : ∀ c ∈ ch, c ∈ cs) : codeJ cs (.str (tx ch)) = true := by
  show (tx ch).cps.toList.all _ = true
  rw [tx_list, List.all_eq_true]
  exact fun c hc => decide_eq_true (h c hc)
theorem tupJ_as {as : List Nat} {n : Nat} {aa : Int} (hl : as.length = n) (h : ∀ b ∈ as, (b : Int) < aa) : tupJ (n : Int) (numD 0 (aa - 1)) (.tup (as.map aD)) = true := by
  show (decide (((as.map aD).length : Int) = (n : Int)) && (as.map aD).all _) = true
  rw [Bool.and_eq_true, List.all_eq_true, List.length_map]
  refine ⟨decide_eq_true (by omega), fun y hy => ?_⟩
  obtain ⟨b, hb, rfl⟩ := List.mem_map.mp hy
  have := h b hb
  show (decide ((0 : Int) ≤ b) && decide ((b : Int) ≤ aa - 1)) = true
  rw [Bool.and_eq_true]
  exact ⟨decide_eq_true (by omega), decide_eq_true (by omega)⟩
theorem is_run_ok {ch as : List Nat} (hr : RunOk w ch as) (h9 : ch.length ≤ 900) : m_is_run [runD ch as, .str (tx w.rows), .int (w.ans : Int)] st = .ok (.bl true) st := by
  have h1 := hr.len
  rw [is_run_gen (gd_run h9 (by omega))]
  have : runJ w.rows (w.ans : Int) (runD ch as) = true := by
    show (codeJ w.rows (.str (tx ch)) && tupJ ((tx ch).length : Int) (numD 0 ((w.ans : Int) - 1)) (.tup (as.map aD))) = true
    rw [codeJ_ok hr.rows, Bool.true_and]
    exact tupJ_as (n := ch.length) h1.symm fun b hb => by have := hr.ans b hb; omega
  rw [this]
theorem check_run_ok {ch as : List Nat} (hr : RunOk w ch as) (h9 : ch.length ≤ 900) : m_check_run [machO w, runD ch as] st = .ok .non st := by
  rw [m_check_run_e]; simp [mOf_e, d_check_run, fld_rows, fld_answers, is_run_ok hr h9]
theorem standing_ok (h : MachOk w) {ch as : List Nat} (hr : RunOk w ch as) (h9 : ch.length ≤ 900) : m_standing [machO w, runD ch as] st = .ok (.int ((walk w ch as 0).2 : Int)) st := by
  have e1 := check_run_ok (st := st) hr h9
  have e2 := walked_ok (st := st) (at' := 0) h (by have := h.mv1; omega) hr
  have e2 : m_walked [machO w, .int 0, runD ch as] st = .ok (.tup [.int ((walk w ch as 0).1 : Int), .int ((walk w ch as 0).2 : Int)]) st := e2
  rw [m_standing_e]
  simp [mOf_e, d_standing, e1, e2]
end
/-! ### a place is what its run leads to; all runs lead to places -/
theorem index0_nodup {rows : List Nat} (nd : rows.Nodup) {i : Nat} (hi : i < rows.length) : Txt.index0 (tx rows) ⟨#[rows[i]]⟩ = some i := by
  have h1 := PyProof.Rows.empty_one (tx rows) rows[i]
  have hm : rows[i] ∈ (tx rows).cps.toList := List.getElem_mem hi
  cases q : PySem.Builtin.Str.occurrences (tx rows) ⟨#[rows[i]]⟩ 0 (tx rows).length 1 with
  | nil => rw [q] at h1; simp [hm] at h1
  | cons j r =>
    obtain ⟨o1, o2⟩ := PySem.StrLaws.occ_spec (tx rows) ⟨#[rows[i]]⟩ 0 (tx rows).length 1 j (by rw [q]; exact List.mem_cons_self)
    rw [PySem.StrLaws.subAt_eq] at o2
    have hj : j < rows.length := by
      have : j + 1 ≤ rows.length := o1
      omega
    have e : rows[j] = rows[i] := by
      have o2 : ((rows.drop j).take 1 == [rows[i]]) = true := o2
      have o2 := eq_of_beq o2
      rw [List.drop_eq_getElem_cons hj, List.take_succ_cons, List.take_zero] at o2
      exact (List.cons.inj o2).1
    have : j = i := by rw [← nd.idxOf_getElem j hj, ← nd.idxOf_getElem i hi, e]
    unfold Txt.index0
    rw [q, this]
    rfl
section
variable {w : Mach}
theorem mvAt_cel (h : MachOk w) {hh i a : Nat} (h1 : hh < w.mv.length) (h2 : i < w.rows.length) (h3 : a < w.ans) : mvAt w hh (rowC w i) a = celW w hh i a := by
  have nd : w.rows.Nodup := h.rows.1.imp fun a => Nat.ne_of_lt a
  obtain ⟨it, ps, c1, c2, c3, _⟩ := cel_ok h h1 h2 h3
  have e : rowC w i = w.rows[i] := by unfold rowC; rw [List.getD_eq_getElem?_getD, List.getElem?_eq_getElem h2]; rfl
  unfold mvAt
  rw [e, index0_nodup nd h2]
  simp [c1, c2, c3]
theorem rowC_mem {i : Nat} (h2 : i < w.rows.length) : rowC w i ∈ w.rows := by
  unfold rowC; rw [List.getD_eq_getElem?_getD, List.getElem?_eq_getElem h2]; exact List.getElem_mem h2
theorem walk_one {at' c a : Nat} : walk w [c] [a] at' = mvAt w at' c a := by
  simp [walk]
structure PlR (w : Mach) (width : Nat) (e : Pl2 × Run) : Prop where
  inU : e.1 ∈ placesU w width
  ex : ∃ as : List Nat, e.2.2 = as.map (fun a : Nat => ((a : Nat) : Int)) ∧ e.2.1.length = as.length ∧ (∀ c ∈ e.2.1, c ∈ w.rows) ∧ (∀ a ∈ as, a < w.ans) ∧ e.1 = ((walk w e.2.1 as 0).2, ltl width e.2.1)
theorem plR_all (h : MachOk w) {width : Nat} (h1 : 1 ≤ width) (h3 : width ≤ 3) (n : Nat) : (∀ e ∈ (layN w width n).1, PlR w width e) ∧ ∀ e ∈ (layN w width n).2, PlR w width e := by
  have m1 := h.mv1
  refine lay_all (ext := exF (nxtP w width)) (s := ((0, firstT width), (([], []) : Run))) (P := PlR w width) ⟨placesU_mem.mpr ⟨by show 0 < _; omega, first_in h1 h3⟩, [], rfl, rfl, (fun _ h => by cases h), (fun _ h => by cases h), ?_⟩ (fun e he f hf => ?_) n
  · have hw : width = 1 ∨ width = 2 ∨ width = 3 := by omega
    rcases hw with rfl | rfl | rfl <;> rfl
  · obtain ⟨hu, as, a1, a2, a3, a4, a5⟩ := he
    obtain ⟨t, ht, rfl⟩ := List.mem_map.mp hf
    have inN := nxtP_in h h1 h3 hu t ht
    obtain ⟨i, hi, ht⟩ := List.mem_flatMap.mp ht
    obtain ⟨a, ha, rfl⟩ := List.mem_map.mp ht
    have hi : i < w.rows.length := List.mem_range.mp hi
    have ha : a < w.ans := List.mem_range.mp ha
    refine ⟨inN, as ++ [a], by show e.2.2 ++ [(a : Int)] = _; rw [a1, List.map_append]; rfl, by show (e.2.1 ++ [rowC w i]).length = _; rw [List.length_append, List.length_append, a2]; rfl, fun c hc => ?_, fun b hb => ?_, ?_⟩
    · rcases List.mem_append.mp hc with z | z
      · exact a3 c z
      · rw [List.mem_singleton.mp z]; exact rowC_mem hi
    · rcases List.mem_append.mp hb with z | z
      · exact a4 b z
      · rw [List.mem_singleton.mp z]; exact ha
    · show goP w width e.1 i a = ((walk w (e.2.1 ++ [rowC w i]) (as ++ [a]) 0).2, ltl width (e.2.1 ++ [rowC w i]))
      rw [walk_app a2, walk_one]
      have eh : (walk w e.2.1 as 0).2 = e.1.1 := by rw [a5]
      have et : ltl width e.2.1 = e.1.2 := by rw [a5]
      show _ = ((mvAt w (walk w e.2.1 as 0).2 (rowC w i) a).2, _)
      rw [eh, mvAt_cel h (placesU_mem.mp hu).1 hi ha, ltl_step h1 h3, et]
      rfl
theorem layN_rlen {width : Nat} : ∀ n, ∀ e ∈ (layN w width n).1, e.2.1.length ≤ n
  | 0, e, he => by
    have : e = ((0, firstT width), (([], []) : Run)) := by simpa [layN, lay] using he
    rw [this]; exact Nat.le_refl _
  | n + 1, e, he => by
    have he : e ∈ (layN w width n).1 ++ (layN w width (n + 1)).2 := he
    rcases List.mem_append.mp he with z | z
    · exact Nat.le_succ_of_le (layN_rlen n e z)
    · exact Nat.le_of_eq (lay_len (n + 1) e z).1
section
variable {α : Type} [DecidableEq α]
theorem putF_keys {found : List α} {fr : List (α × Run)} {e : α × Run} {a : α} (h : a ∈ fr.map (·.1)) : a ∈ (putF found fr e).map (·.1) := by
  unfold putF
  split
  · exact h
  · split
    · rw [List.map_append]; exact List.mem_append_left _ h
    · split
      · rw [List.map_map]
        obtain ⟨x, hx, rfl⟩ := List.mem_map.mp h
        refine List.mem_map.mpr ⟨x, hx, ?_⟩
        show (if x.1 = e.1 then (x.1, e.2) else x).1 = x.1
        by_cases z : x.1 = e.1 <;> simp [z]
      · exact h
theorem putF_new {found : List α} {fr : List (α × Run)} {e : α × Run} (h : e.1 ∉ found) : e.1 ∈ (putF found fr e).map (·.1) := by
  cases hl : fr.lookup e.1 with
  | none => unfold putF; simp [h, hl]
  | some r =>
    refine putF_keys (lookup_isSome.mp ?_)
    rw [hl]; rfl
theorem fresh_keys {found : List α} {a : α} (h : a ∉ found) : ∀ (X fr : List (α × Run)), (a ∈ fr.map (·.1) ∨ a ∈ X.map (·.1)) → a ∈ (X.foldl (putF found) fr).map (·.1)
  | [], fr, k => by
    rcases k with k | k
    · exact k
    · cases k
  | e :: X, fr, k => by
    rw [List.foldl_cons]
    refine fresh_keys h X _ ?_
    rcases k with k | k
    · exact .inl (putF_keys k)
    · rcases List.mem_cons.mp k with z | z
      · left; rw [z] at h ⊢; exact putF_new h
      · exact .inr z
theorem lay_closed {ext : α × Run → List (α × Run)} {s : α × Run} : ∀ n, ∀ e ∈ (lay ext s n).1, e ∈ (lay ext s n).2 ∨ ∀ f ∈ ext e, f.1 ∈ (lay ext s n).1.map (·.1)
  | 0, e, he => .inl he
  | n + 1, e, he => by
    have he : e ∈ (lay ext s n).1 ++ nextN ext (lay ext s n).1 (lay ext s n).2 := he
    rcases List.mem_append.mp he with z | z
    · right
      intro f hf
      show f.1 ∈ ((lay ext s n).1 ++ nextN ext (lay ext s n).1 (lay ext s n).2).map (·.1)
      rw [List.map_append, List.mem_append]
      rcases lay_closed n e z with y | y
      · by_cases hin : f.1 ∈ (lay ext s n).1.map (·.1)
        · exact .inl hin
        · right
          unfold nextN
          rw [((sortR_perm (g := fun x : α × Run => x.2) _).map _).mem_iff]
          exact fresh_keys hin _ [] (.inr (List.mem_map.mpr ⟨f, List.mem_flatMap.mpr ⟨e, y, hf⟩, rfl⟩))
      · exact .inl (y f hf)
    · exact .inl z
end
theorem layP_e {width : Nat} (h : MachOk w) (h1 : 1 ≤ width) (h3 : width ≤ 3) : layP w width = (layN w width 252).1 := (layN_end h h1 h3 (Nat.le_refl _)).symm
theorem layP_closed (h : MachOk w) {width : Nat} (h1 : 1 ≤ width) (h3 : width ≤ 3) : ∀ e ∈ layP w width, ∀ f ∈ exF (nxtP w width) e, f.1 ∈ (layP w width).map (·.1) := fun e he f hf => by
  have m12 := h.mv12
  have few := placesU_few h (width := width)
  have e2 := lay_end (ext := exF (nxtP w width)) (s := ((0, firstT width), (([], []) : Run))) (U := placesU w width) (fun n => (layN_in h h1 h3 n).1) 252 (by omega)
  rw [layP_e h h1 h3] at he ⊢
  rcases lay_closed (ext := exF (nxtP w width)) (s := ((0, firstT width), (([], []) : Run))) 252 e he with z | z
  · rw [e2] at z; cases z
  · exact z f hf
theorem run_place (h : MachOk w) {width : Nat} (h1 : 1 ≤ width) (h3 : width ≤ 3) : ∀ (n : Nat) (ch as : List Nat), ch.length = n → ch.length = as.length → (∀ c ∈ ch, c ∈ w.rows) → (∀ a ∈ as, a < w.ans) → ((walk w ch as 0).2, ltl width ch) ∈ (layP w width).map (·.1)
  | 0, ch, as, hn, hl, _, _ => by
    have e1 : ch = [] := List.length_eq_zero_iff.mp hn
    subst e1
    have e2 : as = [] := List.length_eq_zero_iff.mp (by simpa using hl.symm)
    subst e2
    have grow : ∀ n, ((0, firstT width), (([], []) : Run)) ∈ (layN w width n).1 := fun n => by
      induction n with
      | zero => exact List.mem_cons_self
      | succ n ih => exact List.mem_append_left _ ih
    rw [layP_e h h1 h3]
    refine List.mem_map.mpr ⟨_, grow 252, ?_⟩
    show ((0 : Nat), firstT width) = ((walk w [] [] 0).2, ltl width [])
    have hw : width = 1 ∨ width = 2 ∨ width = 3 := by omega
    rcases hw with rfl | rfl | rfl <;> simp [walk, firstT, ltl]
  | n + 1, ch, as, hn, hl, hc, ha => by
    rcases List.eq_nil_or_concat ch with z | ⟨c1, c, z⟩
    · subst z; simp at hn
    rcases List.eq_nil_or_concat as with y | ⟨a1, a, y⟩
    · subst y; simp at hl; subst hl; simp at hn
    rw [List.concat_eq_append] at z y
    subst z y
    have l1 : c1.length = n := by simpa using hn
    have l2 : c1.length = a1.length := by simpa using hl
    have ih := run_place h h1 h3 n c1 a1 l1 l2 (fun x hx => hc x (List.mem_append_left _ hx)) (fun x hx => ha x (List.mem_append_left _ hx))
    obtain ⟨e, he, ee⟩ := List.mem_map.mp ih
    have hcr : c ∈ w.rows := hc c (by simp)
    have haa : a < w.ans := ha a (by simp)
    obtain ⟨i, hi, ei⟩ := List.mem_iff_getElem.mp hcr
    have er : rowC w i = c := by unfold rowC; rw [List.getD_eq_getElem?_getD, List.getElem?_eq_getElem hi]; exact ei
    have hlt : e.1.1 < w.mv.length := by
      rw [layP_e h h1 h3] at he
      exact (placesU_mem.mp ((layN_in h h1 h3 252).1 e he)).1
    have cl := layP_closed h h1 h3 e he (goP w width e.1 i a, (e.2.1 ++ [rowC w i], e.2.2 ++ [(a : Int)])) (List.mem_map.mpr ⟨(rowC w i, ((a : Nat) : Int), goP w width e.1 i a), List.mem_flatMap.mpr ⟨i, List.mem_range.mpr hi, List.mem_map.mpr ⟨a, List.mem_range.mpr haa, rfl⟩⟩, rfl⟩)
    have e1 : (walk w c1 a1 0).2 = e.1.1 := by rw [ee]
    have e2 : ltl width c1 = e.1.2 := by rw [ee]
    rw [walk_app l2, walk_one, ltl_step h1 h3, e1, e2, ← er, mvAt_cel h hlt hi haa]
    exact cl
end
end DD

set_option maxHeartbeats 400000
namespace DD
open PySem L2 PyProof.Rows
variable [NMs]
/-! ### the law: a drawn run, places as data, the tests -/
theorem fIsi_ref_list {n : Nat} {ds : List D} {st : Sto} (h : st[n]? = some (.lst ds)) : fIsi [.ref n, .ty "list"] st = .ok (.bl true) st := by
  simp [fIsi, tyName, h, show kitB "list" "list" = some true by decide +kernel]
section
variable {w : Mach}
theorem run18_ok (h : MachOk w) {n many : Nat} {st : Sto} (hg : HG n st) (hm : many ≤ 900) :
    ∃ (ch as : List Nat) (st' : Sto), m_law_run [.ref n, drawnD w, .int (many : Int)] st = .ok (runD ch as) st' ∧ Dr n st st' ∧ ch.length = many ∧ as.length = many ∧ (∀ c ∈ ch, c ∈ w.rows) ∧ ∀ a ∈ as, a < w.ans := by
  have big : 1000 ≤ bigLine := by decide
  have r1 := h.rows.2.2.1
  have r4 := h.rows.2.2.2
  have a1 := h.ans1
  have a3 := h.ans3
  suffices hq : ∃ (ch as : List Nat) (e5 : Option D) (st' : Sto), loop (gdName 5) (dSeq (dSet 3 (dBin fAdd (dVar 3) (dBin fIx (dBin fIx (dVar 1) (dC (.int 0))) (dOwn m_law_draw 2 (dCons (dVar 0) (dCons (dCall fLen (dCons (dBin fIx (dVar 1) (dC (.int 0))) dNil)) dNil)))))) (dSet 4 (dBin fAdd (dVar 4) (dTup (dCons (dOwn m_law_draw 2 (dCons (dVar 0) (dCons (dBin fIx (dVar 1) (dC (.int 1))) dNil))) dNil))))) yes (intsD 0 many) [some (.ref n), some (drawnD w), some (.int (many : Int)), some (.str (tx [])), some (.tup []), none] st
      = .nx [some (.ref n), some (drawnD w), some (.int (many : Int)), some (.str (tx ch)), some (.tup (as.map aD)), e5] st' ∧ Dr n st st' ∧ ch.length = many ∧ as.length = many ∧ (∀ c ∈ ch, c ∈ w.rows) ∧ ∀ a ∈ as, a < w.ans by
    obtain ⟨ch, as, e5, st', e, r⟩ := hq
    refine ⟨ch, as, st', ?_, r⟩
    have b2 : 2 ≤ bigLine := by decide
    have rg := rgR_ok (st := st) (j := (many : Int)) (n := many) rfl (by omega)
    rw [m_law_run_e]
    simp [mOf_e, d_law_run, tx_nil, rg, e, runD, b2]
  generalize hloop : loop _ _ _ _ _ _ = res
  obtain ⟨env', st', rfl, ch, as, e5, rfl, dr, l1, l2, c1, c2⟩ := for_use1 (fun i env st' => ∃ (ch as : List Nat) (e5 : Option D), env = [some (.ref n), some (drawnD w), some (.int (many : Int)), some (.str (tx ch)), some (.tup (as.map aD)), e5] ∧ Dr n st st' ∧ ch.length = i ∧ as.length = i ∧ (∀ c ∈ ch, c ∈ w.rows) ∧ ∀ a ∈ as, a < w.ans)
    hloop ⟨[], [], none, rfl, Dr.refl hg, rfl, rfl, (fun _ h => by cases h), (fun _ h => by cases h)⟩ (fun i x env st' hx hI => by
      obtain ⟨ch, as, e5, rfl, dr, l1, l2, c1, c2⟩ := hI
      obtain ⟨hi, rfl⟩ := ints_get hx
      obtain ⟨a, st3, ha, e3, dr3⟩ := draw (many := (w.rows.length : Int)) (dr.hg hg) (by omega) (by omega)
      obtain ⟨b, st4, hb, e4, dr4⟩ := draw (many := (w.ans : Int)) (dr3.hg (dr.hg hg)) (by omega) (by omega)
      have hia : a < w.rows.length := by omega
      have hlen : (tx w.rows).length ≤ bigLine := by show w.rows.length ≤ bigLine; omega
      have hix : ∀ s, fIx (.str (tx w.rows)) (.int (a : Int)) s = .ok (.str (tx [w.rows[a]])) s := fun s => fIx_str hlen (by rw [tx_list]; exact List.getElem?_eq_getElem hia)
      have b1 : 1 ≤ bigLine := by decide
      have bc : ch.length + 1 ≤ bigLine := by omega
      have bt : as.length + 1 ≤ bigLine := by omega
      refine ⟨_, rfl, [some (.ref n), some (drawnD w), some (.int (many : Int)), some (.str (tx (ch ++ [w.rows[a]]))), some (.tup ((as ++ [b]).map aD)), some (.int (i : Int))], st4, ?_, ch ++ [w.rows[a]], as ++ [b], _, rfl, dr.trans (dr3.trans dr4), by simp [l1], by simp [l2], fun c hc => ?_, fun c hc => ?_⟩
      · have ed : drawnD w = .fz [.str (tx w.rows), .int (w.ans : Int), mvD w.mv] := rfl
        rw [ed]
        simp [fLen_str hlen, e3, e4, hix, b1, bc, bt, aD]
      · rcases List.mem_append.mp hc with z | z
        · exact c1 c z
        · rw [List.mem_singleton.mp z]; exact List.getElem_mem hia
      · rcases List.mem_append.mp hc with z | z
        · exact c2 c z
        · rw [List.mem_singleton.mp z]; omega)
  rw [intsD_length] at l1 l2
  exact ⟨ch, as, e5, st', rfl, dr, l1, l2, c1, c2⟩
end
/-! ### places as data -/
def pyP (a : Pl2) : PyData := .tuple [.int (a.1 : Int), .str (tx a.2)]
theorem toPy_P (st : Sto) (a : Pl2) : toPy st (encP a) = some (pyP a) := by unfold encP pyP; simp [toPy, toPys]
theorem toPy0_P (a : Pl2) : toPy0 (encP a) = some (pyP a) := by unfold encP pyP; simp [toPy0, toPys0]
theorem toPys_P (st : Sto) : ∀ L : List Pl2, toPys st (L.map encP) = some (L.map pyP)
  | [] => rfl
  | a :: L => by rw [List.map_cons]; simp [toPys, toPy_P, toPys_P st L]
theorem toPys0_P : ∀ L : List Pl2, toPys0 (L.map encP) = some (L.map pyP)
  | [] => rfl
  | a :: L => by rw [List.map_cons]; simp [toPys0, toPy0_P, toPys0_P L]
def CpOk (a : Pl2) : Prop := ∀ c ∈ a.2, c < 0x110000
theorem shaped_P {a : Pl2} (h : CpOk a) : SeqAt.shaped (pyP a) = true := by
  have := strOk_tx h
  unfold pyP
  simp [SeqAt.shaped, PyData.canLay0, PyData.canLayAll0, PyData.depth, PyData.depthAll, this]
theorem shaped_Ps {L : List Pl2} (h : ∀ a ∈ L, CpOk a) : SeqAt.shaped (.list (L.map pyP)) = true := by
  have c : PyData.canLayAll0 (L.map pyP) = true ∧ PyData.depthAll (L.map pyP) ≤ 1 := by
    induction L with
    | nil => exact ⟨rfl, by simp [PyData.depthAll]⟩
    | cons a L ih =>
      obtain ⟨i1, i2⟩ := ih fun b hb => h b (List.mem_cons_of_mem _ hb)
      have := strOk_tx (h a List.mem_cons_self)
      rw [List.map_cons]
      refine ⟨?_, ?_⟩
      · simp [PyData.canLayAll0, pyP, PyData.canLay0, this, i1]
      · simp only [PyData.depthAll, pyP, PyData.depth]; omega
  unfold SeqAt.shaped
  have : (PyData.list (L.map pyP)).depth ≤ 64 := by simp only [PyData.depth]; omega
  simp [PyData.canLay0, c.1, this]
section
variable {w : Mach}
theorem tailsU_cp (h : MachOk w) {width : Nat} {t : List Nat} (ht : t ∈ tailsU w.rows width) : ∀ c ∈ t, c < 0x110000 := by
  have hr : ∀ c ∈ w.rows, c < 0x110000 := fun c hc => by have := h.rows.2.1 c hc; omega
  unfold tailsU at ht
  split at ht
  · have : t = [] := by simpa using ht
    subst this; intro c hc; cases hc
  · split at ht
    · rcases List.mem_cons.mp ht with z | z
      · subst z; intro c hc; rw [List.mem_singleton.mp hc]; omega
      · obtain ⟨d, hd, rfl⟩ := List.mem_map.mp z
        intro c hc; rw [List.mem_singleton.mp hc]; exact hr d hd
    · rcases List.mem_cons.mp ht with z | z
      · subst z; intro c hc; rw [List.mem_singleton.mp hc]; omega
      · rcases List.mem_append.mp z with z | z
        · obtain ⟨d, hd, rfl⟩ := List.mem_map.mp z
          intro c hc
          rcases List.mem_cons.mp hc with y | y
          · rw [y]; omega
          · rw [List.mem_singleton.mp y]; exact hr d hd
        · obtain ⟨x, hx, z⟩ := List.mem_flatMap.mp z
          obtain ⟨d, hd, rfl⟩ := List.mem_map.mp z
          intro c hc
          rcases List.mem_cons.mp hc with y | y
          · rw [y]; exact hr x hx
          · rw [List.mem_singleton.mp y]; exact hr d hd
/-- the list of the places -/
def PL (w : Mach) (width : Nat) : List Pl2 := (layP w width).map (·.1)
theorem PL_enc {width : Nat} : (layP w width).map (fun e => encP e.1) = (PL w width).map encP := by unfold PL; rw [List.map_map]; rfl
theorem PL_cp (h : MachOk w) {width : Nat} (h1 : 1 ≤ width) (h3 : width ≤ 3) : ∀ a ∈ PL w width, CpOk a := fun a ha => by
  obtain ⟨e, he, rfl⟩ := List.mem_map.mp ha
  rw [layP_e h h1 h3] at he
  exact tailsU_cp h (placesU_mem.mp ((layN_in h h1 h3 252).1 e he)).2
theorem PL_few (h : MachOk w) {width : Nat} (h1 : 1 ≤ width) (h3 : width ≤ 3) : (PL w width).length ≤ 252 := by
  unfold PL; rw [List.length_map]; exact layP_few h h1 h3
variable {x0 x1 x2 x3 x4 x5 x8 x9 x10 : Option D}
theorem law1_18 (h : MachOk w) {width : Nat} (h1 : 1 ≤ width) (h3 : width ≤ 3) {S : Sto} : d_law_1 [x0, x1, x2, x3, x4, x5, some (.fz ((PL w width).map encP)), some (.ref S.length), x8, x9, x10] (S ++ [.lst ((PL w width).map encP)]) = .nx [x0, x1, x2, x3, x4, x5, some (.fz ((PL w width).map encP)), some (.ref S.length), x8, x9, x10] (S ++ [.lst ((PL w width).map encP)]) := by
  have hat : (S ++ [O.lst ((PL w width).map encP)])[S.length]? = some (.lst ((PL w width).map encP)) := app_get
  have i1 := fIsi_ref_list hat
  have sh := shaped_Ps (PL_cp h h1 h3)
  have e1 : fEq true (.ref S.length) (.fz ((PL w width).map encP)) (S ++ [O.lst ((PL w width).map encP)]) = .ok (.bl false) (S ++ [O.lst ((PL w width).map encP)]) := by
    refine fEq_same (p := .list ((PL w width).map pyP)) ?_ ?_ sh
    · simp only [toPy, hat, toPys0_P, Option.map_some]
    · simp only [toPy, toPys_P, Option.map_some]
  have big : 252 ≤ bigLine := by decide
  have few := PL_few h h1 h3
  have hl : ((PL w width).map encP).length ≤ bigLine := by rw [List.length_map]; omega
  have hl' : (PL w width).length ≤ bigLine := by omega
  unfold d_law_1
  simp [i1, e1, itrR_ref hat, hl']
  rw [lck_map (f := fun _ => .bl false) (keepRef_iff.mpr hat) _ fun x hx => ?_]
  · have : ∀ l : List D, fAny [.fz (l.map fun _ => D.bl false)] (S ++ [O.lst ((PL w width).map encP)]) = .ok (.bl false) (S ++ [O.lst ((PL w width).map encP)]) := fun l => by
      have : blsOf (l.map fun _ => D.bl false) = some (l.map fun _ => false) := by
        induction l with
        | nil => rfl
        | cons a l ih => simp [blsOf, ih]
      simp [fAny, this]
    simp [this]
    have t2 := this ((PL w width).map encP)
    simp at t2
    simp [t2]
  · obtain ⟨a, _, rfl⟩ := List.mem_map.mp hx
    refine ⟨_, rfl, ?_⟩
    simp [encP, wipeE]
end
end DD

set_option maxHeartbeats 400000
namespace DD
open PySem L2 PyProof.Rows
variable [NMs]
section
variable {α : Type} [DecidableEq α] {enc : α → D} {key : α → NestedKey}
theorem kget_mem (p : PlK enc key) {st : Sto} {n : Nat} {L : List (α × Run)} {a : α} {r : Run} (h : IsDk enc dR st n L) (nd : (L.map (·.1)).Nodup) (hm : (a, r) ∈ L) : fKGet (.ref n) (enc a) st = .ok (dR r) st := kget_of p h ((look_in nd).mpr hm)
end
theorem hg_take {n : Nat} {s s' : Sto} (h : HG n s) (e : s'.take s.length = s) : HG n s' := by
  have l := h.lt
  obtain ⟨hh, q⟩ := h
  refine ⟨hh, ?_⟩
  rw [← q, ← e, List.getElem?_take_of_lt l]
section
variable {w : Mach} {x0 x1 x2 x9 x10 : Option D}
theorem law2_18 (h : MachOk w) {width : Nat} (h1 : 1 ≤ width) (h3 : width ≤ 3) {S : Sto} {f0 k : Nat} {due : D} (hS : S[f0]? = some (dkD encP dR (layP w width))) {e : Pl2 × Run} (he : e ∈ layP w width) :
    d_law_2 [x0, x1, x2, some (machO w), some (.int (width : Int)), some (.ref f0), some due, some (.ref k), some (encP e.1), x9, x10] S = .nx [x0, x1, x2, some (machO w), some (.int (width : Int)), some (.ref f0), some due, some (.ref k), some (encP e.1), x9, x10] S := by
  have nd : ((layP w width).map (·.1)).Nodup := lay_nd _
  have g := kget_mem plK_P (st := S) (n := f0) (a := e.1) (r := e.2) (.inl hS) nd he
  have he' := he
  rw [layP_e h h1 h3] at he'
  obtain ⟨hu, as, a1, a2, a3, a4, a5⟩ := (plR_all h h1 h3 252).1 e he'
  have rl : e.2.1.length ≤ 252 := layN_rlen 252 e he'
  have er : dR e.2 = runD e.2.1 as := by
    unfold dR runD
    rw [a1, List.map_map]
    rfl
  have st := standing_ok (st := S) h (ch := e.2.1) (as := as) ⟨a2, by omega, a3, a4⟩ (by omega)
  have lt := law_tail_ok (code := e.2.1) (width := width) (st := S) (by omega) h1
  have cp := tailsU_cp h (placesU_mem.mp hu).2
  have q1 : e.1.1 = (walk w e.2.1 as 0).2 := by rw [a5]
  have q2 : e.1.2 = ltl width e.2.1 := by rw [a5]
  rw [← q1] at st
  rw [← q2] at lt
  have es := fEq_str (st := S) (neg := true) (strOk_tx cp) (strOk_tx cp)
  have ep : encP e.1 = .tup [.int (e.1.1 : Int), .str (tx e.1.2)] := rfl
  rw [er] at g
  rw [ep] at g ⊢
  have r0 : runD e.2.1 as = .tup [.str (tx e.2.1), .tup (as.map aD)] := rfl
  have st' : m_standing [machO w, .tup [.str (tx e.2.1), .tup (as.map aD)]] S = .ok (.int (e.1.1 : Int)) S := st
  rw [r0] at g
  unfold d_law_2
  simp [g, st', lt, es]
theorem law4_18 (h : MachOk w) {width : Nat} (h1 : 1 ≤ width) (h3 : width ≤ 3) {S : Sto} {x5 x7 x8 : Option D} (hg : HG 0 S) :
    ∃ y9 y10 S', d_law_4 [x0, some (.ref 0), some (drawnD w), some (machO w), some (.int (width : Int)), x5, some (.fz ((PL w width).map encP)), x7, x8, x9, x10] S = .nx [x0, some (.ref 0), some (drawnD w), some (machO w), some (.int (width : Int)), x5, some (.fz ((PL w width).map encP)), x7, x8, y9, y10] S' ∧ Dr 0 S S' := by
  unfold d_law_4
  have rg := rgR_ok (st := S) (j := 3) (n := 3) rfl (by omega)
  simp [rg]
  generalize hloop : loop _ _ _ _ _ _ = res
  obtain ⟨env', st', rfl, y9, y10, rfl, dr⟩ := for_use1 (fun i env st' => ∃ y9 y10, env = [x0, some (.ref 0), some (drawnD w), some (machO w), some (.int (width : Int)), x5, some (.fz ((PL w width).map encP)), x7, x8, y9, y10] ∧ Dr 0 S st')
    hloop ⟨x9, x10, rfl, Dr.refl hg⟩ (fun i x env st' hx hI => by
      obtain ⟨y9, y10, rfl, dr⟩ := hI
      obtain ⟨hi, rfl⟩ := ints_get hx
      obtain ⟨a, s1, ha, e1, dr1⟩ := draw (many := 12) (dr.hg hg) (by omega) (by omega)
      obtain ⟨ch, as, s2, e2, dr2, l1, l2, c1, c2⟩ := run18_ok h (many := a) (dr1.hg (dr.hg hg)) (by omega)
      have sok := standing_ok (st := s2) h (ch := ch) (as := as) ⟨by omega, by omega, c1, c2⟩ (by omega)
      have lt := law_tail_ok (code := ch) (width := width) (st := s2) (by omega) h1
      have mem := run_place h h1 h3 ch.length ch as rfl (by omega) c1 c2
      have mem : ((walk w ch as 0).2, ltl width ch) ∈ PL w width := mem
      have cps := PL_cp h h1 h3
      have fi : fInX true (encP ((walk w ch as 0).2, ltl width ch)) (.fz ((PL w width).map encP)) s2 = .ok (.bl false) s2 :=
        fInX_mem (d := pyP ((walk w ch as 0).2, ltl width ch)) (ds := (PL w width).map pyP) (toPy_P _ _) (by simp only [toPy, toPys_P, Option.map_some]) (shaped_P (cps _ mem)) (shaped_Ps cps) (List.mem_map.mpr ⟨_, mem, rfl⟩)
      have ep : encP ((walk w ch as 0).2, ltl width ch) = .tup [.int ((walk w ch as 0).2 : Int), .str (tx (ltl width ch))] := rfl
      rw [ep] at fi
      have b2 : 2 ≤ bigLine := by decide
      have er : runD ch as = .tup [.str (tx ch), .tup (as.map aD)] := rfl
      rw [er] at e2 sok
      refine ⟨_, rfl, [x0, some (.ref 0), some (drawnD w), some (machO w), some (.int (width : Int)), x5, some (.fz ((PL w width).map encP)), x7, x8, some (.int (i : Int)), some (.tup [.str (tx ch), .tup (as.map aD)])], s2, ?_, _, _, rfl, dr.trans (dr1.trans dr2)⟩
      unfold d_law_3
      simp [e1, e2, sok, lt, b2, fi])
  exact ⟨y9, y10, st', by simp, dr⟩
theorem law5_18 (h : MachOk w) {width : Nat} (h1 : 1 ≤ width) (h3 : width ≤ 3) {S : Sto} {x5 x7 x8 : Option D} (hn : NL S) :
    ∃ S', d_law_5 [x0, x1, x2, some (machO w), some (.int (width : Int)), x5, some (.fz ((PL w width).map encP)), x7, x8, x9, x10] S = .nx [x0, x1, x2, some (machO w), some (.int (width : Int)), x5, some (.fz ((PL w width).map encP)), x7, x8, x9, x10] S' ∧ S'.take S.length = S ∧ NL S' := by
  obtain ⟨st', e, t1, t2⟩ := places_ok h h1 h3 hn
  rw [PL_enc] at e
  have sh := shaped_Ps (PL_cp h h1 h3)
  have hat : (st' ++ [O.lst ((PL w width).map encP)])[st'.length]? = some (.lst ((PL w width).map encP)) := app_get
  have e1 : fEq true (.ref st'.length) (.fz ((PL w width).map encP)) (st' ++ [O.lst ((PL w width).map encP)]) = .ok (.bl false) (st' ++ [O.lst ((PL w width).map encP)]) := by
    refine fEq_same (p := .list ((PL w width).map pyP)) ?_ ?_ sh
    · simp only [toPy, hat, toPys0_P, Option.map_some]
    · simp only [toPy, toPys_P, Option.map_some]
  refine ⟨st' ++ [.lst ((PL w width).map encP)], ?_, ?_, t2.app (o := .lst ((PL w width).map encP)) (show noLams ((PL w width).map encP) = true from noLams_map noLam_P _)⟩
  · unfold d_law_5
    simp [e, e1]
  · have : S.length ≤ st'.length := by
      have := congrArg List.length t1
      rw [List.length_take] at this
      omega
    rw [List.take_append_of_le_length this]; exact t1
theorem body18 (h : MachOk w) {width : Nat} (h1 : 1 ≤ width) (h3 : width ≤ 3) {S : Sto} {x5 x6 x7 x8 : Option D} (hg : HG 0 S) (hn : NL S) :
    ∃ y5 y6 y7 y8 y9 y10 S', (dSeq (dSet 5 (dOwn m_law_places 3 (dCons (dVar 2) (dCons (dVar 4) (dCons (dC (.int 400)) dNil)))))
    (dSeq (dSet 6 (dFz (dCallL fListK (dCons (dVar 5) dNil))))
    (dSeq (dSet 7 (dOwn m_places 2 (dCons (dVar 3) (dCons (dVar 4) dNil))))
    (dSeq d_law_1
    (dSeq (dFor (dItems (dVar 6)) (gdName 8) d_law_2)
    (dSeq d_law_4
    (dSeq (dExpr (dMeth isLst fAppend (dVar 7) (dCons (dTup (dCons (dC (.int 0)) (dCons (dC (.str "x")) dNil))) dNil)))
    (dSeq (dExpr (dMeth isLst fReverse (dVar 7) dNil))
    d_law_5)))))))) [x0, some (.ref 0), some (drawnD w), some (machO w), some (.int (width : Int)), x5, x6, x7, x8, x9, x10] S = .nx [x0, some (.ref 0), some (drawnD w), some (machO w), some (.int (width : Int)), y5, y6, y7, y8, y9, y10] S' ∧ HG 0 S' ∧ NL S' := by
  obtain ⟨S1, e1, t1, k1, n1⟩ := law_places_ok h h1 h3 hn
  obtain ⟨S2, e2, t2, n2⟩ := places_ok h h1 h3 n1
  rw [PL_enc] at e2
  have hg1 := hg_take hg t1
  have hg2 := hg_take hg1 t2
  have fl : fListK [.ref S.length] S1 = .ok ((PL w width).map encP) S1 := by
    unfold fListK
    have : dkOf (.ref S.length) S1 = some ((layP w width).map fun e => encP e.1, (layP w width).map fun e => dR e.2) := IsDk.of (.inl k1)
    simp only [this, PL_enc]
  have k2 : (S2 ++ [O.lst ((PL w width).map encP)])[S.length]? = some (dkD encP dR (layP w width)) := by
    have l1 : S.length < S1.length := (List.getElem?_eq_some_iff.mp k1).1
    have : S2[S.length]? = S1[S.length]? := by rw [← t2, List.getElem?_take_of_lt l1]
    rw [List.getElem?_append_left (by have := congrArg List.length t2; rw [List.length_take] at this; omega), this, k1]
  have q1 := law1_18 h h1 h3 (S := S2) (x0 := x0) (x1 := some (.ref 0)) (x2 := some (drawnD w)) (x3 := some (machO w)) (x4 := some (.int (width : Int))) (x5 := some (.ref S.length)) (x8 := x8) (x9 := x9) (x10 := x10)
  have q2 : ∃ y8, loop (gdName 8) d_law_2 yes ((PL w width).map encP) [x0, some (.ref 0), some (drawnD w), some (machO w), some (.int (width : Int)), some (.ref S.length), some (.fz ((PL w width).map encP)), some (.ref S2.length), x8, x9, x10] (S2 ++ [.lst ((PL w width).map encP)]) = .nx [x0, some (.ref 0), some (drawnD w), some (machO w), some (.int (width : Int)), some (.ref S.length), some (.fz ((PL w width).map encP)), some (.ref S2.length), y8, x9, x10] (S2 ++ [.lst ((PL w width).map encP)]) := by
    generalize hloop : loop _ _ _ _ _ _ = res
    obtain ⟨env', st', rfl, y8, rfl, rfl⟩ := for_use1 (fun i env st' => ∃ y8, env = [x0, some (.ref 0), some (drawnD w), some (machO w), some (.int (width : Int)), some (.ref S.length), some (.fz ((PL w width).map encP)), some (.ref S2.length), y8, x9, x10] ∧ st' = S2 ++ [.lst ((PL w width).map encP)])
      hloop ⟨x8, rfl, rfl⟩ (fun i x env st' hx hI => by
        obtain ⟨y8, rfl, rfl⟩ := hI
        have hx := List.mem_of_getElem? hx
        rw [← PL_enc] at hx
        obtain ⟨e, he, rfl⟩ := List.mem_map.mp hx
        exact ⟨_, rfl, _, _, law2_18 h h1 h3 k2 he, some (encP e.1), rfl, rfl⟩)
    exact ⟨y8, rfl⟩
  obtain ⟨y8, q2⟩ := q2
  obtain ⟨y9, y10, S3, q4, d4⟩ := law4_18 h h1 h3 (x0 := x0) (x5 := some (.ref S.length)) (x7 := some (.ref S2.length)) (x8 := y8) (x9 := x9) (x10 := x10) (S := S2 ++ [.lst ((PL w width).map encP)]) (HG.app3 hg2)
  obtain ⟨S4, d5, rfl⟩ := d4.ofApp3 hg2.lt
  have l4 : S4.length = S2.length := d5.len
  have big : 1000 ≤ bigLine := by decide
  have few := PL_few h h1 h3
  have hat : (S4 ++ [O.lst ((PL w width).map encP)])[S2.length]? = some (.lst ((PL w width).map encP)) := by rw [← l4]; exact app_get
  have hl : ((PL w width).map encP).length ≤ bigLine := by rw [List.length_map]; omega
  have ap := fAppend_at (y := D.tup [.int 0, .str "x"]) hat hl
  have hset : (S4 ++ [O.lst ((PL w width).map encP)]).set S2.length (.lst ((PL w width).map encP ++ [D.tup [.int 0, .str "x"]])) = S4 ++ [.lst ((PL w width).map encP ++ [D.tup [.int 0, .str "x"]])] := by rw [← l4]; exact app_set
  rw [hset] at ap
  have hat2 : (S4 ++ [O.lst ((PL w width).map encP ++ [D.tup [.int 0, .str "x"]])])[S2.length]? = some (.lst ((PL w width).map encP ++ [D.tup [.int 0, .str "x"]])) := by rw [← l4]; exact app_get
  have rv : fReverse (.ref S2.length) [] (S4 ++ [O.lst ((PL w width).map encP ++ [D.tup [.int 0, .str "x"]])]) = .ok .non (S4 ++ [.lst ((PL w width).map encP ++ [D.tup [.int 0, .str "x"]]).reverse]) := by
    unfold fReverse
    simp only [hat2]
    congr 1
    rw [← l4]; exact app_set
  have nl5 : NL (S4 ++ [O.lst ((PL w width).map encP ++ [D.tup [.int 0, .str "x"]]).reverse]) := by
    refine (n2.dr d5).app ?_
    show noLams _ = true
    rw [noLams_all, List.all_eq_true]
    intro x hx
    rcases List.mem_append.mp (List.mem_reverse.mp hx) with z | z
    · obtain ⟨a, _, rfl⟩ := List.mem_map.mp z; exact noLam_P a
    · rw [List.mem_singleton.mp z]; rfl
  obtain ⟨S6, q5, t5, n5⟩ := law5_18 h h1 h3 (x0 := x0) (x1 := some (.ref 0)) (x2 := some (drawnD w)) (x5 := some (.ref S.length)) (x7 := some (.ref S2.length)) (x8 := y8) (x9 := y9) (x10 := y10) nl5
  have hg5 : HG 0 (S4 ++ [O.lst ((PL w width).map encP ++ [D.tup [.int 0, .str "x"]]).reverse]) := HG.app3 (d5.hg hg2)
  refine ⟨some (.ref S.length), some (.fz ((PL w width).map encP)), some (.ref S2.length), y8, y9, y10, S6, ?_, hg_take hg5 t5, n5⟩
  have b2 : 2 ≤ bigLine := by decide
  have il1 := isLst_at hat
  have il2 := isLst_at hat2
  simp only [List.reverse_append, List.reverse_cons, List.reverse_nil, List.nil_append, List.cons_append] at rv q5
  simp [e1, fl, e2, q1, q2, q4, il1, b2, ap, il2, rv]
  exact q5
end
end DD

set_option maxHeartbeats 400000
namespace DD
open PySem L2 PyProof.Rows
variable [NMs]
theorem law_ok : ∀ ns : List Int, ns.length ≤ 63 → ∃ st', m_law [.sc (ns.map .int)] [] = .ok (.bl true) st' := by
  intro ns hl
  obtain ⟨hd, e0⟩ := hand_ok (st := []) hl
  have e0 : m_law_hand [.sc (ns.map .int)] [] = .ok (.ref 0) [.lst hd.ds] := e0
  have hg0 : HG 0 [O.lst hd.ds] := ⟨hd, rfl⟩
  have nl0 : NL [O.lst hd.ds] := by
    have h0 : NL ([] : Sto) := rfl
    refine NL.app (st := []) h0 ?_
    have : noLams (hd.cells.map D.int) = true := noLams_map (fun _ => rfl) _
    simp [Hand.ds, noLamO, noLams, noLam, this]
  have nr0 : NoRef [O.lst hd.ds] := fun o ho => by rw [List.mem_singleton.mp ho]; exact noRef_hand hd
  obtain ⟨w, S, e1, hg, nl, nr, hw, _, _⟩ := machine18_ok hg0 nl0 nr0
  have em := make_ok hw nr
  have b3 : 3 ≤ bigLine := by decide
  suffices hq : ∃ z4 z5 z6 z7 z8 z9 z10 S', d_law_6 [some (.sc (ns.map .int)), some (.ref 0), some (drawnD w), some (machO w), none, none, none, none, none, none, none] S = .nx [some (.sc (ns.map .int)), some (.ref 0), some (drawnD w), some (machO w), z4, z5, z6, z7, z8, z9, z10] S' by
    obtain ⟨z4, z5, z6, z7, z8, z9, z10, S', e⟩ := hq
    refine ⟨S', ?_⟩
    rw [m_law_e]
    have ed : drawnD w = .fz [.str (tx w.rows), .int (w.ans : Int), mvD w.mv] := rfl
    rw [ed] at e1 e
    simp [mOf_e, d_law, e0, e1, dMake_e, em, e]
  unfold d_law_6
  simp [b3]
  generalize hloop : loop _ _ _ _ _ _ = res
  obtain ⟨env', st', rfl, z4, z5, z6, z7, z8, z9, z10, rfl, _, _⟩ := for_use1 (fun i env st' => ∃ z4 z5 z6 z7 z8 z9 z10, env = [some (.sc (ns.map .int)), some (.ref 0), some (drawnD w), some (machO w), z4, z5, z6, z7, z8, z9, z10] ∧ HG 0 st' ∧ NL st')
    hloop ⟨_, _, _, _, _, _, _, rfl, hg, nl⟩ (fun i x env st' hx hI => by
      obtain ⟨z4, z5, z6, z7, z8, z9, z10, rfl, g, n⟩ := hI
      have hwd : ∃ wd : Nat, x = .int (wd : Int) ∧ 1 ≤ wd ∧ wd ≤ 3 := by
        have := List.mem_of_getElem? hx
        simp only [List.mem_cons, List.not_mem_nil, or_false] at this
        rcases this with rfl | rfl | rfl
        · exact ⟨1, rfl, by omega, by omega⟩
        · exact ⟨2, rfl, by omega, by omega⟩
        · exact ⟨3, rfl, by omega, by omega⟩
      obtain ⟨wd, rfl, w1, w3⟩ := hwd
      obtain ⟨y5, y6, y7, y8, y9, y10, S', e, g', n'⟩ := body18 hw w1 w3 (x0 := some (.sc (ns.map .int))) (x5 := z5) (x6 := z6) (x7 := z7) (x8 := z8) (x9 := z9) (x10 := z10) g n
      exact ⟨_, rfl, _, _, e, _, _, _, _, _, _, _, rfl, g', n'⟩)
  exact ⟨z4, z5, z6, z7, z8, z9, z10, st', rfl⟩
end DD

namespace DD
open PySem L2 PyProof.Rows
variable [NMs]
theorem all_mk {l : PySem.W.OpenLaw} {w : World} {K : PySem.W.Frag} {h : Heap} {mg : Str → Option Value} {fa : Addr} (X : K.In h) (G : h.Ns mainGlobals mg) (hfa : mg "law" = some (.ref fa))
    {C_Machine : Addr}
    {f0 : Addr} {od0 an0 : Option Addr} {sl0 : Array (Option Value)} {oc0 kV0 dc0 pm0 cd0 ct0 : Value}
    {f1 : Addr} {od1 an1 : Option Addr} {sl1 : Array (Option Value)} {oc1 kV1 dc1 pm1 cd1 ct1 : Value}
    {f2 : Addr} {od2 an2 : Option Addr} {sl2 : Array (Option Value)} {oc2 kV2 dc2 pm2 cd2 ct2 : Value}
    {f3 : Addr} {od3 an3 : Option Addr} {sl3 : Array (Option Value)} {oc3 kV3 dc3 pm3 cd3 ct3 : Value}
    {f4 : Addr} {od4 an4 : Option Addr} {sl4 : Array (Option Value)} {oc4 kV4 dc4 pm4 cd4 ct4 : Value}
    {f5 : Addr} {od5 an5 : Option Addr} {sl5 : Array (Option Value)} {oc5 kV5 dc5 pm5 cd5 ct5 : Value}
    {f6 : Addr} {od6 an6 : Option Addr} {sl6 : Array (Option Value)} {oc6 kV6 dc6 pm6 cd6 ct6 : Value}
    {f7 : Addr} {od7 an7 : Option Addr} {sl7 : Array (Option Value)} {oc7 kV7 dc7 pm7 cd7 ct7 : Value}
    {f8 : Addr} {od8 an8 : Option Addr} {sl8 : Array (Option Value)} {oc8 kV8 dc8 pm8 cd8 ct8 : Value}
    {f9 : Addr} {od9 an9 : Option Addr} {sl9 : Array (Option Value)} {oc9 kV9 dc9 pm9 cd9 ct9 : Value}
    {f10 : Addr} {od10 an10 : Option Addr} {sl10 : Array (Option Value)} {oc10 kV10 dc10 pm10 cd10 ct10 : Value}
    {f11 : Addr} {od11 an11 : Option Addr} {sl11 : Array (Option Value)} {oc11 kV11 dc11 pm11 cd11 ct11 : Value}
    {f12 : Addr} {od12 an12 : Option Addr} {sl12 : Array (Option Value)} {oc12 kV12 dc12 pm12 cd12 ct12 : Value}
    {f13 : Addr} {od13 an13 : Option Addr} {sl13 : Array (Option Value)} {oc13 kV13 dc13 pm13 cd13 ct13 : Value}
    {f14 : Addr} {od14 an14 : Option Addr} {sl14 : Array (Option Value)} {oc14 kV14 dc14 pm14 cd14 ct14 : Value}
    {f15 : Addr} {od15 an15 : Option Addr} {sl15 : Array (Option Value)} {oc15 kV15 dc15 pm15 cd15 ct15 : Value}
    {f16 : Addr} {od16 an16 : Option Addr} {sl16 : Array (Option Value)} {oc16 kV16 dc16 pm16 cd16 ct16 : Value}
    {f17 : Addr} {od17 an17 : Option Addr} {sl17 : Array (Option Value)} {oc17 kV17 dc17 pm17 cd17 ct17 : Value}
    {f18 : Addr} {od18 an18 : Option Addr} {sl18 : Array (Option Value)} {oc18 kV18 dc18 pm18 cd18 ct18 : Value}
    {f19 : Addr} {od19 an19 : Option Addr} {sl19 : Array (Option Value)} {oc19 kV19 dc19 pm19 cd19 ct19 : Value}
    {f20 : Addr} {od20 an20 : Option Addr} {sl20 : Array (Option Value)} {oc20 kV20 dc20 pm20 cd20 ct20 : Value}
    {f21 : Addr} {od21 an21 : Option Addr} {sl21 : Array (Option Value)} {oc21 kV21 dc21 pm21 cd21 ct21 : Value}
    {f22 : Addr} {od22 an22 : Option Addr} {sl22 : Array (Option Value)} {oc22 kV22 dc22 pm22 cd22 ct22 : Value}
    {f23 : Addr} {od23 an23 : Option Addr} {sl23 : Array (Option Value)} {oc23 kV23 dc23 pm23 cd23 ct23 : Value}
    {f24 : Addr} {od24 an24 : Option Addr} {sl24 : Array (Option Value)} {oc24 kV24 dc24 pm24 cd24 ct24 : Value}
    {f25 : Addr} {od25 an25 : Option Addr} {sl25 : Array (Option Value)} {oc25 kV25 dc25 pm25 ct25 : Value}
    {ctA25 PtA25 : Addr} {tc25 : Value} {td25 : Option Addr} {tv25 : Array Value} {ts25 : Array (Option Value)}
    {f26 : Addr} {od26 an26 : Option Addr} {sl26 : Array (Option Value)} {oc26 kV26 dc26 pm26 cd26 ct26 : Value}
    {f27 : Addr} {od27 an27 : Option Addr} {sl27 : Array (Option Value)} {oc27 kV27 dc27 pm27 ct27 : Value}
    {ctA27 PtA27 : Addr} {tc27 : Value} {td27 : Option Addr} {tv27 : Array Value} {ts27 : Array (Option Value)}
    {f28 : Addr} {od28 an28 : Option Addr} {sl28 : Array (Option Value)} {oc28 kV28 dc28 pm28 cd28 ct28 : Value}
    {f29 : Addr} {od29 an29 : Option Addr} {sl29 : Array (Option Value)} {oc29 kV29 dc29 pm29 cd29 ct29 : Value}
    {f30 : Addr} {od30 an30 : Option Addr} {sl30 : Array (Option Value)} {oc30 kV30 dc30 pm30 cd30 ct30 : Value}
    {f31 : Addr} {od31 an31 : Option Addr} {sl31 : Array (Option Value)} {oc31 kV31 dc31 pm31 cd31 ct31 : Value}
    {f32 : Addr} {od32 an32 : Option Addr} {sl32 : Array (Option Value)} {oc32 kV32 dc32 pm32 cd32 ct32 : Value}
    {f33 : Addr} {od33 an33 : Option Addr} {sl33 : Array (Option Value)} {oc33 kV33 dc33 pm33 cd33 ct33 : Value}
    {f34 : Addr} {od34 an34 : Option Addr} {sl34 : Array (Option Value)} {oc34 kV34 dc34 pm34 cd34 ct34 : Value}
    {tc_LETTERS : Tok}
    {tc_MOST_PLACES : Tok}
    (hT : ∀ K, NMs.T K = tabsOf K lamNms) (hw : NMs.w = some w)
    (aC_Machine : PySem.W.nsIn K mainGlobals "Machine" = some (some (.ref C_Machine)))
    (pg_Machine : PySem.W.plainGet K C_Machine Str.empty = true)
    (hd_Machine : PySem.W.hasDictIn K C_Machine = true)
    (po_Machine : PySem.W.plainOver K C_Machine = true)
    (sa_Machine : PySem.W.findIn K (.ref C_Machine) "__setattr__" = some (some (.builtin "object.__setattr__")))
    (mk_Machine : PySem.W.makesIn K C_Machine = true)
    (kc_Machine : PySem.W.keepIn K (.ref C_Machine) = true)
    (nf_Machine_answers : PySem.W.findIn K (.ref C_Machine) "answers" = some none)
    (nf_Machine_moves : PySem.W.findIn K (.ref C_Machine) "moves" = some none)
    (nf_Machine_rows : PySem.W.findIn K (.ref C_Machine) "rows" = some none)
    (nf_Machine_size : PySem.W.findIn K (.ref C_Machine) "size" = some none)
    (a0 : PySem.W.nsIn K mainGlobals "_law_hand" = some (some (.ref f0)))
    (l0 : K.lookup f0 = some ⟨oc0, od0, .func (PySem.W.fnOf "_law_hand" "_law_hand" (defArgs s_law_hand) (defBody s_law_hand) (defScope s_law_hand) .none kV0 dc0 pm0 an0 cd0 ct0), sl0⟩)
    (c0 : PySem.W.codeIn K cd0 "_law_hand" = true)
    (k0 : PySem.W.keepIn K (.ref f0) = true)
    (a1 : PySem.W.nsIn K mainGlobals "_law_draw" = some (some (.ref f1)))
    (l1 : K.lookup f1 = some ⟨oc1, od1, .func (PySem.W.fnOf "_law_draw" "_law_draw" (defArgs s_law_draw) (defBody s_law_draw) (defScope s_law_draw) .none kV1 dc1 pm1 an1 cd1 ct1), sl1⟩)
    (c1 : PySem.W.codeIn K cd1 "_law_draw" = true)
    (k1 : PySem.W.keepIn K (.ref f1) = true)
    (a2 : PySem.W.nsIn K mainGlobals "_law_rows" = some (some (.ref f2)))
    (l2 : K.lookup f2 = some ⟨oc2, od2, .func (PySem.W.fnOf "_law_rows" "_law_rows" (defArgs s_law_rows) (defBody s_law_rows) (defScope s_law_rows) .none kV2 dc2 pm2 an2 cd2 ct2), sl2⟩)
    (c2 : PySem.W.codeIn K cd2 "_law_rows" = true)
    (k2 : PySem.W.keepIn K (.ref f2) = true)
    (a3 : PySem.W.nsIn K mainGlobals "_law_move" = some (some (.ref f3)))
    (l3 : K.lookup f3 = some ⟨oc3, od3, .func (PySem.W.fnOf "_law_move" "_law_move" (defArgs s_law_move) (defBody s_law_move) (defScope s_law_move) .none kV3 dc3 pm3 an3 cd3 ct3), sl3⟩)
    (c3 : PySem.W.codeIn K cd3 "_law_move" = true)
    (k3 : PySem.W.keepIn K (.ref f3) = true)
    (a4 : PySem.W.nsIn K mainGlobals "_law_moves" = some (some (.ref f4)))
    (l4 : K.lookup f4 = some ⟨oc4, od4, .func (PySem.W.fnOf "_law_moves" "_law_moves" (defArgs s_law_moves) (defBody s_law_moves) (defScope s_law_moves) .none kV4 dc4 pm4 an4 cd4 ct4), sl4⟩)
    (c4 : PySem.W.codeIn K cd4 "_law_moves" = true)
    (k4 : PySem.W.keepIn K (.ref f4) = true)
    (a5 : PySem.W.nsIn K mainGlobals "_law_machine" = some (some (.ref f5)))
    (l5 : K.lookup f5 = some ⟨oc5, od5, .func (PySem.W.fnOf "_law_machine" "_law_machine" (defArgs s_law_machine) (defBody s_law_machine) (defScope s_law_machine) .none kV5 dc5 pm5 an5 cd5 ct5), sl5⟩)
    (c5 : PySem.W.codeIn K cd5 "_law_machine" = true)
    (k5 : PySem.W.keepIn K (.ref f5) = true)
    (a6 : PySem.W.nsIn K mainGlobals "is_code" = some (some (.ref f6)))
    (l6 : K.lookup f6 = some ⟨oc6, od6, .func (PySem.W.fnOf "is_code" "is_code" (defArgs s_is_code) (defBody s_is_code) (defScope s_is_code) .none kV6 dc6 pm6 an6 cd6 ct6), sl6⟩)
    (c6 : PySem.W.codeIn K cd6 "is_code" = true)
    (k6 : PySem.W.keepIn K (.ref f6) = true)
    (a7 : PySem.W.nsIn K mainGlobals "is_letters" = some (some (.ref f7)))
    (l7 : K.lookup f7 = some ⟨oc7, od7, .func (PySem.W.fnOf "is_letters" "is_letters" (defArgs s_is_letters) (defBody s_is_letters) (defScope s_is_letters) .none kV7 dc7 pm7 an7 cd7 ct7), sl7⟩)
    (c7 : PySem.W.codeIn K cd7 "is_letters" = true)
    (k7 : PySem.W.keepIn K (.ref f7) = true)
    (a8 : PySem.W.nsIn K mainGlobals "is_rows" = some (some (.ref f8)))
    (l8 : K.lookup f8 = some ⟨oc8, od8, .func (PySem.W.fnOf "is_rows" "is_rows" (defArgs s_is_rows) (defBody s_is_rows) (defScope s_is_rows) .none kV8 dc8 pm8 an8 cd8 ct8), sl8⟩)
    (c8 : PySem.W.codeIn K cd8 "is_rows" = true)
    (k8 : PySem.W.keepIn K (.ref f8) = true)
    (a9 : PySem.W.nsIn K mainGlobals "is_integer" = some (some (.ref f9)))
    (l9 : K.lookup f9 = some ⟨oc9, od9, .func (PySem.W.fnOf "is_integer" "is_integer" (defArgs s_is_integer) (defBody s_is_integer) (defScope s_is_integer) .none kV9 dc9 pm9 an9 cd9 ct9), sl9⟩)
    (c9 : PySem.W.codeIn K cd9 "is_integer" = true)
    (k9 : PySem.W.keepIn K (.ref f9) = true)
    (a10 : PySem.W.nsIn K mainGlobals "is_between" = some (some (.ref f10)))
    (l10 : K.lookup f10 = some ⟨oc10, od10, .func (PySem.W.fnOf "is_between" "is_between" (defArgs s_is_between) (defBody s_is_between) (defScope s_is_between) .none kV10 dc10 pm10 an10 cd10 ct10), sl10⟩)
    (c10 : PySem.W.codeIn K cd10 "is_between" = true)
    (k10 : PySem.W.keepIn K (.ref f10) = true)
    (a11 : PySem.W.nsIn K mainGlobals "is_answers" = some (some (.ref f11)))
    (l11 : K.lookup f11 = some ⟨oc11, od11, .func (PySem.W.fnOf "is_answers" "is_answers" (defArgs s_is_answers) (defBody s_is_answers) (defScope s_is_answers) .none kV11 dc11 pm11 an11 cd11 ct11), sl11⟩)
    (c11 : PySem.W.codeIn K cd11 "is_answers" = true)
    (k11 : PySem.W.keepIn K (.ref f11) = true)
    (a12 : PySem.W.nsIn K mainGlobals "is_tuple" = some (some (.ref f12)))
    (l12 : K.lookup f12 = some ⟨oc12, od12, .func (PySem.W.fnOf "is_tuple" "is_tuple" (defArgs s_is_tuple) (defBody s_is_tuple) (defScope s_is_tuple) .none kV12 dc12 pm12 an12 cd12 ct12), sl12⟩)
    (c12 : PySem.W.codeIn K cd12 "is_tuple" = true)
    (k12 : PySem.W.keepIn K (.ref f12) = true)
    (a13 : PySem.W.nsIn K mainGlobals "_is_move" = some (some (.ref f13)))
    (l13 : K.lookup f13 = some ⟨oc13, od13, .func (PySem.W.fnOf "_is_move" "_is_move" (defArgs s_is_move) (defBody s_is_move) (defScope s_is_move) .none kV13 dc13 pm13 an13 cd13 ct13), sl13⟩)
    (c13 : PySem.W.codeIn K cd13 "_is_move" = true)
    (k13 : PySem.W.keepIn K (.ref f13) = true)
    (a14 : PySem.W.nsIn K mainGlobals "_are_pairs" = some (some (.ref f14)))
    (l14 : K.lookup f14 = some ⟨oc14, od14, .func (PySem.W.fnOf "_are_pairs" "_are_pairs" (defArgs s_are_pairs) (defBody s_are_pairs) (defScope s_are_pairs) .none kV14 dc14 pm14 an14 cd14 ct14), sl14⟩)
    (c14 : PySem.W.codeIn K cd14 "_are_pairs" = true)
    (k14 : PySem.W.keepIn K (.ref f14) = true)
    (a15 : PySem.W.nsIn K mainGlobals "_is_item" = some (some (.ref f15)))
    (l15 : K.lookup f15 = some ⟨oc15, od15, .func (PySem.W.fnOf "_is_item" "_is_item" (defArgs s_is_item) (defBody s_is_item) (defScope s_is_item) .none kV15 dc15 pm15 an15 cd15 ct15), sl15⟩)
    (c15 : PySem.W.codeIn K cd15 "_is_item" = true)
    (k15 : PySem.W.keepIn K (.ref f15) = true)
    (a16 : PySem.W.nsIn K mainGlobals "_are_moves" = some (some (.ref f16)))
    (l16 : K.lookup f16 = some ⟨oc16, od16, .func (PySem.W.fnOf "_are_moves" "_are_moves" (defArgs s_are_moves) (defBody s_are_moves) (defScope s_are_moves) .none kV16 dc16 pm16 an16 cd16 ct16), sl16⟩)
    (c16 : PySem.W.codeIn K cd16 "_are_moves" = true)
    (k16 : PySem.W.keepIn K (.ref f16) = true)
    (a17 : PySem.W.findIn K (.ref C_Machine) "__init__" = some (some (.ref f17)))
    (i17 : PySem.W.isFn K (.ref f17) = true)
    (l17 : K.lookup f17 = some ⟨oc17, od17, .func (PySem.W.fnOf "__init__" "Machine.__init__" (defArgs s_Machine_init) (defBody s_Machine_init) (defScope s_Machine_init) .none kV17 dc17 pm17 an17 cd17 ct17), sl17⟩)
    (c17 : PySem.W.codeIn K cd17 "Machine.__init__" = true)
    (k17 : PySem.W.keepIn K (.ref f17) = true)
    (a18 : PySem.W.nsIn K mainGlobals "_law_tail" = some (some (.ref f18)))
    (l18 : K.lookup f18 = some ⟨oc18, od18, .func (PySem.W.fnOf "_law_tail" "_law_tail" (defArgs s_law_tail) (defBody s_law_tail) (defScope s_law_tail) .none kV18 dc18 pm18 an18 cd18 ct18), sl18⟩)
    (c18 : PySem.W.codeIn K cd18 "_law_tail" = true)
    (k18 : PySem.W.keepIn K (.ref f18) = true)
    (a19 : PySem.W.nsIn K mainGlobals "_law_places" = some (some (.ref f19)))
    (l19 : K.lookup f19 = some ⟨oc19, od19, .func (PySem.W.fnOf "_law_places" "_law_places" (defArgs s_law_places) (defBody s_law_places) (defScope s_law_places) .none kV19 dc19 pm19 an19 cd19 ct19), sl19⟩)
    (c19 : PySem.W.codeIn K cd19 "_law_places" = true)
    (k19 : PySem.W.keepIn K (.ref f19) = true)
    (a20 : PySem.W.nsIn K mainGlobals "is_width" = some (some (.ref f20)))
    (l20 : K.lookup f20 = some ⟨oc20, od20, .func (PySem.W.fnOf "is_width" "is_width" (defArgs s_is_width) (defBody s_is_width) (defScope s_is_width) .none kV20 dc20 pm20 an20 cd20 ct20), sl20⟩)
    (c20 : PySem.W.codeIn K cd20 "is_width" = true)
    (k20 : PySem.W.keepIn K (.ref f20) = true)
    (a21 : PySem.W.nsIn K mainGlobals "check_width" = some (some (.ref f21)))
    (l21 : K.lookup f21 = some ⟨oc21, od21, .func (PySem.W.fnOf "check_width" "check_width" (defArgs s_check_width) (defBody s_check_width) (defScope s_check_width) .none kV21 dc21 pm21 an21 cd21 ct21), sl21⟩)
    (c21 : PySem.W.codeIn K cd21 "check_width" = true)
    (k21 : PySem.W.keepIn K (.ref f21) = true)
    (a22 : PySem.W.nsIn K mainGlobals "tail_behind" = some (some (.ref f22)))
    (l22 : K.lookup f22 = some ⟨oc22, od22, .func (PySem.W.fnOf "tail_behind" "tail_behind" (defArgs s_tail_behind) (defBody s_tail_behind) (defScope s_tail_behind) .none kV22 dc22 pm22 an22 cd22 ct22), sl22⟩)
    (c22 : PySem.W.codeIn K cd22 "tail_behind" = true)
    (k22 : PySem.W.keepIn K (.ref f22) = true)
    (a23 : PySem.W.nsIn K mainGlobals "steps_from" = some (some (.ref f23)))
    (l23 : K.lookup f23 = some ⟨oc23, od23, .func (PySem.W.fnOf "steps_from" "steps_from" (defArgs s_steps_from) (defBody s_steps_from) (defScope s_steps_from) .none kV23 dc23 pm23 an23 cd23 ct23), sl23⟩)
    (c23 : PySem.W.codeIn K cd23 "steps_from" = true)
    (k23 : PySem.W.keepIn K (.ref f23) = true)
    (a24 : PySem.W.nsIn K mainGlobals "_onward" = some (some (.ref f24)))
    (l24 : K.lookup f24 = some ⟨oc24, od24, .func (PySem.W.fnOf "_onward" "_onward" (defArgs s_onward) (defBody s_onward) (defScope s_onward) .none kV24 dc24 pm24 an24 cd24 ct24), sl24⟩)
    (c24 : PySem.W.codeIn K cd24 "_onward" = true)
    (k24 : PySem.W.keepIn K (.ref f24) = true)
    (a25 : PySem.W.nsIn K mainGlobals "earliest" = some (some (.ref f25)))
    (l25 : K.lookup f25 = some ⟨oc25, od25, .func (PySem.W.fnOf "earliest" "earliest" (defArgs s_earliest) (defBody s_earliest) (defScope s_earliest) .none kV25 dc25 pm25 an25 (.ref ctA25) ct25), sl25⟩)
    (c25 : PySem.W.codeIn K (.ref ctA25) "earliest" = true)
    (k25 : PySem.W.keepIn K (.ref f25) = true)
    (lt25 : K.lookup ctA25 = some ⟨tc25, td25, .fields tv25, ts25⟩)
    (rft25 : tv25[11]? = some (.ref PtA25))
    (kz25 : K.lookup PtA25 = none)
    (a26 : PySem.W.nsIn K mainGlobals "first_tail" = some (some (.ref f26)))
    (l26 : K.lookup f26 = some ⟨oc26, od26, .func (PySem.W.fnOf "first_tail" "first_tail" (defArgs s_first_tail) (defBody s_first_tail) (defScope s_first_tail) .none kV26 dc26 pm26 an26 cd26 ct26), sl26⟩)
    (c26 : PySem.W.codeIn K cd26 "first_tail" = true)
    (k26 : PySem.W.keepIn K (.ref f26) = true)
    (a27 : PySem.W.nsIn K mainGlobals "places_up_to" = some (some (.ref f27)))
    (l27 : K.lookup f27 = some ⟨oc27, od27, .func (PySem.W.fnOf "places_up_to" "places_up_to" (defArgs s_places_up_to) (defBody s_places_up_to) (defScope s_places_up_to) .none kV27 dc27 pm27 an27 (.ref ctA27) ct27), sl27⟩)
    (c27 : PySem.W.codeIn K (.ref ctA27) "places_up_to" = true)
    (k27 : PySem.W.keepIn K (.ref f27) = true)
    (lt27 : K.lookup ctA27 = some ⟨tc27, td27, .fields tv27, ts27⟩)
    (rft27 : tv27[11]? = some (.ref PtA27))
    (kz27 : K.lookup PtA27 = none)
    (a28 : PySem.W.nsIn K mainGlobals "places" = some (some (.ref f28)))
    (l28 : K.lookup f28 = some ⟨oc28, od28, .func (PySem.W.fnOf "places" "places" (defArgs s_places) (defBody s_places) (defScope s_places) .none kV28 dc28 pm28 an28 cd28 ct28), sl28⟩)
    (c28 : PySem.W.codeIn K cd28 "places" = true)
    (k28 : PySem.W.keepIn K (.ref f28) = true)
    (a29 : PySem.W.nsIn K mainGlobals "is_run" = some (some (.ref f29)))
    (l29 : K.lookup f29 = some ⟨oc29, od29, .func (PySem.W.fnOf "is_run" "is_run" (defArgs s_is_run) (defBody s_is_run) (defScope s_is_run) .none kV29 dc29 pm29 an29 cd29 ct29), sl29⟩)
    (c29 : PySem.W.codeIn K cd29 "is_run" = true)
    (k29 : PySem.W.keepIn K (.ref f29) = true)
    (a30 : PySem.W.nsIn K mainGlobals "check_run" = some (some (.ref f30)))
    (l30 : K.lookup f30 = some ⟨oc30, od30, .func (PySem.W.fnOf "check_run" "check_run" (defArgs s_check_run) (defBody s_check_run) (defScope s_check_run) .none kV30 dc30 pm30 an30 cd30 ct30), sl30⟩)
    (c30 : PySem.W.codeIn K cd30 "check_run" = true)
    (k30 : PySem.W.keepIn K (.ref f30) = true)
    (a31 : PySem.W.nsIn K mainGlobals "walked" = some (some (.ref f31)))
    (l31 : K.lookup f31 = some ⟨oc31, od31, .func (PySem.W.fnOf "walked" "walked" (defArgs s_walked) (defBody s_walked) (defScope s_walked) .none kV31 dc31 pm31 an31 cd31 ct31), sl31⟩)
    (c31 : PySem.W.codeIn K cd31 "walked" = true)
    (k31 : PySem.W.keepIn K (.ref f31) = true)
    (a32 : PySem.W.nsIn K mainGlobals "standing" = some (some (.ref f32)))
    (l32 : K.lookup f32 = some ⟨oc32, od32, .func (PySem.W.fnOf "standing" "standing" (defArgs s_standing) (defBody s_standing) (defScope s_standing) .none kV32 dc32 pm32 an32 cd32 ct32), sl32⟩)
    (c32 : PySem.W.codeIn K cd32 "standing" = true)
    (k32 : PySem.W.keepIn K (.ref f32) = true)
    (a33 : PySem.W.nsIn K mainGlobals "_law_run" = some (some (.ref f33)))
    (l33 : K.lookup f33 = some ⟨oc33, od33, .func (PySem.W.fnOf "_law_run" "_law_run" (defArgs s_law_run) (defBody s_law_run) (defScope s_law_run) .none kV33 dc33 pm33 an33 cd33 ct33), sl33⟩)
    (c33 : PySem.W.codeIn K cd33 "_law_run" = true)
    (k33 : PySem.W.keepIn K (.ref f33) = true)
    (a34 : PySem.W.nsIn K mainGlobals "law" = some (some (.ref f34)))
    (l34 : K.lookup f34 = some ⟨oc34, od34, .func (PySem.W.fnOf "law" "law" (defArgs s_law) (defBody s_law) (defScope s_law) .none kV34 dc34 pm34 an34 cd34 ct34), sl34⟩)
    (c34 : PySem.W.codeIn K cd34 "law" = true)
    (k34 : PySem.W.keepIn K (.ref f34) = true)
    (rvt_25_27 : (PtA25 == PtA27) = false)
    (rvt_27_25 : (PtA27 == PtA25) = false)
    (z_abs : PySem.W.nsIn K mainGlobals "abs" = some none)
    (z_all : PySem.W.nsIn K mainGlobals "all" = some none)
    (z_any : PySem.W.nsIn K mainGlobals "any" = some none)
    (z_bool : PySem.W.nsIn K mainGlobals "bool" = some none)
    (z_enumerate : PySem.W.nsIn K mainGlobals "enumerate" = some none)
    (z_int : PySem.W.nsIn K mainGlobals "int" = some none)
    (z_isinstance : PySem.W.nsIn K mainGlobals "isinstance" = some none)
    (z_len : PySem.W.nsIn K mainGlobals "len" = some none)
    (z_list : PySem.W.nsIn K mainGlobals "list" = some none)
    (z_max : PySem.W.nsIn K mainGlobals "max" = some none)
    (z_range : PySem.W.nsIn K mainGlobals "range" = some none)
    (z_sorted : PySem.W.nsIn K mainGlobals "sorted" = some none)
    (z_str : PySem.W.nsIn K mainGlobals "str" = some none)
    (z_tuple : PySem.W.nsIn K mainGlobals "tuple" = some none)
    (z_zip : PySem.W.nsIn K mainGlobals "zip" = some none)
    (v_LETTERS : PySem.W.nsIn K mainGlobals "LETTERS" = some (some (.str "abcdefghijklmnopqrstuvwxyz" tc_LETTERS)))
    (v_MOST_PLACES : PySem.W.nsIn K mainGlobals "MOST_PLACES" = some (some (.int 300 tc_MOST_PLACES))) :
    (∀ p ∈ lamNms, ∀ c P, PySem.W.tabIn K p.1 = some (c, P) → K.lookup P = none) ∧ ∃ fd : FuncData, (∀ (s : Shared) (v : Value), BindsTo s fd ⟨[v], []⟩ [("script", v)]) ∧ ∀ base : Heap, K.In base → base.Ns mainGlobals mg → (∀ p ∈ lamNms, ∀ c P, PySem.W.tabIn K p.1 = some (c, P) → LamX.TabB base mg c P) → FnOk l.prog w K mg base (L2.CX l.prog w) 9 fa fd ["script"] (spLaw K) := by
  have e := hfa.symm.trans (PySem.W.mg_of X G a34)
  cases e
  have F0 := fun_mk (st := s_law_hand) l0 c0 k0
  have b0 := F0.binds (ps := ["script"]) fun _ _ _ _ _ _ us hl => match us, hl with | [_], _ => rfl
  have F1 := fun_mk (st := s_law_draw) l1 c1 k1
  have b1 := F1.binds (ps := ["hand", "many"]) fun _ _ _ _ _ _ us hl => match us, hl with | [_, _], _ => rfl
  have F2 := fun_mk (st := s_law_rows) l2 c2 k2
  have b2 := F2.binds (ps := ["hand", "many"]) fun _ _ _ _ _ _ us hl => match us, hl with | [_, _], _ => rfl
  have F3 := fun_mk (st := s_law_move) l3 c3 k3
  have b3 := F3.binds (ps := ["hand", "kind", "size", "most", "place"]) fun _ _ _ _ _ _ us hl => match us, hl with | [_, _, _, _, _], _ => rfl
  have F4 := fun_mk (st := s_law_moves) l4 c4 k4
  have b4 := F4.binds (ps := ["hand", "size", "many", "answers"]) fun _ _ _ _ _ _ us hl => match us, hl with | [_, _, _, _], _ => rfl
  have F5 := fun_mk (st := s_law_machine) l5 c5 k5
  have b5 := F5.binds (ps := ["hand"]) fun _ _ _ _ _ _ us hl => match us, hl with | [_], _ => rfl
  have F6 := fun_mk (st := s_is_code) l6 c6 k6
  have b6 := F6.binds (ps := ["thing", "rows"]) fun _ _ _ _ _ _ us hl => match us, hl with | [_, _], _ => rfl
  have F7 := fun_mk (st := s_is_letters) l7 c7 k7
  have b7 := F7.binds (ps := ["thing", "letters"]) fun _ _ _ _ _ _ us hl => match us, hl with | [_, _], _ => rfl
  have F8 := fun_mk (st := s_is_rows) l8 c8 k8
  have b8 := F8.binds (ps := ["thing"]) fun _ _ _ _ _ _ us hl => match us, hl with | [_], _ => rfl
  have F9 := fun_mk (st := s_is_integer) l9 c9 k9
  have b9 := F9.binds (ps := ["thing"]) fun _ _ _ _ _ _ us hl => match us, hl with | [_], _ => rfl
  have F10 := fun_mk (st := s_is_between) l10 c10 k10
  have b10 := F10.binds (ps := ["thing", "least", "most"]) fun _ _ _ _ _ _ us hl => match us, hl with | [_, _, _], _ => rfl
  have F11 := fun_mk (st := s_is_answers) l11 c11 k11
  have b11 := F11.binds (ps := ["thing"]) fun _ _ _ _ _ _ us hl => match us, hl with | [_], _ => rfl
  have F12 := fun_mk (st := s_is_tuple) l12 c12 k12
  have b12 := F12.binds (ps := ["thing", "many"]) fun _ _ _ _ _ _ us hl => match us, hl with | [_, _], _ => rfl
  have F13 := fun_mk (st := s_is_move) l13 c13 k13
  have b13 := F13.binds (ps := ["pair", "size"]) fun _ _ _ _ _ _ us hl => match us, hl with | [_, _], _ => rfl
  have F14 := fun_mk (st := s_are_pairs) l14 c14 k14
  have b14 := F14.binds (ps := ["pairs", "answers", "size"]) fun _ _ _ _ _ _ us hl => match us, hl with | [_, _, _], _ => rfl
  have F15 := fun_mk (st := s_is_item) l15 c15 k15
  have b15 := F15.binds (ps := ["item", "rows", "answers", "size"]) fun _ _ _ _ _ _ us hl => match us, hl with | [_, _, _, _], _ => rfl
  have F16 := fun_mk (st := s_are_moves) l16 c16 k16
  have b16 := F16.binds (ps := ["moves", "rows", "answers"]) fun _ _ _ _ _ _ us hl => match us, hl with | [_, _, _], _ => rfl
  have F17 := fun_mk (st := s_Machine_init) l17 c17 k17
  have b17 := F17.binds (ps := ["self", "rows", "answers", "moves"]) fun _ _ _ _ _ _ us hl => match us, hl with | [_, _, _, _], _ => rfl
  have F18 := fun_mk (st := s_law_tail) l18 c18 k18
  have b18 := F18.binds (ps := ["code", "width"]) fun _ _ _ _ _ _ us hl => match us, hl with | [_, _], _ => rfl
  have F19 := fun_mk (st := s_law_places) l19 c19 k19
  have b19 := F19.binds (ps := ["machine", "width", "limit"]) fun _ _ _ _ _ _ us hl => match us, hl with | [_, _, _], _ => rfl
  have F20 := fun_mk (st := s_is_width) l20 c20 k20
  have b20 := F20.binds (ps := ["thing"]) fun _ _ _ _ _ _ us hl => match us, hl with | [_], _ => rfl
  have F21 := fun_mk (st := s_check_width) l21 c21 k21
  have b21 := F21.binds (ps := ["thing"]) fun _ _ _ _ _ _ us hl => match us, hl with | [_], _ => rfl
  have F22 := fun_mk (st := s_tail_behind) l22 c22 k22
  have b22 := F22.binds (ps := ["stretch", "width"]) fun _ _ _ _ _ _ us hl => match us, hl with | [_, _], _ => rfl
  have F23 := fun_mk (st := s_steps_from) l23 c23 k23
  have b23 := F23.binds (ps := ["machine", "width", "place"]) fun _ _ _ _ _ _ us hl => match us, hl with | [_, _, _], _ => rfl
  have F24 := fun_mk (st := s_onward) l24 c24 k24
  have b24 := F24.binds (ps := ["machine", "width", "place"]) fun _ _ _ _ _ _ us hl => match us, hl with | [_, _, _], _ => rfl
  have F25 := fun_mk (st := s_earliest) l25 c25 k25
  have b25 := F25.binds (ps := ["start", "steps"]) fun _ _ _ _ _ _ us hl => match us, hl with | [_, _], _ => rfl
  have F26 := fun_mk (st := s_first_tail) l26 c26 k26
  have b26 := F26.binds (ps := ["width"]) fun _ _ _ _ _ _ us hl => match us, hl with | [_], _ => rfl
  have F27 := fun_mk (st := s_places_up_to) l27 c27 k27
  have b27 := F27.binds (ps := ["machine", "width", "most"]) fun _ _ _ _ _ _ us hl => match us, hl with | [_, _, _], _ => rfl
  have F28 := fun_mk (st := s_places) l28 c28 k28
  have b28 := F28.binds (ps := ["machine", "width"]) fun _ _ _ _ _ _ us hl => match us, hl with | [_, _], _ => rfl
  have F29 := fun_mk (st := s_is_run) l29 c29 k29
  have b29 := F29.binds (ps := ["thing", "rows", "answers"]) fun _ _ _ _ _ _ us hl => match us, hl with | [_, _, _], _ => rfl
  have F30 := fun_mk (st := s_check_run) l30 c30 k30
  have b30 := F30.binds (ps := ["machine", "run"]) fun _ _ _ _ _ _ us hl => match us, hl with | [_, _], _ => rfl
  have F31 := fun_mk (st := s_walked) l31 c31 k31
  have b31 := F31.binds (ps := ["machine", "start", "run"]) fun _ _ _ _ _ _ us hl => match us, hl with | [_, _, _], _ => rfl
  have F32 := fun_mk (st := s_standing) l32 c32 k32
  have b32 := F32.binds (ps := ["machine", "run"]) fun _ _ _ _ _ _ us hl => match us, hl with | [_, _], _ => rfl
  have F33 := fun_mk (st := s_law_run) l33 c33 k33
  have b33 := F33.binds (ps := ["hand", "machine", "many"]) fun _ _ _ _ _ _ us hl => match us, hl with | [_, _, _], _ => rfl
  have F34 := fun_mk (st := s_law) l34 c34 k34
  have b34 := F34.binds (ps := ["script"]) fun _ _ _ _ _ _ us hl => match us, hl with | [_], _ => rfl
  have gC_Machine : mg "Machine" = some (.ref C_Machine) := PySem.W.mg_of X G aC_Machine
  have cl_Machine : Cls K C_Machine := ⟨pg_Machine, hd_Machine, po_Machine, sa_Machine⟩
  have tt25 := tab_mk (x := "earliest") a25 l25 lt25 rft25
  have FL25 := funL_mk (st := s_earliest) l25 c25 rfl
  have tt27 := tab_mk (x := "places_up_to") a27 l27 lt27 rft27
  have FL27 := funL_mk (st := s_places_up_to) l27 c27 rfl
  have tu25 : ∀ p ∈ NMs.T K, p.1 = PtA25 → p.2 = "earliest.<locals>.<lambda>" := by rw [hT]; exact tu_of (nm := lamNms) (by
    intro y hy c e
    simp only [lamNms, List.mem_cons, List.not_mem_nil, or_false] at hy
    rcases hy with rfl | rfl
    · have e := tt27.symm.trans e; have e2 := congrArg Prod.snd (Option.some.inj e); simp only [] at e2; rw [e2] at rvt_27_25; simp at rvt_27_25
    · rfl
    )
  have tu27 : ∀ p ∈ NMs.T K, p.1 = PtA27 → p.2 = "places_up_to.<locals>.<lambda>" := by rw [hT]; exact tu_of (nm := lamNms) (by
    intro y hy c e
    simp only [lamNms, List.mem_cons, List.not_mem_nil, or_false] at hy
    rcases hy with rfl | rfl
    · rfl
    · have e := tt25.symm.trans e; have e2 := congrArg Prod.snd (Option.some.inj e); simp only [] at e2; rw [e2] at rvt_25_27; simp at rvt_25_27
    )
  refine ⟨?_, PySem.W.fnOf "law" "law" (defArgs s_law) (defBody s_law) (defScope s_law) .none kV34 dc34 pm34 an34 cd34 ct34, fun s v => .of_eq rfl, fun base _ _ tb => ?_⟩
  · intro p hp c P e
    simp only [lamNms, List.mem_cons, List.not_mem_nil, or_false] at hp
    rcases hp with rfl | rfl
    · have e := tt27.symm.trans e; have e2 := congrArg Prod.snd (Option.some.inj e); simp only [] at e2; rw [← e2]; exact kz27
    · have e := tt25.symm.trans e; have e2 := congrArg Prod.snd (Option.some.inj e); simp only [] at e2; rw [← e2]; exact kz25
  let T : Txt K mg base w :=
    { hw := hw
      a_law_hand := _
      fd_law_hand := _
      F_law_hand := F0
      b_law_hand := b0
      k_law_hand := k0
      g_law_hand := PySem.W.mg_of X G a0
      a_law_draw := _
      fd_law_draw := _
      F_law_draw := F1
      b_law_draw := b1
      k_law_draw := k1
      g_law_draw := PySem.W.mg_of X G a1
      a_law_rows := _
      fd_law_rows := _
      F_law_rows := F2
      b_law_rows := b2
      k_law_rows := k2
      g_law_rows := PySem.W.mg_of X G a2
      a_law_move := _
      fd_law_move := _
      F_law_move := F3
      b_law_move := b3
      k_law_move := k3
      g_law_move := PySem.W.mg_of X G a3
      a_law_moves := _
      fd_law_moves := _
      F_law_moves := F4
      b_law_moves := b4
      k_law_moves := k4
      g_law_moves := PySem.W.mg_of X G a4
      a_law_machine := _
      fd_law_machine := _
      F_law_machine := F5
      b_law_machine := b5
      k_law_machine := k5
      g_law_machine := PySem.W.mg_of X G a5
      a_is_code := _
      fd_is_code := _
      F_is_code := F6
      b_is_code := b6
      k_is_code := k6
      g_is_code := PySem.W.mg_of X G a6
      a_is_letters := _
      fd_is_letters := _
      F_is_letters := F7
      b_is_letters := b7
      k_is_letters := k7
      g_is_letters := PySem.W.mg_of X G a7
      a_is_rows := _
      fd_is_rows := _
      F_is_rows := F8
      b_is_rows := b8
      k_is_rows := k8
      g_is_rows := PySem.W.mg_of X G a8
      a_is_integer := _
      fd_is_integer := _
      F_is_integer := F9
      b_is_integer := b9
      k_is_integer := k9
      g_is_integer := PySem.W.mg_of X G a9
      a_is_between := _
      fd_is_between := _
      F_is_between := F10
      b_is_between := b10
      k_is_between := k10
      g_is_between := PySem.W.mg_of X G a10
      a_is_answers := _
      fd_is_answers := _
      F_is_answers := F11
      b_is_answers := b11
      k_is_answers := k11
      g_is_answers := PySem.W.mg_of X G a11
      a_is_tuple := _
      fd_is_tuple := _
      F_is_tuple := F12
      b_is_tuple := b12
      k_is_tuple := k12
      g_is_tuple := PySem.W.mg_of X G a12
      a_is_move := _
      fd_is_move := _
      F_is_move := F13
      b_is_move := b13
      k_is_move := k13
      g_is_move := PySem.W.mg_of X G a13
      a_are_pairs := _
      fd_are_pairs := _
      F_are_pairs := F14
      b_are_pairs := b14
      k_are_pairs := k14
      g_are_pairs := PySem.W.mg_of X G a14
      a_is_item := _
      fd_is_item := _
      F_is_item := F15
      b_is_item := b15
      k_is_item := k15
      g_is_item := PySem.W.mg_of X G a15
      a_are_moves := _
      fd_are_moves := _
      F_are_moves := F16
      b_are_moves := b16
      k_are_moves := k16
      g_are_moves := PySem.W.mg_of X G a16
      a_Machine_init := _
      fd_Machine_init := _
      F_Machine_init := F17
      b_Machine_init := b17
      k_Machine_init := k17
      a_law_tail := _
      fd_law_tail := _
      F_law_tail := F18
      b_law_tail := b18
      k_law_tail := k18
      g_law_tail := PySem.W.mg_of X G a18
      a_law_places := _
      fd_law_places := _
      F_law_places := F19
      b_law_places := b19
      k_law_places := k19
      g_law_places := PySem.W.mg_of X G a19
      a_is_width := _
      fd_is_width := _
      F_is_width := F20
      b_is_width := b20
      k_is_width := k20
      g_is_width := PySem.W.mg_of X G a20
      a_check_width := _
      fd_check_width := _
      F_check_width := F21
      b_check_width := b21
      k_check_width := k21
      g_check_width := PySem.W.mg_of X G a21
      a_tail_behind := _
      fd_tail_behind := _
      F_tail_behind := F22
      b_tail_behind := b22
      k_tail_behind := k22
      g_tail_behind := PySem.W.mg_of X G a22
      a_steps_from := _
      fd_steps_from := _
      F_steps_from := F23
      b_steps_from := b23
      k_steps_from := k23
      g_steps_from := PySem.W.mg_of X G a23
      a_onward := _
      fd_onward := _
      F_onward := F24
      b_onward := b24
      k_onward := k24
      g_onward := PySem.W.mg_of X G a24
      a_earliest := _
      fd_earliest := _
      F_earliest := FL25
      b_earliest := b25
      k_earliest := k25
      ct_earliest := ctA25
      Pt_earliest := PtA25
      TB_earliest := tb ("earliest", "earliest.<locals>.<lambda>") (by simp [lamNms]) _ _ tt25
      tm_earliest := by rw [hT]; exact mem_tabsOf (nm := lamNms) (x := ("earliest", "earliest.<locals>.<lambda>")) (by simp [lamNms]) tt25
      tu_earliest := tu25
      g_earliest := PySem.W.mg_of X G a25
      a_first_tail := _
      fd_first_tail := _
      F_first_tail := F26
      b_first_tail := b26
      k_first_tail := k26
      g_first_tail := PySem.W.mg_of X G a26
      a_places_up_to := _
      fd_places_up_to := _
      F_places_up_to := FL27
      b_places_up_to := b27
      k_places_up_to := k27
      ct_places_up_to := ctA27
      Pt_places_up_to := PtA27
      TB_places_up_to := tb ("places_up_to", "places_up_to.<locals>.<lambda>") (by simp [lamNms]) _ _ tt27
      tm_places_up_to := by rw [hT]; exact mem_tabsOf (nm := lamNms) (x := ("places_up_to", "places_up_to.<locals>.<lambda>")) (by simp [lamNms]) tt27
      tu_places_up_to := tu27
      g_places_up_to := PySem.W.mg_of X G a27
      a_places := _
      fd_places := _
      F_places := F28
      b_places := b28
      k_places := k28
      g_places := PySem.W.mg_of X G a28
      a_is_run := _
      fd_is_run := _
      F_is_run := F29
      b_is_run := b29
      k_is_run := k29
      g_is_run := PySem.W.mg_of X G a29
      a_check_run := _
      fd_check_run := _
      F_check_run := F30
      b_check_run := b30
      k_check_run := k30
      g_check_run := PySem.W.mg_of X G a30
      a_walked := _
      fd_walked := _
      F_walked := F31
      b_walked := b31
      k_walked := k31
      g_walked := PySem.W.mg_of X G a31
      a_standing := _
      fd_standing := _
      F_standing := F32
      b_standing := b32
      k_standing := k32
      g_standing := PySem.W.mg_of X G a32
      a_law_run := _
      fd_law_run := _
      F_law_run := F33
      b_law_run := b33
      k_law_run := k33
      g_law_run := PySem.W.mg_of X G a33
      a_law := _
      fd_law := _
      F_law := F34
      b_law := b34
      k_law := k34
      g_law := PySem.W.mg_of X G a34
      c_Machine := C_Machine
      C_Machine := gC_Machine
      mk_Machine := ⟨mk_Machine, a17, i17, kc_Machine⟩
      f_answers := by
        intro c hc C hC
        simp only [fldC_answers, List.mem_cons, List.not_mem_nil, or_false] at hc
        subst hc
        rw [gC_Machine] at hC
        cases hC
        exact ⟨cl_Machine, nf_Machine_answers⟩
      f_moves := by
        intro c hc C hC
        simp only [fldC_moves, List.mem_cons, List.not_mem_nil, or_false] at hc
        subst hc
        rw [gC_Machine] at hC
        cases hC
        exact ⟨cl_Machine, nf_Machine_moves⟩
      f_rows := by
        intro c hc C hC
        simp only [fldC_rows, List.mem_cons, List.not_mem_nil, or_false] at hc
        subst hc
        rw [gC_Machine] at hC
        cases hC
        exact ⟨cl_Machine, nf_Machine_rows⟩
      f_size := by
        intro c hc C hC
        simp only [fldC_size, List.mem_cons, List.not_mem_nil, or_false] at hc
        subst hc
        rw [gC_Machine] at hC
        cases hC
        exact ⟨cl_Machine, nf_Machine_size⟩
      n_abs := PySem.W.mg_none_of X G z_abs
      n_all := PySem.W.mg_none_of X G z_all
      n_any := PySem.W.mg_none_of X G z_any
      n_bool := PySem.W.mg_none_of X G z_bool
      n_enumerate := PySem.W.mg_none_of X G z_enumerate
      n_int := PySem.W.mg_none_of X G z_int
      n_isinstance := PySem.W.mg_none_of X G z_isinstance
      n_len := PySem.W.mg_none_of X G z_len
      n_list := PySem.W.mg_none_of X G z_list
      n_max := PySem.W.mg_none_of X G z_max
      n_range := PySem.W.mg_none_of X G z_range
      n_sorted := PySem.W.mg_none_of X G z_sorted
      n_str := PySem.W.mg_none_of X G z_str
      n_tuple := PySem.W.mg_none_of X G z_tuple
      n_zip := PySem.W.mg_none_of X G z_zip
      c_LETTERS := ⟨_, PySem.W.mg_of X G v_LETTERS⟩
      c_MOST_PLACES := ⟨_, PySem.W.mg_of X G v_MOST_PLACES⟩ }
  have q := G_law (P := l.prog) (w := w) (base := base) T
  exact q.imp fun vs H Q E h => law_imp law_ok h
end DD
open PySem PySem.W PyProof.Rows in
set_option maxRecDepth 100000 in
set_option maxHeartbeats 0 in
theorem PySem.Challenge.cw_stretchprices_k18_whole_places_by_own_ru_holds : PySem.Challenge.rw_stretchprices_k18_whole_places_by_own_ru.Holds := by
  w_on; o_law; k_head; (case hw => w_witness2)
  k_fill
  refine DD.walk_ofDTw (l := PySem.Challenge.rw_stretchprices_k18_whole_places_by_own_ru) (k := 9) DD.nmsI DD.lamNms (fun _ _ => rfl) rfl rfl ⟨rfl, by decide, by decide⟩ (by decide +kernel) (fun w h Y => PySem.W.km_in_of Y) ?F
  case F =>
    intro w mg fa h KX G hmg
    letI := DD.nmsI w
    refine' DD.all_mk KX G hmg (fun _ => rfl) rfl ?aC_Machine ?pg_Machine ?hd_Machine ?po_Machine ?sa_Machine ?mk_Machine ?kc_Machine ?nf_Machine_answers ?nf_Machine_moves ?nf_Machine_rows ?nf_Machine_size ?a0 ?l0 ?c0 ?k0 ?a1 ?l1 ?c1 ?k1 ?a2 ?l2 ?c2 ?k2 ?a3 ?l3 ?c3 ?k3 ?a4 ?l4 ?c4 ?k4 ?a5 ?l5 ?c5 ?k5 ?a6 ?l6 ?c6 ?k6 ?a7 ?l7 ?c7 ?k7 ?a8 ?l8 ?c8 ?k8 ?a9 ?l9 ?c9 ?k9 ?a10 ?l10 ?c10 ?k10 ?a11 ?l11 ?c11 ?k11 ?a12 ?l12 ?c12 ?k12 ?a13 ?l13 ?c13 ?k13 ?a14 ?l14 ?c14 ?k14 ?a15 ?l15 ?c15 ?k15 ?a16 ?l16 ?c16 ?k16 ?a17 ?i17 ?l17 ?c17 ?k17 ?a18 ?l18 ?c18 ?k18 ?a19 ?l19 ?c19 ?k19 ?a20 ?l20 ?c20 ?k20 ?a21 ?l21 ?c21 ?k21 ?a22 ?l22 ?c22 ?k22 ?a23 ?l23 ?c23 ?k23 ?a24 ?l24 ?c24 ?k24 ?a25 ?l25 ?c25 ?k25 ?lt25 ?rft25 ?kz25 ?a26 ?l26 ?c26 ?k26 ?a27 ?l27 ?c27 ?k27 ?lt27 ?rft27 ?kz27 ?a28 ?l28 ?c28 ?k28 ?a29 ?l29 ?c29 ?k29 ?a30 ?l30 ?c30 ?k30 ?a31 ?l31 ?c31 ?k31 ?a32 ?l32 ?c32 ?k32 ?a33 ?l33 ?c33 ?k33 ?a34 ?l34 ?c34 ?k34 ?rvt_25_27 ?rvt_27_25 ?z_abs ?z_all ?z_any ?z_bool ?z_enumerate ?z_int ?z_isinstance ?z_len ?z_list ?z_max ?z_range ?z_sorted ?z_str ?z_tuple ?z_zip ?v_LETTERS ?v_MOST_PLACES
    (case aC_Machine => k_is)
    (case pg_Machine => k_is)
    (case hd_Machine => k_is)
    (case po_Machine => k_is)
    (case sa_Machine => k_is)
    (case mk_Machine => k_is)
    (case kc_Machine => k_is)
    (case nf_Machine_answers => k_is)
    (case nf_Machine_moves => k_is)
    (case nf_Machine_rows => k_is)
    (case nf_Machine_size => k_is)
    (case a0 => k_is)
    (case l0 => k_is)
    (case c0 => k_is)
    (case k0 => k_is)
    (case a1 => k_is)
    (case l1 => k_is)
    (case c1 => k_is)
    (case k1 => k_is)
    (case a2 => k_is)
    (case l2 => k_is)
    (case c2 => k_is)
    (case k2 => k_is)
    (case a3 => k_is)
    (case l3 => k_is)
    (case c3 => k_is)
    (case k3 => k_is)
    (case a4 => k_is)
    (case l4 => k_is)
    (case c4 => k_is)
    (case k4 => k_is)
    (case a5 => k_is)
    (case l5 => k_is)
    (case c5 => k_is)
    (case k5 => k_is)
    (case a6 => k_is)
    (case l6 => k_is)
    (case c6 => k_is)
    (case k6 => k_is)
    (case a7 => k_is)
    (case l7 => k_is)
    (case c7 => k_is)
    (case k7 => k_is)
    (case a8 => k_is)
    (case l8 => k_is)
    (case c8 => k_is)
    (case k8 => k_is)
    (case a9 => k_is)
    (case l9 => k_is)
    (case c9 => k_is)
    (case k9 => k_is)
    (case a10 => k_is)
    (case l10 => k_is)
    (case c10 => k_is)
    (case k10 => k_is)
    (case a11 => k_is)
    (case l11 => k_is)
    (case c11 => k_is)
    (case k11 => k_is)
    (case a12 => k_is)
    (case l12 => k_is)
    (case c12 => k_is)
    (case k12 => k_is)
    (case a13 => k_is)
    (case l13 => k_is)
    (case c13 => k_is)
    (case k13 => k_is)
    (case a14 => k_is)
    (case l14 => k_is)
    (case c14 => k_is)
    (case k14 => k_is)
    (case a15 => k_is)
    (case l15 => k_is)
    (case c15 => k_is)
    (case k15 => k_is)
    (case a16 => k_is)
    (case l16 => k_is)
    (case c16 => k_is)
    (case k16 => k_is)
    (case a17 => k_is)
    (case i17 => k_is)
    (case l17 => k_is)
    (case c17 => k_is)
    (case k17 => k_is)
    (case a18 => k_is)
    (case l18 => k_is)
    (case c18 => k_is)
    (case k18 => k_is)
    (case a19 => k_is)
    (case l19 => k_is)
    (case c19 => k_is)
    (case k19 => k_is)
    (case a20 => k_is)
    (case l20 => k_is)
    (case c20 => k_is)
    (case k20 => k_is)
    (case a21 => k_is)
    (case l21 => k_is)
    (case c21 => k_is)
    (case k21 => k_is)
    (case a22 => k_is)
    (case l22 => k_is)
    (case c22 => k_is)
    (case k22 => k_is)
    (case a23 => k_is)
    (case l23 => k_is)
    (case c23 => k_is)
    (case k23 => k_is)
    (case a24 => k_is)
    (case l24 => k_is)
    (case c24 => k_is)
    (case k24 => k_is)
    (case a25 => k_is)
    (case l25 => k_is)
    (case c25 => k_is)
    (case k25 => k_is)
    (case lt25 => k_is)
    (case rft25 => exact rfl)
    (case kz25 => kernel_rfl!)
    (case a26 => k_is)
    (case l26 => k_is)
    (case c26 => k_is)
    (case k26 => k_is)
    (case a27 => k_is)
    (case l27 => k_is)
    (case c27 => k_is)
    (case k27 => k_is)
    (case lt27 => k_is)
    (case rft27 => exact rfl)
    (case kz27 => kernel_rfl!)
    (case a28 => k_is)
    (case l28 => k_is)
    (case c28 => k_is)
    (case k28 => k_is)
    (case a29 => k_is)
    (case l29 => k_is)
    (case c29 => k_is)
    (case k29 => k_is)
    (case a30 => k_is)
    (case l30 => k_is)
    (case c30 => k_is)
    (case k30 => k_is)
    (case a31 => k_is)
    (case l31 => k_is)
    (case c31 => k_is)
    (case k31 => k_is)
    (case a32 => k_is)
    (case l32 => k_is)
    (case c32 => k_is)
    (case k32 => k_is)
    (case a33 => k_is)
    (case l33 => k_is)
    (case c33 => k_is)
    (case k33 => k_is)
    (case a34 => k_is)
    (case l34 => k_is)
    (case c34 => k_is)
    (case k34 => k_is)
    (case rvt_25_27 => decide +kernel)
    (case rvt_27_25 => decide +kernel)
    (case z_abs => k_is)
    (case z_all => k_is)
    (case z_any => k_is)
    (case z_bool => k_is)
    (case z_enumerate => k_is)
    (case z_int => k_is)
    (case z_isinstance => k_is)
    (case z_len => k_is)
    (case z_list => k_is)
    (case z_max => k_is)
    (case z_range => k_is)
    (case z_sorted => k_is)
    (case z_str => k_is)
    (case z_tuple => k_is)
    (case z_zip => k_is)
    (case v_LETTERS => k_is)
    (case v_MOST_PLACES => k_is)
